import PyProof.Rows.All
import Wide.All
import OpenK.AllK
import Wide.FinOn
import HandS.ForMost
import HandS.Wide
import HandS.TupLe
import HandS.IsInst
import PyProof.EqAt
import PyProof.EqKinds
import PyProof.TupleCall
import KE.KExcSuper
import HandS.Exc
import HandS.ExcOwn
import HandS.TryOnly
import HandS.WordsExc
import HandS.Lambda
import HandS.ExcValue
import KE.KExcIs
import HandS.ExcIs
import HandS.ExcField
import KE.SortKeyHeap
import HandS.TupSets
import KE.DataMinMax
import KE.GoesMore
import HandS.Iter
import HandS.OwnEq
import HandS.Property
import HandS.More
import HandS.MakeKwOnly
import OpenK.KMeth
import PyProof.P3Eq
import PyProof.ReprRoads
import HandS.Flow
import KE.KOpsOwn
import HandS.EndTab
import HandS.Defaults
import HandS.TupMul
import HandS.TupAny
import HandS.Codes
import HandS.Walk
import HandS.RaiseMore
import HandS.Style
import PySem.Challenge.RW_kitwright_k05_range_texts_refused
set_option Elab.async false
set_option linter.all false
set_option maxRecDepth 100000
set_option maxHeartbeats 4000000
namespace Kw
open PySem PySem.Spec PyProof.Rows L2
/-! ### the text by places -/
def top (i : Nat) : Stmt := PySem.Challenge.pw_kitwright_k05_range_texts_refused.main.body.getD i (.Pass ⟨0, 0, 0, 0⟩)
abbrev sBegun : Stmt := top 45
abbrev sStirred : Stmt := top 46
abbrev sDraw : Stmt := top 47
abbrev sPick : Stmt := top 48
/-! ### a def of the text that keeps a promise, found by its name -/
structure Def (P : Program) (w : World) (K : PySem.W.Frag) (mg : Str → Option Value) (base : Heap) (x : Str) (CX : CXT) (k : Nat) (ps : List Str) (sp : Sp) : Prop where
  ex : ∃ f fd, FnOk P w K mg base CX k f fd ps sp ∧ mg x = some (.ref f) ∧ PySem.W.keepIn K (.ref f) = true ∧ Binds K fd ps []
section
variable {X : Cx}
theorem pe_d {x : Str} {k : Nat} {ps : List Str} {sp : Sp} {p pos : Pos} {e : Expr} {es : List Expr} {t : TA} (D : Def X.prog X.w X.K X.mg X.base x CX0 k ps sp) (hr : Room k X.A) (ha : PA X (e :: es) t) (hg : Gl X x := by rfl)
    (hdb : (x == ("__debug__" : Str)) = false := by decide) (he : starEach (e :: es) X.env = (false, eval e X.env) :: starEach es X.env := by rfl) (hpl : (backTo pos (starEach es X.env)).any (·.1) = false := by rfl) :
    PE X (.Call (.Name x p) (e :: es) [] pos) (tCall sp [] E0 t) := by
  obtain ⟨f, fd, F, hm, hk, hb⟩ := D.ex
  exact pe_call F hr hg hm hk hb .nil pass0 ha hdb he hpl
end
/-! ### frames -/
/-- all but a and b stay -/
def Fr2 (a b : Addr) (H H' : Hp) : Prop := ∀ c o, c ≠ a → c ≠ b → H c = some o → H' c = some o
theorem Fr2.refl {a b : Addr} {H : Hp} : Fr2 a b H H := fun _ _ _ _ h => h
theorem Fr2.trans {a b : Addr} {H H1 H2 : Hp} (x : Fr2 a b H H1) (y : Fr2 a b H1 H2) : Fr2 a b H H2 := fun c o h1 h2 h => y c o h1 h2 (x c o h1 h2 h)
theorem Fr2.ofSame {a b : Addr} {H H' : Hp} (x : Same H H') : Fr2 a b H H' := fun c o _ _ h => x c o h
theorem same_upd {H : Hp} {p : Addr} {o : HO} (h : H p = none) : Same H (upd H p o) := fun b x e => by
  rw [upd_ne (ne_of_none e h)]
  exact e
theorem Fr2.new {a b p : Addr} {H : Hp} {o : HO} (h : H p = none) : Fr2 a b H (upd H p o) := .ofSame (same_upd h)
theorem Fr2.at1 {a b : Addr} {H : Hp} {o : HO} : Fr2 a b H (upd H a o) := fun c u h1 _ h => by rw [upd_ne h1]; exact h
theorem Fr2.at2 {a b : Addr} {H : Hp} {o : HO} : Fr2 a b H (upd H b o) := fun c u _ h2 h => by rw [upd_ne h2]; exact h
/-! ### the state of the draws -/
abbrev kW : Key := Sum.inr "wide"
abbrev kC : Key := Sum.inr "cells"
abbrev kR : Key := Sum.inr "rest"
abbrev kT : Key := Sum.inr "turn"
def stD (w c : Addr) (r t : Int) : List (Key × V) := [(kW, .ref w), (kC, .ref c), (kR, .int r), (kT, .int t)]
/-- at d the state of the draws: what is wide at w, the cells at c; at most B stirs so far -/
structure StAt (H : Hp) (d w c : Addr) (B : Int) : Prop where
  ex : ∃ (ws cs : List Int) (r t : Int), H d = some (.dK (stD w c r t)) ∧ H w = some (.lst (ws.map V.int)) ∧ H c = some (.lst (cs.map V.int)) ∧
    (∀ x ∈ ws, 0 ≤ x) ∧ (∀ x ∈ cs, 0 ≤ x) ∧ 0 ≤ r ∧ 0 ≤ t ∧ t ≤ B ∧ ws.length ≤ 63 ∧ cs.length ≤ 63 ∧ w ≠ c
end Kw
set_option maxHeartbeats 4000000
namespace Kw
open PySem PySem.Spec PyProof.Rows L2
theorem wR : valV (stD w c r t) kR = some (.int r) := by
  simp [stD, valV, List.find?_cons, kR, kW, kC, kT, show ¬ (("wide" : Str) = "rest") by decide +kernel, show ¬ (("cells" : Str) = "rest") by decide +kernel]
theorem wW : valV (stD w c r t) kW = some (.ref w) := by
  simp [stD, valV, List.find?_cons, kR, kW, kC, kT]
theorem wC : valV (stD w c r t) kC = some (.ref c) := by
  simp [stD, valV, List.find?_cons, kR, kW, kC, kT, show ¬ (("wide" : Str) = "cells") by decide +kernel]
theorem wT : valV (stD w c r t) kT = some (.int t) := by
  simp [stD, valV, List.find?_cons, kR, kW, kC, kT, show ¬ (("wide" : Str) = "turn") by decide +kernel, show ¬ (("cells" : Str) = "turn") by decide +kernel, show ¬ (("rest" : Str) = "turn") by decide +kernel]
theorem pR {u : Int} : putK (stD w c r t) kR (.int u) = stD w c u t := by
  simp [stD, putK, kR, kW, kC, kT, show ¬ (("wide" : Str) = "rest") by decide +kernel, show ¬ (("cells" : Str) = "rest") by decide +kernel, show ¬ (("turn" : Str) = "rest") by decide +kernel]
theorem pT {u : Int} : putK (stD w c r t) kT (.int u) = stD w c r u := by
  simp [stD, putK, kR, kW, kC, kT, show ¬ (("wide" : Str) = "turn") by decide +kernel, show ¬ (("cells" : Str) = "turn") by decide +kernel, show ¬ (("rest" : Str) = "turn") by decide +kernel]
theorem gR {H : Hp} {d w c : Addr} {r t : Int} (h : H d = some (.dK (stD w c r t))) : DGet H d (.str "rest") (some (.int r)) := by
  have q := DGet.k (k := kR) h
  rw [wR] at q
  exact q
theorem gW {H : Hp} {d w c : Addr} {r t : Int} (h : H d = some (.dK (stD w c r t))) : DGet H d (.str "wide") (some (.ref w)) := by
  have q := DGet.k (k := kW) h
  rw [wW] at q
  exact q
theorem gC {H : Hp} {d w c : Addr} {r t : Int} (h : H d = some (.dK (stD w c r t))) : DGet H d (.str "cells") (some (.ref c)) := by
  have q := DGet.k (k := kC) h
  rw [wC] at q
  exact q
theorem gT {H : Hp} {d w c : Addr} {r t : Int} (h : H d = some (.dK (stD w c r t))) : DGet H d (.str "turn") (some (.int t)) := by
  have q := DGet.k (k := kT) h
  rw [wT] at q
  exact q
theorem dR {H : Hp} {d w c : Addr} {r t u : Int} (h : H d = some (.dK (stD w c r t))) : DPut H d (.str "rest") (.int u) (upd H d (.dK (stD w c u t))) := by
  have q := DPut.k (k := kR) (v := .int u) h (by show 4 < sizeLine; decide)
  rw [pR] at q
  exact q
theorem dT {H : Hp} {d w c : Addr} {r t u : Int} (h : H d = some (.dK (stD w c r t))) : DPut H d (.str "turn") (.int u) (upd H d (.dK (stD w c r u))) := by
  have q := DPut.k (k := kT) (v := .int u) h (by show 4 < sizeLine; decide)
  rw [pT] at q
  exact q
/-! ### data: lists of ints -/
theorem dp_ints {K : PySem.W.Frag} {H : Hp} : ∀ ns : List Int, DpAll K H (ns.map V.int) (ns.map PyData.int)
  | [] => .nil
  | n :: ns => .cons (.int n) (dp_ints ns)
theorem cl_ints : ∀ ns : List Int, PyData.canLayAll0 (ns.map PyData.int) = true
  | [] => by simp [PyData.canLayAll0]
  | n :: ns => by simp [PyData.canLayAll0, PyData.canLay0, cl_ints ns]
theorem dep_ints : ∀ ns : List Int, PyData.depthAll (ns.map PyData.int) ≤ 1
  | [] => by simp [PyData.depthAll]
  | n :: ns => by
    have := dep_ints ns
    simp [PyData.depthAll, PyData.depth]
    try omega
theorem shaped_ints (ns : List Int) : SeqAt.shaped (.list (ns.map PyData.int)) = true := by
  have h1 := cl_ints ns
  have h2 := dep_ints ns
  simp only [SeqAt.shaped, PyData.canLay0, PyData.depth, h1, Bool.true_and]
  exact decide_eq_true (by omega)
theorem shaped_nil : SeqAt.shaped (.list []) = true := shaped_ints []
theorem eqv_nil (ns : List Int) : PyData.eqv (.list (ns.map PyData.int)) (.list []) = ns.isEmpty := by
  cases ns with
  | nil => simp [PyData.eqv, PyData.eqvAll]
  | cons n ns => simp [PyData.eqv, PyData.eqvAll]
/-! ### promises -/
/-- a stir: a number from 0 on -/
def spStirred : Sp := fun vs H Q _ => ∃ (d w c : Addr) (B : Int), vs = [.ref d] ∧ StAt H d w c B ∧ B ≤ 1000000000000 ∧
  ∀ H' z, 0 ≤ z → StAt H' d w c (B + 1) → Fr2 d w H H' → Q (.int z) H'
/-- a draw below n -/
def spDraw : Sp := fun vs H Q _ => ∃ (d w c : Addr) (B n : Int), vs = [.ref d, .int n] ∧ StAt H d w c B ∧ B ≤ 1000000000000 ∧ 0 < n ∧ n < 1073741824 ∧
  ∀ H' z, 0 ≤ z → z < n → StAt H' d w c (B + 1) → Fr2 d w H H' → Q (.int z) H'
section
variable {P : Program} {w : World} {K : PySem.W.Frag} {mg : Str → Option Value} {base : Heap}
theorem scStirred : FnScope ["_law_state", "_law_turn", "_law_found", "_law_prime", "_law_blend", "_law_cell"] ["_law_state"] (defScope sStirred) := ⟨rfl, rfl, rfl, by decide +kernel, rfl, by decide +kernel, by decide +kernel⟩
theorem scDraw : FnScope ["_law_state", "_law_size", "_law_found"] ["_law_state", "_law_size"] (defScope sDraw) := ⟨rfl, rfl, rfl, by decide +kernel, rfl, by decide +kernel, by decide +kernel⟩
theorem ok_draw {f : Addr} {fd : FuncData} {k : Nat} (F : Fun K "_law_draw" "_law_draw" sDraw f fd) (mi : mg "int" = none) (DS : Def P w K mg base "_law_stirred" CX0 k ["_law_state"] spStirred) : FnOk P w K mg base CX0 (k + 1) f fd ["_law_state", "_law_size"] spDraw := by
  refine F.ok scDraw (fun vs H Q E h => ?_) (fun cdv A outer s H vs Q E hr h => ?_)
  · obtain ⟨d, w, c, B, n, rfl, _⟩ := h
    rfl
  · obtain ⟨d, w, c, B, n, rfl, hS, hB, hn, hn2, q⟩ := h
    have hu := hu_of hr
    refine ⟨_, pss_cons (ps_if (pt_cmpR op_eq (pe_dget hu (pv 0) pe_str (fun _ _ => rfl)) pe_int (nomark _))
        (pss_one (ps_dput hu (pv 0) pe_str (pe_ifExp (pt_cmpR (op_neD hr.units) (pe_dget hu (pv 0) pe_str (fun _ _ => rfl)) (pe_lst pa_nil) (nomark _))
          (pe_bm PySem.F.plainAttrs_list PySem.F.slot_list_pop PySem.F.type_list_pop mt_popAt (pe_dget hu (pv 0) pe_str (fun _ _ => rfl)) (pa_cons pe_int pa_nil))
          (pe_d DS hr (pa_cons (pv 0) pa_nil))) rfl)) pss_nil)
      (pss_cons (ps_set (i := 2) scDraw.nd rfl (.inl rfl) (pe_op op_mod (pe_callTy call_int1 (by rfl) mi (by decide +kernel) (pa_cons (pe_dget hu (pv 0) pe_str (fun _ _ => rfl)) pa_nil)) (pv 1)))
      (pss_cons (ps_dput hu (pv 0) pe_str (pe_op op_fdiv (pe_dget hu (pv 0) pe_str (fun _ _ => rfl)) (pv 1)) rfl)
      (pss_one (ps_ret (pv 2))))), ?_⟩
    -- what follows the if, from any state
    have rest : ∀ (H1 : Hp), StAt H1 d w c (B + 1) → Fr2 d w H H1 → ∀ v2 : Option V,
        (tSeq (tAsg (tOp (rI (fun _ j => 0 < j) fun i j => .int (i % j)) (tCB (fun xs H Q => (∃ i, xs = [V.int i] ∧ Q (.int i) H) ∨ ∃ k, xs = [V.bl k] ∧ Q (.int (if k then 1 else 0)) H) (tCons (tDGet (tVar 0) (tC (.str "rest"))) tNil)) (tVar 1)) (gName 2))
          (tSeq (sDPut (tVar 0) (tC (.str "rest")) (tOp (rI CDiv fun i j => .int (i / j)) (tDGet (tVar 0) (tC (.str "rest"))) (tVar 1))) (tRet (tVar 2))))
          { nx := fun _ H' => Q .non H', rt := Q } [some (.ref d), some (.int n), v2] H1 := by
      intro H1 S1 F1 v2
      obtain ⟨ws, cs, r, t, hd, hw, hc, pw, pc, hr0, ht0, htB, lw, lc, nwc⟩ := S1.ex
      refine ⟨_, rfl, d, _, rfl, gR hd, .inl ⟨r, rfl, ?_⟩⟩
      refine ⟨_, rfl, r, n, rfl, rfl, hn, ?_⟩
      refine ⟨_, rfl, d, _, rfl, gR hd, _, rfl, r, n, rfl, rfl, ⟨hn, hn2⟩, ?_⟩
      refine ⟨_, rfl, d, _, rfl, dR hd, _, rfl, ?_⟩
      have ndw : d ≠ w := ne_of hd hw (by intro z; cases z)
      have ndc : d ≠ c := ne_of hd hc (by intro z; cases z)
      refine q _ (r % n) (Int.emod_nonneg _ (by omega)) (Int.emod_lt_of_pos _ hn) ⟨ws, cs, r / n, t, upd_same, ?_, ?_, pw, pc, Int.ediv_nonneg hr0 (by omega), ht0, htB, lw, lc, nwc⟩ (F1.trans Fr2.at1)
      · rw [upd_ne ndw.symm]; exact hw
      · rw [upd_ne ndc.symm]; exact hc
    obtain ⟨ws, cs, r, t, hd, hw, hc, pw, pc, hr0, ht0, htB, lw, lc, nwc⟩ := hS.ex
    have ndw : d ≠ w := ne_of hd hw (by intro z; cases z)
    have ndc : d ≠ c := ne_of hd hc (by intro z; cases z)
    refine ⟨_, rfl, d, _, rfl, gR hd, rfl, _, rfl, ?_⟩
    refine ite2 (fun e0 => ?_) (fun e0 => ?_)
    · -- rest == 0: wide's first, or a stir
      refine ⟨_, rfl, d, _, rfl, gW hd, ⟨Nat.zero_le _, fun l hl => ?_⟩⟩
      have s1 : Same H (upd H l (.lst [])) := same_upd hl
      refine ⟨_, _, .lst (SqL.of (s1 _ _ hw)) (dp_ints ws), .lst (SqL.of upd_same) .nil, shaped_ints ws, shaped_nil, _, rfl, ?_⟩
      rw [eqv_nil]
      cases ws with
      | cons x ws =>
        refine iteT ?_
        refine ⟨_, rfl, d, _, rfl, gW (s1 _ _ hd), .inl ⟨rfl, _, SqL.of (s1 _ _ hw)⟩, w, (x :: ws).map V.int, 0, 0, .int x, rfl, rfl, s1 _ _ hw, by decide, by decide, by simp [seqIndex?], rfl, ?_⟩
        have hd2 : upd (upd H l (.lst [])) w (.lst (((x :: ws).map V.int).eraseIdx 0)) d = some (.dK (stD w c r t)) := by
          rw [upd_ne ndw]; exact s1 _ _ hd
        refine ⟨_, rfl, d, _, rfl, dR hd2, ?_⟩
        refine rest _ ⟨ws, cs, x, t, upd_same, ?_, ?_, fun y hy => pw y (List.mem_cons_of_mem _ hy), pc, pw x List.mem_cons_self, ht0, by omega, by simp at lw; omega, lc, nwc⟩ ((Fr2.new hl).trans (Fr2.at2.trans Fr2.at1)) _
        · rw [upd_ne ndw.symm, upd_same]; rfl
        · rw [upd_ne ndc.symm, upd_ne nwc.symm]; exact s1 _ _ hc
      | nil =>
        refine iteF ?_
        refine ⟨_, rfl, d, w, c, B, rfl, ⟨[], cs, r, t, s1 _ _ hd, s1 _ _ hw, s1 _ _ hc, pw, pc, hr0, ht0, htB, lw, lc, nwc⟩, hB, fun H2 z hz S2 F2 => ?_⟩
        obtain ⟨ws', cs', r', t', hd', hw', hc', pw', pc', hr', ht', htB', lw', lc', nwc'⟩ := S2.ex
        refine ⟨_, rfl, d, _, rfl, dR hd', ?_⟩
        have ndw' : d ≠ w := ndw
        refine rest _ ⟨ws', cs', z, t', upd_same, ?_, ?_, pw', pc', hz, ht', htB', lw', lc', nwc⟩ ((Fr2.new hl).trans (F2.trans Fr2.at1)) _
        · rw [upd_ne ndw.symm]; exact hw'
        · rw [upd_ne ndc.symm]; exact hc'
    · exact rest H ⟨ws, cs, r, t, hd, hw, hc, pw, pc, hr0, ht0, by omega, lw, lc, nwc⟩ .refl _
theorem ok_stirred {f : Addr} {fd : FuncData} {k : Nat} (F : Fun K "_law_stirred" "_law_stirred" sStirred f fd) (mi : mg "int" = none) : FnOk P w K mg base CX0 (k + 1) f fd ["_law_state"] spStirred := by
  refine F.ok scStirred (fun vs H Q E h => ?_) (fun cdv A outer s H vs Q E hr h => ?_)
  · obtain ⟨d, w, c, B, rfl, _⟩ := h
    rfl
  · obtain ⟨d, w, c, B, rfl, hS, hB, q⟩ := h
    have hu := hu_of hr
    refine ⟨_, pss_cons (ps_par (i := 1) (j := 2) rfl scStirred.nd rfl rfl (by decide) rfl rfl (pa_cons (pe_op op_add (pe_dget hu (pv 0) pe_str (fun _ _ => rfl)) pe_int) (pa_cons pe_int pa_nil)) (by rfl))
      (pss_cons (ps_dput hu (pv 0) pe_str (pv 1) rfl)
      (pss_cons (ps_for PassesOwn.never rfl (pi_list (pe_lst (pa_cons pe_int (pa_cons pe_int (pa_cons pe_int (pa_cons pe_int pa_nil)))))) (pg_name (i := 3) scStirred.nd rfl (Or.inl rfl))
        (pss_cons (ps_set (i := 4) scStirred.nd rfl (.inl rfl) (pe_op op_add (pe_op op_mul pe_int (pv 1)) (pe_op op_fdiv (pv 3) pe_int)))
        (pss_cons (ps_for PassesOwn.never rfl (pi_list (pe_dget hu (pv 0) pe_str (fun _ _ => rfl))) (pg_name (i := 5) scStirred.nd rfl (Or.inl rfl))
          (pss_one (ps_set (i := 4) scStirred.nd rfl (.inl rfl) (pe_op op_mod (pe_callTy call_int1 (by rfl) mi (by decide +kernel) (pa_cons (pe_op op_add (pe_op op_add (pe_op op_mul (pv 4) pe_int) (pv 5)) (pv 1)) pa_nil)) (pv 3)))))
        (pss_one (ps_set (i := 2) scStirred.nd rfl (.inl rfl) (pe_op op_add (pe_op op_mul (pv 2) pe_int) (pe_op op_mod (pe_callTy call_int1 (by rfl) mi (by decide +kernel) (pa_cons (pe_op op_pow (pv 4) pe_int) pa_nil)) (pv 3))))))))
      (pss_one (ps_ret (pv 2))))), ?_⟩
    obtain ⟨ws, cs, r, t, hd, hw, hc, pw, pc, hr0, ht0, htB, lw, lc, nwc⟩ := hS.ex
    have ndw : d ≠ w := ne_of hd hw (by intro z; cases z)
    have ndc : d ≠ c := ne_of hd hc (by intro z; cases z)
    refine ⟨_, rfl, d, _, rfl, gT hd, t, 1, rfl, rfl, _, _, rfl, ?_⟩
    refine ⟨_, rfl, _, rfl, d, _, rfl, dT hd, ?_⟩
    refine ⟨by show 4 ≤ sizeLine; decide, fun l hl => ?_⟩
    have e1 : Fr2 d w H (upd (upd H d (.dK (stD w c r (t + 1)))) l (.lst ([2147483647, 2147483629, 2147483587, 2147483579].map V.int))) := Fr2.at1.trans (Fr2.new hl)
    have s1 : Same (upd H d (.dK (stD w c r (t + 1)))) (upd (upd H d (.dK (stD w c r (t + 1)))) l (.lst ([2147483647, 2147483629, 2147483587, 2147483579].map V.int))) := same_upd hl
    generalize hG : upd (upd H d (.dK (stD w c r (t + 1)))) l (.lst ([2147483647, 2147483629, 2147483587, 2147483579].map V.int)) = G at e1 s1
    have gl : G l = some (.lst ([2147483647, 2147483629, 2147483587, 2147483579].map V.int)) := by rw [← hG]; exact upd_same
    have gd : G d = some (.dK (stD w c r (t + 1))) := s1 _ _ upd_same
    have gw : G w = some (.lst (ws.map V.int)) := s1 _ _ (by rw [upd_ne ndw.symm]; exact hw)
    have gc : G c = some (.lst (cs.map V.int)) := s1 _ _ (by rw [upd_ne ndc.symm]; exact hc)
    refine ⟨l, rfl, ⟨_, SqL.of (by first | exact upd_same | (rw [← hG]; exact upd_same))⟩, for_list (K := K) (a := l) (xs := [2147483647, 2147483629, 2147483587, 2147483579].map V.int) (fun i σ H' => ∃ (z : Int) (y3 y4 y5 : Option V), σ = [some (.ref d), some (.int (t + 1)), some (.int z), y3, y4, y5] ∧ 0 ≤ z ∧ H' = G)
      ⟨0, none, none, none, rfl, Int.le_refl _, by first | rfl | exact hG⟩ (fun i σ H' _ ⟨_, _, _, _, _, _, e⟩ => by rw [e]; exact SqL.of gl) ?_ ?_⟩
    · rintro i y σ H' hi ⟨z, y3, y4, y5, rfl, hz, rfl⟩
      obtain ⟨p, hp, hp2, rfl⟩ : ∃ p : Int, 0 < p ∧ p < 2147483648 ∧ y = V.int p := by
        have hm := List.mem_of_getElem? hi
        simp at hm
        rcases hm with rfl | rfl | rfl | rfl
        · exact ⟨_, by decide, by decide, rfl⟩
        · exact ⟨_, by decide, by decide, rfl⟩
        · exact ⟨_, by decide, by decide, rfl⟩
        · exact ⟨_, by decide, by decide, rfl⟩
      have b0 : (0 : Int) ≤ 48271 * (t + 1) + p / 37 := by omega
      have b1 : (48271 * (t + 1) + p / 37 : Int) < 18446744073709551616 := by omega
      refine ⟨_, rfl, 48271, _, rfl, rfl, .inl ⟨by decide, by decide⟩, _, rfl, p, 37, rfl, rfl, ⟨by decide, by decide⟩, _, _, rfl, rfl, ?_⟩
      refine ⟨_, rfl, d, _, rfl, gC gd, c, rfl, ⟨_, SqL.of gc⟩, for_list (K := K) (a := c) (xs := cs.map V.int) (fun i σ H2 => ∃ (b : Int) (y5 : Option V), σ = [some (.ref d), some (.int (t + 1)), some (.int z), some (.int p), some (.int b), y5] ∧ 0 ≤ b ∧ b < 18446744073709551616 ∧ H2 = H')
        ⟨_, y5, rfl, b0, b1, rfl⟩ (fun i σ H2 _ ⟨_, _, _, _, _, e⟩ => by rw [e]; exact SqL.of gc) ?_ ?_⟩
      · rintro i y σ H2 hi ⟨b, y5', rfl, hb0, hb1, rfl⟩
        obtain ⟨u, rfl⟩ : ∃ u, y = V.int u := by
          have hm := List.mem_of_getElem? hi
          obtain ⟨u, _, e⟩ := List.mem_map.mp hm
          exact ⟨u, e.symm⟩
        refine ⟨_, rfl, b, 69621, rfl, rfl, .inr ⟨by decide, by decide⟩, _, rfl, _, _, rfl, rfl, _, rfl, _, _, rfl, rfl, .inl ⟨_, rfl, ?_⟩⟩
        refine ⟨_, rfl, _, _, rfl, rfl, hp, ?_⟩
        exact ⟨_, some (.int u), rfl, Int.emod_nonneg _ (by omega), by have := Int.emod_lt_of_pos (b * 69621 + u + (t + 1)) hp; omega, rfl⟩
      · rintro σ H2 ⟨b, y5', rfl, hb0, hb1, rfl⟩
        refine ⟨_, rfl, z, 2147483563, rfl, rfl, .inr ⟨by decide, by decide⟩, _, rfl, b, 5, rfl, rfl, ⟨by decide, by decide, by omega⟩, .inl ⟨_, rfl, ?_⟩⟩
        refine ⟨_, rfl, _, _, rfl, rfl, hp, _, _, rfl, rfl, ?_⟩
        refine ⟨_, some (.int p), some (.int b), y5', rfl, ?_, rfl⟩
        have := Int.emod_nonneg (b ^ Int.toNat 5) (show p ≠ 0 by omega)
        omega
    · rintro σ H' ⟨z, y3, y4, y5, rfl, hz, rfl⟩
      refine ⟨_, rfl, q _ z hz ⟨ws, cs, r, t + 1, gd, gw, gc, pw, pc, hr0, by omega, by omega, lw, lc, nwc⟩ e1⟩
end
end Kw
set_option maxHeartbeats 4000000
namespace Kw
open PySem PySem.Spec PyProof.Rows L2
theorem merge_st (w c : Addr) (r t : Int) : mergeK [] (stD w c r t) = stD w c r t := by
  simp [mergeK, stD, putK, kR, kW, kC, kT, show ¬ (("wide" : Str) = "turn") by decide +kernel, show ¬ (("cells" : Str) = "turn") by decide +kernel, show ¬ (("rest" : Str) = "turn") by decide +kernel,
    show ¬ (("wide" : Str) = "cells") by decide +kernel, show ¬ (("wide" : Str) = "rest") by decide +kernel, show ¬ (("cells" : Str) = "rest") by decide +kernel]
theorem StAt.hd {H : Hp} {d w c : Addr} {B : Int} (S : StAt H d w c B) : ∃ kvs, H d = some (.dK kvs) := let ⟨_, _, _, _, h, _⟩ := S.ex; ⟨_, h⟩
theorem StAt.hw {H : Hp} {d w c : Addr} {B : Int} (S : StAt H d w c B) : ∃ xs, H w = some (.lst xs) := let ⟨_, _, _, _, _, h, _⟩ := S.ex; ⟨_, h⟩
theorem StAt.mono {H : Hp} {d w c : Addr} {B B' : Int} (S : StAt H d w c B) (h : B ≤ B') : StAt H d w c B' := by
  obtain ⟨ws, cs, r, t, hd, hw, hc, pw, pc, hr0, ht0, htB, lw, lc, nwc⟩ := S.ex
  exact ⟨ws, cs, r, t, hd, hw, hc, pw, pc, hr0, ht0, by omega, lw, lc, nwc⟩
theorem StAt.same {H H' : Hp} {d w c : Addr} {B : Int} (S : StAt H d w c B) (s : Same H H') : StAt H' d w c B := by
  obtain ⟨ws, cs, r, t, hd, hw, hc, pw, pc, hr0, ht0, htB, lw, lc, nwc⟩ := S.ex
  exact ⟨ws, cs, r, t, s _ _ hd, s _ _ hw, s _ _ hc, pw, pc, hr0, ht0, htB, lw, lc, nwc⟩
/-- a list that is not the wide one stays -/
theorem Fr2.lst {H H' : Hp} {d w c a : Addr} {B : Int} {xs : List V} (F : Fr2 d w H H') (S : StAt H d w c B) (h : H a = some (.lst xs)) (n : a ≠ w) : H' a = some (.lst xs) := by
  obtain ⟨kvs, hd⟩ := S.hd
  exact F a _ (ne_of h hd (by intro z; cases z)) n h
theorem Fr2.tup {H H' : Hp} {d w c a : Addr} {B : Int} {xs : List V} (F : Fr2 d w H H') (S : StAt H d w c B) (h : H a = some (.tup xs)) : H' a = some (.tup xs) := by
  obtain ⟨kvs, hd⟩ := S.hd
  obtain ⟨ys, hw⟩ := S.hw
  exact F a _ (ne_of h hd (by intro z; cases z)) (ne_of h hw (by intro z; cases z)) h
theorem Fr2.sqT {K : PySem.W.Frag} {H H' : Hp} {d w c a : Addr} {B : Int} {xs : List V} (F : Fr2 d w H H') (S : StAt H d w c B) (h : SqT K H a xs) : SqT K H' a xs := by
  obtain ⟨kvs, hd⟩ := S.hd
  obtain ⟨ys, hw⟩ := S.hw
  rcases h with (h | ⟨o, h⟩) | h
  · exact .inl (.inl (F.tup S h))
  · exact .inl (.inr ⟨o, F a _ (ne_of h hd (by intro z; cases z)) (ne_of h hw (by intro z; cases z)) h⟩)
  · exact .inr h
theorem Same.sqT {K : PySem.W.Frag} {H H' : Hp} {a : Addr} {xs : List V} (s : Same H H') (h : SqT K H a xs) : SqT K H' a xs := by
  rcases h with (h | ⟨o, h⟩) | h
  · exact .inl (.inl (s _ _ h))
  · exact .inl (.inr ⟨o, s _ _ h⟩)
  · exact .inr h
/-- no test in a comprehension -/
theorem yesI {σ : L2.St} {H : Hp} {A B : Hp → Prop} (h : A H) : tYes σ H fun b H3 => if b = true then A H3 else B H3 := by
  show if true = true then A H else B H
  rw [if_pos rfl]
  exact h
/-- the beginning: a new state -/
def spBegun (K : PySem.W.Frag) : Sp := fun vs H Q _ => ∃ (a : Addr) (ns : List Int), vs = [.ref a] ∧ SqL K H a (ns.map V.int) ∧ ns.length ≤ 63 ∧
  ∀ H' d w c, StAt H' d w c 0 → Same H H' → H d = none → H w = none → H c = none → Q (.ref d) H'
/-- one of a list -/
def spPick : Sp := fun vs H Q _ => ∃ (d w c : Addr) (B : Int) (a : Addr) (xs : List V), vs = [.ref d, .ref a] ∧ StAt H d w c B ∧ B ≤ 1000000000000 ∧ H a = some (.lst xs) ∧ a ≠ w ∧ 0 < xs.length ∧ xs.length < 1073741824 ∧
  ∀ H' (i : Nat) v, xs[i]? = some v → StAt H' d w c (B + 1) → Fr2 d w H H' → Q v H'
section
variable {P : Program} {w : World} {K : PySem.W.Frag} {mg : Str → Option Value} {base : Heap}
theorem scBegun : FnScope ["_law_script", "_law_wide", "_law_cell"] ["_law_script"] (defScope sBegun) := ⟨rfl, rfl, rfl, by decide +kernel, rfl, by decide +kernel, by decide +kernel⟩
theorem scPick : FnScope ["_law_state", "_law_some"] ["_law_state", "_law_some"] (defScope sPick) := ⟨rfl, rfl, rfl, by decide +kernel, rfl, by decide +kernel, by decide +kernel⟩
theorem ok_pick {f : Addr} {fd : FuncData} {k : Nat} (F : Fun K "_law_pick" "_law_pick" sPick f fd) (ml : mg "len" = none) (DD : Def P w K mg base "_law_draw" CX0 k ["_law_state", "_law_size"] spDraw) : FnOk P w K mg base CX0 (k + 1) f fd ["_law_state", "_law_some"] spPick := by
  refine F.ok scPick (fun vs H Q E h => ?_) (fun cdv A outer s H vs Q E hr h => ?_)
  · obtain ⟨d, w, c, B, a, xs, rfl, _⟩ := h
    rfl
  · obtain ⟨d, w, c, B, a, xs, rfl, hS, hB, ha, naw, hl, hl2, q⟩ := h
    refine ⟨_, pss_one (ps_ret (pe_ix ix_list (pv 1) (pe_d DD hr (pa_cons (pv 0) (pa_cons (pe_callB call_len_seq (by rfl) ml PySem.boot_len (pa_cons (pv 1) pa_nil)) pa_nil))) (fun _ _ => rfl))), ?_⟩
    refine ⟨_, rfl, _, rfl, _, rfl, a, xs, rfl, .inl (SqL.of ha), d, w, c, B, xs.length, rfl, hS, hB, by omega, by omega, fun H' z h0 h1 S' F' => ?_⟩
    obtain ⟨i, rfl⟩ : ∃ i : Nat, z = (i : Int) := ⟨z.toNat, by omega⟩
    have hi : i < xs.length := by omega
    have ha' := F'.lst hS ha naw
    refine ⟨a, xs, i, xs[i], rfl, rfl, SqL.of ha', atI_nat (List.getElem?_eq_getElem hi), q H' i _ (List.getElem?_eq_getElem hi) S' F'⟩
theorem ok_begun {f : Addr} {fd : FuncData} {k : Nat} (F : Fun K "_law_begun" "_law_begun" sBegun f fd) (ma : mg "abs" = none) : FnOk P w K mg base CX0 (k + 1) f fd ["_law_script"] (spBegun K) := by
  refine F.ok scBegun (fun vs H Q E h => ?_) (fun cdv A outer s H vs Q E hr h => ?_)
  · obtain ⟨a, ns, rfl, _⟩ := h
    rfl
  · obtain ⟨a, ns, rfl, hS, hlen, q⟩ := h
    refine ⟨_, pss_cons (ps_setLc (i := 1) (own := [("_law_cell", 2)]) (g := gName 2) rfl scBegun.nd rfl rfl (sw_true rfl rfl rfl (by decide +kernel)) (pi_list (pv 0)) (blkOk_by (N := ["_law_script", "_law_wide", "_law_cell"]) (sc := defScope sBegun) (by decide +kernel))
        (fun _ _ _ _ _ => pg_name (i := 2) scBegun.nd rfl (Or.inl rfl)) (fun _ _ _ _ _ => pts_one (pt_cmpR op_ge (pe_callB call_abs (by rfl) ma (by decide +kernel) (pa_cons (pv 2) pa_nil)) (pe_op op_pow pe_int pe_int) (nomark _)))
        (fun _ _ _ _ _ => pe_op op_sub (pe_callB call_abs (by rfl) ma (by decide +kernel) (pa_cons (pv 2) pa_nil)) (pe_op op_pow pe_int pe_int)))
      (pss_one (ps_ret (pe_disp (pps_cons pe_str (pv 1) (pps_cons pe_str (pe_lc (own := [("_law_cell", 2)]) (g := gName 2) (tt := tYes) rfl scBegun.nd (pi_list (pv 0)) (blkOk_by (N := ["_law_script", "_law_wide", "_law_cell"]) (sc := defScope sBegun) (by decide +kernel))
        (fun _ _ _ _ _ => pg_name (i := 2) scBegun.nd rfl (Or.inl rfl)) (fun _ _ _ _ _ => pts_nil) (fun _ _ _ _ _ => pe_callB call_abs (by rfl) ma (by decide +kernel) (pa_cons (pv 2) pa_nil)))
        (pps_cons pe_str pe_int (pps_cons pe_str pe_int pps_nil)))) (by rfl) (by rfl) (fun z => by cases z) (by decide)))), ?_⟩
    have hint : ∀ (i : Nat) (x : V), (ns.map V.int)[i]? = some x → i < ns.length ∧ ∃ u, x = V.int u := fun i x hi => by
      have h1 := (List.getElem?_eq_some_iff.mp hi).1
      rw [List.length_map] at h1
      obtain ⟨u, _, e⟩ := List.mem_map.mp (List.mem_of_getElem? hi)
      exact ⟨h1, u, e.symm⟩
    -- wide
    refine ⟨_, rfl, a, rfl, ⟨_, hS⟩, fun D hD => ?_⟩
    refine lc_list (K := K) (a := a) (xs := ns.map V.int) (fun i H' => Same H H' ∧ ∃ ws : List Int, H' D = some (.lst (ws.map V.int)) ∧ (∀ x ∈ ws, 0 ≤ x) ∧ ws.length ≤ i)
      ⟨same_upd hD, [], upd_same, fun x h => (nomatch h), Nat.le_refl _⟩ (fun i H' _ R => R.1.seq hS) ?_ ?_
    · rintro i x H' hi ⟨s1, ws, h1, h2, h3⟩
      obtain ⟨hi', u, rfl⟩ := hint i x hi
      refine ⟨rfl, ?_⟩
      refine ⟨_, rfl, u, rfl, 10, 18, rfl, rfl, ⟨by decide, by decide, by decide⟩, _, _, rfl, rfl, _, rfl, ?_⟩
      refine ite2 (fun e => ?_) (fun e => ⟨s1, ws, h1, h2, by omega⟩)
      have e' : (10 : Int) ^ (Int.toNat 18) ≤ (if u < 0 then -u else u) := of_decide_eq_true e
      refine ⟨_, rfl, u, rfl, 10, 18, rfl, rfl, ⟨by decide, by decide, by decide⟩, _, _, rfl, rfl, _, h1, by rw [List.length_map]; exact small1000 (by omega), ?_⟩
      refine ⟨fun b o e => by rw [upd_ne (ne_of_none e hD)]; exact s1 _ _ e, ws ++ [(if u < 0 then -u else u) - 10 ^ (Int.toNat 18)], by rw [upd_same, List.map_append]; rfl, fun y hy => ?_, by rw [List.length_append, List.length_singleton]; omega⟩
      rcases List.mem_append.mp hy with hy | hy
      · exact h2 y hy
      · rw [List.mem_singleton.mp hy]
        omega
    · rintro H' ⟨s1, ws, h1, h2, h3⟩
      rw [List.length_map] at h3
      -- the dict
      refine fun p hp => ?_
      have sp := same_upd (o := .dK []) hp
      refine ⟨_, rfl, _, rfl, a, rfl, ⟨_, sp.seq (s1.seq hS)⟩, fun D2 hD2 => ?_⟩
      have sp2 := same_upd (o := .lst []) hD2
      refine lc_list (K := K) (a := a) (xs := ns.map V.int) (fun i H2 => Same (upd H' p (.dK [])) H2 ∧ ∃ cs : List Int, H2 D2 = some (.lst (cs.map V.int)) ∧ (∀ x ∈ cs, 0 ≤ x) ∧ cs.length ≤ i)
        ⟨sp2, [], upd_same, fun x h => (nomatch h), Nat.le_refl _⟩ (fun i H2 _ R => R.1.seq (sp.seq (s1.seq hS))) ?_ ?_
      · rintro i x H2 hi ⟨s3, cs, g1, g2, g3⟩
        obtain ⟨hi', u, rfl⟩ := hint i x hi
        refine ⟨rfl, yesI ?_⟩
        refine ⟨_, rfl, u, rfl, _, g1, by rw [List.length_map]; exact small1000 (by omega), ?_⟩
        refine ⟨fun b o e => by rw [upd_ne (ne_of_none e hD2)]; exact s3 _ _ e, cs ++ [if u < 0 then -u else u], by rw [upd_same, List.map_append]; rfl, fun y hy => ?_, by rw [List.length_append, List.length_singleton]; omega⟩
        rcases List.mem_append.mp hy with hy | hy
        · exact g2 y hy
        · rw [List.mem_singleton.mp hy]
          split <;> omega
      · rintro H2 ⟨s3, cs, g1, g2, g3⟩
        rw [List.length_map] at g3
        have hp2 : H2 p = some (.dK []) := s3 _ _ upd_same
        refine ⟨hp2, stD D D2 0 0, rfl, by show 4 ≤ 15; decide, ?_⟩
        rw [merge_st]
        have npD : p ≠ D := (ne_of_none h1 hp).symm
        have sH : Same H H2 := fun b o e => s3 _ _ (sp _ _ (s1 _ _ e))
        have nD2 : D ≠ D2 := ne_of_none (sp _ _ h1) hD2
        have hH2 : H D2 = none := s1.free (sp.free hD2)
        refine q _ p D D2 ⟨ws, cs, 0, 0, upd_same, ?_, ?_, h2, g2, Int.le_refl _, Int.le_refl _, Int.le_refl _, by omega, by omega, nD2⟩ ?_ (s1.free hp) hD hH2
        · rw [upd_ne npD.symm]; exact s3 _ _ (sp _ _ h1)
        · rw [upd_ne (ne_of g1 hp2 (by intro z; cases z))]; exact g1
        · exact fun b o e => by rw [upd_ne (ne_of_none (s1 _ _ e) hp)]; exact sH _ _ e
end
end Kw
set_option maxHeartbeats 4000000
namespace Kw
open PySem PySem.Spec PyProof.Rows L2
/-! ### versions -/
abbrev Ver := Int × Int × Int
abbrev vl (v : Ver) : List Int := [v.1, v.2.1, v.2.2]
abbrev v3 (v : Ver) : List V := (vl v).map V.int
def okV (v : Ver) : Prop := 0 ≤ v.1 ∧ 0 ≤ v.2.1 ∧ 0 ≤ v.2.2
def ltV (v u : Ver) : Prop := v.1 < u.1 ∨ v.1 = u.1 ∧ (v.2.1 < u.2.1 ∨ v.2.1 = u.2.1 ∧ v.2.2 < u.2.2)
instance (v u : Ver) : Decidable (ltV v u) := by unfold ltV; infer_instance
def leV (v u : Ver) : Prop := ¬ ltV u v
instance (v u : Ver) : Decidable (leV v u) := by unfold leV; infer_instance
theorem ltV_irrefl (v : Ver) : ¬ ltV v v := by unfold ltV; omega
theorem ltV_trans {a b c : Ver} (h : ltV a b) (k : ltV b c) : ltV a c := by unfold ltV at *; omega
theorem ltV_or {a b : Ver} (h : ¬ ltV a b) (k : ¬ ltV b a) : a = b := by
  obtain ⟨a1, a2, a3⟩ := a
  obtain ⟨b1, b2, b3⟩ := b
  unfold ltV at *
  simp only at h k
  simp only [Prod.mk.injEq]
  omega
/-- x is the version v -/
def IsVer (K : PySem.W.Frag) (H : Hp) (x : V) (v : Ver) : Prop := ∃ a, x = .ref a ∧ SqT K H a (v3 v)
theorem IsVer.of {K : PySem.W.Frag} {H : Hp} {a : Addr} {v : Ver} (h : H a = some (.tup (v3 v))) : IsVer K H (.ref a) v := ⟨a, rfl, .inl (.inl h)⟩
theorem IsVer.same {K : PySem.W.Frag} {H H' : Hp} {x : V} {v : Ver} (h : IsVer K H x v) (s : Same H H') : IsVer K H' x v := let ⟨a, e, q⟩ := h; ⟨a, e, Same.sqT s q⟩
theorem IsVer.fr {K : PySem.W.Frag} {H H' : Hp} {x : V} {v : Ver} {d w c : Addr} {B : Int} (h : IsVer K H x v) (S : StAt H d w c B) (F : Fr2 d w H H') : IsVer K H' x v := let ⟨a, e, q⟩ := h; ⟨a, e, F.sqT S q⟩
/-! ### comparisons of versions -/
theorem lexAt3 (e r : Nat → Bool) (z : Bool) : Ob.lexAt e r z 0 3 = if e 0 = true then (if e 1 = true then (if e 2 = true then z else r 2) else r 1) else r 0 := rfl
def cmpV (op : CmpOp) (v u : Ver) : Bool := match op with
  | .Lt => decide (ltV v u)
  | .LtE => decide (leV v u)
  | .Gt => decide (ltV u v)
  | .GtE => decide (leV u v)
  | _ => false
def cmpI (op : CmpOp) (i j : Int) : Bool := match op with
  | .Lt => decide (i < j)
  | .LtE => decide (i ≤ j)
  | .Gt => decide (j < i)
  | .GtE => decide (j ≤ i)
  | _ => false
def rVer (K : PySem.W.Frag) (op : CmpOp) : R2 := fun x y H Q => ∃ v u, IsVer K H x v ∧ IsVer K H y u ∧ Q (.bl (cmpV op v u)) H
section
variable {X : Cx}
theorem int_places {ns : List Int} {its : List Value} (i : IntsAre its ns) (j : Nat) (h : j < its.toArray.size) : ∃ t, its.toArray[j] = Value.int (ns.getD j 0) t :=
  PyProof.Rows.IntsAre.int_at i _ _ (by simp at h; simp [h])
theorem op_ver {op : CmpOp} (hop : op = .Lt ∨ op = .LtE ∨ op = .Gt ∨ op = .GtE) (hu : X.A.units < cLine) : OpR X (compareOp op) (rVer X.K op) := by
  intro pins s σ H x y p q Q I rx ry ⟨v, u, ⟨a, ea, ha⟩, ⟨b, eb, hb⟩, fin⟩
  subst ea eb
  cases rx
  cases ry
  obtain ⟨m1, r1, t1, _⟩ := I.tuple ha
  obtain ⟨m2, r2, t2, _⟩ := I.tuple hb
  have k1 : IntsAre m1 (vl v) := Vals.ints r1
  have k2 : IntsAre m2 (vl u) := Vals.ints r2
  have z1 : m1.toArray.size = 3 := by rw [List.size_toArray]; exact k1.length
  have z2 : m2.toArray.size = 3 := by rw [List.size_toArray]; exact k2.length
  have eqs : ∀ j (h1 : j < m1.toArray.size) (h2 : j < m2.toArray.size), SeqAt.EqAt X.A.in1 s m1.toArray[j] m2.toArray[j] ((vl v).getD j 0 == (vl u).getD j 0) := fun j h1 h2 => by
    obtain ⟨t, et⟩ := int_places k1 j h1
    obtain ⟨t', et'⟩ := int_places k2 j h2
    rw [et, et']
    exact SeqAt.EqAt.int_int _ _ _ _
  have goal : ∀ {bb : Bool}, Ob.RcOp op X.A s (.ref a) (.ref b) bb → bb = cmpV op v u → wpAny (model X.prog X.w) X.A (compareOp op (.ref a) (.ref b)) (EP X pins σ Q) X.xe s := fun {bb} R e => by
    subst e
    rcases hop with rfl | rfl | rfl | rfl <;> exact R X.prog X.w X.xe (EP X pins σ Q) ⟨.bl _, H, I, rfl, fin⟩
  rcases hop with rfl | rfl | rfl | rfl
  · refine goal (Ob.RcOp.tuples_lt (r := fun j => decide ((vl v).getD j 0 < (vl u).getD j 0)) t1 t2 hu eqs fun j h1 h2 _ => ?_) ?_
    · obtain ⟨t, et⟩ := int_places k1 j h1
      obtain ⟨t', et'⟩ := int_places k2 j h2
      rw [et, et']
      exact Ob.RcOp.lt_int _ _ _ _
    · rw [z1, z2, show min 3 3 = 3 from rfl, lexAt3]
      simp only [cmpV, vl, List.getD_cons_zero, List.getD_cons_succ, beq_iff_eq]
      rw [Bool.eq_iff_iff]
      repeat' split
      all_goals (simp only [decide_eq_true_eq]; unfold ltV; omega)
  · refine goal (Ob.RcOp.tuples_le (r := fun j => decide ((vl v).getD j 0 ≤ (vl u).getD j 0)) t1 t2 hu eqs fun j h1 h2 _ => ?_) ?_
    · obtain ⟨t, et⟩ := int_places k1 j h1
      obtain ⟨t', et'⟩ := int_places k2 j h2
      rw [et, et']
      exact Ob.RcOp.le_int _ _ _ _
    · rw [z1, z2, show min 3 3 = 3 from rfl, lexAt3]
      simp only [cmpV, vl, List.getD_cons_zero, List.getD_cons_succ, beq_iff_eq]
      rw [Bool.eq_iff_iff]
      repeat' split
      all_goals (simp only [decide_eq_true_eq]; unfold leV ltV; omega)
  · refine goal (Ob.RcOp.tuples_gt (r := fun j => decide ((vl u).getD j 0 < (vl v).getD j 0)) t1 t2 hu eqs fun j h1 h2 _ => ?_) ?_
    · obtain ⟨t, et⟩ := int_places k1 j h1
      obtain ⟨t', et'⟩ := int_places k2 j h2
      rw [et, et']
      exact Ob.RcOp.gt_int _ _ _ _
    · rw [z1, z2, show min 3 3 = 3 from rfl, lexAt3]
      simp only [cmpV, vl, List.getD_cons_zero, List.getD_cons_succ, beq_iff_eq]
      rw [Bool.eq_iff_iff]
      repeat' split
      all_goals (simp only [decide_eq_true_eq]; unfold ltV; omega)
  · refine goal (Ob.RcOp.tuples_ge (r := fun j => decide ((vl u).getD j 0 ≤ (vl v).getD j 0)) t1 t2 hu eqs fun j h1 h2 _ => ?_) ?_
    · obtain ⟨t, et⟩ := int_places k1 j h1
      obtain ⟨t', et'⟩ := int_places k2 j h2
      rw [et, et']
      exact Ob.RcOp.ge_int _ _ _ _
    · rw [z1, z2, show min 3 3 = 3 from rfl, lexAt3]
      simp only [cmpV, vl, List.getD_cons_zero, List.getD_cons_succ, beq_iff_eq]
      rw [Bool.eq_iff_iff]
      repeat' split
      all_goals (simp only [decide_eq_true_eq]; unfold leV ltV; omega)
end
end Kw
set_option maxHeartbeats 4000000
namespace Kw
open PySem PySem.Spec PyProof.Rows L2
theorem Fr2.put {H H2 : Hp} {d w D : Addr} {o : HO} (F : Fr2 d w H H2) (hD : H D = none) : Fr2 d w H (upd H2 D o) := fun b u n1 n2 e => by
  rw [upd_ne (ne_of_none e hD)]
  exact F b u n1 n2 e
theorem StAt.ne {H : Hp} {d w c D : Addr} {B : Int} (S : StAt H d w c B) (hD : H D = none) : d ≠ D ∧ w ≠ D ∧ c ≠ D := by
  obtain ⟨ws, cs, r, t, hd, hw, hc, _⟩ := S.ex
  exact ⟨ne_of_none hd hD, ne_of_none hw hD, ne_of_none hc hD⟩
theorem StAt.put {H H2 : Hp} {d w c D : Addr} {B B2 : Int} {o : HO} (S0 : StAt H d w c B) (hD : H D = none) (S : StAt H2 d w c B2) : StAt (upd H2 D o) d w c B2 := by
  obtain ⟨n1, n2, n3⟩ := S0.ne hD
  obtain ⟨ws, cs, r, t, hd, hw, hc, pw, pc, hr0, ht0, htB, lw, lc, nwc⟩ := S.ex
  exact ⟨ws, cs, r, t, by rw [upd_ne n1]; exact hd, by rw [upd_ne n2]; exact hw, by rw [upd_ne n3]; exact hc, pw, pc, hr0, ht0, htB, lw, lc, nwc⟩
theorem Fr2.free {H H2 : Hp} {d w c p : Addr} {B B2 : Int} (F : Fr2 d w H H2) (S : StAt H d w c B) (S2 : StAt H2 d w c B2) (h : H2 p = none) : H p = none := by
  obtain ⟨n1, n2, n3⟩ := S2.ne h
  cases q : H p with
  | none => rfl
  | some o =>
    rw [F p o n1.symm n2.symm q] at h
    cases h
theorem ltA {v : Ver} {a b c : Int} (h : v.1 < a) : ltV v (a, b, c) := .inl h
theorem ltB {v : Ver} {b c : Int} (h : v.2.1 < b) : ltV v (v.1, b, c) := .inr ⟨rfl, .inl h⟩
theorem ltC {v : Ver} {c : Int} (h : v.2.2 < c) : ltV v (v.1, v.2.1, c) := .inr ⟨rfl, .inr ⟨rfl, h⟩⟩
/-- a version, drawn from a menu of numbers from 0 on -/
def spVersion (K : PySem.W.Frag) : Sp := fun vs H Q _ => ∃ (d w c : Addr) (B : Int), vs = [.ref d] ∧ StAt H d w c B ∧ B + 3 ≤ 1000000000000 ∧
  ∀ H' p v, okV v → v.1 ≤ 10 → v.2.1 ≤ 10 → v.2.2 ≤ 10 → H p = none → H' p = some (.tup (v3 v)) → StAt H' d w c (B + 3) → Fr2 d w H H' → Q (.ref p) H'
/-- a later version -/
def spLater (K : PySem.W.Frag) : Sp := fun vs H Q _ => ∃ (d w c : Addr) (B : Int) (x : V) (v : Ver), vs = [.ref d, x] ∧ StAt H d w c B ∧ B + 3 ≤ 1000000000000 ∧ IsVer K H x v ∧ okV v ∧
  ∀ H' p u, okV u → ltV v u → H p = none → H' p = some (.tup (v3 u)) → StAt H' d w c (B + 3) → Fr2 d w H H' → Q (.ref p) H'
section
variable {P : Program} {w : World} {K : PySem.W.Frag} {mg : Str → Option Value} {base : Heap}
end
end Kw
set_option maxHeartbeats 4000000
namespace Kw
open PySem PySem.Spec PyProof.Rows L2
/-! ### stretches -/
abbrev Str2 := Ver × Option Ver
def IsEnd (K : PySem.W.Frag) (H : Hp) (x : V) : Option Ver → Prop
  | none => x = .non
  | some u => IsVer K H x u
def IsStr (K : PySem.W.Frag) (H : Hp) (x : V) (s : Str2) : Prop := ∃ p l h, x = .ref p ∧ SqT K H p [l, h] ∧ IsVer K H l s.1 ∧ IsEnd K H h s.2
def okS (s : Str2) : Prop := okV s.1 ∧ ∀ u, s.2 = some u → okV u ∧ ltV s.1 u
theorem IsEnd.same {K : PySem.W.Frag} {H H' : Hp} {x : V} {e : Option Ver} (h : IsEnd K H x e) (s : Same H H') : IsEnd K H' x e := by
  cases e with
  | none => exact h
  | some u => exact IsVer.same h s
theorem IsEnd.fr {K : PySem.W.Frag} {H H' : Hp} {x : V} {e : Option Ver} {d w c : Addr} {B : Int} (h : IsEnd K H x e) (S : StAt H d w c B) (F : Fr2 d w H H') : IsEnd K H' x e := by
  cases e with
  | none => exact h
  | some u => exact IsVer.fr h S F
theorem IsStr.same {K : PySem.W.Frag} {H H' : Hp} {x : V} {s : Str2} (h : IsStr K H x s) (e : Same H H') : IsStr K H' x s := by
  obtain ⟨p, l, hh, rfl, h1, h2, h3⟩ := h
  exact ⟨p, l, hh, rfl, Same.sqT e h1, h2.same e, h3.same e⟩
theorem IsStr.fr {K : PySem.W.Frag} {H H' : Hp} {x : V} {s : Str2} {d w c : Addr} {B : Int} (h : IsStr K H x s) (S : StAt H d w c B) (F : Fr2 d w H H') : IsStr K H' x s := by
  obtain ⟨p, l, hh, rfl, h1, h2, h3⟩ := h
  exact ⟨p, l, hh, rfl, F.sqT S h1, h2.fr S F, h3.fr S F⟩
/-- all are versions from 0 on -/
def Vers (K : PySem.W.Frag) (H : Hp) (xs : List V) : Prop := ∀ x ∈ xs, ∃ v, IsVer K H x v ∧ okV v
theorem Vers.same {K : PySem.W.Frag} {H H' : Hp} {xs : List V} (h : Vers K H xs) (s : Same H H') : Vers K H' xs := fun x hx => let ⟨v, a, b⟩ := h x hx; ⟨v, a.same s, b⟩
theorem Vers.fr {K : PySem.W.Frag} {H H' : Hp} {xs : List V} {d w c : Addr} {B : Int} (h : Vers K H xs) (S : StAt H d w c B) (F : Fr2 d w H H') : Vers K H' xs := fun x hx => let ⟨v, a, b⟩ := h x hx; ⟨v, a.fr S F, b⟩
/-- a stretch -/
def spStretch (K : PySem.W.Frag) : Sp := fun vs H Q _ => ∃ (d w c : Addr) (B : Int) (al : Addr) (xs : List V), vs = [.ref d, .ref al] ∧ StAt H d w c B ∧ B + 12 ≤ 1000000000000 ∧ H al = some (.lst xs) ∧ al ≠ w ∧ xs.length ≤ 10 ∧ Vers K H xs ∧
  ∀ H' p s, okS s → H p = none → IsStr K H' (.ref p) s → StAt H' d w c (B + 12) → Fr2 d w H H' → Q (.ref p) H'
section
variable {P : Program} {w : World} {K : PySem.W.Frag} {mg : Str → Option Value} {base : Heap}
end
end Kw
set_option maxHeartbeats 4000000
namespace Kw
open PySem PySem.Spec PyProof.Rows L2
/-- the stretch has the version -/
def hasS (s : Str2) (v : Ver) : Bool := decide (leV s.1 v) && (match s.2 with | none => true | some u => decide (ltV v u))
/-- xs are the stretches ss -/
structure Strs (K : PySem.W.Frag) (H : Hp) (xs : List V) (ss : List Str2) : Prop where
  len : xs.length = ss.length
  at_ : ∀ (i : Nat) (x : V) (s : Str2), xs[i]? = some x → ss[i]? = some s → IsStr K H x s
theorem Strs.same {K : PySem.W.Frag} {H H' : Hp} {xs : List V} {ss : List Str2} (h : Strs K H xs ss) (e : Same H H') : Strs K H' xs ss := ⟨h.len, fun i x s a b => (h.at_ i x s a b).same e⟩
theorem Strs.fr {K : PySem.W.Frag} {H H' : Hp} {xs : List V} {ss : List Str2} {d w c : Addr} {B : Int} (h : Strs K H xs ss) (S : StAt H d w c B) (F : Fr2 d w H H') : Strs K H' xs ss := ⟨h.len, fun i x s a b => (h.at_ i x s a b).fr S F⟩
theorem Strs.snoc {K : PySem.W.Frag} {H : Hp} {xs : List V} {ss : List Str2} {x : V} {s : Str2} (h : Strs K H xs ss) (q : IsStr K H x s) : Strs K H (xs ++ [x]) (ss ++ [s]) := by
  refine ⟨by simp [h.len], fun i y t a b => ?_⟩
  by_cases hi : i < xs.length
  · rw [List.getElem?_append_left hi] at a
    rw [List.getElem?_append_left (by rw [← h.len]; exact hi)] at b
    exact h.at_ i y t a b
  · rw [List.getElem?_append_right (by omega)] at a
    rw [List.getElem?_append_right (by rw [← h.len]; omega), ← h.len] at b
    have h0 : i - xs.length = 0 := by
      have := (List.getElem?_eq_some_iff.mp a).1
      simp at this
      omega
    rw [h0] at a b
    obtain rfl := Option.some.inj a
    obtain rfl := Option.some.inj b
    exact q
theorem Strs.get {K : PySem.W.Frag} {H : Hp} {xs : List V} {ss : List Str2} {i : Nat} {x : V} (h : Strs K H xs ss) (a : xs[i]? = some x) : ∃ s, ss[i]? = some s ∧ IsStr K H x s := by
  have hi := (List.getElem?_eq_some_iff.mp a).1
  have hi2 : i < ss.length := by rw [← h.len]; exact hi
  exact ⟨ss[i], List.getElem?_eq_getElem hi2, h.at_ i x _ a (List.getElem?_eq_getElem hi2)⟩
theorem take_snoc {α : Type} {l : List α} {i : Nat} {x : α} (h : l[i]? = some x) : l.take (i + 1) = l.take i ++ [x] := by
  rw [List.take_add_one, h]
  rfl
/-- low <= v and (high is None or v < high), of a low and a high in hand -/
def tIn (K : PySem.W.Frag) (l h v : Nat) : TT := tAnd (tTest (tOp (rVer K .LtE) (tVar l) (tVar v))) (tOr (tTest (tOp (fun x y H Q => y = .non ∧ Q (.bl (decide (x = .non))) H) (tVar h) (tC .non))) (tTest (tOp (rVer K .Lt) (tVar v) (tVar h))))
theorem isEnd_non {K : PySem.W.Frag} {H : Hp} {x : V} {e : Option Ver} (h : IsEnd K H x e) : decide (x = .non) = e.isNone := by
  cases e with
  | none =>
    have e1 : x = .non := h
    rw [e1]
    rfl
  | some u =>
    obtain ⟨a, rfl, _⟩ := h
    rfl
theorem in_read {K : PySem.W.Frag} {H : Hp} {σ : L2.St} {l h v : Nat} {x y z : V} {s : Str2} {u : Ver} {Q : Bool → Hp → Prop} (hl : σ[l]? = some (some x)) (hh : σ[h]? = some (some y)) (hv : σ[v]? = some (some z)) (q1 : IsVer K H x s.1) (q2 : IsEnd K H y s.2) (q3 : IsVer K H z u)
    (q : Q (hasS s u) H) : tIn K l h v σ H Q := by
  refine ⟨x, hl, z, hv, s.1, u, q1, q3, _, rfl, ?_⟩
  unfold hasS at q
  refine ite2 (fun e => ?_) (fun e => ?_)
  · have e' : leV s.1 u := of_decide_eq_true e
    rw [decide_eq_true e', Bool.true_and] at q
    refine ⟨y, hh, rfl, _, rfl, ?_⟩
    rw [isEnd_non q2]
    obtain ⟨s1, s2⟩ := s
    cases s2 with
    | none => exact iteT q
    | some t => exact iteF ⟨z, hv, y, hh, u, t, q3, q2, _, rfl, q⟩
  · have e' : ¬ leV s.1 u := fun c => e (decide_eq_true c)
    rw [decide_eq_false e', Bool.false_and] at q
    exact q
def spHas (K : PySem.W.Frag) : Sp := fun vs H Q _ => ∃ (a : Addr) (xs : List V) (ss : List Str2) (x : V) (v : Ver), vs = [.ref a, x] ∧ SqL K H a xs ∧ Strs K H xs ss ∧ ss.length ≤ 100 ∧ IsVer K H x v ∧
  ∀ H', Same H H' → Q (.bl (ss.any fun s => hasS s v)) H'
section
variable {P : Program} {w : World} {K : PySem.W.Frag} {mg : Str → Option Value} {base : Heap}
theorem ones_ne (n : Nat) : (!PyData.eqv (.list ((List.replicate n (1 : Int)).map PyData.int)) (.list [])) = decide (n ≠ 0) := by
  rw [eqv_nil]
  cases n <;> rfl
end
end Kw
set_option maxHeartbeats 4000000
namespace Kw
open PySem PySem.Spec PyProof.Rows L2
def spWideV (K : PySem.W.Frag) : Sp := fun vs H Q _ => ∃ (d w c : Addr) (B : Int), vs = [.ref d] ∧ StAt H d w c B ∧ B + 4 ≤ 1000000000000 ∧
  ∀ H' p v, okV v → H p = none → H' p = some (.tup (v3 v)) → StAt H' d w c (B + 4) → Fr2 d w H H' → Q (.ref p) H'
def spSomeS (K : PySem.W.Frag) : Sp := fun vs H Q _ => ∃ (d w c : Addr) (B m : Int), vs = [.ref d, .int m] ∧ StAt H d w c B ∧ B + 200 ≤ 1000000000000 ∧ 0 ≤ m ∧ m ≤ 10 ∧
  ∀ H' p xs ss, H p = none → H' p = some (.lst xs) → Strs K H' xs ss → (∀ s ∈ ss, okS s) → ss.length ≤ m.toNat → StAt H' d w c (B + 200) → Fr2 d w H H' → Q (.ref p) H'
section
variable {P : Program} {w : World} {K : PySem.W.Frag} {mg : Str → Option Value} {base : Heap}
end
end Kw
set_option maxHeartbeats 4000000
namespace Kw
open PySem PySem.Spec PyProof.Rows L2
abbrev sIsNum : Stmt := top 15
abbrev sIsList : Stmt := top 16
abbrev sTupOf : Stmt := top 17
abbrev sIsVer : Stmt := top 20
abbrev sIsStr : Stmt := top 23
/-- the value's type is the built-in one called T -/
def Ty (K : PySem.W.Frag) (H : Hp) (x : V) (T : String) : Prop := TyX K H x (.type T)
/-- a value without parts -/
inductive Flat : V → String → Prop
  | non : Flat .non "NoneType"
  | bl (b : Bool) : Flat (.bl b) "bool"
  | int (i : Int) : Flat (.int i) "int"
  | str (z : Str) : Flat (.str z) "str"
theorem Flat.ty {K : PySem.W.Frag} {H : Hp} {x : V} {T : String} (f : Flat x T) : Ty K H x T := by
  cases f with
  | non => exact .base .non
  | bl b => exact .base (.bl b)
  | int i => exact .base (.int i)
  | str z => exact .base (.str z)
/-- a number from 0 on -/
def numV : V → Bool
  | .int i => decide (0 ≤ i)
  | _ => false
def spIsNum (K : PySem.W.Frag) : Sp := fun vs H Q _ => ∃ (x : V) (T : String) (b1 b2 : Bool), vs = [x] ∧ Ty K H x T ∧ kitB T "int" = some b1 ∧ kitB T "bool" = some b2 ∧ Q (.bl (b1 && !b2)) H
def spTupOf (K : PySem.W.Frag) : Sp := fun vs H Q _ => ∃ (x : V) (n : Int), vs = [x, .int n] ∧
  ((∃ a xs, x = .ref a ∧ SqT K H a xs ∧ Q (.bl (decide ((xs.length : Int) = n))) H) ∨ ∃ T, Ty K H x T ∧ kitB T "tuple" = some false ∧ Q (.bl false) H)
/-- whether a value is a version; of a tuple of flat things, or of no tuple -/
def spIsVer (K : PySem.W.Frag) : Sp := fun vs H Q _ => ∃ (x : V), vs = [x] ∧
  ((∃ a xs, x = .ref a ∧ SqT K H a xs ∧ (∀ y ∈ xs, xs.length = 3 → ∃ T, Flat y T) ∧ ∀ H', Same H H' → Q (.bl (decide (xs.length = 3) && xs.all numV)) H') ∨ ∃ T, Ty K H x T ∧ kitB T "tuple" = some false ∧ Q (.bl false) H)
section
variable {P : Program} {w : World} {K : PySem.W.Frag} {mg : Str → Option Value} {base : Heap}
theorem scIsNum : FnScope ["value"] ["value"] (defScope sIsNum) := ⟨rfl, rfl, rfl, by decide +kernel, rfl, by decide +kernel, by decide +kernel⟩
theorem scTupOf : FnScope ["value", "many"] ["value", "many"] (defScope sTupOf) := ⟨rfl, rfl, rfl, by decide +kernel, rfl, by decide +kernel, by decide +kernel⟩
theorem scIsVer : FnScope ["value", "number"] ["value"] (defScope sIsVer) := ⟨rfl, rfl, rfl, by decide +kernel, rfl, by decide +kernel, by decide +kernel⟩
theorem ty_tup {H : Hp} {a : Addr} {xs : List V} (h : SqT K H a xs) : Ty K H (.ref a) "tuple" := by
  rcases h with (h | ⟨o, h⟩) | ⟨o, its, n, h, c, _⟩
  · exact .base (.tup h)
  · exact .fTuple h
  · exact .kTuple h c
theorem ok_isNum {f : Addr} {fd : FuncData} {k : Nat} (F : Fun K "is_number" "is_number" sIsNum f fd) (mi : mg "isinstance" = none) (mint : mg "int" = none) (mb : mg "bool" = none) : FnOk P w K mg base CX0 (k + 1) f fd ["value"] (spIsNum K) := by
  refine F.ok scIsNum (fun vs H Q E h => ?_) (fun cdv A outer s H vs Q E hr h => ?_)
  · obtain ⟨x, T, b1, b2, rfl, _⟩ := h
    rfl
  · obtain ⟨x, T, b1, b2, rfl, ty, e1, e2, q⟩ := h
    refine ⟨_, pss_one (ps_ret (pe_and (pe_callB call_isi (by rfl) mi (by decide +kernel) (pa_cons (pv 0) (pa_cons (pe_bltn (v := .ty "int") (by rfl) mint (by decide +kernel) rfl) pa_nil)))
      (pe_one (pe_not (pe_callB call_isi (by rfl) mi (by decide +kernel) (pa_cons (pv 0) (pa_cons (pe_bltn (v := .ty "bool") (by rfl) mb (by decide +kernel) rfl) pa_nil))))))), ?_⟩
    refine ⟨_, rfl, x, .ty "int", .type T, .type "int", b1, rfl, .ty _, ty, kit_ty e1, b1, rfl, ?_⟩
    cases b1 with
    | false => exact iteF q
    | true => exact iteT ⟨_, rfl, x, .ty "bool", .type T, .type "bool", b2, rfl, .ty _, ty, kit_ty e2, b2, rfl, q⟩
theorem ok_tupOf {f : Addr} {fd : FuncData} {k : Nat} (F : Fun K "is_tuple_of" "is_tuple_of" sTupOf f fd) (mi : mg "isinstance" = none) (mt : mg "tuple" = none) (ml : mg "len" = none) : FnOk P w K mg base CX0 (k + 1) f fd ["value", "many"] (spTupOf K) := by
  refine F.ok scTupOf (fun vs H Q E h => ?_) (fun cdv A outer s H vs Q E hr h => ?_)
  · obtain ⟨x, n, rfl, _⟩ := h
    rfl
  · obtain ⟨x, n, rfl, h⟩ := h
    refine ⟨_, pss_one (ps_ret (pe_and (pe_callB call_isi (by rfl) mi (by decide +kernel) (pa_cons (pv 0) (pa_cons (pe_bltn (v := .ty "tuple") (by rfl) mt (by decide +kernel) rfl) pa_nil)))
      (pe_one (pe_cmpR op_eq (pe_callB call_len_seq (by rfl) ml PySem.boot_len (pa_cons (pv 0) pa_nil)) (pv 1) (nomark _))))), ?_⟩
    rcases h with ⟨a, xs, rfl, hx, q⟩ | ⟨T, ty, e, q⟩
    · refine ⟨_, rfl, .ref a, .ty "tuple", .type "tuple", .type "tuple", true, rfl, .ty _, ty_tup hx, kit_ty (by decide +kernel), true, rfl, iteT ?_⟩
      refine ⟨_, rfl, a, xs, rfl, .inr hx, _, rfl, rfl, ?_⟩
      rw [dec_int, ← show decide ((xs.length : Int) = n) = ((xs.length : Int) == n) from by rw [Bool.eq_iff_iff]; simp]
      exact q
    · exact ⟨_, rfl, x, .ty "tuple", .type T, .type "tuple", false, rfl, .ty _, ty, kit_ty e, false, rfl, iteF q⟩
theorem ok_isVer {f : Addr} {fd : FuncData} {k : Nat} (F : Fun K "is_version" "is_version" sIsVer f fd) (ma : mg "all" = none) (DT : Def P w K mg base "is_tuple_of" CX0 k ["value", "many"] (spTupOf K)) (DN : Def P w K mg base "is_number" CX0 k ["value"] (spIsNum K)) : FnOk P w K mg base CX0 (k + 1) f fd ["value"] (spIsVer K) := by
  refine F.ok scIsVer (fun vs H Q E h => ?_) (fun cdv A outer s H vs Q E hr h => ?_)
  · obtain ⟨x, rfl, _⟩ := h
    rfl
  · obtain ⟨x, rfl, h⟩ := h
    refine ⟨_, pss_one (ps_ret (pe_and (pe_d DT hr (pa_cons (pv 0) (pa_cons pe_int pa_nil)))
      (pe_one (pe_callB (cr_all rfl) (by rfl) ma (by decide +kernel) (pa_cons (pe_lc (own := [("number", 1)]) (g := gName 1) (tt := tYes) rfl scIsVer.nd (pi_tup (pv 0)) (blkOk_by (N := ["value", "number"]) (sc := defScope sIsVer) (by decide +kernel))
        (fun _ _ _ _ _ => pg_name (i := 1) scIsVer.nd rfl (Or.inl rfl)) (fun _ _ _ _ _ => pts_nil) (fun _ _ _ _ _ => pe_and (pe_d DN hr (pa_cons (pv 1) pa_nil)) (pe_one (pe_cmpR op_ge (pv 1) pe_int (nomark _))))) pa_nil))))), ?_⟩
    rcases h with ⟨a, xs, rfl, hx, hf, q⟩ | ⟨T, ty, e, q⟩
    · refine ⟨_, rfl, .ref a, 3, rfl, .inl ⟨a, xs, rfl, hx, _, rfl, ?_⟩⟩
      refine ite2 (fun e => ?_) (fun e => ?_)
      · have e3 : xs.length = 3 := by
          have e' : (xs.length : Int) = 3 := of_decide_eq_true e
          omega
        refine ⟨_, rfl, a, rfl, ⟨_, hx⟩, fun D hD => ?_⟩
        refine lc_tup (K := K) (a := a) (xs := xs) (fun i H' => Same H H' ∧ H' D = some (.lst ((xs.take i).map fun v => V.bl (numV v)))) ⟨same_upd hD, upd_same⟩ (fun i H' _ R => Same.sqT R.1 hx) ?_ ?_
        · rintro i y H' hi ⟨s1, h1⟩
          refine ⟨rfl, yesI ?_⟩
          obtain ⟨T, hy⟩ := hf y (List.mem_of_getElem? hi) e3
          have hil := (List.getElem?_eq_some_iff.mp hi).1
          have fin : ∃ acc, H' D = some (.lst acc) ∧ acc.length < sizeLine ∧ Same H (upd H' D (.lst (acc ++ [V.bl (numV y)]))) ∧ (upd H' D (.lst (acc ++ [V.bl (numV y)]))) D = some (.lst ((xs.take (i + 1)).map fun v => V.bl (numV v))) := by
            refine ⟨_, h1, ?_, ?_, ?_⟩
            · rw [List.length_map, List.length_take]
              exact Nat.lt_of_le_of_lt (Nat.min_le_left _ _) (small1000 (by omega))
            · exact fun b o z => by rw [upd_ne (ne_of_none z hD)]; exact s1 _ _ z
            · rw [upd_same, take_snoc hi, List.map_append]
              rfl
          cases hy with
          | non => exact ⟨_, rfl, .non, "NoneType", false, false, rfl, Flat.ty .non, by decide +kernel, by decide +kernel, _, rfl, iteF fin⟩
          | bl b => exact ⟨_, rfl, .bl b, "bool", true, true, rfl, Flat.ty (.bl b), by decide +kernel, by decide +kernel, _, rfl, iteF fin⟩
          | int i => exact ⟨_, rfl, .int i, "int", true, false, rfl, Flat.ty (.int i), by decide +kernel, by decide +kernel, _, rfl, iteT ⟨_, rfl, i, 0, rfl, rfl, fin⟩⟩
          | str z => exact ⟨_, rfl, .str z, "str", false, false, rfl, Flat.ty (.str z), by decide +kernel, by decide +kernel, _, rfl, iteF fin⟩
        · rintro H' ⟨s1, h1⟩
          rw [List.take_length] at h1
          refine ⟨D, xs.map numV, rfl, SqL.of (by rw [h1, List.map_map]; rfl), ?_⟩
          have := q H' s1
          rw [e3] at this
          simpa [List.all_map] using this
      · have e3 : ¬ xs.length = 3 := fun z => e (decide_eq_true (by omega))
        have := q H (Same.refl H)
        rw [decide_eq_false e3] at this
        exact this
    · exact ⟨_, rfl, x, 3, rfl, .inr ⟨T, ty, e, _, rfl, iteF q⟩⟩
end
end Kw
set_option maxHeartbeats 4000000
/-! own errors whose __init__ is: super().__init__(f'.. {x!r}'); self.x = x -/
namespace Ks
open PySem PySem.W PySem.Calls PyProof.Rows PySem.HandSPX
abbrev sBR : Stmt := L2.inClass (Kw.top 4) 0
abbrev iP : Arguments := L2.defArgs sBR
abbrev iBody : List Stmt := L2.defBody sBR
abbrev iScope : Scope := L2.defScope sBR
/-- what the written part says of such a class, at C; its __init__ at fI, the cell of __class__ at cc, the code at cd -/
structure SupTxt (prog : Program) (K : Frag) (mg : Str → Option Value) (C fI cc cd : Addr) (qual : Str) : Prop where
  cls : ∃ nm q N bs bm sn sub ab col dd k0 k1 k2 k3 k5, K.lookup C = some (excClassObj nm q C N bs bm true sn sub ab col dd k0 k1 k2 k3 k5 "ValueError.__new__") ∧ refsVE bm = true
  sa : findIn K (.ref C) "__setattr__" = some (some (.builtin "object.__setattr__"))
  noA : findIn K (.ref C) "at" = some none
  iC : findIn K (.ref C) "__init__" = some (some (.ref fI))
  tI : typeIn K (.ref fI) = some (.type "function")
  subV : subIn K (.ref C) (.type "ValueError") = some true
  subC : mroIn K C (.ref C) = some true
  opq : nsIn K cStatics "thirdparty.any" = some none
  sup : ks_superIn K C C "__init__" = some (some (.builtin "ValueError.__init__"))
  fn : ∃ (oc : Value) (od : Option Addr) (doc pm : Value) (an : Option Addr) (ct : Value) (osl : Array (Option Value)),
    K.lookup fI = some ⟨oc, od, .func (ksFn "__init__" qual iP iBody iScope .none .none doc pm an (.ref cd) ct cc), osl⟩ ∧ codeIn K (.ref cd) qual = true
  code : ∃ ccl cdd vs ccs file tf, K.lookup cd = some ⟨ccl, cdd, .fields vs, ccs⟩ ∧ vs[2]? = some (.str file tf) ∧ ((prog.main.file : Str) == file) = true
  cell : ∃ cl cld csl, K.lookup cc = some ⟨cl, cld, .cell (some (.ref C)), csl⟩
  msup : mg "super" = none
  top : (prog.main.scope.names.lookup ("super" : Str)).isSome = false
/-- values whose repr is short -/
def Shown (v : Value) : Prop := v = .none ∨ ∃ i t, v = .int i t ∧ i.natAbs.log2 < 1920
/-- what __init__ leaves of a fresh exception at x -/
structure InitEnd (h h' : Heap) (x C dx t1 : Addr) (v : Value) : Prop where
  keep : ∀ b o, b ≠ x → h.get? b = some o → h'.get? b = some o
  obj : h'.get? x = some { cls := .ref C, dict := some dx, data := .fields #[.ref t1, .none, .none, .none, .bool false, .none] }
  dbig : h.objs.size ≤ dx
  dne : dx ≠ x
  ns : h'.Ns1 dx (fun y => if y = "at" then some v else none)
section
variable {prog : Program} {w : World} {A : Around} {E : Value → Shared → Prop} {h : Heap} {g : Array GenState} {d : Drawn} {t : Nat} {os : OsState}
variable {nm q : Str} {C N : Addr} {bs bm : List Value} {hdct : Bool} {sn : List Str} {sub : List Value} {ab : Bool} {col : Option Bool} {dd : Option Addr} {k0 k1 k2 k3 k5 : Option Value}
theorem mw_call {u x t0 : Addr} {rest : List Value} {Q : Value → Shared → Prop} (hC : h.get? C = some (excClassObj nm q C N bs bm hdct sn sub ab col dd k0 k1 k2 k3 k5 "ValueError.__new__")) (he : h.get? x = some (excO C t0)) (hu : h.get? u = some (kxs_mw "ValueError.__init__" x)) (hz : rest.length ≤ sizeLine)
    (fin : ∀ h', (∀ b o, b ≠ x → h.get? b = some o → h'.get? b = some o) → h'.get? x = some (excO C h.objs.size) → Q .none ⟨h', g, d, t, os⟩) : wpAny (model prog w) A (call (.ref u) rest) Q E ⟨h, g, d, t, os⟩ := by
  have FB := F.excBase_ValueError
  refine wpAny_call (codeAny_of_tree ?_)
  show wpAny (model prog w) A.in1 (callAny (.ref u) { pos := rest, kw := [] }) _ _ _
  unfold callAny
  refine wpAny_bind (wpAny_load hu ?_)
  have e1 : (Value.type "method-wrapper" == Value.type "method" || Value.type "method-wrapper" == Value.type "builtin_function_or_method" || Value.type "method-wrapper" == Value.type "method-wrapper") = true := by decide
  simp only [kxs_mw, e1, if_true]
  refine KFB.if_so (by decide) ?_
  refine wpAny_bind (check_bound_init FB.toExcCallFacts hC he rfl (wpAny_bind (wpAny_pure (wpAny_pure ?_))))
  refine ⟨plainId_quiet FB.init.plain _, codeAny_builtin FB.initEntry (exc_init_tree (cls := .ref C) (t0 := t0) (dv := none) (c2 := .none) (c3 := .none) (b4 := .bool false) he hz fun h' k e' _ => ?_)⟩
  exact fin h' k e'
end
section
variable {prog : Program} {w : World} {A : Around} {R : Result → Shared → Prop} {s : Shared} {K : Frag} {mg : Str → Option Value} {base : Heap} {C fI cc cd : Addr} {qual : Str}
theorem sup_init (T : SupTxt prog K mg C fI cc cd qual) {x t0 : Addr} {v : Value} (X : K.In s.heap) (M : L2.Mod K mg base) (kb : ∀ b o, base.get? b = some o → s.heap.get? b = some o) (hx : s.heap.get? x = some (excO C t0)) (hnx : ∀ t, K.lookup x ≠ some (excO C t))
    (hv : Shown v) (hroom : A.depth + 3 < recursionLimit) (hq : ∀ h' tk dx t1, InitEnd s.heap h' x C dx t1 v → R (.ok (.ret .none)) { s with heap := h', toks := tk }) :
    codeAny (model prog w) A (.call (.ref fI) ⟨[.ref x, v], []⟩) R s := by
  obtain ⟨oc, od, doc, pm, an, ct, osl, ho, hcd⟩ := T.fn
  obtain ⟨nm, qq, N, bs, bm, sn, sub, ab, col, dd, k0, k1, k2, k3, k5, hC, hbm⟩ := T.cls
  obtain ⟨ccl, cdd, vs, ccs, file, tf, hcode, hvs, hfile⟩ := T.code
  obtain ⟨cl, cld, csl, hcell⟩ := T.cell
  have hcl : clsIn K C = some { name := nm, bases := bs, mro := .ref C :: bm, ns := N, qualname := qq, hasDict := true, slotNames := sn, subclasses := sub, abstract := ab, collection := col, hasDel := false } := by unfold clsIn; rw [hC] <;> rfl
  have hlim : s.heap.NoLimit := M.nolimit.keeps kb
  refine ks_codeAny_call_defAt (fd := ksFn "__init__" qual iP iBody iScope .none .none doc pm an (.ref cd) ct cc) (body := iBody) (binds := [("self", .ref x), ("at", v)]) (by omega) (X _ _ ho) rfl hlim (codeRec_of X hcd) rfl
    (BindsTo.of_eq (by first | rfl | with_unfolding_all rfl)) (by show ∀ x ∈ iScope.names, x.2 ≠ .cell; decide) (by intro y hy; simp at hy; rcases hy with rfl | rfl <;> rfl) (fun h₁ hns hk₁ => ?_) rfl rfl rfl
  have X₁ : K.In h₁ := X.keeps hk₁
  have kb₁ : ∀ b o, base.get? b = some o → h₁.get? b = some o := fun b o e => hk₁ _ _ (kb b o e)
  have hx₁ := hk₁ _ _ hx
  have hC₁ := X₁ _ _ hC
  have hns1 : (fun y => [(PySem.Str.ofString "self", Value.ref x), (PySem.Str.ofString "at", v)].reverse.lookup y) "self" = some (.ref x) := by rfl
  obtain ⟨mb, hmb, hbb⟩ := M.blt
  have rest : ∀ (h' : Heap) (tk : Nat) (t1 : Addr), (∀ b o, b ≠ x → h₁.get? b = some o → h'.get? b = some o) → h'.get? x = some (excO C t1) →
      _root_.PySem.wpAt (model prog w) (A.deeper (ksEnv qual iScope s.heap.objs.size fI (.ref cd) cc)) (.func iBody (ksEnv qual iScope s.heap.objs.size fI (.ref cd) cc)) (execs iBody.tail (ksEnv qual iScope s.heap.objs.size fI (.ref cd) cc))
        (fun f s' => R (.ok (.ret (match f with | .ret v => v | _ => .none))) s')
        (fun e s' => wpAny (model prog w) (A.deeper (ksEnv qual iScope s.heap.objs.size fI (.ref cd) cc)) (leaving (ksEnv qual iScope s.heap.objs.size fI (.ref cd) cc) e) (fun _ s'' => R (.error e) s'') (fun e' s'' => R (.error e') s'') s') { s with heap := h', toks := tk } := fun h' tk t1 k e => by
    have hxL : s.heap.objs.size ≠ x := Nat.ne_of_gt (Heap.lt_size hx)
    have hns' : h'.Ns s.heap.objs.size (fun y => [(PySem.Str.ofString "self", Value.ref x), (PySem.Str.ofString "at", v)].reverse.lookup y) := hns.at fun o q => k _ o hxL q
    have X' : K.In h' := fun a o q => k a o (fun z => by
      subst z
      have e1 := X _ _ q
      rw [hx] at e1
      have e2 : o = excO C t0 := (Option.some.inj e1).symm
      exact absurd q (by rw [e2]; exact hnx t0)) (X₁ a o q)
    refine ks_wpAt_execs_cons (wpAt_of_wpAny (plainObj_wpAny_Assign_Attribute ?_))
    refine wpAny_Name (wpAny_loadName_local rfl rfl hns' (by rfl) (wpAny_Name (wpAny_loadName_local rfl rfl hns' (by rfl) ?_) rfl)) rfl
    refine set_plain X' (ox := excO C t1) (od := none) ⟨e, rfl, rfl, trivial⟩ T.sa ?_
    refine exc_osa X' e hcl (show refsVE (.ref C :: bm) = true from hbm) rfl T.noA (fun h₃ tk₃ dx k₃ dn dne hx₃ hn₃ => ?_)
    refine wpAt_of_wpAny (wpAny_execs_nil (hq h₃ tk₃ dx t1 ⟨fun b o hb q => k₃ b o hb (k b o hb (hk₁ b o q)), hx₃, ?_, dne, hn₃⟩))
    exact Nat.le_of_lt (Nat.lt_of_lt_of_le hns'.lt dn)
  refine ks_wpAt_execs_cons (ks_wpAt_Expr_any (ks_wpAt_MethodCall (pl := ?_) ?_))
  rotate_left
  · refine ks_wpAt_super_base (env := ksEnv qual iScope s.heap.objs.size fI (.ref cd) cc) rfl rfl rfl rfl (X₁ _ _ ho) rfl rfl rfl (X₁ _ _ hcode) rfl hvs hfile T.top ?_
    refine ks_loadName_global rfl rfl (loadGlobal_builtin (env := ksEnv qual iScope s.heap.objs.size fI (.ref cd) cc) (M.glob.keeps kb₁) T.msup (hmb.keeps kb₁) ((hbb "super" (by decide)).trans (by first | rfl | kernel_rfl)) ⟨rfl, ?_⟩)
    refine wpAny_loadName_free rfl rfl rfl ⟨_, X₁ _ _ hcell, rfl⟩ ?_
    refine wpAny_loadName_local rfl rfl hns (by rfl) ?_
    refine ks_wpAny_isType_cls hC₁ rfl ⟨rfl, ?_⟩
    refine ks_wpAny_call_super hC₁ rfl hx₁ rfl (fun c e => by cases e) (looks_mroIn X₁ T.subC) (fun h₂ hso hk₂ => ?_)
    have X₂ : K.In h₂ := X₁.keeps hk₂
    have hx₂ := hk₂ _ _ hx₁
    have I : InstAt h₂ x (excO C t0) C none := ⟨hx₂, rfl, rfl, trivial⟩
    have hI : Looks (model prog w) h₂ (isInstance (.ref x) (.type "ValueError")) true := I.type.andThen (looks_subIn X₂ T.subV)
    have hsup := T.sup
    unfold ks_superIn at hsup
    rw [hcl] at hsup
    refine kxs_getMethod kxs_ValueError hso (looks_opaque X₂ T.opq) (l₀ := .ref C :: bm) (fun A Q E s k q => wpAny_bind ((looks_clsIn X₂ hcl) A _ E s k (wpAny_pure q))) rfl X₂ hsup hI (ks_ne X₂ I hcl) rfl ?_
    have hu : (h₂.push (kxs_mw "ValueError.__init__" x)).get? h₂.objs.size = some (kxs_mw "ValueError.__init__" x) := Heap.get?_push_size _ rfl
    have hk₃ : ∀ b o, h₂.get? b = some o → (h₂.push (kxs_mw "ValueError.__init__" x)).get? b = some o := fun b o e => Heap.get?_push_of_some _ e
    have N1 : News h₂ x (h₂.push (kxs_mw "ValueError.__init__" x)) [(h₂.objs.size, kxs_mw "ValueError.__init__" x)] := fun p hp => by
      obtain rfl := List.mem_singleton.mp hp
      exact ⟨hu, Nat.ne_of_gt (Heap.lt_size hx₂), Heap.get?_none_of_le (Nat.le_refl _)⟩
    refine kxs_callWith1 N1 List.mem_cons_self ?_
    refine Calls.spliced_cons (wpAny_JoinedStr (pos := ⟨11, 25, 11, 48⟩) ?_)
    have hns₃ := (hns.keeps hk₂).keeps hk₃
    refine Calls.Constant_str ⟨_, _, rfl, by decide, ?_⟩
    refine wpAny_FormattedValue_repr (wpAny_Name (wpAny_loadName_local rfl rfl hns₃ (by rfl) ?_) rfl)
    have hC₃ := (X₂.keeps hk₃) _ _ hC
    have hx₃ := hk₃ _ _ hx₂
    rcases hv with rfl | ⟨i, ti, rfl, hi⟩
    · refine pyReprObj_none (wpAny_formatField_str ?_ ?_ (by decide))
      · refine ⟨_, _, rfl, by decide, by decide, Calls.spliced_nil ⟨hu, mw_call hC₃ hx₃ hu (by show 1 ≤ sizeLine; decide) fun h' k e' => ?_⟩⟩
        exact rest h' _ _ (fun b o hb q => k b o hb (hk₃ _ _ (hk₂ _ _ q))) e'
      · refine ⟨_, _, rfl, by decide, by decide, Calls.spliced_nil ⟨hu, mw_call hC₃ hx₃ hu (by show 1 ≤ sizeLine; decide) fun h' k e' => ?_⟩⟩
        exact rest h' _ _ (fun b o hb q => k b o hb (hk₃ _ _ (hk₂ _ _ q))) e'
    · have hz : (Str.ofString (toString i)).length ≤ sizeLine := int_text_fits hi
      have hz2 : ((Str.empty ++ Str.ofString "no stretches: ") ++ Str.ofString (toString i)).length ≤ sizeLine := by
        have h1 := int_text_len_1921 hi
        rw [Str.length_append, sizeLine_eq]
        have h2 : (Str.empty ++ Str.ofString "no stretches: ").length = 14 := by decide
        omega
      refine pyReprObj_int hi (wpAny_formatField_str ?_ ?_ hz)
      · refine ⟨_, _, rfl, hz2, hz2, Calls.spliced_nil ⟨hu, mw_call hC₃ hx₃ hu (by show 1 ≤ sizeLine; decide) fun h' k e' => ?_⟩⟩
        exact rest h' _ _ (fun b o hb q => k b o hb (hk₃ _ _ (hk₂ _ _ q))) e'
      · refine ⟨_, _, rfl, hz2, hz2, Calls.spliced_nil ⟨hu, mw_call hC₃ hx₃ hu (by show 1 ≤ sizeLine; decide) fun h' k e' => ?_⟩⟩
        exact rest h' _ _ (fun b o hb q => k b o hb (hk₃ _ _ (hk₂ _ _ q))) e'
/-- a made error -/
structure OwnMade (h h' : Heap) (e C d : Addr) (v : Value) : Prop where
  keep : ∀ b o, h.get? b = some o → h'.get? b = some o
  new : h.objs.size ≤ e
  obj : ∃ oe vs, h'.get? e = some oe ∧ oe.cls = .ref C ∧ oe.dict = some d ∧ oe.data = .fields vs ∧ vs[1]? = some .none
  dbig : h.objs.size ≤ d
  dne : d ≠ e
  ns : h'.Ns1 d (fun y => if y = "at" then some v else none)
theorem sup_made (T : SupTxt prog K mg C fI cc cd qual) {v : Value} (X : K.In s.heap) (M : L2.Mod K mg base) (kb : ∀ b o, base.get? b = some o → s.heap.get? b = some o) (hv : Shown v) (hroom : A.depth + 4 < recursionLimit)
    (hq : ∀ h' tk e d, OwnMade s.heap h' e C d v → R (.ok (.ret (.ref e))) { s with heap := h', toks := tk }) : codeAny (model prog w) A (.call (.ref C) ⟨[v], []⟩) R s := by
  obtain ⟨nm, qq, N, bs, bm, sn, sub, ab, col, dd, k0, k1, k2, k3, k5, hC, hbm⟩ := T.cls
  obtain ⟨hp, g, dr, tk, os⟩ := s
  have k : ∀ b o, hp.get? b = some o → ((hp.push (kdv_tup [v])).push (excO C hp.objs.size)).get? b = some o := fun b o e => Heap.get?_push_of_some _ (Heap.get?_push_of_some _ e)
  have hget : ((hp.push (kdv_tup [v])).push (excO C hp.objs.size)).get? (hp.objs.size + 1) = some (excO C hp.objs.size) := by heap_get
  have hnx : ∀ t, K.lookup (hp.objs.size + 1) ≠ some (excO C t) := fun t e => by
    have z : hp.get? (hp.objs.size + 1) = some (excO C t) := X _ _ e
    exact absurd (Nat.lt_of_succ_lt (Heap.lt_size z)) (Nat.lt_irrefl _)
  refine call_own F.excBase_ValueError (fun X => refsVE_contains X bm hbm) (X _ _ hC) (looks_findIn X T.iC) (fun self => bind_fn X self T.tI) (by show 1 ≤ sizeLine; decide) ?_
  refine sup_init (s := ⟨(hp.push (kdv_tup [v])).push (excO C hp.objs.size), g, dr, tk, os⟩) T (X.keeps k) M (fun b o e => k b o (kb b o e)) hget hnx hv ?_ fun h' tk' dx t1 ⟨k', hx, dn, dne, hns⟩ => ?_
  · show A.depth + 1 + 3 < recursionLimit
    omega
  · have old : ∀ b o, hp.get? b = some o → h'.get? b = some o := fun b o e => k' b o (Nat.ne_of_lt (Nat.lt_succ_of_lt (Heap.lt_size e))) (k b o e)
    have z : hp.objs.size + 1 + 1 ≤ dx := by
      first
        | exact dn
        | (simpa only [Heap.size_push] using dn)
        | (have q := dn; rw [Heap.size_push, Heap.size_push] at q; exact q)
    exact ⟨rfl, hq h' tk' (hp.objs.size + 1) dx ⟨old, Nat.le_succ _, ⟨_, _, hx, rfl, rfl, rfl, rfl⟩, Nat.le_trans (Nat.le_trans (Nat.le_succ _) (Nat.le_succ _)) z, dne, hns⟩⟩
end
end Ks
set_option maxHeartbeats 4000000
namespace Kw
open PySem PySem.Spec PyProof.Rows L2
theorem relO_at {v : V} {v' : Value} (r : RelV v v') (f : Str) : RelO (List.lookup f [(("at" : Str), v)]) (if f = "at" then some v' else none) := by
  by_cases hw : f = "at"
  · subst hw
    rw [if_pos rfl, show List.lookup ("at" : Str) [(("at" : Str), v)] = some v by simp [List.lookup]]
    exact r
  · rw [if_neg hw]
    have qw : (f == ("at" : Str)) = false := by simpa using hw
    rw [show List.lookup f [(("at" : Str), v)] = none by simp [List.lookup, qw]]
    trivial
/-- None, or an int of few digits -/
def ShownV (v : V) : Prop := v = .non ∨ ∃ i, v = .int i ∧ i.natAbs.log2 < 1920
theorem ShownV.val {v : V} {u : Value} (h : ShownV v) (r : RelV v u) : Ks.Shown u := by
  rcases h with rfl | ⟨i, rfl, hi⟩
  · exact .inl r
  · obtain ⟨t, rfl⟩ := r
    exact .inr ⟨i, t, rfl, hi⟩
section
variable {X : Cx} {C fI cc cd : Addr} {qual : Str}
/-- BadX(e) made -/
def tMkSup (C : Addr) (ta : TA) : L2.St → Hp → XK → Prop := fun σ H Q => ta σ H fun vs H1 => ∃ v, vs = [v] ∧ ShownV v ∧ ∀ d, H1 d = none → Q (.ref C) (some d) (upd H1 d (.xd [(("at" : Str), v)]))
theorem pmk_sup {x : Str} {a : Expr} {ta : TA} {p pos : Pos} {k : Nat} (T : Ks.SupTxt X.prog X.K X.mg C fI cc cd qual) (gC : X.mg x = some (.ref C)) (kC : PySem.W.keepIn X.K (.ref C) = true) (rC : Raises X (.ref C)) (hr : Room k X.A) (ha : PA X [a] ta) (hg : Gl X x := by rfl)
    (hdb : (x == ("__debug__" : Str)) = false := by decide) (he : starEach (a :: []) X.env = (false, eval a X.env) :: starEach [] X.env := by rfl) (hpl : (backTo pos (starEach [] X.env)).any (·.1) = false := by rfl) :
    PMk X (.Call (.Name x p) [a] [] pos) (tMkSup C ta) := by
  intro pins s σ H Q I h
  refine wpAny_Call_Name_kw (ld_glob I hg gC ?_ hdb)
  refine PySem.W.callWith_K (h₀ := X.base) I.ok.mod.kin kC (thn (ha.run pos pins s σ H _ I h) fun us s1 hh => ?_) he hpl
  obtain ⟨vs, H1, I1, r1, v, ev, sv, q1⟩ := hh
  subst ev
  refine ⟨I1.kIn, ?_⟩
  obtain ⟨u, rfl, rv⟩ := vals1 r1
  show wpAny _ _ (call (.ref C) [u]) _ _ _
  have kb := I1.bk
  have kin := I1.kIn
  obtain ⟨hp, g, dr, tk, os⟩ := s1
  refine wpAny_call (Ks.sup_made T kin I1.mod kb (sv.val rv) (by have := hr.dp; omega) fun h' tk' e d M => ?_)
  show MkP X pins σ Q (.ref e) ⟨h', g, dr, tk', os⟩
  obtain ⟨oe, fv, hoe, hc, hd, hdat, h1⟩ := M.obj
  obtain ⟨G', g1, g2⟩ := restrict h' fun b => decide (b ≠ e)
  have gk : ∀ b, b ≠ e → G'.get? b = h'.get? b := fun b hb => g1 b (decide_eq_true hb)
  have ge : G'.get? e = none := g2 e (by simp)
  have old : ∀ b o, hp.get? b = some o → G'.get? b = some o := fun b o q => (gk b (Nat.ne_of_lt (Nat.lt_of_lt_of_le (Heap.lt_size q) M.new))).trans (M.keep b o q)
  have ob : ObjOk X.prog X.w (upd H1 d (.xd [(("at" : Str), v)])) G' d (.xd [(("at" : Str), v)]) := ⟨_, M.ns.at (fun o q => (gk d M.dne).trans q), fun f => relO_at rv f⟩
  have J : Inv X pins σ (upd H1 d (.xd [(("at" : Str), v)])) ⟨G', g, dr, tk', os⟩ := I1.laid (t' := tk') old M.dbig ob
  refine ⟨e, oe, fv, ⟨G', g, dr, tk', os⟩, _, .ref C, some d, rfl, J, fun b o q => ?_, ge, hoe, ⟨hc, hd⟩, hdat, h1, ?_, rfl, I1.bare, rC, q1 d (I1.hok.fresh M.dbig)⟩
  · by_cases hb : b = e
    · have q' : G'.get? b = some o := q
      rw [hb, ge] at q'; cases q'
    · exact (gk b hb).symm.trans q
  · rw [upd_ne (Ne.symm M.dne)]
    exact I1.hok.fresh M.new
/-- raise BadX(e) -/
def tRaiseSup (C : Addr) (W : WX) (ta : TA) : TS := fun _ σ H => tMkSup C ta σ H fun cls d H' => W cls d σ H'
theorem ps_raiseSup {x : Str} {a : Expr} {ta : TA} {W : WX} {p pos pos2 : Pos} {k : Nat} (hc : X.calm = true) (T : Ks.SupTxt X.prog X.K X.mg C fI cc cd qual) (gC : X.mg x = some (.ref C)) (kC : PySem.W.keepIn X.K (.ref C) = true) (rC : Raises X (.ref C)) (hr : Room k X.A) (tk : Takes X W) (ha : PA X [a] ta) (hg : Gl X x := by rfl)
    (hdb : (x == ("__debug__" : Str)) = false := by decide) (he : starEach (a :: []) X.env = (false, eval a X.env) :: starEach [] X.env := by rfl) (hpl : (backTo pos (starEach [] X.env)).any (·.1) = false := by rfl) :
    PS X (.Raise (some (.Call (.Name x p) [a] [] pos)) none pos2) (tRaiseSup C W ta) := ps_raise hc tk (pmk_sup T gC kC rC hr ha hg hdb he hpl)
end
end Kw
set_option maxHeartbeats 4000000
namespace Kw
open PySem PySem.Spec PyProof.Rows L2
/-! ### a caught error kept as a value -/
/-- at a: an error of the class cls, its own dict d -/
def exA (cls : Value) (d : Option Addr) (a : Addr) : HO := .ext fun h => ∃ (oe : Obj) (vs : Array Value), h.get? a = some oe ∧ Zc cls d oe ∧ oe.data = .fields vs
theorem exA_ok {P : Program} {w : World} {H : Hp} {h : Heap} {a : Addr} {cls : Value} {d : Option Addr} {oe : Obj} {vs : Array Value} (e : h.get? a = some oe) (z : Zc cls d oe) (dd : oe.data = .fields vs) : ObjOk P w H h a (exA cls d a) :=
  ⟨⟨oe, vs, e, z, dd⟩, ⟨oe, e⟩, fun h1 h2 ⟨o1, v1, e1, z1, d1⟩ k => ⟨o1, v1, k _ e1, z1, d1⟩⟩
theorem exA_ne {cls : Value} {d : Option Addr} {a : Addr} {o : HO} (h : ∀ φ, o ≠ .ext φ) : exA cls d a ≠ o := fun z => h _ (by rw [← z]; rfl)
section
variable {X : Cx} {pins : List (Addr × Obj)} {σ : L2.St} {H : Hp} {s : Shared}
/-- an object that came while this def ran is tracked from here on -/
theorem track {a : Addr} {o : HO} {oe : Obj} {vs : Array Value} (I : Inv X pins σ H s) (he : s.heap.get? a = some oe) (hd : oe.data = .fields vs) (hn : H a = none) (h0 : X.s_0.heap.get? a = none) (hL : a ≠ X.env.locals) (hp : ∀ p ∈ X.pn ++ pins, p.1 ≠ a)
    (new : ObjOk X.prog X.w (upd H a o) s.heap a o) : Inv X pins σ (upd H a o) s where
  ok := I.ok
  os := I.os
  bare := I.bare
  base := {
    keep := fun b u q n hb hx => I.base.keep b u q n hb hx
    slot := fun b u q n hb hx => I.base.slot b u q n hb hx
    free := fun b u q n hx => by
      rw [upd_ne (fun z => by rw [z, h0] at q; cases q)]
      exact I.base.free b u q n hx
    there := fun b u q hx => I.base.there b u q hx
    tups := fun b xs q => by
      have q' := I.base.tups b xs q
      rw [upd_ne (ne_of_none q' hn)]
      exact q'
    frzs := fun b u xs q => by
      have q' := I.base.frzs b u xs q
      rw [upd_ne (ne_of_none q' hn)]
      exact q'
    tbls := fun b ps q => by
      obtain ⟨m, q'⟩ := I.base.tbls b ps q
      exact ⟨m, by rw [upd_ne (ne_of_none q' hn)]; exact q'⟩ }
  loc := I.loc
  cell := I.cell
  free := by
    rw [upd_ne hL.symm]
    exact I.free
  freeC := fun x c e => by
    obtain ⟨v, oc, ho, hdc⟩ := I.cell x c e
    rw [upd_ne (fun z => by rw [z, he] at ho; cases ho; rw [hd] at hdc; cases hdc)]
    exact I.freeC x c e
  pin := fun p hm => by
    obtain ⟨p1, p2, p3⟩ := I.pin p hm
    exact ⟨p1, by rw [upd_ne (hp p hm)]; exact p2, p3⟩
  hok := I.hok.laidN (fun _ _ q => q) hn new
  len := I.len
end
/-- except x as n: y = n; slots i of n, j of y -/
def wKeep (K : PySem.W.Frag) (c : Value) (i j : Nat) (Wout : WX) (D : Ends) : WX := fun cls d σ H =>
  ∃ b, PySem.W.exmOne K cls c = some b ∧ (b = true → ∀ a, H a = none → D.nx (((σ.set i (some (.ref a))).set j (some (.ref a))).set i none) (upd H a (exA cls d a))) ∧ (b = false → Wout cls d σ H)
section
variable {X : Cx} {x n y : Str} {c : Value} {i j : Nat} {body : List Stmt} {np n2 py pa pos pos' : Pos} {tb : WX → TS} {Wout : WX}
theorem ps_try_keep (hex : X.ex = []) (hstk : X.stack = X.env :: X.outer) (hfm : X.env.frame = some X.env.locals) (hN : X.N.Nodup) (hi : X.N[i]? = some n) (hj : X.N[j]? = some y) (hln : X.env.kindOf n = some .local) (hly : X.env.scope.names.lookup y = some .local) (hij : i < X.N.length) (hc : Names X x c) (tk : Takes X Wout)
    (hb : ∀ (W : WX) (pn : List (Addr × Obj)) (xe : Value → Shared → Prop), Takes (X.tr pn xe) W → PassesOwn (model X.prog X.w) X.A X.env xe → PSs (X.tr pn xe) body (tb W))
    (hsw : ∀ Y : Cx, Y.env = X.env → swapsWith (.Name n n2) (some (.Name y py)) pa.line Y.env = pure false) (hnd : (n == ("__debug__" : Str)) = false := by decide) (hnc : (n == ("__classdict__" : Str)) = false := by decide) :
    PS X (.Try body [.ExceptHandler (some (.Name x np)) (some n) [.Assign [.Name y py] (.Name n n2) pa] pos'] [] [] pos) (fun D σ H => tb (wKeep X.K c i j Wout D) D σ H) := by
  refine ⟨fun pins s σ H D I hyp => ?_⟩
  have okX := I.ok
  have frs' : X.A.frames = some (X.env :: X.outer) := okX.frames.trans (by rw [hstk])
  refine wpAny_Try_except ?_
  let hs1 : List ExceptHandler := [.ExceptHandler (some (.Name x np)) (some n) [.Assign [.Name y py] (.Name n n2) pa] pos']
  refine wpAny_mono ((hb (wKeep X.K c i j Wout D) (X.pn ++ pins) (fun e s₁ => wpAny (model X.prog X.w) X.A (noteFrame e X.env) (fun _ s₂ => wpAny (model X.prog X.w) X.A (setFlight e none)
    (fun _ s₃ => wpAny (model X.prog X.w) X.A (handleBy e X.env hs1) (SP X pins D) X.xe s₃) X.xe s₂) X.xe s₁) (fun u s' air => ?_) PassesOwn.looking).run [] s σ H D (I.toTry _) hyp) (fun fl s1 hsp => ?_) (fun e s1 he => he)
  · obtain ⟨a, B, sI, pins', σ', H', cls, d, rfl, J', nb, up, sky, na, os, ag, b, hb1, hyes, hno⟩ := air
    have J : Inv X pins σ' H' sI := J'.ofTry okX
    have sky2 : Sky B (X.env :: X.outer) a (Zc cls d) X.env.locals s'.heap := hstk ▸ sky
    show wpAny _ X.A (noteFrame (.ref a) X.env) _ _ _
    refine Sky.land Zc.steady frs' hfm sky2 fun h3 fl3 up3 => ?_
    have J3 : Inv X pins σ' H' { s' with heap := h3 } := J.landed nb fl3.1 (up.trans up3) os ag
    obtain ⟨oe3, vs3, he3, hz3, hd3⟩ := fl3.there
    have outF : ∀ {h : Heap} {o : Obj} {vs : Array Value}, h.FunFrames B (X.env :: X.outer) → h.get? a = some o → o.data = .fields vs → a ∉ L2.frs (X.env :: X.outer) := fun {h o vs} ff e dd hm => by
      obtain ⟨_, o', e', hnf⟩ := ff.mem hm
      cases e.symm.trans e'
      exact hnf _ dd
    have nfr := outF fl3.2.2.1 he3 hd3
    have nL : a ≠ X.env.locals := fun z => nfr (List.mem_filterMap.mpr ⟨X.env, .head _, hfm.trans (by rw [z])⟩)
    have nF : a ∉ X.fs := fun hm => by
      obtain ⟨e, he, q⟩ := List.mem_filterMap.mp hm
      exact nfr (List.mem_filterMap.mpr ⟨e, .tail _ he, q⟩)
    have sIn : sI.heap.get? a = none := by
      cases z : sI.heap.get? a with
      | none => rfl
      | some o => exact absurd (nb a o z (by rw [hstk]; exact nfr)) (by rw [fl3.2.1]; intro q; cases q)
    have s0n : X.s_0.heap.get? a = none := by
      cases z : X.s_0.heap.get? a with
      | none => rfl
      | some o =>
        obtain ⟨o', q⟩ := J.base.there a o z (by rw [hex]; simp)
        rw [sIn] at q
        cases q
    have pinn : ∀ p ∈ X.pn ++ pins, p.1 ≠ a := fun p hp z => by
      have q := (J.pin p hp).1
      rw [z, sIn] at q
      cases q
    have S3 := J3.suite he3 hd3 na nL nF
    refine wpAny_handleBy_cons (codeAny_handlers_test ?_) (fun q => by cases q)
    have LT : PySem.W.Looks (model X.prog X.w) h3 (typeOf (.ref a)) cls := fun A Q E s k q => wpAny_typeOf_ref (k _ _ he3) (hz3.1.symm ▸ q)
    have LM := PySem.W.exm_one (M := model X.prog X.w) (J3.kIn) LT hb1
    have test : ∀ {Q : Value → Shared → Prop} {E : Value → Shared → Prop}, Q c { s' with heap := h3 } → wpAny (model X.prog X.w) (X.A.mark (some (.ref a))) (eval (.Name x np) X.env) Q E { s' with heap := h3 } := by
      intro Q E q
      rcases hc with ⟨hg, hdbg, hm | ⟨hm, hv, hnn⟩⟩
      · exact ld_glob (X := X.suite a ((a, oe3) :: (X.pn ++ pins))) S3 hg hm q hdbg
      · exact ld_blt (X := X.suite a ((a, oe3) :: (X.pn ++ pins))) S3 hg hm hv q hnn hdbg
    refine test (LM.here ?_)
    cases b with
    | true =>
      refine codeAny_handlers_suite_as (HandSPX.lands_againZ fl3 fun h4 fl4 up4 => ?_)
      have J4 : Inv X pins σ' H' { s' with heap := h4 } := J.landed nb fl4.1 ((up.trans up3).trans up4) os ag
      obtain ⟨oe4, vs4, he4, hz4, hd4⟩ := fl4.there
      have S4 := J4.suite he4 hd4 na nL nF
      refine store_ok (X := X.suite a ((a, oe4) :: (X.pn ++ pins))) (v := .ref a) S4 hN hi (.inl hln) rfl (fun s5 S5 => ?_) (.inr hln)
      have bodyP : PSs (X.suite a ((a, oe4) :: (X.pn ++ pins))) [.Assign [.Name y py] (.Name n n2) pa] (tAsg (tVar i) (gName j)) :=
        pss_one (ps_set (i := j) hN hj (.inl hly) (pe_var (i := i) hi (.inl hln) hnd hnc) (hsw _ rfl) (.inr hly))
      have ilen : i < σ'.length := by rw [J.len]; exact hij
      refine wpAny_mono (bodyP.run [] s5 _ H' { nx := fun σ6 H6 => D.nx (σ6.set i none) (upd H6 a (exA cls d a)), rt := fun _ _ => False, bk := fun _ _ => False, ct := fun _ _ => False } S5 ⟨.ref a, by rw [List.getElem?_set_self ilen], hyes rfl a na⟩) (fun f s6 hsp => ?_) (fun _ _ z => False.elim z)
      cases f with
      | next =>
        obtain ⟨σ6, H6, S6, q6⟩ := hsp
        have pa6 := S6.pin (a, oe4) (by simp)
        have J6 := track (o := exA cls d a) (S6.unsuite okX) pa6.1 hd4 pa6.2.1 s0n nL pinn (exA_ok pa6.1 hz4 hd4)
        exact gone_ok J6 hN hi hln fun s7 J7 => ⟨_, _, J7, q6⟩
      | brk => obtain ⟨σ6, H6, S6, q6⟩ := hsp; exact q6.elim
      | cont => obtain ⟨σ6, H6, S6, q6⟩ := hsp; exact q6.elim
      | ret u => obtain ⟨v6, σ6, H6, S6, r6, q6⟩ := hsp; exact q6.elim
    | false =>
      show wpAny _ X.A (handleBy (.ref a) X.env []) _ _ _
      refine wpAny_handleBy_nil ?_
      obtain ⟨k1, k2, k3, oe, vs, T, oT, ts', he, hz, hd, h1, hr⟩ := id fl3
      unfold PySem.passOn
      refine wpAny_bind (wpAny_field he hd h1 ?_)
      rw [if_neg (show ¬ ((Value.ref T == Value.none) = true) by simp)]
      have fin : wpAny (model X.prog X.w) X.A (setFlight (.ref a) X.env.frame) (fun _ s4 => wpAny (model X.prog X.w) X.A (throw (.ref a) : Sem Flow) (SP X pins D) X.xe s4) X.xe { s' with heap := h3 } := by
        rw [hfm]
        exact HandSPX.setFlight_upZ fl3 fun h4 hh4 up4 => wpAny_throw (tk _ _ ⟨a, B, sI, pins, σ', H', cls, d, rfl, J, nb, (up.trans up3).trans up4, .inr (.inr (by rw [hstk]; exact hh4)), na, os, ag, hno rfl⟩)
      first
        | exact wpAny_bind fin
        | exact wpAny_bind (wpAny_pure (wpAny_bind fin))
  · cases fl with
    | next => exact let ⟨τ, G, K1, z⟩ := hsp; wpAny_execs_nil ⟨τ, G, K1.ofTry okX, z⟩
    | brk => exact let ⟨τ, G, K1, z⟩ := hsp; ⟨τ, G, K1.ofTry okX, z⟩
    | cont => exact let ⟨τ, G, K1, z⟩ := hsp; ⟨τ, G, K1.ofTry okX, z⟩
    | ret u => exact let ⟨v, τ, G, K1, rr, z⟩ := hsp; ⟨v, τ, G, K1.ofTry okX, rr, z⟩
end
end Kw
set_option maxHeartbeats 4000000
namespace Kw
open PySem PySem.Spec PyProof.Rows L2
/-- a kept error of the class at C; v: its one field, if it has a dict -/
def IsExc (H : Hp) (x : V) (C : Addr) (v : Option V) : Prop := ∃ (a : Addr) (d : Option Addr), x = .ref a ∧ H a = some (exA (.ref C) d a) ∧
  match v with
  | none => d = none
  | some v => ∃ dd, d = some dd ∧ H dd = some (.xd [(("at" : Str), v)])
section
variable {X : Cx} {pins : List (Addr × Obj)} {σ : L2.St} {H : Hp} {s : Shared}
theorem exc_inst {a C : Addr} {d : Option Addr} (I : Inv X pins σ H s) (ha : H a = some (exA (.ref C) d a)) (hd : ∀ dd, d = some dd → ∃ fs, H dd = some (.xd fs)) : ∃ ox od, PySem.W.InstAt s.heap a ox C od ∧ ∀ dd, d = some dd → ∃ o, od = some o ∧ s.heap.get? dd = some o := by
  obtain ⟨⟨oe, vs, he, hz, hdt⟩, _⟩ := I.hok a _ ha
  have nc : PySem.W.notCls oe = true := by unfold PySem.W.notCls; rw [hdt] <;> rfl
  cases d with
  | none => exact ⟨oe, none, ⟨he, hz.1, nc, by rw [hz.2]; trivial⟩, fun dd e => by cases e⟩
  | some dd =>
    obtain ⟨fs, hdd⟩ := hd dd rfl
    obtain ⟨mA, hns, hr⟩ : ObjOk X.prog X.w H s.heap dd (.xd fs) := I.hok dd _ hdd
    obtain ⟨o, es, ep, ho, _⟩ := id hns
    exact ⟨oe, some o, ⟨he, hz.1, nc, by rw [hz.2]; exact ho⟩, fun d' e => by cases e; exact ⟨o, rfl, ho⟩⟩
/-- isinstance(e, c) of a kept error -/
theorem call_isX {C : Addr} (T : ExcC X.K C) : CallR X (.builtin "isinstance") (fun xs H Q => ∃ (x c : V) (v : Option V) (cv : Value) (b : Bool), xs = [x, c] ∧ IsExc H x C v ∧ ClsV c cv ∧ PySem.W.kitOne X.K (.ref C) cv = some b ∧ Q (.bl b) H) := by
  intro pins s σ H xs us Q I r h
  obtain ⟨x, c, v, cv, b, rfl, ⟨a, d, rfl, ha, hv⟩, hc, e, q⟩ := h
  obtain ⟨u1, u2, rfl, r1, r2⟩ := vals2 r
  cases (show u1 = Value.ref a from r1)
  have ec := hc.eq r2
  subst ec
  obtain ⟨ox, od, J, _⟩ := exc_inst I ha fun dd ed => by
    cases v with
    | none => rw [show d = none from hv] at ed; cases ed
    | some v =>
      obtain ⟨d2, e2, h2⟩ := hv
      rw [e2] at ed
      cases ed
      exact ⟨_, h2⟩
  have hcl : (PySem.W.clsIn X.K C).isSome = true := by
    obtain ⟨cd, hcd, _⟩ := PySem.W.any_some T.hd
    rw [hcd]
    rfl
  exact PySem.W.kia_one (PySem.W.kitx_exc hcl T.hg T.hk T.hs T.ha T.hn T.ht T.hm) I.kIn J e (fun z => nomatch z) fun tk => ⟨.bl b, H, I.kept (t' := tk) fun _ _ z => z, rfl, q⟩
/-- e.at of a kept error -/
def tXat (C : Addr) (te : TE) : TE := fun σ H Q => te σ H fun x H1 => ∃ v, IsExc H1 x C (some v) ∧ Q v H1
theorem pe_xat {C : Addr} {e : Expr} {te : TE} {pos : Pos} (T : XfC X.K C) (hno : PySem.W.findIn X.K (.ref C) "at" = some none) (he : PE X e te) (hb : attributeBase e "at" X.env (eval e X.env) = eval e X.env := by rfl) : PE X (.Attribute e "at" pos) (tXat C te) := by
  refine ⟨fun pins s σ H Q I h => ?_⟩
  refine attr_of hb (thn (he.run pins s σ H _ I h) fun u s1 hh => ?_)
  obtain ⟨x, H1, I1, rx, v, ⟨a, d, rfl, ha, dd, rfl, hdd⟩, q⟩ := hh
  cases (show u = Value.ref a from rx)
  obtain ⟨mA, hns, hr⟩ : ObjOk X.prog X.w H1 s1.heap dd (.xd [(("at" : Str), v)]) := I1.hok dd _ hdd
  obtain ⟨od, ho, hl⟩ := lookIn_ns hns
  have l : List.lookup ("at" : Str) [(("at" : Str), v)] = some v := by simp [List.lookup]
  obtain ⟨u, hu, ru⟩ := RelO.some_of (v := v) (o := mA "at") (by rw [← l]; exact hr "at")
  obtain ⟨⟨oe, vs, he, hz, hdt⟩, _⟩ := I1.hok a _ ha
  have J : PySem.W.InstAt s1.heap a oe C (some od) := ⟨he, hz.1, by unfold PySem.W.notCls; rw [hdt] <;> rfl, by rw [hz.2]; exact ho⟩
  exact HandSPX.exc_get I1.kIn J T.ga T.gg T.exC (PySem.W.findObj_own T.hdC hno rfl (by rw [hl, hu])) (handed_of ru) ⟨v, H1, I1.tok _, ru, q⟩
end
end Kw
set_option maxHeartbeats 4000000
namespace Kw
open PySem PySem.Spec PyProof.Rows L2 LamX
abbrev sCaught : Stmt := top 49
theorem scCaught : FnScope ["_law_task", "_law_caught_here", "_law_error"] ["_law_task"] (defScope sCaught) := ⟨rfl, rfl, rfl, by decide +kernel, rfl, by decide +kernel, by decide +kernel⟩
/-- an exception's slots are as many as the names -/
theorem Takes.len {X : Cx} {W : WX} (tk : Takes X W) : Takes X (fun cls d σ H => σ.length = X.N.length → W cls d σ H) := fun u s' ⟨a, B, sI, pins, σ, H, cls, d, e, I, nb, up, sky, na, os, ag, wi⟩ =>
  tk u s' ⟨a, B, sI, pins, σ, H, cls, d, e, I, nb, up, sky, na, os, ag, wi I.len⟩
/-- what the catcher makes of its task: None, or the error, kept -/
def TTc (K : PySem.W.Frag) (CE : Addr) : (XK → Hp → VK → Prop) → Hp → VK → Prop := fun tl H Q =>
  tl (fun cls d H' => PySem.W.exmOne K cls (.ref CE) = some true ∧ ∀ a, H' a = none → Q (.ref a) (upd H' a (exA cls d a))) H (fun _ H' => ∃ x, (some (some V.non) : Option (Option V)) = some (some x) ∧ Q x H')
theorem caught_gives {X : Cx} {g CE : Addr} {cdg : Value} {q : Str} (gE : X.mg "KitError" = some (.ref CE)) :
    GivesTo X ["_law_task", "_law_caught_here", "_law_error"] "_law_caught" (defScope sCaught) g cdg (defBody sCaught) "_law_task" q (TTc X.K CE) := by
  intro f c' s H Q tl act hc h
  let Y : Cx := (cxOf C8.CX0 X.prog X.w X.K X.mg X.base ["_law_task", "_law_caught_here", "_law_error"] "_law_caught" (defScope sCaught) g cdg X.A X.stack s H C8.E0).nox
  refine ⟨_, pss_cons (X := Y) (ps_set (i := 1) scCaught.nd rfl (.inl rfl) pe_non)
    (pss_cons (ps_try_keep (X := Y) (i := 2) (j := 1) (c := .ref CE) (tb := fun W D σ H => ∃ Ech : XK, (∀ cls d σ' H', σ'.length = 3 → Ech cls d H' → W cls d σ' H') ∧ σ[0]? = some (some (.ref f)) ∧ H c' = some (CodeO c' q) ∧ tl Ech H (fun _ H' => D.nx σ H'))
      rfl rfl rfl scCaught.nd rfl rfl rfl rfl (by show 2 < 3; decide) ⟨rfl, by decide, .inl gE⟩ L2.takes0 (fun W pn xe tk _ => ?_) (fun Z e => by rw [e]; rfl)) (pss_one (ps_ret (pv 1)))), ?_⟩
  · refine ⟨fun pins s' σ H D I h' => ?_⟩
    obtain ⟨Ech, hW, h1, h2, h3⟩ := h'
    exact (pss_one (ps_expr (act (fun cls d σ H => σ.length = 3 → W cls d σ H) pn xe Ech _ _ (Takes.len tk) (fun cls d σ' H' e hl => hW cls d σ' H' hl e)))).run pins s' σ H D I ⟨h1, h2, h3⟩
  · refine ⟨fun cls d H' => PySem.W.exmOne X.K cls (.ref CE) = some true ∧ ∀ a, H' a = none → Q (.ref a) (upd H' a (exA cls d a)), fun cls d σ' H' hl e => ⟨true, e.1, fun _ a ha => ?_, fun z => Bool.noConfusion z⟩, rfl, hc, ?_⟩
    · refine ⟨.ref a, ?_, e.2 a ha⟩
      match σ', hl with
      | [x, y, z], _ => rfl
    · exact h
end Kw
set_option maxHeartbeats 4000000
/-! a lambda of one parameter, handed to a def as its second argument and called there -/
namespace Kw
open PySem PySem.Spec PyProof.Rows L2 LamX
/-- the lambda's names: its parameter p, captured ones, globals -/
structure LamP (sc scope : Scope) (p : Str) : Prop where
  kind : scope.kind = .function
  co : scope.isCoroutine = false
  gen : scope.isGenerator = false
  par : scope.names.lookup p = some .local
  one : ∀ y, scope.names.lookup y = some .local → y = p
  nocell : ∀ y ∈ scope.names, y.2 ≠ .cell
  free : ∀ y ∈ scope.names, y.2 = .free → sc.names.lookup y.1 = some .cell ∨ sc.names.lookup y.1 = some .free
section
variable {X : Cx} {pins : List (Addr × Obj)} {σ : L2.St} {H HZ : Hp} {s s1 : Shared}
theorem LamP.has {scope : Scope} {p : Str} (L : LamP X.env.scope scope p) (ok : X.Ok) : ∀ y ∈ scope.names, y.2 = .free → ∃ c, X.env.cells.lookup y.1 = some c := fun y hy e => (L.free y hy e).elim (fun k => ok.has _ (.inl k)) fun k => ok.has _ (.inr k)
theorem lam_startP {A : Around} {outer : List Env} {E : XK} {scope : Scope} {p : Str} {j : Nat} {v : V} {u : Value} {f c' : Addr} {h₁ : Heap} {tk : Nat} (I : Inv X pins σ H s) (L : LamP X.env.scope scope p) (hN : X.N.Nodup) (hj : X.N[j]? = some p) (rv : RelV v u)
    (e0 : Env0 X.prog X.w X.K X.mg X.base A outer s1 HZ) (hd : A.handled = none) (un : Un (frs X.stack) [] H HZ s.heap s1.heap) (hns : h₁.Ns s1.heap.objs.size fun y => [(p, u)].reverse.lookup y) (kp : ∀ b o, s1.heap.get? b = some o → h₁.get? b = some o) :
    Inv (lamCx X A outer s1 HZ E scope f c') [] (σ.set j (some v)) HZ { s1 with heap := h₁, toks := tk } := by
  have hasC := L.has I.ok
  have cm : ∀ {y c}, (cloFrom X.env.cells scope.names []).lookup y = some c → X.env.cells.lookup y = some c := fun {y c} e => by
    rcases cloFrom_mem (PySem.mem_of_lookup e) with hm | ⟨h1, h2⟩
    · cases hm
    · obtain ⟨c1, hc⟩ := hasC _ h1 rfl
      have hc' : X.env.cells.lookup y = some c1 := hc
      rw [hc'] at h2 ⊢
      rw [h2]
      rfl
  have look : ∀ {y}, scope.names.lookup y = some .free → ∃ c, (cloFrom X.env.cells scope.names []).lookup y = some c := fun {y} hl =>
    mem_lookup (cloFrom_has (cells := X.env.cells) (acc := []) (show (y, NameKind.free) ∈ scope.names from PySem.mem_of_lookup hl))
  have cellK : ∀ {c : Addr} {v : Option Value}, H c = none → s.heap.IsCell c v → h₁.IsCell c v := fun {c v} n ⟨o, ho, hd⟩ => by
    obtain ⟨sl, q⟩ := un.any ho n (by simp)
    exact ⟨_, kp _ _ q, hd⟩
  have noA : ∀ b : Addr, b ∉ (lamCx X A outer s1 HZ E scope f c').ex := fun b z => absurd (show b ∈ ([] : List Addr) from z) (by simp)
  have noCell : ∀ y, scope.names.lookup y ≠ some .cell := fun y h => L.nocell _ (PySem.mem_of_lookup h) rfl
  refine ⟨⟨e0.mod, L.kind, rfl, rfl, Nat.le_refl _, fun y z c e1 e2 => I.ok.inj y z c (cm e1) (cm e2), fun y hy => ?_, fun y c z _ => (Bool.noConfusion (show false = true from z)), fun _ => hd, Around.frames_deeper e0.frames, .inr ⟨rfl, rfl⟩, fun b z => absurd z (noA b), e0.bs, e0.bsz, fun b _ _ => noA b,
      fun b z => absurd z (noA b), e0.funs, e0.frf⟩,
    rfl, e0.bare, Un.kept kp, ⟨_, hns, fun i y v' e1 e2 e3 => ?_⟩, fun y c e => ?_, e0.hok.fresh (Nat.le_refl _), fun y c e => ?_, fun q hq => absurd (show q ∈ ([] : List (Addr × Obj)) ++ [] from hq) (by simp), e0.hok.kept kp, by rw [List.length_set]; exact I.len⟩
  · have hy : scope.names.lookup y = some .cell ∨ scope.names.lookup y = some .free := hy
    exact hy.elim (fun h => absurd h (noCell y)) look
  · have e3 : Vis scope y := e3
    have e1 : X.N[i]? = some y := e1
    rcases e3 with k | k | k
    · obtain rfl := L.one y k
      obtain rfl : i = j := by
        obtain ⟨i1, i2⟩ := List.getElem?_eq_some_iff.mp e1
        obtain ⟨j1, j2⟩ := List.getElem?_eq_some_iff.mp hj
        exact (List.getElem_inj hN).mp (i2.trans j2.symm)
      have hi : i < σ.length := by rw [I.len]; exact (List.getElem?_eq_some_iff.mp e1).1
      rw [List.getElem?_set_self hi] at e2
      obtain rfl := Option.some.inj (Option.some.inj e2)
      exact ⟨u, rv, .inl ⟨k, by simp⟩⟩
    · exact absurd k (noCell y)
    · have hij : j ≠ i := fun z => by
        subst z
        rw [hj] at e1
        obtain rfl := Option.some.inj e1
        rw [L.par] at k
        cases k
      rw [List.getElem?_set_ne hij] at e2
      obtain ⟨m, hn, hl⟩ := I.loc
      have hvis : Vis X.env.scope y := (L.free _ (PySem.mem_of_lookup k) rfl).elim (fun k => .inr (.inl k)) (fun k => .inr (.inr k))
      obtain ⟨w', r, q⟩ := hl i y v' e1 e2 hvis
      obtain ⟨c2, h2⟩ := look k
      refine ⟨w', r, .inr ⟨.inr k, c2, h2, ?_⟩⟩
      have c1 := cm h2
      rcases q with ⟨k', _⟩ | ⟨_, c3, e', z⟩
      · have k' : X.env.scope.names.lookup y = some .local := k'
        rcases L.free _ (PySem.mem_of_lookup k) rfl with k2 | k2 <;> (rw [show X.env.scope.names.lookup y = _ from k2] at k'; cases k')
      · rw [c1] at e'
        cases e'
        exact cellK (I.freeC y _ c1) z
  · obtain ⟨w', z⟩ := I.cell y c (cm e)
    exact ⟨w', cellK (I.freeC y c (cm e)) z⟩
  · obtain ⟨v', o, ho, hd'⟩ := I.cell y c (cm e)
    exact un.free c o ho (I.freeC y c (cm e)) (by simp)
end
end Kw
set_option maxHeartbeats 4000000
namespace Kw
open PySem PySem.Spec PyProof.Rows L2 LamX
/-- the context of the def that got the lambda -/
abbrev gotCx (X : Cx) (Ng : List Str) (x : Str) (sg : Scope) (g : Addr) (cdg : Value) (s : Shared) (H : Hp) : Cx := (cxOf C8.CX0 X.prog X.w X.K X.mg X.base Ng x sg g cdg X.A X.stack s H C8.E0).nox
section
variable {X : Cx} {pins : List (Addr × Obj)} {σ : L2.St} {H : Hp} {s : Shared}
/-- a(e), in the def that got the lambda as a -/
theorem pe_actP {Ng : List Str} {qg : Str} {sg : Scope} {g f c' : Addr} {cdg pm ctv : Value} {params : Arguments} {body : Expr} {scope : Scope} {k i j : Nat} {a p : Str} {tb : TE} {e : Expr} {te : TE} {p1 p2 : Pos}
    (I : Inv X pins σ H s) (L : LamP X.env.scope scope p) (hNX : X.N.Nodup) (hj : X.N[j]? = some p) (hf : s.heap.get? f = some (PySem.W.kla_obj "<lambda>" (X.env.qual ++ "<lambda>") params body scope (cloFrom X.env.cells scope.names []) pm c' ctv)) (hfn : H f = none) (hfr : f ∉ frs X.stack)
    (hbind : ∀ u : Value, bindArgs (PySem.W.kla_fn "<lambda>" (X.env.qual ++ "<lambda>") params body scope (cloFrom X.env.cells scope.names []) pm (.ref c') ctv) ⟨[u], []⟩ = pure [(p, u)]) (hr : Room (k + 1) (X.A.deeper (envOfC qg sg s.heap.objs.size g cdg)))
    (hbody : ∀ (A : Around) (outer : List Env) (s : Shared) (H : Hp), Room k (A.deeper (lamEnv X scope s.heap.objs.size f c')) → PE (lamCx X A outer s H C8.E0 scope f c') body tb)
    (hN : Ng[i]? = some a) (hv : Vis sg a) (he : PE (gotCx X Ng qg sg g cdg s H) e te) (hs : starEach [e] (gotCx X Ng qg sg g cdg s H).env = (false, eval e (gotCx X Ng qg sg g cdg s H).env) :: starEach [] (gotCx X Ng qg sg g cdg s H).env)
    (hd : (a == ("__debug__" : Str)) = false := by decide) (hcd : (a == ("__classdict__" : Str)) = false := by decide) :
    PE (gotCx X Ng qg sg g cdg s H) (.Call (.Name a p1) [e] [] p2)
      (fun σZ HZ Q => σZ[i]? = some (some (.ref f)) ∧ te σZ HZ fun v H1 => H1 c' = some (CodeO c' (X.env.qual ++ "<lambda>")) ∧ tb (σ.set j (some v)) H1 Q) := by
  refine ⟨fun pinsZ sZ σZ HZ Q IZ h => ?_⟩
  obtain ⟨hs0, ht⟩ := h
  refine wpAny_Call_Name_kw (thn ((pe_var (pos := p1) (i := i) hN hv hd hcd).run pinsZ sZ σZ HZ (fun v H1 => v = .ref f ∧ H1 = HZ) IZ ⟨.ref f, hs0, rfl, rfl⟩) fun u s0 ⟨v, H0, I0, r0, q0⟩ => ?_)
  obtain ⟨ev, eH⟩ := q0
  subst ev
  rw [eH] at I0
  obtain rfl : u = Value.ref f := r0
  have ofAt : ∀ {s1 : Shared} {H1 : Hp}, Inv (gotCx X Ng qg sg g cdg s H) pinsZ σZ H1 s1 → s1.heap.get? f = some (PySem.W.kla_obj "<lambda>" (X.env.qual ++ "<lambda>") params body scope (cloFrom X.env.cells scope.names []) pm c' ctv) :=
    fun I1 => I1.base.keep f _ hf hfn hfr (fun z => nomatch (show f ∈ ([] : List Addr) from z))
  refine PySem.W.callWith_F ⟨_, _, _, _, ofAt I0⟩ ?_ hs (by rfl)
  rw [hs]
  show wpAny _ _ (spliced ((false, eval e (gotCx X Ng qg sg g cdg s H).env) :: [])) _ _ s0
  refine Calls.spliced_cons (thn (he.run pinsZ s0 σZ HZ _ I0 ht) fun u s1 ⟨v, H1, I1, rv, hc, q1⟩ => Calls.spliced_nil ⟨⟨_, _, _, _, ofAt I1⟩, ?_⟩)
  have of1 := ofAt I1
  have un : Un (frs X.stack) [] H H1 s.heap s1.heap := I1.base
  obtain ⟨⟨oc, vs, t, hoc, hdc, hvc⟩, _, _⟩ := I1.hok c' _ hc
  have rc : codeAny (model X.prog X.w) (X.A.deeper (envOfC qg sg s.heap.objs.size g cdg)) (.call (.ref f) ⟨[u], []⟩) (CR (L2.CX X.prog X.w) (envOfC qg sg s.heap.objs.size g cdg :: X.stack) X.prog X.w H1 s1 Q C8.E0) s1 := by
    refine PySem.W.kla_callFunE hr.depth of1 rfl L.co L.gen rfl ⟨c', oc, vs, t, rfl, hoc, hdc, hvc⟩ ?_
    rw [hbind]
    refine wpAny_pure (wpAny_newFunctionEnv (fun y hy => L.nocell y hy) (fun y hy => by
      obtain rfl := List.mem_singleton.mp hy
      exact L.par) (fun h₁ hns hsb => ⟨I1.nolimit.fresh _ hsb, ?_⟩) L.kind)
    show codeAny _ _ (.expr body (lamEnv X scope s1.heap.objs.size f c')) _ _
    have kp : ∀ b o, s1.heap.get? b = some o → h₁.get? b = some o := fun b o q => hsb.extBut b o (Nat.ne_of_lt (Heap.lt_size q)) (Heap.get?_push_of_some _ q)
    have J := lam_startP (A := X.A.deeper (envOfC qg sg s.heap.objs.size g cdg)) (outer := envOfC qg sg s.heap.objs.size g cdg :: X.stack) (E := C8.E0) (f := f) (c' := c') (tk := s1.toks + 1) I L hNX hj rv I1.env0 hr.hd un hns kp
    refine PySem.W.kla_codeExpr (wpAny_mono ((hbody _ _ s1 H1 (hr.deeper _)).run [] _ _ H1 Q J q1) (fun v' s' hq => ?_) fun e' s' hq => hq)
    obtain ⟨w', H', J', rv', q'⟩ := hq
    exact ⟨w', H', J'.os, J'.bare, J'.base, J'.hok, rv', q'⟩
  refine wpAny_call (codeAny_mono rc fun r s' hq => ?_)
  cases r with
  | error e' =>
    obtain ⟨_, _, _, _, _, _, _, _, _, _, _, _, z⟩ := hq
    exact z.elim
  | ok fl =>
    cases fl with
    | ret u => exact I1.after hq
    | next => exact False.elim hq
    | brk => exact False.elim hq
    | cont => exact False.elim hq
end
end Kw
set_option maxHeartbeats 4000000
namespace Kw
open PySem PySem.Spec PyProof.Rows L2 LamX
/-- the def x (its second parameter a) that calls what it got with one argument; TT: what it makes of the lambda's reading -/
def GivesP (X : Cx) (Ng : List Str) (x : Str) (sg : Scope) (g : Addr) (cdg : Value) (bg : List Stmt) (a : Str) (q : Str) (TT : (V → Hp → VK → Prop) → V → Hp → VK → Prop) : Prop :=
  ∀ (f c' : Addr) (v1 : V) (s : Shared) (H : Hp) (Q : VK) (tl : V → Hp → VK → Prop), Room 1 (gotCx X Ng x sg g cdg s H).A →
    (∀ (e : Expr) (te : TE) (p1 p2 : Pos), PE (gotCx X Ng x sg g cdg s H) e te → starEach [e] (gotCx X Ng x sg g cdg s H).env = (false, eval e (gotCx X Ng x sg g cdg s H).env) :: starEach [] (gotCx X Ng x sg g cdg s H).env →
      PE (gotCx X Ng x sg g cdg s H) (.Call (.Name a p1) [e] [] p2) (fun σZ HZ Q => σZ[1]? = some (some (.ref f)) ∧ te σZ HZ fun v H1 => H1 c' = some (CodeO c' q) ∧ tl v H1 Q)) →
    H c' = some (CodeO c' q) → TT tl v1 H Q →
    ∃ t, PSs (gotCx X Ng x sg g cdg s H) bg t ∧ t { nx := fun _ H' => Q .non H', rt := Q } (L2.start Ng [v1, .ref f]) H
def tLamP (T : List (Addr × Str)) (TT : (V → Hp → VK → Prop) → V → Hp → VK → Prop) (t1 tb : TE) (j : Nat) : TE := fun σ H Q => t1 σ H fun v1 H0 => Tabs T H0 ∧ ∀ H1, ExtN H0 H1 → Tabs T H1 → TT (fun v H' Q' => tb (σ.set j (some v)) H' Q') v1 H1 Q
section
variable {X : Cx}
/-- x(e1, lambda p: body) -/
theorem pe_lamcallP {T : List (Addr × Str)} {TT : (V → Hp → VK → Prop) → V → Hp → VK → Prop} {x a b lp : Str} {g c P : Addr} {k j : Nat} {pg : Arguments} {bg : List Stmt} {sg : Scope} {dV kV doc pm cdv ct oc : Value} {an od : Option Addr} {osl : Array (Option Value)} {Ng : List Str}
    {params : Arguments} {body e1 : Expr} {scope : Scope} {t1 tb : TE} {p lpos pos : Pos} (hg : Gl X x) (hm : X.mg x = some (.ref g)) (hk : PySem.W.keepIn X.K (.ref g) = true)
    (lk : X.K.lookup g = some ⟨oc, od, .func (PySem.W.fnOf x x pg bg sg dV kV doc pm an cdv ct), osl⟩) (hcg : PySem.W.codeIn X.K cdv x = true) (hb : L2.Binds X.K (PySem.W.fnOf x x pg bg sg dV kV doc pm an cdv ct) [b, a] []) (Sg : FnScope Ng [b, a] sg) (hNg : Ng[1]? = some a) (hva : Vis sg a)
    (hG : GivesP X Ng x sg g cdv bg a (X.env.qual ++ "<lambda>") TT)
    (TB : TabB X.base X.mg c P) (hcode : X.env.code = .ref c) (hmT : (P, X.env.qual ++ "<lambda>") ∈ T) (hu : ∀ p ∈ T, p.1 = P → p.2 = X.env.qual ++ "<lambda>") (hr : Room (k + 3) X.A) (L : LamP X.env.scope scope lp) (hNX : X.N.Nodup) (hj : X.N[j]? = some lp) (hdef : defaultsOf params X.env = ([], []))
    (hbind : ∀ (q : Str) (cl : List (Str × Addr)) (pm cv ctv : Value) (u : Value), bindArgs (PySem.W.kla_fn "<lambda>" q params body scope cl pm cv ctv) ⟨[u], []⟩ = pure [(lp, u)])
    (h1 : PE X e1 t1) (hbody : ∀ (A : Around) (outer : List Env) (s : Shared) (H : Hp) (f c' : Addr), Room k (A.deeper (lamEnv X scope s.heap.objs.size f c')) → PE (lamCx X A outer s H C8.E0 scope f c') body tb)
    (hs : starEach [e1, .Lambda params body scope lpos] X.env = (false, eval e1 X.env) :: (false, eval (.Lambda params body scope lpos) X.env) :: [] := by rfl)
    (hdb : (x == ("__debug__" : Str)) = false := by decide) (hd : (a == ("__debug__" : Str)) = false := by decide) (hcd : (a == ("__classdict__" : Str)) = false := by decide) :
    PE X (.Call (.Name x p) [e1, .Lambda params body scope lpos] [] pos) (tLamP T TT t1 tb j) := by
  refine ⟨fun pins s σ H Q I h => ?_⟩
  refine wpAny_Call_Name_kw (ld_glob I hg hm ?_ hdb)
  have hs2 : starEach [e1, .Lambda params body scope lpos] X.env = (false, eval e1 X.env) :: starEach [.Lambda params body scope lpos] X.env := by rw [hs]; rfl
  refine PySem.W.callWith_K (h₀ := X.base) I.ok.mod.kin hk ?_ hs2 (by rfl)
  rw [hs]
  show wpAny _ _ (spliced ((false, eval e1 X.env) :: (false, eval (.Lambda params body scope lpos) X.env) :: [])) _ _ s
  refine Calls.spliced_cons (thn (h1.run pins s σ H _ I h) fun u1 s0 ⟨v1, H0, I0, rv1, hT, hq0⟩ => ?_)
  refine Calls.spliced_cons (lam_make2 I0 TB hcode hmT hu hT hdef (L.has I0.ok) fun f c' pm' ctv H1 s' I1 eN T1 hf hfn hfr hco => Calls.spliced_nil ⟨I1.kIn, ?_⟩)
  have rc : codeAny (model X.prog X.w) X.A (.call (.ref g) ⟨[u1, .ref f], []⟩) (CR C8.CX0 X.stack X.prog X.w H1 s' Q C8.E0) s' := by
    refine run_ofS (N := Ng) (ps := [b, a]) (us := [u1, .ref f]) (vs := [v1, .ref f]) (hr.mono (j := (k + 1) + 1) (by omega) |> fun r => lk) hcg Sg (hr.mono (j := (k + 1) + 1) (by omega)) I1.env0 (hb s' [u1, .ref f] I1.kIn rfl) (.cons rv1 (.cons rfl .nil)) rfl fun hr' => ?_
    obtain ⟨t', ht', hq'⟩ := hG f c' v1 s' H1 Q (fun v H' Q' => tb (σ.set j (some v)) H' Q') (hr'.mono (by omega))
      (fun e te p1 p2 he hse => pe_actP I1 L hNX hj hf hfn hfr (hbind _ _ _ _ _) hr' (fun A outer s H hr2 => hbody A outer s H f c' hr2) hNg hva he hse hd hcd) hco (hq0 H1 eN T1)
    exact ⟨t', ht'.nox, hq'⟩
  refine wpAny_call (codeAny_mono rc fun r s2 hq => ?_)
  cases r with
  | error e => exact (show False from hq).elim
  | ok fl =>
    cases fl with
    | ret u => exact I1.after hq
    | next => exact False.elim hq
    | brk => exact False.elim hq
    | cont => exact False.elim hq
end
end Kw
set_option maxHeartbeats 4000000
namespace Kw
open PySem PySem.Spec PyProof.Rows L2 LamX
open PySem.W (AllAlike Sortable EachIs KeyPure KeepsBut dataLe alike alikeAll)
/-! ### sorted(xs, key=f), xs a list or a tuple -/
def IsSeqAt (h : Heap) (a : Addr) (items : Array Value) : Prop := ∃ o n T, h.get? a = some o ∧ (T = "list" ∨ T = "tuple") ∧ o.cls = .type T ∧ o.data = .seq items n
section
variable {prog : Program} {w : World} {A : Around} {E : Value → Shared → Prop} {s : Shared} {β : Type} {R : Value → β → Prop} {vs : List Value} {bs : List β}
theorem sorted_key_seq {l : Addr} {f : Value} {kw : List (Str × Value)} {b : Bool} {Q : Value → Shared → Prop} (k : β → PyData) (hl : IsSeqAt s.heap l vs.toArray) (e : EachIs R vs bs) (hal : AllAlike (bs.map k)) (hk : Sortable (bs.map k)) (hL : bs.length ≤ sizeLine)
    (hu : ∀ x, x ∈ bs → A.units + 2 + (k x).depth < cLine) (ha1 : argsOk "sorted" ⟨[.ref l], kw⟩) (ha2 : ∀ x, argsOk "list.sort" ⟨[.ref x], kw⟩) (ht : ∀ x, Builtin.«list.sort» ⟨[.ref x], kw⟩ = ksk_tree x f b)
    (turn : ∀ (v : Value) (x : β), R v x → x ∈ bs → ∀ (h : Heap) (tk : Nat), (∀ b o, s.heap.get? b = some o → h.get? b = some o) → wpAny (model prog w) A.in1.in1 (call f [v]) (KeyPure (k x) { s with heap := h, toks := tk }) (fun _ _ => False) { s with heap := h, toks := tk })
    (h : ∀ D out c h' tk, (∀ b o, s.heap.get? b = some o → h'.get? b = some o) → s.heap.get? D = none → h'.get? D = some (seqObj "list" (List.toArray out) c) → out.length = bs.length → EachIs R out (bs.mergeSort (dataLe b k)) → Q (.ref D) { s with heap := h', toks := tk }) :
    wpAny (model prog w) A (call (.builtin "sorted") [.ref l] kw) Q E s := by
  obtain ⟨o, n, T, ho, hT, hc, hd⟩ := hl
  have hz : vs.length ≤ sizeLine := by rw [e.length]; exact hL
  refine call_function_entry_kw kind_sorted plain_sorted entry_sorted ha1 ?_
  unfold Builtin.«sorted»
  refine wpAny_bind (m := checkCount "sorted" 1 1 _) (wpAny_pure ?_)
  refine wpAny_bind (wpAny_collect_seq l hT ho hc hd (fun h1 k1 => ?_) (by rw [List.size_toArray]; exact hz))
  refine wpAny_bind (wpAny_newList ?_ hz)
  have hget : (h1.push (seqObj "list" vs.toArray 0)).get? h1.objs.size = some (seqObj "list" vs.toArray 0) := Heap.get?_push_size _ rfl
  have hfree : s.heap.get? h1.objs.size = none := by
    cases q : s.heap.get? h1.objs.size with
    | none => rfl
    | some o' => exact absurd (Heap.lt_size (k1 _ _ q)) (Nat.lt_irrefl _)
  have up : ∀ {g : Heap}, KeepsBut h1.objs.size (h1.push (seqObj "list" vs.toArray 0)) g → ∀ b o, s.heap.get? b = some o → g.get? b = some o := fun {g} kp b o q =>
    kp b o (fun z => by rw [z, hfree] at q; cases q) (Heap.get?_push_of_some _ (k1 _ _ q))
  refine wpAny_bind (wpAny_holding (wpAny_call_entry_kw slot_list_sort ⟨_, hget, rfl⟩ entry_list_sort ?body (ha2 _)))
  case body =>
    show wpAny (model prog w) A.in1.in1 (Builtin.«list.sort» ⟨[.ref h1.objs.size], kw⟩) _ _ _
    rw [ht]
    refine PySem.W.keyH_tree (kz := bs.map k) (s := { s with heap := h1.push (seqObj "list" vs.toArray 0) }) hget (by rw [List.length_map]; exact e.length.symm) hz hal hk (PySem.W.bound_map (A := A.in1.in1) hu)
      (PySem.W.keyH_turns (s := { s with heap := h1.push (seqObj "list" vs.toArray 0) }) e fun v x hR hx h tk kp => turn v x hR hx h tk (up kp)) fun h' tk out c kp hD ko => ?_
    refine ⟨_, rfl, wpAny_pure ⟨_, rfl, ?_⟩⟩
    exact h _ out c h' tk (up kp) hfree hD ((ko.length (by rw [List.length_map]; exact e.length.symm)).trans e.length) (PySem.W.keyedOut_each k ko e)
/-- lambda p: p[0], of a tuple -/
theorem call_fst {q : Str} {params : Arguments} {p : Str} {q1 q2 q3 : Pos} {kk : Nat} {scope : Scope} {cl : List (Str × Addr)} {pm ctv : Value} {f c' t : Addr} {l : List Value} {x : Value} {Q : Value → Shared → Prop}
    (hf : s.heap.get? f = some (PySem.W.kla_obj "<lambda>" q params (.Subscript (.Name p q1) (.Constant (.int 0) kk q2) q3) scope cl pm c' ctv)) (hcr : s.heap.CodeRec (.ref c') q) (nl : s.heap.NoLimit) (hroom : A.depth < recursionLimit)
    (hk : scope.kind = .function) (hco : scope.isCoroutine = false) (hgen : scope.isGenerator = false) (hp : scope.names.lookup p = some .local) (hnc : ∀ y ∈ scope.names, y.2 ≠ .cell)
    (hbind : ∀ u : Value, bindArgs (PySem.W.kla_fn "<lambda>" q params (.Subscript (.Name p q1) (.Constant (.int 0) kk q2) q3) scope cl pm (.ref c') ctv) ⟨[u], []⟩ = pure [(p, u)])
    (ht : IsTup s.heap t l.toArray) (h0 : l[0]? = some x) (hd : (p == ("__debug__" : Str)) = false) (hq : ∀ h' tk, (∀ b o, s.heap.get? b = some o → h'.get? b = some o) → Q x { s with heap := h', toks := tk }) :
    wpAny (model prog w) A (call (.ref f) [.ref t]) Q E s := by
  refine wpAny_call (codeAny_mono (R := fun r s' => ∃ u, r = .ok (.ret u) ∧ Q u s') ?_ fun r s' hr => ?_)
  · refine PySem.W.kla_callFunE hroom hf rfl hco hgen rfl hcr ?_
    rw [hbind]
    refine wpAny_pure (wpAny_newFunctionEnv hnc (fun y hy => by
      obtain rfl := List.mem_singleton.mp hy
      exact hp) (fun h₁ hns hsb => ⟨nl.fresh _ hsb, ?_⟩) hk)
    have kp : ∀ b o, s.heap.get? b = some o → h₁.get? b = some o := fun b o q => hsb.extBut b o (Nat.ne_of_lt (Heap.lt_size q)) (Heap.get?_push_of_some _ q)
    refine PySem.W.kla_codeExpr (Subscript_ (wpAny_Name (wpAny_loadName_local (v := .ref t) hk hp hns (by simp) ?_) hd))
    refine wpAny_Constant_int ?_
    obtain ⟨o, ho, hc, n, hdd⟩ := ht
    have h0' : 0 < l.length := by
      cases l with
      | nil => simp at h0
      | cons _ _ => simp
    refine item_tupleL (l := l) (j := 0) ⟨o, kp _ _ ho, hc, n, hdd⟩ (by decide) (by decide) ?_ h0 ⟨_, rfl, hq _ _ kp⟩
    simp [seqIndex?, h0']
  · obtain ⟨u, rfl, hu⟩ := hr
    exact hu
end
end Kw
set_option maxHeartbeats 4000000
namespace Kw
open PySem PySem.Spec PyProof.Rows L2 LamX
open PySem.W (AllAlike Sortable EachIs KeyPure KeepsBut dataLe dataLt alike alikeAll)
/-- a version's key as data -/
def keyD (v : Ver) : PyData := .tuple ((vl v).map PyData.int)
theorem keyLt (v u : Ver) : dataLt (keyD v) (keyD u) = decide (ltV v u) := by
  unfold keyD
  rw [PySem.W.dataLt_tuple]
  have e := PySem.W.dataLt_ints (vl v) (vl u)
  unfold PySem.W.rowLt at e
  rw [e]
  refine decide_eq_decide.mpr ?_
  unfold ltV
  show ([v.1, v.2.1, v.2.2] : List Int) < [u.1, u.2.1, u.2.2] ↔ _
  rw [List.cons_lt_cons_iff, List.cons_lt_cons_iff, List.cons_lt_cons_iff]
  simp
abbrev VS := V × (Ver × Option Ver)
abbrev keyS (b : VS) : PyData := keyD b.2.1
theorem keyLe : dataLe false keyS = fun (p q : VS) => !decide (ltV q.2.1 p.2.1) := by
  funext p q
  show (!dataLt (keyD q.2.1) (keyD p.2.1)) = _
  rw [keyLt]
theorem sorted_pw (bs : List VS) : (bs.mergeSort (dataLe false keyS)).Pairwise fun p q => ¬ ltV q.2.1 p.2.1 := by
  rw [keyLe]
  have h := List.pairwise_mergeSort (le := fun (p q : VS) => !decide (ltV q.2.1 p.2.1)) (fun a b c h1 h2 => by
    simp only [Bool.not_eq_true', decide_eq_false_iff_not] at h1 h2 ⊢
    unfold ltV at *
    omega) (fun a b => by
    simp only [Bool.or_eq_true, Bool.not_eq_true', decide_eq_false_iff_not]
    unfold ltV
    omega) bs
  refine h.imp fun {p q} h => ?_
  simpa using h
theorem eachV : ∀ {bs : List VS} {us : List Value}, Vals (bs.map (·.1)) us → ∀ ys : List VS, (∀ x ∈ bs, x ∈ ys) → EachIs (fun (u : Value) (x : VS) => RelV x.1 u ∧ x ∈ ys) us bs
  | [], _, .nil, _, _ => .nil
  | x :: xs, _, .cons r t, ys, h => .cons ⟨r, h x List.mem_cons_self⟩ (eachV t ys fun z hz => h z (List.mem_cons_of_mem _ hz))
theorem valsE : ∀ {bs ys : List VS} {us : List Value}, EachIs (fun (u : Value) (x : VS) => RelV x.1 u ∧ x ∈ ys) us bs → Vals (bs.map (·.1)) us
  | _, _, _, .nil => .nil
  | _, _, _, .cons r t => .cons r.1 (valsE t)
/-- xs stands at l, as a list or a tuple -/
def SqLT (K : PySem.W.Frag) (H : Hp) (l : Addr) (xs : List V) : Prop := SqL K H l xs ∨ SqT K H l xs
def tSortK (K : PySem.W.Frag) (T : List (Addr × Str)) (t1 : TE) : TE := fun σ H Q => t1 σ H fun v1 H0 => Tabs T H0 ∧ ∀ H1, ExtN H0 H1 → Tabs T H1 → ∃ (l : Addr) (bs : List VS), v1 = .ref l ∧ SqLT K H1 l (bs.map (·.1)) ∧
  (∀ b ∈ bs, ∃ t r a, b.1 = .ref t ∧ SqT K H1 t (.ref a :: r) ∧ SqT K H1 a (v3 b.2.1)) ∧
  ∀ (D : Addr) (bs' : List VS), H1 D = none → bs'.Perm bs → bs'.Pairwise (fun p q => ¬ ltV q.2.1 p.2.1) → Q (.ref D) (upd H1 D (.lst (bs'.map (·.1))))
section
variable {X : Cx}
theorem seqLT {pins : List (Addr × Obj)} {σ : L2.St} {H : Hp} {s : Shared} {l : Addr} {xs : List V} (I : Inv X pins σ H s) (h : SqLT X.K H l xs) : ∃ its : List Value, Vals xs its ∧ IsSeqAt s.heap l its.toArray ∧ xs.length ≤ sizeLine := by
  rcases h with h | h
  · obtain ⟨its, r, ⟨o, n, ho, hc, _, hd⟩, z⟩ := I.list h
    exact ⟨its, r, ⟨o, n, "list", ho, .inl rfl, hc, hd⟩, z⟩
  · obtain ⟨its, r, ⟨o, ho, hc, n, hd⟩, z⟩ := I.tuple h
    exact ⟨its, r, ⟨o, n, "tuple", ho, .inr rfl, hc, hd⟩, z⟩
/-- sorted(e1, key=lambda p: p[0]), of a list or a tuple of tuples whose first items are versions -/
theorem pe_sortedKey {T : List (Addr × Str)} {c P : Addr} {k kk : Nat} {params : Arguments} {lp : Str} {e1 : Expr} {scope : Scope} {t1 : TE} {p q1 q2 q3 lpos kpos pos : Pos} (hg : Gl X "sorted") (hm : X.mg "sorted" = none)
    (TB : TabB X.base X.mg c P) (hcode : X.env.code = .ref c) (hmT : (P, X.env.qual ++ "<lambda>") ∈ T) (hu : ∀ p ∈ T, p.1 = P → p.2 = X.env.qual ++ "<lambda>") (hr : Room (k + 3) X.A)
    (hk : scope.kind = .function) (hco : scope.isCoroutine = false) (hgen : scope.isGenerator = false) (hp : scope.names.lookup lp = some .local) (hnc : ∀ y ∈ scope.names, y.2 ≠ .cell) (hfr : ∀ y ∈ scope.names, y.2 ≠ .free) (hdef : defaultsOf params X.env = ([], []))
    (hbind : ∀ (q : Str) (cl : List (Str × Addr)) (pm cv ctv : Value) (u : Value), bindArgs (PySem.W.kla_fn "<lambda>" q params (.Subscript (.Name lp q1) (.Constant (.int 0) kk q2) q3) scope cl pm cv ctv) ⟨[u], []⟩ = pure [(lp, u)])
    (h1 : PE X e1 t1) (hd : (lp == ("__debug__" : Str)) = false := by decide) (he : backTo pos (starEach [e1] X.env) = (false, eval e1 X.env) :: backTo pos (starEach [] X.env) := by rfl) (hpl : (backTo pos (starEach [e1] X.env)).any (·.1) = false := by rfl) :
    PE X (.Call (.Name "sorted" p) [e1] [⟨some "key", .Lambda params (.Subscript (.Name lp q1) (.Constant (.int 0) kk q2) q3) scope lpos, kpos⟩] pos) (tSortK X.K T t1) := by
  refine ⟨fun pins s σ H Q I h => ?_⟩
  refine wpAny_Call_Name_kw (ld_blt (u := .builtin "sorted") I hg hm (by first | rfl | kernel_rfl) ?_ (by decide) (by decide))
  refine PyProof.Rows.callWith_kw ?_ he hpl (by rfl) (by rfl)
  rw [he]
  refine Calls.spliced_cons (thn (h1.run pins s σ H _ I h) fun u1 s0 ⟨v1, H0, I0, rv1, hT, hq0⟩ => Calls.spliced_nil ?_)
  refine kwAll_cons (lam_make2 I0 TB hcode hmT hu hT hdef (fun y hy e => absurd e (hfr y hy)) fun f c' pm' ctv H1 s' I1 eN T1 hf hfn hfrs hco' => kwAll_nil ?_)
  obtain ⟨l, bs, rfl, hl, hx, q⟩ := hq0 H1 eN T1
  rw [show u1 = Value.ref l from rv1]
  obtain ⟨its, rv, hseq, hz⟩ := seqLT I1 hl
  obtain ⟨⟨oc, vs, t, hoc, hdc, hvc⟩, _, _⟩ := I1.hok c' _ hco'
  have hlen := rv.length
  show wpAny _ _ (call (.builtin "sorted") [.ref l] [(Str.ofString "key", .ref f)]) _ _ s'
  rw [List.length_map] at hz
  refine sorted_key_seq (b := false) (k := keyS) hseq (eachV rv bs fun _ h => h) ?_ ?_ hz ?_ (ksk_s1 _ _) (fun _ => ksk_l1 _ _) (fun _ => ksk_t1 _ _) ?_ ?_
  · intro d hd d' hd'
    obtain ⟨x, _, rfl⟩ := List.mem_map.mp hd
    obtain ⟨y, _, rfl⟩ := List.mem_map.mp hd'
    simp [keyS, keyD, alike, alikeAll]
  · refine .inl fun d hd => ?_
    obtain ⟨x, _, rfl⟩ := List.mem_map.mp hd
    exact ⟨_, _, rfl⟩
  · intro x _
    have := hr.un
    have e : (keyS x).depth = 1 := by simp [keyS, keyD, PyData.depth, PyData.depthAll]
    rw [e]
    omega
  · rintro v x ⟨rx, _⟩ hm' h tk kp
    obtain ⟨t', r, a, ex, ht, ha⟩ := hx x hm'
    rw [ex] at rx
    rw [show v = Value.ref t' from rx]
    obtain ⟨its', rv', tp', _⟩ := I1.tuple ht
    obtain ⟨itk, rvk, ⟨ok, hok, hck, nk, hdk⟩, _⟩ := I1.tuple ha
    cases rv' with
    | cons r1 t1' =>
      rename_i w0 ws0
      obtain rfl : w0 = Value.ref a := r1
      obtain ⟨o, ho, hc, n, hdd⟩ := tp'
      refine call_fst (s := { s' with heap := h, toks := tk }) (kp _ _ hf) ⟨c', oc, vs, t, rfl, kp _ _ hoc, hdc, hvc⟩ (I1.nolimit.keeps kp) ?_ hk hco hgen hp hnc (fun u => hbind _ _ _ _ _ u) ⟨o, kp _ _ ho, hc, n, hdd⟩ rfl hd fun h' tk' k' => ?_
      · have := hr.dp
        show X.A.depth < recursionLimit
        omega
      · refine ⟨h', tk', rfl, k', ?_⟩
        refine .tuple (k' _ _ (kp _ _ hok)) hck hdk ?_
        have k1 : IntsAre itk (vl x.2.1) := Vals.ints rvk
        simpa using IntsAre.reads _ k1
  · intro D out c2 h' tk kp hD0 hD hlen' hout
    have hn : H1 D = none := I1.hok.gone hD0
    have hv := valsE hout
    have hlx : ((bs.mergeSort (dataLe false keyS)).map (·.1)).length ≤ sizeLine := by rw [List.length_map, List.length_mergeSort]; exact hz
    refine ⟨.ref D, _, I1.laidN (o := .lst ((bs.mergeSort (dataLe false keyS)).map (·.1))) kp hD0 hn ⟨hlx, out, c2, hv, hD⟩, rfl, q D _ hn (List.mergeSort_perm _ _) (sorted_pw bs)⟩
end
end Kw
set_option maxHeartbeats 4000000
namespace Kw
open PySem PySem.Spec PyProof.Rows L2
/-! ### lists of versions with their places -/
abbrev rf (ks : List (Addr × Ver)) : List V := ks.map fun p => V.ref p.1
def KsOk (K : PySem.W.Frag) (H : Hp) (ks : List (Addr × Ver)) : Prop := ∀ p ∈ ks, SqT K H p.1 (v3 p.2) ∧ okV p.2
theorem KsOk.same {K : PySem.W.Frag} {H H' : Hp} {ks : List (Addr × Ver)} (h : KsOk K H ks) (s : Same H H') : KsOk K H' ks := fun p hp => ⟨Same.sqT s (h p hp).1, (h p hp).2⟩
theorem KsOk.app {K : PySem.W.Frag} {H : Hp} {ks js : List (Addr × Ver)} (h : KsOk K H ks) (h' : KsOk K H js) : KsOk K H (ks ++ js) := fun p hp => (List.mem_append.mp hp).elim (h p) (h' p)
theorem KsOk.one {K : PySem.W.Frag} {H : Hp} {a : Addr} {v : Ver} (h : SqT K H a (v3 v)) (o : okV v) : KsOk K H [(a, v)] := fun p hp => by
  rw [List.mem_singleton.mp hp]
  exact ⟨h, o⟩
theorem KsOk.nil {K : PySem.W.Frag} {H : Hp} : KsOk K H [] := fun p hp => nomatch hp
theorem vl_inj {v u : Ver} (h : vl v = vl u) : v = u := by
  obtain ⟨a, b, c⟩ := v
  obtain ⟨d, e, f⟩ := u
  simp at h
  obtain ⟨rfl, rfl, rfl⟩ := h
  rfl
theorem bd_all : ∀ ks : List (Addr × Ver), (∀ p ∈ ks, okV p.2) → ∃ B : Int, ∀ p ∈ ks, _root_.TS.Bd B (vl p.2)
  | [], _ => ⟨0, fun p hp => nomatch hp⟩
  | q :: ks, h => by
    obtain ⟨B, hB⟩ := bd_all ks fun p hp => h p (List.mem_cons_of_mem _ hp)
    have ⟨h1, h2, h3⟩ := h q List.mem_cons_self
    refine ⟨B + q.2.1 + q.2.2.1 + q.2.2.2 + 1 + (if B < 0 then -B else 0), fun p hp => ?_⟩
    rcases List.mem_cons.mp hp with rfl | hp
    · intro m hm
      simp at hm
      split <;> rcases hm with rfl | rfl | rfl <;> omega
    · intro m hm
      have := hB p hp m hm
      split <;> omega
theorem code_ltV {B : Int} {v u : Ver} (hv : _root_.TS.Bd B (vl v)) (hu : _root_.TS.Bd B (vl u)) (h : ltV v u) : _root_.TS.code B (vl v) < _root_.TS.code B (vl u) := by
  obtain ⟨a, b, c⟩ := v
  obtain ⟨d, e, f⟩ := u
  have hv1 := hv.tail
  have hu1 := hu.tail
  rcases h with h | ⟨h, h⟩
  · exact _root_.TS.code_lt rfl hv1 hu1 h
  · have e1 : a = d := by assumption
    subst e1
    show _root_.TS.code B (a :: [b, c]) < _root_.TS.code B (a :: [e, f])
    refine (_root_.TS.code_same (r := [b, c]) (q := [e, f]) rfl).mpr ?_
    rcases h with h | ⟨e2, h⟩
    · exact _root_.TS.code_lt rfl hv1.tail hu1.tail h
    · have e2 : b = e := e2
      subst e2
      show _root_.TS.code B (b :: [c]) < _root_.TS.code B (b :: [f])
      refine (_root_.TS.code_same (r := [c]) (q := [f]) rfl).mpr (_root_.TS.code_lt rfl hv1.tail.tail hu1.tail.tail h)
/-- what sorted(set(xs)) gives -/
theorem setsort {K : PySem.W.Frag} {P : Program} {w : World} {H : Hp} {l : Addr} {ks : List (Addr × Ver)} {Q : VK} (h : SqL K H l (rf ks)) (hk : KsOk K H ks) (hl : ks.length < 64)
    (q : ∀ H2 D ks', Same H H2 → H2 D = some (.lst (rf ks')) → KsOk K H2 ks' → (ks'.map (·.2)).Pairwise ltV → (∀ v, v ∈ ks'.map (·.2) ↔ v ∈ ks.map (·.2)) → ks'.length < 64 → H D = none → Q (.ref D) H2) :
    rSetOfT K P w [.ref l] H (fun v H1 => rSortedT K P w [v] H1 Q) := by
  obtain ⟨B, hB⟩ := bd_all ks fun p hp => (hk p hp).2
  refine ⟨l, ks.map fun p => (p.1, vl p.2), rfl, ?_, ?_, by rw [List.length_map]; exact hl, fun a L ha hsub hall => ?_⟩
  · rw [List.map_map]
    exact h
  · intro p hp
    obtain ⟨r, hr, rfl⟩ := List.mem_map.mp hp
    exact (hk r hr).1
  · have s1 : Same H (upd H a (SetTO P w a L)) := same_upd ha
    have hL : ∀ p ∈ L, ∃ r ∈ ks, p = (r.1, vl r.2) := fun p hp => by
      obtain ⟨r, hr, e⟩ := List.mem_map.mp (hsub p hp)
      exact ⟨r, hr, e.symm⟩
    refine ⟨a, L, 3, B, rfl, upd_same, fun p hp => ?_, by decide, fun p hp => ?_, fun L' D pm nd few pw hD => ?_⟩
    · obtain ⟨r, hr, rfl⟩ := hL p hp
      exact Same.sqT s1 (hk r hr).1
    · obtain ⟨r, hr, rfl⟩ := hL p hp
      exact ⟨rfl, hB r hr⟩
    · have hL' : ∀ p ∈ L', ∃ r ∈ ks, p = (r.1, vl r.2) := fun p hp => hL p (pm.mem_iff.mp hp)
      -- the versions back
      obtain ⟨ks', e1, h1⟩ : ∃ ks' : List (Addr × Ver), L' = ks'.map (fun p => (p.1, vl p.2)) ∧ ∀ p ∈ ks', p ∈ ks := by
        clear pm nd few pw
        induction L' with
        | nil => exact ⟨[], rfl, fun p hp => nomatch hp⟩
        | cons x L' ih =>
          obtain ⟨ks', e, h⟩ := ih fun p hp => hL' p (List.mem_cons_of_mem _ hp)
          obtain ⟨r, hr, rfl⟩ := hL' x List.mem_cons_self
          refine ⟨r :: ks', by rw [e]; rfl, fun p hp => ?_⟩
          rcases List.mem_cons.mp hp with rfl | hp
          · exact hr
          · exact h p hp
      subst e1
      have s2 : Same (upd H a (SetTO P w a L)) (upd (upd H a (SetTO P w a L)) D (.lst ((ks'.map fun p => (p.1, vl p.2)).map fun q => V.ref q.1))) := same_upd hD
      refine q _ D ks' (s1.trans s2) (by rw [upd_same, List.map_map]; rfl) (KsOk.same (fun p hp => hk p (h1 p hp)) (s1.trans s2)) ?_ (fun v => ?_) (by rw [List.length_map] at few; exact few) (s1.free hD)
      · rw [List.map_map] at nd
        have nd' : (ks'.map fun p => vl p.2).Nodup := nd
        have pw' : ks'.Pairwise fun q r => _root_.TS.code B (vl q.2) ≤ _root_.TS.code B (vl r.2) := by
          rw [List.pairwise_map] at pw
          exact pw
        rw [List.pairwise_map]
        refine List.Pairwise.imp_of_mem (fun {p r} hp hr h => ?_) (pw'.and (List.pairwise_map.mp nd'))
        by_cases c1 : ltV p.2 r.2
        · exact c1
        · by_cases c2 : ltV r.2 p.2
          · have := code_ltV (hB r (h1 r hr)) (hB p (h1 p hp)) c2
            omega
          · exact absurd (congrArg vl (ltV_or c1 c2)) h.2
      · constructor
        · intro hv
          obtain ⟨p, hp, rfl⟩ := List.mem_map.mp hv
          exact List.mem_map.mpr ⟨p, h1 p hp, rfl⟩
        · intro hv
          obtain ⟨p, hp, rfl⟩ := List.mem_map.mp hv
          have m1 := hall (p.1, vl p.2) (List.mem_map.mpr ⟨p, hp, rfl⟩)
          obtain ⟨x, hx, e⟩ := List.mem_map.mp m1
          have hx' := pm.mem_iff.mpr hx
          obtain ⟨y, hy, rfl⟩ := List.mem_map.mp hx'
          exact List.mem_map.mpr ⟨y, hy, vl_inj e⟩
end Kw
set_option maxHeartbeats 4000000
namespace Kw
open PySem PySem.Spec PyProof.Rows L2
def spAround (K : PySem.W.Frag) : Sp := fun vs H Q _ => ∃ (a : Addr) (v : Ver), vs = [.ref a] ∧ SqT K H a (v3 v) ∧ okV v ∧
  ∀ H' p ks, Same H H' → H' p = some (.lst (rf ks)) → KsOk K H' ks → ks.length ≤ 5 → Q (.ref p) H'
section
variable {P : Program} {w : World} {K : PySem.W.Frag} {mg : Str → Option Value} {base : Heap}
end
end Kw
set_option maxHeartbeats 4000000
namespace Kw
open PySem PySem.Spec PyProof.Rows L2
theorem Room.u64 {k : Nat} {A : Around} (hr : Room k A) : A.units + 64 < cLine := by
  have := hr.un
  omega
/-- all ends of stretches, and the first version -/
def endsOf : List Str2 → List Ver
  | [] => [(0, 0, 0)]
  | s :: ss => s.1 :: (s.2.toList ++ endsOf ss)
theorem endsOf_snoc (v : Ver) : ∀ (ss : List Str2) (s : Str2), v ∈ endsOf (ss ++ [s]) ↔ v ∈ endsOf ss ∨ v = s.1 ∨ s.2 = some v
  | [], s => by
    obtain ⟨l, h⟩ := s
    cases h <;> simp [endsOf] <;> grind
  | t :: ss, s => by
    have ih := endsOf_snoc v ss s
    simp only [endsOf, List.cons_append, List.mem_cons, List.mem_append, ih]
    grind
def spPoints (K : PySem.W.Frag) : Sp := fun vs H Q _ => ∃ (a : Addr) (xs : List V) (ss : List Str2), vs = [.ref a] ∧ SqL K H a xs ∧ Strs K H xs ss ∧ (∀ s ∈ ss, okS s) ∧ ss.length ≤ 5 ∧
  ∀ H' p ks, Same H H' → H' p = some (.lst (rf ks)) → KsOk K H' ks → ks.length < 64 → Q (.ref p) H'
def spEnds (K : PySem.W.Frag) : Sp := fun vs H Q _ => ∃ (a : Addr) (xs : List V) (ss : List Str2), vs = [.ref a] ∧ SqL K H a xs ∧ Strs K H xs ss ∧ (∀ s ∈ ss, okS s) ∧ ss.length ≤ 5 ∧
  ∀ H' p ks, Same H H' → H' p = some (.lst (rf ks)) → KsOk K H' ks → ks.length < 64 → (ks.map (·.2)).Pairwise ltV → (∀ v, v ∈ ks.map (·.2) ↔ v ∈ endsOf ss) → Q (.ref p) H'
section
variable {P : Program} {w : World} {K : PySem.W.Frag} {mg : Str → Option Value} {base : Heap}
end
end Kw
set_option maxHeartbeats 4000000
namespace Kw
open PySem PySem.Spec PyProof.Rows L2 LamX
/-! ### a comprehension over a range with a step -/
theorem lc_rangeC {lo c : Int} {n : Nat} {g : TG} {tt : TT} {te : TE} {vs : List Nat} {σ : L2.St} {H1 : Hp} {D : Addr} {Qd : Hp → Prop} (Pv : Nat → Hp → Prop) (start : Pv 0 (upd H1 D (.lst [])))
    (step : ∀ j H, j < n → Pv j H → g (.int (lo + (j : Nat) * c)) (wipe σ vs) H fun σ2 H2 => wipe σ2 vs = wipe σ vs ∧ tt σ2 H2 fun b H3 => if b = true then te σ2 H3 fun y H4 => ∃ acc, H4 D = some (.lst acc) ∧ acc.length < sizeLine ∧ Pv (j + 1) (upd H4 D (.lst (acc ++ [y]))) else Pv (j + 1) H3)
    (stop : ∀ H, Pv n H → Qd H) :
    ∃ W : Nat → Nat → Hp → Prop, (∃ m, W 0 m (upd H1 D (.lst []))) ∧ ∀ i m H, W i m H → ((Itc lo c n).stop i H ∧ Qd H) ∨ ((Itc lo c n).go i H ∧ ∃ Nx : Hp → Prop, (∀ H', Nx H' → ∃ m', m' < m ∧ W (i + 1) m' H') ∧ ∀ x H', (Itc lo c n).yld i H x H' → g x (wipe σ vs) H' fun σ2 H2 => wipe σ2 vs = wipe σ vs ∧ tt σ2 H2 fun b H3 => if b = true then te σ2 H3 fun y H4 => ∃ acc, H4 D = some (.lst acc) ∧ acc.length < sizeLine ∧ Nx (upd H4 D (.lst (acc ++ [y]))) else Nx H3) := by
  refine ⟨fun i m H => m = n - i ∧ i ≤ n ∧ Pv i H, ⟨n, by simp, Nat.zero_le _, start⟩, fun i m H hw => ?_⟩
  obtain ⟨em, hi, p⟩ := hw
  by_cases lt : i < n
  · exact .inr ⟨lt, Pv (i + 1), fun H' p' => ⟨n - (i + 1), by omega, rfl, lt, p'⟩, fun x H' y => by obtain ⟨rfl, rfl⟩ := y; exact step i _ lt p⟩
  · have ei : i = n := by omega
    rw [ei] at p ⊢
    exact .inl ⟨Nat.le_refl _, stop H p⟩
/-! ### normal form by ends -/
def pairsV : List Ver → List Str2
  | [] => []
  | [a] => [(a, none)]
  | a :: b :: r => (a, some b) :: pairsV r
def edgesOf (f : Ver → Bool) : Bool → List Ver → List Ver
  | _, [] => []
  | now, v :: vs => if (f v != now) = true then v :: edgesOf f (!now) vs else edgesOf f now vs
theorem pairsV_len : ∀ es : List Ver, (pairsV es).length = (es.length + 1) / 2
  | [] => rfl
  | [a] => by simp [pairsV]
  | a :: b :: r => by
    have := pairsV_len r
    simp only [pairsV, List.length_cons, this]
    omega
theorem pairsV_get : ∀ (es : List Ver) (i : Nat) (v : Ver), es[2 * i]? = some v → (pairsV es)[i]? = some (v, es[2 * i + 1]?)
  | [], i, v, h => by simp at h
  | [a], 0, v, h => by
    simp at h
    subst h
    rfl
  | [a], i + 1, v, h => by
    rw [show 2 * (i + 1) = 2 * i + 1 + 1 by omega] at h
    simp at h
  | a :: b :: r, 0, v, h => by
    simp at h
    subst h
    rfl
  | a :: b :: r, i + 1, v, h => by
    rw [show 2 * (i + 1) = 2 * i + 1 + 1 by omega] at h ⊢
    simp only [List.getElem?_cons_succ] at h
    have := pairsV_get r i v h
    simp only [pairsV, List.getElem?_cons_succ]
    exact this
theorem edges_len (f : Ver → Bool) : ∀ (now : Bool) (vs : List Ver), (edgesOf f now vs).length ≤ vs.length
  | _, [] => Nat.le_refl _
  | now, v :: vs => by
    unfold edgesOf
    split
    · have := edges_len f (!now) vs
      simp
      omega
    · have := edges_len f now vs
      simp
      omega
/-- what the law makes of the lambda's reading: the normal form of a property of versions, by ends -/
def TTn (K : PySem.W.Frag) : (V → Hp → VK → Prop) → V → Hp → VK → Prop := fun tl v1 H Q => ∃ (a : Addr) (ks : List (Addr × Ver)) (f : Ver → Bool), v1 = .ref a ∧ SqL K H a (rf ks) ∧ KsOk K H ks ∧ ks.length < 64 ∧
  (∀ H' p Q', Same H H' → p ∈ ks → (∀ H'', Same H' H'' → Q' (.bl (f p.2)) H'') → tl (.ref p.1) H' Q') ∧
  ∀ H' D zs, Same H H' → H' D = some (.tup zs) → Strs K H' zs (pairsV (edgesOf f false (ks.map (·.2)))) → Q (.ref D) H'
end Kw
set_option maxHeartbeats 4000000
namespace Kw
open PySem PySem.Spec PyProof.Rows L2 LamX
theorem rng2 (m : Nat) (h : m < 1000) : RgC 0 (m : Int) 2 ((m + 1) / 2) := by
  refine ⟨by decide, by decide, ?_, ?_⟩
  · have e : Builtin.Range.rangeSize 0 (m : Int) 2 = ((m + 1) / 2 : Nat) := by
      unfold Builtin.Range.rangeSize
      simp only [show (2 : Int) > 0 from by decide, if_true]
      split <;> omega
    unfold Builtin.Range.small
    rw [e]
    have ft : ∀ i : Int, -1000000 ≤ i → i ≤ 1000000 → Builtin.Range.rangeFitsLong i = true := fun i h1 h2 => by
      unfold Builtin.Range.rangeFitsLong
      rw [Bool.and_eq_true]
      exact ⟨decide_eq_true (by omega), decide_eq_true (by omega)⟩
    rw [ft 0 (by omega) (by omega), ft (m : Int) (by omega) (by omega), ft 2 (by omega) (by omega), ft _ (by omega) (by omega)]
    simp
    refine .inr (ft _ (by omega) (by omega))
  · unfold Builtin.Range.rangeSize
    simp only [show (2 : Int) > 0 from by decide, if_true]
    split <;> omega
end Kw
set_option maxHeartbeats 4000000
namespace Kw
open PySem PySem.Spec PyProof.Rows L2
open PySem.W (dataLt alike alikeAll AlikeAll maxD cmpIn_gt iter_tupleW moved_old readsAll_len readsAll_atA argBest_fold reads_keeps)
/-! ### max of two versions -/
def maxV (v u : Ver) : Ver := if ltV v u then u else v
section
variable {prog : Program} {w : World} {A : Around} {E : Value → Shared → Prop} {s : Shared}
theorem max2_data {a b : Value} {x y : PyData} {as : List Addr} {Q : Value → Shared → Prop} (hh : A.handled = none) (hr : ReadsAll s.heap [a, b] [x, y] as) (ha : AlikeAll [x, y]) (hu : A.units + 1 + PyData.depthAll [x, y] < cLine)
    (q : ∀ v h' tk bs, (v = a ∨ v = b) → Reads h' v (maxD x [y]) bs → (∀ b o, s.heap.get? b = some o → h'.get? b = some o) → Q v { s with heap := h', toks := tk }) : wpAny (model prog w) A (call (.builtin "max") [a, b]) Q E s := by
  have hname : (toString "max" ++ toString ".loop" : String) = "max.loop" := by decide
  refine call_function_tree F.kind_max F.plain_max F.entry_max (F.args_max2 _ _) ?_
  show wpAny _ A.in1 (Builtin.Builtins.bindParams "max" ["key", "default"] 0 ⟨[], []⟩ >>= _) _ _ s
  refine wpAny_bind (wpAny_of_eq (show Builtin.Builtins.bindParams "max" ["key", "default"] 0 ⟨[], []⟩ = pure [none, none] from rfl) ?_)
  show wpAny _ A.in1 (newTuple [a, b] >>= _) _ _ s
  refine wpAny_bind (wpAny_newObj_type ?_)
  have k1 : ∀ c o, s.heap.get? c = some o → (s.heap.push { cls := .type "tuple", data := .seq #[a, b] }).get? c = some o := fun c o e => Heap.get?_push_of_some _ e
  have hT : (s.heap.push { cls := .type "tuple", data := .seq #[a, b] }).IsTuple s.heap.objs.size #[a, b] := ⟨_, Heap.get?_push_size _ rfl, rfl, 0, rfl⟩
  have hr1 : ReadsAll (s.heap.push { cls := .type "tuple", data := .seq #[a, b] }) (#[a, b] : Array Value).toList [x, y] as := ReadsAll.keeps k1 hr
  refine wpAny_bind (iter_tupleW (A := A.in1) (s := { s with heap := s.heap.push { cls := .type "tuple", data := .seq #[a, b] } }) hh hT fun s₂ e W st hfp hw hk => ?_)
  refine wpAny_bind (wpAny_newObj_type ?_)
  have hSf : s₂.heap.objs.size ∉ [(s.heap.push { cls := .type "tuple", data := .seq #[a, b] }).objs.size, s.heap.objs.size] := fun hm => Nat.lt_irrefl _ (hfp _ hm)
  rw [hname]
  refine wpAny_pure ⟨plainId_quiet F.plain_max_loop _, codeAny_max_loop_firstH W (s.heap.push { cls := .type "tuple", data := .seq #[a, b] }) hw _ (cmpIn_gt (A := A.in1) (s := { s with heap := s.heap.push { cls := .type "tuple", data := .seq #[a, b] } }) hr1 ha (by show A.units + 1 + _ < _; exact hu)) s₂.heap.objs.size hSf (fresh_in hk) _ (by simp) (fun b o e => Heap.get?_push_of_some _ (hk b o e)) (W.frame 0 s₂ _ s₂.toks st (Nat.le_refl _) fun b _ o e => Heap.get?_push_of_some _ e) (Heap.get?_push_size _ rfl) fun v s' hP hm => ?_⟩
  obtain ⟨h', tk, rfl, hk'⟩ := moved_old e rfl (Moved.drop_new (tk := s₂.toks) hm (Nat.le_refl _))
  obtain ⟨bs, r, _, _, _⟩ := readsAll_atA hr1 _ v hP
  have e2 := (argBest_fold (fun a b => dataLt b a) PyData.none x [y] 1 (Nat.le_refl _)).2
  have e3 : List.take 1 [y] = [y] := rfl
  rw [e3] at e2
  refine q v h' tk bs ?_ (reads_keeps hk' (by unfold maxD; rw [← e2]; exact r)) fun c o z => hk' _ _ (k1 _ _ z)
  have hm := Array.mem_of_getElem? hP
  simpa using hm
end
section
variable {X : Cx}
theorem ver_reads {pins : List (Addr × Obj)} {σ : L2.St} {H : Hp} {s : Shared} {x : V} {v : Ver} {u : Value} (I : Inv X pins σ H s) (h : IsVer X.K H x v) (r : RelV x u) : Reads s.heap u (keyD v) [] ∧ ∃ a, x = .ref a ∧ u = .ref a := by
  obtain ⟨a, rfl, ha⟩ := h
  obtain rfl : u = Value.ref a := r
  obtain ⟨itk, rvk, ⟨ok, hok, hck, nk, hdk⟩, _⟩ := I.tuple ha
  have k1 : IntsAre itk (vl v) := Vals.ints rvk
  exact ⟨.tuple hok hck hdk (by simpa using IntsAre.reads _ k1), a, rfl, rfl⟩
theorem keyD_inj {v u : Ver} (h : keyD v = keyD u) : v = u := by
  obtain ⟨a, b, c⟩ := v
  obtain ⟨d, e, f⟩ := u
  simp [keyD] at h
  obtain ⟨rfl, rfl, rfl⟩ := h
  rfl
theorem cr_max2V {k : Nat} (hc : X.calm = true) (hr : Room k X.A) : CallR X (.builtin "max") (fun vs H Q => ∃ x y v u, vs = [x, y] ∧ IsVer X.K H x v ∧ IsVer X.K H y u ∧ ∀ z, IsVer X.K H z (maxV v u) → Q z H) := by
  intro pins s σ H vs us Q I r h
  obtain ⟨x, y, v, u, rfl, hx, hy, q⟩ := h
  cases r with
  | cons r1 r =>
    cases r with
    | cons r2 r =>
      cases r
      rename_i vx vy
      obtain ⟨d1, ax, rfl, rfl⟩ := ver_reads I hx r1
      obtain ⟨d2, ay, rfl, rfl⟩ := ver_reads I hy r2
      have hm : maxD (keyD v) [keyD u] = keyD (maxV v u) := by
        show (if dataLt (keyD v) (keyD u) = true then keyD u else keyD v) = _
        rw [keyLt]
        unfold maxV
        by_cases e : ltV v u <;> simp [e]
      refine max2_data (I.ok.hd hc) (.cons d1 (.cons d2 .nil)) ⟨?_, ?_⟩ ?_ fun z h' tk bs hz hrd kp => ?_
      · intro x hx y hy
        simp at hx hy
        rcases hx with rfl | rfl <;> rcases hy with rfl | rfl <;> simp [keyD, alike, alikeAll]
      · intro x hx
        simp at hx
        rcases hx with rfl | rfl <;> simp [keyD]
      · have := hr.un
        have e : PyData.depthAll [keyD v, keyD u] = 1 := by simp [keyD, PyData.depth, PyData.depthAll]
        rw [e]
        omega
      · rw [hm] at hrd
        rcases hz with rfl | rfl
        · have e1 := ((Reads.keeps kp d1).unique _ _ hrd).1
          exact ⟨.ref ax, H, I.kept kp, rfl, q _ (by rw [← keyD_inj e1]; exact hx)⟩
        · have e1 := ((Reads.keeps kp d2).unique _ _ hrd).1
          exact ⟨.ref ay, H, I.kept kp, rfl, q _ (by rw [← keyD_inj e1]; exact hy)⟩
end
end Kw
set_option maxHeartbeats 4000000
namespace Kw
open PySem PySem.Spec PyProof.Rows L2 LamX
abbrev sLaterE : Stmt := top 9
abbrev sNF : Stmt := top 11
/-! ### a def whose code object is known -/
structure FunC (K : PySem.W.Frag) (x qual : Str) (st : Stmt) (f : Addr) (fd : FuncData) (cd : Addr) : Prop where
  ex : ∃ (oc : Value) (od : Option Addr) (kV doc pm : Value) (an : Option Addr) (ct : Value) (osl : Array (Option Value)),
    fd = PySem.W.fnOf x qual (defArgs st) (defBody st) (defScope st) .none kV doc pm an (.ref cd) ct ∧ K.lookup f = some ⟨oc, od, .func fd, osl⟩ ∧ PySem.W.codeIn K (.ref cd) qual = true
  kp : PySem.W.keepIn K (.ref f) = true
theorem FunC.fn {K : PySem.W.Frag} {x qual : Str} {st : Stmt} {f : Addr} {fd : FuncData} {cd : Addr} (F : FunC K x qual st f fd cd) : Fun K x qual st f fd := by
  obtain ⟨oc, od, kV, doc, pm, an, ct, osl, e, l, c⟩ := F.ex
  exact ⟨⟨oc, od, kV, doc, pm, an, .ref cd, ct, osl, e, l, c⟩, F.kp⟩
section
variable {P : Program} {w : World} {K : PySem.W.Frag} {mg : Str → Option Value} {base : Heap}
theorem FunC.ok {x qual : Str} {st : Stmt} {f : Addr} {fd : FuncData} {cd : Addr} {N ps : List Str} {k : Nat} {sp : Sp} (F : FunC K x qual st f fd cd) (S : FnScope N ps (defScope st)) (len : ∀ vs H Q E, sp vs H Q E → vs.length = ps.length)
    (body : ∀ (A : Around) (outer : List Env) (s : Shared) (H : Hp) (vs : List V) (Q : VK) (E : XK), Room k (A.deeper (envOfC qual (defScope st) s.heap.objs.size f (.ref cd))) → sp vs H Q E →
      ∃ t, PSs (cxOf CX0 P w K mg base N qual (defScope st) f (.ref cd) A outer s H E).nox (defBody st) t ∧ t { nx := fun _ H' => Q .non H', rt := Q } (L2.start N vs) H) : FnOk P w K mg base CX0 (k + 1) f fd ps sp := by
  obtain ⟨oc, od, kV, doc, pm, an, ct, osl, rfl, lk, hcd⟩ := F.ex
  refine fn_of lk hcd S len fun A outer s H vs Q E hr hsp => ?_
  obtain ⟨t, h, q⟩ := body A outer s H vs Q E hr hsp
  exact ⟨t, h.nox, q⟩
/-! ### the later one of two ends -/
def laterE : Option Ver → Option Ver → Option Ver
  | some v, some u => some (maxV v u)
  | _, _ => none
def spLaterE (K : PySem.W.Frag) : Sp := fun vs H Q _ => ∃ (x y : V) (a b : Option Ver), vs = [x, y] ∧ IsEnd K H x a ∧ IsEnd K H y b ∧ ∀ z, IsEnd K H z (laterE a b) → Q z H
theorem scLaterE : FnScope ["one", "other"] ["one", "other"] (defScope sLaterE) := ⟨rfl, rfl, rfl, by decide +kernel, rfl, by decide +kernel, by decide +kernel⟩
theorem ok_laterE {f : Addr} {fd : FuncData} {k : Nat} (F : Fun K "later_end" "later_end" sLaterE f fd) (mm : mg "max" = none) : FnOk P w K mg base CX0 (k + 1) f fd ["one", "other"] (spLaterE K) := by
  refine F.ok scLaterE (fun vs H Q E h => ?_) (fun cdv A outer s H vs Q E hr h => ?_)
  · obtain ⟨x, y, a, b, rfl, _⟩ := h
    rfl
  · obtain ⟨x, y, a, b, rfl, hx, hy, q⟩ := h
    refine ⟨_, pss_cons (ps_if (PW.pt (pw_or (pt_cmpR op_isN (pv 0) pe_non (nomark _)) (pw_or1 (pt_cmpR op_isN (pv 1) pe_non (nomark _))))) (pss_one (ps_ret pe_non)) pss_nil)
      (pss_one (ps_ret (pe_callB (cr_max2V rfl hr) (by rfl) mm (by decide +kernel) (pa_cons (pv 0) (pa_cons (pv 1) pa_nil))))), ?_⟩
    refine ⟨x, rfl, rfl, _, rfl, ?_⟩
    rw [isEnd_non hx]
    cases a with
    | none => exact iteT (iteT (q .non rfl))
    | some v =>
      refine iteF ⟨y, rfl, rfl, _, rfl, ?_⟩
      rw [isEnd_non hy]
      cases b with
      | none => exact iteT (q .non rfl)
      | some u => exact iteF ⟨_, rfl, _, rfl, x, y, v, u, rfl, hx, hy, fun z hz => q z hz⟩
end
end Kw
set_option maxHeartbeats 4000000
namespace Kw
open PySem PySem.Spec PyProof.Rows L2 LamX
/-! ### the normal form, step by step -/
def joinsE : Option Ver → Ver → Bool
  | none, _ => true
  | some u, v => decide (leV v u)
def joinB (fs : List Str2) (v : Ver) : Bool := match fs.getLast? with
  | none => false
  | some t => joinsE t.2 v
def nfAdd (fs : List Str2) (s : Str2) : List Str2 := match fs.getLast? with
  | none => fs ++ [s]
  | some t => if joinsE t.2 s.1 = true then fs.dropLast ++ [(t.1, laterE t.2 s.2)] else fs ++ [s]
theorem nfAdd_no {fs : List Str2} {s : Str2} (h : ¬ joinB fs s.1 = true) : nfAdd fs s = fs ++ [s] := by
  unfold nfAdd joinB at *
  cases e : fs.getLast? with
  | none => rfl
  | some t => rw [e] at h; simp only at h ⊢; rw [if_neg h]
theorem nfAdd_len {fs : List Str2} {s : Str2} : (nfAdd fs s).length ≤ fs.length + 1 := by
  unfold nfAdd
  split
  · simp
  · split <;> simp <;> omega
theorem nf_len : ∀ (ss fs : List Str2), (ss.foldl nfAdd fs).length ≤ fs.length + ss.length
  | [], fs => Nat.le_refl _
  | s :: ss, fs => by
    have h1 := nf_len ss (nfAdd fs s)
    have h2 := nfAdd_len (fs := fs) (s := s)
    simp only [List.foldl_cons, List.length_cons]
    omega
/-- found[-1] of a list in hand -/
abbrev tLast (K : PySem.W.Frag) (i : Nat) : TE := tOp (rIxL K) (tVar i) (tUn (rU fun i => .int (-i)) (tC (.int 1)))
def tJoin (K : PySem.W.Frag) (fi lo : Nat) : TT := tAnd (fun σ H Q => tVar fi σ H fun x H' => ∃ k, TruV K x H' k ∧ Q k H')
  (tOr (tTest (tOp (fun x y H Q => y = .non ∧ Q (.bl (decide (x = .non))) H) (tOp (rIxT K) (tLast K fi) (tC (.int 1))) (tC .non))) (tTest (tOp (rVer K .LtE) (tVar lo) (tOp (rIxT K) (tLast K fi) (tC (.int 1))))))
theorem Strs.last {K : PySem.W.Frag} {H : Hp} {zs : List V} {fs : List Str2} {t : Str2} (h : Strs K H zs fs) (e : fs.getLast? = some t) : ∃ zs' x, zs = zs' ++ [x] ∧ IsStr K H x t ∧ Strs K H zs' fs.dropLast := by
  obtain ⟨fs', rfl⟩ : ∃ fs', fs = fs' ++ [t] := by
    rw [List.getLast?_eq_some_iff] at e
    exact e
  have hl := h.len
  rw [List.length_append, List.length_singleton] at hl
  obtain ⟨zs', x, rfl⟩ : ∃ zs' x, zs = zs' ++ [x] := by
    rcases List.eq_nil_or_concat zs with rfl | ⟨a, b, e⟩
    · simp at hl
    · exact ⟨a, b, by rw [e]; simp⟩
  have hl' : zs'.length = fs'.length := by simpa using hl
  refine ⟨zs', x, rfl, h.at_ zs'.length x t (by simp) (by rw [hl']; simp), ?_⟩
  rw [List.dropLast_concat]
  refine ⟨hl', fun i y s a b => h.at_ i y s ?_ ?_⟩
  · rw [List.getElem?_append_left (List.getElem?_eq_some_iff.mp a).1]; exact a
  · rw [List.getElem?_append_left (List.getElem?_eq_some_iff.mp b).1]; exact b
theorem last_ix {K : PySem.W.Frag} {H : Hp} {σ : L2.St} {i : Nat} {l : Addr} {zs : List V} {x : V} {Q : VK} (hi : σ[i]? = some (some (.ref l))) (hl : SqL K H l (zs ++ [x])) (q : Q x H) : tLast K i σ H Q :=
  ⟨_, hi, 1, rfl, l, _, -1, x, rfl, rfl, hl, atI_last _ _, q⟩
theorem join_read {K : PySem.W.Frag} {H : Hp} {σ : L2.St} {fi lo : Nat} {l : Addr} {zs : List V} {fs : List Str2} {x : V} {v : Ver} {Q : Bool → Hp → Prop} (hf : σ[fi]? = some (some (.ref l))) (hlo : σ[lo]? = some (some x)) (hl : SqL K H l zs) (hz : Strs K H zs fs) (hx : IsVer K H x v)
    (q : Q (joinB fs v) H) : tJoin K fi lo σ H Q := by
  refine ⟨_, hf, !zs.isEmpty, .inl ⟨zs, hl, rfl⟩, ?_⟩
  unfold joinB at q
  cases e : fs.getLast? with
  | none =>
    rw [e] at q
    have : fs = [] := by simpa using e
    subst this
    have : zs = [] := List.length_eq_zero_iff.mp hz.len
    subst this
    exact iteF q
  | some t =>
    rw [e] at q
    obtain ⟨zs', y, rfl, ⟨p, lo', hh, rfl, g1, g2, g3⟩, _⟩ := hz.last e
    have ne : (!(zs' ++ [V.ref p]).isEmpty) = true := by simp
    rw [ne]
    refine iteT ?_
    refine last_ix hf hl ⟨p, [lo', hh], 1, hh, rfl, rfl, g1, atI_nat (j := 1) rfl, rfl, _, rfl, ?_⟩
    rw [isEnd_non g3]
    obtain ⟨t1, t2⟩ := t
    cases t2 with
    | none => exact iteT q
    | some u =>
      refine iteF ⟨_, hlo, last_ix hf hl ⟨p, [lo', hh], 1, hh, rfl, rfl, g1, atI_nat (j := 1) rfl, v, u, hx, g3, _, rfl, q⟩⟩
end Kw
set_option maxHeartbeats 4000000
namespace Kw
open PySem PySem.Spec PyProof.Rows L2 LamX
/-! ### what stays where only tables grow, or one list is written -/
theorem _root_.LamX.ExtN.sqT {K : PySem.W.Frag} {H H' : Hp} {a : Addr} {xs : List V} (e : ExtN H H') (h : SqT K H a xs) : SqT K H' a xs := by
  rcases h with (h | ⟨o, h⟩) | h
  · exact .inl (.inl (e _ _ h fun ps z => nomatch z))
  · exact .inl (.inr ⟨o, e _ _ h fun ps z => nomatch z⟩)
  · exact .inr h
theorem _root_.LamX.ExtN.sqL {K : PySem.W.Frag} {H H' : Hp} {a : Addr} {xs : List V} (e : ExtN H H') (h : SqL K H a xs) : SqL K H' a xs := by
  rcases h with (h | ⟨o, h⟩) | h
  · exact .inl (.inl (e _ _ h fun ps z => nomatch z))
  · exact .inl (.inr ⟨o, e _ _ h fun ps z => nomatch z⟩)
  · exact .inr h
theorem _root_.LamX.ExtN.ver {K : PySem.W.Frag} {H H' : Hp} {x : V} {v : Ver} (e : ExtN H H') (h : IsVer K H x v) : IsVer K H' x v := let ⟨a, q, t⟩ := h; ⟨a, q, e.sqT t⟩
theorem _root_.LamX.ExtN.end_ {K : PySem.W.Frag} {H H' : Hp} {x : V} {v : Option Ver} (e : ExtN H H') (h : IsEnd K H x v) : IsEnd K H' x v := by
  cases v with
  | none => exact h
  | some u => exact e.ver h
theorem _root_.LamX.ExtN.str {K : PySem.W.Frag} {H H' : Hp} {x : V} {s : Str2} (e : ExtN H H') (h : IsStr K H x s) : IsStr K H' x s := let ⟨p, l, hh, q, t, t1, t2⟩ := h; ⟨p, l, hh, q, e.sqT t, e.ver t1, e.end_ t2⟩
theorem _root_.LamX.ExtN.strs {K : PySem.W.Frag} {H H' : Hp} {xs : List V} {ss : List Str2} (e : ExtN H H') (h : Strs K H xs ss) : Strs K H' xs ss := ⟨h.len, fun i x s a b => e.str (h.at_ i x s a b)⟩
theorem _root_.LamX.ExtN.same {H H' : Hp} (s : Same H H') : ExtN H H' := fun b o h _ => s b o h
theorem ixN_last (zs : List V) (x : V) : ixN (zs ++ [x]).length (-1) = some zs.length := by
  unfold ixN
  rw [if_neg (by decide), if_pos (by simp; omega)]
  simp
  omega
/-- all but l stay -/
def Fr1 (l : Addr) (H H' : Hp) : Prop := ∀ c o, c ≠ l → H c = some o → H' c = some o
theorem Fr1.refl {l : Addr} {H : Hp} : Fr1 l H H := fun _ _ _ h => h
theorem Fr1.trans {l : Addr} {H H1 H2 : Hp} (x : Fr1 l H H1) (y : Fr1 l H1 H2) : Fr1 l H H2 := fun c o n h => y c o n (x c o n h)
theorem Fr1.same {l : Addr} {H H' : Hp} (s : Same H H') : Fr1 l H H' := fun c o _ h => s c o h
theorem Fr1.put {l : Addr} {H : Hp} {o : HO} : Fr1 l H (upd H l o) := fun c u n h => by rw [upd_ne n]; exact h
section
variable {K : PySem.W.Frag} {l : Addr} {H H' : Hp} {ys : List V}
theorem Fr1.sqT {a : Addr} {xs : List V} (e : Fr1 l H H') (hl : H l = some (.lst ys)) (h : SqT K H a xs) : SqT K H' a xs := by
  rcases h with (h | ⟨o, h⟩) | h
  · exact .inl (.inl (e _ _ (ne_of h hl (by intro z; cases z)) h))
  · exact .inl (.inr ⟨o, e _ _ (ne_of h hl (by intro z; cases z)) h⟩)
  · exact .inr h
theorem Fr1.ver {x : V} {v : Ver} (e : Fr1 l H H') (hl : H l = some (.lst ys)) (h : IsVer K H x v) : IsVer K H' x v := let ⟨a, q, t⟩ := h; ⟨a, q, e.sqT hl t⟩
theorem Fr1.end_ {x : V} {v : Option Ver} (e : Fr1 l H H') (hl : H l = some (.lst ys)) (h : IsEnd K H x v) : IsEnd K H' x v := by
  cases v with
  | none => exact h
  | some u => exact e.ver hl h
theorem Fr1.str {x : V} {s : Str2} (e : Fr1 l H H') (hl : H l = some (.lst ys)) (h : IsStr K H x s) : IsStr K H' x s := let ⟨p, lo, hh, q, t, t1, t2⟩ := h; ⟨p, lo, hh, q, e.sqT hl t, e.ver hl t1, e.end_ hl t2⟩
theorem Fr1.strs {xs : List V} {ss : List Str2} (e : Fr1 l H H') (hl : H l = some (.lst ys)) (h : Strs K H xs ss) : Strs K H' xs ss := ⟨h.len, fun i x s a b => e.str hl (h.at_ i x s a b)⟩
theorem Tabs.fr1 {T : List (Addr × Str)} (t : Tabs T H) (e : Fr1 l H H') (hl : H l = some (.lst ys)) : Tabs T H' := fun p hp => by
  obtain ⟨ps, h1, h2, h3⟩ := t p hp
  refine ⟨ps, e _ _ (ne_of h1 hl (by intro z; cases z)) h1, h2, fun pos cv hc => ?_⟩
  obtain ⟨c, e1, e2⟩ := h3 pos cv hc
  exact ⟨c, e1, e _ _ (ne_of e2 hl (by intro z; unfold CodeO at z; cases z)) e2⟩
theorem strs_zip : ∀ {xs : List V} {ss : List Str2}, Strs K H xs ss → ∃ bs : List VS, bs.map (·.1) = xs ∧ bs.map (·.2) = ss ∧ ∀ b ∈ bs, IsStr K H b.1 b.2 := fun {xs ss} h => by
  refine ⟨xs.zip ss, List.map_fst_zip (Nat.le_of_eq h.len), List.map_snd_zip (Nat.le_of_eq h.len.symm), fun b hb => ?_⟩
  obtain ⟨i, hi⟩ := List.getElem?_of_mem hb
  rw [List.getElem?_zip_eq_some] at hi
  exact h.at_ i _ _ hi.1 hi.2
theorem strs_of {bs : List VS} (h : ∀ b ∈ bs, IsStr K H b.1 b.2) : Strs K H (bs.map (·.1)) (bs.map (·.2)) := by
  refine ⟨by simp, fun i x s a b => ?_⟩
  rw [List.getElem?_map] at a b
  cases e : bs[i]? with
  | none => rw [e] at a; simp at a
  | some p =>
    rw [e] at a b
    obtain rfl := Option.some.inj a
    obtain rfl := Option.some.inj b
    exact h p (List.mem_of_getElem? e)
end
/-- the normal form of a list or tuple of stretches: of the same stretches by their lows -/
def spNF (K : PySem.W.Frag) (T : List (Addr × Str)) : Sp := fun vs H Q _ => ∃ (a : Addr) (xs : List V) (ss : List Str2), vs = [.ref a] ∧ Tabs T H ∧ SqLT K H a xs ∧ Strs K H xs ss ∧ ss.length ≤ 60 ∧
  ∀ (H' : Hp) (D : Addr) (zs : List V) (ss' : List Str2), ExtN H H' → Tabs T H' → H' D = some (.tup zs) → ss'.Perm ss → ss'.Pairwise (fun p q => ¬ ltV q.1 p.1) → Strs K H' zs (ss'.foldl nfAdd []) → Q (.ref D) H'
section
variable {P : Program} {w : World} {K : PySem.W.Frag} {mg : Str → Option Value} {base : Heap}
theorem scNF : FnScope ["stretches", "found", "low", "high"] ["stretches"] (defScope sNF) := ⟨rfl, rfl, rfl, by decide +kernel, rfl, by decide +kernel, by decide +kernel⟩
theorem ok_nf {f : Addr} {fd : FuncData} {k : Nat} {cd PT : Addr} {T : List (Addr × Str)} (F : FunC K "normal_form" "normal_form" sNF f fd cd) (ms : mg "sorted" = none) (mt : mg "tuple" = none) (TB : TabB base mg cd PT) (hmT : (PT, ("normal_form" : Str) ++ ".<locals>." ++ "<lambda>") ∈ T)
    (hu : ∀ p ∈ T, p.1 = PT → p.2 = ("normal_form" : Str) ++ ".<locals>." ++ "<lambda>") (DL : Def P w K mg base "later_end" CX0 (k + 3) ["one", "other"] (spLaterE K)) : FnOk P w K mg base CX0 (k + 4) f fd ["stretches"] (spNF K T) := by
  refine F.ok scNF (fun vs H Q E h => ?_) (fun A outer s H vs Q E hr h => ?_)
  · obtain ⟨a, xs, ss, rfl, _⟩ := h
    rfl
  · obtain ⟨a, xs, ss, rfl, hT, hS, hss, hlen, q⟩ := h
    have hu' := hu_of hr
    refine ⟨_, pss_cons (ps_set (i := 1) scNF.nd rfl (.inl rfl) (pe_lst pa_nil))
      (pss_cons (ps_for PassesOwn.never rfl (pi_list (pe_sortedKey (k := k) (T := T) (c := cd) (P := PT) rfl ms TB rfl hmT hu hr rfl rfl rfl (by rfl) (by decide) (by decide) rfl (fun _ _ _ _ _ _ => rfl) (pv 0)))
        (pg_tup rfl (pgs_cons (pg_name (i := 2) scNF.nd rfl (.inl rfl)) (pgs_cons (pg_name (i := 3) scNF.nd rfl (.inl rfl)) pgs_nil)))
        (pss_one (ps_if (PW.pt (pw_and (pt_truth (pv 1) (fun _ => rfl)) (pw_and1 (PW.pt (pw_or (pt_cmpR op_isN (pe_ix ix_tup (pe_ix ix_list (pv 1) (pe_un un_neg pe_int) (fun _ _ => rfl)) pe_int (fun _ _ => rfl)) pe_non (nomark _))
            (pw_or1 (pt_cmpR (op_ver (op := .LtE) (.inr (.inl rfl)) hr.units0) (pv 2) (pe_ix ix_tup (pe_ix ix_list (pv 1) (pe_un un_neg pe_int) (fun _ _ => rfl)) pe_int (fun _ _ => rfl)) (nomark _))))))))
          (pss_one (ps_asg (pe_tup (pa_cons (pe_ix ix_tup (pe_ix ix_list (pv 1) (pe_un un_neg pe_int) (fun _ _ => rfl)) pe_int (fun _ _ => rfl)) (pa_cons (pe_d DL hr (pa_cons (pe_ix ix_tup (pe_ix ix_list (pv 1) (pe_un un_neg pe_int) (fun _ _ => rfl)) pe_int (fun _ _ => rfl)) (pa_cons (pv 3) pa_nil))) pa_nil)))
            (pg_sub (pv 1) (pe_un un_neg pe_int) set_list)))
          (pss_one (ps_expr (pe_bm PySem.F.plainAttrs_list PySem.F.slot_list_append PySem.F.type_list_append mt_append (pv 1) (pa_cons (pe_tup (pa_cons (pv 2) (pa_cons (pv 3) pa_nil))) pa_nil)))))))
      (pss_one (ps_ret (pe_callTy call_tuple_of (by rfl) mt (by decide +kernel) (pa_cons (pv 1) pa_nil))))), ?_⟩
    refine ⟨Nat.zero_le _, fun l0 hl0 => ?_⟩
    have s1 := same_upd (o := .lst []) hl0
    refine ⟨_, rfl, hT.ext s1, fun H1 e1 T1 => ?_⟩
    obtain ⟨bs, rfl, rfl, hb⟩ := strs_zip (ExtN.strs ((ExtN.same s1).trans e1) hss)
    have hl1 : H1 l0 = some (.lst []) := e1 _ _ upd_same fun ps z => nomatch z
    refine ⟨a, bs, rfl, ?_, fun b hb' => ?_, fun D0 bs' hD0 pm pw => ?_⟩
    · rcases hS with h | h
      · exact .inl (((ExtN.same s1).trans e1).sqL h)
      · exact .inr (((ExtN.same s1).trans e1).sqT h)
    · obtain ⟨p, lo, hh, e, g1, ⟨al, rfl, g2⟩, g3⟩ := hb b hb'
      exact ⟨p, [hh], al, e, g1, g2⟩
    have s2 := same_upd (o := .lst (bs'.map (·.1))) hD0
    have n0 : D0 ≠ l0 := (ne_of_none hl1 hD0).symm
    have hb2 : ∀ b ∈ bs', IsStr K (upd H1 D0 (.lst (bs'.map (·.1)))) b.1 b.2 := fun b hb' => (hb b (pm.mem_iff.mp hb')).same s2
    have hst := strs_of hb2
    have g0 : upd H1 D0 (.lst (bs'.map (·.1))) l0 = some (.lst []) := s2 _ _ hl1
    have gD : upd H1 D0 (.lst (bs'.map (·.1))) D0 = some (.lst (bs'.map (·.1))) := upd_same
    have gT : Tabs T (upd H1 D0 (.lst (bs'.map (·.1)))) := T1.ext s2
    have gE : ExtN H (upd H1 D0 (.lst (bs'.map (·.1)))) := ((ExtN.same s1).trans e1).trans (ExtN.same s2)
    generalize upd H1 D0 (.lst (bs'.map (·.1))) = G at hst g0 gD gT gE
    have hlen' : bs'.length ≤ 60 := by
      rw [pm.length_eq]
      simpa using hlen
    refine ⟨D0, rfl, ⟨_, SqL.of gD⟩, for_list (K := K) (a := D0) (xs := bs'.map (·.1)) (fun i σ H' => ∃ (y2 y3 : Option V) (zs : List V), σ = [some (.ref a), some (.ref l0), y2, y3] ∧ Fr1 l0 G H' ∧ H' l0 = some (.lst zs) ∧ Strs K H' zs (((bs'.map (·.2)).take i).foldl nfAdd []) ∧ zs.length ≤ i)
      ⟨none, none, [], rfl, .refl, g0, ⟨rfl, fun i x s h => by simp at h⟩, Nat.le_refl _⟩ (fun i σ H' _ ⟨_, _, _, _, e, _⟩ => SqL.of (e _ _ n0 gD)) ?_ ?_⟩
    · rintro i y σ H' hi ⟨y2, y3, zs, rfl, fr, hl, hz, hzl⟩
      have hi' : i < bs'.length := by
        have := (List.getElem?_eq_some_iff.mp hi).1
        simpa using this
      obtain ⟨st, hst', p, lo, hh, rfl, g1, g2, g3⟩ := (Fr1.strs fr g0 hst).get hi
      have tk : (((bs'.map (·.2)).take (i + 1)).foldl nfAdd []) = nfAdd (((bs'.map (·.2)).take i).foldl nfAdd []) st := by
        rw [take_snoc hst', List.foldl_append]
        rfl
      generalize ((bs'.map (·.2)).take i).foldl nfAdd [] = fs at hz tk
      refine ⟨p, [lo, hh], rfl, g1, rfl, _, _, rfl, _, _, rfl, rfl, ?_⟩
      refine join_read rfl rfl (SqL.of hl) hz g2 (ite2 (fun e => ?_) (fun e => ?_))
      · -- it joins the last one
        unfold joinB at e
        cases e3 : fs.getLast? with
        | none => rw [e3] at e; cases e
        | some t =>
          rw [e3] at e
          obtain ⟨zs', x, rfl, ⟨px, lx, hx, rfl, q1, q2, q3⟩, hz'⟩ := hz.last e3
          refine last_ix rfl (SqL.of hl) ⟨px, [lx, hx], 0, lx, rfl, rfl, q1, atI_nat (j := 0) rfl, ?_⟩
          refine last_ix rfl (SqL.of hl) ⟨px, [lx, hx], 1, hx, rfl, rfl, q1, atI_nat (j := 1) rfl, ?_⟩
          refine ⟨_, rfl, hx, hh, t.2, st.2, rfl, q3, g3, fun z hz2 => ⟨by show 2 ≤ sizeLine; decide, fun p2 hp2 => ?_⟩⟩
          have t1 := same_upd (o := .tup [lx, z]) hp2
          refine ⟨_, rfl, 1, rfl, l0, zs' ++ [.ref px], -1, zs'.length, rfl, rfl, t1 _ _ hl, ?_, ?_⟩
          · exact ixN_last zs' _
          · have hset : (zs' ++ [V.ref px]).set zs'.length (.ref p2) = zs' ++ [.ref p2] := by simp
            rw [hset]
            have fA : Fr1 l0 H' (upd (upd H' p2 (.tup [lx, z])) l0 (.lst (zs' ++ [.ref p2]))) := (Fr1.same t1).trans Fr1.put
            refine ⟨_, _, zs' ++ [.ref p2], rfl, fr.trans fA, upd_same, ?_, by simp at hzl ⊢; omega⟩
            have en : nfAdd fs st = fs.dropLast ++ [(t.1, laterE t.2 st.2)] := by
              unfold nfAdd
              rw [e3]
              simp only
              rw [if_pos e]
            rw [tk, en]
            have np : p2 ≠ l0 := (ne_of_none hl hp2).symm
            refine (Fr1.strs fA hl hz').snoc ⟨p2, lx, z, rfl, .inl (.inl (by rw [upd_ne np]; exact upd_same)), fA.ver hl q2, fA.end_ hl hz2⟩
      · refine ⟨_, rfl, .inl ⟨rfl, _, SqL.of hl⟩, _, rfl, _, rfl, by show 2 ≤ sizeLine; decide, fun p2 hp2 => ?_⟩
        have t1 := same_upd (o := .tup [lo, hh]) hp2
        refine ⟨l0, zs, _, rfl, rfl, t1 _ _ hl, small1000 (by omega), ?_⟩
        have fA : Fr1 l0 H' (upd (upd H' p2 (.tup [lo, hh])) l0 (.lst (zs ++ [.ref p2]))) := (Fr1.same t1).trans Fr1.put
        refine ⟨_, _, zs ++ [.ref p2], rfl, fr.trans fA, upd_same, ?_, by simp; omega⟩
        rw [tk, nfAdd_no e]
        have np : p2 ≠ l0 := (ne_of_none hl hp2).symm
        exact (Fr1.strs fA hl hz).snoc ⟨p2, lo, hh, rfl, .inl (.inl (by rw [upd_ne np]; exact upd_same)), fA.ver hl g2, fA.end_ hl g3⟩
    · rintro σ H' ⟨y2, y3, zs, rfl, fr, hl, hz, hzl⟩
      rw [List.take_of_length_le (by simp)] at hz
      refine ⟨_, rfl, _, _, rfl, .inl ⟨SqL.of hl, fun D hD => ?_⟩⟩
      have t1 := same_upd (o := .tup zs) hD
      have eA : ExtN H (upd H' D (.tup zs)) := fun b o e n => t1 _ _ (fr b o (ne_of_none e hl0) (gE b o e n))
      refine q _ D zs (bs'.map (·.2)) eA ?_ upd_same (pm.map _) ?_ (hz.same t1)
      · exact (Tabs.fr1 gT fr g0).ext t1
      · rw [List.pairwise_map]
        exact pw
end
end Kw
set_option maxHeartbeats 4000000
namespace Kw
/-! ### the mathematics of stretches: one normal form -/
def hasL (fs : List Str2) (v : Ver) : Bool := fs.any fun s => hasS s v
structure NF (fs : List Str2) : Prop where
  ok : ∀ s ∈ fs, okS s
  pw : fs.Pairwise fun s t => ∃ u, s.2 = some u ∧ ltV u t.1
theorem hasS_iff {s : Str2} {v : Ver} : hasS s v = true ↔ leV s.1 v ∧ ∀ u, s.2 = some u → ltV v u := by
  obtain ⟨l, h⟩ := s
  unfold hasS
  cases h with
  | none => simp
  | some u => simp
theorem hasL_iff {fs : List Str2} {v : Ver} : hasL fs v = true ↔ ∃ s ∈ fs, hasS s v = true := by
  unfold hasL
  rw [List.any_eq_true]
theorem hasL_cons {s : Str2} {fs : List Str2} {v : Ver} : hasL (s :: fs) v = (hasS s v || hasL fs v) := rfl
theorem hasL_app {fs gs : List Str2} {v : Ver} : hasL (fs ++ gs) v = (hasL fs v || hasL gs v) := by simp [hasL]
theorem hasL_lt {fs : List Str2} {v : Ver} (h : ∀ t ∈ fs, ltV v t.1) : hasL fs v = false := by
  rw [Bool.eq_false_iff]
  intro c
  obtain ⟨s, hs, e⟩ := hasL_iff.mp c
  exact (hasS_iff.mp e).1 (h s hs)
theorem hasL_mem {fs gs : List Str2} (h : ∀ s, s ∈ fs ↔ s ∈ gs) (v : Ver) : hasL fs v = hasL gs v := by
  rw [Bool.eq_iff_iff, hasL_iff, hasL_iff]
  constructor
  · rintro ⟨s, hs, e⟩
    exact ⟨s, (h s).mp hs, e⟩
  · rintro ⟨s, hs, e⟩
    exact ⟨s, (h s).mpr hs, e⟩
theorem hasS_low {s : Str2} (h : okS s) : hasS s s.1 = true := hasS_iff.mpr ⟨ltV_irrefl _, fun u e => (h.2 u e).2⟩
theorem NF.tail {s : Str2} {r : List Str2} (h : NF (s :: r)) : NF r := ⟨fun t ht => h.ok t (List.mem_cons_of_mem _ ht), (List.pairwise_cons.mp h.pw).2⟩
theorem NF.head {s t : Str2} {r : List Str2} (h : NF (s :: r)) (ht : t ∈ r) : ∃ u, s.2 = some u ∧ ltV u t.1 := (List.pairwise_cons.mp h.pw).1 t ht
theorem NF.lows {s t : Str2} {r : List Str2} (h : NF (s :: r)) (ht : t ∈ r) : ltV s.1 t.1 := by
  obtain ⟨u, e, l⟩ := h.head ht
  exact ltV_trans ((h.ok s List.mem_cons_self).2 u e).2 l
theorem NF.first {s : Str2} {r : List Str2} (h : NF (s :: r)) {v : Ver} (l : ltV v s.1) : hasL (s :: r) v = false := hasL_lt fun t ht => by
  rcases List.mem_cons.mp ht with rfl | ht
  · exact l
  · exact ltV_trans l (h.lows ht)
theorem NF.end_ {s : Str2} {r : List Str2} (h : NF (s :: r)) {u : Ver} (e : s.2 = some u) : hasL (s :: r) u = false := by
  have h1 : hasS s u = false := by
    rw [Bool.eq_false_iff]
    intro c
    exact ltV_irrefl u ((hasS_iff.mp c).2 u e)
  have h2 : hasL r u = false := hasL_lt fun t ht => by
    obtain ⟨w, e', l⟩ := h.head ht
    rw [e] at e'
    obtain rfl := Option.some.inj e'
    exact l
  rw [hasL_cons, h1, h2]
  rfl
theorem NF.in_ {s : Str2} {r : List Str2} {v : Ver} (l : ¬ ltV v s.1) (hh : ∀ u, s.2 = some u → ltV v u) : hasL (s :: r) v = true := by
  rw [hasL_cons, hasS_iff.mpr ⟨l, hh⟩]
  rfl
theorem lt_asym {a b : Ver} (h : ltV a b) : ¬ ltV b a := by unfold ltV at *; omega
/-- two normal forms of the same versions are equal -/
theorem NF.unique : ∀ {fs gs : List Str2}, NF fs → NF gs → (∀ v, okV v → hasL fs v = hasL gs v) → fs = gs
  | [], [], _, _, _ => rfl
  | [], t :: q, _, hg, h => by
    have h1 := h t.1 (hg.ok t List.mem_cons_self).1
    rw [hasL_cons, hasS_low (hg.ok t List.mem_cons_self)] at h1
    cases h1
  | s :: r, [], hf, _, h => by
    have h1 := h s.1 (hf.ok s List.mem_cons_self).1
    rw [hasL_cons, hasS_low (hf.ok s List.mem_cons_self)] at h1
    cases h1
  | s :: r, t :: q, hf, hg, h => by
    have os := hf.ok s List.mem_cons_self
    have ot := hg.ok t List.mem_cons_self
    have e1 : s.1 = t.1 := by
      refine ltV_or (fun c => ?_) (fun c => ?_)
      · have h1 := h s.1 os.1
        rw [hg.first c, hasL_cons, hasS_low os] at h1
        cases h1
      · have h1 := h t.1 ot.1
        rw [hf.first c, hasL_cons, hasS_low ot] at h1
        cases h1
    have e2 : s.2 = t.2 := by
      cases c1 : s.2 with
      | none =>
        cases c2 : t.2 with
        | none => rfl
        | some w =>
          have h1 := h w (ot.2 w c2).1
          rw [hg.end_ c2, NF.in_ (s := s) (by rw [e1]; exact lt_asym (ot.2 w c2).2) (fun u e => by rw [c1] at e; cases e)] at h1
          cases h1
      | some u =>
        cases c2 : t.2 with
        | none =>
          have h1 := h u (os.2 u c1).1
          rw [hf.end_ c1, NF.in_ (s := t) (by rw [← e1]; exact lt_asym (os.2 u c1).2) (fun u e => by rw [c2] at e; cases e)] at h1
          cases h1
        | some w =>
          refine congrArg some (ltV_or (fun c => ?_) (fun c => ?_))
          · have h1 := h u (os.2 u c1).1
            rw [hf.end_ c1, NF.in_ (s := t) (by rw [← e1]; exact lt_asym (os.2 u c1).2) (fun x e => by rw [c2] at e; obtain rfl := Option.some.inj e; exact c)] at h1
            cases h1
          · have h1 := h w (ot.2 w c2).1
            rw [hg.end_ c2, NF.in_ (s := s) (by rw [e1]; exact lt_asym (ot.2 w c2).2) (fun x e => by rw [c1] at e; obtain rfl := Option.some.inj e; exact c)] at h1
            cases h1
    have e3 : s = t := Prod.ext e1 e2
    subst e3
    have e4 : r = q := NF.unique hf.tail hg.tail fun v hv => by
      have h1 := h v hv
      rw [hasL_cons, hasL_cons] at h1
      cases c : hasS s v with
      | false => rw [c] at h1; exact h1
      | true =>
        have hh := (hasS_iff.mp c).2
        rw [hasL_lt fun t ht => by obtain ⟨u, e, l⟩ := hf.head ht; exact ltV_trans (hh u e) l, hasL_lt fun t ht => by obtain ⟨u, e, l⟩ := hg.head ht; exact ltV_trans (hh u e) l]
    rw [e4]
/-! ### the ends' parity -/
def par : List Ver → Ver → Bool
  | [], _ => false
  | e :: es, v => (decide (leV e v)) != par es v
theorem par_lt : ∀ {es : List Ver} {v : Ver}, (∀ e ∈ es, ltV v e) → par es v = false
  | [], _, _ => rfl
  | e :: es, v, h => by
    have h1 : ¬ leV e v := fun c => c (h e List.mem_cons_self)
    simp [par, h1, par_lt fun x hx => h x (List.mem_cons_of_mem _ hx)]
theorem pairs_par : ∀ {es : List Ver} (v : Ver), es.Pairwise ltV → hasL (pairsV es) v = par es v
  | [], v, _ => rfl
  | [a], v, _ => by simp [pairsV, hasL, hasS, par]
  | a :: b :: r, v, h => by
    have ⟨h1, h'⟩ := List.pairwise_cons.mp h
    have ⟨h2, h3⟩ := List.pairwise_cons.mp h'
    have ih := pairs_par (es := r) v h3
    have hab := h1 b List.mem_cons_self
    show (hasS (a, some b) v || hasL (pairsV r) v) = ((decide (leV a v)) != ((decide (leV b v)) != par r v))
    rw [ih]
    by_cases c1 : ltV v b
    · have hr : par r v = false := par_lt fun e he => ltV_trans c1 (h2 e he)
      have n1 : ¬ leV b v := fun c => c c1
      simp [hasS, hr, c1, n1]
    · have hb : leV b v := c1
      have ha : leV a v := fun c => c1 (ltV_trans c hab)
      simp [hasS, ha, hb, c1]
theorem edges_mem (f : Ver → Bool) : ∀ (es : List Ver) (now : Bool) (e : Ver), e ∈ edgesOf f now es → e ∈ es
  | [], _, _, h => by simp [edgesOf] at h
  | x :: es, now, e, h => by
    unfold edgesOf at h
    split at h
    · rcases List.mem_cons.mp h with rfl | h
      · exact List.mem_cons_self
      · exact List.mem_cons_of_mem _ (edges_mem f es _ e h)
    · exact List.mem_cons_of_mem _ (edges_mem f es _ e h)
theorem edges_pw (f : Ver → Bool) : ∀ (es : List Ver) (now : Bool), es.Pairwise ltV → (edgesOf f now es).Pairwise ltV
  | [], _, _ => .nil
  | x :: es, now, h => by
    have ⟨h1, h2⟩ := List.pairwise_cons.mp h
    unfold edgesOf
    split
    · exact List.pairwise_cons.mpr ⟨fun e he => h1 e (edges_mem f es _ e he), edges_pw f es _ h2⟩
    · exact edges_pw f es _ h2
def lastf (f : Ver → Bool) : Bool → List Ver → Ver → Bool
  | now, [], _ => now
  | now, e :: es, v => if leV e v then lastf f (f e) es v else now
theorem edges_par (f : Ver → Bool) (v : Ver) : ∀ (es : List Ver) (now : Bool), es.Pairwise ltV → (now != par (edgesOf f now es) v) = lastf f now es v
  | [], now, _ => by simp [edgesOf, par, lastf]
  | e :: es, now, h => by
    have ⟨h1, h2⟩ := List.pairwise_cons.mp h
    by_cases c : leV e v
    · unfold edgesOf lastf
      rw [if_pos c]
      split
      · rename_i q
        have ih := edges_par f v es (!now) h2
        have ef : f e = !now := by cases x : f e <;> cases y : now <;> simp_all
        rw [ef, ← ih]
        simp [par, c]
      · rename_i q
        have ef : f e = now := by cases x : f e <;> cases y : now <;> simp_all
        rw [ef]
        exact edges_par f v es now h2
    · have lt : ltV v e := Classical.not_not.mp c
      have hr : ∀ b, par (edgesOf f b es) v = false := fun b => par_lt fun x hx => ltV_trans lt (h1 x (edges_mem f es b x hx))
      unfold edgesOf lastf
      rw [if_neg c]
      split <;> simp [par, c, hr]
theorem last_is (f : Ver → Bool) (v : Ver) : ∀ (es : List Ver) (now : Bool), es.Pairwise ltV → (∃ e ∈ es, leV e v) → ∃ e ∈ es, leV e v ∧ (∀ x ∈ es, leV x v → leV x e) ∧ lastf f now es v = f e
  | [], _, _, h => by obtain ⟨e, he, _⟩ := h; simp at he
  | e :: es, now, h, hx => by
    have ⟨h1, h2⟩ := List.pairwise_cons.mp h
    have c : leV e v := by
      obtain ⟨x, hx, l⟩ := hx
      rcases List.mem_cons.mp hx with rfl | hx
      · exact l
      · intro z
        exact l (ltV_trans z (h1 x hx))
    unfold lastf
    rw [if_pos c]
    by_cases d : ∃ x ∈ es, leV x v
    · obtain ⟨y, hy, ly, my, ey⟩ := last_is f v es (f e) h2 d
      refine ⟨y, List.mem_cons_of_mem _ hy, ly, fun x hx lx => ?_, ey⟩
      rcases List.mem_cons.mp hx with rfl | hx
      · exact lt_asym (h1 y hy)
      · exact my x hx lx
    · refine ⟨e, List.mem_cons_self, c, fun x hx lx => ?_, ?_⟩
      · rcases List.mem_cons.mp hx with rfl | hx
        · exact ltV_irrefl _
        · exact absurd ⟨x, hx, lx⟩ d
      · cases es with
        | nil => rfl
        | cons y es =>
          unfold lastf
          rw [if_neg fun z => d ⟨y, List.mem_cons_self, z⟩]
end Kw
set_option maxHeartbeats 4000000
namespace Kw
/-! ### the normal form of both sides -/
theorem nf_pairs : ∀ {es : List Ver}, es.Pairwise ltV → (∀ e ∈ es, okV e) → NF (pairsV es)
  | [], _, _ => ⟨fun s h => by simp [pairsV] at h, .nil⟩
  | [a], _, o => ⟨fun s h => by
      simp [pairsV] at h
      subst h
      exact ⟨o a List.mem_cons_self, fun u e => by cases e⟩, by simp [pairsV]⟩
  | a :: b :: r, h, o => by
    have ⟨h1, h'⟩ := List.pairwise_cons.mp h
    have ⟨h2, h3⟩ := List.pairwise_cons.mp h'
    have ih := nf_pairs (es := r) h3 fun e he => o e (List.mem_cons_of_mem _ (List.mem_cons_of_mem _ he))
    have low : ∀ (r : List Ver) (t : Str2), t ∈ pairsV r → t.1 ∈ r := fun r => by
      fun_induction pairsV r with
      | case1 => intro t ht; simp at ht
      | case2 a => intro t ht; simp at ht; subst ht; simp
      | case3 a b r ih =>
        intro t ht
        rcases List.mem_cons.mp ht with rfl | ht
        · exact List.mem_cons_self
        · exact List.mem_cons_of_mem _ (List.mem_cons_of_mem _ (ih t ht))
    refine ⟨fun s hs => ?_, List.pairwise_cons.mpr ⟨fun t ht => ⟨b, rfl, h2 _ (low r t ht)⟩, ih.pw⟩⟩
    rcases List.mem_cons.mp hs with rfl | hs
    · refine ⟨o a List.mem_cons_self, fun u e => ?_⟩
      obtain rfl := Option.some.inj e
      exact ⟨o b (by simp), h1 b List.mem_cons_self⟩
    · exact ih.ok s hs
theorem joins_iff {e : Option Ver} {v : Ver} : joinsE e v = true ↔ ∀ u, e = some u → leV v u := by
  cases e with
  | none => simp [joinsE]
  | some u => simp [joinsE]
theorem later_has {l : Ver} {h h' : Option Ver} {l' v : Ver} (ll : ¬ ltV l' l) (j : joinsE h l' = true) (hs : ∀ u, h = some u → ltV l u) : hasS (l, laterE h h') v = (hasS (l, h) v || hasS (l', h') v) := by
  rw [Bool.eq_iff_iff, Bool.or_eq_true, hasS_iff, hasS_iff, hasS_iff]
  have j' := joins_iff.mp j
  cases h with
  | none =>
    simp only [laterE]
    constructor
    · rintro ⟨a, _⟩; exact .inl ⟨a, fun u e => by cases e⟩
    · rintro (⟨a, _⟩ | ⟨a, _⟩)
      · exact ⟨a, fun u e => by cases e⟩
      · refine ⟨?_, fun u e => by cases e⟩
        skip
        unfold leV ltV at *
        omega
  | some u =>
    have ju := j' u rfl
    cases h' with
    | none =>
      simp only [laterE]
      constructor
      · rintro ⟨a, _⟩
        by_cases c : ltV v u
        · exact .inl ⟨a, fun x e => by obtain rfl := Option.some.inj e; exact c⟩
        · refine .inr ⟨?_, fun u e => by cases e⟩
          unfold leV ltV at *
          omega
      · rintro (⟨a, _⟩ | ⟨a, _⟩)
        · exact ⟨a, fun u e => by cases e⟩
        · refine ⟨?_, fun u e => by cases e⟩
          skip
          unfold leV ltV at *
          omega
    | some w =>
      simp only [laterE, Option.some.injEq, forall_eq']
      unfold maxV leV
      unfold leV at ju
      split
      · rename_i c
        constructor
        · rintro ⟨a, b⟩
          by_cases d : ltV v u
          · exact .inl ⟨a, d⟩
          · refine .inr ⟨?_, b⟩
            unfold ltV at *
            omega
        · rintro (⟨a, b⟩ | ⟨a, b⟩)
          · exact ⟨a, ltV_trans b c⟩
          · refine ⟨?_, b⟩
            unfold ltV at *
            omega
      · rename_i c
        constructor
        · rintro ⟨a, b⟩
          exact .inl ⟨a, b⟩
        · rintro (⟨a, b⟩ | ⟨a, b⟩)
          · exact ⟨a, b⟩
          · refine ⟨?_, ?_⟩ <;> (unfold ltV at *; omega)
theorem nf_step {fs : List Str2} {s : Str2} (h : NF fs) (os : okS s) (lo : ∀ t ∈ fs, ¬ ltV s.1 t.1) : NF (nfAdd fs s) ∧ (∀ v, hasL (nfAdd fs s) v = (hasL fs v || hasS s v)) ∧ ∀ t ∈ nfAdd fs s, ¬ ltV s.1 t.1 := by
  have one : ∀ v, hasL [s] v = hasS s v := fun v => by simp [hasL]
  by_cases j : joinB fs s.1 = true
  · unfold joinB at j
    cases e : fs.getLast? with
    | none => rw [e] at j; cases j
    | some t =>
      rw [e] at j
      have j : joinsE t.2 s.1 = true := j
      obtain ⟨fs', rfl⟩ := List.getLast?_eq_some_iff.mp e
      have en : nfAdd (fs' ++ [t]) s = fs' ++ [(t.1, laterE t.2 s.2)] := by
        unfold nfAdd
        rw [e]
        simp only
        rw [if_pos j, List.dropLast_concat]
      rw [en]
      have ⟨p1, _, p3⟩ := List.pairwise_append.mp h.pw
      have ot := h.ok t (by simp)
      have lt := lo t (by simp)
      have om : okS (t.1, laterE t.2 s.2) := by
        refine ⟨ot.1, fun u hu => ?_⟩
        cases c1 : t.2 with
        | none => rw [c1] at hu; cases hu
        | some a =>
          cases c2 : s.2 with
          | none => rw [c1, c2] at hu; cases hu
          | some b =>
            rw [c1, c2] at hu
            have hu : some (maxV a b) = some u := hu
            obtain rfl := Option.some.inj hu
            have ⟨q1, q2⟩ := ot.2 a c1
            have ⟨r1, r2⟩ := os.2 b c2
            unfold maxV
            split
            · rename_i c
              exact ⟨r1, ltV_trans q2 c⟩
            · exact ⟨q1, q2⟩
      refine ⟨⟨fun x hx => ?_, List.pairwise_append.mpr ⟨p1, List.pairwise_singleton _ _, fun x hx y hy => ?_⟩⟩, fun v => ?_, fun x hx => ?_⟩
      · rcases List.mem_append.mp hx with hx | hx
        · exact h.ok x (List.mem_append_left _ hx)
        · rw [List.mem_singleton.mp hx]; exact om
      · rw [List.mem_singleton.mp hy]
        exact p3 x hx t (by simp)
      · have z : hasS (t.1, laterE t.2 s.2) v = (hasS t v || hasS s v) := later_has lt j fun u e => (ot.2 u e).2
        rw [hasL_app, hasL_app, Bool.or_assoc]
        congr 1
        simp only [hasL, List.any_cons, List.any_nil, Bool.or_false]
        exact z
      · rcases List.mem_append.mp hx with hx | hx
        · exact lo x (List.mem_append_left _ hx)
        · rw [List.mem_singleton.mp hx]; exact lt
  · rw [nfAdd_no j]
    refine ⟨⟨fun x hx => ?_, List.pairwise_append.mpr ⟨h.pw, List.pairwise_singleton _ _, fun x hx y hy => ?_⟩⟩, fun v => by rw [hasL_app, one], fun x hx => ?_⟩
    · rcases List.mem_append.mp hx with hx | hx
      · exact h.ok x hx
      · rw [List.mem_singleton.mp hx]; exact os
    · rw [List.mem_singleton.mp hy]
      unfold joinB at j
      cases e : fs.getLast? with
      | none =>
        have : fs = [] := by simpa using e
        subst this
        simp at hx
      | some t =>
        rw [e] at j
        have j : ¬ joinsE t.2 s.1 = true := j
        obtain ⟨u, eu, lu⟩ : ∃ u, t.2 = some u ∧ ltV u s.1 := by
          cases c : t.2 with
          | none => rw [c] at j; exact absurd rfl j
          | some u =>
            refine ⟨u, rfl, ?_⟩
            rw [c] at j
            have j : ¬ decide (leV s.1 u) = true := j
            simp only [decide_eq_true_eq] at j
            exact Classical.not_not.mp j
        obtain ⟨fs', rfl⟩ := List.getLast?_eq_some_iff.mp e
        rcases List.mem_append.mp hx with hx | hx
        · have ⟨_, _, p3⟩ := List.pairwise_append.mp h.pw
          obtain ⟨a, ea, la⟩ := p3 x hx t (by simp)
          refine ⟨a, ea, ?_⟩
          have := lo t (by simp)
          unfold ltV at *
          omega
        · rw [List.mem_singleton.mp hx]
          exact ⟨u, eu, lu⟩
    · rcases List.mem_append.mp hx with hx | hx
      · exact lo x hx
      · rw [List.mem_singleton.mp hx]; exact ltV_irrefl _
theorem nf_fold : ∀ (ss fs : List Str2), NF fs → (∀ t ∈ fs, ∀ s ∈ ss, ¬ ltV s.1 t.1) → ss.Pairwise (fun p q => ¬ ltV q.1 p.1) → (∀ s ∈ ss, okS s) → NF (ss.foldl nfAdd fs) ∧ ∀ v, hasL (ss.foldl nfAdd fs) v = (hasL fs v || hasL ss v)
  | [], fs, h, _, _, _ => ⟨h, fun v => by simp [hasL]⟩
  | s :: ss, fs, h, lo, pw, ok => by
    have ⟨p1, p2⟩ := List.pairwise_cons.mp pw
    have os := ok s List.mem_cons_self
    obtain ⟨n1, n2, n3⟩ := nf_step h os fun t ht => lo t ht s List.mem_cons_self
    obtain ⟨m1, m2⟩ := nf_fold ss (nfAdd fs s) n1 (fun t ht x hx => by
      have a1 := n3 t ht
      have a2 := p1 x hx
      unfold ltV at *
      omega) p2 fun x hx => ok x (List.mem_cons_of_mem _ hx)
    refine ⟨m1, fun v => ?_⟩
    rw [List.foldl_cons, m2 v, n2 v, hasL_cons, Bool.or_assoc]
theorem ends_low : ∀ {ss : List Str2} {s : Str2}, s ∈ ss → s.1 ∈ endsOf ss ∧ ∀ u, s.2 = some u → u ∈ endsOf ss
  | t :: ss, s, h => by
    rcases List.mem_cons.mp h with rfl | h
    · exact ⟨by simp [endsOf], fun u e => by simp [endsOf, e]⟩
    · obtain ⟨a, b⟩ := ends_low h
      exact ⟨by simp [endsOf, a], fun u e => by simp [endsOf, b u e]⟩
theorem ends_zero : ∀ ss : List Str2, ((0, 0, 0) : Ver) ∈ endsOf ss
  | [] => by simp [endsOf]
  | s :: ss => by simp [endsOf, ends_zero ss]
theorem ends_ok : ∀ {ss : List Str2}, (∀ s ∈ ss, okS s) → ∀ v ∈ endsOf ss, okV v
  | [], _, v, h => by
    simp [endsOf] at h
    subst h
    exact ⟨Int.le_refl _, Int.le_refl _, Int.le_refl _⟩
  | s :: ss, ok, v, h => by
    have os := ok s List.mem_cons_self
    simp only [endsOf, List.mem_cons, List.mem_append, Option.mem_toList] at h
    rcases h with rfl | h | h
    · exact os.1
    · exact (os.2 v h).1
    · exact ends_ok (fun t ht => ok t (List.mem_cons_of_mem _ ht)) v h
/-- what the law reckons at the ends is the normal form -/
theorem nf_main {ss ss' : List Str2} {es : List Ver} (ok : ∀ s ∈ ss, okS s) (pw : es.Pairwise ltV) (hm : ∀ v, v ∈ es ↔ v ∈ endsOf ss) (same : ∀ s, s ∈ ss' ↔ s ∈ ss) (srt : ss'.Pairwise fun p q => ¬ ltV q.1 p.1) :
    ss'.foldl nfAdd [] = pairsV (edgesOf (hasL ss) false es) := by
  obtain ⟨n1, n2⟩ := nf_fold ss' [] ⟨fun s h => (nomatch h), List.Pairwise.nil⟩ (fun t ht => (nomatch ht)) srt fun s hs => ok s ((same s).mp hs)
  have e1 := edges_pw (hasL ss) es false pw
  refine n1.unique (nf_pairs e1 fun e he => ends_ok ok e ((hm e).mp (edges_mem _ _ _ e he))) fun v hv => ?_
  rw [n2 v, hasL_mem same v, pairs_par v e1]
  have z := edges_par (hasL ss) v es false pw
  have z2 : par (edgesOf (hasL ss) false es) v = lastf (hasL ss) false es v := by
    rw [← z]
    cases par (edgesOf (hasL ss) false es) v <;> rfl
  have hz : leV (0, 0, 0) v := by
    obtain ⟨a, b, c⟩ := hv
    unfold leV ltV
    simp only
    omega
  obtain ⟨e, he, le, mx, ef⟩ := last_is (hasL ss) v es false pw ⟨(0, 0, 0), (hm _).mpr (ends_zero ss), hz⟩
  rw [z2, ef]
  have key : ∀ s ∈ ss, hasS s v = hasS s e := fun s hs => by
    have ⟨m1, m2⟩ := ends_low hs
    rw [Bool.eq_iff_iff, hasS_iff, hasS_iff]
    constructor
    · rintro ⟨a, b⟩
      refine ⟨mx _ ((hm _).mpr m1) a, fun u eu => ?_⟩
      have := b u eu
      unfold leV ltV at *
      omega
    · rintro ⟨a, b⟩
      refine ⟨?_, fun u eu => ?_⟩
      · unfold leV ltV at *
        omega
      · have b1 := b u eu
        refine Classical.byContradiction fun c => ?_
        exact (mx u ((hm u).mpr (m2 u eu)) c) b1
  show (false || hasL ss v) = hasL ss e
  rw [Bool.false_or, Bool.eq_iff_iff, hasL_iff, hasL_iff]
  constructor
  · rintro ⟨s, hs, h⟩
    exact ⟨s, hs, by rw [← key s hs]; exact h⟩
  · rintro ⟨s, hs, h⟩
    exact ⟨s, hs, by rw [key s hs]; exact h⟩
end Kw
set_option maxHeartbeats 4000000
namespace Kw
/-! ### the mathematics of common versions and of all others -/
def earlyE : Option Ver → Option Ver → Option Ver
  | none, o => o
  | some a, none => some a
  | some a, some b => some (if ltV b a then b else a)
/-- whether a stretch from low to high has versions -/
def someIn (low : Ver) (high : Option Ver) : Bool := match high with
  | none => true
  | some u => decide (ltV low u)
def comF : Nat → List Str2 → List Str2 → List Str2
  | 0, _, _ => []
  | _ + 1, [], _ => []
  | _ + 1, _ :: _, [] => []
  | n + 1, a :: as, b :: bs => (if someIn (maxV a.1 b.1) (earlyE a.2 b.2) = true then [(maxV a.1 b.1, earlyE a.2 b.2)] else []) ++ (if earlyE a.2 b.2 = a.2 then comF n as (b :: bs) else comF n (a :: as) bs)
def comV (as bs : List Str2) : List Str2 := comF (as.length + bs.length) as bs
theorem comV_nil (bs : List Str2) : comV [] bs = [] := by
  unfold comV
  cases (([] : List Str2).length + bs.length) <;> rfl
theorem comV_nil2 : ∀ as : List Str2, comV as [] = []
  | [] => rfl
  | a :: as => rfl
theorem comV_cons (a : Str2) (as : List Str2) (b : Str2) (bs : List Str2) : comV (a :: as) (b :: bs) =
    (if someIn (maxV a.1 b.1) (earlyE a.2 b.2) = true then [(maxV a.1 b.1, earlyE a.2 b.2)] else []) ++ (if earlyE a.2 b.2 = a.2 then comV as (b :: bs) else comV (a :: as) bs) := by
  have e : (a :: as).length + (b :: bs).length = (as.length + (b :: bs).length) + 1 := by simp only [List.length_cons]; omega
  have e2 : as.length + (b :: bs).length = (a :: as).length + bs.length := by simp only [List.length_cons]; omega
  unfold comV
  rw [e, ← e2]
  rfl
theorem max_le {v a b : Ver} : leV (maxV a b) v ↔ leV a v ∧ leV b v := by
  unfold maxV
  by_cases h : ltV a b
  · rw [if_pos h]
    unfold leV ltV at *
    omega
  · rw [if_neg h]
    unfold leV ltV at *
    omega
theorem early_lt {v : Ver} {x y : Option Ver} : (∀ u, earlyE x y = some u → ltV v u) ↔ (∀ u, x = some u → ltV v u) ∧ ∀ u, y = some u → ltV v u := by
  cases x with
  | none => simp [earlyE]
  | some a =>
    cases y with
    | none => simp [earlyE]
    | some b =>
      simp only [earlyE, Option.some.injEq, forall_eq']
      by_cases h : ltV b a
      · rw [if_pos h]
        unfold ltV at *
        omega
      · rw [if_neg h]
        unfold ltV at *
        omega
theorem has_both {a b : Str2} {v : Ver} : hasS (maxV a.1 b.1, earlyE a.2 b.2) v = (hasS a v && hasS b v) := by
  rw [Bool.eq_iff_iff, Bool.and_eq_true, hasS_iff, hasS_iff, hasS_iff]
  show leV (maxV a.1 b.1) v ∧ (∀ u, earlyE a.2 b.2 = some u → ltV v u) ↔ _
  rw [max_le, early_lt]
  constructor
  · rintro ⟨⟨a1, a2⟩, a3, a4⟩
    exact ⟨⟨a1, a3⟩, a2, a4⟩
  · rintro ⟨⟨a1, a3⟩, a2, a4⟩
    exact ⟨⟨a1, a2⟩, a3, a4⟩
theorem none_in {low v : Ver} {high : Option Ver} (h : ¬ someIn low high = true) : hasS (low, high) v = false := by
  rw [Bool.eq_false_iff, ne_eq, hasS_iff]
  rintro ⟨h1, h2⟩
  cases high with
  | none => exact h rfl
  | some u =>
    have h3 := h2 u rfl
    have h4 : ¬ ltV low u := fun z => h (decide_eq_true z)
    simp only at h1
    unfold leV ltV at *
    omega
theorem one_has {low v : Ver} {high : Option Ver} : hasL (if someIn low high = true then [(low, high)] else []) v = hasS (low, high) v := by
  by_cases h : someIn low high = true
  · rw [if_pos h]
    simp [hasL]
  · rw [if_neg h, none_in h]
    rfl
/-- a stretch that ends first has nothing of what stands behind the other one -/
theorem apart_has {a : Str2} {b : Str2} {bs : List Str2} (h : NF (b :: bs)) (e : earlyE a.2 b.2 = a.2) (v : Ver) : (hasS a v && hasL bs v) = false := by
  rw [Bool.eq_false_iff, ne_eq, Bool.and_eq_true]
  rintro ⟨h1, h2⟩
  obtain ⟨t, ht, h3⟩ := hasL_iff.mp h2
  obtain ⟨u, eu, lu⟩ := h.head ht
  have h4 := (hasS_iff.mp h3).1
  have h5 := (hasS_iff.mp h1).2
  rw [← e] at h5
  have h6 := (early_lt.mp h5).2 u eu
  unfold leV ltV at *
  omega
theorem early_other {x y : Option Ver} (e : ¬ earlyE x y = x) : earlyE y x = y := by
  cases x with
  | none =>
    cases y with
    | none => exact absurd rfl e
    | some b => rfl
  | some a =>
    cases y with
    | none => exact absurd rfl e
    | some b =>
      simp only [earlyE, Option.some.injEq] at e ⊢
      by_cases h : ltV b a
      · rw [if_neg]
        unfold ltV at *
        omega
      · rw [if_neg h] at e
        exact absurd rfl e
theorem com_has : ∀ (as bs : List Str2), NF as → NF bs → ∀ v, hasL (comV as bs) v = (hasL as v && hasL bs v)
  | [], bs, _, _, v => by rw [comV_nil]; rfl
  | a :: as, [], _, _, v => by rw [comV_nil2]; simp [hasL]
  | a :: as, b :: bs, ha, hb, v => by
    rw [comV_cons, hasL_app, one_has, has_both, hasL_cons, hasL_cons]
    by_cases e : earlyE a.2 b.2 = a.2
    · rw [if_pos e, com_has as (b :: bs) ha.tail hb v, hasL_cons]
      have z := apart_has hb e v
      revert z
      cases hasS a v <;> cases hasS b v <;> cases hasL as v <;> cases hasL bs v <;> simp
    · rw [if_neg e, com_has (a :: as) bs ha hb.tail v, hasL_cons]
      have z := apart_has ha (early_other e) v
      revert z
      cases hasS a v <;> cases hasS b v <;> cases hasL as v <;> cases hasL bs v <;> simp
termination_by as bs => as.length + bs.length
theorem com_from : ∀ (as bs : List Str2) (t : Str2), t ∈ comV as bs → (∃ a ∈ as, leV a.1 t.1) ∧ ∃ b ∈ bs, leV b.1 t.1
  | [], bs, t, h => by rw [comV_nil] at h; cases h
  | a :: as, [], t, h => by rw [comV_nil2] at h; cases h
  | a :: as, b :: bs, t, h => by
    rw [comV_cons] at h
    rcases List.mem_append.mp h with h | h
    · split at h
      · obtain rfl := List.mem_singleton.mp h
        have ⟨h1, h2⟩ := max_le.mp (show leV (maxV a.1 b.1) (maxV a.1 b.1) from ltV_irrefl _)
        exact ⟨⟨a, List.mem_cons_self, h1⟩, b, List.mem_cons_self, h2⟩
      · cases h
    · split at h
      · obtain ⟨⟨x, hx, lx⟩, y⟩ := com_from as (b :: bs) t h
        exact ⟨⟨x, List.mem_cons_of_mem _ hx, lx⟩, y⟩
      · obtain ⟨y, x, hx, lx⟩ := com_from (a :: as) bs t h
        exact ⟨y, x, List.mem_cons_of_mem _ hx, lx⟩
termination_by as bs => as.length + bs.length
theorem early_ok {x y : Option Ver} (h1 : ∀ u, x = some u → okV u) (h2 : ∀ u, y = some u → okV u) : ∀ u, earlyE x y = some u → okV u := by
  cases x with
  | none => exact h2
  | some a =>
    cases y with
    | none => exact h1
    | some b =>
      intro u e
      simp only [earlyE, Option.some.injEq] at e
      by_cases h : ltV b a
      · rw [if_pos h] at e
        exact h2 u (by rw [e])
      · rw [if_neg h] at e
        exact h1 u (by rw [e])
theorem com_nf : ∀ (as bs : List Str2), NF as → NF bs → NF (comV as bs)
  | [], bs, _, _ => by rw [comV_nil]; exact ⟨fun s h => (nomatch h), List.Pairwise.nil⟩
  | a :: as, [], _, _ => by rw [comV_nil2]; exact ⟨fun s h => (nomatch h), List.Pairwise.nil⟩
  | a :: as, b :: bs, ha, hb => by
    have oa := ha.ok a List.mem_cons_self
    have ob := hb.ok b List.mem_cons_self
    have rest : NF (if earlyE a.2 b.2 = a.2 then comV as (b :: bs) else comV (a :: as) bs) ∧ ∀ t ∈ (if earlyE a.2 b.2 = a.2 then comV as (b :: bs) else comV (a :: as) bs), ∃ u, earlyE a.2 b.2 = some u ∧ ltV u t.1 := by
      by_cases e : earlyE a.2 b.2 = a.2
      · rw [if_pos e]
        refine ⟨com_nf as (b :: bs) ha.tail hb, fun t ht => ?_⟩
        obtain ⟨⟨x, hx, lx⟩, _⟩ := com_from _ _ t ht
        obtain ⟨u, eu, lu⟩ := ha.head hx
        refine ⟨u, e.trans eu, ?_⟩
        unfold leV ltV at *
        omega
      · rw [if_neg e]
        refine ⟨com_nf (a :: as) bs ha hb.tail, fun t ht => ?_⟩
        obtain ⟨_, x, hx, lx⟩ := com_from _ _ t ht
        obtain ⟨u, eu, lu⟩ := hb.head hx
        have e2 := early_other e
        have e3 : earlyE a.2 b.2 = b.2 := by
          cases h1 : a.2 with
          | none => rfl
          | some p =>
            cases h2 : b.2 with
            | none => rw [h1, h2] at e; exact absurd rfl e
            | some q =>
              rw [h1, h2] at e
              simp only [earlyE, Option.some.injEq] at e ⊢
              by_cases h : ltV q p
              · rw [if_pos h]
              · rw [if_neg h] at e; exact absurd rfl e
        refine ⟨u, e3.trans eu, ?_⟩
        unfold leV ltV at *
        omega
    rw [comV_cons]
    by_cases h : someIn (maxV a.1 b.1) (earlyE a.2 b.2) = true
    · rw [if_pos h]
      refine ⟨fun s hs => ?_, List.pairwise_append.mpr ⟨List.pairwise_singleton _ _, rest.1.pw, fun x hx t ht => ?_⟩⟩
      · rcases List.mem_append.mp hs with hs | hs
        · obtain rfl := List.mem_singleton.mp hs
          refine ⟨?_, fun u eu => ⟨early_ok (fun u e => (oa.2 u e).1) (fun u e => (ob.2 u e).1) u eu, ?_⟩⟩
          · show okV (maxV a.1 b.1)
            unfold maxV
            split
            · exact ob.1
            · exact oa.1
          · have eu : earlyE a.2 b.2 = some u := eu
            rw [eu] at h
            exact of_decide_eq_true h
        · exact rest.1.ok s hs
      · obtain rfl := List.mem_singleton.mp hx
        exact rest.2 t ht
    · rw [if_neg h]
      exact rest.1
termination_by as bs => as.length + bs.length
theorem com_len : ∀ (as bs : List Str2), (comV as bs).length ≤ as.length + bs.length
  | [], bs => by rw [comV_nil]; exact Nat.zero_le _
  | a :: as, [] => by rw [comV_nil2]; exact Nat.zero_le _
  | a :: as, b :: bs => by
    rw [comV_cons, List.length_append]
    have h1 := com_len as (b :: bs)
    have h2 := com_len (a :: as) bs
    simp only [List.length_cons] at *
    split <;> split <;> simp only [List.length_cons, List.length_nil] <;> omega
termination_by as bs => as.length + bs.length
/-- all that is not in stretches, from a version on (none: nothing) -/
def butV : Option Ver → List Str2 → List Str2
  | none, [] => []
  | some v, [] => [(v, none)]
  | none, s :: r => butV s.2 r
  | some v, s :: r => (if ltV v s.1 then [(v, some s.1)] else []) ++ butV s.2 r
abbrev v000 : Ver := (0, 0, 0)
theorem but_main : ∀ (fs : List Str2) (st : Ver), okV st → NF fs → (∀ t ∈ fs, leV st t.1) → NF (butV (some st) fs) ∧ (∀ t ∈ butV (some st) fs, leV st t.1) ∧ (∀ v, hasL (butV (some st) fs) v = (decide (leV st v) && !hasL fs v)) ∧ (butV (some st) fs).length ≤ fs.length + 1
  | [], st, os, _, _ => by
    refine ⟨⟨fun s hs => ?_, List.pairwise_singleton _ _⟩, fun t ht => ?_, fun v => ?_, Nat.le_refl _⟩
    · obtain rfl := List.mem_singleton.mp hs
      exact ⟨os, fun u e => nomatch e⟩
    · obtain rfl := List.mem_singleton.mp ht
      exact ltV_irrefl _
    · simp [butV, hasL, hasS]
  | s :: r, st, os, h, lo => by
    have l0 := lo s List.mem_cons_self
    have ok := h.ok s List.mem_cons_self
    have hsv : ∀ v, leV st v → ltV v s.1 → hasL (s :: r) v = false := fun v _ b => h.first b
    show NF ((if ltV st s.1 then [(st, some s.1)] else []) ++ butV s.2 r) ∧ (∀ t ∈ (if ltV st s.1 then [(st, some s.1)] else []) ++ butV s.2 r, leV st t.1) ∧ (∀ v, hasL ((if ltV st s.1 then [(st, some s.1)] else []) ++ butV s.2 r) v = (decide (leV st v) && !hasL (s :: r) v)) ∧ ((if ltV st s.1 then [(st, some s.1)] else []) ++ butV s.2 r).length ≤ (s :: r).length + 1
    have hone : ∀ v, hasL (if ltV st s.1 then [((st, some s.1) : Str2)] else []) v = (decide (leV st v) && decide (ltV v s.1)) := fun v => by
      by_cases c : ltV st s.1
      · rw [if_pos c]
        simp [hasL, hasS]
      · rw [if_neg c]
        symm
        show (decide (leV st v) && decide (ltV v s.1)) = false
        rw [Bool.and_eq_false_iff, decide_eq_false_iff_not, decide_eq_false_iff_not]
        unfold leV ltV at *
        omega
    cases e : s.2 with
    | none =>
      have rn : r = [] := by
        cases r with
        | nil => rfl
        | cons t r =>
          obtain ⟨u, eu, _⟩ := h.head (t := t) List.mem_cons_self
          rw [e] at eu
          cases eu
      subst rn
      rw [show butV none [] = [] from rfl, List.append_nil]
      refine ⟨?_, ?_, fun v => ?_, ?_⟩
      · by_cases c : ltV st s.1
        · rw [if_pos c]
          exact ⟨fun x hx => by obtain rfl := List.mem_singleton.mp hx; exact ⟨os, fun u eu => by cases eu; exact ⟨ok.1, c⟩⟩, List.pairwise_singleton _ _⟩
        · rw [if_neg c]
          exact ⟨fun x hx => (nomatch hx), List.Pairwise.nil⟩
      · intro t ht
        split at ht
        · obtain rfl := List.mem_singleton.mp ht
          exact ltV_irrefl _
        · cases ht
      · rw [hone v]
        have hs : hasL [s] v = decide (leV s.1 v) := by simp [hasL, hasS, e]
        rw [hs]
        congr 1
        rw [Bool.eq_iff_iff, Bool.not_eq_true', decide_eq_true_eq, decide_eq_false_iff_not]
        unfold leV ltV
        omega
      · split <;> simp
    | some u =>
      obtain ⟨ou, lu⟩ := ok.2 u e
      obtain ⟨m1, m2, m3, m4⟩ := but_main r u ou h.tail fun t ht => by
        obtain ⟨w, ew, lw⟩ := h.head ht
        rw [e] at ew
        cases ew
        unfold leV ltV at *
        omega
      have hr : ∀ v, leV u v → hasS s v = false := fun v hv => by
        rw [Bool.eq_false_iff, ne_eq, hasS_iff]
        rintro ⟨_, b⟩
        exact hv (b u e)
      refine ⟨?_, ?_, fun v => ?_, ?_⟩
      · by_cases c : ltV st s.1
        · rw [if_pos c]
          refine ⟨fun x hx => ?_, List.pairwise_append.mpr ⟨List.pairwise_singleton _ _, m1.pw, fun x hx t ht => ?_⟩⟩
          · rcases List.mem_append.mp hx with hx | hx
            · obtain rfl := List.mem_singleton.mp hx
              exact ⟨os, fun u eu => by cases eu; exact ⟨ok.1, c⟩⟩
            · exact m1.ok x hx
          · obtain rfl := List.mem_singleton.mp hx
            refine ⟨s.1, rfl, ?_⟩
            have := m2 t ht
            unfold leV ltV at *
            omega
        · rw [if_neg c]
          exact m1
      · intro t ht
        rcases List.mem_append.mp ht with ht | ht
        · split at ht
          · obtain rfl := List.mem_singleton.mp ht
            exact ltV_irrefl _
          · cases ht
        · have := m2 t ht
          unfold leV ltV at *
          omega
      · rw [hasL_app, hone v, m3 v, hasL_cons]
        have hs : hasS s v = (decide (leV s.1 v) && decide (ltV v u)) := by unfold hasS; rw [e]
        have hz : leV u v ∨ hasL r v = false := by
          by_cases c : leV u v
          · exact .inl c
          · refine .inr (hasL_lt fun t ht => ?_)
            obtain ⟨w, ew, lw⟩ := h.head ht
            rw [e] at ew
            cases ew
            unfold leV ltV at *
            omega
        rw [hs]
        have a1 : leV st s.1 := l0
        by_cases c1 : ltV v s.1
        · have c2 : ltV v u := by unfold ltV at *; omega
          have c3 : hasL r v = false := by
            rcases hz with hz | hz
            · exact absurd c2 hz
            · exact hz
          have c4 : ¬ leV s.1 v := fun z => z c1
          have c5 : ¬ leV u v := fun z => z c2
          rw [c3, decide_eq_true c1, decide_eq_false c4, decide_eq_false c5]
          simp
        · have c4 : leV s.1 v := c1
          have c6 : leV st v := by unfold leV ltV at *; omega
          rw [decide_eq_false c1, decide_eq_true c4, decide_eq_true c6]
          by_cases c2 : ltV v u
          · have c5 : ¬ leV u v := fun z => z c2
            rw [decide_eq_true c2, decide_eq_false c5]
            simp
          · have c5 : leV u v := c2
            rw [decide_eq_false c2, decide_eq_true c5]
            simp
      · rw [List.length_append, List.length_cons]
        have : (if ltV st s.1 then [((st, some s.1) : Str2)] else []).length ≤ 1 := by split <;> simp
        omega
theorem ok0 : okV v000 := ⟨Int.le_refl _, Int.le_refl _, Int.le_refl _⟩
theorem le0 {v : Ver} (h : okV v) : leV v000 v := by
  obtain ⟨a, b, c⟩ := h
  unfold leV ltV
  simp only
  omega
abbrev notV (fs : List Str2) : List Str2 := butV (some v000) fs
theorem not_nf {fs : List Str2} (h : NF fs) : NF (notV fs) := (but_main fs v000 ok0 h fun t ht => le0 (h.ok t ht).1).1
theorem not_has {fs : List Str2} (h : NF fs) {v : Ver} (o : okV v) : hasL (notV fs) v = !hasL fs v := by
  rw [(but_main fs v000 ok0 h fun t ht => le0 (h.ok t ht).1).2.2.1 v, decide_eq_true (le0 o), Bool.true_and]
theorem not_len {fs : List Str2} (h : NF fs) : (notV fs).length ≤ fs.length + 1 := (but_main fs v000 ok0 h fun t ht => le0 (h.ok t ht).1).2.2.2
abbrev orV (as bs : List Str2) : List Str2 := notV (comV (notV as) (notV bs))
theorem or_nf {as bs : List Str2} (h : NF as) (g : NF bs) : NF (orV as bs) := not_nf (com_nf _ _ (not_nf h) (not_nf g))
theorem or_has {as bs : List Str2} (h : NF as) (g : NF bs) {v : Ver} (o : okV v) : hasL (orV as bs) v = (hasL as v || hasL bs v) := by
  rw [not_has (com_nf _ _ (not_nf h) (not_nf g)) o, com_has _ _ (not_nf h) (not_nf g), not_has h o, not_has g o]
  cases hasL as v <;> cases hasL bs v <;> rfl
abbrev subV (as bs : List Str2) : List Str2 := comV as (notV bs)
theorem sub_nf {as bs : List Str2} (h : NF as) (g : NF bs) : NF (subV as bs) := com_nf _ _ h (not_nf g)
theorem sub_has {as bs : List Str2} (h : NF as) (g : NF bs) {v : Ver} (o : okV v) : hasL (subV as bs) v = (hasL as v && !hasL bs v) := by
  rw [com_has _ _ h (not_nf g), not_has g o]
/-- the normal form that a fold over sorted stretches leaves -/
theorem fold_nf {ss ss' : List Str2} (ok : ∀ s ∈ ss, okS s) (pm : ss'.Perm ss) (pw : ss'.Pairwise fun p q => ¬ ltV q.1 p.1) : NF (ss'.foldl nfAdd []) ∧ ∀ v, hasL (ss'.foldl nfAdd []) v = hasL ss v := by
  obtain ⟨a, b⟩ := nf_fold ss' [] ⟨fun s h => (nomatch h), List.Pairwise.nil⟩ (fun t ht => (nomatch ht)) pw fun s hs => ok s (pm.mem_iff.mp hs)
  refine ⟨a, fun v => ?_⟩
  rw [b v, hasL_mem (fs := ss') (gs := ss) fun s => pm.mem_iff]
  rfl
/-- a property of versions that changes at ends alone -/
def AtEnds (f : Ver → Bool) (es : List Ver) : Prop := ∀ v e, okV v → e ∈ es → leV e v → (∀ x ∈ es, leV x v → leV x e) → f v = f e
theorem hasL_ends {ss : List Str2} {es : List Ver} (h : ∀ v ∈ endsOf ss, v ∈ es) : AtEnds (hasL ss) es := by
  intro v e _ he le mx
  have key : ∀ s ∈ ss, hasS s v = hasS s e := fun s hs => by
    have ⟨m1, m2⟩ := ends_low hs
    rw [Bool.eq_iff_iff, hasS_iff, hasS_iff]
    constructor
    · rintro ⟨p, q⟩
      refine ⟨mx _ (h _ m1) p, fun u eu => ?_⟩
      have := q u eu
      unfold leV ltV at *
      omega
    · rintro ⟨p, q⟩
      refine ⟨?_, fun u eu => ?_⟩
      · unfold leV ltV at *
        omega
      · have q1 := q u eu
        exact Classical.byContradiction fun c => (mx u (h u (m2 u eu)) c) q1
  rw [Bool.eq_iff_iff, hasL_iff, hasL_iff]
  exact ⟨fun ⟨s, hs, x⟩ => ⟨s, hs, by rw [← key s hs]; exact x⟩, fun ⟨s, hs, x⟩ => ⟨s, hs, by rw [key s hs]; exact x⟩⟩
/-- what the law reckons at ends is the normal form of the versions with f -/
theorem ends_main {f : Ver → Bool} {es : List Ver} {fs : List Str2} (pw : es.Pairwise ltV) (ok : ∀ e ∈ es, okV e) (h0 : v000 ∈ es) (at_ : AtEnds f es) (nf : NF fs) (hf : ∀ v, okV v → hasL fs v = f v) : fs = pairsV (edgesOf f false es) := by
  have e1 := edges_pw f es false pw
  refine nf.unique (nf_pairs e1 fun e he => ok e (edges_mem _ _ _ e he)) fun v hv => ?_
  rw [hf v hv, pairs_par v e1]
  have z := edges_par f v es false pw
  have z2 : par (edgesOf f false es) v = lastf f false es v := by
    rw [← z]
    cases par (edgesOf f false es) v <;> rfl
  obtain ⟨e, he, le, mx, ef⟩ := last_is f v es false pw ⟨v000, h0, le0 hv⟩
  rw [z2, ef]
  exact at_ v e hv he le mx
def okVB (v : Ver) : Bool := decide (0 ≤ v.1) && decide (0 ≤ v.2.1) && decide (0 ≤ v.2.2)
theorem okVB_ok {v : Ver} (h : okVB v = true) : okV v := by
  unfold okVB at h
  simp only [Bool.and_eq_true, decide_eq_true_eq] at h
  exact ⟨h.1.1, h.1.2, h.2⟩
/-- whether a written list is a normal form -/
def nfB : List Str2 → Bool
  | [] => true
  | s :: r => okVB s.1 && (match s.2 with
      | none => r.isEmpty
      | some u => okVB u && decide (ltV s.1 u) && (match r with
        | [] => true
        | t :: _ => decide (ltV u t.1))) && nfB r
theorem nfB_ok : ∀ {fs : List Str2}, nfB fs = true → NF fs
  | [], _ => ⟨fun s h => (nomatch h), List.Pairwise.nil⟩
  | s :: r, h => by
    unfold nfB at h
    simp only [Bool.and_eq_true] at h
    obtain ⟨⟨h1, h2⟩, h3⟩ := h
    have n := nfB_ok h3
    have o := okVB_ok h1
    cases e : s.2 with
    | none =>
      rw [e] at h2
      obtain rfl : r = [] := by simpa using h2
      refine ⟨fun t ht => ?_, List.pairwise_singleton _ _⟩
      obtain rfl := List.mem_singleton.mp ht
      exact ⟨o, fun u eu => by rw [e] at eu; cases eu⟩
    | some u =>
      rw [e] at h2
      simp only [Bool.and_eq_true, decide_eq_true_eq] at h2
      obtain ⟨⟨h4, h5⟩, h6⟩ := h2
      refine ⟨fun t ht => ?_, List.pairwise_cons.mpr ⟨fun t ht => ⟨u, e, ?_⟩, n.pw⟩⟩
      · rcases List.mem_cons.mp ht with rfl | ht
        · exact ⟨o, fun x ex => by rw [e] at ex; cases ex; exact ⟨okVB_ok h4, h5⟩⟩
        · exact n.ok t ht
      · cases r with
        | nil => cases ht
        | cons p r =>
          have h6 : ltV u p.1 := of_decide_eq_true h6
          rcases List.mem_cons.mp ht with rfl | ht
          · exact h6
          · exact ltV_trans h6 (n.lows ht)
/-- a written normal form is what a fold over its stretches leaves -/
theorem fold_is {ss ss' : List Str2} (h : nfB ss = true) (pm : ss'.Perm ss) (pw : ss'.Pairwise fun p q => ¬ ltV q.1 p.1) : ss'.foldl nfAdd [] = ss := by
  have n := nfB_ok h
  obtain ⟨a, b⟩ := fold_nf n.ok pm pw
  exact a.unique n fun v _ => b v
end Kw
set_option maxHeartbeats 4000000
namespace Kw
open PySem PySem.Spec PyProof.Rows L2 LamX
/-! ### comprehensions over a string -/
theorem lc_str {z : Str} {g : TG} {tt : TT} {te : TE} {vs : List Nat} {σ : L2.St} {H1 : Hp} {D : Addr} {Qd : Hp → Prop} (Pv : Nat → Hp → Prop) (start : Pv 0 (upd H1 D (.lst [])))
    (step : ∀ j c H, z.cps[j]? = some c → Pv j H → g (.str ⟨#[c]⟩) (wipe σ vs) H fun σ2 H2 => wipe σ2 vs = wipe σ vs ∧ tt σ2 H2 fun b H3 => if b = true then te σ2 H3 fun y H4 => ∃ acc, H4 D = some (.lst acc) ∧ acc.length < sizeLine ∧ Pv (j + 1) (upd H4 D (.lst (acc ++ [y]))) else Pv (j + 1) H3)
    (stop : ∀ H, Pv z.cps.size H → Qd H) :
    ∃ W : Nat → Nat → Hp → Prop, (∃ m, W 0 m (upd H1 D (.lst []))) ∧ ∀ i m H, W i m H → ((Its z).stop i H ∧ Qd H) ∨ ((Its z).go i H ∧ ∃ Nx : Hp → Prop, (∀ H', Nx H' → ∃ m', m' < m ∧ W (i + 1) m' H') ∧ ∀ x H', (Its z).yld i H x H' → g x (wipe σ vs) H' fun σ2 H2 => wipe σ2 vs = wipe σ vs ∧ tt σ2 H2 fun b H3 => if b = true then te σ2 H3 fun y H4 => ∃ acc, H4 D = some (.lst acc) ∧ acc.length < sizeLine ∧ Nx (upd H4 D (.lst (acc ++ [y]))) else Nx H3) := by
  refine ⟨fun i m H => m = z.cps.size - i ∧ i ≤ z.cps.size ∧ Pv i H, ⟨z.cps.size, by simp, Nat.zero_le _, start⟩, fun i m H hw => ?_⟩
  obtain ⟨em, hi, p⟩ := hw
  by_cases lt : i < z.cps.size
  · exact .inr ⟨lt, Pv (i + 1), fun H' p' => ⟨z.cps.size - (i + 1), by omega, rfl, lt, p'⟩, fun x H' y => by obtain ⟨rfl, c, hc, rfl⟩ := y; exact step i c _ hc p⟩
  · have ei : i = z.cps.size := by omega
    rw [ei] at p ⊢
    exact .inl ⟨Nat.le_refl _, stop H p⟩
/-! ### kits -/
abbrev LET : Str := "abcdefghijklmnopqrstuvwxyz"
def inLET (c : Nat) : Bool := decide (c ∈ LET.cps.toList)
def kitS (z : Str) : Bool := decide (1 ≤ z.length) && (decide (z.length ≤ 8) && z.cps.toList.all inLET)
def spIsKit (K : PySem.W.Frag) : Sp := fun vs H Q _ => ∃ (x : V), vs = [x] ∧ ((∃ z : Str, x = .str z ∧ z.length ≤ 1000 ∧ (∀ c ∈ z.cps.toList, PyData.strOk ⟨#[c]⟩ = true) ∧ ∀ H', Same H H' → Q (.bl (kitS z)) H') ∨ ∃ T, Ty K H x T ∧ kitB T "str" = some false ∧ Q (.bl false) H)
section
variable {P : Program} {w : World} {K : PySem.W.Frag} {mg : Str → Option Value} {base : Heap}
theorem arr_take {z : Str} {j c : Nat} (h : z.cps[j]? = some c) : z.cps.toList.take (j + 1) = z.cps.toList.take j ++ [c] := take_snoc (by rw [Array.getElem?_toList]; exact h)
end
end Kw
set_option maxHeartbeats 4000000
namespace Kw
open PySem PySem.Spec PyProof.Rows L2 LamX
/-! ### values that are no tuples -/
inductive Oth (H : Hp) : V → String → Prop
  | flat {x : V} {T : String} : Flat x T → Oth H x T
  | lst {a : Addr} {xs : List V} : H a = some (.lst xs) → Oth H (.ref a) "list"
  | dct {a : Addr} {kvs : List (Key × V)} : H a = some (.dK kvs) → Oth H (.ref a) "dict"
theorem Oth.ty {K : PySem.W.Frag} {H : Hp} {x : V} {T : String} (h : Oth H x T) : Ty K H x T := by
  cases h with
  | flat f => exact f.ty
  | lst e => exact .base (.lst e)
  | dct e => exact .base (.dK e)
theorem Oth.no {H : Hp} {x : V} {T : String} (h : Oth H x T) : kitB T "tuple" = some false := by
  cases h with
  | flat f => cases f <;> decide +kernel
  | lst e => decide +kernel
  | dct e => decide +kernel
theorem Oth.ext {H H' : Hp} {x : V} {T : String} (h : Oth H x T) (e : ExtN H H') : Oth H' x T := by
  cases h with
  | flat f => exact .flat f
  | lst g => exact .lst (e _ _ g fun ps z => nomatch z)
  | dct g => exact .dct (e _ _ g fun ps z => nomatch z)
theorem Oth.fr {H H' : Hp} {x : V} {T : String} {d w : Addr} (h : Oth H x T) (F : Fr2 d w H H') (n1 : x ≠ .ref d) (n2 : x ≠ .ref w) : Oth H' x T := by
  cases h with
  | flat f => exact .flat f
  | lst g => exact .lst (F _ _ (fun z => n1 (by rw [z])) (fun z => n2 (by rw [z])) g)
  | dct g => exact .dct (F _ _ (fun z => n1 (by rw [z])) (fun z => n2 (by rw [z])) g)
/-! ### values that are versions or not -/
inductive VerB (K : PySem.W.Frag) (H : Hp) : V → Bool → Prop
  | tup {a : Addr} {xs : List V} {b : Bool} : SqT K H a xs → (∀ y ∈ xs, xs.length = 3 → ∃ T, Flat y T) → b = (decide (xs.length = 3) && xs.all numV) → VerB K H (.ref a) b
  | oth {x : V} {T : String} : Oth H x T → VerB K H x false
theorem VerB.ext {K : PySem.W.Frag} {H H' : Hp} {x : V} {b : Bool} (h : VerB K H x b) (e : ExtN H H') : VerB K H' x b := by
  cases h with
  | tup t f g => exact .tup (e.sqT t) f g
  | oth o => exact .oth (o.ext e)
theorem VerB.fr {K : PySem.W.Frag} {H H' : Hp} {x : V} {b : Bool} {d w c : Addr} {B : Int} (h : VerB K H x b) (S : StAt H d w c B) (F : Fr2 d w H H') (n1 : x ≠ .ref d) (n2 : x ≠ .ref w) : VerB K H' x b := by
  cases h with
  | tup t f g => exact .tup (F.sqT S t) f g
  | oth o => exact .oth (o.fr F n1 n2)
theorem VerB.of {K : PySem.W.Frag} {H : Hp} {x : V} {v : Ver} (h : IsVer K H x v) (o : okV v) : VerB K H x true := by
  obtain ⟨a, rfl, t⟩ := h
  obtain ⟨o1, o2, o3⟩ := o
  refine VerB.tup t (fun y hy _ => ?_) (by simp [numV, o1, o2, o3])
  simp at hy
  rcases hy with rfl | rfl | rfl <;> exact ⟨_, .int _⟩
def spVerB (K : PySem.W.Frag) : Sp := fun vs H Q _ => ∃ (x : V) (b : Bool), vs = [x] ∧ VerB K H x b ∧ ∀ H', Same H H' → Q (.bl b) H'
theorem verB_of {K : PySem.W.Frag} : ∀ vs H Q E, spVerB K vs H Q E → spIsVer K vs H Q E := by
  rintro vs H Q E ⟨x, b, rfl, h, q⟩
  cases h with
  | tup t f g => exact ⟨_, rfl, .inl ⟨_, _, rfl, t, f, by rw [← g]; exact q⟩⟩
  | oth o => exact ⟨x, rfl, .inr ⟨_, o.ty, o.no, q H (Same.refl H)⟩⟩
/-! ### values that are stretches or not -/
inductive StrB (K : PySem.W.Frag) (H : Hp) : V → Bool → Prop
  | oth {x : V} {T : String} : Oth H x T → StrB K H x false
  | len {a : Addr} {xs : List V} : SqT K H a xs → xs.length ≠ 2 → StrB K H (.ref a) false
  | fst {a : Addr} {x y : V} : SqT K H a [x, y] → VerB K H x false → StrB K H (.ref a) false
  | non {a : Addr} {x : V} {v : Ver} : SqT K H a [x, .non] → IsVer K H x v → okV v → StrB K H (.ref a) true
  | snd {a : Addr} {x y : V} {v : Ver} : SqT K H a [x, y] → IsVer K H x v → okV v → y ≠ .non → VerB K H y false → StrB K H (.ref a) false
  | both {a : Addr} {x y : V} {v u : Ver} : SqT K H a [x, y] → IsVer K H x v → okV v → IsVer K H y u → okV u → StrB K H (.ref a) (decide (ltV v u))
theorem StrB.of {K : PySem.W.Frag} {H : Hp} {x : V} {s : Str2} (h : IsStr K H x s) (o : okS s) : StrB K H x true := by
  obtain ⟨p, l, hh, rfl, t, t1, t2⟩ := h
  obtain ⟨s1, s2⟩ := s
  cases s2 with
  | none =>
    obtain rfl : hh = .non := t2
    exact .non t t1 o.1
  | some u =>
    have ⟨q1, q2⟩ := o.2 u rfl
    have e : decide (ltV s1 u) = true := decide_eq_true q2
    rw [← e]
    exact .both t t1 o.1 t2 q1
def spStrB (K : PySem.W.Frag) : Sp := fun vs H Q _ => ∃ (x : V) (b : Bool), vs = [x] ∧ StrB K H x b ∧ ∀ H', Same H H' → Q (.bl b) H'
theorem ver_ne {K : PySem.W.Frag} {H : Hp} {x : V} {v : Ver} (h : IsVer K H x v) : decide (x = V.non) = false := by
  obtain ⟨a, rfl, _⟩ := h
  rfl
section
variable {P : Program} {w : World} {K : PySem.W.Frag} {mg : Str → Option Value} {base : Heap}
theorem scIsStr : FnScope ["value"] ["value"] (defScope sIsStr) := ⟨rfl, rfl, rfl, by decide +kernel, rfl, by decide +kernel, by decide +kernel⟩
theorem kit_tup : kitB "tuple" "tuple" = some true := by decide +kernel
/-- the program's is_stretch -/
theorem ok_isStr {f : Addr} {fd : FuncData} {k : Nat} (F : Fun K "is_stretch" "is_stretch" sIsStr f fd) (DT : Def P w K mg base "is_tuple_of" CX0 k ["value", "many"] (spTupOf K)) (DV : Def P w K mg base "is_version" CX0 k ["value"] (spVerB K)) : FnOk P w K mg base CX0 (k + 1) f fd ["value"] (spStrB K) := by
  refine F.ok scIsStr (fun vs H Q E h => ?_) (fun cdv A outer s H vs Q E hr h => ?_)
  · obtain ⟨x, b, rfl, _⟩ := h
    rfl
  · obtain ⟨x, b, rfl, h, q⟩ := h
    refine ⟨_, pss_cons (ps_if (PW.pt (pw_or (pt_not (pt_val (pe_d DT hr (pa_cons (pv 0) (pa_cons pe_int pa_nil))))) (pw_or1 (pt_not (pt_val (pe_d DV hr (pa_cons (pe_ix ix_tup (pv 0) pe_int (fun _ _ => rfl)) pa_nil))))))) (pss_one (ps_ret pe_bl)) pss_nil)
      (pss_one (ps_ret (pe_or (pe_cmpR op_isN (pe_ix ix_tup (pv 0) pe_int (fun _ _ => rfl)) pe_non (nomark _)) (pe_one (pe_and (pe_d DV hr (pa_cons (pe_ix ix_tup (pv 0) pe_int (fun _ _ => rfl)) pa_nil)) (pe_one (pe_cmpR (op_ver (op := .Lt) (.inl rfl) hr.units0) (pe_ix ix_tup (pv 0) pe_int (fun _ _ => rfl)) (pe_ix ix_tup (pv 0) pe_int (fun _ _ => rfl)) (nomark _)))))))), ?_⟩
    cases h with
    | oth o => exact ⟨_, rfl, x, 2, rfl, .inr ⟨_, o.ty, o.no, _, rfl, iteT (iteT (q H (Same.refl H)))⟩⟩
    | @len a xs t n =>
      refine ⟨_, rfl, .ref a, 2, rfl, .inl ⟨a, xs, rfl, t, _, rfl, ?_⟩⟩
      have e : decide ((xs.length : Int) = 2) = false := decide_eq_false (by omega)
      rw [e]
      exact iteT (iteT (q H (Same.refl H)))
    | @fst a x y t b =>
      refine ⟨_, rfl, .ref a, 2, rfl, .inl ⟨a, [x, y], rfl, t, _, rfl, iteF ?_⟩⟩
      refine ⟨_, rfl, a, [x, y], 0, x, rfl, rfl, t, atI_nat (j := 0) rfl, x, false, rfl, b, fun H1 s1 => ⟨_, rfl, iteT ?_⟩⟩
      exact q H1 s1
    | @non a x v t iv ov =>
      refine ⟨_, rfl, .ref a, 2, rfl, .inl ⟨a, [x, .non], rfl, t, _, rfl, iteF ?_⟩⟩
      refine ⟨_, rfl, a, [x, .non], 0, x, rfl, rfl, t, atI_nat (j := 0) rfl, x, true, rfl, .of iv ov, fun H1 s1 => ⟨_, rfl, iteF ?_⟩⟩
      exact ⟨_, rfl, a, [x, .non], 1, .non, rfl, rfl, Same.sqT s1 t, atI_nat (j := 1) rfl, rfl, _, rfl, iteT (q H1 s1)⟩
    | @snd a x y v t iv ov n b =>
      refine ⟨_, rfl, .ref a, 2, rfl, .inl ⟨a, [x, y], rfl, t, _, rfl, iteF ?_⟩⟩
      refine ⟨_, rfl, a, [x, y], 0, x, rfl, rfl, t, atI_nat (j := 0) rfl, x, true, rfl, .of iv ov, fun H1 s1 => ⟨_, rfl, iteF ?_⟩⟩
      have e : decide (y = V.non) = false := decide_eq_false n
      refine ⟨_, rfl, a, [x, y], 1, y, rfl, rfl, Same.sqT s1 t, atI_nat (j := 1) rfl, rfl, _, rfl, ?_⟩
      rw [e]
      refine iteF ⟨_, rfl, a, [x, y], 1, y, rfl, rfl, Same.sqT s1 t, atI_nat (j := 1) rfl, y, false, rfl, b.ext (ExtN.same s1), fun H2 s2 => ⟨_, rfl, iteF (q H2 (s1.trans s2))⟩⟩
    | @both a x y v u t iv ov iu ou =>
      refine ⟨_, rfl, .ref a, 2, rfl, .inl ⟨a, [x, y], rfl, t, _, rfl, iteF ?_⟩⟩
      refine ⟨_, rfl, a, [x, y], 0, x, rfl, rfl, t, atI_nat (j := 0) rfl, x, true, rfl, .of iv ov, fun H1 s1 => ⟨_, rfl, iteF ?_⟩⟩
      refine ⟨_, rfl, a, [x, y], 1, y, rfl, rfl, Same.sqT s1 t, atI_nat (j := 1) rfl, rfl, _, rfl, ?_⟩
      rw [ver_ne iu]
      refine iteF ⟨_, rfl, a, [x, y], 1, y, rfl, rfl, Same.sqT s1 t, atI_nat (j := 1) rfl, y, true, rfl, .of (iu.same s1) ou, fun H2 s2 => ⟨_, rfl, iteT ?_⟩⟩
      refine ⟨_, rfl, a, [x, y], 0, x, rfl, rfl, Same.sqT (s1.trans s2) t, atI_nat (j := 0) rfl, _, rfl, a, [x, y], 1, y, rfl, rfl, Same.sqT (s1.trans s2) t, atI_nat (j := 1) rfl, v, u, iv.same (s1.trans s2), iu.same (s1.trans s2), q H2 (s1.trans s2)⟩
end
end Kw
set_option maxHeartbeats 4000000
namespace Kw
open PySem PySem.Spec PyProof.Rows L2 LamX
theorem ones_eq (n : Nat) : PyData.eqv (.list ((List.replicate n (1 : Int)).map PyData.int)) (.list []) = decide (n = 0) := by
  rw [eqv_nil]
  cases n <;> rfl
/-- a test in a comprehension that adds a 1 or not -/
theorem add1 {H H' : Hp} {D : Addr} {n i : Nat} {b c : Bool} {R : Hp → Prop} (s1 : Same H H') (hD : H D = none) (h1 : H' D = some (.lst ((List.replicate n (1 : Int)).map V.int))) (hn : n ≤ 1000)
    (yes : b = true → ∀ H2, Same H H2 → H2 D = some (.lst ((List.replicate (n + 1) (1 : Int)).map V.int)) → R H2) (no : b = false → R H') :
    if b = true then ∃ acc, H' D = some (.lst acc) ∧ acc.length < sizeLine ∧ R (upd H' D (.lst (acc ++ [V.int 1]))) else R H' := by
  cases b with
  | false => exact iteF (no rfl)
  | true =>
    refine iteT ⟨_, h1, by rw [List.length_map, List.length_replicate]; exact small1000 (by omega), yes rfl _ (fun b o z => by rw [upd_ne (ne_of_none z hD)]; exact s1 _ _ z) ?_⟩
    rw [upd_same, List.replicate_succ', List.map_append]
    rfl
section
variable {P : Program} {w : World} {K : PySem.W.Frag} {mg : Str → Option Value} {base : Heap}
end
end Kw
set_option maxHeartbeats 4000000
namespace Kw
open PySem PySem.Spec PyProof.Rows L2 LamX
/-! ### lists of strings, as data -/
theorem dp_strs {K : PySem.W.Frag} {H : Hp} : ∀ ns : List Str, DpAll K H (ns.map V.str) (ns.map PyData.str)
  | [] => .nil
  | n :: ns => .cons (.str n) (dp_strs ns)
theorem cl_strs : ∀ ns : List Str, (∀ n ∈ ns, PyData.strOk n = true) → PyData.canLayAll0 (ns.map PyData.str) = true
  | [], _ => by simp [PyData.canLayAll0]
  | n :: ns, h => by simp [PyData.canLayAll0, PyData.canLay0, cl_strs ns fun x hx => h x (List.mem_cons_of_mem _ hx), h n List.mem_cons_self]
theorem dep_strs : ∀ ns : List Str, PyData.depthAll (ns.map PyData.str) ≤ 1
  | [] => by simp [PyData.depthAll]
  | n :: ns => by
    have := dep_strs ns
    simp [PyData.depthAll, PyData.depth]
    try omega
theorem shaped_strs (ns : List Str) (hn : ∀ n ∈ ns, PyData.strOk n = true) : SeqAt.shaped (.list (ns.map PyData.str)) = true := by
  have h1 := cl_strs ns hn
  have h2 := dep_strs ns
  simp only [SeqAt.shaped, PyData.canLay0, PyData.depth, h1, Bool.true_and]
  exact decide_eq_true (by omega)
theorem eqv_strs (ns : List Str) : PyData.eqv (.list (ns.map PyData.str)) (.list []) = ns.isEmpty := by
  cases ns with
  | nil => simp [PyData.eqv, PyData.eqvAll]
  | cons n ns => simp [PyData.eqv, PyData.eqvAll]
def spIsList (K : PySem.W.Frag) : Sp := fun vs H Q _ => ∃ (x : V) (T : String) (b : Bool), vs = [x] ∧ Ty K H x T ∧ PySem.W.kitAny K (.type T) [.type "list", .type "tuple"] = some b ∧ ∀ H', Same H H' → Q (.bl b) H'
section
variable {P : Program} {w : World} {K : PySem.W.Frag} {mg : Str → Option Value} {base : Heap}
theorem scIsList : FnScope ["value"] ["value"] (defScope sIsList) := ⟨rfl, rfl, rfl, by decide +kernel, rfl, by decide +kernel, by decide +kernel⟩
theorem ok_isList {f : Addr} {fd : FuncData} {k : Nat} (F : Fun K "is_list" "is_list" sIsList f fd) (mi : mg "isinstance" = none) (ml : mg "list" = none) (mt : mg "tuple" = none) : FnOk P w K mg base CX0 (k + 1) f fd ["value"] (spIsList K) := by
  refine F.ok scIsList (fun vs H Q E h => ?_) (fun cdv A outer s H vs Q E hr h => ?_)
  · obtain ⟨x, T, b, rfl, _⟩ := h
    rfl
  · obtain ⟨x, T, b, rfl, ty, ek, q⟩ := h
    refine ⟨_, pss_one (ps_ret (pe_callB call_isiT (by rfl) mi (by decide +kernel) (pa_cons (pv 0) (pa_cons (pe_tup (pa_cons (pe_bltn (v := .ty "list") (by rfl) ml (by decide +kernel) rfl) (pa_cons (pe_bltn (v := .ty "tuple") (by rfl) mt (by decide +kernel) rfl) pa_nil))) pa_nil)))), ?_⟩
    refine ⟨_, rfl, by show 2 ≤ sizeLine; decide, fun tp htp => ?_⟩
    have s1 := same_upd (o := .tup [.ty "list", .ty "tuple"]) htp
    refine ⟨x, tp, _, .type T, [.type "list", .type "tuple"], b, rfl, upd_same, .cons (.ty _) (.cons (.ty _) .nil), ?_, ek, q _ s1⟩
    cases ty with
    | base h =>
      refine .base ?_
      cases h with
      | non => exact .non
      | bl b => exact .bl b
      | int i => exact .int i
      | str z => exact .str z
      | flt z => exact .flt z
      | lst e => exact .lst (s1 _ _ e)
      | frz e => exact .frz (s1 _ _ e)
      | tup e => exact .tup (s1 _ _ e)
      | dK e => exact .dK (s1 _ _ e)
      | dT e => exact .dT (s1 _ _ e)
    | byt b => exact .byt b
    | set e => exact .set (s1 _ _ e)
    | kList e c => exact .kList e c
    | kTuple e c => exact .kTuple e c
    | kDict e c => exact .kDict e c
    | fTuple e => exact .fTuple (s1 _ _ e)
    | fDict e => exact .fDict (s1 _ _ e)
end
end Kw
set_option maxHeartbeats 4000000
namespace Kw
open PySem PySem.Spec PyProof.Rows L2 LamX
open AutoSeq1 (wpAny_loadPart')
/-! ### enumerate of a tuple -/
theorem meets_enumT (l : Addr) (items : Array Value) (n : Nat) (dct : Option Addr) (sl : Array (Option Value)) :
    Meets (Builtin.«enumerate.__new__» ⟨[.type "enumerate", .ref l], []⟩) (fun _ R s => s.heap.get? l = some { cls := .type "tuple", dict := dct, data := .seq items n, slots := sl } ∧
      R (.ok (.ret (.ref (s.heap.push { cls := .type "tuple_iterator", data := .fields #[.ref l, .int 0 0] }).objs.size))) { s with heap := (s.heap.push { cls := .type "tuple_iterator", data := .fields #[.ref l, .int 0 0] }).push { cls := .type "enumerate", data := .fields #[.none, .bool false, .ref s.heap.objs.size, rawInt 0, .none, .none] } }) :=
  .of_wp fun prog w A R s h => by
    obtain ⟨hp, g, d, tk, os⟩ := s
    obtain ⟨hl, h⟩ := h
    have hsub := sub_enumerate
    have hL : Heap.IsTuple (Shared.heap ⟨hp, g, d, tk, os⟩) l items := ⟨_, hl, rfl, n, rfl⟩
    wp_walk using wpAny_loadPart' hl
    refine wpAny_stack_any fun st => wpAny_pure ?_
    split
    · rename_i c _ _ _ _ _
      cases (c == Value.type "enumerate") <;> (wp_walk using wpAny_loadPart' hl, wpAny_pyIter_tuple hL; exact ⟨_, rfl, h⟩)
    · wp_walk using wpAny_loadPart' hl, wpAny_pyIter_tuple hL
      exact ⟨_, rfl, h⟩
section
variable {prog : Program} {w : World} {A : Around} {E : Value → Shared → Prop} {s : Shared}
theorem call_enumT {l : Addr} {items : Array Value} {Q : Value → Shared → Prop} (hL : s.heap.IsTuple l items)
    (h : ∀ h', IsEnum h' (s.heap.objs.size + 1) s.heap.objs.size 0 .none → h'.IsTupleIter s.heap.objs.size l 0 → h'.objs.size = s.heap.objs.size + 2 → (∀ b o, s.heap.get? b = some o → h'.get? b = some o) → Q (.ref (s.heap.objs.size + 1)) { s with heap := h' }) :
    wpAny (model prog w) A (call (.type "enumerate") [.ref l]) Q E s := by
  obtain ⟨⟨c, dct, dt, sl⟩, hl, hc, n, hd⟩ := hL
  replace hc : c = .type "tuple" := hc
  replace hd : dt = .seq items n := hd
  subst hc hd
  refine callType_new F.called_enumerate (by decide) (F.typeCall_enumerate_1 _) (F.newCall_enumerate_1 _) (fun obj => F.args_object_init_2 obj _) F.entry_enumerate_new (meets_enumT l items n dct sl) ⟨hl, ?_⟩
  have hz : (s.heap.push { cls := .type "tuple_iterator", data := .fields #[.ref l, .int 0 0] }).objs.size = s.heap.objs.size + 1 := Heap.size_push ..
  show _ ∧ _
  rw [hz]
  have he : IsEnum ((s.heap.push { cls := .type "tuple_iterator", data := .fields #[.ref l, .int 0 0] }).push { cls := .type "enumerate", data := .fields #[.none, .bool false, .ref s.heap.objs.size, rawInt 0, .none, .none] }) (s.heap.objs.size + 1) s.heap.objs.size 0 .none := by
    have q := Heap.get?_push_size (s.heap.push { cls := .type "tuple_iterator", data := .fields #[.ref l, .int 0 0] }) (o := { cls := .type "enumerate", data := .fields #[.none, .bool false, .ref s.heap.objs.size, rawInt 0, .none, .none] }) rfl
    rw [hz] at q
    exact q
  exact ⟨⟨_, he, rfl⟩, h _ he ⟨_, Heap.get?_push_of_some _ (Heap.get?_push_size _ rfl), rfl, rfl⟩ (by rw [Heap.size_push, hz]) fun b o x => Heap.get?_push_of_some _ (Heap.get?_push_of_some _ x)⟩
end
/-- the tuple at a, each item in a new pair -/
def IteT (K : PySem.W.Frag) (a : Addr) : It :=
  ⟨fun i H => ∃ (xs : List V) (x : V), SqT K H a xs ∧ xs[i]? = some x, fun i H v H' => ∃ T x, v = .ref T ∧ H T = none ∧ H' = upd H T (.tup [.int (i : Nat), x]) ∧ ∀ xs, SqT K H a xs → xs[i]? = some x, fun i H => ∃ xs : List V, SqT K H a xs ∧ xs.length = i⟩
theorem turn_enumT {P : Program} {w : World} {K : PySem.W.Frag} {elts : List Expr} {kk : Nat} {tpos : Pos} (a e it : Addr) (hai : a ≠ it) (hea : e ≠ a) :
    Turn P w K (.Tuple elts kk tpos) (IteT K a) [e, it] e (fun i h => (∃ old, IsEnum h e it ((i : Nat) : Int) old) ∧ h.IsTupleIter it a i ∧ e ≠ it) where
  mem := by simp
  obj := fun i h st b hb => by
    obtain ⟨⟨old, he⟩, ⟨o, ho, hc, hd⟩, _⟩ := st
    have e' : b = e ∨ b = it := by simpa using hb
    rcases e' with z | z
    · rw [z]; exact ⟨_, he, fun v q => nomatch q⟩
    · rw [z]; exact ⟨o, ho, fun v q => by rw [hd] at q; cases q⟩
  keep := fun i h h' st k => let ⟨⟨old, he⟩, hi, hne⟩ := st; ⟨⟨old, k e (by simp) _ he⟩, hi.at fun o q => k it (by simp) o q, hne⟩
  item := by
    intro X hP hw hK hc i pins s σ H E I hf st hg
    subst hP hw hK
    obtain ⟨⟨old, he⟩, hit, hne⟩ := st
    obtain ⟨xs, x, hq, hx⟩ := hg
    obtain ⟨its, rv, p, hz⟩ := I.tuple hq
    have hi' : i < its.toArray.size := by
      have := (List.getElem?_eq_some_iff.mp hx).1
      rw [rv.length] at this
      simpa using this
    have hel : e < s.heap.objs.size := Heap.lt_size he
    have hil : it < s.heap.objs.size := by obtain ⟨_, q, _⟩ := hit; exact Heap.lt_size q
    have D := Draws.tuple (prog := X.prog) (w := X.w) (A := X.A.in1) (I.ok.hd hc) it a hai its.toArray
    refine wpAny_pyNext_enum_itemD D he ⟨hit, p⟩ hi' hne (by simp [hne, hea]) fun u h' tk hu ho hst' hT hsz hk => ?_
    obtain ⟨u', hu', ru⟩ := rv.get hx
    have eu : u' = u := by
      have q : its[i]? = some u := by simpa using hu
      rw [hu'] at q
      exact Option.some.inj q
    subst eu
    refine ⟨_, rfl, wpAny_letOwnedTupleGo_enum (s := { s with heap := h', toks := tk + 1 }) ho fun h'' he' sb => ?_⟩
    have hT2 : h''.get? s.heap.objs.size = some { cls := .type "tuple", data := .seq #[.int i tk, u'] } := (sb.2 _ (Nat.ne_of_gt hel)).trans hT
    have new : ObjOk X.prog X.w (upd H s.heap.objs.size (.tup [.int (i : Nat), x])) h'' s.heap.objs.size (.tup [.int (i : Nat), x]) := ⟨by show 2 ≤ sizeLine; decide, [.int i tk, u'], .cons ⟨_, rfl⟩ (.cons ru .nil), ⟨_, hT2, rfl, _, rfl⟩⟩
    have I1 : Inv X pins σ (upd H s.heap.objs.size (.tup [.int (i : Nat), x])) { s with heap := h'', toks := tk + 1 } :=
      I.turnedNew (ch := [e, it]) (fun b ob hb q => (sb.2 b (fun z => hb (by simp [z]))).trans (hk b ob (fun z => hb (by simp [z])) (fun z => hb (by simp [z])) q)) hf (Nat.le_refl _) new
    refine ⟨.ref s.heap.objs.size, _, I1, rfl, ⟨_, x, rfl, I.hok.fresh (Nat.le_refl _), rfl, fun ys hy => by rw [I.tuple_inj hy hq]; exact hx⟩, ⟨⟨u', ?_⟩, hst'.1.at fun o q => (sb.2 it (Ne.symm hne)).trans q, hne⟩, fun b hb => ?_⟩
    · have e1 : ((i + 1 : Nat) : Int) = (i : Int) + 1 := by omega
      rw [e1]; exact he'
    · have hb' : b < s.heap.objs.size := by
        have e' : b = e ∨ b = it := by simpa using hb
        rcases e' with z | z
        · rw [z]; exact hel
        · rw [z]; exact hil
      rw [upd_ne (Nat.ne_of_lt hb')]
      exact (hf b hb).1
  done := by
    intro X hP hw hK hc i pins s σ H E I hf st hg
    subst hP hw hK
    obtain ⟨⟨old, he⟩, hit, hne⟩ := st
    obtain ⟨xs, hq, hx⟩ := hg
    obtain ⟨its, rv, p, hz⟩ := I.tuple hq
    obtain ⟨f0, f1, f2, f3, f4, f5⟩ := hf it (by simp)
    have en : its.toArray.size = i := by
      rw [List.size_toArray, ← rv.length, hx]
    have D := Draws.tuple (prog := X.prog) (w := X.w) (A := X.A.in1) (I.ok.hd hc) it a hai its.toArray
    refine wpAny_pyNext_enum_endD D he ⟨by rw [en]; exact hit, p⟩ fun h' eb => ⟨rfl, I.turned (t' := s.toks) (fun b o hb q => eb b o hb q) f0 f1 f3 f4 f5⟩
  self := fun A i s Q E st h => let ⟨⟨_, he⟩, _⟩ := st; wpAny_pyIter_enum he h
/-- enumerate(e), e a list or a tuple -/
def iEnumLT (K : PySem.W.Frag) (ta : TA) : TI := fun σ H R => ta σ H fun vs H1 => ∃ a xs, vs = [.ref a] ∧ ((SqL K H1 a xs ∧ R (Ite K a) H1) ∨ (SqT K H1 a xs ∧ R (IteT K a) H1))
theorem pi_enumLT {X : Cx} {e : Expr} {ta : TA} {p pos tpos : Pos} {elts : List Expr} {kk : Nat} (hg : Gl X "enumerate") (hm : X.mg "enumerate" = none) (ha : PA X [e] ta) (hs : starEach [e] X.env = [(false, eval e X.env)] := by rfl) :
    PI X (.Tuple elts kk tpos) (.Call (.Name "enumerate" p) [e] [] pos) (iEnumLT X.K ta) := by
  refine ⟨fun pins s σ H R I h => ?_⟩
  refine Call_ (ld_blt I hg hm boot_enumerate (PyProof.Rows.callWith_type1 (thn (ha.run pos pins s σ H _ I h) fun us s1 ⟨vs, H1, I1, r1, q1⟩ => ?_) hs rfl))
  obtain ⟨a, xs, rfl, q1⟩ := q1
  cases r1 with
  | cons r rr =>
    cases rr
    cases r
    have two : ∀ b, b ∈ [s1.heap.objs.size + 1, s1.heap.objs.size] → s1.heap.objs.size ≤ b := fun b hb => by
      simp at hb
      omega
    rcases q1 with ⟨hq, q⟩ | ⟨hq, q⟩
    · obtain ⟨its, rv, p', hz⟩ := I1.list hq
      refine call_enumerate_list p'.isList fun h' he hit hsz hk => wpAny_pyIter_enum he ?_
      refine ⟨s1.heap.objs.size + 1, [s1.heap.objs.size + 1, s1.heap.objs.size], _, _, H1, rfl, I1.kept (t' := s1.toks) hk, turn_enum a (s1.heap.objs.size + 1) s1.heap.objs.size, ⟨⟨.none, he⟩, hit, Nat.succ_ne_self _⟩, fun b hb => ?_, q⟩
      exact (I1.kept (t' := s1.toks) (fun _ _ z => z)).fpOk (two b hb) (I1.hok.fresh (two b hb))
    · obtain ⟨its, rv, p', hz⟩ := I1.tuple hq
      have hlt : a < s1.heap.objs.size := by obtain ⟨o, ho, _⟩ := p'; exact Heap.lt_size ho
      refine call_enumT (show s1.heap.IsTuple a its.toArray from p') fun h' he hit hsz hk => wpAny_pyIter_enum he ?_
      refine ⟨s1.heap.objs.size + 1, [s1.heap.objs.size + 1, s1.heap.objs.size], _, _, H1, rfl, I1.kept (t' := s1.toks) hk, turn_enumT a (s1.heap.objs.size + 1) s1.heap.objs.size (Nat.ne_of_lt hlt) (fun z => Nat.lt_irrefl _ (Nat.lt_of_lt_of_le (z ▸ hlt : s1.heap.objs.size + 1 < s1.heap.objs.size) (Nat.le_succ _))), ⟨⟨.none, he⟩, hit, Nat.succ_ne_self _⟩, fun b hb => ?_, q⟩
      exact (I1.kept (t' := s1.toks) (fun _ _ z => z)).fpOk (two b hb) (I1.hok.fresh (two b hb))
/-- the for loop over any iterator that goes n times -/
theorem for_any {J : It} {n : Nat} {g : TG} {tb : TS} {D : Ends} {σ : L2.St} {H : Hp} (Pv : Nat → L2.St → Hp → Prop) (h0 : Pv 0 σ H) (go : ∀ i σ H, i < n → Pv i σ H → J.go i H) (stp : ∀ σ H, Pv n σ H → J.stop n H)
    (step : ∀ i σ H x H', i < n → Pv i σ H → J.yld i H x H' → g x σ H' fun σ2 H2 => tb { D with nx := Pv (i + 1), ct := Pv (i + 1), bk := D.nx } σ2 H2) (done : ∀ σ H, Pv n σ H → D.nx σ H) :
    ∃ W : Nat → Nat → L2.St → Hp → Prop, (∃ m, W 0 m σ H) ∧ ∀ i m σ H, W i m σ H → (J.stop i H ∧ D.nx σ H) ∨ (J.go i H ∧ ∃ N : L2.St → Hp → Prop, (∀ σ' H', N σ' H' → ∃ m', m' < m ∧ W (i + 1) m' σ' H') ∧ ∀ x H', J.yld i H x H' → g x σ H' fun σ2 H2 => tb { D with nx := N, ct := N, bk := D.nx } σ2 H2) := by
  refine ⟨fun i m σ H => m = n - i ∧ i ≤ n ∧ Pv i σ H, ⟨n, by simp, Nat.zero_le _, h0⟩, fun i m σ H hw => ?_⟩
  obtain ⟨em, hi, p⟩ := hw
  by_cases lt : i < n
  · exact .inr ⟨go i σ H lt p, Pv (i + 1), fun σ' H' p' => ⟨n - (i + 1), by omega, rfl, lt, p'⟩, fun x H' y => step i σ H x H' lt p y⟩
  · have ei : i = n := by omega
    rw [ei] at p ⊢
    exact .inl ⟨stp σ H p, done σ H p⟩
end Kw
set_option maxHeartbeats 4000000
namespace Kw
open PySem PySem.Spec PyProof.Rows L2 LamX
abbrev sChkV : Stmt := top 21
abbrev sChkS : Stmt := top 24
/-- an own error without __init__, called x, at C -/
structure OwnErr (K : PySem.W.Frag) (mg : Str → Option Value) (x : Str) (C : Addr) : Prop where
  ex : ∃ (B newId initId : String) (bmB : List Value), ExcBaseFacts B newId initId bmB ∧ PySem.W.excIn K C bmB newId = true
  gC : mg x = some (.ref C)
  kC : PySem.W.keepIn K (.ref C) = true
  sub : PySem.W.subIn K (.ref C) (.type "BaseException") = some true
  ty : PySem.W.typeIn K (.ref C) = some (.type "type")
theorem pmk_o {X : Cx} {C : Addr} {x m : Str} {j : Nat} {p p2 pos : Pos} (O : OwnErr X.K X.mg x C) (hg : Gl X x := by rfl) (hdb : (x == ("__debug__" : Str)) = false := by decide) :
    PMk X (.Call (.Name x p) [.Constant (.str m) j p2] [] pos) (fun _ H Q => Q (.ref C) none H) := by
  obtain ⟨B, n, i, bm, F, q⟩ := O.ex
  exact pmk_own F q O.gC O.kC (raises_own O.sub O.ty) hg hdb
/-- an own error with super().__init__, called x, at C -/
structure SupErr (P : Program) (K : PySem.W.Frag) (mg : Str → Option Value) (x : Str) (C : Addr) : Prop where
  ex : ∃ (fI cc cd : Addr) (qual : Str), Ks.SupTxt P K mg C fI cc cd qual
  gC : mg x = some (.ref C)
  kC : PySem.W.keepIn K (.ref C) = true
  sub : PySem.W.subIn K (.ref C) (.type "BaseException") = some true
  ty : PySem.W.typeIn K (.ref C) = some (.type "type")
section
variable {X : Cx}
theorem ps_raiseS {x : Str} {a : Expr} {ta : TA} {W : WX} {p pos pos2 : Pos} {k : Nat} {C : Addr} (O : SupErr X.prog X.K X.mg x C) (hc : X.calm = true) (hr : Room k X.A) (tk : Takes X W) (ha : PA X [a] ta) (hg : Gl X x := by rfl)
    (hdb : (x == ("__debug__" : Str)) = false := by decide) (he : starEach (a :: []) X.env = (false, eval a X.env) :: starEach [] X.env := by rfl) (hpl : (backTo pos (starEach [] X.env)).any (·.1) = false := by rfl) :
    PS X (.Raise (some (.Call (.Name x p) [a] [] pos)) none pos2) (tRaiseSup C W ta) := by
  obtain ⟨fI, cc, cd, qual, T⟩ := O.ex
  exact ps_raiseSup hc T O.gC O.kC (raises_own O.sub O.ty) hr tk ha hg hdb he hpl
end
/-- a def that may raise, found by its name -/
structure DefX (P : Program) (w : World) (K : PySem.W.Frag) (mg : Str → Option Value) (base : Heap) (x : Str) (k : Nat) (ps : List Str) (sp : Sp) : Prop where
  ex : ∃ f fd, FnOk P w K mg base (L2.CX P w) k f fd ps sp ∧ mg x = some (.ref f) ∧ PySem.W.keepIn K (.ref f) = true ∧ Binds K fd ps []
theorem pe_dX {X : Cx} {x : Str} {k : Nat} {ps : List Str} {sp : Sp} {p pos : Pos} {e : Expr} {es : List Expr} {t : TA} {W : WX} (D : DefX X.prog X.w X.K X.mg X.base x k ps sp) (hr : Room k X.A) (tk : Takes X W) (ha : PA X (e :: es) t) (hg : Gl X x := by rfl)
    (hdb : (x == ("__debug__" : Str)) = false := by decide) (he : starEach (e :: es) X.env = (false, eval e X.env) :: starEach es X.env := by rfl) (hpl : (backTo pos (starEach es X.env)).any (·.1) = false := by rfl) :
    PE X (.Call (.Name x p) (e :: es) [] pos) (tCallS sp (fun σ => WE W σ) t) := by
  obtain ⟨f, fd, F, hm, hk, hb⟩ := D.ex
  exact pe_callS F hr hg hm hk hb (fun σ => passAt tk σ) ha hdb he hpl
def spChkV (K : PySem.W.Frag) (CV : Addr) : Sp := fun vs H Q E => ∃ (x : V) (b : Bool), vs = [x] ∧ VerB K H x b ∧ (b = true → ∀ H', Same H H' → Q .non H') ∧ (b = false → ∀ H', Same H H' → E (.ref CV) none H')
def spNextV (K : PySem.W.Frag) (CV : Addr) : Sp := fun vs H Q E => ∃ (x : V), vs = [x] ∧ ((∃ v, IsVer K H x v ∧ okV v ∧ ∀ H' p, Same H H' → H' p = some (.tup (v3 (v.1, v.2.1, v.2.2 + 1))) → Q (.ref p) H') ∨ (VerB K H x false ∧ ∀ H', Same H H' → E (.ref CV) none H'))
section
variable {P : Program} {w : World} {K : PySem.W.Frag} {mg : Str → Option Value} {base : Heap}
theorem scChkV : FnScope ["version"] ["version"] (defScope sChkV) := ⟨rfl, rfl, rfl, by decide +kernel, rfl, by decide +kernel, by decide +kernel⟩
theorem ok_chkV {f CV : Addr} {fd : FuncData} {k : Nat} (F : Fun K "check_version" "check_version" sChkV f fd) (O : OwnErr K mg "BadVersion" CV) (DV : Def P w K mg base "is_version" CX0 k ["value"] (spVerB K)) : FnOk P w K mg base (L2.CX P w) (k + 1) f fd ["version"] (spChkV K CV) := by
  refine F.okX scChkV (fun vs H Q E h => ?_) (fun cdv A outer s H vs Q E hr h => ?_)
  · obtain ⟨x, b, rfl, _⟩ := h
    rfl
  · obtain ⟨x, b, rfl, hb, q1, q2⟩ := h
    refine ⟨_, pss_one (ps_if (pt_not (pt_val (pe_d DV hr (pa_cons (pv 0) pa_nil)))) (pss_one (ps_raise rfl (takes_of rfl rfl rfl rfl) (pmk_o O))) pss_nil), ?_⟩
    refine ⟨x, rfl, x, b, rfl, hb, fun H1 s1 => ⟨_, rfl, ?_⟩⟩
    cases b with
    | true => exact iteF (q1 rfl H1 s1)
    | false => exact iteT (q2 rfl H1 s1)
end
end Kw
set_option maxHeartbeats 4000000
namespace Kw
open PySem PySem.Spec PyProof.Rows L2 LamX
/-- the error BadRange(v) leaves, from H on -/
def XAt (E : XK) (CR : Addr) (v : V) (H : Hp) : Prop := ∀ H' d, Same H H' → H' d = some (.xd [(("at" : Str), v)]) → E (.ref CR) (some d) H'
theorem kl_lst {K : PySem.W.Frag} : PySem.W.kitAny K (.type "list") [.type "list", .type "tuple"] = some true := kitAny_cons (b := true) (kit_ty (by decide +kernel)) (fun z => nomatch z) fun _ => rfl
theorem kl_tup {K : PySem.W.Frag} : PySem.W.kitAny K (.type "tuple") [.type "list", .type "tuple"] = some true := kitAny_cons (b := false) (kit_ty (by decide +kernel)) (fun _ => kitAny_cons (b := true) (kit_ty (by decide +kernel)) (fun z => nomatch z) fun _ => rfl) fun z => nomatch z
/-- no list and no tuple -/
inductive NoLT (H : Hp) : V → String → Prop
  | flat {x : V} {T : String} : Flat x T → NoLT H x T
  | dct {a : Addr} {kvs : List (Key × V)} : H a = some (.dK kvs) → NoLT H (.ref a) "dict"
theorem NoLT.oth {H : Hp} {x : V} {T : String} (h : NoLT H x T) : Oth H x T := by
  cases h with
  | flat f => exact .flat f
  | dct e => exact .dct e
theorem NoLT.no {K : PySem.W.Frag} {H : Hp} {x : V} {T : String} (h : NoLT H x T) : PySem.W.kitAny K (.type T) [.type "list", .type "tuple"] = some false := by
  have go : ∀ {T : String}, kitB T "list" = some false → kitB T "tuple" = some false → PySem.W.kitAny K (.type T) [.type "list", .type "tuple"] = some false := fun h1 h2 => kitAny_cons (kit_ty h1) (fun _ => kitAny_cons (kit_ty h2) (fun _ => kitAny_nil) fun z => nomatch z) fun z => nomatch z
  cases h with
  | flat f => cases f <;> exact go (by decide +kernel) (by decide +kernel)
  | dct e => exact go (by decide +kernel) (by decide +kernel)
theorem ty_lst {K : PySem.W.Frag} {H : Hp} {a : Addr} {xs : List V} (h : SqL K H a xs) : Ty K H (.ref a) "list" := by
  rcases h with (h | ⟨o, h⟩) | ⟨o, its, n, h, c, _⟩
  · exact .base (.lst h)
  · exact .base (.frz h)
  · exact .kList h c
theorem SqLT.kit {K : PySem.W.Frag} {H : Hp} {a : Addr} {xs : List V} (h : SqLT K H a xs) : ∃ T, Ty K H (.ref a) T ∧ PySem.W.kitAny K (.type T) [.type "list", .type "tuple"] = some true := by
  rcases h with h | h
  · exact ⟨_, ty_lst h, kl_lst⟩
  · exact ⟨_, ty_tup h, kl_tup⟩
theorem SqLT.ext {K : PySem.W.Frag} {H H' : Hp} {a : Addr} {xs : List V} (h : SqLT K H a xs) (e : ExtN H H') : SqLT K H' a xs := h.elim (fun h => .inl (e.sqL h)) fun h => .inr (e.sqT h)
/-- each item is judged -/
structure Judged (K : PySem.W.Frag) (H : Hp) (xs : List V) (bs : List Bool) : Prop where
  len : xs.length = bs.length
  at_ : ∀ (i : Nat) (x : V) (b : Bool), xs[i]? = some x → bs[i]? = some b → StrB K H x b
theorem StrB.ext {K : PySem.W.Frag} {H H' : Hp} {x : V} {b : Bool} (h : StrB K H x b) (e : ExtN H H') : StrB K H' x b := by
  cases h with
  | oth o => exact .oth (o.ext e)
  | len t n => exact .len (e.sqT t) n
  | fst t v => exact .fst (e.sqT t) (v.ext e)
  | non t v o => exact .non (e.sqT t) (e.ver v) o
  | snd t v o n y => exact .snd (e.sqT t) (e.ver v) o n (y.ext e)
  | both t v o u p => exact .both (e.sqT t) (e.ver v) o (e.ver u) p
theorem Judged.ext {K : PySem.W.Frag} {H H' : Hp} {xs : List V} {bs : List Bool} (h : Judged K H xs bs) (e : ExtN H H') : Judged K H' xs bs := ⟨h.len, fun i x b p q => (h.at_ i x b p q).ext e⟩
theorem enum_pick {K : PySem.W.Frag} {H : Hp} {a : Addr} {xs : List V} {R : It → Hp → Prop} (h : SqLT K H a xs) (q : ∀ J, (J = Ite K a ∧ SqL K H a xs) ∨ (J = IteT K a ∧ SqT K H a xs) → R J H) : (SqL K H a xs ∧ R (Ite K a) H) ∨ (SqT K H a xs ∧ R (IteT K a) H) := by
  rcases h with h | h
  · exact .inl ⟨h, q _ (.inl ⟨rfl, h⟩)⟩
  · exact .inr ⟨h, q _ (.inr ⟨rfl, h⟩)⟩
def spChkS (K : PySem.W.Frag) (CR : Addr) : Sp := fun vs H Q E => ∃ (x : V), vs = [x] ∧ ((∃ T, NoLT H x T ∧ XAt E CR .non H) ∨ ∃ a xs, x = .ref a ∧ SqLT K H a xs ∧ xs.length ≤ 1000 ∧ ((40 < xs.length ∧ XAt E CR .non H) ∨
  (xs.length ≤ 40 ∧ ∃ bs, Judged K H xs bs ∧ (bs.all id = true → ∀ H', Same H H' → Q .non H') ∧ ∀ i : Nat, bs[i]? = some false → (∀ j, j < i → bs[j]? = some true) → XAt E CR (.int (i : Int)) H)))
section
variable {P : Program} {w : World} {K : PySem.W.Frag} {mg : Str → Option Value} {base : Heap}
theorem scChkS : FnScope ["stretches", "at", "stretch"] ["stretches"] (defScope sChkS) := ⟨rfl, rfl, rfl, by decide +kernel, rfl, by decide +kernel, by decide +kernel⟩
theorem log_small (i : Nat) (h : i < 1000) : ((i : Int).natAbs).log2 < 1920 := by
  have e : ((i : Int).natAbs) = i := by simp
  rw [e]
  by_cases z : i = 0
  · subst z
    decide
  · refine (Nat.log2_lt z).mpr (Nat.lt_of_lt_of_le h (Nat.le_trans (show 1000 ≤ 2 ^ 10 by decide) (Nat.pow_le_pow_right (by decide) (by decide))))
theorem ok_chkS {f CR : Addr} {fd : FuncData} {k : Nat} {tM : Tok} (F : Fun K "check_stretches" "check_stretches" sChkS f fd) (O : SupErr P K mg "BadRange" CR) (ml : mg "len" = none) (me : mg "enumerate" = none) (mM : mg "MOST_STRETCHES" = some (.int 40 tM))
    (DL : Def P w K mg base "is_list" CX0 k ["value"] (spIsList K)) (DS : Def P w K mg base "is_stretch" CX0 k ["value"] (spStrB K)) : FnOk P w K mg base (L2.CX P w) (k + 1) f fd ["stretches"] (spChkS K CR) := by
  refine F.okX scChkS (fun vs H Q E h => ?_) (fun cdv A outer s H vs Q E hr h => ?_)
  · obtain ⟨x, rfl, _⟩ := h
    rfl
  · obtain ⟨x, rfl, h⟩ := h
    refine ⟨_, pss_cons (ps_if (PW.pt (pw_or (pt_not (pt_val (pe_d DL hr (pa_cons (pv 0) pa_nil)))) (pw_or1 (pt_cmpR op_gt (pe_callB call_len_seq (by rfl) ml PySem.boot_len (pa_cons (pv 0) pa_nil)) (pe_glob (v := .int 40) (by rfl) mM ⟨tM, rfl⟩) (nomark _)))))
        (pss_one (ps_raiseS O rfl hr (takes_of rfl rfl rfl rfl) (pa_cons pe_non pa_nil))) pss_nil)
      (pss_one (ps_for (passes_of rfl) rfl (pi_enumLT (by rfl) me (pa_cons (pv 0) pa_nil)) (pg_tup rfl (pgs_cons (pg_name (i := 1) scChkS.nd rfl (.inl rfl)) (pgs_cons (pg_name (i := 2) scChkS.nd rfl (.inl rfl)) pgs_nil)))
        (pss_one (ps_if (pt_not (pt_val (pe_d DS hr (pa_cons (pv 2) pa_nil)))) (pss_one (ps_raiseS O rfl hr (takes_of rfl rfl rfl rfl) (pa_cons (pv 1) pa_nil))) pss_nil)))), ?_⟩
    rcases h with ⟨T, hx, q⟩ | ⟨a, xs, rfl, hS, hl, h⟩
    · refine ⟨x, rfl, x, T, false, rfl, hx.oth.ty, hx.no, fun H1 s1 => ⟨_, rfl, iteT (iteT ⟨.non, rfl, .inl rfl, fun d hd => ?_⟩)⟩⟩
      exact q _ d (s1.trans (same_upd hd)) upd_same
    · obtain ⟨T, ty, ek⟩ := hS.kit
      refine ⟨_, rfl, .ref a, T, true, rfl, ty, ek, fun H1 s1 => ⟨_, rfl, iteF ?_⟩⟩
      have hS1 := hS.ext (ExtN.same s1)
      refine ⟨_, rfl, a, xs, rfl, hS1, (xs.length : Int), 40, rfl, rfl, _, rfl, ?_⟩
      rcases h with ⟨hlt, q⟩ | ⟨hle, bs, hj, q1, q2⟩
      · have e : decide ((xs.length : Int) > 40) = true := decide_eq_true (by omega)
        rw [e]
        refine iteT ⟨.non, rfl, .inl rfl, fun d hd => ?_⟩
        exact q _ d (s1.trans (same_upd hd)) upd_same
      · have e : decide ((xs.length : Int) > 40) = false := decide_eq_false (by omega)
        rw [e]
        refine iteF ?_
        have body : ∀ (J : It), ((J = Ite K a ∧ SqL K H1 a xs) ∨ (J = IteT K a ∧ SqT K H1 a xs)) → ∀ {g : TG} {tb : TS} {D : Ends} {σ : L2.St}, (∀ i σ H2 x T H', i < xs.length → Same H1 H2 → xs[i]? = some x → H2 T = none → H' = upd H2 T (.tup [.int (i : Nat), x]) → (∀ j, j < i → bs[j]? = some true) → (∃ y1 y2, σ = [some (.ref a), y1, y2]) →
            g (.ref T) σ H' fun σ2 H2 => tb { D with nx := fun σ3 H3 => (∃ y1 y2, σ3 = [some (.ref a), y1, y2]) ∧ Same H1 H3 ∧ ∀ j, j < i + 1 → bs[j]? = some true, ct := fun σ3 H3 => (∃ y1 y2, σ3 = [some (.ref a), y1, y2]) ∧ Same H1 H3 ∧ ∀ j, j < i + 1 → bs[j]? = some true, bk := D.nx } σ2 H2) →
            (∀ σ H3, Same H1 H3 → (∀ j, j < xs.length → bs[j]? = some true) → D.nx σ H3) → (∃ y1 y2, σ = [some (.ref a), y1, y2]) →
            ∃ W : Nat → Nat → L2.St → Hp → Prop, (∃ m, W 0 m σ H1) ∧ ∀ i m σ H, W i m σ H → (J.stop i H ∧ D.nx σ H) ∨ (J.go i H ∧ ∃ N : L2.St → Hp → Prop, (∀ σ' H', N σ' H' → ∃ m', m' < m ∧ W (i + 1) m' σ' H') ∧ ∀ x H', J.yld i H x H' → g x σ H' fun σ2 H2 => tb { D with nx := N, ct := N, bk := D.nx } σ2 H2) := by
          intro J hJ g tb D σ step done hσ
          refine for_any (n := xs.length) (fun i σ H' => (∃ y1 y2, σ = [some (.ref a), y1, y2]) ∧ Same H1 H' ∧ ∀ j, j < i → bs[j]? = some true) ⟨hσ, Same.refl _, fun j hj => absurd hj (Nat.not_lt_zero _)⟩ ?_ ?_ ?_ (fun σ H2 p => done σ H2 p.2.1 p.2.2)
          · rintro i σ H2 hi ⟨_, sH, _⟩
            rcases hJ with ⟨rfl, z⟩ | ⟨rfl, z⟩
            · exact ⟨xs, xs[i], (ExtN.same sH).sqL z, List.getElem?_eq_getElem hi⟩
            · exact ⟨xs, xs[i], (ExtN.same sH).sqT z, List.getElem?_eq_getElem hi⟩
          · rintro σ H2 ⟨_, sH, _⟩
            rcases hJ with ⟨rfl, z⟩ | ⟨rfl, z⟩
            · exact ⟨xs, (ExtN.same sH).sqL z, Nat.le_refl _⟩
            · exact ⟨xs, (ExtN.same sH).sqT z, rfl⟩
          · rintro i σ H2 y H' hi ⟨hσ, sH, hb⟩ hy
            rcases hJ with ⟨rfl, z⟩ | ⟨rfl, z⟩
            · obtain ⟨T, x, rfl, hT, rfl, hx⟩ := hy
              exact step i σ H2 x T _ hi sH (hx xs ((ExtN.same sH).sqL z)) hT rfl hb hσ
            · obtain ⟨T, x, rfl, hT, rfl, hx⟩ := hy
              exact step i σ H2 x T _ hi sH (hx xs ((ExtN.same sH).sqT z)) hT rfl hb hσ
        rcases hS1 with z | z
        · refine ⟨_, rfl, a, xs, rfl, .inl ⟨z, body _ (.inl ⟨rfl, z⟩) ?_ ?_ ⟨none, none, rfl⟩⟩⟩
          · rintro i σ H2 x T H' hi s2 hx hT eH hb hσ
            obtain ⟨y1, y2, rfl⟩ := hσ
            subst eH
            have s3 := same_upd (o := .tup [.int (i : Nat), x]) hT
            have hbi : ∃ b, bs[i]? = some b := ⟨bs[i]'(by rw [← hj.len]; exact hi), List.getElem?_eq_getElem _⟩
            obtain ⟨b, hb'⟩ := hbi
            have jx := ((hj.ext (ExtN.same ((s1.trans s2).trans s3))).at_ i x b hx hb')
            refine ⟨T, [.int (i : Nat), x], rfl, .inl (.inl upd_same), rfl, _, _, rfl, _, _, rfl, rfl, ?_⟩
            refine ⟨_, rfl, x, b, rfl, jx, fun H4 s4 => ⟨_, rfl, ?_⟩⟩
            cases b with
            | true =>
              refine iteF ⟨⟨_, _, rfl⟩, (s2.trans s3).trans s4, fun j hj' => ?_⟩
              by_cases e : j < i
              · exact hb j e
              · have e : j = i := by omega
                rw [e]
                exact hb'
            | false =>
              refine iteT ⟨_, rfl, _, rfl, .inr ⟨_, rfl, log_small i (by omega)⟩, fun d hd => ?_⟩
              exact q2 i hb' hb _ d ((((s1.trans s2).trans s3).trans s4).trans (same_upd hd)) upd_same
          · intro σ H3 s3 all
            refine q1 ?_ H3 (s1.trans s3)
            rw [List.all_eq_true]
            intro b hb
            obtain ⟨j, hj'⟩ := List.getElem?_of_mem hb
            have := all j (by rw [hj.len]; exact (List.getElem?_eq_some_iff.mp hj').1)
            rw [hj'] at this
            obtain rfl := Option.some.inj this
            rfl
        · refine ⟨_, rfl, a, xs, rfl, .inr ⟨z, body _ (.inr ⟨rfl, z⟩) ?_ ?_ ⟨none, none, rfl⟩⟩⟩
          · rintro i σ H2 x T H' hi s2 hx hT eH hb hσ
            obtain ⟨y1, y2, rfl⟩ := hσ
            subst eH
            have s3 := same_upd (o := .tup [.int (i : Nat), x]) hT
            have hbi : ∃ b, bs[i]? = some b := ⟨bs[i]'(by rw [← hj.len]; exact hi), List.getElem?_eq_getElem _⟩
            obtain ⟨b, hb'⟩ := hbi
            have jx := ((hj.ext (ExtN.same ((s1.trans s2).trans s3))).at_ i x b hx hb')
            refine ⟨T, [.int (i : Nat), x], rfl, .inl (.inl upd_same), rfl, _, _, rfl, _, _, rfl, rfl, ?_⟩
            refine ⟨_, rfl, x, b, rfl, jx, fun H4 s4 => ⟨_, rfl, ?_⟩⟩
            cases b with
            | true =>
              refine iteF ⟨⟨_, _, rfl⟩, (s2.trans s3).trans s4, fun j hj' => ?_⟩
              by_cases e : j < i
              · exact hb j e
              · have e : j = i := by omega
                rw [e]
                exact hb'
            | false =>
              refine iteT ⟨_, rfl, _, rfl, .inr ⟨_, rfl, log_small i (by omega)⟩, fun d hd => ?_⟩
              exact q2 i hb' hb _ d ((((s1.trans s2).trans s3).trans s4).trans (same_upd hd)) upd_same
          · intro σ H3 s3 all
            refine q1 ?_ H3 (s1.trans s3)
            rw [List.all_eq_true]
            intro b hb
            obtain ⟨j, hj'⟩ := List.getElem?_of_mem hb
            have := all j (by rw [hj.len]; exact (List.getElem?_eq_some_iff.mp hj').1)
            rw [hj'] at this
            obtain rfl := Option.some.inj this
            rfl
end
end Kw
set_option maxHeartbeats 4000000
namespace Kw
open PySem PySem.Spec PyProof.Rows L2 LamX
/-! ### == and != of an own class that has __eq__ and no __ne__ -/
section
variable {prog : Program} {w : World} {A : Around} {E : Value → Shared → Prop} {s : Shared} {K : PySem.W.Frag} {x C f : Addr} {ox : Obj} {od : Option Obj} {b tb : Value}
theorem rc_one {op : CmpOp} {Q : Value → Shared → Prop} (hu : A.units < cLine) (X : K.In s.heap) (I : PySem.W.InstAt s.heap x ox C od) (hb : PySem.W.Looks (model prog w) s.heap (typeOf b) tb) (hn : PySem.W.notFirst K C tb = true)
    (one : wpAny (model prog w) A (tryCompare (.ref x) (cmpInfo op).2.1 b) (fun r s' => ∃ v, r = some v ∧ Q v s') E s) : wpAny (model prog w) A (richCompare op (.ref x) b) Q E s := by
  unfold richCompare
  simp only [oneThing_ref]
  refine wpAny_holding (wpAny_bind (wpAny_cRoomFor hu (wpAny_bind (I.type.here (wpAny_bind (hb.here ?_))))))
  split
  · rename_i q
    have e : PySem.W.subIn K tb (.ref C) = some false := by
      rcases Bool.or_eq_true_iff.mp hn with e | e
      · rw [beq_iff_eq.mp e] at q; simp at q
      · exact beq_iff_eq.mp e
    refine wpAny_bind ((PySem.W.looks_subIn X e).here ?_)
    simp only [Bool.false_eq_true, if_false]
    refine wpAny_bind (wpAny_mono one (fun r s' z => ?_) fun _ _ e => e)
    obtain ⟨v, rfl, hq⟩ := z
    exact wpAny_pure hq
  · refine wpAny_bind (wpAny_pure ?_)
    simp only [Bool.false_eq_true, if_false]
    refine wpAny_bind (wpAny_mono one (fun r s' z => ?_) fun _ _ e => e)
    obtain ⟨v, rfl, hq⟩ := z
    exact wpAny_pure hq
/-- x == b -/
theorem rc_eqOwn {Q : Value → Shared → Prop} (hu : A.units < cLine) (X : K.In s.heap) (I : PySem.W.InstAt s.heap x ox C od) (hb : PySem.W.Looks (model prog w) s.heap (typeOf b) tb) (hn : PySem.W.notFirst K C tb = true)
    (hs : PySem.W.findIn K (.ref C) "__eq__" = some (some (.ref f))) (hf : PySem.W.isFn K (.ref f) = true) (h : wpAny (model prog w) A (call (.ref f) [.ref x, b]) (fun v s' => ∃ r, v = .bool r ∧ Q (.bool r) s') E s) :
    wpAny (model prog w) A (richCompare .Eq (.ref x) b) Q E s := by
  refine rc_one (op := .Eq) hu X I hb hn ?_
  unfold tryCompare
  refine wpAny_bind (PySem.W.ifBound_K X I hs hf (wpAny_mono h (fun v s' hv => ?_) fun _ _ e => e))
  obtain ⟨r, rfl, q⟩ := hv
  exact wpAny_pure ⟨_, rfl, q⟩
theorem ifBound_ne {args : List Value} {Q : Option Value → Shared → Prop} (X : K.In s.heap) (I : PySem.W.InstAt s.heap x ox C od) (hne : PySem.W.findIn K (.ref C) "__ne__" = some (some (.builtin "object.__ne__")))
    (h : wpAny (model prog w) A (call (.builtin "object.__ne__") (.ref x :: args)) (fun v => Q (some v)) E s) : wpAny (model prog w) A (callSpecialIfBound? (.ref x) "__ne__" args) Q E s := by
  simp only [callSpecialIfBound?, bindSpecialIfBound?]
  refine wpAny_holding (wpAny_bind (wpAny_bind (wpAny_bind (I.type.here ((PySem.W.looks_findIn X hne).here ?_)))))
  have go : wpAny (model prog w) A (call (.builtin "object.__ne__") ([.ref x] ++ args) >>= fun v => pure (some v)) Q E s := wpAny_bind (wpAny_mono h (fun v s' q => wpAny_pure q) fun _ _ e => e)
  refine wpAny_bind (wpAny_askSetting (wpAny_ite ?_))
  split
  · exact wpAny_bind (wpAny_of_eq (F.cmp_object.ne.bind _) (wpAny_pure (by exact go)))
  · exact wpAny_tryCatch (wpAny_bind (wpAny_of_eq (F.cmp_object.ne.bind _) (wpAny_pure (by exact go))))
/-- x != b -/
theorem rc_neOwn {Q : Value → Shared → Prop} (hu : A.units + 1 < cLine) (X : K.In s.heap) (I : PySem.W.InstAt s.heap x ox C od) (hb : PySem.W.Looks (model prog w) s.heap (typeOf b) tb) (hn : PySem.W.notFirst K C tb = true)
    (hs : PySem.W.findIn K (.ref C) "__eq__" = some (some (.ref f))) (hf : PySem.W.isFn K (.ref f) = true) (hne : PySem.W.findIn K (.ref C) "__ne__" = some (some (.builtin "object.__ne__"))) (hm : PySem.W.mroIn K C (.type "object") = some true)
    (h : wpAny (model prog w) A.in1 (call (.ref f) [.ref x, b]) (fun v s' => ∃ r, v = .bool r ∧ Q (.bool (!r)) s') E s) : wpAny (model prog w) A (richCompare .NotEq (.ref x) b) Q E s := by
  refine rc_one (op := .NotEq) (by omega) X I hb hn ?_
  have entry : wpAny (model prog w) A.in1 (Builtin.«object.__ne__» ⟨[.ref x, b], []⟩) (fun fin s' => ∃ v, fin = .done (.ret v) ∧ ∃ r, v = .bool (!r) ∧ Q (.bool (!r)) s') E s := by
    unfold Builtin.«object.__ne__»
    refine wpAny_bind (wpAny_of_eq (show slotArgs "__ne__" 1 ⟨[.ref x, b], []⟩ = pure (.ref x, [b]) from rfl) ?_)
    refine wpAny_bind (wpAny_cRoomFor (show A.units + 1 < cLine from hu) ?_)
    refine wpAny_bind (PySem.W.ifBound_K X I hs hf (wpAny_mono h (fun v s' hv => ?_) fun _ _ e => e))
    obtain ⟨r, rfl, q⟩ := hv
    refine wpAny_bind (wpAny_truthy_bool ?_)
    exact wpAny_pure ⟨_, rfl, r, rfl, q⟩
  have callNe : wpAny (model prog w) A (call (.builtin "object.__ne__") [.ref x, b]) (fun v s' => ∃ r, v = .bool (!r) ∧ Q (.bool (!r)) s') E s :=
    wpAny_call (codeAny_call_builtin F.cmp_object.ne.plain F.cmpEntry_ne (PySem.W.check_slot F.cmpKind_ne F.cmpSplit_ne (I.type.andThen (PySem.W.looks_mroIn X hm)) (F.cmpArgs_ne _ _) (wpAny_mono entry (fun fin s' hv => by
      obtain ⟨v, rfl, q⟩ := hv
      exact q) fun _ _ e => e)))
  unfold tryCompare
  refine wpAny_bind (ifBound_ne X I hne (wpAny_mono callNe (fun v s' hv => ?_) fun _ _ e => e))
  obtain ⟨r, rfl, q⟩ := hv
  exact wpAny_pure ⟨_, rfl, q⟩
end
end Kw
set_option maxHeartbeats 4000000
namespace Kw
open PySem PySem.Spec PyProof.Rows L2 LamX
/-- the type of an instance, or of a tuple -/
inductive KO (K : PySem.W.Frag) (H : Hp) : V → Value → Prop
  | ins {b C dy : Addr} {gs : List (Str × V)} : H b = some (.ins C dy gs) → KO K H (.ref b) (.ref C)
  | tup {b : Addr} {xs : List V} : SqT K H b xs → KO K H (.ref b) (.type "tuple")
section
variable {X : Cx} {CX : CXT} {n : Nat} {C f : Addr} {fd : FuncData} {ps : List Str} {sp : Sp} {E : XK}
theorem looks_ko {pins : List (Addr × Obj)} {σ : L2.St} {H : Hp} {s : Shared} {y : V} {u tb : Value} (I : Inv X pins σ H s) (r : RelV y u) (h : KO X.K H y tb) : PySem.W.Looks (model X.prog X.w) s.heap (typeOf u) tb := by
  cases h with
  | ins e =>
    cases r
    obtain ⟨mB, J, _⟩ := ins_get I.hok e
    obtain ⟨od, J, _⟩ := J.look
    exact J.type
  | tup t =>
    cases r
    obtain ⟨its, rv, ⟨o, ho, hc, _⟩, _⟩ := I.tuple t
    exact fun A Q E s k q => wpAny_typeOf_ref (k _ _ ho) (hc.symm ▸ q)
/-- the own method at f called at the instance, from A -/
theorem run_at {A : Around} {pins : List (Addr × Obj)} {σ : L2.St} {H : Hp} {s : Shared} {x y : V} {u v : Value} {Q : V → Hp → Prop} (F : FnOk X.prog X.w X.K X.mg X.base CX n f fd ps sp) (hb : Binds X.K fd ps []) (hx : Passes CX X E) (hA : A.frames = X.A.frames) (hr : Room n A)
    (I : Inv X pins σ H s) (ru : RelV x u) (rv : RelV y v) (h : sp [x, y] H Q E) : wpAny (model X.prog X.w) A (call (.ref f) [u, v]) (EP X pins σ Q) X.xe s := by
  have e0 : Env0 X.prog X.w X.K X.mg X.base A X.stack s H := by
    have e := I.env0
    exact ⟨by rw [hA]; exact e.frames, e.mod, e.bs, e.bsz, e.funs, e.frf, e.hok, e.bare⟩
  have hl := F.len _ _ _ _ h
  refine wpAny_call (codeAny_mono (F.run A X.stack s H ⟨[u, v], []⟩ [u, v] [x, y] Q E hr e0 (by
    have q := hb s [u, v] I.kIn (by simpa using hl)
    simpa using q) (.cons ru (.cons rv .nil)) h) fun r s' hq => ?_)
  cases r with
  | error e => exact hx pins σ H s e s' I hq
  | ok fl =>
    cases fl with
    | ret w => exact I.after hq
    | next => exact False.elim hq
    | brk => exact False.elim hq
    | cont => exact False.elim hq
/-- x == y by the own __eq__ of x's class -/
def rOwn (K : PySem.W.Frag) (C : Addr) (sp : Sp) (E : XK) (g : Bool → Bool) : R2 := fun x y H Q => ∃ a dx fs tb, x = .ref a ∧ H a = some (.ins C dx fs) ∧ KO K H y tb ∧ PySem.W.notFirst K C tb = true ∧ sp [x, y] H (fun v H' => ∃ r, v = .bl r ∧ Q (.bl (g r)) H') E
theorem op_eqO (F : FnOk X.prog X.w X.K X.mg X.base CX n f fd ps sp) (hr : Room n X.A) (hs : PySem.W.findIn X.K (.ref C) "__eq__" = some (some (.ref f))) (hf : PySem.W.isFn X.K (.ref f) = true) (hb : Binds X.K fd ps []) (hx : Passes CX X E) :
    OpR X (compareOp .Eq) (rOwn X.K C sp E id) := by
  intro pins s σ H x y v u Q I rx ry h
  obtain ⟨a, dx, fs, tb, rfl, ha, ko, nf, hsp⟩ := h
  obtain rfl : v = Value.ref a := rx
  obtain ⟨mA, J, _⟩ := ins_get I.hok ha
  obtain ⟨od, J, _⟩ := J.look
  show wpAny _ _ (richCompare .Eq (.ref a) u) _ _ _
  refine rc_eqOwn hr.units0 I.kIn J (looks_ko I ry ko) nf hs hf (wpAny_mono (run_at (x := .ref a) F hb hx rfl hr I rfl ry hsp) (fun w s' q => ?_) fun _ _ z => z)
  obtain ⟨z, H', I', rz, r, rfl, q⟩ := q
  cases rz
  exact ⟨r, rfl, .bl r, H', I', rfl, q⟩
theorem op_neO (F : FnOk X.prog X.w X.K X.mg X.base CX n f fd ps sp) (hr : Room (n + 1) X.A) (hs : PySem.W.findIn X.K (.ref C) "__eq__" = some (some (.ref f))) (hf : PySem.W.isFn X.K (.ref f) = true) (hne : PySem.W.findIn X.K (.ref C) "__ne__" = some (some (.builtin "object.__ne__"))) (hm : PySem.W.mroIn X.K C (.type "object") = some true)
    (hb : Binds X.K fd ps []) (hx : Passes CX X E) : OpR X (compareOp .NotEq) (rOwn X.K C sp E not) := by
  intro pins s σ H x y v u Q I rx ry h
  obtain ⟨a, dx, fs, tb, rfl, ha, ko, nf, hsp⟩ := h
  obtain rfl : v = Value.ref a := rx
  obtain ⟨mA, J, _⟩ := ins_get I.hok ha
  obtain ⟨od, J, _⟩ := J.look
  show wpAny _ _ (richCompare .NotEq (.ref a) u) _ _ _
  refine rc_neOwn (by have := hr.un; omega) I.kIn J (looks_ko I ry ko) nf hs hf hne hm (wpAny_mono (run_at (x := .ref a) F hb hx rfl hr.in1 I rfl ry hsp) (fun w s' q => ?_) fun _ _ z => z)
  obtain ⟨z, H', I', rz, r, rfl, q⟩ := q
  cases rz
  exact ⟨r, rfl, .bl (!r), H', I', rfl, q⟩
/-- y in x by the own __contains__ of x's class -/
def rOwnIn (C : Addr) (sp : Sp) (E : XK) : R2 := fun y x H Q => ∃ a dx fs, x = .ref a ∧ H a = some (.ins C dx fs) ∧ sp [x, y] H (fun v H' => ∃ r, v = .bl r ∧ Q (.bl r) H') E
theorem op_inO (F : FnOk X.prog X.w X.K X.mg X.base CX n f fd ps sp) (hr : Room n X.A) (hs : PySem.W.findIn X.K (.ref C) "__contains__" = some (some (.ref f))) (hf : PySem.W.isFn X.K (.ref f) = true) (hb : Binds X.K fd ps []) (hx : Passes CX X E) :
    OpR X (compareOp .In) (rOwnIn C sp E) := by
  intro pins s σ H y x u v Q I ry rx h
  obtain ⟨a, dx, fs, rfl, ha, hsp⟩ := h
  obtain rfl : v = Value.ref a := rx
  obtain ⟨mA, J, _⟩ := ins_get I.hok ha
  obtain ⟨od, J, _⟩ := J.look
  obtain ⟨m, hF⟩ := I.fr
  refine PySem.W.in_K hF I.ok.mod.kin J hs hf (wpAny_mono (run_at (x := .ref a) F hb hx rfl hr I rfl ry hsp) (fun w s' q => ?_) fun _ _ z => z)
  obtain ⟨z, H', I', rz, r, rfl, q⟩ := q
  cases rz
  exact wpAny_truthy_bool ⟨.bl r, H', I', rfl, q⟩
end
end Kw
set_option maxHeartbeats 4000000
namespace Kw
open PySem PySem.Spec PyProof.Rows L2 LamX
abbrev sInit : Stmt := L2.inClass (top 25) 0
abbrev sGet : Stmt := L2.inClass (top 25) 1
abbrev sHasR : Stmt := L2.inClass (top 25) 2
abbrev sEqR : Stmt := L2.inClass (top 25) 3
/-- a def with any defaults -/
structure FunV (K : PySem.W.Frag) (x qual : Str) (st : Stmt) (f : Addr) (fd : FuncData) : Prop where
  ex : ∃ (oc : Value) (od : Option Addr) (dV kV doc pm : Value) (an : Option Addr) (cdv ct : Value) (osl : Array (Option Value)),
    fd = PySem.W.fnOf x qual (defArgs st) (defBody st) (defScope st) dV kV doc pm an cdv ct ∧ K.lookup f = some ⟨oc, od, .func fd, osl⟩ ∧ PySem.W.codeIn K cdv qual = true
section
variable {P : Program} {w : World} {K : PySem.W.Frag} {mg : Str → Option Value} {base : Heap}
theorem FunV.okX {x qual : Str} {st : Stmt} {f : Addr} {fd : FuncData} {N ps : List Str} {k : Nat} {sp : Sp} (F : FunV K x qual st f fd) (S : FnScope N ps (defScope st)) (len : ∀ vs H Q E, sp vs H Q E → vs.length = ps.length)
    (body : ∀ (cdv : Value) (A : Around) (outer : List Env) (s : Shared) (H : Hp) (vs : List V) (Q : VK) (E : XK), Room k (A.deeper (envOfC qual (defScope st) s.heap.objs.size f cdv)) → sp vs H Q E →
      ∃ t, PSs (cxOf (L2.CX P w) P w K mg base N qual (defScope st) f cdv A outer s H E) (defBody st) t ∧ t { nx := fun _ H' => Q .non H', rt := Q } (L2.start N vs) H) : FnOk P w K mg base (L2.CX P w) (k + 1) f fd ps sp := by
  obtain ⟨oc, od, dV, kV, doc, pm, an, cdv, ct, osl, rfl, lk, hcd⟩ := F.ex
  exact fn_of lk hcd S len fun A outer s H vs Q E hr hsp => body cdv A outer s H vs Q E hr hsp
/-- a Range with that normal form -/
def IsR (K : PySem.W.Frag) (CR : Addr) (H : Hp) (x : V) (nf : List Str2) : Prop := ∃ a dx t zs, x = .ref a ∧ H a = some (.ins CR dx [(("_stretches" : Str), .ref t)]) ∧ SqT K H t zs ∧ Strs K H zs nf
theorem IsR.ext {K : PySem.W.Frag} {CR : Addr} {H H' : Hp} {x : V} {nf : List Str2} (h : IsR K CR H x nf) (e : ExtN H H') : IsR K CR H' x nf := by
  obtain ⟨a, dx, t, zs, rfl, h1, h2, h3⟩ := h
  exact ⟨a, dx, t, zs, rfl, e _ _ h1 (fun ps z => nomatch z), e.sqT h2, e.strs h3⟩
/-- all but a stay, tables aside -/
def ExtA (a : Addr) (H H' : Hp) : Prop := ∀ b o, b ≠ a → H b = some o → (∀ ps, o ≠ .tbl ps) → H' b = some o
def spInit (K : PySem.W.Frag) (T : List (Addr × Str)) (CR CE : Addr) : Sp := fun vs H Q E => ∃ (a dx : Addr) (x : V), vs = [.ref a, x] ∧ H a = some (.ins CR dx []) ∧ Tabs T H ∧
  ((∃ T', NoLT H x T' ∧ XAt E CE .non H) ∨ ∃ l xs, x = .ref l ∧ SqLT K H l xs ∧ xs.length ≤ 1000 ∧ ((40 < xs.length ∧ XAt E CE .non H) ∨
    (xs.length ≤ 40 ∧ ∃ bs, Judged K H xs bs ∧ (∀ i : Nat, bs[i]? = some false → (∀ j, j < i → bs[j]? = some true) → XAt E CE (.int (i : Int)) H) ∧
      (bs.all id = true → ∃ ss, Strs K H xs ss ∧ ∀ (H' : Hp) (ss' : List Str2), ExtA a H H' → Tabs T H' → IsR K CR H' (.ref a) (ss'.foldl nfAdd []) → ss'.Perm ss → ss'.Pairwise (fun p q => ¬ ltV q.1 p.1) → Q .non H'))))
theorem scInit : FnScope ["self", "stretches"] ["self", "stretches"] (defScope sInit) := ⟨rfl, rfl, rfl, by decide +kernel, rfl, by decide +kernel, by decide +kernel⟩
theorem ok_init {f CR CE CN : Addr} {fd : FuncData} {k : Nat} {T : List (Addr × Str)} (F : FunV K "__init__" "Range.__init__" sInit f fd) (mi : mg "isinstance" = none) (gN : mg "Normal" = some (.ref CN)) (cR : Cls K CR) (nR : NoAttr K CR "_stretches")
    (no : ∀ T ∈ ["NoneType", "bool", "int", "str", "dict", "list", "tuple"], PySem.W.kitOne K (.type T) (.ref CN) = some false) (DC : DefX P w K mg base "check_stretches" k ["stretches"] (spChkS K CE)) (DN : Def P w K mg base "normal_form" CX0 k ["stretches"] (spNF K T)) :
    FnOk P w K mg base (L2.CX P w) (k + 1) f fd ["self", "stretches"] (spInit K T CR CE) := by
  refine F.okX scInit (fun vs H Q E h => ?_) (fun cdv A outer s H vs Q E hr h => ?_)
  · obtain ⟨a, dx, x, rfl, _⟩ := h
    rfl
  · obtain ⟨a, dx, x, rfl, ha, hT, h⟩ := h
    refine ⟨_, pss_one (ps_if (pt_val (pe_callB call_isi (by rfl) mi (by decide +kernel) (pa_cons (pv 1) (pa_cons (pe_glob (v := .ref CN) (by rfl) gN rfl) pa_nil)))) (pss_one (ps_fld (pv 0) (pe_fld (pv 1) rfl) rfl))
      (pss_cons (ps_expr (pe_dX DC hr (takes_of rfl rfl rfl rfl) (pa_cons (pv 1) pa_nil))) (pss_one (ps_fld (pv 0) (pe_d DN hr (pa_cons (pv 1) pa_nil)) rfl)))), ?_⟩
    rcases h with ⟨T', hx, q⟩ | ⟨l, xs, rfl, hS, hl, h⟩
    · have hk : PySem.W.kitOne K (.type T') (.ref CN) = some false := by
        cases hx with
        | flat f => cases f <;> exact no _ (by simp)
        | dct e => exact no _ (by simp)
      exact ⟨_, rfl, x, .ref CN, .type T', .ref CN, false, rfl, .own _, hx.oth.ty, hk, _, rfl, iteF ⟨_, rfl, x, rfl, .inl ⟨T', hx, q⟩⟩⟩
    · have hk : ∃ T', Ty K H (.ref l) T' ∧ PySem.W.kitOne K (.type T') (.ref CN) = some false := by
        rcases hS with h | h
        · exact ⟨_, ty_lst h, no _ (by simp)⟩
        · exact ⟨_, ty_tup h, no _ (by simp)⟩
      obtain ⟨T', ty, hk⟩ := hk
      refine ⟨_, rfl, .ref l, .ref CN, .type T', .ref CN, false, rfl, .own _, ty, hk, _, rfl, iteF ⟨_, rfl, .ref l, rfl, .inr ⟨l, xs, rfl, hS, hl, ?_⟩⟩⟩
      rcases h with ⟨h1, q⟩ | ⟨h1, bs, hj, q1, q2⟩
      · exact .inl ⟨h1, q⟩
      · refine .inr ⟨h1, bs, hj, fun all H1 s1 => ?_, q1⟩
        obtain ⟨ss, hss, q⟩ := q2 all
        refine ⟨_, rfl, l, xs, ss, rfl, hT.ext s1, hS.ext (ExtN.same s1), hss.same s1, by rw [← hss.len]; omega, fun H2 D zs ss' e2 T2 hD pm pw hz => ?_⟩
        have ha2 : H2 a = some (.ins CR dx []) := e2 _ _ (s1 _ _ ha) fun ps z => nomatch z
        refine ⟨_, rfl, a, CR, dx, [], rfl, ha2, cR, nR, by simp, ?_⟩
        have hFr : Fr1 a H2 (upd H2 a (.ins CR dx [(("_stretches" : Str), .ref D)])) := Fr1.put
        have nA : ∀ {b : Addr} {o : HO}, H2 b = some o → (∀ fs, o ≠ .ins CR dx fs) → b ≠ a := fun {b o} e n z => by
          rw [z, ha2] at e
          exact n _ (Option.some.inj e).symm
        have kT : ∀ {b : Addr} {ys : List V}, SqT K H2 b ys → SqT K (upd H2 a (.ins CR dx [(("_stretches" : Str), .ref D)])) b ys := fun {b ys} t => by
          rcases t with (t | ⟨o, t⟩) | t
          · exact .inl (.inl (hFr _ _ (nA t fun fs z => nomatch z) t))
          · exact .inl (.inr ⟨o, hFr _ _ (nA t fun fs z => nomatch z) t⟩)
          · exact .inr t
        have kV : ∀ {x : V} {v : Ver}, IsVer K H2 x v → IsVer K (upd H2 a (.ins CR dx [(("_stretches" : Str), .ref D)])) x v := fun {x v} ⟨b, e, t⟩ => ⟨b, e, kT t⟩
        have kE : ∀ {x : V} {v : Option Ver}, IsEnd K H2 x v → IsEnd K (upd H2 a (.ins CR dx [(("_stretches" : Str), .ref D)])) x v := fun {x v} t => by
          cases v with
          | none => exact t
          | some u => exact kV t
        refine q _ ss' (fun b o nb e n => ?_) (fun p hp => ?_) ⟨a, dx, D, zs, rfl, upd_same, kT (.inl (.inl hD)), ⟨hz.len, fun i x st p q => ?_⟩⟩ pm pw
        · exact hFr _ _ nb (e2 _ _ (s1 _ _ e) n)
        · obtain ⟨tb, h1, h2, h3⟩ := T2 p hp
          refine ⟨tb, hFr _ _ (nA h1 fun fs z => nomatch z) h1, h2, fun pos cv hc => ?_⟩
          obtain ⟨c, e1, e3⟩ := h3 pos cv hc
          exact ⟨c, e1, hFr _ _ (nA e3 fun fs z => by unfold CodeO at z; cases z) e3⟩
        · obtain ⟨p', lo, hh, e, t, t1, t2⟩ := hz.at_ i x st p q
          exact ⟨p', lo, hh, e, kT t, kV t1, kE t2⟩
end
end Kw
set_option maxHeartbeats 4000000
namespace Kw
open PySem PySem.Spec PyProof.Rows L2 LamX
/-! ### normal forms as data -/
def verD (v : Ver) : PyData := .tuple ((vl v).map PyData.int)
def endD : Option Ver → PyData
  | none => .none
  | some u => verD u
def strD (s : Str2) : PyData := .tuple [verD s.1, endD s.2]
def nfD (ss : List Str2) : PyData := .tuple (ss.map strD)
theorem dp_ver {K : PySem.W.Frag} {H : Hp} {x : V} {v : Ver} (h : IsVer K H x v) : Dp K H x (verD v) := by
  obtain ⟨a, rfl, t⟩ := h
  exact .tup t (dp_ints _)
theorem dp_end {K : PySem.W.Frag} {H : Hp} {x : V} {e : Option Ver} (h : IsEnd K H x e) : Dp K H x (endD e) := by
  cases e with
  | none =>
    obtain rfl : x = .non := h
    exact .non
  | some u => exact dp_ver h
theorem dp_str {K : PySem.W.Frag} {H : Hp} {x : V} {s : Str2} (h : IsStr K H x s) : Dp K H x (strD s) := by
  obtain ⟨p, l, hh, rfl, t, t1, t2⟩ := h
  exact .tup t (.cons (dp_ver t1) (.cons (dp_end t2) .nil))
theorem dp_strs' {K : PySem.W.Frag} {H : Hp} : ∀ {xs : List V} {ss : List Str2}, Strs K H xs ss → DpAll K H xs (ss.map strD)
  | [], [], _ => .nil
  | [], s :: ss, h => by have := h.len; simp at this
  | x :: xs, [], h => by have := h.len; simp at this
  | x :: xs, s :: ss, h => .cons (dp_str (h.at_ 0 x s rfl rfl)) (dp_strs' ⟨by have := h.len; simpa using this, fun i y t a b => h.at_ (i + 1) y t (by simpa using a) (by simpa using b)⟩)
theorem dp_nf {K : PySem.W.Frag} {H : Hp} {t : Addr} {zs : List V} {ss : List Str2} (h : SqT K H t zs) (hz : Strs K H zs ss) : Dp K H (.ref t) (nfD ss) := .tup h (dp_strs' hz)
theorem cl_ver (v : Ver) : (verD v).canLay0 = true ∧ (verD v).depth = 1 := by simp [verD, PyData.canLay0, PyData.canLayAll0, PyData.depth, PyData.depthAll]
theorem cl_end (e : Option Ver) : (endD e).canLay0 = true ∧ (endD e).depth ≤ 1 := by
  cases e with
  | none => simp [endD, PyData.canLay0, PyData.depth]
  | some u => exact ⟨(cl_ver u).1, Nat.le_of_eq (cl_ver u).2⟩
theorem cl_str (s : Str2) : (strD s).canLay0 = true ∧ (strD s).depth ≤ 2 := by
  have h1 := cl_ver s.1
  have h2 := cl_end s.2
  refine ⟨by simp [strD, PyData.canLay0, PyData.canLayAll0, h1.1, h2.1], ?_⟩
  simp only [strD, PyData.depth, PyData.depthAll, h1.2]
  omega
theorem cl_all : ∀ ss : List Str2, PyData.canLayAll0 (ss.map strD) = true ∧ PyData.depthAll (ss.map strD) ≤ 2
  | [] => by simp [PyData.canLayAll0, PyData.depthAll]
  | s :: ss => by
    have h1 := cl_str s
    have h2 := cl_all ss
    refine ⟨by simp [PyData.canLayAll0, h1.1, h2.1], ?_⟩
    simp only [List.map_cons, PyData.depthAll]
    omega
theorem cl_nf (ss : List Str2) : (nfD ss).canLay0 = true ∧ (nfD ss).depth ≤ 3 := by
  have h := cl_all ss
  refine ⟨by simp [nfD, PyData.canLay0, h.1], ?_⟩
  simp only [nfD, PyData.depth]
  omega
theorem shaped_nf (ss : List Str2) : SeqAt.shaped (nfD ss) = true := by
  have h := cl_nf ss
  simp only [SeqAt.shaped, h.1, Bool.true_and]
  exact decide_eq_true (by omega)
theorem eqv_nf (ss : List Str2) : PyData.eqv (nfD ss) (nfD ss) = true := PySem.SeqAt.eqv_refl _ (cl_nf ss).1
/-! ### the methods of Range -/
def spHasR (K : PySem.W.Frag) (CR : Addr) : Sp := fun vs H Q _ => ∃ (x y : V) (nf : List Str2), vs = [x, y] ∧ IsR K CR H x nf ∧ nf.length ≤ 100 ∧ ((∃ v, IsVer K H y v ∧ okV v ∧ ∀ H', Same H H' → Q (.bl (hasL nf v)) H') ∨ (VerB K H y false ∧ ∀ H', Same H H' → Q (.bl false) H'))
def spEqR (K : PySem.W.Frag) (CR : Addr) : Sp := fun vs H Q _ => ∃ (x y : V), vs = [x, y] ∧ ((∃ nf, IsR K CR H x nf ∧ IsR K CR H y nf ∧ Q (.bl true) H) ∨ (∃ a xs, y = .ref a ∧ SqT K H a xs ∧ Q (.bl false) H))
def spGetR (K : PySem.W.Frag) (CR : Addr) : Sp := fun vs H Q _ => ∃ (x : V) (nf : List Str2), vs = [x] ∧ IsR K CR H x nf ∧ ∀ t zs, SqT K H t zs → Strs K H zs nf → Q (.ref t) H
section
variable {P : Program} {w : World} {K : PySem.W.Frag} {mg : Str → Option Value} {base : Heap}
theorem scHasR : FnScope ["self", "x", "low", "high"] ["self", "x"] (defScope sHasR) := ⟨rfl, rfl, rfl, by decide +kernel, rfl, by decide +kernel, by decide +kernel⟩
theorem scEqR : FnScope ["self", "other"] ["self", "other"] (defScope sEqR) := ⟨rfl, rfl, rfl, by decide +kernel, rfl, by decide +kernel, by decide +kernel⟩
theorem scGetR : FnScope ["self"] ["self"] (defScope sGet) := ⟨rfl, rfl, rfl, by decide +kernel, rfl, by decide +kernel, by decide +kernel⟩
theorem ok_getR {f CR : Addr} {fd : FuncData} {k : Nat} (F : FunV K "stretches" "Range.stretches" sGet f fd) (cR : Cls K CR) (nR : NoAttr K CR "_stretches") : FnOk P w K mg base CX0 (k + 1) f fd ["self"] (spGetR K CR) := by
  obtain ⟨oc, od, dV, kV, doc, pm, an, cdv, ct, osl, rfl, lk, hcd⟩ := F.ex
  refine (fn_getter (C := CR) (f := "_stretches") lk hcd scGetR rfl rfl cR nR).imp fun vs H Q E h => ?_
  obtain ⟨x, nf, rfl, ⟨a, dx, t, zs, rfl, ha, ht, hz⟩, q⟩ := h
  exact ⟨a, dx, _, .ref t, rfl, ha, by simp [List.lookup], q t zs ht hz⟩
theorem ok_hasR {f CR : Addr} {fd : FuncData} {k : Nat} (F : Fun K "__contains__" "Range.__contains__" sHasR f fd) (ma : mg "any" = none) (cR : Cls K CR) (nR : NoAttr K CR "_stretches") (DV : Def P w K mg base "is_version" CX0 k ["value"] (spVerB K)) :
    FnOk P w K mg base CX0 (k + 1) f fd ["self", "x"] (spHasR K CR) := by
  refine F.ok scHasR (fun vs H Q E h => ?_) (fun cdv A outer s H vs Q E hr h => ?_)
  · obtain ⟨x, y, nf, rfl, _⟩ := h
    rfl
  · obtain ⟨x, y, nf, rfl, ⟨a, dx, t, zs, rfl, ha, ht, hz⟩, hlen, h⟩ := h
    refine ⟨_, pss_one (ps_ret (pe_and (pe_d DV hr (pa_cons (pv 1) pa_nil)) (pe_one (pe_callB (cr_any rfl) (by rfl) ma (by decide +kernel) (pa_cons (pe_lc (own := [("low", 2), ("high", 3)]) (g := gTup K 2 (gCons (gName 2) (gCons (gName 3) gNil))) (tt := tYes) (te := tAndV (tOp (rVer K .LtE) (tVar 2) (tVar 1)) (tOrV (tOp (fun x y H Q => y = .non ∧ Q (.bl (decide (x = .non))) H) (tVar 3) (tC .non)) (tOp (rVer K .Lt) (tVar 1) (tVar 3)))) rfl scHasR.nd (pi_tup (pe_fld (pv 0) rfl)) (blkOk_by (N := ["self", "x", "low", "high"]) (sc := defScope sHasR) (by decide +kernel))
        (fun _ _ _ _ _ => pg_tup rfl (pgs_cons (pg_name (i := 2) scHasR.nd rfl (.inl rfl)) (pgs_cons (pg_name (i := 3) scHasR.nd rfl (.inl rfl)) pgs_nil))) (fun _ _ _ _ _ => pts_nil)
        (fun _ _ _ _ _ => pe_and (pe_cmpR (op_ver (op := .LtE) (.inr (.inl rfl)) hr.units0) (pv 2) (pv 1) (nomark _)) (pe_one (pe_or (pe_cmpR op_isN (pv 3) pe_non (nomark _)) (pe_one (pe_cmpR (op_ver (op := .Lt) (.inl rfl) hr.units0) (pv 1) (pv 3) (nomark _))))))) pa_nil))))), ?_⟩
    rcases h with ⟨v, hv, ov, q⟩ | ⟨hb, q⟩
    · refine ⟨_, rfl, y, true, rfl, .of hv ov, fun H1 s1 => ⟨_, rfl, iteT ?_⟩⟩
      have ht1 := Same.sqT s1 ht
      refine ⟨_, rfl, a, CR, dx, _, .ref t, rfl, s1 _ _ ha, cR, nR, by simp [List.lookup], t, rfl, ⟨_, ht1⟩, fun D hD => ?_⟩
      refine lc_tup (K := K) (a := t) (xs := zs) (fun i H' => Same H1 H' ∧ H' D = some (.lst (((nf.take i).map fun s => hasS s v).map V.bl))) ⟨same_upd hD, upd_same⟩ (fun i H' _ R => Same.sqT R.1 ht1) ?_ ?_
      · rintro i z H' hi ⟨s2, h1⟩
        obtain ⟨st, hst, p, lo, hh, rfl, g1, g2, g3⟩ := (hz.same (s1.trans s2)).get hi
        have hil := (List.getElem?_eq_some_iff.mp hst).1
        have hv2 := hv.same (s1.trans s2)
        have fin : ∀ b : Bool, b = hasS st v → ∃ acc, H' D = some (.lst acc) ∧ acc.length < sizeLine ∧ Same H1 (upd H' D (.lst (acc ++ [V.bl b]))) ∧ (upd H' D (.lst (acc ++ [V.bl b]))) D = some (.lst (((nf.take (i + 1)).map fun s => hasS s v).map V.bl)) := fun b eb => by
          refine ⟨_, h1, ?_, fun b o y => by rw [upd_ne (ne_of_none y hD)]; exact s2 _ _ y, ?_⟩
          · rw [List.length_map, List.length_map, List.length_take]
            exact Nat.lt_of_le_of_lt (Nat.min_le_left _ _) (small1000 (by omega))
          · rw [upd_same, take_snoc hst, eb]
            simp
        refine ⟨p, [lo, hh], rfl, g1, rfl, lo, [hh], rfl, hh, [], rfl, rfl, rfl, yesI ?_⟩
        refine ⟨_, rfl, _, rfl, st.1, v, g2, hv2, _, rfl, ite2 (fun e => ?_) (fun e => ?_)⟩
        · have e1 : leV st.1 v := of_decide_eq_true e
          refine ⟨_, rfl, rfl, _, rfl, ?_⟩
          rw [isEnd_non g3]
          obtain ⟨s1', s2'⟩ := st
          cases s2' with
          | none => exact iteT (fin true (by simp [hasS, e1]))
          | some u => exact iteF ⟨_, rfl, _, rfl, v, u, hv2, g3, fin _ (by simp [hasS, e1, cmpV])⟩
        · have e1 : ¬ leV st.1 v := fun c => e (decide_eq_true c)
          exact fin false (by simp [hasS, e1])
      · rintro H' ⟨s2, h1⟩
        rw [List.take_of_length_le (by rw [hz.len]; exact Nat.le_refl _)] at h1
        refine ⟨D, nf.map fun s => hasS s v, rfl, SqL.of h1, ?_⟩
        have := q H' (s1.trans s2)
        simpa [hasL, List.any_map] using this
    · exact ⟨_, rfl, y, false, rfl, hb, fun H1 s1 => ⟨_, rfl, iteF (q H1 s1)⟩⟩
theorem ok_eqR {f CR : Addr} {fd : FuncData} {k : Nat} (F : Fun K "__eq__" "Range.__eq__" sEqR f fd) (mi : mg "isinstance" = none) (gR : mg "Range" = some (.ref CR)) (cR : Cls K CR) (nR : NoAttr K CR "_stretches")
    (tyR : ∀ (H : Hp) (a dx : Addr) (fs : List (Str × V)), H a = some (.ins CR dx fs) → TyX K H (.ref a) (.ref CR)) (kR : PySem.W.kitOne K (.ref CR) (.ref CR) = some true) (kT : PySem.W.kitOne K (.type "tuple") (.ref CR) = some false) :
    FnOk P w K mg base CX0 (k + 1) f fd ["self", "other"] (spEqR K CR) := by
  refine F.ok scEqR (fun vs H Q E h => ?_) (fun cdv A outer s H vs Q E hr h => ?_)
  · obtain ⟨x, y, rfl, _⟩ := h
    rfl
  · obtain ⟨x, y, rfl, h⟩ := h
    refine ⟨_, pss_one (ps_ret (pe_and (pe_callB call_isi (by rfl) mi (by decide +kernel) (pa_cons (pv 1) (pa_cons (pe_glob (v := .ref CR) (by rfl) gR rfl) pa_nil))) (pe_one (pe_cmpR (op_eqD hr.units) (pe_fld (pv 0) rfl) (pe_fld (pv 1) rfl) (nomark _))))), ?_⟩
    rcases h with ⟨nf, ⟨a, dx, t, zs, rfl, ha, ht, hz⟩, ⟨b, dy, u, ys, rfl, hb, hu, hy⟩, q⟩ | ⟨b, xs, rfl, t, q⟩
    · refine ⟨_, rfl, .ref b, .ref CR, .ref CR, .ref CR, true, rfl, .own _, tyR _ _ _ _ hb, kR, _, rfl, iteT ?_⟩
      refine ⟨_, rfl, a, CR, dx, _, .ref t, rfl, ha, cR, nR, by simp [List.lookup], _, rfl, b, CR, dy, _, .ref u, rfl, hb, cR, nR, by simp [List.lookup], ?_⟩
      refine ⟨_, _, dp_nf ht hz, dp_nf hu hy, shaped_nf _, shaped_nf _, ?_⟩
      rw [eqv_nf]
      exact q
    · exact ⟨_, rfl, .ref b, .ref CR, .type "tuple", .ref CR, false, rfl, .own _, ty_tup t, kT, _, rfl, iteF q⟩
end
end Kw
set_option maxHeartbeats 4000000
namespace Kw
open PySem PySem.Spec PyProof.Rows L2 LamX
/-! ### odd values -/
def okStr (z : Str) : Prop := z.length ≤ 1000 ∧ ∀ c ∈ z.cps.toList, PyData.strOk ⟨#[c]⟩ = true
inductive OddV (K : PySem.W.Frag) (H : Hp) : V → Prop
  | flat {x : V} {T : String} : Flat x T → (∀ z, x = .str z → okStr z) → OddV K H x
  | tup {a : Addr} {xs : List V} : SqT K H a xs → (∀ y ∈ xs, xs.length = 3 → ∃ T, Flat y T) → OddV K H (.ref a)
  | lst {a : Addr} {xs : List V} : H a = some (.lst xs) → OddV K H (.ref a)
  | dct {a : Addr} {kvs : List (Key × V)} : H a = some (.dK kvs) → OddV K H (.ref a)
theorem OddV.ver {K : PySem.W.Frag} {H : Hp} {x : V} (h : OddV K H x) : ∃ b, VerB K H x b := by
  cases h with
  | flat f _ => exact ⟨_, .oth (.flat f)⟩
  | tup t f => exact ⟨_, .tup t f rfl⟩
  | lst e => exact ⟨_, .oth (.lst e)⟩
  | dct e => exact ⟨_, .oth (.dct e)⟩
theorem OddV.ext {K : PySem.W.Frag} {H H' : Hp} {x : V} (h : OddV K H x) (e : ExtN H H') : OddV K H' x := by
  cases h with
  | flat f z => exact .flat f z
  | tup t f => exact .tup (e.sqT t) f
  | lst g => exact .lst (e _ _ g fun ps z => nomatch z)
  | dct g => exact .dct (e _ _ g fun ps z => nomatch z)
theorem OddV.fr {K : PySem.W.Frag} {H H' : Hp} {x : V} {d w c : Addr} {B : Int} (h : OddV K H x) (S : StAt H d w c B) (F : Fr2 d w H H') (n1 : x ≠ .ref d) (n2 : x ≠ .ref w) : OddV K H' x := by
  cases h with
  | flat f z => exact .flat f z
  | tup t f => exact .tup (F.sqT S t) f
  | lst g => exact .lst (F _ _ (fun z => n1 (by rw [z])) (fun z => n2 (by rw [z])) g)
  | dct g => exact .dct (F _ _ (fun z => n1 (by rw [z])) (fun z => n2 (by rw [z])) g)
/-- what is_kit says of it -/
def kitV : V → Bool
  | .str z => kitS z
  | _ => false
theorem OddV.kit {K : PySem.W.Frag} {H : Hp} {x : V} (h : OddV K H x) {Q : V → Hp → Prop} {E : XK} (q : ∀ H', Same H H' → Q (.bl (kitV x)) H') : spIsKit K [x] H Q E := by
  refine ⟨x, rfl, ?_⟩
  cases h with
  | flat f z =>
    cases f with
    | str y => exact .inl ⟨y, rfl, (z y rfl).1, (z y rfl).2, q⟩
    | non => exact .inr ⟨_, Flat.ty .non, by decide +kernel, q H (Same.refl H)⟩
    | bl b => exact .inr ⟨_, Flat.ty (.bl b), by decide +kernel, q H (Same.refl H)⟩
    | int i => exact .inr ⟨_, Flat.ty (.int i), by decide +kernel, q H (Same.refl H)⟩
  | tup t f => exact .inr ⟨_, ty_tup t, by decide +kernel, q H (Same.refl H)⟩
  | lst e => exact .inr ⟨_, (Oth.lst e).ty, by decide +kernel, q H (Same.refl H)⟩
  | dct e => exact .inr ⟨_, (Oth.dct e).ty, by decide +kernel, q H (Same.refl H)⟩
def spOdd (K : PySem.W.Frag) : Sp := fun vs H Q _ => ∃ (d w c : Addr) (B : Int), vs = [.ref d] ∧ StAt H d w c B ∧ B ≤ 1000000000000 ∧
  ∀ H' x, OddV K H' x → x ≠ .ref d → x ≠ .ref w → StAt H' d w c (B + 1) → Fr2 d w H H' → Q x H'
section
variable {P : Program} {w : World} {K : PySem.W.Frag} {mg : Str → Option Value} {base : Heap}
end
end Kw
set_option maxHeartbeats 4000000
namespace Kw
open PySem PySem.Spec PyProof.Rows L2 LamX
/-! ### the list shuffled -/
theorem shaped_strl (ss : List Str2) : SeqAt.shaped (.list (ss.map strD)) = true := by
  have h := cl_all ss
  simp only [SeqAt.shaped, PyData.canLay0, PyData.depth, h.1, Bool.true_and]
  exact decide_eq_true (by omega)
theorem eqv_strl (ss : List Str2) : PyData.eqv (.list (ss.map strD)) (.list []) = ss.isEmpty := by
  cases ss with
  | nil => simp [PyData.eqv, PyData.eqvAll]
  | cons n ns => simp [PyData.eqv, PyData.eqvAll]
theorem Strs.erase {K : PySem.W.Frag} {H : Hp} {xs : List V} {ss : List Str2} (h : Strs K H xs ss) (k : Nat) : Strs K H (xs.eraseIdx k) (ss.eraseIdx k) := by
  refine ⟨by simp [List.length_eraseIdx, h.len], fun i x s a b => ?_⟩
  rw [List.getElem?_eraseIdx] at a b
  split at a
  · rename_i q
    rw [if_pos q] at b
    exact h.at_ i x s a b
  · rename_i q
    rw [if_neg q] at b
    exact h.at_ (i + 1) x s a b
theorem mem_erase {α : Type} (L : List α) (j : Nat) (h : j < L.length) (s : α) : s ∈ L ↔ s = L[j] ∨ s ∈ L.eraseIdx j := by
  rw [List.eraseIdx_eq_take_drop_succ]
  have e : L = L.take j ++ L[j] :: L.drop (j + 1) := by rw [← List.drop_eq_getElem_cons h, List.take_append_drop]
  constructor
  · intro hs
    rw [e] at hs
    simp only [List.mem_append, List.mem_cons] at hs ⊢
    rcases hs with h | h | h
    · exact .inr (.inl h)
    · exact .inl h
    · exact .inr (.inr h)
  · rintro (rfl | hs)
    · exact List.getElem_mem h
    · rcases List.mem_append.mp hs with h | h
      · exact List.mem_of_mem_take h
      · exact List.mem_of_mem_drop h
def spShuf (K : PySem.W.Frag) : Sp := fun vs H Q _ => ∃ (d w c : Addr) (B : Int) (a : Addr) (xs : List V) (ss : List Str2), vs = [.ref d, .ref a] ∧ StAt H d w c B ∧ B + 10 ≤ 1000000000000 ∧ H a = some (.lst xs) ∧ a ≠ w ∧ Strs K H xs ss ∧ ss.length ≤ 10 ∧
  ∀ H' p ys ss', H p = none → H' p = some (.lst ys) → Strs K H' ys ss' → (∀ s, s ∈ ss' ↔ s ∈ ss) → ss'.length = ss.length → StAt H' d w c (B + 10) → Fr2 d w H H' → Q (.ref p) H'
section
variable {P : Program} {w : World} {K : PySem.W.Frag} {mg : Str → Option Value} {base : Heap}
end
end Kw
set_option maxHeartbeats 4000000
namespace Kw
open PySem PySem.Spec PyProof.Rows L2 LamX
/-! ### Range(e) -/
structure RangeMk (P : Program) (w : World) (K : PySem.W.Frag) (mg : Str → Option Value) (base : Heap) (CR CE : Addr) (T : List (Addr × Str)) (k : Nat) : Prop where
  ex : ∃ f fd, FnOk P w K mg base (L2.CX P w) k f fd ["self", "stretches"] (spInit K T CR CE) ∧ Mk K CR f ∧ Binds K fd ["self", "stretches"] []
  gR : mg "Range" = some (.ref CR)
section
variable {X : Cx} {CR CE : Addr} {T : List (Addr × Str)} {k : Nat}
theorem pe_rng {p pos : Pos} {e : Expr} {t : TA} {E : XK} (M : RangeMk X.prog X.w X.K X.mg X.base CR CE T k) (hr : Room (k + 1) X.A) (hx : Passes (L2.CX X.prog X.w) X E) (ha : PA X [e] t) (hg : Gl X "Range" := by rfl)
    (he : starEach (e :: []) X.env = (false, eval e X.env) :: starEach [] X.env := by rfl) (hpl : (backTo pos (starEach [] X.env)).any (·.1) = false := by rfl) : PE X (.Call (.Name "Range" p) [e] [] pos) (tMake CR (spInit X.K T CR CE) [] E t) := by
  obtain ⟨f, fd, F, Mk, hb⟩ := M.ex
  exact pe_make Mk F hr hg M.gR hb .nil hx ha (by decide) he hpl
theorem pass_lam {X : Cx} {A : Around} {outer : List Env} {s : Shared} {H : Hp} {E : XK} {scope : Scope} {f c' : Addr} : Passes (L2.CX X.prog X.w) (lamCx X A outer s H E scope f c') E := passes_call (takes_of rfl rfl rfl rfl) fun _ _ _ _ h => h
end
section
variable {K : PySem.W.Frag} {H : Hp} {σ : L2.St} {i : Nat} {CR CE : Addr} {T : List (Addr × Str)} {E : XK} {Q : VK}
theorem two_upd {a dx : Addr} {o1 o2 : HO} (na : H a = none) (nd : H dx = none) (ne : dx ≠ a) : Same H (upd (upd H dx o1) a o2) := fun b o z => by rw [upd_ne (ne_of_none z na), upd_ne (ne_of_none z nd)]; exact z
/-- of a list or a tuple of at most forty judged items -/
theorem rng_read {l : Addr} {xs : List V} {bs : List Bool} (hi : σ[i]? = some (some (.ref l))) (hT : Tabs T H) (hS : SqLT K H l xs) (hl : xs.length ≤ 40) (hj : Judged K H xs bs)
    (bad : ∀ i : Nat, bs[i]? = some false → (∀ j, j < i → bs[j]? = some true) → ∀ H' d, ExtN H H' → Tabs T H' → H' d = some (.xd [(("at" : Str), .int (i : Int))]) → E (.ref CE) (some d) H')
    (good : bs.all id = true → ∃ ss, Strs K H xs ss ∧ ∀ (H' : Hp) (x : Addr) (ss' : List Str2), ExtN H H' → Tabs T H' → IsR K CR H' (.ref x) (ss'.foldl nfAdd []) → ss'.Perm ss → ss'.Pairwise (fun p q => ¬ ltV q.1 p.1) → H x = none → Q (.ref x) H') :
    tMake CR (spInit K T CR CE) [] E (tCons (tVar i) tNil) σ H Q := by
  refine ⟨_, hi, fun a dx na nd ne => ?_⟩
  have s0 : Same H (upd (upd H dx (.own a)) a (.ins CR dx [])) := two_upd na nd ne
  have e0 := ExtN.same s0
  refine ⟨a, dx, .ref l, rfl, upd_same, hT.ext s0, .inr ⟨l, xs, rfl, hS.ext e0, by omega, .inr ⟨hl, bs, hj.ext e0, fun i h1 h2 H' d s1 hd => bad i h1 h2 H' d (e0.trans (ExtN.same s1)) ((hT.ext s0).ext s1) hd, fun all => ?_⟩⟩⟩
  obtain ⟨ss, hss, q⟩ := good all
  refine ⟨ss, hss.same s0, fun H' ss' eA T' hR pm pw => ⟨rfl, q H' a ss' (fun b o z n => ?_) T' hR pm pw na⟩⟩
  exact eA b o (ne_of_none z na) (s0 _ _ z) n
/-- of a value that is no list, or too long a list -/
theorem rng_none {x : V} (hi : σ[i]? = some (some x)) (hT : Tabs T H) (hx : (∃ T', NoLT H x T') ∨ ∃ l xs, x = .ref l ∧ SqLT K H l xs ∧ xs.length ≤ 1000 ∧ 40 < xs.length) (bad : ∀ H' d, ExtN H H' → Tabs T H' → H' d = some (.xd [(("at" : Str), .non)]) → E (.ref CE) (some d) H') :
    tMake CR (spInit K T CR CE) [] E (tCons (tVar i) tNil) σ H Q := by
  refine ⟨_, hi, fun a dx na nd ne => ?_⟩
  have s0 : Same H (upd (upd H dx (.own a)) a (.ins CR dx [])) := two_upd na nd ne
  have e0 := ExtN.same s0
  have xat : XAt E CE .non (upd (upd H dx (.own a)) a (.ins CR dx [])) := fun H' d s1 hd => bad H' d (e0.trans (ExtN.same s1)) ((hT.ext s0).ext s1) hd
  refine ⟨a, dx, x, rfl, upd_same, hT.ext s0, ?_⟩
  rcases hx with ⟨T', h⟩ | ⟨l, xs, rfl, hS, h1, h2⟩
  · refine .inl ⟨T', ?_, xat⟩
    cases h with
    | flat f => exact .flat f
    | dct e => exact .dct (s0 _ _ e)
  · exact .inr ⟨l, xs, rfl, hS.ext e0, h1, .inl ⟨h2, xat⟩⟩
theorem judged_all {xs : List V} {ss : List Str2} (h : Strs K H xs ss) (ok : ∀ s ∈ ss, okS s) : Judged K H xs (xs.map fun _ => true) := by
  refine ⟨by simp, fun i x b p q => ?_⟩
  obtain ⟨s, hs, is⟩ := h.get p
  rw [List.getElem?_map, p] at q
  obtain rfl := Option.some.inj q
  exact .of is (ok s (List.mem_of_getElem? hs))
/-- of stretches: it is made -/
theorem rng_good {l : Addr} {xs : List V} {ss : List Str2} (hi : σ[i]? = some (some (.ref l))) (hT : Tabs T H) (hS : SqLT K H l xs) (hl : xs.length ≤ 40) (h : Strs K H xs ss) (ok : ∀ s ∈ ss, okS s)
    (q : ∀ (H' : Hp) (x : Addr) (ss' : List Str2), ExtN H H' → Tabs T H' → IsR K CR H' (.ref x) (ss'.foldl nfAdd []) → ss'.Perm ss → ss'.Pairwise (fun p q => ¬ ltV q.1 p.1) → H x = none → Q (.ref x) H') :
    tMake CR (spInit K T CR CE) [] E (tCons (tVar i) tNil) σ H Q := by
  refine rng_read hi hT hS hl (judged_all h ok) (fun i h1 _ => ?_) fun _ => ⟨ss, h, q⟩
  rw [List.getElem?_map] at h1
  cases e : xs[i]? with
  | none => rw [e] at h1; simp at h1
  | some x => rw [e] at h1; simp at h1
end
/-! ### _law_caught(lambda: Range(e)) -/
section
variable {K : PySem.W.Frag} {H : Hp} {σ : L2.St} {i : Nat} {CR CE CK : Addr} {T : List (Addr × Str)} {Q : VK}
abbrev tCaughtR (K : PySem.W.Frag) (T : List (Addr × Str)) (CR CE CK : Addr) (i : Nat) : TE := tLam T (TTc K CK) fun E => tMake CR (spInit K T CR CE) [] E (tCons (tVar i) tNil)
/-- nothing was caught, or the error that tells the first wrong item -/
theorem caught_read {l : Addr} {xs : List V} {bs : List Bool} (hsub : PySem.W.exmOne K (.ref CE) (.ref CK) = some true) (hi : σ[i]? = some (some (.ref l))) (hT : Tabs T H) (hS : SqLT K H l xs) (hl : xs.length ≤ 40) (hj : Judged K H xs bs)
    (bad : ∀ i : Nat, bs[i]? = some false → (∀ j, j < i → bs[j]? = some true) → ∀ (H' : Hp) (x : V), ExtN H H' → Tabs T H' → IsExc H' x CE (some (.int (i : Int))) → Q x H')
    (good : bs.all id = true → (∃ ss, Strs K H xs ss) ∧ ∀ H', ExtN H H' → Tabs T H' → Q .non H') : tCaughtR K T CR CE CK i σ H Q := by
  refine ⟨hT, fun H1 e1 T1 => ?_⟩
  show tMake CR (spInit K T CR CE) [] (fun cls d H' => PySem.W.exmOne K cls (.ref CK) = some true ∧ ∀ a, H' a = none → Q (.ref a) (upd H' a (exA cls d a))) (tCons (tVar i) tNil) σ H1 (fun _ H' => ∃ x, (some (some V.non) : Option (Option V)) = some (some x) ∧ Q x H')
  refine rng_read hi T1 (hS.ext e1) hl (hj.ext e1) (fun i h1 h2 H' d e2 T2 hd => ⟨hsub, fun a ha => ?_⟩) fun all => ?_
  · have s2 := same_upd (o := exA (.ref CE) (some d) a) ha
    exact bad i h1 h2 _ (.ref a) ((e1.trans e2).trans (ExtN.same s2)) (T2.ext s2) ⟨a, some d, rfl, upd_same, d, rfl, s2 _ _ hd⟩
  · obtain ⟨⟨ss, hss⟩, q⟩ := good all
    exact ⟨ss, e1.strs hss, fun H' x ss' e2 T2 _ _ _ _ => ⟨.non, rfl, q H' (e1.trans e2) T2⟩⟩
/-- BadRange(None) was caught -/
theorem caught_none {x : V} (hsub : PySem.W.exmOne K (.ref CE) (.ref CK) = some true) (hi : σ[i]? = some (some x)) (hT : Tabs T H) (hx : (∃ T', NoLT H x T') ∨ ∃ l xs, x = .ref l ∧ SqLT K H l xs ∧ xs.length ≤ 1000 ∧ 40 < xs.length)
    (q : ∀ (H' : Hp) (y : V), ExtN H H' → Tabs T H' → IsExc H' y CE (some .non) → Q y H') : tCaughtR K T CR CE CK i σ H Q := by
  refine ⟨hT, fun H1 e1 T1 => ?_⟩
  show tMake CR (spInit K T CR CE) [] (fun cls d H' => PySem.W.exmOne K cls (.ref CK) = some true ∧ ∀ a, H' a = none → Q (.ref a) (upd H' a (exA cls d a))) (tCons (tVar i) tNil) σ H1 (fun _ H' => ∃ x, (some (some V.non) : Option (Option V)) = some (some x) ∧ Q x H')
  refine rng_none hi T1 ?_ fun H' d e2 T2 hd => ⟨hsub, fun a ha => ?_⟩
  · rcases hx with ⟨T', h⟩ | ⟨l, xs, rfl, h, h1, h2⟩
    · refine .inl ⟨T', ?_⟩
      cases h with
      | flat f => exact .flat f
      | dct e => exact .dct (e1 _ _ e fun ps z => nomatch z)
    · exact .inr ⟨l, xs, rfl, h.ext e1, h1, h2⟩
  · have s2 := same_upd (o := exA (.ref CE) (some d) a) ha
    exact q _ (.ref a) ((e1.trans e2).trans (ExtN.same s2)) (T2.ext s2) ⟨a, some d, rfl, upd_same, d, rfl, s2 _ _ hd⟩
end
end Kw
set_option maxHeartbeats 4000000
namespace Kw
open PySem PySem.Spec PyProof.Rows L2 LamX
/-- the law's catcher, found by its name -/
structure CaughtD (K : PySem.W.Frag) (mg : Str → Option Value) (CK : Addr) : Prop where
  ex : ∃ g fd, Fun K "_law_caught" "_law_caught" sCaught g fd ∧ mg "_law_caught" = some (.ref g) ∧ PySem.W.keepIn K (.ref g) = true ∧ Binds K fd ["_law_task"] []
  gE : mg "KitError" = some (.ref CK)
section
variable {X : Cx} {CR CE CK : Addr} {T : List (Addr × Str)} {k i : Nat}
/-- _law_caught(lambda: Range(y)) -/
theorem pe_caughtR {c PT : Addr} {y : Str} {params : Arguments} {scope : Scope} {p p1 p2 p3 lpos pos : Pos} (C : CaughtD X.K X.mg CK) (M : RangeMk X.prog X.w X.K X.mg X.base CR CE T k) (TB : TabB X.base X.mg c PT) (hcode : X.env.code = .ref c) (hmT : (PT, X.env.qual ++ "<lambda>") ∈ T)
    (hu : ∀ p ∈ T, p.1 = PT → p.2 = X.env.qual ++ "<lambda>") (hr : Room (k + 3) X.A) (L : LamS X.env.scope scope) (hdef : defaultsOf params X.env = ([], []))
    (hbind : ∀ (q : Str) (cl : List (Str × Addr)) (pm cv ctv : Value), bindArgs (PySem.W.kla_fn "<lambda>" q params (.Call (.Name "Range" p1) [.Name y p2] [] p3) scope cl pm cv ctv) ⟨[], []⟩ = pure []) (hN : X.N[i]? = some y) (hv : Vis scope y)
    (hgl : ∀ (A : Around) (outer : List Env) (s : Shared) (H : Hp) (E : XK) (f c' : Addr), Gl (lamCx X A outer s H E scope f c') "Range") (hg : Gl X "_law_caught") (hd : (y == ("__debug__" : Str)) = false := by decide) (hcd : (y == ("__classdict__" : Str)) = false := by decide) :
    PE X (.Call (.Name "_law_caught" p) [.Lambda params (.Call (.Name "Range" p1) [.Name y p2] [] p3) scope lpos] [] pos) (tCaughtR X.K T CR CE CK i) := by
  obtain ⟨g, fd, F, hm, hk, hb⟩ := C.ex
  obtain ⟨oc, od, kV, doc, pm, an, cdv, ct, osl, rfl, lk, hcg⟩ := F.ex
  refine pe_lamcall (T := T) (c := c) (P := PT) (k := k + 1) (a := "_law_task") hg hm hk lk hcg hb scCaught rfl (.inl rfl) (caught_gives C.gE) TB hcode hmT hu hr L hdef hbind (fun A outer s H E f c' hr2 => ?_) (by decide) (by decide) (by decide)
  have hP : Passes (L2.CX X.prog X.w) (lamCx X A outer s H E scope f c') E := pass_lam (X := X) (A := A) (outer := outer) (s := s) (H := H) (E := E) (scope := scope) (f := f) (c' := c')
  exact pe_rng (X := lamCx X A outer s H E scope f c') M hr2 hP (pa_cons (pe_var (X := lamCx X A outer s H E scope f c') (i := i) hN hv hd hcd) pa_nil) (hgl A outer s H E f c') rfl rfl
end
end Kw
set_option maxHeartbeats 1000000
namespace Kw
open PySem PySem.Spec PyProof.Rows L2 LamX
/-! ### wrong lists are refused -/
/-- all but the draws' dict and list and the tables stay -/
def FrX (d w : Addr) (H H' : Hp) : Prop := ∀ c o, c ≠ d → c ≠ w → H c = some o → (∀ ps, o ≠ .tbl ps) → H' c = some o
theorem FrX.of2 {d w : Addr} {H H' : Hp} (x : Fr2 d w H H') : FrX d w H H' := fun c o a b h _ => x c o a b h
theorem FrX.ofN {d w : Addr} {H H' : Hp} (x : ExtN H H') : FrX d w H H' := fun c o _ _ h n => x c o h n
theorem FrX.trans {d w : Addr} {H H1 H2 : Hp} (x : FrX d w H H1) (y : FrX d w H1 H2) : FrX d w H H2 := fun c o a b h n => y c o a b (x c o a b h n) n
theorem StAt.ext {H H' : Hp} {d w c : Addr} {B : Int} (S : StAt H d w c B) (e : ExtN H H') : StAt H' d w c B := by
  obtain ⟨ws, cs, r, t, hd, hw, hc, pw, pc, hr0, ht0, htB, lw, lc, nwc⟩ := S.ex
  exact ⟨ws, cs, r, t, e _ _ hd (fun ps z => nomatch z), e _ _ hw (fun ps z => nomatch z), e _ _ hc (fun ps z => nomatch z), pw, pc, hr0, ht0, htB, lw, lc, nwc⟩
theorem Tabs.fr2 {T : List (Addr × Str)} {H H' : Hp} {d w c : Addr} {B : Int} (t : Tabs T H) (S : StAt H d w c B) (F : Fr2 d w H H') : Tabs T H' := fun p hp => by
  obtain ⟨ps, h1, h2, h3⟩ := t p hp
  obtain ⟨kvs, hd⟩ := S.hd
  obtain ⟨ys, hw⟩ := S.hw
  refine ⟨ps, F _ _ (ne_of h1 hd (by intro z; cases z)) (ne_of h1 hw (by intro z; cases z)) h1, h2, fun pos cv hc => ?_⟩
  obtain ⟨c, e1, e2⟩ := h3 pos cv hc
  exact ⟨c, e1, F _ _ (ne_of e2 hd (by intro z; unfold CodeO at z; cases z)) (ne_of e2 hw (by intro z; unfold CodeO at z; cases z)) e2⟩
def spRefused (K : PySem.W.Frag) (T : List (Addr × Str)) : Sp := fun vs H Q _ => ∃ (d w c : Addr) (B : Int) (a : Addr) (xs : List V) (ss : List Str2), vs = [.ref d, .ref a] ∧ StAt H d w c B ∧ B + 20 ≤ 1000000000000 ∧ Tabs T H ∧ H a = some (.lst xs) ∧ a ≠ w ∧ Strs K H xs ss ∧ (∀ s ∈ ss, okS s) ∧ ss.length ≤ 5 ∧
  ∀ H', Tabs T H' → StAt H' d w c (B + 20) → FrX d w H H' → Q (.bl true) H'
section
variable {P : Program} {w : World} {K : PySem.W.Frag} {mg : Str → Option Value} {base : Heap}
abbrev nRef : List Str := ["_law_state", "_law_some", "_law_at", "_law_low", "_law_odd_here", "_law_due", "_law_error", "_law_bent", "_law_whole", "_law_k"]
/-- what Range's own methods promise, found by the class -/
structure RangeEq (P : Program) (w : World) (K : PySem.W.Frag) (mg : Str → Option Value) (base : Heap) (CR : Addr) (k : Nat) : Prop where
  ex : ∃ f fd, FnOk P w K mg base CX0 k f fd ["self", "other"] (spEqR K CR) ∧ PySem.W.findIn K (.ref CR) "__eq__" = some (some (.ref f)) ∧ PySem.W.isFn K (.ref f) = true ∧ Binds K fd ["self", "other"] []
theorem IsExc.ext {H H' : Hp} {x : V} {C : Addr} {v : V} (h : IsExc H x C (some v)) (e : ExtN H H') : IsExc H' x C (some v) := by
  obtain ⟨a, d, rfl, h1, dd, rfl, h2⟩ := h
  exact ⟨a, _, rfl, e _ _ h1 (fun ps z => exA_ne (o := .tbl ps) (fun φ y => by cases y) z), dd, rfl, e _ _ h2 fun ps z => nomatch z⟩
theorem Judged.app {H : Hp} {xs ys : List V} {bs cs : List Bool} (h : Judged K H xs bs) (g : Judged K H ys cs) : Judged K H (xs ++ ys) (bs ++ cs) := by
  refine ⟨by simp [h.len, g.len], fun i x b p q => ?_⟩
  by_cases hi : i < xs.length
  · rw [List.getElem?_append_left hi] at p
    rw [List.getElem?_append_left (by rw [← h.len]; exact hi)] at q
    exact h.at_ i x b p q
  · rw [List.getElem?_append_right (by omega)] at p
    rw [List.getElem?_append_right (by rw [← h.len]; omega), ← h.len] at q
    exact g.at_ _ x b p q
theorem judged_mem {H : Hp} {xs : List V} (h : ∀ x ∈ xs, StrB K H x true) : Judged K H xs (xs.map fun _ => true) := by
  refine ⟨by simp, fun i x b p q => ?_⟩
  rw [List.getElem?_map, p] at q
  obtain rfl := Option.some.inj q
  exact h x (List.mem_of_getElem? p)
/-- the judgements of the bent list: one is false -/
theorem bent_get (c1 c2 : List V) (i : Nat) : ((c1.map fun _ => true) ++ [false] ++ (c2.map fun _ => true))[i]? = if i = c1.length then some false else if i < c1.length + 1 + c2.length then some true else none := by
  by_cases h1 : i < c1.length
  · rw [List.append_assoc, List.getElem?_append_left (by simpa using h1), List.getElem?_map, List.getElem?_eq_getElem h1, if_neg (by omega), if_pos (by omega)]
    rfl
  · by_cases h2 : i = c1.length
    · rw [if_pos h2, List.append_assoc, List.getElem?_append_right (by simp; omega), h2]
      simp
    · rw [if_neg h2, List.getElem?_append_right (by simp; omega), List.getElem?_map]
      have e : i - ((c1.map fun _ => true) ++ [false]).length = i - c1.length - 1 := by simp; omega
      rw [e]
      by_cases h3 : i < c1.length + 1 + c2.length
      · rw [if_pos h3, List.getElem?_eq_getElem (show i - c1.length - 1 < c2.length by omega)]
        rfl
      · rw [if_neg h3, List.getElem?_eq_none (by omega)]
        rfl
theorem rngA {CR CE l x dx : Addr} {T : List (Addr × Str)} {H : Hp} {E : XK} {xs : List V} {ss : List Str2} {R : Hp → Prop} (hT : Tabs T H) (hS : SqLT K H l xs) (hl : xs.length ≤ 40) (h : Strs K H xs ss) (ok : ∀ s ∈ ss, okS s) (na : H x = none) (nd : H dx = none)
    (q : ∀ (H' : Hp) (ss' : List Str2), ExtN H H' → Tabs T H' → IsR K CR H' (.ref x) (ss'.foldl nfAdd []) → ss'.Perm ss → ss'.Pairwise (fun p q => ¬ ltV q.1 p.1) → R H') :
    spInit K T CR CE (.ref x :: ([.ref l] ++ [])) (upd (upd H dx (.own x)) x (.ins CR dx [])) (fun v H2 => v = .non ∧ R H2) E := by
  have s0 : Same H (upd (upd H dx (.own x)) x (.ins CR dx [])) := fun b o z => by rw [upd_ne (ne_of_none z na), upd_ne (ne_of_none z nd)]; exact z
  have e0 := ExtN.same s0
  refine ⟨x, dx, .ref l, rfl, upd_same, hT.ext s0, .inr ⟨l, xs, rfl, hS.ext e0, by omega, .inr ⟨hl, _, (judged_all h ok).ext e0, fun i h1 _ => ?_, fun _ => ⟨ss, h.same s0, fun H' ss' eA T' hR pm pw => ⟨rfl, q H' ss' (fun b o z n => eA b o (ne_of_none z na) (s0 _ _ z) n) T' hR pm pw⟩⟩⟩⟩⟩
  rw [List.getElem?_map] at h1
  cases e : xs[i]? with
  | none => rw [e] at h1; simp at h1
  | some x => rw [e] at h1; simp at h1
abbrev s00 : Str2 := ((0, 0, 0), none)
theorem ok00 : okS s00 := ⟨⟨Int.le_refl _, Int.le_refl _, Int.le_refl _⟩, fun u e => nomatch e⟩
theorem nf_same {ss1 ss2 ss1' ss2' : List Str2} (h1 : ss1'.Perm ss1) (h2 : ss2'.Perm ss2) (o1 : ∀ s ∈ ss1, okS s) (o2 : ∀ s ∈ ss2, okS s) (p1 : ss1'.Pairwise fun p q => ¬ ltV q.1 p.1) (p2 : ss2'.Pairwise fun p q => ¬ ltV q.1 p.1) (e : ∀ s, s ∈ ss1 ↔ s ∈ ss2) : ss1'.foldl nfAdd [] = ss2'.foldl nfAdd [] := by
  obtain ⟨a1, a2⟩ := nf_fold ss1' [] ⟨fun s h => (nomatch h), List.Pairwise.nil⟩ (fun t ht => (nomatch ht)) p1 fun s hs => o1 s (h1.mem_iff.mp hs)
  obtain ⟨b1, b2⟩ := nf_fold ss2' [] ⟨fun s h => (nomatch h), List.Pairwise.nil⟩ (fun t ht => (nomatch ht)) p2 fun s hs => o2 s (h2.mem_iff.mp hs)
  refine a1.unique b1 fun v _ => ?_
  rw [a2, b2, hasL_mem (fs := ss1') (gs := ss2') fun s => by rw [h1.mem_iff, h2.mem_iff]; exact e s]
theorem strs_rep {H : Hp} {x : V} {s : Str2} (h : IsStr K H x s) (n : Nat) : Strs K H (List.replicate n x) (List.replicate n s) := by
  refine ⟨by simp, fun i y t a b => ?_⟩
  obtain rfl := List.eq_of_mem_replicate (List.mem_of_getElem? a)
  obtain rfl := List.eq_of_mem_replicate (List.mem_of_getElem? b)
  exact h
theorem flat_rep (n : Nat) (x : V) : (List.replicate n [x]).flatten = List.replicate n x := by
  induction n with
  | zero => rfl
  | succ n ih => rw [List.replicate_succ, List.flatten_cons, ih, List.replicate_succ]; rfl
end
end Kw
set_option maxHeartbeats 1000000
namespace Kw
open PySem PySem.Spec PyProof.Rows L2 LamX
/-! ### a def promised where no repr is under way -/
structure FnOkG (P : Program) (w : World) (K : PySem.W.Frag) (mg : Str → Option Value) (base : Heap) (CX : CXT) (k : Nat) (f : Addr) (fd : FuncData) (ps : List Str) (sp : Sp) : Prop where
  len : ∀ vs H Q E, sp vs H Q E → vs.length = ps.length
  run : ∀ (A : Around) (outer : List Env) (s : Shared) (H : Hp) (args : Args) (us : List Value) (vs : List V) (Q : VK) (E : XK), A.guards = some [] → Room k A → Env0 P w K mg base A outer s H → BindsTo s fd args (ps.zip us) → Vals vs us → sp vs H Q E → codeAny (model P w) A (.call (.ref f) args) (CR CX outer P w H s Q E) s
section
variable {P : Program} {w : World} {K : PySem.W.Frag} {mg : Str → Option Value} {base : Heap}
theorem FunC.okG {x qual : Str} {st : Stmt} {f : Addr} {fd : FuncData} {cd : Addr} {N ps : List Str} {k : Nat} {sp : Sp} (F : FunC K x qual st f fd cd) (S : FnScope N ps (defScope st)) (len : ∀ vs H Q E, sp vs H Q E → vs.length = ps.length)
    (body : ∀ (A : Around) (outer : List Env) (s : Shared) (H : Hp) (vs : List V) (Q : VK) (E : XK), (A.deeper (envOfC qual (defScope st) s.heap.objs.size f (.ref cd))).guards = some [] → Room k (A.deeper (envOfC qual (defScope st) s.heap.objs.size f (.ref cd))) → sp vs H Q E →
      ∃ t, PSs (cxOf CX0 P w K mg base N qual (defScope st) f (.ref cd) A outer s H E).nox (defBody st) t ∧ t { nx := fun _ H' => Q .non H', rt := Q } (L2.start N vs) H) : FnOkG P w K mg base CX0 (k + 1) f fd ps sp := by
  obtain ⟨oc, od, kV, doc, pm, an, ct, osl, rfl, lk, hcd⟩ := F.ex
  refine ⟨len, fun A outer s H args us vs Q E hgd hr e0 hb r hsp => ?_⟩
  have old : ∀ b o, base.get? b = some o → s.heap.get? b = some o := fun b o q => (e0.bs b o q).1
  have kin := e0.mod.kin.keeps old
  have nl := e0.mod.nolimit.keeps old
  have lens := len vs H Q E hsp
  have kinds : ∀ y ∈ ps.zip us, (defScope st).names.lookup y.1 = some .local ∨ ((defScope st).names.lookup y.1 = some .cell ∧ ((cellsFrom (s.heap.objs.size + 1) (defScope st).names []).lookup y.1).isSome = true) := fun ⟨n, v⟩ hy =>
    (S.par n (List.of_mem_zip hy).1).elim (fun q => .inl q) fun q => .inr ⟨q, PySem.W.cellsFrom_some _ _ _ (.inl q)⟩
  refine codeAny_call_function hr.depth (kin _ _ lk) rfl S.co S.gen rfl (PySem.W.codeRec_of kin hcd) (hb _ _ _ _ (wpAny_newFunctionEnv_cells S.kind kinds fun env he s1 x => ?_))
  subst he
  obtain ⟨t, ht, hq⟩ := body A outer s H vs Q E hgd (hr.deeper _) hsp
  refine ⟨nl.keeps x.toInCall.keep, codeAny_func (wpAny_mono (ht.nox.run [] s1 (L2.start N vs) H _ (inv_start S hr.hd e0 lens r x) hq) (fun fl s' hs => ?_) fun e s' hs => hs)⟩
  cases fl with
  | ret u =>
    obtain ⟨v, σ', H', J, rv, q⟩ := hs
    exact ⟨v, H', J.os, J.bare, J.base, J.hok, rv, q⟩
  | next =>
    obtain ⟨σ', H', J, q⟩ := hs
    exact ⟨V.non, H', J.os, J.bare, J.base, J.hok, rfl, q⟩
  | brk => obtain ⟨_, _, _, q⟩ := hs; exact False.elim q
  | cont => obtain ⟨_, _, _, q⟩ := hs; exact False.elim q
end
/-- the text of [b1, b2] -/
def twoB (b1 b2 : Bool) : Str := (PyData.list [.bool b1, .bool b2]).shown
theorem cr_repr2 {X : Cx} {k : Nat} (hg : X.A.guards = some []) (hr : Room k X.A) : CallR X (.builtin "repr") (fun xs H Q => ∃ a b1 b2, xs = [.ref a] ∧ SqL X.K H a [.bl b1, .bl b2] ∧ Q (.str (twoB b1 b2)) H) := by
  intro pins s σ H xs us Q I r h
  obtain ⟨a, b1, b2, rfl, hl, q⟩ := h
  have hd : Dp X.K H (.ref a) (.list [.bool b1, .bool b2]) := .lst hl (.cons (.bl b1) (.cons (.bl b2) .nil))
  rw [Vals.ref1 r]
  obtain ⟨as, rd⟩ := Dp.reads I _ _ _ hd (show RelV (.ref a) (.ref a) from rfl)
  refine repr_of_reads' rd ?_ ?_ hg ?_ (fun b o z => z) (fun h' u tk kp => ⟨.str (twoB b1 b2), H, I.kept kp, ⟨u, rfl⟩, q⟩) ?_
  · cases b1 <;> cases b2 <;> decide +kernel
  · intro z
    have e : (PyData.list [.bool b1, .bool b2]).hasDict = false := by cases b1 <;> cases b2 <;> decide +kernel
    rw [e] at z
    cases z
  · have := hr.un
    have e : (PyData.list [.bool b1, .bool b2]).depth = 1 := by cases b1 <;> cases b2 <;> decide +kernel
    rw [e]
    omega
  · cases b1 <;> cases b2 <;> decide +kernel
end Kw
set_option maxHeartbeats 1000000
namespace Kw
open PySem PySem.Spec PyProof.Rows L2 LamX
/-! ### _law_caught(lambda: next_version(y)) -/
abbrev tCaughtN (K : PySem.W.Frag) (T : List (Addr × Str)) (CV CK : Addr) (i : Nat) : TE := tLam T (TTc K CK) fun E => tCall (spNextV K CV) [] E (tCons (tVar i) tNil)
/-- of what is no version: BadVersion was caught -/
theorem caughtN_read {K : PySem.W.Frag} {H : Hp} {σ : L2.St} {i : Nat} {CV CK : Addr} {T : List (Addr × Str)} {Q : VK} {x : V} (hsub : PySem.W.exmOne K (.ref CV) (.ref CK) = some true) (hi : σ[i]? = some (some x)) (hT : Tabs T H) (hx : VerB K H x false)
    (q : ∀ (H' : Hp) (y : V), ExtN H H' → Tabs T H' → IsExc H' y CV none → Q y H') : tCaughtN K T CV CK i σ H Q := by
  refine ⟨hT, fun H1 e1 T1 => ?_⟩
  show tCall (spNextV K CV) [] (fun cls d H' => PySem.W.exmOne K cls (.ref CK) = some true ∧ ∀ a, H' a = none → Q (.ref a) (upd H' a (exA cls d a))) (tCons (tVar i) tNil) σ H1 (fun _ H' => ∃ x, (some (some V.non) : Option (Option V)) = some (some x) ∧ Q x H')
  refine ⟨x, hi, x, rfl, .inr ⟨hx.ext e1, fun H' s1 => ⟨hsub, fun a ha => ?_⟩⟩⟩
  have s2 := same_upd (o := exA (.ref CV) none a) ha
  exact q _ (.ref a) ((e1.trans (ExtN.same s1)).trans (ExtN.same s2)) ((T1.ext s1).ext s2) ⟨a, none, rfl, upd_same, rfl⟩
section
variable {X : Cx} {CV CK : Addr} {T : List (Addr × Str)} {k i : Nat}
theorem pe_caughtN {c PT : Addr} {y : Str} {params : Arguments} {scope : Scope} {p p1 p2 p3 lpos pos : Pos} (C : CaughtD X.K X.mg CK) (D : DefX X.prog X.w X.K X.mg X.base "next_version" k ["version"] (spNextV X.K CV)) (TB : TabB X.base X.mg c PT) (hcode : X.env.code = .ref c) (hmT : (PT, X.env.qual ++ "<lambda>") ∈ T)
    (hu : ∀ p ∈ T, p.1 = PT → p.2 = X.env.qual ++ "<lambda>") (hr : Room (k + 2) X.A) (L : LamS X.env.scope scope) (hdef : defaultsOf params X.env = ([], []))
    (hbind : ∀ (q : Str) (cl : List (Str × Addr)) (pm cv ctv : Value), bindArgs (PySem.W.kla_fn "<lambda>" q params (.Call (.Name "next_version" p1) [.Name y p2] [] p3) scope cl pm cv ctv) ⟨[], []⟩ = pure []) (hN : X.N[i]? = some y) (hv : Vis scope y)
    (hgl : ∀ (A : Around) (outer : List Env) (s : Shared) (H : Hp) (E : XK) (f c' : Addr), Gl (lamCx X A outer s H E scope f c') "next_version") (hg : Gl X "_law_caught") (hd : (y == ("__debug__" : Str)) = false := by decide) (hcd : (y == ("__classdict__" : Str)) = false := by decide) :
    PE X (.Call (.Name "_law_caught" p) [.Lambda params (.Call (.Name "next_version" p1) [.Name y p2] [] p3) scope lpos] [] pos) (tCaughtN X.K T CV CK i) := by
  obtain ⟨g, fd, F, hm, hk, hb⟩ := C.ex
  obtain ⟨oc, od, kV, doc, pm, an, cdv, ct, osl, rfl, lk, hcg⟩ := F.ex
  obtain ⟨f1, fd1, F1, m1, k1, b1⟩ := D.ex
  refine pe_lamcall (T := T) (c := c) (P := PT) (k := k) (a := "_law_task") hg hm hk lk hcg hb scCaught rfl (.inl rfl) (caught_gives C.gE) TB hcode hmT hu hr L hdef hbind (fun A outer s H E f c' hr2 => ?_) (by decide) (by decide) (by decide)
  have hP : Passes (L2.CX X.prog X.w) (lamCx X A outer s H E scope f c') E := pass_lam (X := X) (A := A) (outer := outer) (s := s) (H := H) (E := E) (scope := scope) (f := f) (c' := c')
  exact pe_call (X := lamCx X A outer s H E scope f c') F1 hr2 (hgl A outer s H E f c') m1 k1 b1 .nil hP (pa_cons (pe_var (X := lamCx X A outer s H E scope f c') (i := i) hN hv hd hcd) pa_nil) (by decide) rfl rfl
end
end Kw
set_option maxHeartbeats 1000000
namespace Kw
open PySem PySem.Spec PyProof.Rows L2 LamX
/-! ### f(nm=e) -/
theorem pe_callKw1 {X : Cx} {CX : CXT} {k : Nat} {f : Addr} {fd : FuncData} {sp : Sp} {E : XK} {x nm : Str} {e : Expr} {te : TE} {p pos kpos : Pos} (F : FnOk X.prog X.w X.K X.mg X.base CX k f fd [nm] sp) (hr : Room k X.A) (hm : X.mg x = some (.ref f)) (hk : PySem.W.keepIn X.K (.ref f) = true)
    (hb : ∀ (s : Shared) (u : Value), X.K.In s.heap → BindsTo s fd ⟨[], [(nm, u)]⟩ [(nm, u)]) (hx : Passes CX X E) (he : PE X e te) (hg : Gl X x := by rfl) (hdb : (x == ("__debug__" : Str)) = false := by decide) :
    PE X (.Call (.Name x p) [] [⟨some nm, e, kpos⟩] pos) (tCall sp [] E (tCons te tNil)) := by
  refine ⟨fun pins s σ H Q I h => ?_⟩
  refine wpAny_Call_Name_kw (ld_glob I hg hm (PySem.W.callWith_KW0 (h₀ := X.base) I.ok.mod.kin hk (by rfl) (thn ((pk_cons (nm := some nm) (kpos := kpos) he pk_nil).run pos pins s σ H (fun vs H1 => sp (vs ++ []) H1 Q E) I h) fun ws s2 ⟨zs, H2, I2, rz, q⟩ => ⟨I2.kIn, ?_⟩) (by rfl)) hdb)
  have q : sp (zs ++ []) H2 Q E := q
  rw [List.append_nil] at q
  have hl := F.len _ _ _ _ q
  obtain ⟨v, rfl⟩ : ∃ v, zs = [v] := List.length_eq_one_iff.mp hl
  obtain ⟨u, rfl, rv⟩ := vals1 rz
  show wpAny _ _ (call (.ref f) [] [(nm, u)]) _ _ _
  refine wpAny_call (codeAny_mono (F.run X.A X.stack s2 H2 ⟨[], [(nm, u)]⟩ [u] [v] Q E hr I2.env0 (hb s2 u I2.kIn) (.cons rv .nil) q) fun r s' hq => ?_)
  cases r with
  | error er => exact hx pins σ H2 s2 er s' I2 hq
  | ok fl =>
    cases fl with
    | ret w => exact I2.after hq
    | next => exact False.elim hq
    | brk => exact False.elim hq
    | cont => exact False.elim hq
end Kw
set_option maxHeartbeats 1000000
namespace Kw
open PySem PySem.Spec PyProof.Rows L2 LamX
/-! ### Range(stretches=e) -/
structure RangeMkK (P : Program) (w : World) (K : PySem.W.Frag) (mg : Str → Option Value) (base : Heap) (CR CE : Addr) (T : List (Addr × Str)) (k : Nat) : Prop where
  ex : ∃ f fd, FnOk P w K mg base (L2.CX P w) k f fd ["self", "stretches"] (spInit K T CR CE) ∧ Mk K CR f ∧ KBn K fd ["self", "stretches"] 1 ["stretches"] (fun us ws => us ++ ws) (fun vs zs => vs ++ zs)
  gR : mg "Range" = some (.ref CR)
theorem pe_rngK {X : Cx} {CR CE : Addr} {T : List (Addr × Str)} {k : Nat} {p pos kpos : Pos} {e : Expr} {te : TE} {E : XK} (M : RangeMkK X.prog X.w X.K X.mg X.base CR CE T k) (hr : Room (k + 1) X.A) (hx : Passes (L2.CX X.prog X.w) X E) (he : PE X e te) (hg : Gl X "Range" := by rfl) :
    PE X (.Call (.Name "Range" p) [] [⟨some "stretches", e, kpos⟩] pos) (tMakeK CR 0 1 (spInit X.K T CR CE) (fun vs zs => vs ++ zs) E tNil (tCons te tNil)) := by
  obtain ⟨f, fd, F, Mk, hb⟩ := M.ex
  exact pe_makeK0 Mk F hr hg M.gR hb hx (pk_cons he pk_nil) (by rfl) (by rfl) (by decide) (by rfl)
/-- its reading, of stretches that stand in a local -/
theorem rngK_good {K : PySem.W.Frag} {H : Hp} {σ : L2.St} {i : Nat} {CR CE l : Addr} {T : List (Addr × Str)} {E : XK} {Q : VK} {xs : List V} {ss : List Str2} (hi : σ[i]? = some (some (.ref l))) (hT : Tabs T H) (hS : SqLT K H l xs) (hl : xs.length ≤ 40) (h : Strs K H xs ss) (ok : ∀ s ∈ ss, okS s)
    (q : ∀ (H' : Hp) (x : Addr) (ss' : List Str2), ExtN H H' → Tabs T H' → IsR K CR H' (.ref x) (ss'.foldl nfAdd []) → ss'.Perm ss → ss'.Pairwise (fun p q => ¬ ltV q.1 p.1) → H x = none → Q (.ref x) H') :
    tMakeK CR 0 1 (spInit K T CR CE) (fun vs zs => vs ++ zs) E tNil (tCons (tVar i) tNil) σ H Q := by
  refine ⟨_, hi, rfl, rfl, fun x dx na nd ne => ?_⟩
  exact rngA (R := fun H2 => Q (.ref x) H2) hT hS hl h ok na nd fun H' ss' e T' hR pm pw => q H' x ss' e T' hR pm pw na
end Kw
set_option maxHeartbeats 1000000
namespace Kw
open PySem PySem.Spec PyProof.Rows L2 LamX
/-! ### r.stretches, y in r -/
structure RangeGet (P : Program) (w : World) (K : PySem.W.Frag) (mg : Str → Option Value) (base : Heap) (CR : Addr) (k : Nat) : Prop where
  ex : ∃ pp g fd, PropOf K CR "stretches" pp g ∧ FnOk P w K mg base CX0 k g fd ["self"] (spGetR K CR) ∧ Binds K fd ["self"] []
  cls : Cls K CR
structure RangeHas (P : Program) (w : World) (K : PySem.W.Frag) (mg : Str → Option Value) (base : Heap) (CR : Addr) (k : Nat) : Prop where
  ex : ∃ f fd, FnOk P w K mg base CX0 k f fd ["self", "x"] (spHasR K CR) ∧ PySem.W.findIn K (.ref CR) "__contains__" = some (some (.ref f)) ∧ PySem.W.isFn K (.ref f) = true ∧ Binds K fd ["self", "x"] []
section
variable {X : Cx} {CR : Addr} {k : Nat}
theorem pe_stretches {e : Expr} {te : TE} {pos : Pos} (G : RangeGet X.prog X.w X.K X.mg X.base CR k) (hr : Room (k + 1) X.A) (he : PE X e te) (hab : attributeBase e "stretches" X.env (eval e X.env) = eval e X.env := by rfl) : PE X (.Attribute e "stretches" pos) (tProp CR (spGetR X.K CR) [] E0 te) := by
  obtain ⟨pp, g, fd, hp, F, hb⟩ := G.ex
  exact pe_prop he G.cls hp F hr hb .nil pass0 hab
theorem op_inR (G : RangeHas X.prog X.w X.K X.mg X.base CR k) (hr : Room k X.A) : OpR X (compareOp .In) (rOwnIn CR (spHasR X.K CR) E0) := by
  obtain ⟨f, fd, F, h1, h2, hb⟩ := G.ex
  exact op_inO F hr h1 h2 hb pass0
end
section
variable {K : PySem.W.Frag} {H : Hp} {σ : L2.St} {i : Nat} {CR : Addr} {Q : VK} {x y : V} {nf : List Str2}
theorem get_read (hi : σ[i]? = some (some x)) (h : IsR K CR H x nf) (q : ∀ t zs, SqT K H t zs → Strs K H zs nf → Q (.ref t) H) : tProp CR (spGetR K CR) [] E0 (tVar i) σ H Q := by
  obtain ⟨a, dx, t, zs, rfl, h1, h2, h3⟩ := id h
  exact ⟨_, hi, a, dx, _, rfl, h1, _, nf, rfl, h, q⟩
theorem in_readR {v : Ver} (h : IsR K CR H x nf) (hn : nf.length ≤ 100) (hv : IsVer K H y v) (ov : okV v) (q : ∀ H', Same H H' → Q (.bl (hasL nf v)) H') : rOwnIn CR (spHasR K CR) E0 y x H Q := by
  obtain ⟨a, dx, t, zs, rfl, h1, _⟩ := id h
  exact ⟨a, dx, _, rfl, h1, _, y, nf, rfl, h, hn, .inl ⟨v, hv, ov, fun H' s => ⟨_, rfl, q H' s⟩⟩⟩
theorem in_readN (h : IsR K CR H x nf) (hn : nf.length ≤ 100) (hv : VerB K H y false) (q : ∀ H', Same H H' → Q (.bl false) H') : rOwnIn CR (spHasR K CR) E0 y x H Q := by
  obtain ⟨a, dx, t, zs, rfl, h1, _⟩ := id h
  exact ⟨a, dx, _, rfl, h1, _, y, nf, rfl, h, hn, .inr ⟨hv, fun H' s => ⟨_, rfl, q H' s⟩⟩⟩
end
end Kw
set_option maxHeartbeats 1000000
namespace Kw
open PySem PySem.Spec PyProof.Rows L2 LamX
/-! ### what the law itself asks -/
/-- a def of one parameter that is called by its name -/
structure DefN (P : Program) (w : World) (K : PySem.W.Frag) (mg : Str → Option Value) (base : Heap) (x : Str) (CX : CXT) (k : Nat) (nm : Str) (sp : Sp) : Prop where
  ex : ∃ f fd, FnOk P w K mg base CX k f fd [nm] sp ∧ mg x = some (.ref f) ∧ PySem.W.keepIn K (.ref f) = true ∧ ∀ (s : Shared) (u : Value), K.In s.heap → BindsTo s fd ⟨[], [(nm, u)]⟩ [(nm, u)]
theorem pe_dN {X : Cx} {CX : CXT} {k : Nat} {x nm : Str} {sp : Sp} {E : XK} {e : Expr} {te : TE} {p pos kpos : Pos} (D : DefN X.prog X.w X.K X.mg X.base x CX k nm sp) (hr : Room k X.A) (hx : Passes CX X E) (he : PE X e te) (hg : Gl X x := by rfl) (hdb : (x == ("__debug__" : Str)) = false := by decide) :
    PE X (.Call (.Name x p) [] [⟨some nm, e, kpos⟩] pos) (tCall sp [] E (tCons te tNil)) := by
  obtain ⟨f, fd, F, hm, hk, hb⟩ := D.ex
  exact pe_callKw1 F hr hm hk hb hx he hg hdb
section
variable {K : PySem.W.Frag} {H H' : Hp} {d w c : Addr} {B : Int} {CR : Addr}
theorem FrX.sqT {a : Addr} {xs : List V} (F : FrX d w H H') (S : StAt H d w c B) (h : SqT K H a xs) : SqT K H' a xs := by
  obtain ⟨kvs, hd⟩ := S.hd
  obtain ⟨ys, hw⟩ := S.hw
  rcases h with (h | ⟨o, h⟩) | h
  · exact .inl (.inl (F _ _ (ne_of h hd fun z => nomatch z) (ne_of h hw fun z => nomatch z) h fun ps z => nomatch z))
  · exact .inl (.inr ⟨o, F _ _ (ne_of h hd fun z => nomatch z) (ne_of h hw fun z => nomatch z) h fun ps z => nomatch z⟩)
  · exact .inr h
theorem FrX.lst {a : Addr} {xs : List V} (F : FrX d w H H') (S : StAt H d w c B) (h : H a = some (.lst xs)) (n : a ≠ w) : H' a = some (.lst xs) := by
  obtain ⟨kvs, hd⟩ := S.hd
  exact F _ _ (ne_of h hd fun z => nomatch z) n h fun ps z => nomatch z
/-- what keeps tuples keeps stretches -/
theorem strs_keep {zs : List V} {ss : List Str2} (k : ∀ a xs, SqT K H a xs → SqT K H' a xs) (h : Strs K H zs ss) : Strs K H' zs ss := by
  refine ⟨h.len, fun i x s p q => ?_⟩
  obtain ⟨a, l, u, rfl, t, tl, tu⟩ := h.at_ i x s p q
  have kv : ∀ {y : V} {v : Ver}, IsVer K H y v → IsVer K H' y v := fun {y v} ⟨b, e, r⟩ => ⟨b, e, k _ _ r⟩
  refine ⟨a, l, u, rfl, k _ _ t, kv tl, ?_⟩
  cases es : s.2 with
  | none => rw [es] at tu; exact tu
  | some z => rw [es] at tu; exact kv tu
theorem IsR.frX {x : V} {nf : List Str2} (h : IsR K CR H x nf) (S : StAt H d w c B) (F : FrX d w H H') : IsR K CR H' x nf := by
  obtain ⟨a, dx, t, zs, rfl, h1, h2, h3⟩ := h
  obtain ⟨kvs, hd⟩ := S.hd
  obtain ⟨ys, hw⟩ := S.hw
  exact ⟨a, dx, t, zs, rfl, F _ _ (ne_of h1 hd fun z => nomatch z) (ne_of h1 hw fun z => nomatch z) h1 (fun ps z => nomatch z), F.sqT S h2, strs_keep (fun a xs => F.sqT S) h3⟩
theorem IsR.fr1 {l : Addr} {ys : List V} {x : V} {nf : List Str2} (h : IsR K CR H x nf) (F : Fr1 l H H') (hl : H l = some (.lst ys)) : IsR K CR H' x nf := by
  obtain ⟨a, dx, t, zs, rfl, h1, h2, h3⟩ := h
  exact ⟨a, dx, t, zs, rfl, F _ _ (ne_of h1 hl fun z => nomatch z) h1, F.sqT hl h2, F.strs hl h3⟩
theorem IsR.same {x : V} {nf : List Str2} (h : IsR K CR H x nf) (s : Same H H') : IsR K CR H' x nf := h.ext (ExtN.same s)
theorem StAt.fr1 {l : Addr} (S : StAt H d w c B) (F : Fr1 l H H') (n1 : d ≠ l) (n2 : w ≠ l) (n3 : c ≠ l) : StAt H' d w c B := by
  obtain ⟨ws, cs, r, t, hd, hw, hc, rest⟩ := S.ex
  exact ⟨ws, cs, r, t, F _ _ n1 hd, F _ _ n2 hw, F _ _ n3 hc, rest⟩
theorem OddV.same {x : V} (h : OddV K H x) (s : Same H H') : OddV K H' x := h.ext (ExtN.same s)
theorem VerB.same {x : V} {b : Bool} (h : VerB K H x b) (s : Same H H') : VerB K H' x b := h.ext (ExtN.same s)
theorem shaped_ver (v : Ver) : SeqAt.shaped (verD v) = true := by
  have h := cl_ver v
  simp only [SeqAt.shaped, h.1, Bool.true_and]
  exact decide_eq_true (by rw [h.2]; decide)
theorem eqv_ver (v : Ver) : PyData.eqv (verD v) (verD v) = true := PySem.SeqAt.eqv_refl _ (cl_ver v).1
end
/-- lists of two bools that are equal read alike -/
theorem two_ne (b : Bool) : (!decide (V.str (twoB b b) = V.str (twoB b b))) = false := by simp
end Kw
set_option maxHeartbeats 4000000
namespace Kw
open PySem PySem.Spec PyProof.Rows L2
open PySem.W (dataLt alike alikeAll AlikeAll minD cmpIn_lt iter_tupleW moved_old readsAll_len readsAll_atA argBest_fold reads_keeps)
/-! ### min of two versions -/
def minV (v u : Ver) : Ver := if ltV u v then u else v
section
variable {prog : Program} {w : World} {A : Around} {E : Value → Shared → Prop} {s : Shared}
theorem min2_data {a b : Value} {x y : PyData} {as : List Addr} {Q : Value → Shared → Prop} (hh : A.handled = none) (hr : ReadsAll s.heap [a, b] [x, y] as) (ha : AlikeAll [x, y]) (hu : A.units + 1 + PyData.depthAll [x, y] < cLine)
    (q : ∀ v h' tk bs, (v = a ∨ v = b) → Reads h' v (minD x [y]) bs → (∀ b o, s.heap.get? b = some o → h'.get? b = some o) → Q v { s with heap := h', toks := tk }) : wpAny (model prog w) A (call (.builtin "min") [a, b]) Q E s := by
  have hname : (toString "min" ++ toString ".loop" : String) = "min.loop" := by decide
  refine call_function_tree F.kind_min F.plain_min F.entry_min (F.args_min2 _ _) ?_
  show wpAny _ A.in1 (Builtin.Builtins.bindParams "min" ["key", "default"] 0 ⟨[], []⟩ >>= _) _ _ s
  refine wpAny_bind (wpAny_of_eq (show Builtin.Builtins.bindParams "min" ["key", "default"] 0 ⟨[], []⟩ = pure [none, none] from rfl) ?_)
  show wpAny _ A.in1 (newTuple [a, b] >>= _) _ _ s
  refine wpAny_bind (wpAny_newObj_type ?_)
  have k1 : ∀ c o, s.heap.get? c = some o → (s.heap.push { cls := .type "tuple", data := .seq #[a, b] }).get? c = some o := fun c o e => Heap.get?_push_of_some _ e
  have hT : (s.heap.push { cls := .type "tuple", data := .seq #[a, b] }).IsTuple s.heap.objs.size #[a, b] := ⟨_, Heap.get?_push_size _ rfl, rfl, 0, rfl⟩
  have hr1 : ReadsAll (s.heap.push { cls := .type "tuple", data := .seq #[a, b] }) (#[a, b] : Array Value).toList [x, y] as := ReadsAll.keeps k1 hr
  refine wpAny_bind (iter_tupleW (A := A.in1) (s := { s with heap := s.heap.push { cls := .type "tuple", data := .seq #[a, b] } }) hh hT fun s₂ e W st hfp hw hk => ?_)
  refine wpAny_bind (wpAny_newObj_type ?_)
  have hSf : s₂.heap.objs.size ∉ [(s.heap.push { cls := .type "tuple", data := .seq #[a, b] }).objs.size, s.heap.objs.size] := fun hm => Nat.lt_irrefl _ (hfp _ hm)
  rw [hname]
  refine wpAny_pure ⟨plainId_quiet F.plain_min_loop _, codeAny_min_loop_firstH W (s.heap.push { cls := .type "tuple", data := .seq #[a, b] }) hw _ (cmpIn_lt (A := A.in1) (s := { s with heap := s.heap.push { cls := .type "tuple", data := .seq #[a, b] } }) hr1 ha (by show A.units + 1 + _ < _; exact hu)) s₂.heap.objs.size hSf (fresh_in hk) _ (by simp) (fun b o e => Heap.get?_push_of_some _ (hk b o e)) (W.frame 0 s₂ _ s₂.toks st (Nat.le_refl _) fun b _ o e => Heap.get?_push_of_some _ e) (Heap.get?_push_size _ rfl) fun v s' hP hm => ?_⟩
  obtain ⟨h', tk, rfl, hk'⟩ := moved_old e rfl (Moved.drop_new (tk := s₂.toks) hm (Nat.le_refl _))
  obtain ⟨bs, r, _, _, _⟩ := readsAll_atA hr1 _ v hP
  have e2 := (argBest_fold (fun a b => dataLt a b) PyData.none x [y] 1 (Nat.le_refl _)).2
  have e3 : List.take 1 [y] = [y] := rfl
  rw [e3] at e2
  refine q v h' tk bs ?_ (reads_keeps hk' (by unfold minD; rw [← e2]; exact r)) fun c o z => hk' _ _ (k1 _ _ z)
  have hm := Array.mem_of_getElem? hP
  simpa using hm
end
section
variable {X : Cx}
theorem cr_min2V {k : Nat} (hc : X.calm = true) (hr : Room k X.A) : CallR X (.builtin "min") (fun vs H Q => ∃ x y v u, vs = [x, y] ∧ IsVer X.K H x v ∧ IsVer X.K H y u ∧ ∀ z, IsVer X.K H z (minV v u) → Q z H) := by
  intro pins s σ H vs us Q I r h
  obtain ⟨x, y, v, u, rfl, hx, hy, q⟩ := h
  cases r with
  | cons r1 r =>
    cases r with
    | cons r2 r =>
      cases r
      rename_i vx vy
      obtain ⟨d1, ax, rfl, rfl⟩ := ver_reads I hx r1
      obtain ⟨d2, ay, rfl, rfl⟩ := ver_reads I hy r2
      have hm : minD (keyD v) [keyD u] = keyD (minV v u) := by
        show (if dataLt (keyD u) (keyD v) = true then keyD u else keyD v) = _
        rw [keyLt]
        unfold minV
        by_cases e : ltV u v <;> simp [e]
      refine min2_data (I.ok.hd hc) (.cons d1 (.cons d2 .nil)) ⟨?_, ?_⟩ ?_ fun z h' tk bs hz hrd kp => ?_
      · intro x hx y hy
        simp at hx hy
        rcases hx with rfl | rfl <;> rcases hy with rfl | rfl <;> simp [keyD, alike, alikeAll]
      · intro x hx
        simp at hx
        rcases hx with rfl | rfl <;> simp [keyD]
      · have := hr.un
        have e : PyData.depthAll [keyD v, keyD u] = 1 := by simp [keyD, PyData.depth, PyData.depthAll]
        rw [e]
        omega
      · rw [hm] at hrd
        rcases hz with rfl | rfl
        · have e1 := ((Reads.keeps kp d1).unique _ _ hrd).1
          exact ⟨.ref ax, H, I.kept kp, rfl, q _ (by rw [← keyD_inj e1]; exact hx)⟩
        · have e1 := ((Reads.keeps kp d2).unique _ _ hrd).1
          exact ⟨.ref ay, H, I.kept kp, rfl, q _ (by rw [← keyD_inj e1]; exact hy)⟩
end
/-! ### the earlier one of two ends -/
abbrev sEarlyE : Stmt := top 10
section
variable {P : Program} {w : World} {K : PySem.W.Frag} {mg : Str → Option Value} {base : Heap}
def spEarlyE (K : PySem.W.Frag) : Sp := fun vs H Q _ => ∃ (x y : V) (a b : Option Ver), vs = [x, y] ∧ IsEnd K H x a ∧ IsEnd K H y b ∧ ∀ z, IsEnd K H z (earlyE a b) → Q z H
theorem scEarlyE : FnScope ["one", "other"] ["one", "other"] (defScope sEarlyE) := ⟨rfl, rfl, rfl, by decide +kernel, rfl, by decide +kernel, by decide +kernel⟩
theorem ok_earlyE {f : Addr} {fd : FuncData} {k : Nat} (F : Fun K "earlier_end" "earlier_end" sEarlyE f fd) (mm : mg "min" = none) : FnOk P w K mg base CX0 (k + 1) f fd ["one", "other"] (spEarlyE K) := by
  refine F.ok scEarlyE (fun vs H Q E h => ?_) (fun cdv A outer s H vs Q E hr h => ?_)
  · obtain ⟨x, y, a, b, rfl, _⟩ := h
    rfl
  · obtain ⟨x, y, a, b, rfl, hx, hy, q⟩ := h
    refine ⟨_, pss_cons (ps_if (pt_cmpR op_isN (pv 0) pe_non (nomark _)) (pss_one (ps_ret (pv 1))) pss_nil)
      (pss_cons (ps_if (pt_cmpR op_isN (pv 1) pe_non (nomark _)) (pss_one (ps_ret (pv 0))) pss_nil)
      (pss_one (ps_ret (pe_callB (cr_min2V rfl hr) (by rfl) mm (by decide +kernel) (pa_cons (pv 0) (pa_cons (pv 1) pa_nil)))))), ?_⟩
    refine ⟨x, rfl, rfl, _, rfl, ?_⟩
    rw [isEnd_non hx]
    cases a with
    | none => exact iteT ⟨y, rfl, q y (by cases b <;> exact hy)⟩
    | some v =>
      refine iteF ⟨y, rfl, rfl, _, rfl, ?_⟩
      rw [isEnd_non hy]
      cases b with
      | none => exact iteT ⟨x, rfl, q x hx⟩
      | some u => exact iteF ⟨_, rfl, _, rfl, x, y, v, u, rfl, hx, hy, fun z hz => q z hz⟩
end
end Kw
set_option maxHeartbeats 4000000
namespace Kw
open PySem PySem.Spec PyProof.Rows L2
/-! ### ends as data -/
def verD' (v : Ver) : PyData := .tuple ((vl v).map PyData.int)
def endD' : Option Ver → PyData
  | none => .none
  | some u => verD' u
theorem eqv_verD (v u : Ver) : PyData.eqv (verD' v) (verD' u) = decide (v = u) := by
  obtain ⟨a, b, c⟩ := v
  obtain ⟨d, e, f⟩ := u
  rw [Bool.eq_iff_iff]
  simp [verD', PyData.eqv, PyData.eqvAll]
theorem eqv_end (x y : Option Ver) : PyData.eqv (endD' x) (endD' y) = decide (x = y) := by
  cases x with
  | none =>
    cases y with
    | none => simp [endD', PyData.eqv]
    | some u => simp [endD', verD', PyData.eqv]
  | some v =>
    cases y with
    | none => simp [endD', verD', PyData.eqv]
    | some u => simp only [endD', eqv_verD, Option.some.injEq]
theorem dp_end' {K : PySem.W.Frag} {H : Hp} {x : V} {e : Option Ver} (h : IsEnd K H x e) : Dp K H x (endD' e) := by
  cases e with
  | none =>
    obtain rfl : x = .non := h
    exact .non
  | some u =>
    obtain ⟨a, rfl, t⟩ := h
    exact .tup t (dp_ints _)
theorem shaped_end (e : Option Ver) : SeqAt.shaped (endD' e) = true := by
  cases e with
  | none => simp [SeqAt.shaped, endD', PyData.canLay0, PyData.depth]
  | some v => simp [SeqAt.shaped, endD', verD', PyData.canLay0, PyData.canLayAll0, PyData.depth, PyData.depthAll]
/-! ### common versions -/
abbrev sCom : Stmt := top 12
abbrev sBut : Stmt := top 13
section
variable {P : Program} {w : World} {K : PySem.W.Frag} {mg : Str → Option Value} {base : Heap}
def spCom (K : PySem.W.Frag) : Sp := fun vs H Q _ => ∃ (a b : Addr) (xs ys : List V) (as bs : List Str2), vs = [.ref a, .ref b] ∧ SqT K H a xs ∧ SqT K H b ys ∧ Strs K H xs as ∧ Strs K H ys bs ∧ as.length ≤ 200 ∧ bs.length ≤ 200 ∧
  ∀ H' D zs, Same H H' → H D = none → H' D = some (.tup zs) → Strs K H' zs (comV as bs) → Q (.ref D) H'
abbrev nCom : List Str := ["ones", "others", "found", "i", "j", "low", "high"]
theorem scCom : FnScope nCom ["ones", "others"] (defScope sCom) := ⟨rfl, rfl, rfl, by decide +kernel, rfl, by decide +kernel, by decide +kernel⟩
theorem drop_at {α : Type} {l : List α} {i : Nat} {x : α} (h : l[i]? = some x) : l.drop i = x :: l.drop (i + 1) := by
  obtain ⟨hi, e⟩ := List.getElem?_eq_some_iff.mp h
  rw [List.drop_eq_getElem_cons hi, e]
/-- the state of the loop: n steps were gone -/
def comInv (K : PySem.W.Frag) (H : Hp) (a b l : Addr) (as bs : List Str2) (n : Nat) : L2.St → Hp → Prop := fun σ H' => ∃ (i j : Nat) (zs : List V) (fs : List Str2) (y5 y6 : Option V), σ = [some (.ref a), some (.ref b), some (.ref l), some (.int i), some (.int j), y5, y6] ∧ i + j = n ∧ i ≤ as.length ∧ j ≤ bs.length ∧ Same H H' ∧ H' l = some (.lst zs) ∧ Strs K H' zs fs ∧ fs ++ comV (as.drop i) (bs.drop j) = comV as bs ∧ fs.length ≤ i + j
theorem ok_com {f : Addr} {fd : FuncData} {k : Nat} (F : Fun K "common" "common" sCom f fd) (ml : mg "len" = none) (mm : mg "max" = none) (mt : mg "tuple" = none) (DE : Def P w K mg base "earlier_end" CX0 k ["one", "other"] (spEarlyE K)) : FnOk P w K mg base CX0 (k + 1) f fd ["ones", "others"] (spCom K) := by
  refine F.ok scCom (fun vs H Q E h => ?_) (fun cdv A outer s H vs Q E hr h => ?_)
  · obtain ⟨a, b, xs, ys, as, bs, rfl, _⟩ := h
    rfl
  · obtain ⟨a, b, xs, ys, as, bs, rfl, ha, hb, hxs, hys, la, lb, q⟩ := h
    refine ⟨_, pss_cons (ps_set (i := 2) scCom.nd rfl (.inl rfl) (pe_lst pa_nil))
    (pss_cons (ps_asg2 pe_int (pg_name (i := 3) scCom.nd rfl (.inl rfl)) (pg_name (i := 4) scCom.nd rfl (.inl rfl)))
    (pss_cons (ps_while PassesOwn.never (PW.pt (pw_and (pt_cmpR op_lt (pv 3) (pe_callB call_len_seq (by rfl) ml PySem.boot_len (pa_cons (pv 0) pa_nil)) (nomark _)) (pw_and1 (pt_cmpR op_lt (pv 4) (pe_callB call_len_seq (by rfl) ml PySem.boot_len (pa_cons (pv 1) pa_nil)) (nomark _)))))
      (pss_cons (ps_set (i := 5) scCom.nd rfl (.inl rfl) (pe_callB (cr_max2V rfl hr) (by rfl) mm boot_max (pa_cons (pe_ix ix_tup (pe_ix ix_tup (pv 0) (pv 3) (fun _ _ => rfl)) pe_int (fun _ _ => rfl)) (pa_cons (pe_ix ix_tup (pe_ix ix_tup (pv 1) (pv 4) (fun _ _ => rfl)) pe_int (fun _ _ => rfl)) pa_nil))))
      (pss_cons (ps_set (i := 6) scCom.nd rfl (.inl rfl) (pe_d DE hr (pa_cons (pe_ix ix_tup (pe_ix ix_tup (pv 0) (pv 3) (fun _ _ => rfl)) pe_int (fun _ _ => rfl)) (pa_cons (pe_ix ix_tup (pe_ix ix_tup (pv 1) (pv 4) (fun _ _ => rfl)) pe_int (fun _ _ => rfl)) pa_nil))))
      (pss_cons (ps_if (PW.pt (pw_or (pt_cmpR op_isN (pv 6) pe_non (nomark _)) (pw_or1 (pt_cmpR (op_ver (.inl rfl) (Nat.lt_of_le_of_lt (Nat.le_add_right _ _) hr.units)) (pv 5) (pv 6) (nomark _))))) (pss_one (ps_expr (pe_bm PySem.F.plainAttrs_list PySem.F.slot_list_append PySem.F.type_list_append mt_append (pv 2) (pa_cons (pe_tup (pa_cons (pv 5) (pa_cons (pv 6) pa_nil))) pa_nil)))) pss_nil)
      (pss_one (ps_if (pt_cmpR (op_eqD hr.units) (pv 6) (pe_ix ix_tup (pe_ix ix_tup (pv 0) (pv 3) (fun _ _ => rfl)) pe_int (fun _ _ => rfl)) (nomark _)) (pss_one (ps_aug (i := 3) scCom.nd rfl (.inl rfl) pe_int ip_add)) (pss_one (ps_aug (i := 4) scCom.nd rfl (.inl rfl) pe_int ip_add))))))))
    (pss_one (ps_ret (pe_callTy call_tuple_of (by rfl) mt (by decide +kernel) (pa_cons (pv 2) pa_nil)))))), ?_⟩
    refine ⟨Nat.zero_le _, fun l hl => ?_⟩
    have s0 := same_upd (o := .lst []) hl
    have lxs := hxs.len
    have lys := hys.len
    refine ⟨fun (m : Nat) (σ : L2.St) (H' : Hp) => ∃ n, m = as.length + bs.length - n ∧ comInv K H a b l as bs n σ H', ⟨_, 0, rfl, 0, 0, [], [], none, none, rfl, rfl, Nat.zero_le _, Nat.zero_le _, s0, upd_same, ⟨rfl, fun i x s h => by simp at h⟩, rfl, Nat.le_refl _⟩, ?_⟩
    rintro m σ H1 ⟨n, rfl, i, j, zs, fs, y5, y6, rfl, en, hi, hj, s1, hl1, hzs, hcom, lfs⟩
    have done : (as.drop i = [] ∨ bs.drop j = []) → ∀ D, H1 D = none → Q (.ref D) (upd H1 D (.tup zs)) := fun e D hD => by
      have hc : comV (as.drop i) (bs.drop j) = [] := by
        rcases e with e | e
        · rw [e, comV_nil]
        · rw [e, comV_nil2]
      rw [hc, List.append_nil] at hcom
      have t := same_upd (o := .tup zs) hD
      exact q _ D zs (s1.trans t) (s1.free hD) upd_same (by rw [← hcom]; exact hzs.same t)
    refine ⟨_, rfl, _, rfl, a, xs, rfl, .inr (Same.sqT s1 ha), _, _, rfl, rfl, _, rfl, ?_⟩
    by_cases ci : i < as.length
    · rw [show decide ((i : Int) < (xs.length : Int)) = true from decide_eq_true (by omega)]
      refine iteT ⟨_, rfl, _, rfl, b, ys, rfl, .inr (Same.sqT s1 hb), _, _, rfl, rfl, _, rfl, ?_⟩
      by_cases cj : j < bs.length
      · rw [show decide ((j : Int) < (ys.length : Int)) = true from decide_eq_true (by omega)]
        have gx : xs[i]? = some xs[i] := List.getElem?_eq_getElem (by omega)
        have gy : ys[j]? = some ys[j] := List.getElem?_eq_getElem (by omega)
        obtain ⟨sa, hsa, isa⟩ := (hxs.same s1).get gx
        obtain ⟨sb, hsb, isb⟩ := (hys.same s1).get gy
        obtain ⟨pa, xl, xh, ea, ta, va, na⟩ := id isa
        obtain ⟨pb, yl, yh, eb, tb, vb, nb⟩ := id isb
        rw [ea] at gx
        rw [eb] at gy
        have step := comV_cons sa (as.drop (i + 1)) sb (bs.drop (j + 1))
        rw [← drop_at hsa, ← drop_at hsb] at step
        rw [step] at hcom
        refine iteT ⟨comInv K H a b l as bs (n + 1), fun σ' H' hN => ⟨_, by omega, n + 1, rfl, hN⟩, ?_⟩
        refine ⟨_, rfl, _, rfl, a, xs, i, .ref pa, rfl, rfl, Same.sqT s1 ha, atI_nat gx, pa, _, 0, xl, rfl, rfl, ta, atI_nat (j := 0) rfl, ?_⟩
        refine ⟨_, rfl, _, rfl, b, ys, j, .ref pb, rfl, rfl, Same.sqT s1 hb, atI_nat gy, pb, _, 0, yl, rfl, rfl, tb, atI_nat (j := 0) rfl, ?_⟩
        refine ⟨xl, yl, sa.1, sb.1, rfl, va, vb, fun zl hzl => ?_⟩
        refine ⟨_, rfl, _, rfl, a, xs, i, .ref pa, rfl, rfl, Same.sqT s1 ha, atI_nat gx, pa, _, 1, xh, rfl, rfl, ta, atI_nat (j := 1) rfl, ?_⟩
        refine ⟨_, rfl, _, rfl, b, ys, j, .ref pb, rfl, rfl, Same.sqT s1 hb, atI_nat gy, pb, _, 1, yh, rfl, rfl, tb, atI_nat (j := 1) rfl, ?_⟩
        refine ⟨xh, yh, sa.2, sb.2, rfl, na, nb, fun zh hzh => ?_⟩
        have laz : zs.length ≤ 1000 := by rw [hzs.len]; omega
        replace hzl : IsVer K H1 zl (maxV sa.1 sb.1) := hzl
        -- what follows the first if
        have rest : ∀ (H2 : Hp) (zs2 : List V) (fs2 : List Str2), Same H H2 → H2 l = some (.lst zs2) → Strs K H2 zs2 fs2 → SqT K H2 pa [xl, xh] → IsEnd K H2 xh sa.2 → IsEnd K H2 zh (earlyE sa.2 sb.2) → fs2.length ≤ i + j + 1 → fs2 ++ (if earlyE sa.2 sb.2 = sa.2 then comV (as.drop (i + 1)) (bs.drop j) else comV (as.drop i) (bs.drop (j + 1))) = comV as bs →
            (tIfS (tTest (tOp (rEqD K) (tVar 6) (tOp (rIxT K) (tOp (rIxT K) (tVar 0) (tVar 3)) (tC (.int 1))))) (tAug 3 (tC (.int 1)) (ipI fun i j => i + j)) (tAug 4 (tC (.int 1)) (ipI fun i j => i + j)))
              { nx := comInv K H a b l as bs (n + 1), rt := Q } [some (.ref a), some (.ref b), some (.ref l), some (.int i), some (.int j), some zl, some zh] H2 := by
          intro H2 zs2 fs2 s2 hl2 hz2 tp ne nz lf2 hc2
          refine ⟨_, rfl, _, rfl, _, rfl, a, xs, i, .ref pa, rfl, rfl, Same.sqT s2 ha, atI_nat gx, pa, _, 1, xh, rfl, rfl, tp, atI_nat (j := 1) rfl, ?_⟩
          refine ⟨_, _, dp_end' nz, dp_end' ne, shaped_end _, shaped_end _, _, rfl, ?_⟩
          rw [eqv_end]
          by_cases c : earlyE sa.2 sb.2 = sa.2
          · rw [if_pos c] at hc2
            rw [decide_eq_true c]
            exact iteT ⟨_, rfl, _, _, rfl, rfl, i + 1, j, zs2, fs2, _, _, rfl, by omega, by omega, hj, s2, hl2, hz2, hc2, by omega⟩
          · rw [if_neg c] at hc2
            rw [decide_eq_false c]
            exact iteF ⟨_, rfl, _, _, rfl, rfl, i, j + 1, zs2, fs2, _, _, rfl, by omega, hi, by omega, s2, hl2, hz2, hc2, by omega⟩
        -- the pair is put in
        have put : someIn (maxV sa.1 sb.1) (earlyE sa.2 sb.2) = true → ∀ p, H1 p = none → (tIfS (tTest (tOp (rEqD K) (tVar 6) (tOp (rIxT K) (tOp (rIxT K) (tVar 0) (tVar 3)) (tC (.int 1))))) (tAug 3 (tC (.int 1)) (ipI fun i j => i + j)) (tAug 4 (tC (.int 1)) (ipI fun i j => i + j)))
              { nx := comInv K H a b l as bs (n + 1), rt := Q } [some (.ref a), some (.ref b), some (.ref l), some (.int i), some (.int j), some zl, some zh] (upd (upd H1 p (.tup [zl, zh])) l (.lst (zs ++ [.ref p]))) := fun h p hp => by
          have t1 := same_upd (o := .tup [zl, zh]) hp
          have hl2 := t1 _ _ hl1
          have f1 : Fr1 l (upd H1 p (.tup [zl, zh])) (upd (upd H1 p (.tup [zl, zh])) l (.lst (zs ++ [.ref p]))) := Fr1.put
          rw [if_pos h, ← List.append_assoc] at hcom
          refine rest _ _ _ (fun c o e => ?_) upd_same ((f1.strs hl2 (hzs.same t1)).snoc (f1.str hl2 (s := (maxV sa.1 sb.1, earlyE sa.2 sb.2)) ⟨p, zl, zh, rfl, .inl (.inl upd_same), hzl.same t1, hzh.same t1⟩)) (f1.sqT hl2 (Same.sqT t1 ta)) (f1.end_ hl2 (na.same t1)) (f1.end_ hl2 (hzh.same t1)) (by rw [List.length_append]; simp; omega) hcom
          rw [upd_ne (ne_of_none e hl)]
          exact t1 _ _ (s1 _ _ e)
        have hl0 : ∀ p, H1 p = none → upd H1 p (.tup [zl, zh]) l = some (.lst zs) := fun p hp => same_upd hp _ _ hl1
        refine ⟨_, rfl, rfl, _, rfl, ?_⟩
        rw [isEnd_non hzh]
        cases hh : earlyE sa.2 sb.2 with
        | none =>
          refine iteT (iteT ⟨_, rfl, .inl ⟨rfl, _, SqL.of hl1⟩, _, rfl, _, rfl, by show 2 ≤ sizeLine; decide, fun p hp => ⟨l, zs, _, rfl, rfl, hl0 p hp, small1000 laz, put (by rw [hh]; rfl) p hp⟩⟩)
        | some u =>
          rw [hh] at hzh
          refine iteF ⟨_, rfl, _, rfl, maxV sa.1 sb.1, u, hzl, hzh, _, rfl, ?_⟩
          by_cases c : ltV (maxV sa.1 sb.1) u
          · rw [show cmpV .Lt (maxV sa.1 sb.1) u = true from decide_eq_true c]
            exact iteT ⟨_, rfl, .inl ⟨rfl, _, SqL.of hl1⟩, _, rfl, _, rfl, by show 2 ≤ sizeLine; decide, fun p hp => ⟨l, zs, _, rfl, rfl, hl0 p hp, small1000 laz, put (by rw [hh]; exact decide_eq_true c) p hp⟩⟩
          · rw [show cmpV .Lt (maxV sa.1 sb.1) u = false from decide_eq_false c]
            have no : ¬ someIn (maxV sa.1 sb.1) (earlyE sa.2 sb.2) = true := by rw [hh]; exact fun z => c (of_decide_eq_true z)
            rw [if_neg no, List.nil_append] at hcom
            exact iteF (rest H1 zs fs s1 hl1 hzs ta na (by rw [hh]; exact hzh) (by omega) hcom)
      · rw [show decide ((j : Int) < (ys.length : Int)) = false from decide_eq_false (by omega)]
        exact iteF ⟨_, rfl, _, _, rfl, .inl ⟨SqL.of hl1, fun D hD => done (.inr (List.drop_eq_nil_of_le (by omega))) D hD⟩⟩
    · rw [show decide ((i : Int) < (xs.length : Int)) = false from decide_eq_false (by omega)]
      exact iteF (iteF ⟨_, rfl, _, _, rfl, .inl ⟨SqL.of hl1, fun D hD => done (.inl (List.drop_eq_nil_of_le (by omega))) D hD⟩⟩)
end
end Kw
set_option maxHeartbeats 4000000
namespace Kw
open PySem PySem.Spec PyProof.Rows L2
/-! ### all versions that are not in stretches -/
theorem NF.drop {ss : List Str2} (h : NF ss) (n : Nat) : NF (ss.drop n) := ⟨fun s hs => h.ok s (List.mem_of_mem_drop hs), h.pw.sublist (List.drop_sublist n ss)⟩
section
variable {P : Program} {w : World} {K : PySem.W.Frag} {mg : Str → Option Value} {base : Heap}
def spBut (K : PySem.W.Frag) : Sp := fun vs H Q _ => ∃ (a : Addr) (xs : List V) (ss : List Str2), vs = [.ref a] ∧ SqT K H a xs ∧ Strs K H xs ss ∧ NF ss ∧ ss.length ≤ 200 ∧
  ∀ H' D zs, Same H H' → H D = none → H' D = some (.tup zs) → Strs K H' zs (notV ss) → Q (.ref D) H'
abbrev nBut : List Str := ["stretches", "found", "start", "low", "high"]
theorem scBut : FnScope nBut ["stretches"] (defScope sBut) := ⟨rfl, rfl, rfl, by decide +kernel, rfl, by decide +kernel, by decide +kernel⟩
theorem ok_but {f Z : Addr} {fd : FuncData} {k : Nat} (F : Fun K "all_but" "all_but" sBut f fd) (mt : mg "tuple" = none) (gZ : mg "ZERO" = some (.ref Z)) (hZ : ∀ H : Hp, IsVer K H (.ref Z) v000) : FnOk P w K mg base CX0 (k + 1) f fd ["stretches"] (spBut K) := by
  refine F.ok scBut (fun vs H Q E h => ?_) (fun cdv A outer s H vs Q E hr h => ?_)
  · obtain ⟨a, xs, ss, rfl, _⟩ := h
    rfl
  · obtain ⟨a, xs, ss, rfl, ha, hxs, nf, la, q⟩ := h
    refine ⟨_, pss_cons (ps_set (i := 1) scBut.nd rfl (.inl rfl) (pe_lst pa_nil))
    (pss_cons (ps_set (i := 2) scBut.nd rfl (.inl rfl) (pe_glob (v := .ref Z) (by rfl) gZ rfl))
    (pss_cons (ps_for PassesOwn.never rfl (pi_tup (pv 0)) (pg_tup rfl (pgs_cons (pg_name (i := 3) scBut.nd rfl (.inl rfl)) (pgs_cons (pg_name (i := 4) scBut.nd rfl (.inl rfl)) pgs_nil)))
      (pss_cons (ps_if (pt_cmpR (op_ver (.inl rfl) (Nat.lt_of_le_of_lt (Nat.le_add_right _ _) hr.units)) (pv 2) (pv 3) (nomark _)) (pss_one (ps_expr (pe_bm PySem.F.plainAttrs_list PySem.F.slot_list_append PySem.F.type_list_append mt_append (pv 1) (pa_cons (pe_tup (pa_cons (pv 2) (pa_cons (pv 3) pa_nil))) pa_nil)))) pss_nil)
      (pss_one (ps_set (i := 2) scBut.nd rfl (.inl rfl) (pv 4)))))
    (pss_cons (ps_if (pt_cmpR op_notN (pv 2) pe_non (nomark _)) (pss_one (ps_expr (pe_bm PySem.F.plainAttrs_list PySem.F.slot_list_append PySem.F.type_list_append mt_append (pv 1) (pa_cons (pe_tup (pa_cons (pv 2) (pa_cons pe_non pa_nil))) pa_nil)))) pss_nil)
    (pss_one (ps_ret (pe_callTy call_tuple_of (by rfl) mt (by decide +kernel) (pa_cons (pv 1) pa_nil))))))), ?_⟩
    refine ⟨Nat.zero_le _, fun l hl => ?_⟩
    have s0 := same_upd (o := .lst []) hl
    have lx := hxs.len
    refine ⟨_, rfl, a, rfl, ⟨_, Same.sqT s0 ha⟩, for_tup (K := K) (a := a) (xs := xs) (fun n σ H' => ∃ (x : V) (st : Option Ver) (zs : List V) (fs : List Str2) (y3 y4 : Option V), σ = [some (.ref a), some (.ref l), some x, y3, y4] ∧ IsEnd K H' x st ∧ Same H H' ∧ H' l = some (.lst zs) ∧ Strs K H' zs fs ∧ fs ++ butV st (ss.drop n) = notV ss ∧ (st = none → ss.drop n = []) ∧ fs.length ≤ n)
      ⟨.ref Z, some v000, [], [], none, none, rfl, hZ _, s0, upd_same, ⟨rfl, fun i x s h => by simp at h⟩, rfl, (fun z => nomatch z), Nat.le_refl _⟩ (fun n σ H' _ ⟨_, _, _, _, _, _, _, _, s1, _⟩ => Same.sqT s1 ha) ?_ ?_⟩
    · rintro n y σ H1 hy ⟨x, st, zs, fs, y3, y4, rfl, hx, s1, hl1, hzs, hb, hn, lf⟩
      obtain ⟨sn, hsn, isn⟩ := (hxs.same s1).get hy
      have nl := (List.getElem?_eq_some_iff.mp hy).1
      have dn := drop_at hsn
      have laz : zs.length ≤ 1000 := by rw [hzs.len]; omega
      cases st with
      | none => rw [hn rfl] at dn; cases dn
      | some v =>
        obtain ⟨p, xl, xh, rfl, tp, vl0, nh⟩ := id isn
        refine ⟨p, _, rfl, tp, rfl, _, _, rfl, _, _, rfl, rfl, ?_⟩
        refine ⟨_, rfl, _, rfl, v, sn.1, hx, vl0, _, rfl, ?_⟩
        rw [dn] at hb
        have hb : fs ++ ((if ltV v sn.1 then [(v, some sn.1)] else []) ++ butV sn.2 (ss.drop (n + 1))) = notV ss := hb
        have hlast : sn.2 = none → ss.drop (n + 1) = [] := fun e => by
          have hN := nf.drop n
          rw [dn] at hN
          cases d : ss.drop (n + 1) with
          | nil => rfl
          | cons t r =>
            rw [d] at hN
            obtain ⟨u, eu, _⟩ := hN.head (t := t) List.mem_cons_self
            rw [e] at eu
            cases eu
        by_cases c : ltV v sn.1
        · rw [show cmpV .Lt v sn.1 = true from decide_eq_true c]
          rw [if_pos c, ← List.append_assoc] at hb
          refine iteT ⟨_, rfl, .inl ⟨rfl, _, SqL.of hl1⟩, _, rfl, _, rfl, by show 2 ≤ sizeLine; decide, fun d hd => ?_⟩
          have t1 := same_upd (o := .tup [x, xl]) hd
          have hl2 := t1 _ _ hl1
          have f1 : Fr1 l (upd H1 d (.tup [x, xl])) (upd (upd H1 d (.tup [x, xl])) l (.lst (zs ++ [.ref d]))) := Fr1.put
          refine ⟨l, zs, _, rfl, rfl, hl2, small1000 laz, xh, rfl, xh, sn.2, zs ++ [.ref d], fs ++ [(v, some sn.1)], _, _, rfl, f1.end_ hl2 (nh.same t1), fun b o e => ?_, upd_same, (f1.strs hl2 (hzs.same t1)).snoc (f1.str (s := (v, some sn.1)) hl2 ⟨d, x, xl, rfl, .inl (.inl upd_same), IsVer.same hx t1, IsVer.same vl0 t1⟩), hb, hlast, by rw [List.length_append]; simp; omega⟩
          rw [upd_ne (ne_of_none e hl)]
          exact t1 _ _ (s1 _ _ e)
        · rw [show cmpV .Lt v sn.1 = false from decide_eq_false c]
          rw [if_neg c, List.nil_append] at hb
          exact iteF ⟨xh, rfl, xh, sn.2, zs, fs, _, _, rfl, nh, s1, hl1, hzs, hb, hlast, by omega⟩
    · rintro σ H1 ⟨x, st, zs, fs, y3, y4, rfl, hx, s1, hl1, hzs, hb, hn, lf⟩
      have laz : zs.length ≤ 1000 := by rw [hzs.len]; omega
      rw [List.drop_eq_nil_of_le (by omega)] at hb
      refine ⟨_, rfl, rfl, _, rfl, ?_⟩
      rw [isEnd_non hx]
      cases st with
      | none =>
        rw [show butV none [] = [] from rfl, List.append_nil] at hb
        refine iteF ⟨_, rfl, _, _, rfl, .inl ⟨SqL.of hl1, fun D hD => ?_⟩⟩
        have t := same_upd (o := .tup zs) hD
        exact q _ D zs (s1.trans t) (s1.free hD) upd_same (by rw [← hb]; exact hzs.same t)
      | some v =>
        refine iteT ⟨_, rfl, .inl ⟨rfl, _, SqL.of hl1⟩, _, rfl, by show 2 ≤ sizeLine; decide, fun d hd => ?_⟩
        have t1 := same_upd (o := .tup [x, .non]) hd
        have hl2 := t1 _ _ hl1
        have f1 : Fr1 l (upd H1 d (.tup [x, .non])) (upd (upd H1 d (.tup [x, .non])) l (.lst (zs ++ [.ref d]))) := Fr1.put
        refine ⟨l, zs, _, rfl, rfl, hl2, small1000 laz, _, rfl, _, _, rfl, .inl ⟨SqL.of upd_same, fun D hD => ?_⟩⟩
        have t2 := same_upd (o := .tup (zs ++ [.ref d])) hD
        have hz2 := ((f1.strs hl2 (hzs.same t1)).snoc (f1.str (s := (v, none)) hl2 ⟨d, x, .non, rfl, .inl (.inl upd_same), IsVer.same hx t1, rfl⟩)).same t2
        refine q _ D _ (fun b o e => t2 _ _ ?_) ?_ upd_same (by rw [← hb]; exact hz2)
        · rw [upd_ne (ne_of_none e hl)]
          exact t1 _ _ (s1 _ _ e)
        · have h3 : (upd H1 d (.tup [x, .non])) D = none := by
            by_cases e : D = l
            · rw [e, upd_same] at hD; cases hD
            · rw [upd_ne e] at hD; exact hD
          exact s1.free (t1.free h3)
end
end Kw
set_option maxHeartbeats 4000000
namespace Kw
open PySem PySem.Spec PyProof.Rows L2 LamX
abbrev sNorm : Stmt := L2.inClass (top 8) 0
abbrev sChkR : Stmt := top 22
abbrev sAnd : Stmt := L2.inClass (top 25) 5
abbrev sOr : Stmt := L2.inClass (top 25) 6
abbrev sSub : Stmt := L2.inClass (top 25) 7
abbrev sInv : Stmt := L2.inClass (top 25) 8
/-! ### Range(Normal(rows)) -/
/-- a value of a built-in type -/
inductive KT (K : PySem.W.Frag) (H : Hp) : V → String → Prop
  | flat {x : V} {T : String} : Flat x T → KT K H x T
  | lst {a : Addr} {xs : List V} : SqL K H a xs → KT K H (.ref a) "list"
  | tup {a : Addr} {xs : List V} : SqT K H a xs → KT K H (.ref a) "tuple"
theorem KT.ty {K : PySem.W.Frag} {H : Hp} {x : V} {T : String} (h : KT K H x T) : Ty K H x T := by
  cases h with
  | flat f => exact Flat.ty f
  | lst s => exact ty_lst s
  | tup t => exact ty_tup t
theorem KT.ext {K : PySem.W.Frag} {H H' : Hp} {x : V} {T : String} (h : KT K H x T) (e : ExtN H H') : KT K H' x T := by
  cases h with
  | flat f => exact .flat f
  | lst s => exact .lst (e.sqL s)
  | tup t => exact .tup (e.sqT t)
section
variable {P : Program} {w : World} {K : PySem.W.Frag} {mg : Str → Option Value} {base : Heap}
def spNorm (CN : Addr) : Sp := fun vs H Q _ => ∃ (a dx : Addr) (x : V), vs = [.ref a, x] ∧ H a = some (.ins CN dx []) ∧ Q .non (upd H a (.ins CN dx [(("rows" : Str), x)]))
def spInitN (CR CN : Addr) : Sp := fun vs H Q _ => ∃ (a dx n dn t : Addr), vs = [.ref a, .ref n] ∧ H a = some (.ins CR dx []) ∧ H n = some (.ins CN dn [(("rows" : Str), .ref t)]) ∧ Q .non (upd H a (.ins CR dx [(("_stretches" : Str), .ref t)]))
theorem scNorm : FnScope ["self", "rows"] ["self", "rows"] (defScope sNorm) := ⟨rfl, rfl, rfl, by decide +kernel, rfl, by decide +kernel, by decide +kernel⟩
theorem ok_norm {f CN : Addr} {fd : FuncData} {k : Nat} (F : Fun K "__init__" "Normal.__init__" sNorm f fd) (cN : Cls K CN) (nN : NoAttr K CN "rows") : FnOk P w K mg base CX0 (k + 1) f fd ["self", "rows"] (spNorm CN) := by
  refine F.ok scNorm (fun vs H Q E h => ?_) (fun cdv A outer s H vs Q E hr h => ?_)
  · obtain ⟨a, dx, x, rfl, _⟩ := h
    rfl
  · obtain ⟨a, dx, x, rfl, ha, q⟩ := h
    refine ⟨_, pss_one (ps_fld (pv 0) (pv 1) rfl), ?_⟩
    exact ⟨x, rfl, _, rfl, a, CN, dx, [], rfl, ha, cN, nN, by simp, q⟩
theorem ok_initN {f CR CN : Addr} {fd : FuncData} {k : Nat} {T : List (Addr × Str)} {CE : Addr} (F : FunV K "__init__" "Range.__init__" sInit f fd) (mi : mg "isinstance" = none) (gN : mg "Normal" = some (.ref CN)) (cR : Cls K CR) (nR : NoAttr K CR "_stretches") (cN : Cls K CN) (nN : NoAttr K CN "rows")
    (tyN : ∀ (H : Hp) (a dx : Addr) (fs : List (Str × V)), H a = some (.ins CN dx fs) → TyX K H (.ref a) (.ref CN)) (kN : PySem.W.kitOne K (.ref CN) (.ref CN) = some true) (DC : DefX P w K mg base "check_stretches" k ["stretches"] (spChkS K CE)) (DN : Def P w K mg base "normal_form" CX0 k ["stretches"] (spNF K T)) :
    FnOk P w K mg base (L2.CX P w) (k + 1) f fd ["self", "stretches"] (spInitN CR CN) := by
  refine F.okX scInit (fun vs H Q E h => ?_) (fun cdv A outer s H vs Q E hr h => ?_)
  · obtain ⟨a, dx, n, dn, t, rfl, _⟩ := h
    rfl
  · obtain ⟨a, dx, n, dn, t, rfl, ha, hn, q⟩ := h
    refine ⟨_, pss_one (ps_if (pt_val (pe_callB call_isi (by rfl) mi (by decide +kernel) (pa_cons (pv 1) (pa_cons (pe_glob (v := .ref CN) (by rfl) gN rfl) pa_nil)))) (pss_one (ps_fld (pv 0) (pe_fld (pv 1) rfl) rfl))
      (pss_cons (ps_expr (pe_dX DC hr (takes_of rfl rfl rfl rfl) (pa_cons (pv 1) pa_nil))) (pss_one (ps_fld (pv 0) (pe_d DN hr (pa_cons (pv 1) pa_nil)) rfl)))), ?_⟩
    exact ⟨_, rfl, .ref n, .ref CN, .ref CN, .ref CN, true, rfl, .own _, tyN _ _ _ _ hn, kN, _, rfl, iteT ⟨_, rfl, n, CN, dn, _, .ref t, rfl, hn, cN, nN, by simp [List.lookup], _, rfl, a, CR, dx, [], rfl, ha, cR, nR, by simp, q⟩⟩
/-- what Range(Normal(..)) asks -/
structure NormMk (P : Program) (w : World) (K : PySem.W.Frag) (mg : Str → Option Value) (base : Heap) (CR CN : Addr) (k : Nat) : Prop where
  n : ∃ f fd, FnOk P w K mg base CX0 k f fd ["self", "rows"] (spNorm CN) ∧ Mk K CN f ∧ Binds K fd ["self", "rows"] []
  r : ∃ f fd, FnOk P w K mg base (L2.CX P w) k f fd ["self", "stretches"] (spInitN CR CN) ∧ Mk K CR f ∧ Binds K fd ["self", "stretches"] []
  gN : mg "Normal" = some (.ref CN)
  gR : mg "Range" = some (.ref CR)
abbrev tRN (CR CN : Addr) (E : XK) (te : TE) : TE := tMake CR (spInitN CR CN) [] E (tCons (tMake CN (spNorm CN) [] E0 (tCons te tNil)) tNil)
theorem pe_rngN {X : Cx} {CR CN : Addr} {k : Nat} {p p1 p2 p3 : Pos} {e : Expr} {te : TE} {E : XK} (M : NormMk X.prog X.w X.K X.mg X.base CR CN k) (hr : Room (k + 1) X.A) (hx : Passes (L2.CX X.prog X.w) X E) (he : PE X e te) (hg1 : Gl X "Range" := by rfl) (hg2 : Gl X "Normal" := by rfl)
    (h1 : starEach (.Call (.Name "Normal" p2) [e] [] p3 :: []) X.env = (false, eval (.Call (.Name "Normal" p2) [e] [] p3) X.env) :: starEach [] X.env := by rfl) (h2 : (backTo p1 (starEach [] X.env)).any (·.1) = false := by rfl) (h3 : starEach (e :: []) X.env = (false, eval e X.env) :: starEach [] X.env := by rfl) (h4 : (backTo p3 (starEach [] X.env)).any (·.1) = false := by rfl) :
    PE X (.Call (.Name "Range" p) [.Call (.Name "Normal" p2) [e] [] p3] [] p1) (tRN CR CN E te) := by
  obtain ⟨f, fd, F, Mf, hb⟩ := M.r
  obtain ⟨g, gd, G, Mg, hc⟩ := M.n
  exact pe_make Mf F hr hg1 M.gR hb .nil hx (pa_cons (pe_make Mg G hr hg2 M.gN hc .nil pass0 (pa_cons he pa_nil h3) (by decide) h3 h4) pa_nil h1) (by decide) h1 h2
/-- what is left of Range(Normal(t)) behind its argument -/
theorem rngN_at {CR CN : Addr} {E : XK} {H1 : Hp} {Q : VK} {t : Addr} {zs : List V} {nf : List Str2} (ht : SqT K H1 t zs) (hz : Strs K H1 zs nf) (q : ∀ (H' : Hp) (z : Addr), Same H1 H' → H1 z = none → IsR K CR H' (.ref z) nf → Q (.ref z) H') :
    ∀ n dn, H1 n = none → H1 dn = none → dn ≠ n → spNorm CN (.ref n :: ([.ref t] ++ [])) (upd (upd H1 dn (.own n)) n (.ins CN dn [])) (fun v H2 => v = .non ∧ ∀ x dx, H2 x = none → H2 dx = none → dx ≠ x → spInitN CR CN (.ref x :: ([.ref n] ++ [])) (upd (upd H2 dx (.own x)) x (.ins CR dx [])) (fun v H3 => v = .non ∧ Q (.ref x) H3) E) E0 := by
  intro n dn nn nd ne
  have s1 : Same H1 (upd (upd H1 dn (.own n)) n (.ins CN dn [])) := two_upd nn nd ne
  refine ⟨n, dn, .ref t, rfl, upd_same, rfl, fun x dx nx ndx nex => ?_⟩
  have s2 : Same H1 (upd (upd (upd H1 dn (.own n)) n (.ins CN dn [])) n (.ins CN dn [(("rows" : Str), .ref t)])) := fun b o e => by
    rw [upd_ne (ne_of_none e nn)]
    exact s1 _ _ e
  have s3 := s2.trans (two_upd (o1 := .own x) (o2 := .ins CR dx []) nx ndx nex)
  have hn3 : upd (upd (upd (upd (upd H1 dn (.own n)) n (.ins CN dn [])) n (.ins CN dn [(("rows" : Str), .ref t)])) dx (.own x)) x (.ins CR dx []) n = some (.ins CN dn [(("rows" : Str), .ref t)]) := by
    have e1 : n ≠ x := ne_of_none upd_same nx
    have e2 : n ≠ dx := ne_of_none upd_same ndx
    rw [upd_ne e1, upd_ne e2]
    exact upd_same
  refine ⟨x, dx, n, dn, t, rfl, upd_same, hn3, rfl, ?_⟩
  have s4 : Same H1 (upd (upd (upd (upd (upd (upd H1 dn (.own n)) n (.ins CN dn [])) n (.ins CN dn [(("rows" : Str), .ref t)])) dx (.own x)) x (.ins CR dx [])) x (.ins CR dx [(("_stretches" : Str), .ref t)])) := fun b o e => by
    have e1 : b ≠ x := ne_of_none (s2 _ _ e) nx
    rw [upd_ne e1]
    exact s3 _ _ e
  exact q _ x s4 (s2.free nx) ⟨x, dx, t, zs, rfl, upd_same, Same.sqT s4 ht, hz.same s4⟩
end
end Kw
set_option maxHeartbeats 4000000
namespace Kw
open PySem PySem.Spec PyProof.Rows L2 LamX
/-! ### one & other, one | other, one - other, ~one -/
section
variable {P : Program} {w : World} {K : PySem.W.Frag} {mg : Str → Option Value} {base : Heap}
def spChkR (K : PySem.W.Frag) (CR CX : Addr) : Sp := fun vs H Q E => ∃ (x : V), vs = [x] ∧ ((∃ nf, IsR K CR H x nf ∧ Q .non H) ∨ (∃ T, KT K H x T ∧ ∀ H', Same H H' → E (.ref CX) none H'))
theorem scChkR : FnScope ["ranged"] ["ranged"] (defScope sChkR) := ⟨rfl, rfl, rfl, by decide +kernel, rfl, by decide +kernel, by decide +kernel⟩
/-- what is known of isinstance with Range -/
structure RTy (K : PySem.W.Frag) (CR : Addr) : Prop where
  ty : ∀ (H : Hp) (a dx : Addr) (fs : List (Str × V)), H a = some (.ins CR dx fs) → TyX K H (.ref a) (.ref CR)
  yes : PySem.W.kitOne K (.ref CR) (.ref CR) = some true
  no : ∀ T ∈ ["NoneType", "bool", "int", "str", "list", "tuple"], PySem.W.kitOne K (.type T) (.ref CR) = some false
theorem KT.name {H : Hp} {x : V} {T : String} (h : KT K H x T) : T ∈ ["NoneType", "bool", "int", "str", "list", "tuple"] := by
  cases h with
  | flat f => cases f <;> simp
  | lst s => simp
  | tup t => simp
theorem ok_chkR {f CR CX : Addr} {fd : FuncData} {k : Nat} (F : Fun K "check_range" "check_range" sChkR f fd) (O : OwnErr K mg "NotRange" CX) (mi : mg "isinstance" = none) (gR : mg "Range" = some (.ref CR)) (R : RTy K CR) : FnOk P w K mg base (L2.CX P w) (k + 1) f fd ["ranged"] (spChkR K CR CX) := by
  refine F.okX scChkR (fun vs H Q E h => ?_) (fun cdv A outer s H vs Q E hr h => ?_)
  · obtain ⟨x, rfl, _⟩ := h
    rfl
  · obtain ⟨x, rfl, h⟩ := h
    refine ⟨_, pss_one (ps_if (pt_not (pt_val (pe_callB call_isi (by rfl) mi (by decide +kernel) (pa_cons (pv 0) (pa_cons (pe_glob (v := .ref CR) (by rfl) gR rfl) pa_nil))))) (pss_one (ps_raise rfl (takes_of rfl rfl rfl rfl) (pmk_o O))) pss_nil), ?_⟩
    rcases h with ⟨nf, ⟨a, dx, t, zs, rfl, ha, _⟩, q⟩ | ⟨T, hT, q⟩
    · exact ⟨_, rfl, .ref a, .ref CR, .ref CR, .ref CR, true, rfl, .own _, R.ty _ _ _ _ ha, R.yes, _, rfl, iteF q⟩
    · exact ⟨_, rfl, x, .ref CR, .type T, .ref CR, false, rfl, .own _, hT.ty, R.no T hT.name, _, rfl, iteT (q H (Same.refl H))⟩
/-- the promise of an operation of two Ranges -/
def spBin (g : List Str2 → List Str2 → List Str2) (K : PySem.W.Frag) (CR CX : Addr) : Sp := fun vs H Q E => ∃ (x y : V) (nx : List Str2), vs = [x, y] ∧ IsR K CR H x nx ∧ NF nx ∧ nx.length ≤ 90 ∧
  ((∃ ny, IsR K CR H y ny ∧ NF ny ∧ ny.length ≤ 90 ∧ ∀ (H' : Hp) (z : Addr), Same H H' → H z = none → IsR K CR H' (.ref z) (g nx ny) → Q (.ref z) H') ∨ (∃ T, KT K H y T ∧ ∀ H', Same H H' → E (.ref CX) none H'))
def spUn (K : PySem.W.Frag) (CR : Addr) : Sp := fun vs H Q _ => ∃ (x : V) (nx : List Str2), vs = [x] ∧ IsR K CR H x nx ∧ NF nx ∧ nx.length ≤ 90 ∧ ∀ (H' : Hp) (z : Addr), Same H H' → H z = none → IsR K CR H' (.ref z) (notV nx) → Q (.ref z) H'
theorem scAnd : FnScope ["self", "other"] ["self", "other"] (defScope sAnd) := ⟨rfl, rfl, rfl, by decide +kernel, rfl, by decide +kernel, by decide +kernel⟩
theorem scOr : FnScope ["self", "other", "neither"] ["self", "other"] (defScope sOr) := ⟨rfl, rfl, rfl, by decide +kernel, rfl, by decide +kernel, by decide +kernel⟩
theorem scSub : FnScope ["self", "other"] ["self", "other"] (defScope sSub) := ⟨rfl, rfl, rfl, by decide +kernel, rfl, by decide +kernel, by decide +kernel⟩
theorem scInv : FnScope ["self"] ["self"] (defScope sInv) := ⟨rfl, rfl, rfl, by decide +kernel, rfl, by decide +kernel, by decide +kernel⟩
section
variable {f CR CX CN : Addr} {fd : FuncData} {k : Nat} (cR : Cls K CR) (nR : NoAttr K CR "_stretches") (DR : DefX P w K mg base "check_range" (k + 1) ["ranged"] (spChkR K CR CX)) (DC : Def P w K mg base "common" CX0 (k + 1) ["ones", "others"] (spCom K)) (DB : Def P w K mg base "all_but" CX0 (k + 1) ["stretches"] (spBut K)) (M : NormMk P w K mg base CR CN k)
include cR nR DR DC DB M
theorem ok_and (F : Fun K "__and__" "Range.__and__" sAnd f fd) : FnOk P w K mg base (L2.CX P w) (k + 2) f fd ["self", "other"] (spBin comV K CR CX) := by
  refine F.okX scAnd (fun vs H Q E h => ?_) (fun cdv A outer s H vs Q E hr h => ?_)
  · obtain ⟨x, y, nx, rfl, _⟩ := h
    rfl
  · obtain ⟨x, y, nx, rfl, hx, fx, lx, h⟩ := h
    refine ⟨_, pss_cons (ps_expr (pe_dX DR hr (takes_of rfl rfl rfl rfl) (pa_cons (pv 1) pa_nil)))
      (pss_one (ps_ret (pe_rngN M hr passL (pe_d DC hr (pa_cons (pe_fld (pv 0) rfl) (pa_cons (pe_fld (pv 1) rfl) pa_nil)))))), ?_⟩
    rcases h with ⟨ny, hy, fy, ly, q⟩ | ⟨T, hT, q⟩
    · obtain ⟨a, dx, t, zs, rfl, h1, h2, h3⟩ := id hx
      obtain ⟨b, dy, u, ys, rfl, g1, g2, g3⟩ := id hy
      refine ⟨.ref b, rfl, .ref b, rfl, .inl ⟨ny, hy, ?_⟩⟩
      refine ⟨_, rfl, a, CR, dx, _, .ref t, rfl, h1, cR, nR, by simp [List.lookup], _, rfl, b, CR, dy, _, .ref u, rfl, g1, cR, nR, by simp [List.lookup], ?_⟩
      refine ⟨t, u, zs, ys, nx, ny, rfl, h2, g2, h3, g3, by omega, by omega, fun H1 D ws s1 nD hD hw => ?_⟩
      exact rngN_at (.inl (.inl hD)) hw fun H2 z s2 nz hz => q H2 z (s1.trans s2) (s1.free nz) hz
    · exact ⟨y, rfl, y, rfl, .inr ⟨T, hT, q⟩⟩
theorem ok_sub (F : Fun K "__sub__" "Range.__sub__" sSub f fd) : FnOk P w K mg base (L2.CX P w) (k + 2) f fd ["self", "other"] (spBin subV K CR CX) := by
  refine F.okX scSub (fun vs H Q E h => ?_) (fun cdv A outer s H vs Q E hr h => ?_)
  · obtain ⟨x, y, nx, rfl, _⟩ := h
    rfl
  · obtain ⟨x, y, nx, rfl, hx, fx, lx, h⟩ := h
    refine ⟨_, pss_cons (ps_expr (pe_dX DR hr (takes_of rfl rfl rfl rfl) (pa_cons (pv 1) pa_nil)))
      (pss_one (ps_ret (pe_rngN M hr passL (pe_d DC hr (pa_cons (pe_fld (pv 0) rfl) (pa_cons (pe_d DB hr (pa_cons (pe_fld (pv 1) rfl) pa_nil)) pa_nil)))))), ?_⟩
    rcases h with ⟨ny, hy, fy, ly, q⟩ | ⟨T, hT, q⟩
    · obtain ⟨a, dx, t, zs, rfl, h1, h2, h3⟩ := id hx
      obtain ⟨b, dy, u, ys, rfl, g1, g2, g3⟩ := id hy
      refine ⟨.ref b, rfl, .ref b, rfl, .inl ⟨ny, hy, ?_⟩⟩
      refine ⟨_, rfl, a, CR, dx, _, .ref t, rfl, h1, cR, nR, by simp [List.lookup], _, rfl, b, CR, dy, _, .ref u, rfl, g1, cR, nR, by simp [List.lookup], ?_⟩
      refine ⟨u, ys, ny, rfl, g2, g3, fy, by omega, fun H0 D0 w0 s0 _ hD0 hw0 => ?_⟩
      have := not_len fy
      refine ⟨t, D0, zs, w0, nx, notV ny, rfl, Same.sqT s0 h2, .inl (.inl hD0), h3.same s0, hw0, by omega, by omega, fun H1 D ws s1 nD hD hw => ?_⟩
      exact rngN_at (.inl (.inl hD)) hw fun H2 z s2 nz hz => q H2 z ((s0.trans s1).trans s2) ((s0.trans s1).free nz) hz
    · exact ⟨y, rfl, y, rfl, .inr ⟨T, hT, q⟩⟩
theorem ok_or (F : Fun K "__or__" "Range.__or__" sOr f fd) : FnOk P w K mg base (L2.CX P w) (k + 2) f fd ["self", "other"] (spBin orV K CR CX) := by
  refine F.okX scOr (fun vs H Q E h => ?_) (fun cdv A outer s H vs Q E hr h => ?_)
  · obtain ⟨x, y, nx, rfl, _⟩ := h
    rfl
  · obtain ⟨x, y, nx, rfl, hx, fx, lx, h⟩ := h
    refine ⟨_, pss_cons (ps_expr (pe_dX DR hr (takes_of rfl rfl rfl rfl) (pa_cons (pv 1) pa_nil)))
      (pss_cons (ps_set (i := 2) scOr.nd rfl (.inl rfl) (pe_d DC hr (pa_cons (pe_d DB hr (pa_cons (pe_fld (pv 0) rfl) pa_nil)) (pa_cons (pe_d DB hr (pa_cons (pe_fld (pv 1) rfl) pa_nil)) pa_nil))))
      (pss_one (ps_ret (pe_rngN M hr passL (pe_d DB hr (pa_cons (pv 2) pa_nil)))))), ?_⟩
    rcases h with ⟨ny, hy, fy, ly, q⟩ | ⟨T, hT, q⟩
    · obtain ⟨a, dx, t, zs, rfl, h1, h2, h3⟩ := id hx
      obtain ⟨b, dy, u, ys, rfl, g1, g2, g3⟩ := id hy
      refine ⟨.ref b, rfl, .ref b, rfl, .inl ⟨ny, hy, ?_⟩⟩
      refine ⟨_, rfl, a, CR, dx, _, .ref t, rfl, h1, cR, nR, by simp [List.lookup], t, zs, nx, rfl, h2, h3, fx, by omega, fun H0 D0 w0 s0 _ hD0 hw0 => ?_⟩
      refine ⟨_, rfl, b, CR, dy, _, .ref u, rfl, s0 _ _ g1, cR, nR, by simp [List.lookup], u, ys, ny, rfl, Same.sqT s0 g2, g3.same s0, fy, by omega, fun H1 D1 w1 s1 _ hD1 hw1 => ?_⟩
      have l1 := not_len fx
      have l2 := not_len fy
      have l3 := com_len (notV nx) (notV ny)
      refine ⟨D0, D1, w0, w1, notV nx, notV ny, rfl, .inl (.inl (s1 _ _ hD0)), .inl (.inl hD1), hw0.same s1, hw1, by omega, by omega, fun H2 D2 w2 s2 _ hD2 hw2 => ?_⟩
      refine ⟨_, rfl, D2, w2, _, rfl, .inl (.inl hD2), hw2, com_nf _ _ (not_nf fx) (not_nf fy), by omega, fun H3 D ws s3 nD hD hw => ?_⟩
      have sA := ((s0.trans s1).trans s2).trans s3
      exact rngN_at (.inl (.inl hD)) hw fun H4 z s4 nz hz => q H4 z (sA.trans s4) (sA.free nz) hz
    · exact ⟨y, rfl, y, rfl, .inr ⟨T, hT, q⟩⟩
theorem ok_inv (F : Fun K "__invert__" "Range.__invert__" sInv f fd) : FnOk P w K mg base (L2.CX P w) (k + 2) f fd ["self"] (spUn K CR) := by
  refine F.okX scInv (fun vs H Q E h => ?_) (fun cdv A outer s H vs Q E hr h => ?_)
  · obtain ⟨x, nx, rfl, _⟩ := h
    rfl
  · obtain ⟨x, nx, rfl, hx, fx, lx, q⟩ := h
    refine ⟨_, pss_one (ps_ret (pe_rngN M hr passL (pe_d DB hr (pa_cons (pe_fld (pv 0) rfl) pa_nil)))), ?_⟩
    obtain ⟨a, dx, t, zs, rfl, h1, h2, h3⟩ := id hx
    refine ⟨_, rfl, a, CR, dx, _, .ref t, rfl, h1, cR, nR, by simp [List.lookup], t, zs, nx, rfl, h2, h3, fx, by omega, fun H0 D0 w0 s0 _ hD0 hw0 => ?_⟩
    exact rngN_at (.inl (.inl hD0)) hw0 fun H2 z s2 nz hz => q H2 z (s0.trans s2) (s0.free nz) hz
end
end
end Kw
set_option maxHeartbeats 4000000
namespace Kw
open PySem PySem.Spec PyProof.Rows L2 LamX
/-! ### operators of an own class -/
section
variable {prog : Program} {w : World} {A : Around} {E : Value → Shared → Prop} {s : Shared} {K : PySem.W.Frag} {x C f : Addr} {ox : Obj} {od : Option Obj} {b : Value}
open PySem.W in
/-- x op b: an own class's method on the left, a built-in type on the right -/
theorem rb_T {op : Operator} {T : String} {fo ro : Option Value} {g : Addr} {Q : Value → Shared → Prop} (X : K.In s.heap) (I : InstAt s.heap x ox C od) (hb : Looks (model prog w) s.heap (typeOf b) (.type T)) (hc : selfFirst K C = true) (hs : findIn K (.ref C) (PySem.dunder op.info.2) = some (some (.ref f))) (hf : isFn K (.ref f) = true)
    (hr : findIn K (.ref C) (dunderR op.info.2) = some (some (.ref g))) (h1 : findIn K (.type T) (PySem.dunder op.info.2) = some fo) (h2 : findIn K (.type T) (dunderR op.info.2) = some ro) (hsub : subIn K (.type T) (.ref C) = some false)
    (h : wpAny (model prog w) A (call (.ref f) [.ref x, b]) (PySem.W.CmpBack Q) E s) : wpAny (model prog w) A (binaryOp op (.ref x) b) Q E s := by
  obtain ⟨cd, rest, hcd, hm⟩ := ksp_first hc
  cases hi : op.info with
  | mk sym nm =>
    rw [hi] at hs hr h1 h2
    dsimp only at hs hr h1 h2
    have one := ksp_try X I hs hf h
    obtain ⟨hp, gg, dd, tt, oo⟩ := s
    have own : Looks (model prog w) hp (typeOf (.ref x)) (.ref C) := I.type
    have fill : Looks (model prog w) hp (fillsNumberSlot (.ref C) nm) true := fills_K X hcd hm hs
    have fillT : Looks (model prog w) hp (fillsNumberSlot (.type T) nm) ((fo.isSome && !isSeqSlot fo) || (ro.isSome && !isSeqSlot ro)) := ksp_fillsT X h1 h2
    have subT : Looks (model prog w) hp (isSubtype (.type T) (.ref C)) false := looks_subIn X hsub
    have inP : Looks (model prog w) hp (numberSlotInPython (.ref C) nm) true := ksp_inPy X hs hr (.inr ⟨_, rfl⟩)
    have inT : Looks (model prog w) hp (numberSlotInPython (.type T) nm) false := Looks.of_pure rfl
    have refl : Looks (model prog w) hp (typeLookup (.type T) (dunderR nm)) ro := looks_findIn X h2
    generalize ((fo.isSome && !isSeqSlot fo) || (ro.isSome && !isSeqSlot ro)) = both at fillT
    have ne : (Value.ref C == Value.type T) = false := by
      rw [Bool.eq_false_iff]
      intro q
      cases beq_iff_eq.mp q
    simp only [binaryOp, hi]
    refine wpAny_holding (wpAny_bind ?_)
    unfold binaryOp1
    refine wpAny_bind (own.at (wpAny_bind (hb.at (wpAny_bind (fill.at ?_)))))
    simp only [ne, Bool.false_eq_true, if_false]
    cases both <;>
    · ksp_lk
      refine wpAny_mono one (fun r s' z => ?_) fun _ _ z => z
      obtain ⟨v, rfl, q⟩ := z
      ksp_lk
      exact q
end
section
variable {X : Cx} {CX : CXT} {n : Nat} {C f : Addr} {fd : FuncData} {ps : List Str} {sp : Sp} {E : XK}
theorem looks_kt {pins : List (Addr × Obj)} {σ : L2.St} {H : Hp} {s : Shared} {y : V} {u : Value} {T : String} (I : Inv X pins σ H s) (r : RelV y u) (h : KT X.K H y T) : PySem.W.Looks (model X.prog X.w) s.heap (typeOf u) (.type T) := by
  cases h with
  | flat f =>
    cases f with
    | non => cases r; exact .of_pure rfl
    | bl b => cases r; exact .of_pure rfl
    | int i => obtain ⟨t, rfl⟩ := r; exact .of_pure rfl
    | str z => obtain ⟨t, rfl⟩ := r; exact .of_pure rfl
  | lst t =>
    cases r
    obtain ⟨its, rv, p, _⟩ := I.list t
    have hp := p
    obtain ⟨o, n, ho, hc, _⟩ := p
    exact fun A Q E s k q => wpAny_typeOf_ref (k _ _ ho) (hc.symm ▸ q)
  | tup t =>
    cases r
    obtain ⟨its, rv, ⟨o, ho, hc, _⟩, _⟩ := I.tuple t
    exact fun A Q E s k q => wpAny_typeOf_ref (k _ _ ho) (hc.symm ▸ q)
/-- the class's facts of an operator called nm -/
structure BinF (K : PySem.W.Frag) (C f : Addr) (nm : String) : Prop where
  hc : PySem.W.selfFirst K C = true
  hs : PySem.W.findIn K (.ref C) (PySem.dunder nm) = some (some (.ref f))
  hf : PySem.W.isFn K (.ref f) = true
  hr : ∃ g : Addr, PySem.W.findIn K (.ref C) (dunderR nm) = some (some (.ref g))
  ht : ∀ T ∈ ["NoneType", "bool", "int", "str", "list", "tuple"], ∃ fo ro, PySem.W.findIn K (.type T) (PySem.dunder nm) = some fo ∧ PySem.W.findIn K (.type T) (dunderR nm) = some ro ∧ PySem.W.subIn K (.type T) (.ref C) = some false
theorem back_of {pins : List (Addr × Obj)} {σ : L2.St} {Q : VK} {v : Value} {s : Shared} (h : EP X pins σ Q v s) : PySem.W.CmpBack (EP X pins σ Q) v s := by
  obtain ⟨z, H', I', rz, q⟩ := id h
  cases v <;> first | exact h | (cases z <;> first | (cases rz; done) | exact (nomatch rz) | (obtain ⟨_, e⟩ := rz; cases e))
/-- x op y: y of the same class, or of a built-in type -/
def rOwnB (K : PySem.W.Frag) (C : Addr) (sp : Sp) (E : XK) : R2 := fun x y H Q => ∃ a dx fs, x = .ref a ∧ H a = some (.ins C dx fs) ∧ ((∃ b dy gs, y = .ref b ∧ H b = some (.ins C dy gs)) ∨ ∃ T, KT K H y T) ∧ sp [x, y] H Q E
theorem op_bin {op : Operator} (F : FnOk X.prog X.w X.K X.mg X.base CX n f fd ps sp) (hr : Room n X.A) (B : BinF X.K C f op.info.2) (hb : Binds X.K fd ps []) (hx : Passes CX X E) : OpR X (binaryOp op) (rOwnB X.K C sp E) := by
  intro pins s σ H x y v u Q I rx ry h
  obtain ⟨a, dx, fs, rfl, ha, hy, hsp⟩ := h
  obtain rfl : v = Value.ref a := rx
  obtain ⟨mA, J, _⟩ := ins_get I.hok ha
  obtain ⟨od, J, _⟩ := J.look
  obtain ⟨m, hfr⟩ := I.fr
  have run := wpAny_mono (run_at (x := .ref a) F hb hx rfl hr I rfl ry hsp) (fun w s' q => back_of q) fun _ _ z => z
  rcases hy with ⟨b, dy, gs, rfl, hbb⟩ | ⟨T, hT⟩
  · exact PySem.W.binop_K hfr I.ok.mod.kin J (looks_ko I ry (.ins hbb)) B.hc B.hs B.hf run
  · obtain ⟨g, hg⟩ := B.hr
    obtain ⟨fo, ro, h1, h2, h3⟩ := B.ht T hT.name
    exact rb_T I.kIn J (looks_kt I ry hT) B.hc B.hs B.hf hg h1 h2 h3 run
/-- ~x -/
def rOwnU (C : Addr) (sp : Sp) (E : XK) : V → Hp → VK → Prop := fun x H Q => ∃ a dx fs, x = .ref a ∧ H a = some (.ins C dx fs) ∧ sp [x] H Q E
theorem run_at1 {pins : List (Addr × Obj)} {σ : L2.St} {H : Hp} {s : Shared} {x : V} {u : Value} {Q : V → Hp → Prop} (F : FnOk X.prog X.w X.K X.mg X.base CX n f fd ps sp) (hb : Binds X.K fd ps []) (hx : Passes CX X E) (hr : Room n X.A) (I : Inv X pins σ H s) (ru : RelV x u) (h : sp [x] H Q E) :
    wpAny (model X.prog X.w) X.A (call (.ref f) [u]) (EP X pins σ Q) X.xe s := by
  have hl := F.len _ _ _ _ h
  refine wpAny_call (codeAny_mono (F.run X.A X.stack s H ⟨[u], []⟩ [u] [x] Q E hr I.env0 (by
    have q := hb s [u] I.kIn (by simpa using hl)
    simpa using q) (.cons ru .nil) h) fun r s' hq => ?_)
  cases r with
  | error e => exact hx pins σ H s e s' I hq
  | ok fl =>
    cases fl with
    | ret w => exact I.after hq
    | next => exact False.elim hq
    | brk => exact False.elim hq
    | cont => exact False.elim hq
theorem un_invO (F : FnOk X.prog X.w X.K X.mg X.base CX n f fd ps sp) (hr : Room n X.A) (hs : PySem.W.findIn X.K (.ref C) "__invert__" = some (some (.ref f))) (hf : PySem.W.isFn X.K (.ref f) = true) (hb : Binds X.K fd ps []) (hx : Passes CX X E) : UnR X (unaryOp .Invert) (rOwnU C sp E) := by
  intro pins s σ H x v Q I rx h
  obtain ⟨a, dx, fs, rfl, ha, hsp⟩ := h
  obtain rfl : v = Value.ref a := rx
  obtain ⟨mA, J, _⟩ := ins_get I.hok ha
  obtain ⟨od, J, _⟩ := J.look
  obtain ⟨m, hfr⟩ := I.fr
  exact PySem.W.ksp_inv hfr I.ok.mod.kin J hs hf (run_at1 (x := .ref a) F hb hx hr I rfl hsp)
end
end Kw
set_option maxHeartbeats 4000000
namespace Kw
open PySem PySem.Spec PyProof.Rows L2 LamX
/-! ### == of Ranges and of other values -/
theorem eqv_strD (s t : Str2) : PyData.eqv (strD s) (strD t) = decide (s = t) := by
  obtain ⟨a, x⟩ := s
  obtain ⟨b, y⟩ := t
  have h1 : PyData.eqv (verD a) (verD b) = decide (a = b) := eqv_verD a b
  have h2 : PyData.eqv (endD x) (endD y) = decide (x = y) := by
    have e := eqv_end x y
    cases x <;> cases y <;> exact e
  show PyData.eqv (.tuple [verD a, endD x]) (.tuple [verD b, endD y]) = _
  simp only [PyData.eqv, PyData.eqvAll, h1, h2, Prod.mk.injEq, Bool.and_true]
  rw [Bool.eq_iff_iff]
  simp
theorem eqvAll_strD : ∀ ss ts : List Str2, PyData.eqvAll (ss.map strD) (ts.map strD) = decide (ss = ts)
  | [], [] => by simp [PyData.eqvAll]
  | [], t :: ts => by simp [PyData.eqvAll]
  | s :: ss, [] => by simp [PyData.eqvAll]
  | s :: ss, t :: ts => by
    simp only [List.map_cons, PyData.eqvAll, eqv_strD, eqvAll_strD ss ts, List.cons.injEq]
    rw [Bool.eq_iff_iff]
    simp
theorem eqv_nfG (ss ts : List Str2) : PyData.eqv (nfD ss) (nfD ts) = decide (ss = ts) := by
  show PyData.eqv (.tuple (ss.map strD)) (.tuple (ts.map strD)) = _
  rw [← eqvAll_strD]
  simp [PyData.eqv]
section
variable {P : Program} {w : World} {K : PySem.W.Frag} {mg : Str → Option Value} {base : Heap}
def spEqG (K : PySem.W.Frag) (CR : Addr) : Sp := fun vs H Q _ => ∃ (x y : V) (nx : List Str2), vs = [x, y] ∧ IsR K CR H x nx ∧ ((∃ ny, IsR K CR H y ny ∧ Q (.bl (decide (nx = ny))) H) ∨ (∃ T, KT K H y T ∧ Q (.bl false) H))
theorem ok_eqG {f CR : Addr} {fd : FuncData} {k : Nat} (F : Fun K "__eq__" "Range.__eq__" sEqR f fd) (mi : mg "isinstance" = none) (gR : mg "Range" = some (.ref CR)) (cR : Cls K CR) (nR : NoAttr K CR "_stretches") (R : RTy K CR) : FnOk P w K mg base CX0 (k + 1) f fd ["self", "other"] (spEqG K CR) := by
  refine F.ok scEqR (fun vs H Q E h => ?_) (fun cdv A outer s H vs Q E hr h => ?_)
  · obtain ⟨x, y, nx, rfl, _⟩ := h
    rfl
  · obtain ⟨x, y, nx, rfl, hx, h⟩ := h
    refine ⟨_, pss_one (ps_ret (pe_and (pe_callB call_isi (by rfl) mi (by decide +kernel) (pa_cons (pv 1) (pa_cons (pe_glob (v := .ref CR) (by rfl) gR rfl) pa_nil))) (pe_one (pe_cmpR (op_eqD hr.units) (pe_fld (pv 0) rfl) (pe_fld (pv 1) rfl) (nomark _))))), ?_⟩
    rcases h with ⟨ny, hy, q⟩ | ⟨T, hT, q⟩
    · obtain ⟨a, dx, t, zs, rfl, ha, ht, hz⟩ := hx
      obtain ⟨b, dy, u, ys, rfl, hb, hu, hy⟩ := hy
      refine ⟨_, rfl, .ref b, .ref CR, .ref CR, .ref CR, true, rfl, .own _, R.ty _ _ _ _ hb, R.yes, _, rfl, iteT ?_⟩
      refine ⟨_, rfl, a, CR, dx, _, .ref t, rfl, ha, cR, nR, by simp [List.lookup], _, rfl, b, CR, dy, _, .ref u, rfl, hb, cR, nR, by simp [List.lookup], ?_⟩
      refine ⟨_, _, dp_nf ht hz, dp_nf hu hy, shaped_nf _, shaped_nf _, ?_⟩
      rw [eqv_nfG]
      exact q
    · exact ⟨_, rfl, y, .ref CR, .type T, .ref CR, false, rfl, .own _, hT.ty, R.no T hT.name, _, rfl, iteF q⟩
/-- what the operators of Range promise -/
structure ROps (P : Program) (w : World) (K : PySem.W.Frag) (mg : Str → Option Value) (base : Heap) (CR CX : Addr) (k : Nat) : Prop where
  and_ : ∃ f fd, FnOk P w K mg base (L2.CX P w) k f fd ["self", "other"] (spBin comV K CR CX) ∧ BinF K CR f "and" ∧ Binds K fd ["self", "other"] []
  or_ : ∃ f fd, FnOk P w K mg base (L2.CX P w) k f fd ["self", "other"] (spBin orV K CR CX) ∧ BinF K CR f "or" ∧ Binds K fd ["self", "other"] []
  sub_ : ∃ f fd, FnOk P w K mg base (L2.CX P w) k f fd ["self", "other"] (spBin subV K CR CX) ∧ BinF K CR f "sub" ∧ Binds K fd ["self", "other"] []
  inv_ : ∃ f fd, FnOk P w K mg base (L2.CX P w) k f fd ["self"] (spUn K CR) ∧ PySem.W.findIn K (.ref CR) "__invert__" = some (some (.ref f)) ∧ PySem.W.isFn K (.ref f) = true ∧ Binds K fd ["self"] []
  eq_ : ∃ f fd, FnOk P w K mg base CX0 k f fd ["self", "other"] (spEqG K CR) ∧ PySem.W.findIn K (.ref CR) "__eq__" = some (some (.ref f)) ∧ PySem.W.isFn K (.ref f) = true ∧ Binds K fd ["self", "other"] [] ∧ PySem.W.findIn K (.ref CR) "__ne__" = some (some (.builtin "object.__ne__")) ∧ PySem.W.mroIn K CR (.type "object") = some true
  nf : ∀ T ∈ ["NoneType", "bool", "int", "str", "list", "tuple"], PySem.W.notFirst K CR (.type T) = true
end
section
variable {X : Cx} {CR CX : Addr} {k : Nat} {E : XK}
/-- x == y, x != y -/
def rOwnE (K : PySem.W.Frag) (C : Addr) (sp : Sp) (E : XK) (g : Bool → Bool) : R2 := fun x y H Q => ∃ a dx fs, x = .ref a ∧ H a = some (.ins C dx fs) ∧ ((∃ b dy gs, y = .ref b ∧ H b = some (.ins C dy gs)) ∨ ∃ T, KT K H y T ∧ PySem.W.notFirst K C (.type T) = true) ∧ sp [x, y] H (fun v H' => ∃ r, v = .bl r ∧ Q (.bl (g r)) H') E
theorem op_eqG (R : ROps X.prog X.w X.K X.mg X.base CR CX k) (hr : Room k X.A) : OpR X (compareOp .Eq) (rOwnE X.K CR (spEqG X.K CR) E0 id) := by
  obtain ⟨f, fd, F, hs, hf, hb, _, _⟩ := R.eq_
  intro pins s σ H x y v u Q I rx ry h
  obtain ⟨a, dx, fs, rfl, ha, ko, hsp⟩ := h
  obtain rfl : v = Value.ref a := rx
  obtain ⟨mA, J, _⟩ := ins_get I.hok ha
  obtain ⟨od, J, _⟩ := J.look
  have run := wpAny_mono (run_at (x := .ref a) F hb pass0 rfl hr I rfl ry hsp) (fun w s' (q : EP X pins σ _ w s') => show ∃ r, w = .bool r ∧ EP X pins σ Q (.bool r) s' from by
    obtain ⟨z, H', I', rz, r, rfl, q⟩ := q
    cases rz
    exact ⟨r, rfl, .bl r, H', I', rfl, q⟩) fun _ _ z => z
  show wpAny _ _ (richCompare .Eq (.ref a) u) _ _ _
  rcases ko with ⟨b, dy, gs, rfl, hbb⟩ | ⟨T, hT, nf⟩
  · exact rc_eqOwn hr.units0 I.kIn J (looks_ko I ry (.ins hbb)) (by simp [PySem.W.notFirst]) hs hf run
  · exact rc_eqOwn hr.units0 I.kIn J (looks_kt I ry hT) nf hs hf run
theorem op_neG (R : ROps X.prog X.w X.K X.mg X.base CR CX k) (hr : Room (k + 1) X.A) : OpR X (compareOp .NotEq) (rOwnE X.K CR (spEqG X.K CR) E0 not) := by
  obtain ⟨f, fd, F, hs, hf, hb, hne, hm⟩ := R.eq_
  intro pins s σ H x y v u Q I rx ry h
  obtain ⟨a, dx, fs, rfl, ha, ko, hsp⟩ := h
  obtain rfl : v = Value.ref a := rx
  obtain ⟨mA, J, _⟩ := ins_get I.hok ha
  obtain ⟨od, J, _⟩ := J.look
  have run := wpAny_mono (run_at (A := X.A.in1) (x := .ref a) F hb pass0 rfl hr.in1 I rfl ry hsp) (fun w s' (q : EP X pins σ _ w s') => show ∃ r, w = .bool r ∧ EP X pins σ Q (.bool (!r)) s' from by
    obtain ⟨z, H', I', rz, r, rfl, q⟩ := q
    cases rz
    exact ⟨r, rfl, .bl (!r), H', I', rfl, q⟩) fun _ _ z => z
  show wpAny _ _ (richCompare .NotEq (.ref a) u) _ _ _
  rcases ko with ⟨b, dy, gs, rfl, hbb⟩ | ⟨T, hT, nf⟩
  · exact rc_neOwn (by have := hr.un; omega) I.kIn J (looks_ko I ry (.ins hbb)) (by simp [PySem.W.notFirst]) hs hf hne hm run
  · exact rc_neOwn (by have := hr.un; omega) I.kIn J (looks_kt I ry hT) nf hs hf hne hm run
theorem op_andG (R : ROps X.prog X.w X.K X.mg X.base CR CX k) (hr : Room k X.A) (hx : Passes (L2.CX X.prog X.w) X E) : OpR X (binaryOp .BitAnd) (rOwnB X.K CR (spBin comV X.K CR CX) E) := by
  obtain ⟨f, fd, F, B, hb⟩ := R.and_
  exact op_bin F hr B hb hx
theorem op_orG (R : ROps X.prog X.w X.K X.mg X.base CR CX k) (hr : Room k X.A) (hx : Passes (L2.CX X.prog X.w) X E) : OpR X (binaryOp .BitOr) (rOwnB X.K CR (spBin orV X.K CR CX) E) := by
  obtain ⟨f, fd, F, B, hb⟩ := R.or_
  exact op_bin F hr B hb hx
theorem op_subG (R : ROps X.prog X.w X.K X.mg X.base CR CX k) (hr : Room k X.A) (hx : Passes (L2.CX X.prog X.w) X E) : OpR X (binaryOp .Sub) (rOwnB X.K CR (spBin subV X.K CR CX) E) := by
  obtain ⟨f, fd, F, B, hb⟩ := R.sub_
  exact op_bin F hr B hb hx
theorem un_invG (R : ROps X.prog X.w X.K X.mg X.base CR CX k) (hr : Room k X.A) (hx : Passes (L2.CX X.prog X.w) X E) : UnR X (unaryOp .Invert) (rOwnU CR (spUn X.K CR) E) := by
  obtain ⟨f, fd, F, hs, hf, hb⟩ := R.inv_
  exact un_invO F hr hs hf hb hx
end
section
variable {K : PySem.W.Frag} {H : Hp} {CR CX : Addr} {E : XK} {Q : VK} {x y : V} {nx ny : List Str2}
theorem IsR.ins (h : IsR K CR H x nx) : ∃ a dx fs, x = .ref a ∧ H a = some (.ins CR dx fs) := by
  obtain ⟨a, dx, t, zs, rfl, h1, _⟩ := h
  exact ⟨a, dx, _, rfl, h1⟩
theorem eq_read {g : Bool → Bool} (hx : IsR K CR H x nx) (hy : IsR K CR H y ny) (q : Q (.bl (g (decide (nx = ny)))) H) : rOwnE K CR (spEqG K CR) E0 g x y H Q := by
  obtain ⟨a, dx, fs, rfl, h1⟩ := hx.ins
  exact ⟨a, dx, fs, rfl, h1, .inl hy.ins, _, y, nx, rfl, hx, .inl ⟨ny, hy, _, rfl, q⟩⟩
theorem eq_readT {T : String} {g : Bool → Bool} (hx : IsR K CR H x nx) (hy : KT K H y T) (nf : PySem.W.notFirst K CR (.type T) = true) (q : Q (.bl (g false)) H) : rOwnE K CR (spEqG K CR) E0 g x y H Q := by
  obtain ⟨a, dx, fs, rfl, h1⟩ := hx.ins
  exact ⟨a, dx, fs, rfl, h1, .inr ⟨T, hy, nf⟩, _, y, nx, rfl, hx, .inr ⟨T, hy, _, rfl, q⟩⟩
theorem bin_read {g : List Str2 → List Str2 → List Str2} (hx : IsR K CR H x nx) (hy : IsR K CR H y ny) (fx : NF nx) (fy : NF ny) (lx : nx.length ≤ 90) (ly : ny.length ≤ 90) (q : ∀ (H' : Hp) (z : Addr), Same H H' → H z = none → IsR K CR H' (.ref z) (g nx ny) → Q (.ref z) H') : rOwnB K CR (spBin g K CR CX) E x y H Q := by
  obtain ⟨a, dx, fs, rfl, h1⟩ := hx.ins
  exact ⟨a, dx, fs, rfl, h1, .inl hy.ins, _, y, nx, rfl, hx, fx, lx, .inl ⟨ny, hy, fy, ly, q⟩⟩
theorem bin_readT {T : String} {g : List Str2 → List Str2 → List Str2} (hx : IsR K CR H x nx) (fx : NF nx) (lx : nx.length ≤ 90) (hy : KT K H y T) (q : ∀ H', Same H H' → E (.ref CX) none H') : rOwnB K CR (spBin g K CR CX) E x y H Q := by
  obtain ⟨a, dx, fs, rfl, h1⟩ := hx.ins
  exact ⟨a, dx, fs, rfl, h1, .inr ⟨T, hy⟩, _, y, nx, rfl, hx, fx, lx, .inr ⟨T, hy, q⟩⟩
theorem un_read (hx : IsR K CR H x nx) (fx : NF nx) (lx : nx.length ≤ 90) (q : ∀ (H' : Hp) (z : Addr), Same H H' → H z = none → IsR K CR H' (.ref z) (notV nx) → Q (.ref z) H') : rOwnU CR (spUn K CR) E x H Q := by
  obtain ⟨a, dx, fs, rfl, h1⟩ := hx.ins
  exact ⟨a, dx, fs, rfl, h1, _, nx, rfl, hx, fx, lx, q⟩
end
end Kw
set_option maxHeartbeats 1000000
namespace Kw
open PySem PySem.Spec PyProof.Rows L2 LamX
/-! ### _law_normal(e, lambda z: _law_has(y, z)) -/
/-- the reading: the normal form by the law's own look -/
abbrev tNormalR (K : PySem.W.Frag) (T : List (Addr × Str)) (t1 : TE) (i j : Nat) : TE := tLamP T (TTn K) t1 (tCall (spHas K) [] E0 (tCons (tVar i) (tCons (tVar j) tNil))) j
section
variable {X : Cx} {T : List (Addr × Str)} {k i j : Nat}
end
def lamPB (sc scope : Scope) (p : Str) : Bool :=
  decide (scope.kind = .function) && !scope.isCoroutine && !scope.isGenerator && decide (scope.names.lookup p = some .local) && (scope.names.all fun y => (!decide (y.2 = .local) || decide (y.1 = p)) && !decide (y.2 = .cell) && (!decide (y.2 = .free) || decide (sc.names.lookup y.1 = some .cell) || decide (sc.names.lookup y.1 = some .free)))
theorem lamP_by {sc scope : Scope} {p : Str} (h : lamPB sc scope p = true) : LamP sc scope p := by
  unfold lamPB at h
  simp only [Bool.and_eq_true, Bool.or_eq_true, Bool.not_eq_true', decide_eq_true_eq, decide_eq_false_iff_not, List.all_eq_true] at h
  obtain ⟨⟨⟨⟨h1, h2⟩, h3⟩, h4⟩, h5⟩ := h
  refine ⟨h1, h2, h3, h4, fun y hy => ?_, fun y hy => (h5 y hy).1.2, fun y hy e => ?_⟩
  · rcases (h5 _ (PySem.mem_of_lookup hy)).1.1 with z | z
    · exact absurd rfl z
    · exact z
  · rcases (h5 y hy).2 with (z | z) | z
    · exact absurd e z
    · exact .inl z
    · exact .inr z
end Kw
set_option maxHeartbeats 1000000
namespace Kw
open PySem PySem.Spec PyProof.Rows L2 LamX
/-! ### the law's tests, one by one -/
section
variable {K : PySem.W.Frag} {H : Hp} {σ : L2.St}
abbrev rRp (K : PySem.W.Frag) : List V → Hp → VK → Prop := fun xs H Q => ∃ a b1 b2, xs = [.ref a] ∧ SqL K H a [.bl b1, .bl b2] ∧ Q (.str (twoB b1 b2)) H
/-- the promise answers b for x, from any heap that keeps H -/
def Says (sp : Sp) (H : Hp) (x : V) (b : Bool) : Prop := ∀ (H1 : Hp) (Q1 : VK) (E : XK), Same H H1 → (∀ H2, Same H1 H2 → Q1 (.bl b) H2) → sp [x] H1 Q1 E
abbrev tAt (sp : Sp) (i : Nat) : TE := tCall sp [] E0 (tCons (tVar i) tNil)
/-- repr([f(x), f(v=x)]) != repr([g(x)] * 2) is False -/
theorem twice_read {x : V} {b : Bool} {s1 s2 s3 : Sp} {i : Nat} {Q : Bool → Hp → Prop} (hi : σ[i]? = some (some x)) (h1 : Says s1 H x b) (h2 : Says s2 H x b) (h3 : Says s3 H x b) (q : ∀ H', Same H H' → Q false H') :
    tTest (tOp rNe (tCB (rRp K) (tCons (tLst (tCons (tAt s1 i) (tCons (tAt s2 i) tNil))) tNil)) (tCB (rRp K) (tCons (tOp rRep (tLst (tCons (tAt s3 i) tNil)) (tC (.int 2))) tNil))) σ H Q := by
  refine ⟨x, hi, h1 H _ _ (Same.refl H) fun Ha sa => ⟨x, hi, h2 Ha _ _ sa fun Hb sb => ⟨by show 2 ≤ sizeLine; decide, fun l1 hl1 => ⟨l1, b, b, rfl, .inl (.inl upd_same), ?_⟩⟩⟩⟩
  have t1 := same_upd (o := .lst [.bl b, .bl b]) hl1
  refine ⟨x, hi, h3 _ _ _ ((sa.trans sb).trans t1) fun Hc sc => ⟨by show 1 ≤ sizeLine; decide, fun l2 hl2 => ?_⟩⟩
  have t2 := same_upd (o := .lst [.bl b]) hl2
  refine ⟨l2, 2, [.bl b], rfl, rfl, upd_same, by decide, by decide, by show 1 * 2 ≤ sizeLine; decide, fun l3 hl3 => ?_⟩
  have t3 := same_upd (o := .lst (List.replicate (Int.toNat 2) [V.bl b]).flatten) hl3
  refine ⟨l3, b, b, rfl, .inl (.inl upd_same), rfl, false, ?_, q _ (((((sa.trans sb).trans t1).trans sc).trans t2).trans t3)⟩
  simp
/-- next_version(version=v) != v[:2] + (v[2] + 1,) is False -/
theorem next_read {x : V} {v : Ver} {CV : Addr} {i : Nat} {Q : Bool → Hp → Prop} (hi : σ[i]? = some (some x)) (hv : IsVer K H x v) (ok : okV v) (q : ∀ H', Same H H' → Q false H') :
    tTest (tOp (rNeD K) (tCall (spNextV K CV) [] E0 (tCons (tVar i) tNil)) (tOp (rCatT K) (tSl (rSlT K) (tVar i) tNoPart (tPart (tC (.int 2)))) (tTup (tCons (tOp (rI0 fun i j => .int (i + j)) (tOp (rIxT K) (tVar i) (tC (.int 2))) (tC (.int 1))) tNil)))) σ H Q := by
  refine ⟨x, hi, x, rfl, .inl ⟨v, hv, ok, fun Ha n sa hn => ?_⟩⟩
  obtain ⟨a, rfl, ha⟩ := hv.same sa
  refine ⟨_, hi, 2, rfl, a, v3 v, rfl, ha, (by intro z; exact absurd z.2 (by show ¬ (2 = 3); decide)), fun p hp => ?_⟩
  have t1 := same_upd (o := .tup (cutV (v3 v) none (some 2))) hp
  refine ⟨_, hi, a, v3 v, 2, .int v.2.2, rfl, rfl, Same.sqT t1 ha, atI_nat (j := 2) rfl, _, 1, rfl, rfl, by show 1 ≤ sizeLine; decide, fun p2 hp2 => ?_⟩
  have t2 := same_upd (o := .tup [.int (v.2.2 + 1)]) hp2
  refine ⟨p, p2, _, _, rfl, rfl, .inl (.inl (t2 _ _ upd_same)), .inl (.inl upd_same), (by intro z; cases z), (by show 3 ≤ sizeLine; decide), (fun z => (nomatch z)), fun _ p3 hp3 => ?_⟩
  have t3 := same_upd (o := .tup (v3 (v.1, v.2.1, v.2.2 + 1))) hp3
  have tA := (t1.trans t2).trans t3
  refine ⟨_, _, dp_ver (IsVer.of (tA _ _ hn)), dp_ver (v := (v.1, v.2.1, v.2.2 + 1)) (IsVer.of upd_same), shaped_ver _, shaped_ver _, false, ?_, q _ (sa.trans tA)⟩
  rw [eqv_ver]
  rfl
/-- not due(x) and not isinstance(caught(lambda: next_version(x)), BadVersion) is False -/
theorem odd_read {x : V} {b : Bool} {CV CK : Addr} {T : List (Addr × Str)} {i : Nat} {Q : Bool → Hp → Prop} (hsub : PySem.W.exmOne K (.ref CV) (.ref CK) = some true) (kV : PySem.W.kitOne K (.ref CV) (.ref CV) = some true) (hi : σ[i]? = some (some x)) (hx : VerB K H x b) (hT : Tabs T H) (q : ∀ H', ExtN H H' → Tabs T H' → Q false H') :
    tAnd (tNot (tB (tAt (spVerB K) i))) (tNot (tB (tCB (fun xs H Q => ∃ (x c : V) (v : Option V) (cv : Value) (b : Bool), xs = [x, c] ∧ IsExc H x CV v ∧ ClsV c cv ∧ PySem.W.kitOne K (.ref CV) cv = some b ∧ Q (.bl b) H) (tCons (tCaughtN K T CV CK i) (tCons (tC (.ref CV)) tNil))))) σ H Q := by
  refine ⟨x, hi, x, b, rfl, hx, fun Ha sa => ⟨b, rfl, ?_⟩⟩
  cases b with
  | true => exact iteF (q _ (ExtN.same sa) (hT.ext sa))
  | false =>
    refine iteT ?_
    refine caughtN_read hsub hi (hT.ext sa) (hx.same sa) fun Hb y eb Tb hy => ?_
    exact ⟨y, .ref CV, none, .ref CV, true, rfl, hy, .own _, kV, true, rfl, q _ ((ExtN.same sa).trans eb) Tb⟩
end
end Kw
set_option maxHeartbeats 1000000
namespace Kw
open PySem PySem.Spec PyProof.Rows L2 LamX
section
variable {K : PySem.W.Frag} {H : Hp} {σ : L2.St}
theorem Strs.app {xs ys : List V} {ss ts : List Str2} (h : Strs K H xs ss) (g : Strs K H ys ts) : Strs K H (xs ++ ys) (ss ++ ts) := by
  have e := h.len
  refine ⟨by rw [List.length_append, List.length_append, e, g.len], fun i x s p q => ?_⟩
  by_cases hi : i < xs.length
  · rw [List.getElem?_append_left hi] at p
    rw [List.getElem?_append_left (e ▸ hi)] at q
    exact h.at_ i x s p q
  · rw [List.getElem?_append_right (Nat.le_of_not_lt hi)] at p
    rw [List.getElem?_append_right (by rw [← e]; exact Nat.le_of_not_lt hi), ← e] at q
    exact g.at_ _ x s p q
theorem Strs.part {xs : List V} {ss : List Str2} (h : Strs K H xs ss) (a b : Nat) : Strs K H ((xs.drop a).take b) ((ss.drop a).take b) := by
  refine ⟨by rw [List.length_take, List.length_take, List.length_drop, List.length_drop, h.len], fun i x s p q => ?_⟩
  rw [List.getElem?_take] at p q
  split at p
  · rename_i lt
    rw [if_pos lt, List.getElem?_drop] at q
    rw [List.getElem?_drop] at p
    exact h.at_ _ x s p q
  · cases p
/-- made, due = (Range(stretches=some), normal(ends(some), ..)) -/
theorem mk_read {T : List (Addr × Str)} {CR CE pS : Addr} {xs : List V} {ss : List Str2} {i j : Nat} {Q : VK} (hi : σ[i]? = some (some (.ref pS))) (hij : i ≠ j) (hj : j < σ.length) (hT : Tabs T H) (hS : H pS = some (.lst xs)) (hss : Strs K H xs ss) (oks : ∀ s ∈ ss, okS s) (hl : ss.length ≤ 5)
    (q : ∀ (H' : Hp) (x p D : Addr) (zs : List V) (ss' : List Str2), ExtN H H' → Tabs T H' → IsR K CR H' (.ref x) (ss'.foldl nfAdd []) → H' D = some (.tup zs) → Strs K H' zs (ss'.foldl nfAdd []) → ss'.Perm ss → ss'.Pairwise (fun p q => ¬ ltV q.1 p.1) → H' p = some (.tup [.ref x, .ref D]) → Q (.ref p) H') :
    tTup (tCons (tMakeK CR 0 1 (spInit K T CR CE) (fun vs zs => vs ++ zs) E0 tNil (tCons (tVar i) tNil)) (tCons (tNormalR K T (tCall (spEnds K) [] E0 (tCons (tVar i) tNil)) i j) tNil)) σ H Q := by
  have lx : xs.length ≤ 5 := by rw [hss.len]; exact hl
  show tMakeK CR 0 1 (spInit K T CR CE) (fun vs zs => vs ++ zs) E0 tNil (tCons (tVar i) tNil) σ H fun x H1 => tNormalR K T (tCall (spEnds K) [] E0 (tCons (tVar i) tNil)) i j σ H1 fun y H2 => [x, y].length ≤ sizeLine ∧ ∀ p, H2 p = none → Q (.ref p) (upd H2 p (.tup [x, y]))
  refine rngK_good hi hT (.inl (SqL.of hS)) (by omega) hss oks fun Ha x ss' ea Ta hR pm pw nx => ?_
  have hSa := ea _ _ hS fun ps z => nomatch z
  refine ⟨_, hi, pS, xs, ss, rfl, SqL.of hSa, ea.strs hss, oks, hl, fun Hb pe ks sb hpe kse kl pwk mk => ⟨Ta.ext sb, fun Hc ec Tc => ?_⟩⟩
  have eac : ExtN H Hc := (ea.trans (ExtN.same sb)).trans ec
  refine ⟨pe, ks, hasL ss, rfl, ec.sqL (SqL.of hpe), fun p hp => ⟨ec.sqT (kse p hp).1, (kse p hp).2⟩, kl, fun Hg pp Qg sg hpp qg => ?_, fun Hd D zs sd hD hz => ?_⟩
  · refine ⟨.ref pS, by rw [List.getElem?_set_ne (Ne.symm hij)]; exact hi, .ref pp.1, by rw [List.getElem?_set_self hj], pS, xs, ss, .ref pp.1, pp.2, rfl, SqL.of (sg _ _ (eac _ _ hS fun ps z => nomatch z)), (eac.strs hss).same sg, by omega, ⟨pp.1, rfl, Same.sqT sg (ec.sqT (kse pp hpp).1)⟩, fun H2 s2 => qg H2 s2⟩
  · rw [← nf_main oks pwk mk (fun s => pm.mem_iff) pw] at hz
    refine ⟨by show 2 ≤ sizeLine; decide, fun p hp => ?_⟩
    have sp := same_upd (o := .tup [.ref x, .ref D]) hp
    have eF : ExtN Ha _ := ((ExtN.same sb).trans ec).trans (ExtN.same (sd.trans sp))
    exact q _ x p D zs ss' (ea.trans eF) ((Tc.ext sd).ext sp) (hR.ext eF) (sp _ _ hD) (hz.same sp) pm pw upd_same
/-- what has is asked of the normal form -/
theorem nf_has {ss ss' : List Str2} (oks : ∀ s ∈ ss, okS s) (pm : ss'.Perm ss) (pw : ss'.Pairwise fun p q => ¬ ltV q.1 p.1) (v : Ver) : hasL (ss'.foldl nfAdd []) v = hasL ss v := by
  obtain ⟨_, b⟩ := nf_fold ss' [] ⟨fun s h => (nomatch h), List.Pairwise.nil⟩ (fun t ht => (nomatch ht)) pw fun s hs => oks s (pm.mem_iff.mp hs)
  rw [b v, hasL_mem (fs := ss') (gs := ss) fun s => pm.mem_iff]
  rfl
abbrev rTupOf (K : PySem.W.Frag) : List V → Hp → VK → Prop := fun xs H Q => ∃ p ys, xs = [.ref p] ∧ ((SqL K H p ys ∧ ∀ l, H l = none → Q (.ref l) (upd H l (.tup ys))) ∨ (SqT K H p ys ∧ Q (.ref p) H))
/-- made.stretches != due or made != Range(tuple(shuffled(..))) or made == due is False -/
theorem same_read {T : List (Addr × Str)} {CR CE pS x D d wl c : Addr} {B : Int} {xs zs : List V} {ss ss' : List Str2} {is i im ie : Nat} {Q : Bool → Hp → Prop} (his : σ[is]? = some (some (.ref d))) (hi : σ[i]? = some (some (.ref pS))) (him : σ[im]? = some (some (.ref x))) (hid : σ[ie]? = some (some (.ref D))) (S : StAt H d wl c B) (hB : B + 10 ≤ 1000000000000) (hT : Tabs T H)
    (hS : H pS = some (.lst xs)) (hn : pS ≠ wl) (hss : Strs K H xs ss) (oks : ∀ s ∈ ss, okS s) (hl : ss.length ≤ 5) (hR : IsR K CR H (.ref x) (ss'.foldl nfAdd [])) (hD : H D = some (.tup zs)) (hz : Strs K H zs (ss'.foldl nfAdd [])) (pm : ss'.Perm ss) (pw : ss'.Pairwise fun p q => ¬ ltV q.1 p.1) (nT : PySem.W.notFirst K CR (.type "tuple") = true)
    (q : ∀ H', StAt H' d wl c (B + 10) → Tabs T H' → FrX d wl H H' → Q false H') :
    tOr (tTest (tOp (rNeD K) (tProp CR (spGetR K CR) [] E0 (tVar im)) (tVar ie))) (tOr (tTest (tOp (rOwn K CR (spEqR K CR) E0 not) (tVar im) (tMake CR (spInit K T CR CE) [] E0 (tCons (tCB (rTupOf K) (tCons (tCall (spShuf K) [] E0 (tCons (tVar is) (tCons (tOp rCat (tVar i) (tSl (rSlL K) (tVar i) tNoPart (tPart (tC (.int 1))))) tNil))) tNil)) tNil)))) (tTest (tOp (rOwn K CR (spEqR K CR) E0 id) (tVar im) (tVar ie)))) σ H Q := by
  have lx : xs.length ≤ 5 := by rw [hss.len]; exact hl
  have hDt : SqT K H D zs := .inl (.inl hD)
  obtain ⟨kvs, hd⟩ := S.hd
  obtain ⟨ws, hw⟩ := S.hw
  show tProp CR (spGetR K CR) [] E0 (tVar im) σ H _
  refine get_read him hR fun t zs' ht hz' => ⟨.ref D, hid, _, _, dp_nf ht hz', dp_nf hDt hz, shaped_nf _, shaped_nf _, false, by rw [eqv_nf]; rfl, iteF ?_⟩
  refine ⟨.ref x, him, .ref d, his, .ref pS, hi, .ref pS, hi, 1, rfl, pS, xs, rfl, SqL.of hS, fun r1 k1 => ?_⟩
  have t1 := same_upd (o := .lst (cutV xs none (some 1))) k1
  have lc := cutV_length xs none (some 1)
  refine ⟨pS, r1, xs, cutV xs none (some 1), rfl, rfl, t1 _ _ hS, upd_same, Nat.le_of_lt (small1000 (by omega)), fun r2 k2 => ?_⟩
  have t2 := same_upd (o := .lst (xs ++ cutV xs none (some 1))) k2
  have tA := t1.trans t2
  have n2 : r2 ≠ wl := (ne_of_none hw (t1.free k2)).symm
  have hcut : Strs K H (cutV xs none (some 1)) ((ss.drop (HT.sIx xs.length 0 none)).take (HT.sIx xs.length xs.length (some 1) - HT.sIx xs.length 0 none)) := hss.part _ _
  generalize hss2 : (ss.drop (HT.sIx xs.length 0 none)).take (HT.sIx xs.length xs.length (some 1) - HT.sIx xs.length 0 none) = s2 at hcut
  have ms2 : ∀ s ∈ s2, s ∈ ss := fun s hs => by rw [← hss2] at hs; exact List.mem_of_mem_drop (List.mem_of_mem_take hs)
  have l2 : s2.length ≤ 5 := by rw [← hcut.len]; omega
  refine ⟨d, wl, c, B, r2, _, ss ++ s2, rfl, S.same tA, hB, upd_same, n2, (hss.app hcut).same tA, by rw [List.length_append]; omega, fun H3 p ys ss3 np hp hys mem len S3 F3 => ?_⟩
  have T3 : Tabs T H3 := Tabs.fr2 (hT.ext tA) (S.same tA) F3
  have X3 : FrX d wl H H3 := (FrX.ofN (ExtN.same tA)).trans (FrX.of2 F3)
  refine ⟨_, _, rfl, .inl ⟨SqL.of hp, fun l hl3 => ?_⟩⟩
  have t3 := same_upd (o := .tup ys) hl3
  intro x9 dx9 na9 nd9 ne9
  have len3 : ss3.length ≤ 10 := by rw [len, List.length_append]; omega
  have ok3 : ∀ s ∈ ss3, okS s := fun s hs => ((List.mem_append.mp ((mem s).mp hs)).elim (oks s) fun h => oks s (ms2 s h))
  refine rngA (T3.ext t3) (.inr (.inl (.inl upd_same))) (by rw [hys.len]; omega) (hys.same t3) ok3 na9 nd9 fun H9 ss9 e9 T9 R9 pm9 pw9 => ?_
  have X9 : FrX d wl H H9 := (X3.trans (FrX.ofN (ExtN.same t3))).trans (FrX.ofN e9)
  have Rx : IsR K CR H9 (.ref x) (ss'.foldl nfAdd []) := hR.frX S X9
  have nfe : ss9.foldl nfAdd [] = ss'.foldl nfAdd [] := nf_same pm9 pm ok3 oks pw9 pw fun s => by
    rw [mem s, List.mem_append]
    exact ⟨fun h => h.elim (fun h => h) (ms2 s), .inl⟩
  rw [nfe] at R9
  obtain ⟨a1, dx1, u1, w1, q1, h1, g1, z1⟩ := id Rx
  obtain ⟨a2, dx2, u2, w2, q2, h2, g2, z2⟩ := id R9
  cases q1
  cases q2
  refine ⟨x, dx1, _, .ref CR, rfl, h1, .ins h2, by simp [PySem.W.notFirst], _, _, rfl, .inl ⟨_, Rx, R9, true, rfl, false, rfl, iteF ?_⟩⟩
  have hD9 : SqT K H9 D zs := X9.sqT S hDt
  exact ⟨.ref x, him, .ref D, hid, x, dx1, _, .type "tuple", rfl, h1, .tup hD9, nT, _, _, rfl, .inr ⟨D, zs, rfl, hD9, false, rfl, false, rfl, q H9 (((S3.same t3).ext e9)) T9 X9⟩⟩
/-- [p for p in points(some) if (p in made) != has(some, p)] != [] is False -/
theorem points_read {CR pS x : Addr} {xs : List V} {ss ss' : List Str2} {i im j : Nat} {Q : Bool → Hp → Prop} (hi : (wipe σ [j])[i]? = some (some (.ref pS))) (him : (wipe σ [j])[im]? = some (some (.ref x))) (hi0 : σ[i]? = some (some (.ref pS))) (nij : j ≠ i) (nmj : j ≠ im) (hj : j < (wipe σ [j]).length) (hwp : ∀ y, wipe ((wipe σ [j]).set j y) [j] = wipe σ [j])
    (hS : H pS = some (.lst xs)) (hss : Strs K H xs ss) (oks : ∀ s ∈ ss, okS s) (hl : ss.length ≤ 5) (hR : IsR K CR H (.ref x) (ss'.foldl nfAdd [])) (pm : ss'.Perm ss) (pw : ss'.Pairwise fun p q => ¬ ltV q.1 p.1) (q : ∀ H', Same H H' → Q false H') :
    tTest (tOp (rNeD K) (tLc (iList K (tCall (spPoints K) [] E0 (tCons (tVar i) tNil))) (gName j) (tTest (tOp rNe (tOp (rOwnIn CR (spHasR K CR) E0) (tVar j) (tVar im)) (tCall (spHas K) [] E0 (tCons (tVar i) (tCons (tVar j) tNil))))) (tVar j) [j]) (tLst tNil)) σ H Q := by
  have ln : (ss'.foldl nfAdd []).length ≤ 5 := by
    have := nf_len ss' []
    have e := pm.length_eq
    simp only [List.length_nil, Nat.zero_add] at this
    omega
  refine ⟨.ref pS, hi0, pS, xs, ss, rfl, SqL.of hS, hss, oks, hl, fun Hp pp ks sp hpp kok kl => ⟨pp, rfl, ⟨_, SqL.of hpp⟩, fun D hD => ?_⟩⟩
  refine lc_list (K := K) (a := pp) (xs := rf ks) (fun i H' => Same Hp H' ∧ H' D = some (.lst [])) ⟨same_upd hD, upd_same⟩ (fun i H' _ R => SqL.of (R.1 _ _ hpp)) ?_ ?_
  · rintro n y H' hy ⟨s1, hD1⟩
    obtain ⟨e, he, rfl⟩ := List.mem_map.mp (List.mem_of_getElem? hy)
    refine ⟨hwp _, ?_⟩
    have sA := sp.trans s1
    have hv : IsVer K H' (.ref e.1) e.2 := ⟨e.1, rfl, Same.sqT s1 (kok e he).1⟩
    have gi : ((wipe σ [j]).set j (some (V.ref e.1)))[i]? = some (some (.ref pS)) := by rw [List.getElem?_set_ne nij]; exact hi
    have gm : ((wipe σ [j]).set j (some (V.ref e.1)))[im]? = some (some (.ref x)) := by rw [List.getElem?_set_ne nmj]; exact him
    have gj : ((wipe σ [j]).set j (some (V.ref e.1)))[j]? = some (some (.ref e.1)) := by rw [List.getElem?_set_self hj]
    refine ⟨_, gj, _, gm, in_readR (hR.same sA) (by omega) hv (kok e he).2 fun Ha sa => ?_⟩
    refine ⟨_, gi, _, gj, pS, xs, ss, _, e.2, rfl, SqL.of (sa _ _ (sA _ _ hS)), (hss.same sA).same sa, by omega, hv.same sa, fun Hb sb => ⟨rfl, false, ?_, iteF ⟨s1.trans (sa.trans sb), sb _ _ (sa _ _ hD1)⟩⟩⟩
    rw [nf_has oks pm pw]
    simp [hasL]
  · rintro H' ⟨s1, hD1⟩
    refine ⟨Nat.zero_le _, fun l hl => ?_⟩
    have t1 := same_upd (o := .lst []) hl
    refine ⟨.list [], .list [], .lst (SqL.of (t1 _ _ hD1)) .nil, .lst (SqL.of upd_same) .nil, shaped_nil, shaped_nil, false, ?_, q _ ((sp.trans s1).trans t1)⟩
    rw [show PyData.eqv (.list []) (.list []) = true from eqv_nil []]
    rfl
theorem VerB.frX {H' : Hp} {x : V} {b : Bool} {d w c : Addr} {B : Int} (h : VerB K H x b) (S : StAt H d w c B) (F : FrX d w H H') (n1 : x ≠ .ref d) (n2 : x ≠ .ref w) : VerB K H' x b := by
  cases h with
  | tup t f e => exact .tup (F.sqT S t) f e
  | oth o =>
    cases o with
    | flat f => exact .oth (.flat f)
    | lst e => exact .oth (.lst (F _ _ (fun z => n1 (by rw [z])) (fun z => n2 (by rw [z])) e fun ps z => nomatch z))
    | dct e => exact .oth (.dct (F _ _ (fun z => n1 (by rw [z])) (fun z => n2 (by rw [z])) e fun ps z => nomatch z))
/-- not due(x) and x in made or not refused_right(state, some) is False -/
theorem last_read {T : List (Addr × Str)} {CR pS mx d wl c : Addr} {B : Int} {x : V} {b : Bool} {xs : List V} {ss nf : List Str2} {is i im ip : Nat} {Q : Bool → Hp → Prop} (his : σ[is]? = some (some (.ref d))) (hi : σ[i]? = some (some x)) (him : σ[im]? = some (some (.ref mx))) (hip : σ[ip]? = some (some (.ref pS)))
    (S : StAt H d wl c B) (hB : B + 20 ≤ 1000000000000) (hT : Tabs T H) (hx : VerB K H x b) (hR : IsR K CR H (.ref mx) nf) (ln : nf.length ≤ 100) (hS : H pS = some (.lst xs)) (hn : pS ≠ wl) (hss : Strs K H xs ss) (oks : ∀ s ∈ ss, okS s) (hl : ss.length ≤ 5)
    (q : ∀ H', Tabs T H' → StAt H' d wl c (B + 20) → FrX d wl H H' → Q false H') :
    tOr (tAnd (tNot (tB (tAt (spVerB K) i))) (tTest (tOp (rOwnIn CR (spHasR K CR) E0) (tVar i) (tVar im)))) (tNot (tB (tCall (spRefused K T) [] E0 (tCons (tVar is) (tCons (tVar ip) tNil))))) σ H Q := by
  have rest : ∀ Ha, Same H Ha → tNot (tB (tCall (spRefused K T) [] E0 (tCons (tVar is) (tCons (tVar ip) tNil)))) σ Ha Q := fun Ha sa =>
    ⟨.ref d, his, .ref pS, hip, d, wl, c, B, pS, xs, ss, rfl, S.same sa, hB, hT.ext sa, sa _ _ hS, hn, hss.same sa, oks, hl, fun Hb Tb Sb Fb => ⟨true, rfl, q Hb Tb Sb ((FrX.ofN (ExtN.same sa)).trans Fb)⟩⟩
  refine ⟨x, hi, x, b, rfl, hx, fun Ha sa => ⟨b, rfl, ?_⟩⟩
  cases b with
  | true => exact iteF (iteF (rest Ha sa))
  | false => exact iteT ⟨x, hi, .ref mx, him, in_readN (hR.same sa) ln (hx.same sa) fun Hb sb => ⟨false, rfl, iteF (rest Hb (sa.trans sb))⟩⟩
end
end Kw
set_option maxHeartbeats 1000000
namespace Kw
open PySem PySem.Spec PyProof.Rows L2 LamX
def spLaw (K : PySem.W.Frag) (T : List (Addr × Str)) : Sp := fun vs H Q _ => ∃ (a : Addr) (ns : List Int), vs = [.ref a] ∧ SqL K H a (ns.map V.int) ∧ ns.length ≤ 63 ∧ Tabs T H ∧ ∀ H', Q (.bl true) H'
end Kw
set_option maxHeartbeats 2000000
namespace Kw
open PySem PySem.Spec PyProof.Rows L2 LamX
/-! ### the end: the law's def is called where no repr is under way -/
section
variable {P : Program} {w : World} {K : PySem.W.Frag} {mg : Str → Option Value}
/-- the script's object -/
abbrev scrO (us : List Value) : Obj := { cls := .type "list", data := .seq us.toArray }
abbrev tabO : Obj := { cls := .none, data := .fields #[] }
/-- what is tracked when the law is called: the tables tb, and the script at a if the top has not written it down -/
def first (tb : List Addr) (fresh : Bool) (a : Addr) (us : List Value) (xs : List V) : Hp := fun b =>
  if b ∈ tb then some (.tbl #[]) else if (decide (b = a) && fresh) = true then some (.frz (scrO us) (.lst xs)) else none
section
variable {tb : List Addr} {fresh : Bool} {a b : Addr} {us : List Value} {xs : List V} {u : HO}
theorem first_tab (h : b ∈ tb) : first tb fresh a us xs b = some (.tbl #[]) := if_pos h
theorem first_of (h : first tb fresh a us xs b = some u) : (b ∈ tb ∧ u = .tbl #[]) ∨ (b = a ∧ fresh = true ∧ b ∉ tb ∧ u = .frz (scrO us) (.lst xs)) := by
  unfold first at h
  by_cases m : b ∈ tb
  · rw [if_pos m] at h
    exact .inl ⟨m, (Option.some.inj h).symm⟩
  · rw [if_neg m] at h
    split at h
    · rename_i c
      rw [Bool.and_eq_true, decide_eq_true_eq] at c
      exact .inr ⟨c.1, c.2, m, (Option.some.inj h).symm⟩
    · cases h
theorem first_out (h1 : b ∉ tb) (h2 : b ≠ a) : first tb fresh a us xs b = none := by
  cases e : first tb fresh a us xs b with
  | none => rfl
  | some u =>
    rcases first_of e with z | z
    · exact absurd z.1 h1
    · exact absurd z.1 h2
theorem first_scr (h1 : a ∉ tb) : first tb true a us xs a = some (.frz (scrO us) (.lst xs)) := by
  unfold first
  rw [if_neg h1, if_pos (by simp)]
end
/-- the heap at the law's call -/
structure AtCall (P : Program) (w : World) (K : PySem.W.Frag) (mg : Str → Option Value) (s : Shared) (tb : List Addr) (a : Addr) (us : List Value) (ns : List Int) : Prop where
  kin : K.In s.heap
  glob : s.heap.Ns mainGlobals mg
  blt : ∃ mb, s.heap.Ns builtinsNs mb ∧ ∀ x : Str, x ≠ "__name__" → mb x = bootBuiltins x
  lim : s.heap.NoLimit
  gens : s.gens = #[]
  tabs : ∀ b ∈ tb, s.heap.get? b = some tabO
  notK : ∀ b ∈ tb, K.lookup b = none
  scr : s.heap.get? a = some (scrO us)
  isI : IntsAre us ns
  len : ns.length ≤ sizeLine
section
variable {s : Shared} {tb : List Addr} {a : Addr} {us : List Value} {ns : List Int} (Z : AtCall P w K mg s tb a us ns)
include Z
theorem AtCall.out : a ∉ tb := fun m => by
  have e := Z.tabs a m
  rw [Z.scr] at e
  cases congrArg Obj.data (Option.some.inj e)
abbrev trk0 (K : PySem.W.Frag) (tb : List Addr) (a : Addr) (us : List Value) (ns : List Int) : Hp := first tb (K.lookup a).isNone a us (ns.map V.int)
theorem AtCall.lenV : us.length = ns.length := Z.isI.length.symm.symm
/-- a dict of the module, or an object that is neither a list nor a table, is not tracked -/
theorem AtCall.free {b : Addr} {o : Obj} (e : s.heap.get? b = some o) (n1 : o ≠ scrO us) (n2 : o ≠ tabO) : trk0 K tb a us ns b = none := by
  cases q : trk0 K tb a us ns b with
  | none => rfl
  | some u =>
    rcases first_of q with ⟨m, _⟩ | ⟨rfl, _, _, _⟩
    · rw [Z.tabs b m] at e
      exact absurd (Option.some.inj e).symm n2
    · rw [Z.scr] at e
      exact absurd (Option.some.inj e).symm n1
theorem AtCall.keepD {b : Addr} {o : Obj} (e : s.heap.get? b = some o) (n1 : o ≠ scrO us) (n2 : o ≠ tabO) : (hidT s.heap (trk0 K tb a us ns)).get? b = some o := hidT_get e (Z.free e n1 n2)
theorem AtCall.nsB {b : Addr} {m : Str → Option Value} (h : s.heap.Ns b m) : (hidT s.heap (trk0 K tb a us ns)).Ns b m := by
  obtain ⟨o, es, ep, e, d, r⟩ := h
  exact ⟨o, es, ep, Z.keepD e (fun z => by rw [z] at d; cases d) (fun z => by rw [z] at d; cases d), d, r⟩
theorem AtCall.kinB : K.In (hidT s.heap (trk0 K tb a us ns)) := fun b o e => by
  refine hidT_get (Z.kin b o e) ?_
  cases q : trk0 K tb a us ns b with
  | none => rfl
  | some u =>
    rcases first_of q with ⟨m, _⟩ | ⟨rfl, f, _, _⟩
    · rw [Z.notK b m] at e
      cases e
    · rw [e] at f
      cases f
theorem AtCall.ok : HOk P w (trk0 K tb a us ns) s.heap := fun b u e => by
  rcases first_of e with ⟨m, rfl⟩ | ⟨rfl, _, _, rfl⟩
  · exact Z.tabs b m
  · exact ⟨Z.scr, by rw [List.length_map]; exact Z.len, us, _, vals_ints Z.isI, Z.scr⟩
theorem AtCall.mod : L2.Mod K mg (hidT s.heap (trk0 K tb a us ns)) := by
  obtain ⟨mb, h1, h2⟩ := Z.blt
  obtain ⟨mc, h3, h4⟩ := Z.lim
  exact ⟨Z.kinB, Z.nsB Z.glob, ⟨mb, Z.nsB h1, h2⟩, mc, Z.nsB h3, h4⟩
theorem AtCall.env : Env0 P w K mg (hidT s.heap (trk0 K tb a us ns)) callerA [] s (trk0 K tb a us ns) where
  frames := rfl
  mod := Z.mod
  bs b o e := of_hidT e
  bsz := Nat.le_of_eq (hidT_size _ _)
  funs := trivial
  frf b hb := nomatch hb
  hok := Z.ok
  bare := .of_eq Z.gens
theorem AtCall.sq : SqL K (trk0 K tb a us ns) a (ns.map V.int) := by
  cases e : K.lookup a with
  | none => exact .inl (.inr ⟨scrO us, by show first tb (K.lookup a).isNone a us (ns.map V.int) a = _; rw [e]; exact first_scr Z.out⟩)
  | some o =>
    have q := Z.kin a o e
    rw [Z.scr] at q
    cases q
    exact .inr ⟨_, us.toArray, _, e, rfl, rfl, rfl, by rw [List.size_toArray, Z.lenV]; exact Z.len, by simpa using vals_ints Z.isI⟩
end
end
end Kw
set_option maxHeartbeats 2000000
namespace Kw
open PySem PySem.Spec PyProof.Rows L2 LamX
section
variable {P : Program} {w : World} {K : PySem.W.Frag} {mg : Str → Option Value} {s : Shared} {cs : List (Addr × Addr)} {a : Addr} {us : List Value} {ns : List Int}
abbrev BmAt (mg : Str → Option Value) (h : Heap) : Prop := ∃ (bm : Addr) (ob : Obj), mg "__builtins__" = some (.ref bm) ∧ bm ≠ builtinsNs ∧ h.get? bm = some ob ∧ ob.cls = .type "module" ∧ ob.dict = some builtinsNs ∧ ob.data = .plain
theorem AtCall.tabB (Z : AtCall P w K mg s (cs.map (·.2)) a us ns) (C : ∀ p ∈ cs, PySem.W.CodeHd s.heap p.1 p.2) (hbm : BmAt mg s.heap) : ∀ p ∈ cs, TabB (hidT s.heap (trk0 K (cs.map (·.2)) a us ns)) mg p.1 p.2 := by
  intro p hp
  have hm : p.2 ∈ cs.map (·.2) := List.mem_map.mpr ⟨p, hp, rfl⟩
  have ht := Z.tabs _ hm
  have hd := C p hp
  obtain ⟨bm, ob, b1, b2, b3, b4, b5, b6⟩ := hbm
  obtain ⟨og, es, ep, g1, g2, g3⟩ := id Z.glob
  have neG : mainGlobals ≠ p.2 := fun z => by
    rw [← z, g1] at ht
    cases ht
    cases g2
  constructor
  · obtain ⟨o, vs, file, tf, flags, tg, inF, text, tt, q1, q2, q3, q4, q5⟩ := hd
    refine ⟨o, vs, file, tf, flags, tg, inF, text, tt, Z.keepD q1 (fun z => ?_) (fun z => ?_), q2, q3, q4, q5⟩
    · rw [z] at q3
      cases q3
    · rw [z] at q2
      cases q2
  · refine ⟨bm, ob, b1, b2, fun z => ?_, fun z => ?_, Z.keepD b3 (fun z => ?_) (fun z => ?_), b4, b5, b6⟩
    · rw [z, g1] at b3
      cases b3
      rw [g2] at b6
      cases b6
    · rw [z, ht] at b3
      cases b3
      cases b5
    · rw [z] at b6
      cases b6
    · rw [z] at b6
      cases b6
  · exact neG
/-- what the caller asks of the law's end -/
abbrev EndOk (s : Shared) (r : Result) (s' : Shared) : Prop := r = .ok (.ret (.bool true)) ∧ OldK s.heap s'.heap ∧ s'.os = s.os ∧ AllBare s'.gens
theorem AtCall.end_ (Z : AtCall P w K mg s (cs.map (·.2)) a us ns) (C : ∀ p ∈ cs, PySem.W.CodeHd s.heap p.1 p.2) {H' : Hp} {s' : Shared} (un : Un (frs []) [] (trk0 K (cs.map (·.2)) a us ns) H' s.heap s'.heap) (ok : HOk P w H' s'.heap) : OldK s.heap s'.heap := by
  have nil : ∀ b : Addr, b ∉ ([] : List Addr) := fun b z => nomatch z
  have tabs : ∀ p ∈ cs, ∃ more : Array Value, s'.heap.get? p.2 = some { cls := .none, data := .fields more } := fun p hp => by
    obtain ⟨more, z⟩ := un.tbls p.2 #[] (first_tab (List.mem_map.mpr ⟨p, hp, rfl⟩))
    exact ⟨_, ok _ _ z⟩
  have keep : ∀ b o, b ∉ cs.map (·.2) → s.heap.get? b = some o → s'.heap.get? b = some o := fun b o nb e => by
    cases q : trk0 K (cs.map (·.2)) a us ns b with
    | none => exact un.keep b o e q (nil b) (nil b)
    | some u =>
      rcases first_of q with ⟨m, _⟩ | ⟨ha, _, _, hu⟩
      · exact absurd m nb
      · rw [hu] at q
        rw [ha, Z.scr] at e
        rw [ha]
        cases e
        exact (ok _ _ (un.frzs b _ _ q)).1 |> fun z => by rw [ha] at z; exact z
  refine ⟨fun b o e => ?_, fun b o e => ?_⟩
  · by_cases m : b ∈ cs.map (·.2)
    · obtain ⟨p, hp, rfl⟩ := List.mem_map.mp m
      have ht := Z.tabs _ m
      obtain ⟨more, hmore⟩ := tabs p hp
      rw [ht] at e
      cases e
      exact .inr (.inl ⟨((C p hp).tab ht).isCodeTable, rfl, #[], more, rfl, by rw [Array.empty_append]; exact hmore⟩)
    · exact .inl (keep b o m e)
  · by_cases m : b ∈ cs.map (·.2)
    · obtain ⟨p, hp, rfl⟩ := List.mem_map.mp m
      obtain ⟨more, hmore⟩ := tabs p hp
      exact ⟨_, hmore⟩
    · exact ⟨o, keep b o m e⟩
/-- the law's def, called by the claim's caller -/
theorem law_callG {fa : Addr} {fd : FuncData} {x : Str} {k : Nat} {sp : Sp} (Z : AtCall P w K mg s (cs.map (·.2)) a us ns) (C : ∀ p ∈ cs, PySem.W.CodeHd s.heap p.1 p.2) (hbm : BmAt mg s.heap) (hr : Room k callerA)
    (F : ∀ base : Heap, K.In base → base.Ns mainGlobals mg → (∀ p ∈ cs, TabB base mg p.1 p.2) → FnOkG P w K mg base CX0 k fa fd [x] sp) (hb : ∀ (s : Shared) (u : Value), BindsTo s fd ⟨[u], []⟩ [(x, u)])
    (hsp : ∀ H : Hp, (∀ p ∈ cs, H p.2 = some (.tbl #[])) → SqL K H a (ns.map V.int) → sp [.ref a] H (fun v _ => v = .bl true) fun _ _ _ => False) : codeAny (model P w) callerA (.call (.ref fa) ⟨[.ref a], []⟩) (EndOk s) s := by
  have promise := hsp (trk0 K (cs.map (·.2)) a us ns) (fun p hp => first_tab (List.mem_map.mpr ⟨p, hp, rfl⟩)) Z.sq
  have G := F _ Z.kinB (Z.nsB Z.glob) (Z.tabB C hbm)
  refine codeAny_mono (G.run callerA [] s _ ⟨[.ref a], []⟩ [.ref a] [.ref a] _ _ rfl hr Z.env (hb s (.ref a)) (.cons rfl .nil) promise) fun r s' h => ?_
  cases r with
  | error e => exact False.elim h
  | ok fl =>
    cases fl with
    | ret u =>
      obtain ⟨v, H', h1, h2, h3, h4, h5, h6⟩ := h
      cases (show v = .bl true from h6)
      cases (show u = Value.bool true from h5)
      exact ⟨rfl, Z.end_ C h3 h4, h1, h2⟩
    | next => exact False.elim h
    | brk => exact False.elim h
    | cont => exact False.elim h
end
/-- what has to be known of the law's def at the heap behind the top -/
def LawG (l : PySem.W.OpenLaw) (w : World) (K : PySem.W.Frag) (k : Nat) (mg : Str → Option Value) (fa : Addr) (h : Heap) : Prop :=
  ∃ (fd : FuncData) (cs : List (Addr × Addr)) (T : List (Addr × Str)), (∀ b ∈ cs.map (·.2), h.get? b = some tabO) ∧ (∀ b ∈ cs.map (·.2), K.lookup b = none) ∧ (∀ p ∈ cs, PySem.W.CodeHd h p.1 p.2) ∧ (∀ p ∈ T, p.1 ∈ cs.map (·.2)) ∧ (∀ (s : Shared) (u : Value), BindsTo s fd ⟨[u], []⟩ [("_law_script", u)]) ∧
    ∀ base : Heap, K.In base → base.Ns mainGlobals mg → (∀ p ∈ cs, TabB base mg p.1 p.2) → FnOkG l.prog w K mg base CX0 k fa fd ["_law_script"] (spLaw K T)
theorem walkG {l : PySem.W.OpenLaw} {k : Nat} {q : Program} {loose : List Str} {XP : (Str → Option Value) → Heap → Prop} {YP : World → Heap → Prop} {d : DefRec} {K : Params → PySem.W.Frag} (hn : l.most = some 63) (hdf : d.params.defaults = []) (hr : Room k callerA) (hY : ∀ (w : World) (h : Heap), YP w h → (K w.params).In h)
    (F : ∀ (w : World) (mg : Str → Option Value) (fa : Addr) (h : Heap), YP w h → (K w.params).In h → h.Ns mainGlobals mg → mg d.name = some (.ref fa) → LawG l w (K w.params) k mg fa h) : PySem.W.WalkO q loose XP YP l.row.toRowW d [] (fun f vs => PySem.call f vs) := by
  apply Att.attach_callB hn hdf
  intro w s0 s mg mb fa o pm cd doc a us ns G Y ho hd hcd hmg hobj hisI hlen hbits hgens
  have kin := hY w _ Y
  obtain ⟨fd, cs, T, t1, t2, t3, t4, t5, t6⟩ := F w mg fa _ Y kin G.T.g hmg
  have Z : AtCall l.prog w (K w.params) mg s (cs.map (·.2)) a us ns := ⟨kin, G.T.g, ⟨mb, G.T.b, G.T.builtins⟩, G.T.nolimit, hgens, t1, t2, hobj, hisI, Nat.le_trans hlen (by decide)⟩
  refine law_callG Z t3 G.T.bmain hr t6 t5 fun H hH hS => ⟨a, ns, rfl, hS, hlen, fun p hp => ?_, fun _ => rfl⟩
  obtain ⟨c, hc, ec⟩ := List.mem_map.mp (t4 p hp)
  refine ⟨#[], ?_, ?_, fun pos cv z => ?_⟩
  · rw [← ec]; exact hH c hc
  · exact trivial
  · have z2 : (none : Option Value) = some cv := z
    cases z2
end Kw
set_option maxHeartbeats 2000000
namespace Kw
open PySem PySem.Spec PyProof.Rows L2 LamX
/-! ### what the top has left, def by def -/
section
variable {K : PySem.W.Frag} {P : Program} {w : World} {mg : Str → Option Value} {base : Heap}
/-- the def x stands at the top; its function is at f, its code object at cd -/
structure TD (K : PySem.W.Frag) (x : Str) (st : Stmt) (f cd : Addr) : Prop where
  gl : PySem.W.nsIn K mainGlobals x = some (some (.ref f))
  ex : ∃ fd, FunC K x x st f fd cd
theorem td_mk {x : Str} {st : Stmt} {f cd : Addr} {oc kV doc pm ct : Value} {od an : Option Addr} {osl : Array (Option Value)} (a : PySem.W.nsIn K mainGlobals x = some (some (.ref f)))
    (l : K.lookup f = some ⟨oc, od, .func (PySem.W.fnOf x x (defArgs st) (defBody st) (defScope st) .none kV doc pm an (.ref cd) ct), osl⟩) (c : PySem.W.codeIn K (.ref cd) x = true) (k : PySem.W.keepIn K (.ref f) = true) : TD K x st f cd := ⟨a, _, ⟨oc, od, kV, doc, pm, an, ct, osl, rfl, l, c⟩, k⟩
/-- a method of Range -/
theorem fm_mk {x qual : Str} {st : Stmt} {f cd : Addr} {oc kV doc pm ct : Value} {od an : Option Addr} {osl : Array (Option Value)}
    (l : K.lookup f = some ⟨oc, od, .func (PySem.W.fnOf x qual (defArgs st) (defBody st) (defScope st) .none kV doc pm an (.ref cd) ct), osl⟩) (c : PySem.W.codeIn K (.ref cd) qual = true) (k : PySem.W.keepIn K (.ref f) = true) : ∃ fd, Fun K x qual st f fd := ⟨_, ⟨oc, od, kV, doc, pm, an, _, ct, osl, rfl, l, c⟩, k⟩
/-- the names of the module, read -/
structure Glo (K : PySem.W.Frag) (mg : Str → Option Value) : Prop where
  some_ : ∀ n v, PySem.W.nsIn K mainGlobals n = some (some v) → mg n = some v
  none_ : ∀ n, PySem.W.nsIn K mainGlobals n = some none → mg n = none
theorem Binds1 {x qual : Str} {st : Stmt} {f : Addr} {fd : FuncData} {p : Str} (F : Fun K x qual st f fd) (h : ∀ (kV doc pm : Value) (an : Option Addr) (cdv ct u : Value), bindArgs (PySem.W.fnOf x qual (defArgs st) (defBody st) (defScope st) .none kV doc pm an cdv ct) ⟨[u], []⟩ = pure [(p, u)]) : Binds K fd [p] [] :=
  F.binds fun kV doc pm an cdv ct us hl => match us, hl with | [u], _ => h kV doc pm an cdv ct u
theorem Binds2 {x qual : Str} {st : Stmt} {f : Addr} {fd : FuncData} {p q : Str} (F : Fun K x qual st f fd) (h : ∀ (kV doc pm : Value) (an : Option Addr) (cdv ct u v : Value), bindArgs (PySem.W.fnOf x qual (defArgs st) (defBody st) (defScope st) .none kV doc pm an cdv ct) ⟨[u, v], []⟩ = pure [(p, u), (q, v)]) : Binds K fd [p, q] [] :=
  F.binds fun kV doc pm an cdv ct us hl => match us, hl with | [u, v], _ => h kV doc pm an cdv ct u v
theorem TD.def1 {x p : Str} {st : Stmt} {f cd : Addr} {CX : CXT} {k : Nat} {sp : Sp} (t : TD K x st f cd) (g : Glo K mg) (ok : ∀ fd, Fun K x x st f fd → FnOk P w K mg base CX k f fd [p] sp) (j : Nat) (hj : k ≤ j)
    (h : ∀ (kV doc pm : Value) (an : Option Addr) (cdv ct u : Value), bindArgs (PySem.W.fnOf x x (defArgs st) (defBody st) (defScope st) .none kV doc pm an cdv ct) ⟨[u], []⟩ = pure [(p, u)]) : Def P w K mg base x CX j [p] sp := by
  obtain ⟨fd, F⟩ := t.ex
  exact ⟨f, fd, (ok fd F.fn).mono hj, g.some_ _ _ t.gl, F.kp, Binds1 F.fn h⟩
theorem TD.def2 {x p q : Str} {st : Stmt} {f cd : Addr} {CX : CXT} {k : Nat} {sp : Sp} (t : TD K x st f cd) (g : Glo K mg) (ok : ∀ fd, Fun K x x st f fd → FnOk P w K mg base CX k f fd [p, q] sp) (j : Nat) (hj : k ≤ j)
    (h : ∀ (kV doc pm : Value) (an : Option Addr) (cdv ct u v : Value), bindArgs (PySem.W.fnOf x x (defArgs st) (defBody st) (defScope st) .none kV doc pm an cdv ct) ⟨[u, v], []⟩ = pure [(p, u), (q, v)]) : Def P w K mg base x CX j [p, q] sp := by
  obtain ⟨fd, F⟩ := t.ex
  exact ⟨f, fd, (ok fd F.fn).mono hj, g.some_ _ _ t.gl, F.kp, Binds2 F.fn h⟩
theorem TD.defN {x p : Str} {st : Stmt} {f cd : Addr} {CX : CXT} {k : Nat} {sp : Sp} (t : TD K x st f cd) (g : Glo K mg) (ok : ∀ fd, Fun K x x st f fd → FnOk P w K mg base CX k f fd [p] sp) (j : Nat) (hj : k ≤ j)
    (h : ∀ (kV doc pm : Value) (an : Option Addr) (cdv ct u : Value), bindArgs (PySem.W.fnOf x x (defArgs st) (defBody st) (defScope st) .none kV doc pm an cdv ct) ⟨[], [(p, u)]⟩ = pure [(p, u)]) : DefN P w K mg base x CX j p sp := by
  obtain ⟨fd, F⟩ := t.ex
  refine ⟨f, fd, (ok fd F.fn).mono hj, g.some_ _ _ t.gl, F.kp, fun s u _ => ?_⟩
  obtain ⟨oc, od, kV, doc, pm, an, ct, osl, rfl, lk, hcd⟩ := F.ex
  exact .of_eq (h kV doc pm an _ ct u)
theorem Def.x {x : Str} {k : Nat} {ps : List Str} {sp : Sp} (D : Def P w K mg base x (L2.CX P w) k ps sp) : DefX P w K mg base x k ps sp := ⟨D.ex⟩
theorem Def.up {x : Str} {CX : CXT} {k j : Nat} {ps : List Str} {sp : Sp} (D : Def P w K mg base x CX k ps sp) (h : k ≤ j) : Def P w K mg base x CX j ps sp := by
  obtain ⟨f, fd, F, r⟩ := D.ex
  exact ⟨f, fd, F.mono h, r⟩
/-! ### Range.__init__ with its default -/
theorem init_binds {T : Addr} {fd : FuncData} {o : Obj} {its : Array Value} {n : Nat} {kV doc pm cdv ct : Value} {an : Option Addr} (e : fd = PySem.W.fnOf "__init__" "Range.__init__" (defArgs sInit) (defBody sInit) (defScope sInit) (.ref T) kV doc pm an cdv ct)
    (lT : K.lookup T = some o) (oT : o.data = .seq its n) (h1 : its.size = 1) : Binds K fd ["self", "stretches"] [] := by
  subst e
  obtain ⟨d, rfl⟩ : ∃ d, its = #[d] := Array.size_eq_one_iff.mp h1
  intro s us X hl
  obtain ⟨u, v, rfl⟩ : ∃ u v, us = [u, v] := by
    match us, hl with
    | [u, v], _ => exact ⟨u, v, rfl⟩
  refine BindsTo.of_looks fun M => ?_
  have hk : ∃ k, bindArgs (PySem.W.fnOf "__init__" "Range.__init__" (defArgs sInit) (defBody sInit) (defScope sInit) (.ref T) kV doc pm an cdv ct) ⟨[u, v] ++ [], []⟩ = seqItems? (.ref T) >>= k ∧ k (some #[d]) = pure [(("self" : Str), u), (("stretches" : Str), v)] := ⟨_, rfl, rfl⟩
  obtain ⟨k, e1, e2⟩ := hk
  exact e1 ▸ looks_items X lT oT (.of_pure e2)
theorem init_kbinds {T : Addr} {fd : FuncData} {o : Obj} {its : Array Value} {n : Nat} {kV doc pm cdv ct : Value} {an : Option Addr} (e : fd = PySem.W.fnOf "__init__" "Range.__init__" (defArgs sInit) (defBody sInit) (defScope sInit) (.ref T) kV doc pm an cdv ct)
    (lT : K.lookup T = some o) (oT : o.data = .seq its n) (h1 : its.size = 1) : KBn K fd ["self", "stretches"] 1 ["stretches"] (fun us ws => us ++ ws) (fun vs zs => vs ++ zs) := by
  subst e
  obtain ⟨d, rfl⟩ : ∃ d, its = #[d] := Array.size_eq_one_iff.mp h1
  refine ⟨fun s us ws X h2 h3 => ?_, fun r q => r.append q⟩
  obtain ⟨u, rfl⟩ := List.length_eq_one_iff.mp h2
  obtain ⟨v, rfl⟩ := List.length_eq_one_iff.mp h3
  refine BindsTo.of_looks fun M => ?_
  have hk : ∃ k, bindArgs (PySem.W.fnOf "__init__" "Range.__init__" (defArgs sInit) (defBody sInit) (defScope sInit) (.ref T) kV doc pm an cdv ct) ⟨[u], [(("stretches" : Str), v)]⟩ = seqItems? (.ref T) >>= k ∧ k (some #[d]) = pure [(("self" : Str), u), (("stretches" : Str), v)] := ⟨_, rfl, rfl⟩
  obtain ⟨k, e1, e2⟩ := hk
  exact e1 ▸ looks_items X lT oT (.of_pure e2)
end
end Kw
set_option maxHeartbeats 4000000
namespace Kw
open PySem PySem.Spec PyProof.Rows L2
/-! ### a tuple times 0, times 1 -/
theorem mul_one_tup (l : Addr) (items : Array Value) (n : Nat) (dd : Option Addr) (sl : Array (Option Value)) (u : Tok) :
    Meets (Builtin.«tuple.__mul__» ⟨[.ref l, .int 1 u], []⟩) (fun _ R s => s.heap.get? l = some { cls := .type "tuple", dict := dd, data := .seq items n, slots := sl } ∧ R (.ok (.ret (Value.ref l))) s) :=
  .of_wp fun prog w A R s h => by
    obtain ⟨hp, g, d, tk, os⟩ := s
    obtain ⟨hl, h⟩ := h
    have f1 := AutoSeq1.idx_int
    have c1 : (items.isEmpty || (1 : Int) == 1) = true := by simp
    wp_walk using wpAny_loadPart' hl
    repeat (first
      | (refine wpAny_ite_false (decide_eq_false (by decide)) ?_; wp_walk using wpAny_loadPart' hl)
      | (refine wpAny_ite_true (decide_eq_true (by rw [c1])) ?_; wp_walk using wpAny_loadPart' hl))
    exact ⟨_, rfl, h⟩
theorem mul_zero_tup (l : Addr) (items : Array Value) (n : Nat) (dd : Option Addr) (sl : Array (Option Value)) (u : Tok) (ne : items.isEmpty = false) :
    Meets (Builtin.«tuple.__mul__» ⟨[.ref l, .int 0 u], []⟩) (fun _ R s => s.heap.get? l = some { cls := .type "tuple", dict := dd, data := .seq items n, slots := sl } ∧ R (.ok (.ret (Value.ref s.heap.objs.size))) { s with heap := s.heap.push { cls := Value.type "tuple", data := Data.seq #[] }, toks := s.toks }) :=
  .of_wp fun prog w A R s h => by
    obtain ⟨hp, g, d, tk, os⟩ := s
    obtain ⟨hl, h⟩ := h
    have f1 := AutoSeq1.idx_int
    have c1 : (items.isEmpty || (0 : Int) == 1) = false := by rw [ne]; rfl
    wp_walk using wpAny_loadPart' hl
    repeat (first
      | (refine wpAny_ite_false (decide_eq_false (by decide)) ?_; wp_walk using wpAny_loadPart' hl)
      | (refine wpAny_ite_false (decide_eq_false (by rw [c1]; exact Bool.false_ne_true)) ?_; wp_walk using wpAny_loadPart' hl)
      | (refine wpAny_ite_true (decide_eq_true (by simp)) ?_; wp_walk using wpAny_loadPart' hl))
    exact ⟨_, rfl, h⟩
/-- (v,) * k for k from 0 to 2 -/
def rRep3 (K : PySem.W.Frag) : R2 := fun x y H Q => ∃ l k v, x = .ref l ∧ y = .int k ∧ SqT K H l [v] ∧ 0 ≤ k ∧ k ≤ 2 ∧ (k = 1 → Q (.ref l) H) ∧ (k ≠ 1 → ∀ p, H p = none → Q (.ref p) (upd H p (.tup (List.replicate k.toNat v))))
theorem op_rep3 {X : Cx} : OpR X (binaryOp .Mult) (rRep3 X.K) := by
  intro pins s σ H x y v u Q I rx ry h
  obtain ⟨l, k, w1, rfl, rfl, hT, h0, h2, q1, q2⟩ := h
  by_cases c2 : k = 2
  · subst c2
    refine op_repT pins s σ H _ _ v u Q I rx ry ⟨l, 2, [w1], rfl, rfl, hT, by simp, by decide, by decide, by simp, fun p hp => ?_⟩
    exact q2 (by decide) p hp
  cases rx
  obtain ⟨t, rfl⟩ := ry
  obtain ⟨its, r, ⟨⟨cls, dd, data, sl⟩, ho, hc, n, hd⟩, hs⟩ := I.tuple hT
  simp only at hc hd
  subst hc hd
  have hn : its ≠ [] := fun e => by
    rw [e] at r
    cases r
  have emp : its.toArray.isEmpty = false := by
    cases its with
    | nil => exact absurd rfl hn
    | cons a b => rfl
  by_cases c1 : k = 1
  · subst c1
    refine wpAny_binaryOp_repeat_ref (T := "tuple") (U := "int") (by decide) ⟨_, ho, rfl⟩ (fun s' => typeIs_int s' 1 t) noFill_tuple_mul F.fills_int_mul F.slot_int_rmul repeat_tuple F.slot_int_index.lookup
      (call_meets F.slot_int_rmul (typeIs_int s 1 t) F.entry_int_rmul (F.args_int_rmul_2 _ _) (int_rmul_tuple 1 t l its.toArray n dd sl)
        ⟨ho, rfl, ⟨_, ho, rfl⟩, call_meets F.slot_tuple_mul ⟨_, ho, rfl⟩ F.entry_tuple_mul (F.args_tuple_mul_2 _ _) (mul_one_tup l its.toArray n dd sl t) ⟨ho, ?_⟩⟩)
    exact ⟨.ref l, H, I, rfl, q1 rfl⟩
  · obtain rfl : k = 0 := by omega
    refine wpAny_binaryOp_repeat_ref (T := "tuple") (U := "int") (by decide) ⟨_, ho, rfl⟩ (fun s' => typeIs_int s' 0 t) noFill_tuple_mul F.fills_int_mul F.slot_int_rmul repeat_tuple F.slot_int_index.lookup
      (call_meets F.slot_int_rmul (typeIs_int s 0 t) F.entry_int_rmul (F.args_int_rmul_2 _ _) (int_rmul_tuple 0 t l its.toArray n dd sl)
        ⟨ho, rfl, ⟨_, ho, rfl⟩, call_meets F.slot_tuple_mul ⟨_, ho, rfl⟩ F.entry_tuple_mul (F.args_tuple_mul_2 _ _) (mul_zero_tup l its.toArray n dd sl t emp) ⟨ho, ?_⟩⟩)
    refine ⟨.ref s.heap.objs.size, _, I.laid (t' := s.toks) (o := .tup []) (fun b ob q => Heap.get?_push_of_some _ q) (Nat.le_refl _) ?_, rfl, q2 (by decide) _ (I.hok.fresh (Nat.le_refl _))⟩
    exact ⟨by simp, [], .nil, IsTup.new _ _⟩
end Kw
set_option maxHeartbeats 2000000
namespace Kw
open PySem PySem.Spec PyProof.Rows L2 SX
/-! ### parts of texts: one to three numbers -/
structure PartOk (ps : List Nat) : Prop where
  pos : 1 ≤ ps.length
  le : ps.length ≤ 3
  bd : ∀ n ∈ ps, n < 10 ^ 10
/-- the three forms of a part -/
theorem PartOk.cases {ps : List Nat} (h : PartOk ps) : (∃ a, ps = [a]) ∨ (∃ a b, ps = [a, b]) ∨ ∃ a b c, ps = [a, b, c] := by
  match ps, h.pos, h.le with
  | [a], _, _ => exact .inl ⟨a, rfl⟩
  | [a, b], _, _ => exact .inr (.inl ⟨a, b, rfl⟩)
  | [a, b, c], _, _ => exact .inr (.inr ⟨a, b, c, rfl⟩)
abbrev tupN (ps : List Nat) : List V := ps.map fun (n : Nat) => V.int (n : Int)
def filledV (ps : List Nat) : Ver := ((ps.getD 0 0 : Nat), (ps.getD 1 0 : Nat), (ps.getD 2 0 : Nat))
/-- the last number greater by 1 -/
def upN (ps : List Nat) : List Nat := ps.dropLast ++ [ps.getLastD 0 + 1]
def endV (ps : List Nat) : Ver := filledV (upN ps)
/-- up to the first number that is not 0 -/
def caretN (ps : List Nat) : List Nat := match ps.findIdx? fun n => n != 0 with
  | some i => ps.take (i + 1)
  | none => ps
abbrev partL (ps : List Nat) : List Nat := TL.joinL [46] (ps.map TL.numL)
theorem dot_free {ps : List Nat} : ∀ p ∈ ps.map TL.numL, 46 ∉ p := fun p hp => by
  obtain ⟨n, _, rfl⟩ := List.mem_map.mp hp
  exact TL.numL_free (.inl (by decide))
theorem part_split {ps : List Nat} (ne : ps ≠ []) : Txt.split (S (partL ps)) (S [46]) = (ps.map TL.numL).map S := by
  rw [split_S (by decide) (by decide), spl_join (by simpa using ne) dot_free]
theorem numL_head : ∀ n : Nat, 0 < n → ∀ c, (TL.numL n).head? = some c → c ≠ 48 := by
  intro n
  induction n using Nat.strongRecOn with
  | _ n ih =>
    intro pos c hc
    by_cases h : n < 10
    · rw [TL.numL_lt h] at hc
      obtain rfl := Option.some.inj hc
      omega
    · rw [TL.numL_step (by omega)] at hc
      have ne := TL.numL_ne (n / 10)
      refine ih (n / 10) (by omega) (by omega) c ?_
      cases e : TL.numL (n / 10) with
      | nil => exact absurd e ne
      | cons d r =>
        rw [e] at hc
        exact hc
theorem numL_zero : TL.numL 0 = [48] := TL.numL_lt (by decide)
theorem num_text {n : Nat} (h : n < 10 ^ 10) : PySem.intText? (S (TL.numL n)) = some (n : Int) ∧ (S (TL.numL n)).length ≤ 640 := by
  have l := TL.numL_len (k := 10) (by decide) h
  refine ⟨?_, by rw [S_len]; omega⟩
  rw [int_S (List.all_eq_true.mpr fun c hc => ?_) (TL.numL_ne n) (by omega), TL.numL_val]
  have r := TL.numL_digits n c hc
  simp only [Bool.and_eq_true, decide_eq_true_eq]
  exact ⟨by omega, by omega⟩
/-! ### signs -/
inductive Sg where
  | star | none | eq | ge | gt | lt | le | til | car
  deriving DecidableEq
def Sg.txt : Sg → List Nat
  | .star => [42]
  | .none => []
  | .eq => [61]
  | .ge => [62, 61]
  | .gt => [62]
  | .lt => [60]
  | .le => [60, 61]
  | .til => [126]
  | .car => [94]
abbrev TermT := Sg × List Nat
def termL (t : TermT) : List Nat := match t.1 with
  | .star => [42]
  | s => s.txt ++ partL t.2
def spanT (t : TermT) : Str2 := match t.1 with
  | .star => (v000, none)
  | .ge => (filledV t.2, none)
  | .gt => (endV t.2, none)
  | .lt => (v000, some (filledV t.2))
  | .le => (v000, some (endV t.2))
  | .til => (filledV t.2, some (endV (t.2.take 2)))
  | .car => (filledV t.2, some (endV (caretN t.2)))
  | _ => (filledV t.2, some (endV t.2))
/-! ### choices -/
inductive ChT where
  | dash (a b : List Nat)
  | terms (t : TermT) (ts : List TermT)
def ChT.words : ChT → List (List Nat)
  | .dash a b => [partL a, [45], partL b]
  | .terms t ts => termL t :: ts.map termL
/-- what the law reckons of a choice -/
def ChT.led : ChT → List Str2
  | .dash a b => [(filledV a, some (endV b))]
  | .terms t ts => spanT t :: ts.map spanT
def meetS (s u : Str2) : Str2 := (maxV s.1 u.1, earlyE s.2 u.2)
/-- what the program reckons -/
def ChT.span : ChT → Str2
  | .dash a b => (filledV a, some (endV b))
  | .terms t ts => (ts.map spanT).foldl meetS (spanT t)
theorem has_fold (v : Ver) : ∀ (us : List Str2) (s : Str2), hasS (us.foldl meetS s) v = (hasS s v && us.all fun u => hasS u v)
  | [], s => by simp
  | u :: us, s => by
    rw [List.foldl_cons, has_fold v us, List.all_cons]
    show (hasS (maxV s.1 u.1, earlyE s.2 u.2) v && _) = _
    rw [has_both, Bool.and_assoc]
theorem span_has (c : ChT) (v : Ver) : hasS c.span v = c.led.all fun s => hasS s v := by
  cases c with
  | dash a b => simp [ChT.span, ChT.led]
  | terms t ts => simp only [ChT.span, ChT.led, has_fold, List.all_cons]
def someS (s : Str2) : Bool := someIn s.1 s.2
/-- the versions that any choice has -/
def anyC (cs : List ChT) (v : Ver) : Bool := cs.any fun c => c.led.all fun s => hasS s v
theorem some_has (cs : List ChT) (v : Ver) : hasL ((cs.map ChT.span).filter someS) v = anyC cs v := by
  induction cs with
  | nil => rfl
  | cons c cs ih =>
    have e : anyC (c :: cs) v = (hasS c.span v || anyC cs v) := by
      show ((c.led.all fun s => hasS s v) || _) = _
      rw [← span_has]
      rfl
    rw [e, List.map_cons]
    by_cases h : someS c.span = true
    · rw [List.filter_cons_of_pos h, hasL_cons, ih]
    · rw [List.filter_cons_of_neg h, ih, none_in h, Bool.false_or]
theorem filled_ok (ps : List Nat) : okV (filledV ps) := ⟨Int.natCast_nonneg _, Int.natCast_nonneg _, Int.natCast_nonneg _⟩
theorem okE_span (t : TermT) : okV (spanT t).1 ∧ ∀ u, (spanT t).2 = some u → okV u := by
  obtain ⟨s, ps⟩ := t
  cases s <;> refine ⟨?_, fun u e => ?_⟩ <;> first
    | exact ok0
    | exact filled_ok _
    | (cases e; exact filled_ok _)
    | cases e
theorem okE_fold : ∀ (us : List Str2) (s : Str2), (okV s.1 ∧ ∀ u, s.2 = some u → okV u) → (∀ s ∈ us, okV s.1 ∧ ∀ u, s.2 = some u → okV u) → okV (us.foldl meetS s).1 ∧ ∀ u, (us.foldl meetS s).2 = some u → okV u
  | [], s, h, _ => h
  | t :: us, s, h, g => by
    have ht := g t List.mem_cons_self
    refine okE_fold us _ ⟨?_, early_ok h.2 ht.2⟩ fun x hx => g x (List.mem_cons_of_mem _ hx)
    show okV (maxV s.1 t.1)
    unfold maxV
    split
    · exact ht.1
    · exact h.1
theorem span_ok (c : ChT) : okV c.span.1 ∧ ∀ u, c.span.2 = some u → okV u := by
  cases c with
  | dash a b => exact ⟨filled_ok _, fun u e => by cases e; exact filled_ok _⟩
  | terms t ts =>
    refine okE_fold _ _ (okE_span t) fun s hs => ?_
    obtain ⟨x, _, rfl⟩ := List.mem_map.mp hs
    exact okE_span x
theorem led_ok {c : ChT} {s : Str2} (h : s ∈ c.led) : okV s.1 ∧ ∀ u, s.2 = some u → okV u := by
  cases c with
  | dash a b =>
    rw [List.mem_singleton.mp h]
    exact ⟨filled_ok _, fun u e => by cases e; exact filled_ok _⟩
  | terms t ts =>
    rcases List.mem_cons.mp h with rfl | h
    · exact okE_span _
    · obtain ⟨x, _, rfl⟩ := List.mem_map.mp h
      exact okE_span x
theorem some_ok (cs : List ChT) : ∀ s ∈ (cs.map ChT.span).filter someS, okS s := fun s hs => by
  obtain ⟨h1, h2⟩ := List.mem_filter.mp hs
  obtain ⟨c, _, rfl⟩ := List.mem_map.mp h1
  obtain ⟨o1, o2⟩ := span_ok c
  refine ⟨o1, fun u e => ⟨o2 u e, ?_⟩⟩
  unfold someS someIn at h2
  rw [e] at h2
  exact of_decide_eq_true h2
/-- it changes at the ends of all that is told alone -/
theorem any_ends {cs : List ChT} {es : List Ver} (h : ∀ c ∈ cs, ∀ v ∈ endsOf c.led, v ∈ es) : AtEnds (anyC cs) es := by
  intro v e o he le mx
  have one : ∀ c ∈ cs, ∀ s ∈ c.led, hasS s v = hasS s e := fun c hc s hs => by
    have z := hasL_ends (ss := [s]) (es := es) (fun u hu => h c hc u ?_) v e o he le mx
    · simpa [hasL] using z
    · have low := ends_low hs
      simp only [endsOf, List.mem_cons, List.mem_append, Option.mem_toList, List.not_mem_nil, or_false] at hu
      rcases hu with rfl | hu | rfl
      · exact low.1
      · exact low.2 u hu
      · exact ends_zero _
  unfold anyC
  rw [Bool.eq_iff_iff, List.any_eq_true, List.any_eq_true]
  constructor
  · rintro ⟨c, hc, z⟩
    refine ⟨c, hc, List.all_eq_true.mpr fun s hs => ?_⟩
    rw [← one c hc s hs]
    exact List.all_eq_true.mp z s hs
  · rintro ⟨c, hc, z⟩
    refine ⟨c, hc, List.all_eq_true.mpr fun s hs => ?_⟩
    rw [one c hc s hs]
    exact List.all_eq_true.mp z s hs
/-! ### texts -/
/-- the words of choices -/
def wordsC : List ChT → List (List Nat)
  | [] => []
  | [c] => c.words
  | c :: d :: cs => c.words ++ [124, 124] :: wordsC (d :: cs)
end Kw
set_option maxHeartbeats 1000000
namespace Kw
open PySem PySem.Spec PyProof.Rows L2 LamX
/-! ### readings of expressions by what their values are -/
/-- from any heap that keeps H, te gives a value of which Pv holds -/
def Yd (T : List (Addr × Str)) (σ : L2.St) (H : Hp) (te : TE) (Pv : Hp → V → Prop) : Prop := ∀ (H1 : Hp) (Q : VK), ExtN H H1 → Tabs T H1 → (∀ (H2 : Hp) (x : V), ExtN H1 H2 → Tabs T H2 → Pv H2 x → Q x H2) → te σ H1 Q
/-- .. of a test -/
def Yt (T : List (Addr × Str)) (σ : L2.St) (H : Hp) (tt : TT) (b : Bool) : Prop := ∀ (H1 : Hp) (Q : Bool → Hp → Prop), ExtN H H1 → Tabs T H1 → (∀ (H2 : Hp), ExtN H1 H2 → Tabs T H2 → Q b H2) → tt σ H1 Q
abbrev qI (i : Int) : Hp → V → Prop := fun _ x => x = .int i
abbrev qB (b : Bool) : Hp → V → Prop := fun _ x => x = .bl b
abbrev qV (K : PySem.W.Frag) (v : Ver) : Hp → V → Prop := fun H x => IsVer K H x v
abbrev qE (K : PySem.W.Frag) (v : Option Ver) : Hp → V → Prop := fun H x => IsEnd K H x v
abbrev qS (K : PySem.W.Frag) (s : Str2) : Hp → V → Prop := fun H x => IsStr K H x s
def qL (K : PySem.W.Frag) (ss : List Str2) : Hp → V → Prop := fun H x => ∃ l xs, x = .ref l ∧ SqLT K H l xs ∧ Strs K H xs ss
def qT (K : PySem.W.Frag) (ss : List Str2) : Hp → V → Prop := fun H x => ∃ l xs, x = .ref l ∧ SqT K H l xs ∧ Strs K H xs ss
abbrev qR (K : PySem.W.Frag) (CR : Addr) (n : List Str2) : Hp → V → Prop := fun H x => IsR K CR H x n
section
variable {K : PySem.W.Frag} {T : List (Addr × Str)} {σ : L2.St} {H : Hp} {CR CE CX : Addr}
theorem qV_ext {v : Ver} {H1 H2 : Hp} {x : V} (e : ExtN H1 H2) (h : qV K v H1 x) : qV K v H2 x := let ⟨a, q, t⟩ := h; ⟨a, q, e.sqT t⟩
theorem qE_ext {v : Option Ver} {H1 H2 : Hp} {x : V} (e : ExtN H1 H2) (h : qE K v H1 x) : qE K v H2 x := by
  cases v with
  | none => exact h
  | some u => exact qV_ext e h
theorem qS_ext {s : Str2} {H1 H2 : Hp} {x : V} (e : ExtN H1 H2) (h : qS K s H1 x) : qS K s H2 x := let ⟨a, lo, hh, q, t, t1, t2⟩ := h; ⟨a, lo, hh, q, e.sqT t, qV_ext e t1, qE_ext e t2⟩
theorem qT_ext {ss : List Str2} {H1 H2 : Hp} {x : V} (e : ExtN H1 H2) (h : qT K ss H1 x) : qT K ss H2 x := let ⟨a, xs, q, t, t1⟩ := h; ⟨a, xs, q, e.sqT t, e.strs t1⟩
theorem qL_ext {ss : List Str2} {H1 H2 : Hp} {x : V} (e : ExtN H1 H2) (h : qL K ss H1 x) : qL K ss H2 x := let ⟨a, xs, q, t, t1⟩ := h; ⟨a, xs, q, t.ext e, e.strs t1⟩
theorem use {te : TE} {Q : VK} {Pv : Hp → V → Prop} (t : Tabs T H) (q : ∀ (H2 : Hp) (x : V), ExtN H H2 → Tabs T H2 → Pv H2 x → Q x H2) (h : Yd T σ H te Pv) : te σ H Q := h H Q (ExtN.refl _) t q
theorem useT {x : TT} {Q : Bool → Hp → Prop} {b : Bool} (t : Tabs T H) (q : ∀ (H2 : Hp), ExtN H H2 → Tabs T H2 → Q b H2) (h : Yt T σ H x b) : x σ H Q := h H Q (ExtN.refl _) t q
theorem yv {i : Nat} {x : V} {Pv : Hp → V → Prop} (hi : σ[i]? = some (some x)) (h : ∀ H', ExtN H H' → Pv H' x) : Yd T σ H (tVar i) Pv := fun H1 Q e t q => ⟨x, hi, q H1 x (ExtN.refl _) t (h H1 e)⟩
theorem yc {x : V} {Pv : Hp → V → Prop} (h : ∀ H', Pv H' x) : Yd T σ H (tC x) Pv := fun H1 Q e t q => q H1 x (ExtN.refl _) t (h H1)
theorem yi {i : Int} : Yd T σ H (tC (.int i)) (qI i) := yc fun _ => rfl
theorem yn : Yd T σ H (tC .non) (qE K none) := yc fun _ => rfl
theorem yr {i : Nat} {x : V} {n : List Str2} (hi : σ[i]? = some (some x)) (h : IsR K CR H x n) : Yd T σ H (tVar i) (qR K CR n) := yv hi fun _ e => h.ext e
theorem ys {a b : TE} {i j : Int} (ha : Yd T σ H a (qI i)) (hb : Yd T σ H b (qI j)) : Yd T σ H (tOp (rI0 fun i j => .int (i - j)) a b) (qI (i - j)) := fun H1 Q e t q =>
  ha H1 _ e t fun H2 x e2 t2 hx => hb H2 _ (e.trans e2) t2 fun H3 y e3 t3 hy => ⟨i, j, hx, hy, q H3 _ (e2.trans e3) t3 rfl⟩
theorem y3 {a b c : TE} {i j k : Int} (ha : Yd T σ H a (qI i)) (hb : Yd T σ H b (qI j)) (hc : Yd T σ H c (qI k)) : Yd T σ H (tTup (tCons a (tCons b (tCons c tNil)))) (qV K (i, j, k)) := fun H1 Q e t q =>
  ha H1 _ e t fun H2 x e2 t2 hx => hb H2 _ (e.trans e2) t2 fun H3 y e3 t3 hy => hc H3 _ ((e.trans e2).trans e3) t3 fun H4 z e4 t4 hz => by
    obtain rfl : x = .int i := hx
    obtain rfl : y = .int j := hy
    obtain rfl : z = .int k := hz
    refine ⟨by show 3 ≤ sizeLine; decide, fun p hp => ?_⟩
    have s := same_upd (o := .tup [.int i, .int j, .int k]) hp
    exact q _ _ (((e2.trans e3).trans e4).trans (ExtN.same s)) (t4.ext s) (IsVer.of upd_same)
theorem y3e {a b c : TE} {i j k : Int} (ha : Yd T σ H a (qI i)) (hb : Yd T σ H b (qI j)) (hc : Yd T σ H c (qI k)) : Yd T σ H (tTup (tCons a (tCons b (tCons c tNil)))) (qE K (some (i, j, k))) := y3 ha hb hc
theorem y2 {a b : TE} {v : Ver} {u : Option Ver} (ha : Yd T σ H a (qV K v)) (hb : Yd T σ H b (qE K u)) : Yd T σ H (tTup (tCons a (tCons b tNil))) (qS K (v, u)) := fun H1 Q e t q =>
  ha H1 _ e t fun H2 x e2 t2 hx => hb H2 _ (e.trans e2) t2 fun H3 y e3 t3 hy => by
    refine ⟨by show 2 ≤ sizeLine; decide, fun p hp => ?_⟩
    have s := same_upd (o := .tup [x, y]) hp
    exact q _ _ ((e2.trans e3).trans (ExtN.same s)) (t3.ext s) ⟨p, x, y, rfl, .inl (.inl upd_same), qV_ext (e3.trans (ExtN.same s)) hx, qE_ext (ExtN.same s) hy⟩
theorem strs_one {H' : Hp} {x : V} {s : Str2} (h : IsStr K H' x s) : Strs K H' [x] [s] := ⟨rfl, fun i y u a b => by
  match i with
  | 0 =>
    cases a
    cases b
    exact h
  | i + 1 => simp at a⟩
theorem strs_two {H' : Hp} {x y : V} {s u : Str2} (h : IsStr K H' x s) (g : IsStr K H' y u) : Strs K H' [x, y] [s, u] := ⟨rfl, fun i z w a b => by
  match i with
  | 0 =>
    cases a
    cases b
    exact h
  | 1 =>
    cases a
    cases b
    exact g
  | i + 2 => simp at a⟩
theorem yl1 {a : TE} {s : Str2} (ha : Yd T σ H a (qS K s)) : Yd T σ H (tLst (tCons a tNil)) (qL K [s]) := fun H1 Q e t q => ha H1 _ e t fun H2 x e2 t2 hx => by
  refine ⟨by show 1 ≤ sizeLine; decide, fun p hp => ?_⟩
  have k := same_upd (o := .lst [x]) hp
  exact q _ _ (e2.trans (ExtN.same k)) (t2.ext k) ⟨p, [x], rfl, .inl (SqL.of upd_same), strs_one (qS_ext (ExtN.same k) hx)⟩
theorem yt1 {a : TE} {s : Str2} (ha : Yd T σ H a (qS K s)) : Yd T σ H (tTup (tCons a tNil)) (qT K [s]) := fun H1 Q e t q => ha H1 _ e t fun H2 x e2 t2 hx => by
  refine ⟨by show 1 ≤ sizeLine; decide, fun p hp => ?_⟩
  have k := same_upd (o := .tup [x]) hp
  exact q _ _ (e2.trans (ExtN.same k)) (t2.ext k) ⟨p, [x], rfl, .inl (.inl upd_same), strs_one (qS_ext (ExtN.same k) hx)⟩
theorem yt2 {a b : TE} {s u : Str2} (ha : Yd T σ H a (qS K s)) (hb : Yd T σ H b (qS K u)) : Yd T σ H (tTup (tCons a (tCons b tNil))) (qT K [s, u]) := fun H1 Q e t q =>
  ha H1 _ e t fun H2 x e2 t2 hx => hb H2 _ (e.trans e2) t2 fun H3 y e3 t3 hy => by
    refine ⟨by show 2 ≤ sizeLine; decide, fun p hp => ?_⟩
    have k := same_upd (o := .tup [x, y]) hp
    exact q _ _ ((e2.trans e3).trans (ExtN.same k)) (t3.ext k) ⟨p, [x, y], rfl, .inl (.inl upd_same), strs_two (qS_ext (e3.trans (ExtN.same k)) hx) (qS_ext (ExtN.same k) hy)⟩
/-! Ranges -/
theorem ym {E : XK} {a : TE} {ss : List Str2} (ha : Yd T σ H a (qL K ss)) (hb : nfB ss = true) (hl : ss.length ≤ 40) : Yd T σ H (tMake CR (spInit K T CR CE) [] E (tCons a tNil)) (qR K CR ss) := fun H1 Q e t q =>
  ha H1 _ e t fun H2 x e2 t2 hx => by
    obtain ⟨l, xs, rfl, hS, hss⟩ := hx
    refine fun a dx na nd ne => ?_
    exact rngA (R := fun H2 => Q (.ref a) H2) t2 hS (by rw [hss.len]; exact hl) hss (nfB_ok hb).ok na nd fun H' ss' e9 T' hR pm pw => by
      rw [fold_is hb pm pw] at hR
      exact q H' _ (e2.trans e9) T' hR
section
variable {a b : TE} {n m : List Str2}
theorem yBin {E : XK} {g : List Str2 → List Str2 → List Str2} (ha : Yd T σ H a (qR K CR n)) (hb : Yd T σ H b (qR K CR m)) (fn : NF n) (fm : NF m) (ln : n.length ≤ 90) (lm : m.length ≤ 90) : Yd T σ H (tOp (rOwnB K CR (spBin g K CR CX) E) a b) (qR K CR (g n m)) := fun H1 Q e t q =>
  ha H1 _ e t fun H2 x e2 t2 hx => hb H2 _ (e.trans e2) t2 fun H3 y e3 t3 hy => bin_read (hx.ext e3) hy fn fm ln lm fun H4 z s4 _ hz => q H4 _ ((e2.trans e3).trans (ExtN.same s4)) (t3.ext s4) hz
theorem yNot {E : XK} (ha : Yd T σ H a (qR K CR n)) (fn : NF n) (ln : n.length ≤ 90) : Yd T σ H (tUn (rOwnU CR (spUn K CR) E) a) (qR K CR (notV n)) := fun H1 Q e t q =>
  ha H1 _ e t fun H2 x e2 t2 hx => un_read hx fn ln fun H4 z s4 _ hz => q H4 _ (e2.trans (ExtN.same s4)) (t2.ext s4) hz
theorem yEq {g : Bool → Bool} (ha : Yd T σ H a (qR K CR n)) (hb : Yd T σ H b (qR K CR m)) : Yd T σ H (tOp (rOwnE K CR (spEqG K CR) E0 g) a b) (qB (g (decide (n = m)))) := fun H1 Q e t q =>
  ha H1 _ e t fun H2 x e2 t2 hx => hb H2 _ (e.trans e2) t2 fun H3 y e3 t3 hy => eq_read (hx.ext e3) hy (q H3 _ (e2.trans e3) t3 rfl)
theorem yIn {v : Ver} (ha : Yd T σ H a (qV K v)) (hb : Yd T σ H b (qR K CR m)) (ov : okV v) (lm : m.length ≤ 100) : Yd T σ H (tOp (rOwnIn CR (spHasR K CR) E0) a b) (qB (hasL m v)) := fun H1 Q e t q =>
  ha H1 _ e t fun H2 x e2 t2 hx => hb H2 _ (e.trans e2) t2 fun H3 y e3 t3 hy => in_readR hy lm (qV_ext e3 hx) ov fun H4 s4 => q H4 _ ((e2.trans e3).trans (ExtN.same s4)) (t3.ext s4) rfl
theorem yGet (ha : Yd T σ H a (qR K CR n)) : Yd T σ H (tProp CR (spGetR K CR) [] E0 a) (qT K n) := fun H1 Q e t q =>
  ha H1 _ e t fun H2 x e2 t2 hx => by
    obtain ⟨p, dx, u, zs, rfl, h1, h2, h3⟩ := id hx
    exact ⟨p, dx, _, rfl, h1, _, n, rfl, hx, fun u' zs' ht hz => q H2 _ e2 t2 ⟨u', zs', rfl, ht, hz⟩⟩
theorem yTeq {g : Bool → Bool} (r : R2) (hr : ∀ (x y : V) (H : Hp) (Q : VK) (d d' : PyData), Dp K H x d → Dp K H y d' → SeqAt.shaped d = true → SeqAt.shaped d' = true → Q (.bl (g (PyData.eqv d d'))) H → r x y H Q) (ha : Yd T σ H a (qT K n)) (hb : Yd T σ H b (qT K m)) :
    Yd T σ H (tOp r a b) (qB (g (decide (n = m)))) := fun H1 Q e t q =>
  ha H1 _ e t fun H2 x e2 t2 hx => hb H2 _ (e.trans e2) t2 fun H3 y e3 t3 hy => by
    obtain ⟨p, xs, rfl, hp, hxs⟩ := qT_ext e3 hx
    obtain ⟨p2, ys, rfl, hp2, hys⟩ := hy
    refine hr _ _ _ _ _ _ (dp_nf hp hxs) (dp_nf hp2 hys) (shaped_nf _) (shaped_nf _) ?_
    rw [eqv_nfG]
    exact q H3 _ (e2.trans e3) t3 rfl
/-! tests and truth values -/
theorem tt {c : Bool} (ha : Yd T σ H a (qB c)) : Yt T σ H (tTest a) c := fun H1 Q e t q => ha H1 _ e t fun H2 x e2 t2 hx => ⟨c, hx, q H2 e2 t2⟩
theorem tb {c : Bool} (ha : Yd T σ H a (qB c)) : Yt T σ H (tB a) c := fun H1 Q e t q => ha H1 _ e t fun H2 x e2 t2 hx => ⟨c, hx, q H2 e2 t2⟩
theorem yAnd {c d : Bool} (ha : Yd T σ H a (qB c)) (hb : Yd T σ H b (qB d)) : Yd T σ H (tAndV a b) (qB (c && d)) := fun H1 Q e t q => ha H1 _ e t fun H2 x e2 t2 hx => by
  refine ⟨c, hx, ?_⟩
  cases c with
  | true => exact iteT (hb H2 _ (e.trans e2) t2 fun H3 y e3 t3 hy => q H3 y (e2.trans e3) t3 (by rw [hy]; simp))
  | false => exact iteF (q H2 _ e2 t2 (by simp))
end
theorem tOr' {a b : TT} {c d : Bool} (ha : Yt T σ H a c) (hb : Yt T σ H b d) : Yt T σ H (tOr a b) (c || d) := fun H1 Q e t q => ha H1 _ e t fun H2 e2 t2 => by
  cases c with
  | true => exact iteT (q H2 e2 t2)
  | false => exact iteF (hb H2 _ (e.trans e2) t2 fun H3 e3 t3 => q H3 (e2.trans e3) t3)
theorem tAnd' {a b : TT} {c d : Bool} (ha : Yt T σ H a c) (hb : Yt T σ H b d) : Yt T σ H (tAnd a b) (c && d) := fun H1 Q e t q => ha H1 _ e t fun H2 e2 t2 => by
  cases c with
  | false => exact iteF (q H2 e2 t2)
  | true => exact iteT (hb H2 _ (e.trans e2) t2 fun H3 e3 t3 => q H3 (e2.trans e3) t3)
theorem tNot' {a : TT} {c : Bool} (ha : Yt T σ H a c) : Yt T σ H (tNot a) (!c) := fun H1 Q e t q => ha H1 _ e t q
/-- len(x) of a tuple of stretches against a number -/
theorem yLen {a : TE} {n : List Str2} {r : List V → Hp → VK → Prop} (hr : ∀ p ys H Q, SqT K H p ys → Q (.int ys.length) H → r [.ref p] H Q) (ha : Yd T σ H a (qT K n)) : Yd T σ H (tCB r (tCons a tNil)) (qI n.length) := fun H1 Q e t q =>
  ha H1 _ e t fun H2 x e2 t2 hx => by
    obtain ⟨p, xs, rfl, hp, hxs⟩ := hx
    refine hr p xs H2 _ hp (q H2 _ e2 t2 ?_)
    rw [hxs.len]
theorem yNe {a b : TE} {i j : Int} (ha : Yd T σ H a (qI i)) (hb : Yd T σ H b (qI j)) : Yd T σ H (tOp rNe a b) (qB (!decide (i = j))) := fun H1 Q e t q =>
  ha H1 _ e t fun H2 x e2 t2 hx => hb H2 _ (e.trans e2) t2 fun H3 y e3 t3 hy => by
    obtain rfl : x = .int i := hx
    obtain rfl : y = .int j := hy
    exact ⟨rfl, q H3 _ (e2.trans e3) t3 (by simp)⟩
end
end Kw
set_option maxHeartbeats 2000000
namespace Kw
open PySem PySem.Spec PyProof.Rows L2 LamX
/-! ### y not in x, a def without arguments, a comprehension of forty stretches -/
section
variable {X : Cx} {CX : CXT} {n : Nat} {C f : Addr} {fd : FuncData} {ps : List Str} {sp : Sp} {E : XK}
def rOwnNin (C : Addr) (sp : Sp) (E : XK) : R2 := fun y x H Q => ∃ a dx fs, x = .ref a ∧ H a = some (.ins C dx fs) ∧ sp [x, y] H (fun v H' => ∃ r, v = .bl r ∧ Q (.bl (!r)) H') E
theorem op_ninO (F : FnOk X.prog X.w X.K X.mg X.base CX n f fd ps sp) (hr : Room n X.A) (hs : PySem.W.findIn X.K (.ref C) "__contains__" = some (some (.ref f))) (hf : PySem.W.isFn X.K (.ref f) = true) (hb : Binds X.K fd ps []) (hx : Passes CX X E) :
    OpR X (compareOp .NotIn) (rOwnNin C sp E) := by
  intro pins s σ H y x u v Q I ry rx h
  obtain ⟨a, dx, fs, rfl, ha, hsp⟩ := h
  obtain rfl : v = Value.ref a := rx
  obtain ⟨mA, J, _⟩ := ins_get I.hok ha
  obtain ⟨od, J, _⟩ := J.look
  obtain ⟨m, hF⟩ := I.fr
  refine PySem.W.notIn_K hF I.ok.mod.kin J hs hf (wpAny_mono (run_at (x := .ref a) F hb hx rfl hr I rfl ry hsp) (fun w s' q => ?_) fun _ _ z => z)
  obtain ⟨z, H', I', rz, r, rfl, q⟩ := q
  cases rz
  exact wpAny_truthy_bool ⟨.bl (!r), H', I', rfl, q⟩
theorem op_ninR {CR : Addr} {k : Nat} (G : RangeHas X.prog X.w X.K X.mg X.base CR k) (hr : Room k X.A) : OpR X (compareOp .NotIn) (rOwnNin CR (spHasR X.K CR) E0) := by
  obtain ⟨f, fd, F, h1, h2, hb⟩ := G.ex
  exact op_ninO F hr h1 h2 hb pass0
theorem pe_d0 {x : Str} {k : Nat} {sp : Sp} {p pos : Pos} (D : Def X.prog X.w X.K X.mg X.base x CX0 k [] sp) (hr : Room k X.A) (hg : Gl X x := by rfl) (hdb : (x == ("__debug__" : Str)) = false := by decide) : PE X (.Call (.Name x p) [] [] pos) (tCall sp [] E0 tNil) := by
  obtain ⟨f, fd, F, hm, hk, hb⟩ := D.ex
  exact pe_call0 F hr hg hm hk hb .nil pass0 hdb
end
section
variable {K : PySem.W.Frag} {T : List (Addr × Str)} {σ : L2.St} {H : Hp} {CR CE CX : Addr} {a b : TE} {m : List Str2}
theorem yNin {v : Ver} (ha : Yd T σ H a (qV K v)) (hb : Yd T σ H b (qR K CR m)) (ov : okV v) (lm : m.length ≤ 100) : Yd T σ H (tOp (rOwnNin CR (spHasR K CR) E0) a b) (qB (!hasL m v)) := fun H1 Q e t q =>
  ha H1 _ e t fun H2 x e2 t2 hx => hb H2 _ (e.trans e2) t2 fun H3 y e3 t3 hy => by
    obtain ⟨p, dx, u, zs, rfl, h1, _⟩ := id hy
    exact ⟨p, dx, _, rfl, h1, _, x, m, rfl, hy, lm, .inl ⟨v, qV_ext e3 hx, ov, fun H' s => ⟨_, rfl, q H' _ ((e2.trans e3).trans (ExtN.same s)) (t3.ext s) rfl⟩⟩⟩
theorem Yt.is {x : TT} {c d : Bool} (h : Yt T σ H x c) (e : c = d) : Yt T σ H x d := e ▸ h
theorem Yd.is {x : TE} {c d : Bool} (h : Yd T σ H x (qB c)) (e : c = d) : Yd T σ H x (qB d) := e ▸ h
/-- [stretch of k for k in range(40)] -/
theorem yLc {te : TE} (s : Nat → Str2) {j : Nat} (hw : ∀ y, wipe ((wipe σ [j]).set j y) [j] = wipe σ [j]) (h : ∀ (i : Nat) (H' : Hp), i < 40 → Yd T ((wipe σ [j]).set j (some (.int (0 + (i : Int))))) H' te (qS K (s i))) :
    Yd T σ H (tLc (iRng1 (tCons (tC (.int 40)) tNil)) (gName j) tYes te [j]) (qL K ((List.range 40).map s)) := fun H1 Q e t q => by
  refine ⟨40, rfl, by decide, by decide, fun D hD => ?_⟩
  refine lc_range (lo := 0) (n := 40) (fun i H' => ExtN H1 H' ∧ Tabs T H' ∧ ∃ xs, H' D = some (.lst xs) ∧ Strs K H' xs ((List.range i).map s)) ⟨ExtN.same (same_upd hD), t.ext (same_upd hD), [], upd_same, rfl, fun i x s a => by simp at a⟩ ?_ ?_
  · rintro i H2 hi ⟨e2, t2, xs, hx, hxs⟩
    refine ⟨hw _, h i H2 hi H2 _ (ExtN.refl _) t2 fun H3 y e3 t3 hy => ?_⟩
    have hx3 : H3 D = some (.lst xs) := e3 _ _ hx fun ps z => nomatch z
    have lx := hxs.len
    rw [List.length_map, List.length_range] at lx
    have f : Fr1 D H3 (upd H3 D (.lst (xs ++ [y]))) := Fr1.put
    refine ⟨xs, hx3, by show xs.length < sizeLine; rw [sizeLine_eq]; omega, fun b o z n => ?_, Tabs.fr1 t3 f hx3, xs ++ [y], upd_same, ?_⟩
    · exact f _ _ (ne_of_none z hD) ((e2.trans e3) _ _ z n)
    · rw [List.range_succ, List.map_append]
      exact (f.strs hx3 (e3.strs hxs)).snoc (f.str hx3 hy)
  · rintro H2 ⟨e2, t2, xs, hx, hxs⟩
    exact q H2 _ e2 t2 ⟨D, xs, rfl, .inl (SqL.of hx), hxs⟩
end
def spTrue (T : List (Addr × Str)) : Sp := fun vs H Q _ => vs = [] ∧ Tabs T H ∧ ∀ H', ExtN H H' → Tabs T H' → Q (.bl true) H'
end Kw
set_option maxHeartbeats 4000000
namespace Kw
open PySem PySem.Spec PyProof.Rows L2 LamX SX
/-! ### numerals, parts -/
abbrev sNumeral : Stmt := top 30
abbrev sPartN : Stmt := top 31
abbrev sPartF : Stmt := top 33
abbrev sPartE : Stmt := top 34
abbrev sCaret : Stmt := top 35
theorem str_0 : (("0" : Str)) = S [48] := rfl
theorem str_e : (("" : Str)) = S [] := rfl
theorem str_d : (("." : Str)) = S [46] := rfl
theorem digs_in {c : Nat} (h : 48 ≤ c ∧ c ≤ 57) : c ∈ (("0123456789" : Str)).cps.toList := by
  obtain ⟨h1, h2⟩ := h
  have e : (("0123456789" : Str)).cps.toList = [48, 49, 50, 51, 52, 53, 54, 55, 56, 57] := by decide +kernel
  rw [e]
  simp only [List.mem_cons, List.not_mem_nil, or_false]
  omega
def spNumeral : Sp := fun vs H Q _ => ∃ n : Nat, n < 10 ^ 10 ∧ vs = [.str (S (TL.numL n))] ∧ ∀ H', Same H H' → Q (.bl true) H'
theorem scNumeral : FnScope ["word", "letter"] ["word"] (defScope sNumeral) := ⟨rfl, rfl, rfl, by decide +kernel, rfl, by decide +kernel, by decide +kernel⟩
section
variable {P : Program} {w : World} {K : PySem.W.Frag} {mg : Str → Option Value} {base : Heap}
theorem ok_numeral {f : Addr} {fd : FuncData} {k : Nat} {tD : Tok} (F : Fun K "is_numeral" "is_numeral" sNumeral f fd) (ma : mg "all" = none) (mD : mg "DIGITS" = some (.str "0123456789" tD)) : FnOk P w K mg base CX0 (k + 1) f fd ["word"] spNumeral := by
  refine F.ok scNumeral (fun vs H Q E h => ?_) (fun cdv A outer s H vs Q E hr h => ?_)
  · obtain ⟨n, _, rfl, _⟩ := h
    rfl
  · obtain ⟨n, hn, rfl, q⟩ := h
    refine' ⟨_, pss_cons ?s1 (pss_one ?s2), ?_⟩
    case s1 => exact ps_if (PW.pt (pw_or (pt_cmpR op_eq (pv 0) pe_str (nomark _)) (pw_or1 (pt_not (pt_val (pe_callB (cr_all rfl) (by rfl) ma (by decide +kernel) (pa_cons (pe_lc (own := [("letter", 1)]) (g := gName 1) (tt := tYes) rfl scNumeral.nd (pi_str (pv 0)) (blkOk_by (N := ["word", "letter"]) (sc := defScope sNumeral) (by decide +kernel))
        (fun _ _ _ _ _ => pg_name (i := 1) scNumeral.nd rfl (Or.inl rfl)) (fun _ _ _ _ _ => pts_nil) (fun _ _ _ _ _ => pe_cmpR op_in_sign (pv 1) (pe_glob (v := .str "0123456789") (by rfl) mD ⟨tD, rfl⟩) rfl)) pa_nil))))))) (pss_one (ps_ret pe_bl)) pss_nil
    case s2 => exact ps_ret (pe_or (pe_cmpR op_eq (pv 0) pe_str (nomark _)) (pe_one (pe_cmpR op_ne (pe_item_str (pv 0) pe_int (fun _ _ => rfl)) pe_str (nomark _))))
    have ne := TL.numL_ne n
    have dg := TL.numL_digits n
    have sz : (S (TL.numL n)).cps.size = (TL.numL n).length := by simp
    dsimp only [tSeq, tAsg, tRet, tIfS, gName]
    have c1 : decide (V.str (S (TL.numL n)) = V.str ("" : Str)) = false := decide_eq_false fun e => ne (S_inj (V.str.inj e))
    refine ⟨_, rfl, rfl, _, rfl, ?_⟩
    rw [c1]
    refine iteF ⟨_, rfl, _, rfl, fun D hD => ?_⟩
    refine lc_it (walk_str (z := S (TL.numL n))) (fun i H' => Same H H' ∧ H' D = some (.lst (List.replicate i (V.bl true)))) ⟨same_upd hD, upd_same⟩ (fun _ _ _ _ => trivial) ?_ ?_
    · rintro i H' x H'' hi ⟨s1, h1⟩ ⟨rfl, c, hc, rfl⟩
      have mc : c ∈ TL.numL n := by
        have z := Array.mem_of_getElem? hc
        simpa using z
      refine ⟨rfl, yesI ?_⟩
      refine ⟨_, rfl, c, _, rfl, rfl, ?_⟩
      rw [decide_eq_true (digs_in (by have r := dg c mc; omega))]
      refine ⟨_, h1, ?_, fun b o y => by rw [upd_ne (ne_of_none y hD)]; exact s1 _ _ y, ?_⟩
      · have l := TL.numL_len (k := 10) (by decide) hn
        rw [List.length_replicate]
        exact small1000 (by omega)
      · rw [upd_same, List.replicate_succ', ]
    · rintro H' ⟨s1, h1⟩
      refine ⟨D, List.replicate (S (TL.numL n)).cps.size true, rfl, SqL.of (by rw [h1]; simp), ?_⟩
      have all : (List.replicate (S (TL.numL n)).cps.size true).all id = true := by simp
      rw [all]
      refine ⟨_, rfl, iteF ?_⟩
      refine ⟨_, rfl, rfl, _, rfl, ?_⟩
      by_cases z : n = 0
      · subst z
        exact iteT (q H' s1)
      · have c2 : decide (V.str (S (TL.numL n)) = V.str ("0" : Str)) = false := decide_eq_false fun e => z (TL.numL_inj ((S_inj (V.str.inj e)).trans numL_zero.symm))
        rw [c2]
        cases eh : TL.numL n with
        | nil => exact absurd eh ne
        | cons c r =>
          have h48 := numL_head n (by omega) c (by rw [eh]; rfl)
          have l := TL.numL_len (k := 10) (by decide) hn
          refine iteF ⟨_, rfl, S (c :: r), 0, c, rfl, rfl, by decide, by decide, by rw [S_len]; simp, by simp, rfl, ?_⟩
          have c3 : decide (V.str ⟨#[c]⟩ = V.str ("0" : Str)) = false := decide_eq_false fun e => h48 (by
            have z := V.str.inj e
            have y : S [c] = S [48] := z
            simpa using S_inj y)
          rw [c3]
          exact q H' s1
abbrev strN (ps : List Nat) : List V := ps.map fun n => V.str (S (TL.numL n))
def spPartN : Sp := fun vs H Q _ => ∃ ps : List Nat, PartOk ps ∧ vs = [.str (S (partL ps))] ∧ ∀ H' p, Same H H' → H' p = some (.tup (tupN ps)) → Q (.ref p) H'
theorem scPartN : FnScope ["word", "pieces", "piece"] ["word"] (defScope sPartN) := ⟨rfl, rfl, rfl, by decide +kernel, rfl, by decide +kernel, by decide +kernel⟩
theorem partL_len {ps : List Nat} (h : PartOk ps) : (partL ps).length ≤ 32 := by
  have l : ∀ n ∈ ps, (TL.numL n).length ≤ 10 := fun n hn => TL.numL_len (k := 10) (by decide) (h.bd n hn)
  rcases h.cases with ⟨a, rfl⟩ | ⟨a, b, rfl⟩ | ⟨a, b, c, rfl⟩
  · have := l a (by simp)
    simp [partL, TL.joinL]
    omega
  · have := l a (by simp)
    have := l b (by simp)
    simp [partL, TL.joinL]
    omega
  · have := l a (by simp)
    have := l b (by simp)
    have := l c (by simp)
    simp [partL, TL.joinL]
    omega
theorem ok_partN {f : Addr} {fd : FuncData} {k : Nat} (F : Fun K "part_numbers" "part_numbers" sPartN f fd) (ma : mg "all" = none) (ml : mg "len" = none) (mt : mg "tuple" = none) (mi : mg "int" = none) (DN : Def P w K mg base "is_numeral" CX0 k ["word"] spNumeral) : FnOk P w K mg base CX0 (k + 1) f fd ["word"] spPartN := by
  refine F.ok scPartN (fun vs H Q E h => ?_) (fun cdv A outer s H vs Q E hr h => ?_)
  · obtain ⟨ps, _, rfl, _⟩ := h
    rfl
  · obtain ⟨ps, ok, rfl, q⟩ := h
    refine' ⟨_, pss_cons ?s1 (pss_cons ?s2 (pss_one ?s3)), ?_⟩
    case s1 => exact ps_set (i := 1) scPartN.nd rfl (.inl rfl) (pe_split (pv 0) pe_str)
    case s2 => exact ps_if (PW.pt (pw_or (pt_cmpR op_gt (pe_callB call_len_seq (by rfl) ml PySem.boot_len (pa_cons (pv 1) pa_nil)) pe_int (nomark _)) (pw_or1 (pt_not (pt_val (pe_callB (cr_all rfl) (by rfl) ma (by decide +kernel) (pa_cons (pe_lc (own := [("piece", 2)]) (g := gName 2) (tt := tYes) rfl scPartN.nd (pi_list (pv 1)) (blkOk_by (N := ["word", "pieces", "piece"]) (sc := defScope sPartN) (by decide +kernel))
        (fun _ _ _ _ _ => pg_name (i := 2) scPartN.nd rfl (Or.inl rfl)) (fun _ _ _ _ _ => pts_nil) (fun _ _ _ _ _ => pe_d DN hr (pa_cons (pv 2) pa_nil))) pa_nil))))))) (pss_one (ps_ret pe_non)) pss_nil
    case s3 => exact ps_ret (pe_callTy call_tuple_of (by rfl) mt (by decide +kernel) (pa_cons (pe_lc (own := [("piece", 2)]) (g := gName 2) (tt := tYes) rfl scPartN.nd (pi_list (pv 1)) (blkOk_by (N := ["word", "pieces", "piece"]) (sc := defScope sPartN) (by decide +kernel))
        (fun _ _ _ _ _ => pg_name (i := 2) scPartN.nd rfl (Or.inl rfl)) (fun _ _ _ _ _ => pts_nil) (fun _ _ _ _ _ => pe_callTy call_int_str (by rfl) mi (by decide +kernel) (pa_cons (pv 2) pa_nil))) pa_nil))
    have ne : ps ≠ [] := fun e => by
      have := ok.pos
      rw [e] at this
      simp at this
    have lp := ok.le
    dsimp only [tSeq, tAsg, tRet, tIfS, gName]
    refine ⟨_, rfl, ⟨_, rfl⟩, S (partL ps), ".", rfl, rfl, by decide, ?_, fun p hp => ?_⟩
    · rw [S_len, sizeLine_eq]
      have := partL_len ok
      omega
    have k1 := same_upd (o := .lst ((Txt.split (S (partL ps)) ".").map V.str)) hp
    have at1 : upd H p (.lst ((Txt.split (S (partL ps)) ".").map V.str)) p = some (.lst (strN ps)) := by
      rw [upd_same, str_d, part_split ne]
      simp [strN]
    generalize upd H p (.lst ((Txt.split (S (partL ps)) ".").map V.str)) = H1 at k1 at1 ⊢
    refine ⟨_, rfl, p, strN ps, rfl, .inl (SqL.of at1), _, 3, rfl, rfl, _, rfl, ?_⟩
    have c1 : decide (((strN ps).length : Int) > 3) = false := decide_eq_false (by rw [List.length_map]; omega)
    rw [c1]
    refine iteF ⟨_, rfl, p, rfl, ⟨_, SqL.of at1⟩, fun D hD => ?_⟩
    refine lc_list (K := K) (a := p) (xs := strN ps) (fun i H' => Same H1 H' ∧ H' D = some (.lst (List.replicate i (V.bl true)))) ⟨same_upd hD, upd_same⟩ (fun i H' _ R => SqL.of (R.1 _ _ at1)) ?_ ?_
    · rintro i y H' hi ⟨s1, h1⟩
      rw [List.getElem?_map] at hi
      obtain ⟨n, hn, rfl⟩ := Option.map_eq_some_iff.mp hi
      have il := (List.getElem?_eq_some_iff.mp hn).1
      refine ⟨rfl, yesI ⟨_, rfl, n, ok.bd n (List.mem_of_getElem? hn), rfl, fun H2 s2 => ?_⟩⟩
      refine ⟨_, s2 _ _ h1, ?_, fun b o y => by rw [upd_ne (ne_of_none y hD)]; exact s2 _ _ (s1 _ _ y), ?_⟩
      · rw [List.length_replicate]
        exact small1000 (by omega)
      · rw [upd_same, List.replicate_succ']
    · rintro H2 ⟨s1, h1⟩
      refine ⟨D, List.replicate (strN ps).length true, rfl, SqL.of (by rw [h1]; simp), ?_⟩
      have all : (List.replicate (strN ps).length true).all id = true := by simp
      rw [all]
      refine ⟨_, rfl, iteF ?_⟩
      refine ⟨_, rfl, p, rfl, ⟨_, SqL.of (s1 _ _ at1)⟩, fun E hE => ?_⟩
      refine lc_list (K := K) (a := p) (xs := strN ps) (fun i H' => Same H2 H' ∧ H' E = some (.lst (tupN (ps.take i)))) ⟨same_upd hE, by rw [upd_same]; rfl⟩ (fun i H' _ R => SqL.of (R.1 _ _ (s1 _ _ at1))) ?_ ?_
      · rintro i y H' hi ⟨s2, h2⟩
        rw [List.getElem?_map] at hi
        obtain ⟨n, hn, rfl⟩ := Option.map_eq_some_iff.mp hi
        have il := (List.getElem?_eq_some_iff.mp hn).1
        obtain ⟨t1, t2⟩ := num_text (ok.bd n (List.mem_of_getElem? hn))
        refine ⟨rfl, yesI ⟨_, rfl, S (TL.numL n), (n : Int), rfl, t1, t2, ?_⟩⟩
        refine ⟨_, h2, ?_, fun b o y => by rw [upd_ne (ne_of_none y hE)]; exact s2 _ _ y, ?_⟩
        · rw [List.length_map, List.length_take]
          exact small1000 (by omega)
        · rw [upd_same, take_snoc hn]
          simp [tupN]
      · rintro H3 ⟨s2, h2⟩
        rw [List.length_map, List.take_length] at h2
        refine ⟨_, _, rfl, .inl ⟨SqL.of h2, fun l hl => ?_⟩⟩
        have k3 := same_upd (o := .tup (tupN ps)) hl
        exact q _ l (((k1.trans s1).trans s2).trans k3) upd_same
end
end Kw
set_option maxHeartbeats 4000000
namespace Kw
open PySem PySem.Spec PyProof.Rows L2 LamX SX
/-! ### first and end of a part -/
structure PLen (ps : List Nat) : Prop where
  pos : 1 ≤ ps.length
  le : ps.length ≤ 3
theorem PLen.cases {ps : List Nat} (h : PLen ps) : (∃ a, ps = [a]) ∨ (∃ a b, ps = [a, b]) ∨ ∃ a b c, ps = [a, b, c] := by
  match ps, h.pos, h.le with
  | [a], _, _ => exact .inl ⟨a, rfl⟩
  | [a, b], _, _ => exact .inr (.inl ⟨a, b, rfl⟩)
  | [a, b, c], _, _ => exact .inr (.inr ⟨a, b, c, rfl⟩)
theorem PartOk.len {ps : List Nat} (h : PartOk ps) : PLen ps := ⟨h.pos, h.le⟩
def spPartF (K : PySem.W.Frag) : Sp := fun vs H Q _ => ∃ (a : Addr) (ps : List Nat), vs = [.ref a] ∧ SqT K H a (tupN ps) ∧ PLen ps ∧ ∀ H' x, Same H H' → IsVer K H' x (filledV ps) → Q x H'
def spPartE (K : PySem.W.Frag) : Sp := fun vs H Q _ => ∃ (a : Addr) (ps : List Nat), vs = [.ref a] ∧ SqT K H a (tupN ps) ∧ PLen ps ∧ ∀ H' x, Same H H' → IsVer K H' x (endV ps) → Q x H'
theorem scPartF : FnScope ["numbers"] ["numbers"] (defScope sPartF) := ⟨rfl, rfl, rfl, by decide +kernel, rfl, by decide +kernel, by decide +kernel⟩
theorem scPartE : FnScope ["numbers"] ["numbers"] (defScope sPartE) := ⟨rfl, rfl, rfl, by decide +kernel, rfl, by decide +kernel, by decide +kernel⟩
section
variable {P : Program} {w : World} {K : PySem.W.Frag} {mg : Str → Option Value} {base : Heap}
theorem ok_partF {f : Addr} {fd : FuncData} {k : Nat} (F : Fun K "part_first" "part_first" sPartF f fd) (ml : mg "len" = none) : FnOk P w K mg base CX0 (k + 1) f fd ["numbers"] (spPartF K) := by
  refine F.ok scPartF (fun vs H Q E h => ?_) (fun cdv A outer s H vs Q E hr h => ?_)
  · obtain ⟨a, ps, rfl, _⟩ := h
    rfl
  · obtain ⟨a, ps, rfl, ha, len, q⟩ := h
    refine ⟨_, pss_one (ps_ret (pe_op op_catA (pv 0) (pe_op op_rep3 (pe_tup (pa_cons pe_int pa_nil)) (pe_op op_sub pe_int (pe_callB call_len_seq (by rfl) ml PySem.boot_len (pa_cons (pv 0) pa_nil)))))), ?_⟩
    refine ⟨_, rfl, by show 1 ≤ sizeLine; decide, fun p0 hp0 => ?_⟩
    have k0 := same_upd (o := .tup [.int 0]) hp0
    have at0 : SqT K (upd H p0 (.tup [.int 0])) p0 [.int 0] := .inl (.inl upd_same)
    have ha0 := Same.sqT k0 ha
    generalize upd H p0 (.tup [.int 0]) = H0 at k0 at0 ha0 ⊢
    rcases len.cases with ⟨i, rfl⟩ | ⟨i, j, rfl⟩ | ⟨i, j, l, rfl⟩
    · refine ⟨_, rfl, a, _, rfl, .inr ha0, 3, 1, rfl, rfl, p0, 2, .int 0, rfl, rfl, at0, by decide, by decide, (fun z => absurd z (by decide)), fun _ p1 hp1 => ?_⟩
      have k1 := same_upd (o := .tup [.int 0, .int 0]) hp1
      refine ⟨a, p1, _, [.int 0, .int 0], rfl, rfl, Same.sqT k1 ha0, .inl (.inl upd_same), by show 3 ≤ sizeLine; decide, (fun z => by cases z), (fun _ z => by cases z), fun _ _ p2 hp2 => ?_⟩
      exact q _ _ ((k0.trans k1).trans (same_upd hp2)) (IsVer.of (v := filledV [i]) upd_same)
    · refine ⟨_, rfl, a, _, rfl, .inr ha0, 3, 2, rfl, rfl, p0, 1, .int 0, rfl, rfl, at0, by decide, by decide, (fun _ => ?_), fun z => absurd rfl z⟩
      refine ⟨a, p0, _, [.int 0], rfl, rfl, ha0, at0, by show 3 ≤ sizeLine; decide, (fun z => by cases z), (fun _ z => by cases z), fun _ _ p2 hp2 => ?_⟩
      exact q _ _ (k0.trans (same_upd hp2)) (IsVer.of (v := filledV [i, j]) upd_same)
    · refine ⟨_, rfl, a, _, rfl, .inr ha0, 3, 3, rfl, rfl, p0, 0, .int 0, rfl, rfl, at0, by decide, by decide, (fun z => absurd z (by decide)), fun _ p1 hp1 => ?_⟩
      have k1 := same_upd (o := .tup []) hp1
      refine ⟨a, p1, _, [], rfl, rfl, Same.sqT k1 ha0, .inl (.inl upd_same), by show 3 ≤ sizeLine; decide, (fun z => by cases z), (fun _ _ => ?_), fun _ z => absurd rfl z⟩
      exact q _ _ (k0.trans k1) ⟨a, rfl, Same.sqT k1 ha0⟩
theorem ok_partE {f : Addr} {fd : FuncData} {k : Nat} (F : Fun K "part_end" "part_end" sPartE f fd) (DF : Def P w K mg base "part_first" CX0 k ["numbers"] (spPartF K)) : FnOk P w K mg base CX0 (k + 1) f fd ["numbers"] (spPartE K) := by
  refine F.ok scPartE (fun vs H Q E h => ?_) (fun cdv A outer s H vs Q E hr h => ?_)
  · obtain ⟨a, ps, rfl, _⟩ := h
    rfl
  · obtain ⟨a, ps, rfl, ha, len, q⟩ := h
    refine ⟨_, pss_one (ps_ret (pe_d DF hr (pa_cons (pe_op op_catA (pe_slice sl_tupA (pv 0) po_none (po_some (pe_un un_neg pe_int))) (pe_tup (pa_cons (pe_op op_add (pe_ix ix_tup (pv 0) (pe_un un_neg pe_int) (fun _ _ => rfl)) pe_int) pa_nil))) pa_nil))), ?_⟩
    have go : ∀ (xs : List Nat) (y : Nat), ps = xs ++ [y] → ps.length = xs.length + 1 → upN ps = xs ++ [y + 1] → cutV (tupN ps) none (some (-1)) = tupN xs → ¬ (HT.sIx (tupN ps).length 0 none = 0 ∧ HT.sIx (tupN ps).length (tupN ps).length (some (-1)) = (tupN ps).length) →
        ∀ Q1 : VK, (∀ b H1, Same H H1 → SqT K H1 b (tupN (upN ps)) → Q1 (.ref b) H1) → (tOp (rCatA K) (tSl (rSlA K) (tVar 0) tNoPart (tPart (tUn (rU fun i => .int (-i)) (tC (.int 1))))) (tTup (tCons (tOp (rI0 fun i j => .int (i + j)) (tOp (rIxT K) (tVar 0) (tUn (rU fun i => .int (-i)) (tC (.int 1)))) (tC (.int 1))) tNil))) (L2.start ["numbers"] [.ref a]) H Q1 := by
      intro xs y e1 el e2 e3 e4 Q1 q1
      refine ⟨_, rfl, 1, rfl, -1, rfl, a, tupN ps, rfl, ha, (fun z => absurd z e4), fun _ p hp => ?_⟩
      rw [e3]
      have k1 := same_upd (o := .tup (tupN xs)) hp
      have ha1 := Same.sqT k1 ha
      refine ⟨_, rfl, 1, rfl, a, tupN ps, -1, .int (y : Int), rfl, rfl, ha1, ?_, (y : Int), 1, rfl, rfl, by show 1 ≤ sizeLine; decide, fun p2 hp2 => ?_⟩
      · rw [e1, tupN, List.map_append]
        exact atI_last _ _
      · have k2 := same_upd (o := .tup [.int ((y : Int) + 1)]) hp2
        have at1 : SqT K _ p (tupN xs) := .inl (.inl (k2 _ _ upd_same))
        have at2 : SqT K (upd (upd H p (.tup (tupN xs))) p2 (.tup [.int ((y : Int) + 1)])) p2 (tupN [y + 1]) := .inl (.inl (by rw [upd_same]; rfl))
        have lx := len.le
        refine ⟨p, p2, tupN xs, tupN [y + 1], rfl, rfl, at1, at2, by rw [sizeLine_eq, List.length_map]; simp; omega, (fun z => ?_), (fun _ z => by cases z), fun _ _ p3 hp3 => ?_⟩
        · obtain rfl : xs = [] := by simpa using z
          exact q1 p2 _ (k1.trans k2) (by rw [e2]; exact at2)
        · have k3 := same_upd (o := .tup (tupN xs ++ tupN [y + 1])) hp3
          exact q1 p3 _ ((k1.trans k2).trans k3) (.inl (.inl (by rw [upd_same, e2]; simp [tupN])))
    have fin : PLen (upN ps) → ∀ b H1, Same H H1 → SqT K H1 b (tupN (upN ps)) → spPartF K [.ref b] H1 Q E0 := fun l b H1 s1 hb => ⟨b, upN ps, rfl, hb, l, fun H2 x s2 hx => q H2 x (s1.trans s2) hx⟩
    rcases len.cases with ⟨i, rfl⟩ | ⟨i, j, rfl⟩ | ⟨i, j, l, rfl⟩
    · exact go [] i rfl rfl rfl rfl (by show ¬ (HT.sIx 1 0 none = 0 ∧ HT.sIx 1 1 (some (-1)) = 1); decide) _ (fin ⟨by show 1 ≤ 1; decide, by show 1 ≤ 3; decide⟩)
    · exact go [i] j rfl rfl rfl rfl (by show ¬ (HT.sIx 2 0 none = 0 ∧ HT.sIx 2 2 (some (-1)) = 2); decide) _ (fin ⟨by show 1 ≤ 2; decide, by show 2 ≤ 3; decide⟩)
    · exact go [i, j] l rfl rfl rfl rfl (by show ¬ (HT.sIx 3 0 none = 0 ∧ HT.sIx 3 3 (some (-1)) = 3); decide) _ (fin ⟨by show 1 ≤ 3; decide, by show 3 ≤ 3; decide⟩)
theorem caret_zero {ps : List Nat} (h : ∀ n ∈ ps, n = 0) : caretN ps = ps := by
  have e : ps.findIdx? (fun n => n != 0) = none := by
    rw [List.findIdx?_eq_none_iff]
    intro n hn
    rw [h n hn]
    rfl
  unfold caretN
  rw [e]
theorem caret_at {ps : List Nat} {i n : Nat} (h : ∀ j, j < i → ps[j]? = some 0) (hi : ps[i]? = some n) (ne : n ≠ 0) : caretN ps = ps.take (i + 1) := by
  obtain ⟨lt, e⟩ := List.getElem?_eq_some_iff.mp hi
  have z : ps.findIdx? (fun n => n != 0) = some i := by
    rw [List.findIdx?_eq_some_iff_getElem]
    refine ⟨lt, by rw [e]; simpa using ne, fun j hj => ?_⟩
    obtain ⟨l2, e2⟩ := List.getElem?_eq_some_iff.mp (h j hj)
    rw [e2]
    simp
  unfold caretN
  rw [z]
theorem cut_to (xs : List V) (k : Nat) : cutV xs none (some (k : Int)) = xs.take k := by
  unfold cutV
  rw [HT.sIx_none, HT.sIx_nat, List.drop_zero, Nat.sub_zero, ← List.take_eq_take_min]
def spCaret (K : PySem.W.Frag) : Sp := fun vs H Q _ => ∃ (a : Addr) (ps : List Nat), vs = [.ref a] ∧ SqT K H a (tupN ps) ∧ PLen ps ∧ ∀ H' b, Same H H' → SqT K H' b (tupN (caretN ps)) → Q (.ref b) H'
theorem scCaret : FnScope ["numbers", "at", "number"] ["numbers"] (defScope sCaret) := ⟨rfl, rfl, rfl, by decide +kernel, rfl, by decide +kernel, by decide +kernel⟩
theorem ok_caret {f : Addr} {fd : FuncData} {k : Nat} (F : Fun K "caret_numbers" "caret_numbers" sCaret f fd) (me : mg "enumerate" = none) : FnOk P w K mg base CX0 (k + 1) f fd ["numbers"] (spCaret K) := by
  refine F.ok scCaret (fun vs H Q E h => ?_) (fun cdv A outer s H vs Q E hr h => ?_)
  · obtain ⟨a, ps, rfl, _⟩ := h
    rfl
  · obtain ⟨a, ps, rfl, ha, len, q⟩ := h
    refine' ⟨_, pss_cons (ps_for PassesOwn.never rfl ?it (pg_tup rfl (pgs_cons (pg_name (i := 1) scCaret.nd rfl (.inl rfl)) (pgs_cons (pg_name (i := 2) scCaret.nd rfl (.inl rfl)) pgs_nil))) (pss_one ?s1)) (pss_one ?s2), ?_⟩
    case it => exact pi_enumLT (by rfl) me (pa_cons (pv 0) pa_nil)
    case s1 => exact ps_if (pt_cmpR op_ne (pv 2) pe_int (nomark _)) (pss_one (ps_ret (pe_slice sl_tupA (pv 0) po_none (po_some (pe_op op_add (pv 1) pe_int))))) pss_nil
    case s2 => exact ps_ret (pv 0)
    have lp := len.le
    refine ⟨_, rfl, a, tupN ps, rfl, .inr ⟨ha, for_any (n := ps.length) (fun i σ H' => (∃ y1 y2 : Option V, σ = [some (.ref a), y1, y2]) ∧ Same H H' ∧ ∀ j, j < i → ps[j]? = some 0) ⟨⟨none, none, rfl⟩, Same.refl _, fun j hj => absurd hj (Nat.not_lt_zero _)⟩ ?_ ?_ ?_ ?_⟩⟩
    · rintro i σ H' hi ⟨_, sH, _⟩
      exact ⟨tupN ps, (tupN ps)[i]'(by rw [List.length_map]; exact hi), Same.sqT sH ha, List.getElem?_eq_getElem (by rw [List.length_map]; exact hi)⟩
    · rintro σ H' ⟨_, sH, _⟩
      exact ⟨tupN ps, Same.sqT sH ha, by rw [List.length_map]⟩
    · rintro i σ H1 y H' hi ⟨⟨y1, y2, rfl⟩, sH, hz⟩ hy
      obtain ⟨T, x, rfl, hT, rfl, hx⟩ := hy
      have hx := hx (tupN ps) (Same.sqT sH ha)
      rw [List.getElem?_map] at hx
      obtain ⟨n, hn, rfl⟩ := Option.map_eq_some_iff.mp hx
      have k1 := same_upd (o := .tup [.int (i : Nat), .int (n : Int)]) hT
      refine ⟨T, [.int (i : Nat), .int (n : Int)], rfl, .inl (.inl upd_same), rfl, _, _, rfl, _, _, rfl, rfl, ?_⟩
      have sA := sH.trans k1
      have ha1 := Same.sqT sA ha
      refine ⟨_, rfl, rfl, _, rfl, ite2 (fun c => ?_) (fun c => ?_)⟩
      · have ne : n ≠ 0 := fun z => by
          rw [z] at c
          simp at c
        refine ⟨_, rfl, _, rfl, (i : Int), 1, rfl, rfl, (i : Int) + 1, rfl, a, tupN ps, rfl, ha1, (fun z => ?_), fun _ p hp => ?_⟩
        · have z2 := z.2
          rw [show (i : Int) + 1 = ((i + 1 : Nat) : Int) from rfl, HT.sIx_nat, List.length_map] at z2
          refine q _ a sA ?_
          rw [caret_at hz hn ne, List.take_of_length_le (by omega)]
          exact ha1
        · refine q _ p (sA.trans (same_upd hp)) (.inl (.inl ?_))
          rw [upd_same, show (i : Int) + 1 = ((i + 1 : Nat) : Int) from rfl, cut_to, caret_at hz hn ne, tupN, tupN, List.map_take]
      · have z : n = 0 := by simpa using c
        refine ⟨⟨_, _, rfl⟩, sA, fun j hj => ?_⟩
        by_cases e : j < i
        · exact hz j e
        · obtain rfl : j = i := by omega
          rw [hn, z]
    · rintro σ H' ⟨⟨y1, y2, rfl⟩, sH, hz⟩
      refine ⟨_, rfl, q H' a sH ?_⟩
      rw [caret_zero fun n hn => ?_]
      · exact Same.sqT sH ha
      · obtain ⟨j, hj, e⟩ := List.getElem_of_mem hn
        have z := hz j hj
        rw [List.getElem?_eq_getElem hj, e] at z
        exact Option.some.inj z
end
end Kw
set_option maxHeartbeats 4000000
namespace Kw
open PySem PySem.Spec PyProof.Rows L2 LamX SX
/-! ### what a term has -/
abbrev sSpan : Stmt := top 36
abbrev sWordS : Stmt := top 37
def startsB (a b : List Nat) : Bool := decide (b.length ≤ a.length) && (a.take b.length == b)
theorem starts_S (a b : List Nat) : Txt.startswith (S a) (S b) = startsB a b := by
  unfold Txt.startswith startsB
  rw [StrLaws.subAt_eq, S_len, S_len, List.drop_zero, Nat.zero_add]
theorem partL_head {ps : List Nat} (h : PLen ps) : ∃ c r, partL ps = c :: r ∧ 48 ≤ c ∧ c ≤ 57 := by
  have first : ∀ a : Nat, ∃ c r, TL.numL a = c :: r ∧ 48 ≤ c ∧ c ≤ 57 := fun a => by
    have d := TL.numL_digits a
    cases e : TL.numL a with
    | nil => exact absurd e (TL.numL_ne a)
    | cons c r =>
      have z := d c (by rw [e]; exact List.mem_cons_self)
      exact ⟨c, r, rfl, by omega, by omega⟩
  rcases h.cases with ⟨a, rfl⟩ | ⟨a, b, rfl⟩ | ⟨a, b, l, rfl⟩
  · obtain ⟨c, r, e, q⟩ := first a
    exact ⟨c, r, by simp [partL, TL.joinL, e], q⟩
  · obtain ⟨c, r, e, q⟩ := first a
    exact ⟨c, r ++ ([46] ++ TL.numL b), by simp [partL, TL.joinL, e], q⟩
  · obtain ⟨c, r, e, q⟩ := first a
    exact ⟨c, r ++ ([46] ++ (TL.numL b ++ ([46] ++ TL.numL l))), by simp [partL, TL.joinL, e], q⟩
abbrev signsL : List (List Nat) := [[62, 61], [60, 61], [62], [60], [61], [126], [94], []]
theorem sign_first {sg : Sg} {c : Nat} {r : List Nat} (ns : sg ≠ .star) (h : 48 ≤ c ∧ c ≤ 57) : (signsL.filter fun b => startsB (sg.txt ++ c :: r) b).head? = some sg.txt := by
  have c1 : (c == 62) = false := beq_eq_false_iff_ne.mpr (by omega)
  have c2 : (c == 60) = false := beq_eq_false_iff_ne.mpr (by omega)
  have c3 : (c == 61) = false := beq_eq_false_iff_ne.mpr (by omega)
  have c4 : (c == 126) = false := beq_eq_false_iff_ne.mpr (by omega)
  have c5 : (c == 94) = false := beq_eq_false_iff_ne.mpr (by omega)
  have n1 : c ≠ 62 := by omega
  have n2 : c ≠ 60 := by omega
  have n3 : c ≠ 61 := by omega
  have n4 : c ≠ 126 := by omega
  have n5 : c ≠ 94 := by omega
  cases sg <;> first
    | exact absurd rfl ns
    | simp [signsL, startsB, Sg.txt, List.filter, c1, c2, c3, c4, c5, n1, n2, n3, n4, n5]
def spSpan (K : PySem.W.Frag) : Sp := fun vs H Q _ => ∃ (sg : Sg) (a : Addr) (ps : List Nat), sg ≠ .star ∧ vs = [.str (S sg.txt), .ref a] ∧ SqT K H a (tupN ps) ∧ PLen ps ∧ ∀ H' p, Same H H' → IsStr K H' (.ref p) (spanT (sg, ps)) → Q (.ref p) H'
theorem scSpan : FnScope ["sign", "numbers", "first", "end"] ["sign", "numbers"] (defScope sSpan) := ⟨rfl, rfl, rfl, by decide +kernel, rfl, by decide +kernel, by decide +kernel⟩
theorem caret_len {ps : List Nat} (h : PLen ps) : PLen (caretN ps) := by
  unfold caretN
  cases ps.findIdx? fun n => n != 0 with
  | none => exact h
  | some i =>
    refine ⟨?_, ?_⟩
    · have := h.pos
      rw [List.length_take]
      omega
    · have := h.le
      rw [List.length_take]
      omega
section
variable {P : Program} {w : World} {K : PySem.W.Frag} {mg : Str → Option Value} {base : Heap}
theorem ok_span {f Z : Addr} {fd : FuncData} {k : Nat} (F : Fun K "signed_span" "signed_span" sSpan f fd) (gZ : mg "ZERO" = some (.ref Z)) (hZ : ∀ H : Hp, IsVer K H (.ref Z) v000) (DF : Def P w K mg base "part_first" CX0 k ["numbers"] (spPartF K)) (DE : Def P w K mg base "part_end" CX0 k ["numbers"] (spPartE K))
    (DC : Def P w K mg base "caret_numbers" CX0 k ["numbers"] (spCaret K)) : FnOk P w K mg base CX0 (k + 1) f fd ["sign", "numbers"] (spSpan K) := by
  refine F.ok scSpan (fun vs H Q E h => ?_) (fun cdv A outer s H vs Q E hr h => ?_)
  · obtain ⟨sg, a, ps, _, rfl, _⟩ := h
    rfl
  · obtain ⟨sg, a, ps, ns, rfl, ha, len, q⟩ := h
    refine' ⟨_, pss_cons ?s1 (pss_cons ?s2 (pss_cons ?s3 (pss_cons ?s4 (pss_cons ?s5 (pss_cons ?s6 (pss_cons ?s7 (pss_one ?s8))))))), ?_⟩
    case s1 => exact ps_par (i := 2) (j := 3) rfl scSpan.nd rfl rfl (by decide) rfl rfl (pa_cons (pe_d DF hr (pa_cons (pv 1) pa_nil)) (pa_cons (pe_d DE hr (pa_cons (pv 1) pa_nil)) pa_nil)) rfl
    case s2 => exact ps_if (pt_cmpR op_eq (pv 0) pe_str (nomark _)) (pss_one (ps_ret (pe_tup (pa_cons (pv 2) (pa_cons pe_non pa_nil))))) pss_nil
    case s3 => exact ps_if (pt_cmpR op_eq (pv 0) pe_str (nomark _)) (pss_one (ps_ret (pe_tup (pa_cons (pv 3) (pa_cons pe_non pa_nil))))) pss_nil
    case s4 => exact ps_if (pt_cmpR op_eq (pv 0) pe_str (nomark _)) (pss_one (ps_ret (pe_tup (pa_cons (pe_glob (v := .ref Z) (by rfl) gZ rfl) (pa_cons (pv 2) pa_nil))))) pss_nil
    case s5 => exact ps_if (pt_cmpR op_eq (pv 0) pe_str (nomark _)) (pss_one (ps_ret (pe_tup (pa_cons (pe_glob (v := .ref Z) (by rfl) gZ rfl) (pa_cons (pv 3) pa_nil))))) pss_nil
    case s6 => exact ps_if (pt_cmpR op_eq (pv 0) pe_str (nomark _)) (pss_one (ps_ret (pe_tup (pa_cons (pv 2) (pa_cons (pe_d DE hr (pa_cons (pe_slice sl_tupA (pv 1) po_none (po_some pe_int)) pa_nil)) pa_nil))))) pss_nil
    case s7 => exact ps_if (pt_cmpR op_eq (pv 0) pe_str (nomark _)) (pss_one (ps_ret (pe_tup (pa_cons (pv 2) (pa_cons (pe_d DE hr (pa_cons (pe_d DC hr (pa_cons (pv 1) pa_nil)) pa_nil)) pa_nil))))) pss_nil
    case s8 => exact ps_ret (pe_tup (pa_cons (pv 2) (pa_cons (pv 3) pa_nil)))
    dsimp only [tSeq, tAsg, tRet, tIfS, gName, tNext]
    refine ⟨_, rfl, a, ps, rfl, ha, len, fun H1 x s1 hx => ⟨_, rfl, a, ps, rfl, Same.sqT s1 ha, len, fun H2 y s2 hy => ⟨x, y, rfl, ?_⟩⟩⟩
    have hx2 := hx.same s2
    have s12 := s1.trans s2
    have ha2 := Same.sqT s12 ha
    have two : ∀ (H3 : Hp) (u z : V) (lo : Ver) (hi : Option Ver), Same H2 H3 → IsVer K H3 u lo → IsEnd K H3 z hi → (lo, hi) = spanT (sg, ps) → [u, z].length ≤ sizeLine ∧ ∀ p, H3 p = none → Q (.ref p) (upd H3 p (.tup [u, z])) := fun H3 u z lo hi s3 hu hz e => by
      refine ⟨by show 2 ≤ sizeLine; decide, fun p hp => ?_⟩
      have k := same_upd (o := .tup [u, z]) hp
      refine q _ p ((s12.trans s3).trans k) ?_
      rw [← e]
      exact ⟨p, u, z, rfl, .inl (.inl upd_same), hu.same k, hz.same k⟩
    have rf2 := Same.refl H2
    cases sg with
    | star => exact absurd rfl ns
    | ge => exact ⟨_, rfl, rfl, _, rfl, iteT ⟨_, rfl, two H2 x .non _ none rf2 hx2 rfl rfl⟩⟩
    | gt => exact ⟨_, rfl, rfl, _, rfl, iteF ⟨_, rfl, rfl, _, rfl, iteT ⟨_, rfl, two H2 y .non _ none rf2 hy rfl rfl⟩⟩⟩
    | lt => exact ⟨_, rfl, rfl, _, rfl, iteF ⟨_, rfl, rfl, _, rfl, iteF ⟨_, rfl, rfl, _, rfl, iteT ⟨_, rfl, two H2 (.ref Z) x _ (some (filledV ps)) rf2 (hZ _) hx2 rfl⟩⟩⟩⟩
    | le => exact ⟨_, rfl, rfl, _, rfl, iteF ⟨_, rfl, rfl, _, rfl, iteF ⟨_, rfl, rfl, _, rfl, iteF ⟨_, rfl, rfl, _, rfl, iteT ⟨_, rfl, two H2 (.ref Z) y _ (some (endV ps)) rf2 (hZ _) hy rfl⟩⟩⟩⟩⟩
    | til =>
      refine ⟨_, rfl, rfl, _, rfl, iteF ⟨_, rfl, rfl, _, rfl, iteF ⟨_, rfl, rfl, _, rfl, iteF ⟨_, rfl, rfl, _, rfl, iteF ⟨_, rfl, rfl, _, rfl, iteT ⟨_, rfl, _, rfl, 2, rfl, a, tupN ps, rfl, ha2, (fun z => ?_), fun _ p hp => ?_⟩⟩⟩⟩⟩⟩
      · have z2 := z.2
        rw [show (2 : Int) = ((2 : Nat) : Int) from rfl, HT.sIx_nat, List.length_map] at z2
        have e : ps.take 2 = ps := List.take_of_length_le (by omega)
        refine ⟨a, ps, rfl, ha2, len, fun H3 u s3 hu => two H3 x u _ (some (endV ps)) s3 (hx2.same s3) hu ?_⟩
        show _ = (filledV ps, some (endV (ps.take 2)))
        rw [e]
      · have k := same_upd (o := .tup (cutV (tupN ps) none (some 2))) hp
        have e : cutV (tupN ps) none (some 2) = tupN (ps.take 2) := by
          rw [show (2 : Int) = ((2 : Nat) : Int) from rfl, cut_to, tupN, tupN, List.map_take]
        refine ⟨p, ps.take 2, rfl, .inl (.inl (by rw [upd_same, e])), ⟨by have := len.pos; rw [List.length_take]; omega, by have := len.le; rw [List.length_take]; omega⟩, fun H3 u s3 hu => two H3 x u _ (some (endV (ps.take 2))) (k.trans s3) (hx2.same (k.trans s3)) hu rfl⟩
    | car =>
      refine ⟨_, rfl, rfl, _, rfl, iteF ⟨_, rfl, rfl, _, rfl, iteF ⟨_, rfl, rfl, _, rfl, iteF ⟨_, rfl, rfl, _, rfl, iteF ⟨_, rfl, rfl, _, rfl, iteF ⟨_, rfl, rfl, _, rfl, iteT ⟨_, rfl, _, rfl, a, ps, rfl, ha2, len, fun H3 b s3 hb => ?_⟩⟩⟩⟩⟩⟩⟩
      exact ⟨b, caretN ps, rfl, hb, caret_len len, fun H4 u s4 hu => two H4 x u _ (some (endV (caretN ps))) (s3.trans s4) (hx2.same (s3.trans s4)) hu rfl⟩
    | none => exact ⟨_, rfl, rfl, _, rfl, iteF ⟨_, rfl, rfl, _, rfl, iteF ⟨_, rfl, rfl, _, rfl, iteF ⟨_, rfl, rfl, _, rfl, iteF ⟨_, rfl, rfl, _, rfl, iteF ⟨_, rfl, rfl, _, rfl, iteF ⟨_, rfl, _, rfl, two H2 x y _ (some (endV ps)) rf2 hx2 hy rfl⟩⟩⟩⟩⟩⟩⟩
    | eq => exact ⟨_, rfl, rfl, _, rfl, iteF ⟨_, rfl, rfl, _, rfl, iteF ⟨_, rfl, rfl, _, rfl, iteF ⟨_, rfl, rfl, _, rfl, iteF ⟨_, rfl, rfl, _, rfl, iteF ⟨_, rfl, rfl, _, rfl, iteF ⟨_, rfl, _, rfl, two H2 x y _ (some (endV ps)) rf2 hx2 hy rfl⟩⟩⟩⟩⟩⟩⟩
end
end Kw
set_option maxHeartbeats 4000000
namespace Kw
open PySem PySem.Spec PyProof.Rows L2 LamX SX
/-! ### a word's versions -/
/-- a statement that is not reached -/
def tNever : TS := fun _ _ _ => False
theorem ps_never {X : Cx} {st : Stmt} : PS X st tNever := ⟨fun _ _ _ _ _ _ h => False.elim h⟩
abbrev strL (ws : List (List Nat)) : List V := ws.map fun w => V.str (S w)
def TermOk (t : TermT) : Prop := t.1 = .star ∨ PartOk t.2
theorem strL_at {ws : List (List Nat)} {i : Nat} {w : List Nat} (h : ws[i]? = some w) : (strL ws)[i]? = some (.str (S w)) := by
  rw [List.getElem?_map, h]
  rfl
theorem star_ne {t : TermT} (ok : TermOk t) (ns : t.1 ≠ .star) : termL t ≠ [42] := by
  have po : PartOk t.2 := ok.resolve_left ns
  obtain ⟨c, r, e, h1, h2⟩ := partL_head po.len
  obtain ⟨sg, ps⟩ := t
  have e : partL ps = c :: r := e
  intro z
  cases sg with
  | star => exact ns rfl
  | _ => simp [termL, Sg.txt, e] at z <;> omega
theorem termL_ns {t : TermT} (ns : t.1 ≠ .star) : termL t = t.1.txt ++ partL t.2 := by
  obtain ⟨sg, ps⟩ := t
  cases sg <;> first | exact absurd rfl ns | rfl
theorem termL_len {t : TermT} (ok : TermOk t) : (termL t).length ≤ 34 := by
  by_cases st : t.1 = .star
  · unfold termL
    rw [st]
    show ([42] : List Nat).length ≤ 34
    decide
  · have := partL_len (ok.resolve_left st)
    rw [termL_ns st, List.length_append]
    have : t.1.txt.length ≤ 2 := by cases t.1 <;> decide
    omega
theorem cut_S (a b : List Nat) : cutS (S (a ++ b)) (some ((S a).length : Int)) none = S b := by
  rw [C8.cutS_slice]
  exact from_app a b (by rw [S_len])
def spWordS (K : PySem.W.Frag) : Sp := fun vs H Q _ => ∃ (a : Addr) (ws : List (List Nat)) (i : Nat) (t : TermT), vs = [.ref a, .int i] ∧ SqL K H a (strL ws) ∧ ws[i]? = some (termL t) ∧ TermOk t ∧ ∀ H' p, Same H H' → IsStr K H' (.ref p) (spanT t) → Q (.ref p) H'
abbrev nWS : List Str := ["words", "at", "word", "sign", "numbers", "known"]
theorem scWordS : FnScope nWS ["words", "at"] (defScope sWordS) := ⟨rfl, rfl, rfl, by decide +kernel, rfl, by decide +kernel, by decide +kernel⟩
section
variable {P : Program} {w : World} {K : PySem.W.Frag} {mg : Str → Option Value} {base : Heap}
theorem ok_wordS {f Z SG : Addr} {fd : FuncData} {k : Nat} (F : Fun K "word_span" "word_span" sWordS f fd) (ml : mg "len" = none) (gZ : mg "ZERO" = some (.ref Z)) (hZ : ∀ H : Hp, IsVer K H (.ref Z) v000) (gS : mg "SIGNS" = some (.ref SG)) (hS : ∀ H : Hp, SqT K H SG (strL signsL))
    (DP : Def P w K mg base "part_numbers" CX0 k ["word"] spPartN) (DS : Def P w K mg base "signed_span" CX0 k ["sign", "numbers"] (spSpan K)) : FnOk P w K mg base CX0 (k + 1) f fd ["words", "at"] (spWordS K) := by
  refine F.ok scWordS (fun vs H Q E h => ?_) (fun cdv A outer s H vs Q E hr h => ?_)
  · obtain ⟨a, ws, i, t, rfl, _⟩ := h
    rfl
  · obtain ⟨a, ws, i, t, rfl, ha, hi, ok, q⟩ := h
    refine' ⟨_, pss_cons ?s1 (pss_cons ?s2 (pss_cons ?s3 (pss_cons ?s4 (pss_cons ?s5 (pss_cons ?s6 (pss_one ?s7)))))), ?_⟩
    case s1 => exact ps_if (pt_cmpR op_eq (pv 1) (pe_callB call_len_seq (by rfl) ml PySem.boot_len (pa_cons (pv 0) pa_nil)) (nomark _)) (pss_one ps_never) pss_nil
    case s2 => exact ps_set (i := 2) scWordS.nd rfl (.inr rfl) (pe_ix ix_list (pv 0) (pv 1) (fun _ _ => rfl))
    case s3 => exact ps_if (pt_cmpR op_eq (pv 2) pe_str (nomark _)) (pss_one (ps_ret (pe_tup (pa_cons (pe_glob (v := .ref Z) (by rfl) gZ rfl) (pa_cons pe_non pa_nil))))) pss_nil
    case s4 => exact ps_set (i := 3) scWordS.nd rfl (.inl rfl) (pe_ix (r := rIxL K) ix_list (pe_lc (own := [("known", 5)]) (g := gName 5) (te := tVar 5) (tt := tB (tM1 (fun x xs H Q => ∃ a b, x = .str a ∧ xs = [.str b] ∧ Q (.bl (Txt.startswith a b)) H) (tVar 2) (tVar 5))) rfl scWordS.nd (pi_tup (pe_glob (v := .ref SG) (by rfl) gS rfl)) (blkOk_by (N := nWS) (sc := defScope sWordS) (by decide +kernel))
        (fun _ _ _ _ _ => pg_name (i := 5) scWordS.nd rfl (Or.inl rfl)) (fun _ _ _ _ _ => pts_one (pt_val (pe_m1 PySem.F.slot_str_startswith PySem.F.type_str_startswith mt_startswith (pv 2) (pv 5)))) (fun _ _ _ _ _ => pv 5)) pe_int (fun _ _ => rfl))
    case s5 => exact ps_set (i := 4) scWordS.nd rfl (.inl rfl) (pe_d DP hr (pa_cons (pe_slice sl_str (pv 2) (po_some (pe_callB call_len_str (by rfl) ml PySem.boot_len (pa_cons (pv 3) pa_nil))) po_none) pa_nil))
    case s6 => exact ps_if (pt_cmpR op_isN (pv 4) pe_non (nomark _)) (pss_one ps_never) pss_nil
    case s7 => exact ps_ret (pe_d DS hr (pa_cons (pv 3) (pa_cons (pv 4) pa_nil)))
    have il := (List.getElem?_eq_some_iff.mp hi).1
    dsimp only [tSeq, tAsg, tRet, tIfS, gName, tNext]
    have c1 : decide (V.int (i : Int) = V.int ((strL ws).length : Int)) = false := decide_eq_false fun e => by
      have := V.int.inj e
      rw [List.length_map] at this
      omega
    refine ⟨_, rfl, _, rfl, a, strL ws, rfl, .inl ha, rfl, _, rfl, ?_⟩
    rw [c1]
    refine iteF ⟨_, rfl, _, rfl, a, strL ws, (i : Int), _, rfl, rfl, ha, atI_nat (strL_at hi), ?_⟩
    refine ⟨_, rfl, rfl, _, rfl, ?_⟩
    by_cases st : t.1 = .star
    · have e : termL t = [42] := by
        unfold termL
        rw [st]
      rw [e]
      refine iteT ⟨by show 2 ≤ sizeLine; decide, fun p hp => ?_⟩
      have k1 := same_upd (o := .tup [.ref Z, .non]) hp
      refine q _ p k1 ⟨p, .ref Z, .non, rfl, .inl (.inl upd_same), ?_⟩
      have e2 : spanT t = (v000, none) := by
        unfold spanT
        rw [st]
      rw [e2]
      exact ⟨hZ _, rfl⟩
    · have c2 : decide (V.str (S (termL t)) = V.str ("*" : Str)) = false := decide_eq_false fun e => star_ne ok st (S_inj (show S (termL t) = S [42] from V.str.inj e))
      rw [c2]
      have po : PartOk t.2 := ok.resolve_left st
      obtain ⟨c, r, ep, h1, h2⟩ := partL_head po.len
      have tl := termL_len ok
      refine iteF ⟨_, rfl, ⟨_, hS H⟩, fun D hD => ?_⟩
      refine lc_tup (K := K) (a := SG) (xs := strL signsL) (fun i H' => Same H H' ∧ H' D = some (.lst (strL ((signsL.take i).filter fun b => startsB (termL t) b)))) ⟨same_upd hD, upd_same⟩ (fun _ H' _ _ => hS H') ?_ ?_
      · rintro i y H' hy ⟨s1, h1⟩
        rw [List.getElem?_map] at hy
        obtain ⟨b, hb, rfl⟩ := Option.map_eq_some_iff.mp hy
        have il2 := (List.getElem?_eq_some_iff.mp hb).1
        refine ⟨rfl, _, rfl, ⟨_, rfl⟩, _, rfl, _, _, rfl, rfl, _, rfl, ?_⟩
        rw [starts_S, take_snoc hb, List.filter_append]
        have le : ((signsL.take i).filter fun b => startsB (termL t) b).length ≤ 8 := by
          have := List.length_filter_le (fun b => startsB (termL t) b) (signsL.take i)
          rw [List.length_take] at this
          have : i < 8 := il2
          omega
        cases e : startsB (termL t) b with
        | true =>
          refine iteT ⟨_, rfl, _, h1, ?_, fun c o z => by rw [upd_ne (ne_of_none z hD)]; exact s1 _ _ z, ?_⟩
          · rw [List.length_map]
            exact small1000 (by omega)
          · rw [upd_same]
            simp [List.filter, e]
        | false =>
          refine iteF ⟨s1, ?_⟩
          rw [h1]
          simp [List.filter, e]
      · rintro H1 ⟨s1, h1'⟩
        have hd : (signsL.filter fun b => startsB (termL t) b).head? = some t.1.txt := by
          rw [termL_ns st, ep]
          exact sign_first st ⟨h1, h2⟩
        have h0 : (strL (signsL.filter fun b => startsB (termL t) b))[0]? = some (.str (S t.1.txt)) := strL_at (by rw [← List.head?_eq_getElem?]; exact hd)
        rw [List.take_of_length_le (Nat.le_of_eq (by rw [List.length_map]))] at h1'
        refine ⟨D, _, 0, _, rfl, rfl, SqL.of h1', atI_nat (j := 0) h0, ?_⟩
        refine ⟨_, rfl, _, rfl, S t.1.txt, rfl, ?_, _, rfl, S (termL t), rfl, ?_, t.2, po, ?_, fun H2 p s2 hp => ?_⟩
        · rw [S_len, sizeLine_eq]
          have : t.1.txt.length ≤ 2 := by cases t.1 <;> decide
          omega
        · rw [S_len, sizeLine_eq]
          omega
        · rw [termL_ns st, cut_S]
          rfl
        · refine ⟨_, rfl, rfl, _, rfl, iteF ⟨_, rfl, _, rfl, t.1, p, t.2, st, rfl, .inl (.inl hp), po.len, fun H3 u s3 hu => ?_⟩⟩
          exact q H3 u ((s1.trans s2).trans s3) hu
end
end Kw
set_option maxHeartbeats 4000000
namespace Kw
open PySem PySem.Spec PyProof.Rows L2 LamX SX
/-! ### a choice is read -/
abbrev sPartA : Stmt := top 38
abbrev sChoice : Stmt := top 39
abbrev bars : List Nat := [124, 124]
theorem partL_term (ps : List Nat) : partL ps = termL (.none, ps) := rfl
theorem termL_head {t : TermT} (ok : TermOk t) : ∃ c r, termL t = c :: r ∧ c ≠ 45 ∧ c ≠ 124 ∧ c ≠ 110 := by
  by_cases st : t.1 = .star
  · refine ⟨42, [], ?_, by decide, by decide, by decide⟩
    unfold termL
    rw [st]
  · obtain ⟨c, r, e, h1, h2⟩ := partL_head (ok.resolve_left st).len
    obtain ⟨sg, ps⟩ := t
    have e : partL ps = c :: r := e
    rw [termL_ns st]
    show ∃ d q, sg.txt ++ partL ps = d :: q ∧ _
    rw [e]
    cases sg with
    | star => exact absurd rfl st
    | none => exact ⟨c, r, rfl, by omega, by omega, by omega⟩
    | _ => exact ⟨_, _, rfl, by decide, by decide, by decide⟩
theorem term_dash {t : TermT} (ok : TermOk t) : termL t ≠ [45] := fun z => by
  obtain ⟨c, r, e, h, _⟩ := termL_head ok
  rw [e] at z
  exact h (List.cons.inj z).1
theorem term_bars {t : TermT} (ok : TermOk t) : termL t ≠ bars := fun z => by
  obtain ⟨c, r, e, _, h, _⟩ := termL_head ok
  rw [e] at z
  exact h (List.cons.inj z).1
theorem term_none {t : TermT} (ok : TermOk t) : termL t ≠ [110, 111, 110, 101] := fun z => by
  obtain ⟨c, r, e, _, _, h⟩ := termL_head ok
  rw [e] at z
  exact h (List.cons.inj z).1
/-- a choice of right terms -/
def ChOk : ChT → Prop
  | .dash a b => PartOk a ∧ PartOk b
  | .terms t ts => TermOk t ∧ (∀ u ∈ ts, TermOk u)
def ChT.len : ChT → Nat
  | .dash _ _ => 3
  | .terms _ ts => ts.length + 1
theorem words_len (c : ChT) : c.words.length = c.len := by cases c <;> simp [ChT.words, ChT.len]
/-- the choice c stands at the i-th word -/
structure AtW (ws : List (List Nat)) (i : Nat) (c : ChT) : Prop where
  ex : ∃ pre post, ws = pre ++ (c.words ++ post) ∧ pre.length = i ∧ (post = [] ∨ ∃ r, post = bars :: r)
theorem AtW.get {ws : List (List Nat)} {i : Nat} {c : ChT} (h : AtW ws i c) {j : Nat} {w : List Nat} (hj : c.words[j]? = some w) : ws[i + j]? = some w := by
  obtain ⟨pre, post, rfl, rfl, _⟩ := h.ex
  have := (List.getElem?_eq_some_iff.mp hj).1
  rw [List.getElem?_append_right (by omega), Nat.add_sub_cancel_left, List.getElem?_append_left this, hj]
theorem AtW.end_ {ws : List (List Nat)} {i : Nat} {c : ChT} (h : AtW ws i c) : ws.length = i + c.len ∨ ws[i + c.len]? = some bars := by
  obtain ⟨pre, post, rfl, rfl, hp⟩ := h.ex
  rcases hp with rfl | ⟨r, rfl⟩
  · left
    rw [List.append_nil, List.length_append, words_len]
  · right
    rw [List.getElem?_append_right (by omega), Nat.add_sub_cancel_left, List.getElem?_append_right (by rw [words_len]; exact Nat.le_refl _), words_len, Nat.sub_self]
    rfl
def spPartA (K : PySem.W.Frag) : Sp := fun vs H Q _ => ∃ (a : Addr) (ws : List (List Nat)) (i : Nat) (ps : List Nat), vs = [.ref a, .int i] ∧ SqL K H a (strL ws) ∧ ws[i]? = some (partL ps) ∧ PartOk ps ∧ ∀ H' p, Same H H' → H' p = some (.tup (tupN ps)) → Q (.ref p) H'
def spChoice (K : PySem.W.Frag) : Sp := fun vs H Q _ => ∃ (a : Addr) (ws : List (List Nat)) (i : Nat) (c : ChT), vs = [.ref a, .int i] ∧ SqL K H a (strL ws) ∧ AtW ws i c ∧ ChOk c ∧
  ∀ H' p lo hi, Same H H' → SqT K H' p [lo, hi, .int ((i + c.len : Nat) : Int)] → IsVer K H' lo c.span.1 → IsEnd K H' hi c.span.2 → Q (.ref p) H'
abbrev nCh : List Str := ["words", "at", "low", "high", "start", "end"]
theorem scPartA : FnScope ["words", "at", "numbers"] ["words", "at"] (defScope sPartA) := ⟨rfl, rfl, rfl, by decide +kernel, rfl, by decide +kernel, by decide +kernel⟩
theorem scChoice : FnScope nCh ["words", "at"] (defScope sChoice) := ⟨rfl, rfl, rfl, by decide +kernel, rfl, by decide +kernel, by decide +kernel⟩
theorem lt_true {a b : Int} (h : a < b) : decide (a < b) = true := decide_eq_true h
section
variable {P : Program} {w : World} {K : PySem.W.Frag} {mg : Str → Option Value} {base : Heap}
theorem ok_partA {f : Addr} {fd : FuncData} {k : Nat} (F : Fun K "part_at" "part_at" sPartA f fd) (ml : mg "len" = none) (DP : Def P w K mg base "part_numbers" CX0 k ["word"] spPartN) : FnOk P w K mg base CX0 (k + 1) f fd ["words", "at"] (spPartA K) := by
  refine F.ok scPartA (fun vs H Q E h => ?_) (fun cdv A outer s H vs Q E hr h => ?_)
  · obtain ⟨a, ws, i, ps, rfl, _⟩ := h
    rfl
  · obtain ⟨a, ws, i, ps, rfl, ha, hi, ok, q⟩ := h
    refine' ⟨_, pss_cons ?s1 (pss_cons ?s2 (pss_one ?s3)), ?_⟩
    case s1 => exact ps_set (i := 2) scPartA.nd rfl (.inl rfl) (pe_ifExp (pt_cmpR op_lt (pv 1) (pe_callB call_len_seq (by rfl) ml PySem.boot_len (pa_cons (pv 0) pa_nil)) (nomark _)) (pe_d DP hr (pa_cons (pe_ix (r := rIxL K) ix_list (pv 0) (pv 1) (fun _ _ => rfl)) pa_nil)) pe_non)
    case s2 => exact ps_if (pt_cmpR op_isN (pv 2) pe_non (nomark _)) (pss_one ps_never) pss_nil
    case s3 => exact ps_ret (pv 2)
    have il := (List.getElem?_eq_some_iff.mp hi).1
    dsimp only [tSeq, tAsg, tRet, tIfS, gName, tNext]
    refine ⟨_, rfl, _, rfl, a, strL ws, rfl, .inl ha, _, _, rfl, rfl, _, rfl, ?_⟩
    rw [lt_true (by rw [List.length_map]; omega)]
    refine iteT ⟨_, rfl, _, rfl, a, strL ws, (i : Int), _, rfl, rfl, ha, atI_nat (strL_at hi), ps, ok, rfl, fun H1 p s1 hp => ?_⟩
    exact ⟨_, rfl, rfl, _, rfl, iteF ⟨_, rfl, q H1 p s1 hp⟩⟩
theorem ok_choice {f : Addr} {fd : FuncData} {k : Nat} (F : Fun K "read_choice" "read_choice" sChoice f fd) (ml : mg "len" = none) (mm : mg "max" = none) (DW : Def P w K mg base "word_span" CX0 k ["words", "at"] (spWordS K)) (DP : Def P w K mg base "part_numbers" CX0 k ["word"] spPartN) (DA : Def P w K mg base "part_at" CX0 k ["words", "at"] (spPartA K))
    (DE : Def P w K mg base "part_end" CX0 k ["numbers"] (spPartE K)) (DY : Def P w K mg base "earlier_end" CX0 k ["one", "other"] (spEarlyE K)) : FnOk P w K mg base CX0 (k + 1) f fd ["words", "at"] (spChoice K) := by
  refine F.ok scChoice (fun vs H Q E h => ?_) (fun cdv A outer s H vs Q E hr h => ?_)
  · obtain ⟨a, ws, i, c, rfl, _⟩ := h
    rfl
  · obtain ⟨a, ws, i, c, rfl, ha, hw, ok, q⟩ := h
    refine' ⟨_, pss_cons ?s1 (pss_cons ?s2 (pss_cons ?s3 (pss_cons ?s4 (pss_one ?s5)))), ?_⟩
    case s1 => exact ps_asg (pe_d DW hr (pa_cons (pv 0) (pa_cons (pv 1) pa_nil))) (pg_tup rfl (pgs_cons (pg_name (i := 2) scChoice.nd rfl (.inl rfl)) (pgs_cons (pg_name (i := 3) scChoice.nd rfl (.inl rfl)) pgs_nil)))
    case s2 => exact ps_aug (i := 1) scChoice.nd rfl (.inl rfl) pe_int ip_add
    case s3 => exact (ps_if (PW.pt (pw_and (pt_cmpR op_lt (pv 1) (pe_callB call_len_seq (by rfl) ml PySem.boot_len (pa_cons (pv 0) pa_nil)) (nomark _)) (pw_and (pt_cmpR op_eq (pe_ix (r := rIxL K) ix_list (pv 0) (pv 1) (fun _ _ => rfl)) pe_str (nomark _)) (pw_and1 (pt_cmpR op_notN (pe_d DP hr (pa_cons (pe_ix (r := rIxL K) ix_list (pv 0) (pe_op op_sub (pv 1) pe_int) (fun _ _ => rfl)) pa_nil)) pe_non (nomark _))))))
        (pss_one (ps_ret (pe_tup (pa_cons (pv 2) (pa_cons (pe_d DE hr (pa_cons (pe_d DA hr (pa_cons (pv 0) (pa_cons (pe_op op_add (pv 1) pe_int) pa_nil))) pa_nil)) (pa_cons (pe_op op_add (pv 1) pe_int) pa_nil)))))) pss_nil)
    case s4 => exact (ps_while PassesOwn.never (PW.pt (pw_and (pt_cmpR op_lt (pv 1) (pe_callB call_len_seq (by rfl) ml PySem.boot_len (pa_cons (pv 0) pa_nil)) (nomark _)) (pw_and1 (pt_cmpR op_ne (pe_ix (r := rIxL K) ix_list (pv 0) (pv 1) (fun _ _ => rfl)) pe_str (nomark _)))))
        (pss_cons (ps_asg (pe_d DW hr (pa_cons (pv 0) (pa_cons (pv 1) pa_nil))) (pg_tup rfl (pgs_cons (pg_name (i := 4) scChoice.nd rfl (.inl rfl)) (pgs_cons (pg_name (i := 5) scChoice.nd rfl (.inl rfl)) pgs_nil))))
        (pss_cons (ps_par (i := 2) (j := 3) rfl scChoice.nd rfl rfl (by decide) rfl rfl (pa_cons (pe_callB (cr_max2V rfl hr) (by rfl) mm boot_max (pa_cons (pv 2) (pa_cons (pv 4) pa_nil))) (pa_cons (pe_d DY hr (pa_cons (pv 3) (pa_cons (pv 5) pa_nil))) pa_nil)) rfl)
        (pss_one (ps_aug (i := 1) scChoice.nd rfl (.inl rfl) pe_int ip_add)))))
    case s5 => exact ps_ret (pe_tup (pa_cons (pv 2) (pa_cons (pv 3) (pa_cons (pv 1) pa_nil))))
    dsimp only [tSeq, tAsg, tRet, tIfS, gName, tNext]
    cases c with
    | dash x y =>
      obtain ⟨okx, oky⟩ := ok
      have w0 : ws[i]? = some (partL x) := hw.get (j := 0) rfl
      have w1 : ws[i + 1]? = some [45] := hw.get (j := 1) rfl
      have w2 : ws[i + 1 + 1]? = some (partL y) := hw.get (j := 2) rfl
      have l1 := (List.getElem?_eq_some_iff.mp w1).1
      refine ⟨_, rfl, _, rfl, a, ws, i, (.none, x), rfl, ha, w0, .inr okx, fun H1 p s1 hp => ?_⟩
      obtain ⟨p', lo, hh, e, tp, vlo, vhi⟩ := hp
      cases e
      refine ⟨p, [lo, hh], rfl, tp, rfl, _, _, rfl, _, _, rfl, rfl, ?_⟩
      have ha1 := s1.seq ha
      have e1 : decide ((i : Int) + 1 < ((strL ws).length : Int)) = true := lt_true (by rw [List.length_map]; omega)
      refine ⟨_, rfl, _, _, rfl, rfl, ?_⟩
      refine ⟨_, rfl, _, rfl, a, strL ws, rfl, .inl ha1, _, _, rfl, rfl, _, rfl, ?_⟩
      rw [e1]
      refine iteT ⟨_, rfl, _, rfl, a, strL ws, _, _, rfl, rfl, ha1, atI_nat (j := i + 1) (strL_at w1), rfl, _, rfl, ?_⟩
      rw [show decide (V.str (S [45]) = V.str ("-" : Str)) = true from decide_eq_true rfl]
      have i0 : atI (strL ws) ((i : Int) + 1 - 1) = some (.str (S (partL x))) := by
        rw [show (i : Int) + 1 - 1 = ((i : Nat) : Int) by omega]
        exact atI_nat (strL_at w0)
      refine iteT ⟨_, rfl, _, rfl, _, _, rfl, rfl, a, strL ws, _, _, rfl, rfl, ha1, i0, x, okx, rfl, fun H2 p2 s2 hp2 => ⟨rfl, _, rfl, iteT ?_⟩⟩
      have ha2 := s2.seq ha1
      refine ⟨_, rfl, _, rfl, _, rfl, _, _, rfl, rfl, a, ws, i + 1 + 1, y, rfl, ha2, w2, oky, fun H3 p3 s3 hp3 => ⟨p3, y, rfl, .inl (.inl hp3), oky.len, fun H4 z s4 hz => ?_⟩⟩
      refine ⟨_, rfl, _, _, rfl, rfl, by show 3 ≤ sizeLine; decide, fun p4 hp4 => ?_⟩
      have e3 : (i : Int) + 1 + 2 = ((i + 3 : Nat) : Int) := by omega
      have k := same_upd (o := .tup [lo, z, .int ((i : Int) + 1 + 2)]) hp4
      refine q _ p4 lo z ((((s1.trans s2).trans s3).trans s4).trans k) (.inl (.inl ?_)) ((((vlo.same s2).same s3).same s4).same k) (hz.same k)
      rw [upd_same]
      show some (HO.tup [lo, z, .int ((i : Int) + 1 + 2)]) = _
      rw [e3]
      rfl
    | terms t ts =>
      obtain ⟨okt, okts⟩ := ok
      have w0 : ws[i]? = some (termL t) := hw.get (j := 0) rfl
      have nw : ∀ n, n ≤ ts.length → (∃ u, ts[n]? = some u ∧ TermOk u ∧ ws[i + 1 + n]? = some (termL u)) ∨ (n = ts.length ∧ (ws.length = i + 1 + n ∨ ws[i + 1 + n]? = some bars)) := fun n hn => by
        by_cases c : n < ts.length
        · refine .inl ⟨ts[n], List.getElem?_eq_getElem c, okts _ (List.getElem_mem c), ?_⟩
          have z := hw.get (j := n + 1) (w := termL ts[n]) (by
            show (ts.map termL)[n]? = _
            rw [List.getElem?_map, List.getElem?_eq_getElem c]
            rfl)
          rwa [show i + 1 + n = i + (n + 1) by omega]
        · obtain rfl : n = ts.length := by omega
          refine .inr ⟨rfl, ?_⟩
          have z := hw.end_
          rwa [show i + 1 + ts.length = i + (ChT.terms t ts).len by show _ = i + (ts.length + 1); omega]
      refine ⟨_, rfl, _, rfl, a, ws, i, t, rfl, ha, w0, okt, fun H1 p s1 hp => ?_⟩
      obtain ⟨p', lo, hh, e, tp, vlo, vhi⟩ := hp
      cases e
      refine ⟨p, [lo, hh], rfl, tp, rfl, _, _, rfl, _, _, rfl, rfl, ?_⟩
      have ha1 := s1.seq ha
      refine ⟨_, rfl, _, _, rfl, rfl, ?_⟩
      refine ⟨_, rfl, _, rfl, a, strL ws, rfl, .inl ha1, _, _, rfl, rfl, _, rfl, ?_⟩
      -- behind the if
      have rest : tWhile (tAnd (tTest (tOp (rI0 fun i j => .bl (decide (i < j))) (tVar 1) (tCB (fun xs H Q => ∃ p ys, xs = [V.ref p] ∧ (SqL K H p ys ∨ SqT K H p ys) ∧ Q (.int ys.length) H) (tCons (tVar 0) tNil)))) (tTest (tOp rNe (tOp (rIxL K) (tVar 0) (tVar 1)) (tC (.str "||")))))
          (tSeq (fun D σ H => tCall (spWordS K) [] E0 (tCons (tVar 0) (tCons (tVar 1) tNil)) σ H fun x H1 => gTup K 2 (gCons (gName 4) (gCons (gName 5) gNil)) x σ H1 D.nx) (tSeq (tPar 2 3 (tCons (tCB (fun vs H Q => ∃ x y v u, vs = [x, y] ∧ IsVer K H x v ∧ IsVer K H y u ∧ ∀ z, IsVer K H z (maxV v u) → Q z H) (tCons (tVar 2) (tCons (tVar 4) tNil))) (tCons (tCall (spEarlyE K) [] E0 (tCons (tVar 3) (tCons (tVar 5) tNil))) tNil))) (tAug 1 (tC (.int 1)) (ipI fun i j => i + j))))
          { nx := fun σ H => (tTup (tCons (tVar 2) (tCons (tVar 3) (tCons (tVar 1) tNil)))) σ H Q, rt := Q } [some (.ref a), some (.int ((i : Int) + 1)), some lo, some hh, none, none] H1 := by
        let fs : Nat → Str2 := fun n => ((ts.take n).map spanT).foldl meetS (spanT t)
        have fs1 : ∀ n u, ts[n]? = some u → fs (n + 1) = meetS (fs n) (spanT u) := fun n u hu => by
          show ((ts.take (n + 1)).map spanT).foldl meetS (spanT t) = _
          rw [take_snoc hu, List.map_append, List.foldl_append]
          rfl
        refine ⟨fun (m : Nat) (σ : L2.St) (H' : Hp) => ∃ (n : Nat) (xl xh : V) (y4 y5 : Option V), m = ts.length - n ∧ n ≤ ts.length ∧ σ = [some (.ref a), some (.int ((i + 1 + n : Nat) : Int)), some xl, some xh, y4, y5] ∧ Same H H' ∧ IsVer K H' xl (fs n).1 ∧ IsEnd K H' xh (fs n).2,
          ⟨_, 0, lo, hh, none, none, rfl, Nat.zero_le _, rfl, s1, vlo, vhi⟩, ?_⟩
        rintro m σ H2 ⟨n, xl, xh, y4, y5, rfl, hn, rfl, s2, vl, vh⟩
        have ha2 := s2.seq ha
        refine ⟨_, rfl, _, rfl, a, strL ws, rfl, .inl ha2, _, _, rfl, rfl, _, rfl, ?_⟩
        have fin : n = ts.length → tTup (tCons (tVar 2) (tCons (tVar 3) (tCons (tVar 1) tNil))) [some (.ref a), some (.int ((i + 1 + n : Nat) : Int)), some xl, some xh, y4, y5] H2 Q := fun en => by
          refine ⟨_, rfl, _, rfl, _, rfl, by show 3 ≤ sizeLine; decide, fun p4 hp4 => ?_⟩
          have k := same_upd (o := .tup [xl, xh, .int ((i + 1 + n : Nat) : Int)]) hp4
          have es : fs n = (ChT.terms t ts).span := by
            show ((ts.take n).map spanT).foldl meetS (spanT t) = _
            rw [List.take_of_length_le (by omega)]
            rfl
          rw [es] at vl vh
          refine q _ p4 xl xh (s2.trans k) (.inl (.inl ?_)) (vl.same k) (vh.same k)
          rw [upd_same, show i + 1 + n = i + (ChT.terms t ts).len by show _ = i + (ts.length + 1); omega]
        rcases nw n hn with ⟨u, hu, oku, wu⟩ | ⟨en, he⟩
        · have l1 := (List.getElem?_eq_some_iff.mp wu).1
          have ln := (List.getElem?_eq_some_iff.mp hu).1
          rw [lt_true (by rw [List.length_map]; omega)]
          refine iteT ⟨_, rfl, _, rfl, a, strL ws, _, _, rfl, rfl, ha2, atI_nat (strL_at wu), rfl, _, rfl, ?_⟩
          rw [show decide (V.str (S (termL u)) = V.str ("||" : Str)) = false from decide_eq_false fun e => term_bars oku (S_inj (show S (termL u) = S bars from V.str.inj e))]
          refine iteT ⟨fun σ' H' => ∃ (xl xh : V) (y4 y5 : Option V), σ' = [some (.ref a), some (.int ((i + 1 + (n + 1) : Nat) : Int)), some xl, some xh, y4, y5] ∧ Same H H' ∧ IsVer K H' xl (fs (n + 1)).1 ∧ IsEnd K H' xh (fs (n + 1)).2, fun σ' H' ⟨xl, xh, y4, y5, e, g1, g2, g3⟩ => ⟨_, by omega, n + 1, xl, xh, y4, y5, rfl, by omega, e, g1, g2, g3⟩, ?_⟩
          refine ⟨_, rfl, _, rfl, a, ws, i + 1 + n, u, rfl, ha2, wu, oku, fun H3 p3 s3 hp3 => ?_⟩
          obtain ⟨p', l3, h3, e, tp3, vl3, vh3⟩ := hp3
          cases e
          refine ⟨p3, [l3, h3], rfl, tp3, rfl, _, _, rfl, _, _, rfl, rfl, ?_⟩
          refine ⟨_, rfl, _, rfl, xl, l3, (fs n).1, (spanT u).1, rfl, vl.same s3, vl3, fun z hz => ⟨_, rfl, _, rfl, xh, h3, (fs n).2, (spanT u).2, rfl, vh.same s3, vh3, fun z2 hz2 => ⟨_, _, rfl, _, rfl, _, _, rfl, rfl, ?_⟩⟩⟩
          refine ⟨z, z2, _, _, rfl, s2.trans s3, ?_, ?_⟩
          · rw [fs1 n u hu]
            exact hz
          · rw [fs1 n u hu]
            exact hz2
        · rcases he with he | he
          · rw [show decide (((i + 1 + n : Nat) : Int) < ((strL ws).length : Int)) = false from decide_eq_false (by rw [List.length_map]; omega)]
            exact iteF (fin en)
          · have l1 := (List.getElem?_eq_some_iff.mp he).1
            rw [lt_true (by rw [List.length_map]; omega)]
            refine iteT ⟨_, rfl, _, rfl, a, strL ws, _, _, rfl, rfl, ha2, atI_nat (strL_at he), rfl, _, rfl, ?_⟩
            rw [show decide (V.str (S bars) = V.str ("||" : Str)) = true from decide_eq_true rfl]
            exact iteF (fin en)
      by_cases l1 : i + 1 < ws.length
      · rw [show decide ((i : Int) + 1 < ((strL ws).length : Int)) = true from lt_true (by rw [List.length_map]; omega)]
        obtain ⟨u, wu, nu⟩ : ∃ u, ws[i + 1]? = some u ∧ u ≠ [45] := by
          rcases nw 0 (Nat.zero_le _) with ⟨u, hu, oku, wu⟩ | ⟨_, he⟩
          · exact ⟨_, wu, term_dash oku⟩
          · rcases he with he | he
            · omega
            · exact ⟨_, he, by decide⟩
        refine iteT ⟨_, rfl, _, rfl, a, strL ws, _, _, rfl, rfl, ha1, atI_nat (j := i + 1) (strL_at wu), rfl, _, rfl, ?_⟩
        rw [show decide (V.str (S u) = V.str ("-" : Str)) = false from decide_eq_false fun e => nu (S_inj (show S u = S [45] from V.str.inj e))]
        exact iteF rest
      · rw [show decide ((i : Int) + 1 < ((strL ws).length : Int)) = false from decide_eq_false (by rw [List.length_map]; omega)]
        exact iteF rest
end
end Kw
set_option maxHeartbeats 4000000
namespace Kw
open PySem PySem.Spec PyProof.Rows L2 LamX SX
/-! ### all choices of a text -/
abbrev sChoices : Stmt := top 40
def tailC : List ChT → List (List Nat)
  | [] => []
  | c :: cs => bars :: (c.words ++ tailC cs)
def wordsL : List ChT → List (List Nat)
  | [] => []
  | c :: cs => c.words ++ tailC cs
theorem tailC_app : ∀ xs ys : List ChT, tailC (xs ++ ys) = tailC xs ++ tailC ys
  | [], ys => rfl
  | x :: xs, ys => by simp [tailC, tailC_app xs ys]
theorem wordsL_tail {cs : List ChT} (ne : cs ≠ []) : tailC cs = bars :: wordsL cs := by
  cases cs with
  | nil => exact absurd rfl ne
  | cons c cs => rfl
theorem tail_start (cs : List ChT) : tailC cs = [] ∨ ∃ r, tailC cs = bars :: r := by
  cases cs with
  | nil => exact .inl rfl
  | cons c cs => exact .inr ⟨_, rfl⟩
theorem tail_at {cs : List ChT} {n : Nat} {c : ChT} (h : cs[n]? = some c) : tailC cs = tailC (cs.take n) ++ bars :: (c.words ++ tailC (cs.drop (n + 1))) := by
  obtain ⟨lt, e⟩ := List.getElem?_eq_some_iff.mp h
  have z : cs = cs.take n ++ c :: cs.drop (n + 1) := by
    rw [← e, ← List.drop_eq_getElem_cons lt, List.take_append_drop]
  conv => lhs; rw [z]
  rw [tailC_app]
  rfl
theorem choice_at {cs : List ChT} {n : Nat} {c : ChT} (h : cs[n]? = some c) : AtW (wordsL cs) (tailC (cs.take n)).length c := by
  have ne : cs ≠ [] := fun z => by
    rw [z] at h
    simp at h
  have e := tail_at h
  rw [wordsL_tail ne] at e
  cases n with
  | zero =>
    rw [List.take_zero] at e ⊢
    exact ⟨⟨[], tailC (cs.drop 1), (List.cons.inj e).2, rfl, tail_start _⟩⟩
  | succ n =>
    have ne2 : cs.take (n + 1) ≠ [] := fun z => by
      rcases List.take_eq_nil_iff.mp z with z | z
      · omega
      · exact ne z
    rw [wordsL_tail ne2] at e ⊢
    refine ⟨⟨wordsL (cs.take (n + 1)) ++ [bars], tailC (cs.drop (n + 1 + 1)), ?_, by simp, tail_start _⟩⟩
    rw [List.append_assoc]
    exact (List.cons.inj e).2
theorem tail_succ {cs : List ChT} {n : Nat} {c : ChT} (h : cs[n]? = some c) : (tailC (cs.take (n + 1))).length = (tailC (cs.take n)).length + 1 + c.len := by
  rw [take_snoc h, tailC_app, List.length_append]
  show _ + (bars :: (c.words ++ [])).length = _
  rw [List.append_nil, List.length_cons, words_len]
  omega
theorem bars_at {cs : List ChT} {n m : Nat} (h : n < cs.length) (hm : m + 1 = (tailC (cs.take n)).length) : (wordsL cs)[m]? = some bars := by
  have ne : cs ≠ [] := fun z => by
    rw [z] at h
    simp at h
  have e := tail_at (List.getElem?_eq_getElem h)
  rw [wordsL_tail ne] at e
  have z : (bars :: wordsL cs)[m + 1]? = some bars := by
    rw [e, hm, List.getElem?_append_right (Nat.le_refl _), Nat.sub_self]
    rfl
  simpa using z
theorem tail_all {cs : List ChT} (ne : cs ≠ []) : (tailC (cs.take cs.length)).length = (wordsL cs).length + 1 := by
  rw [List.take_length, wordsL_tail ne, List.length_cons]
def spChoices (K : PySem.W.Frag) : Sp := fun vs H Q _ => ∃ (a : Addr) (cs : List ChT), vs = [.ref a] ∧ SqL K H a (strL (wordsL cs)) ∧ cs ≠ [] ∧ (∀ c ∈ cs, ChOk c) ∧ cs.length ≤ 100 ∧
  ∀ H' D zs, Same H H' → H' D = some (.lst zs) → Strs K H' zs (cs.map ChT.span) → Q (.ref D) H'
abbrev nChs : List Str := ["words", "low", "high", "at", "found"]
theorem scChoices : FnScope nChs ["words"] (defScope sChoices) := ⟨rfl, rfl, rfl, by decide +kernel, rfl, by decide +kernel, by decide +kernel⟩
section
variable {P : Program} {w : World} {K : PySem.W.Frag} {mg : Str → Option Value} {base : Heap}
theorem ok_choices {f : Addr} {fd : FuncData} {k : Nat} (F : Fun K "read_choices" "read_choices" sChoices f fd) (ml : mg "len" = none) (DC : Def P w K mg base "read_choice" CX0 k ["words", "at"] (spChoice K)) : FnOk P w K mg base CX0 (k + 1) f fd ["words"] (spChoices K) := by
  refine F.ok scChoices (fun vs H Q E h => ?_) (fun cdv A outer s H vs Q E hr h => ?_)
  · obtain ⟨a, cs, rfl, _⟩ := h
    rfl
  · obtain ⟨a, cs, rfl, ha, ne, ok, few, q⟩ := h
    refine' ⟨_, pss_cons ?s1 (pss_cons ?s2 (pss_cons ?s3 (pss_one ?s4))), ?_⟩
    case s1 => exact ps_asg (pe_d DC hr (pa_cons (pv 0) (pa_cons pe_int pa_nil))) (pg_tup rfl (pgs_cons (pg_name (i := 1) scChoices.nd rfl (.inl rfl)) (pgs_cons (pg_name (i := 2) scChoices.nd rfl (.inl rfl)) (pgs_cons (pg_name (i := 3) scChoices.nd rfl (.inl rfl)) pgs_nil))))
    case s2 => exact ps_set (i := 4) scChoices.nd rfl (.inl rfl) (pe_lst (pa_cons (pe_tup (pa_cons (pv 1) (pa_cons (pv 2) pa_nil))) pa_nil))
    case s3 => exact (ps_while PassesOwn.never (pt_cmpR op_lt (pv 3) (pe_callB call_len_seq (by rfl) ml PySem.boot_len (pa_cons (pv 0) pa_nil)) (nomark _))
        (pss_cons (ps_if (pt_cmpR op_ne (pe_ix (r := rIxL K) ix_list (pv 0) (pv 3) (fun _ _ => rfl)) pe_str (nomark _)) (pss_one ps_never) pss_nil)
        (pss_cons (ps_asg (pe_d DC hr (pa_cons (pv 0) (pa_cons (pe_op op_add (pv 3) pe_int) pa_nil))) (pg_tup rfl (pgs_cons (pg_name (i := 1) scChoices.nd rfl (.inl rfl)) (pgs_cons (pg_name (i := 2) scChoices.nd rfl (.inl rfl)) (pgs_cons (pg_name (i := 3) scChoices.nd rfl (.inl rfl)) pgs_nil)))))
        (pss_one (ps_expr (pe_bm PySem.F.plainAttrs_list PySem.F.slot_list_append PySem.F.type_list_append mt_append (pv 4) (pa_cons (pe_tup (pa_cons (pv 1) (pa_cons (pv 2) pa_nil))) pa_nil)))))))
    case s4 => exact ps_ret (pv 4)
    dsimp only [tSeq, tAsg, tRet, tIfS, gName, tNext, tDrop]
    have pos : 0 < cs.length := List.length_pos_iff.mpr ne
    have h0 : cs[0]? = some cs[0] := List.getElem?_eq_getElem pos
    refine ⟨_, rfl, a, wordsL cs, 0, cs[0], rfl, ha, choice_at h0, ok _ (List.getElem_mem pos), fun H1 p lo hi s1 tp vl vh => ?_⟩
    refine ⟨p, [lo, hi, .int ((0 + cs[0].len : Nat) : Int)], rfl, tp, rfl, _, _, rfl, _, _, rfl, _, _, rfl, rfl, ?_⟩
    refine ⟨_, rfl, _, rfl, by show 2 ≤ sizeLine; decide, fun d hd => ⟨by show 1 ≤ sizeLine; decide, fun D hD => ?_⟩⟩
    have t1 := same_upd (o := .tup [lo, hi]) hd
    have t2 := same_upd (o := .lst [.ref d]) hD
    have tA := t1.trans t2
    have first : Strs K (upd (upd H1 d (.tup [lo, hi])) D (.lst [.ref d])) [.ref d] ((cs.take 1).map ChT.span) := by
      rw [take_snoc h0, List.take_zero, List.nil_append]
      exact strs_one (s := cs[0].span) ⟨d, lo, hi, rfl, .inl (.inl (t2 _ _ upd_same)), vl.same tA, vh.same tA⟩
    have nD : H D = none := s1.free (t1.free hD)
    refine ⟨fun (m : Nat) (σ : L2.St) (H' : Hp) => ∃ (n j : Nat) (xl xh : V) (zs : List V), m = cs.length - n ∧ 1 ≤ n ∧ n ≤ cs.length ∧ j + 1 = (tailC (cs.take n)).length ∧ σ = [some (.ref a), some xl, some xh, some (.int (j : Int)), some (.ref D)] ∧ Same H H' ∧ H' D = some (.lst zs) ∧ Strs K H' zs ((cs.take n).map ChT.span),
      ⟨_, 1, cs[0].len, lo, hi, [.ref d], rfl, Nat.le_refl _, pos, ?_, ?_, s1.trans tA, upd_same, first⟩, ?_⟩
    · rw [tail_succ h0]
      simp [tailC]
      omega
    · rw [Nat.zero_add]
      rfl
    rintro m σ H2 ⟨n, j, xl, xh, zs, rfl, n1, hn, hj, rfl, s2, hD2, hz⟩
    have ha2 := s2.seq ha
    refine ⟨_, rfl, _, rfl, a, _, rfl, .inl ha2, _, _, rfl, rfl, _, rfl, ?_⟩
    by_cases c : n < cs.length
    · have hb := bars_at c hj
      have lj := (List.getElem?_eq_some_iff.mp hb).1
      rw [lt_true (by rw [List.length_map]; omega)]
      have hc : cs[n]? = some cs[n] := List.getElem?_eq_getElem c
      refine iteT ⟨fun σ' H' => ∃ (j : Nat) (xl xh : V) (zs : List V), j + 1 = (tailC (cs.take (n + 1))).length ∧ σ' = [some (.ref a), some xl, some xh, some (.int (j : Int)), some (.ref D)] ∧ Same H H' ∧ H' D = some (.lst zs) ∧ Strs K H' zs ((cs.take (n + 1)).map ChT.span), fun σ' H' ⟨j, xl, xh, zs, g1, g2, g3, g4, g5⟩ => ⟨_, by omega, n + 1, j, xl, xh, zs, rfl, by omega, by omega, g1, g2, g3, g4, g5⟩, ?_⟩
      refine ⟨_, rfl, _, rfl, a, _, _, _, rfl, rfl, ha2, atI_nat (strL_at hb), rfl, _, rfl, ?_⟩
      rw [show decide (V.str (S bars) = V.str ("||" : Str)) = true from decide_eq_true rfl]
      have ca := choice_at hc
      rw [← hj] at ca
      refine iteF ⟨_, rfl, _, rfl, _, _, rfl, rfl, a, wordsL cs, j + 1, cs[n], rfl, ha2, ca, ok _ (List.getElem_mem c), fun H3 p3 lo3 hi3 s3 tp3 vl3 vh3 => ?_⟩
      refine ⟨p3, [lo3, hi3, .int ((j + 1 + cs[n].len : Nat) : Int)], rfl, tp3, rfl, _, _, rfl, _, _, rfl, _, _, rfl, rfl, ?_⟩
      have hD3 := s3 _ _ hD2
      refine ⟨_, rfl, .inl ⟨rfl, _, SqL.of hD3⟩, _, rfl, _, rfl, by show 2 ≤ sizeLine; decide, fun d3 hd3 => ?_⟩
      have t3 := same_upd (o := .tup [lo3, hi3]) hd3
      have hD4 := t3 _ _ hD3
      have lz : zs.length ≤ 1000 := by
        rw [hz.len, List.length_map, List.length_take]
        omega
      have f1 : Fr1 D (upd H3 d3 (.tup [lo3, hi3])) (upd (upd H3 d3 (.tup [lo3, hi3])) D (.lst (zs ++ [.ref d3]))) := Fr1.put
      refine ⟨D, zs, _, rfl, rfl, hD4, small1000 lz, j + 1 + cs[n].len, lo3, hi3, zs ++ [.ref d3], ?_, rfl, fun b o e => ?_, upd_same, ?_⟩
      · rw [tail_succ hc]
        omega
      · rw [upd_ne (ne_of_none e nD)]
        exact t3 _ _ (s3 _ _ (s2 _ _ e))
      · rw [take_snoc hc, List.map_append]
        exact (f1.strs hD4 ((hz.same s3).same t3)).snoc (f1.str (s := cs[n].span) hD4 ⟨d3, lo3, hi3, rfl, .inl (.inl upd_same), vl3.same t3, vh3.same t3⟩)
    · obtain rfl : n = cs.length := by omega
      rw [tail_all ne] at hj
      rw [show decide ((j : Int) < ((strL (wordsL cs)).length : Int)) = false from decide_eq_false (by rw [List.length_map]; omega)]
      rw [List.take_length] at hz
      exact iteF ⟨_, rfl, q H2 D zs s2 hD2 hz⟩
end
end Kw
set_option maxHeartbeats 4000000
namespace Kw
open PySem PySem.Spec PyProof.Rows L2 LamX SX
/-! ### read_range -/
abbrev sRangeOf : Stmt := top 26
abbrev sRead : Stmt := top 41
abbrev noneL : List Nat := [110, 111, 110, 101]
/-- Range() -/
structure RangeMk0 (P : Program) (w : World) (K : PySem.W.Frag) (mg : Str → Option Value) (base : Heap) (CR CE : Addr) (T : List (Addr × Str)) (k : Nat) : Prop where
  ex : ∃ f fd e0, FnOk P w K mg base (L2.CX P w) k f fd ["self", "stretches"] (spInit K T CR CE) ∧ Mk K CR f ∧ Binds K fd ["self", "stretches"] [.ref e0] ∧ ∀ H : Hp, SqT K H e0 []
  gR : mg "Range" = some (.ref CR)
theorem pe_rng0 {X : Cx} {CR CE : Addr} {T : List (Addr × Str)} {k : Nat} {p pos : Pos} {E : XK} (M : RangeMk0 X.prog X.w X.K X.mg X.base CR CE T k) (hr : Room (k + 1) X.A) (hx : Passes (L2.CX X.prog X.w) X E) (hg : Gl X "Range" := by rfl) :
    PE X (.Call (.Name "Range" p) [] [] pos) (fun σ H Q => Tabs T H ∧ ∀ H' x, ExtN H H' → Tabs T H' → IsR X.K CR H' (.ref x) [] → H x = none → Q (.ref x) H') := by
  obtain ⟨f, fd, e0, F, Mk, hb, he⟩ := M.ex
  refine ⟨fun pins s σ H Q I h => (pe_make0 (ds := [.ref e0]) (dvs := [.ref e0]) Mk F hr hg M.gR hb (.cons rfl .nil) hx (by decide)).run pins s σ H Q I ?_⟩
  obtain ⟨hT, q⟩ := h
  intro x dx na nd ne
  exact rngA (R := fun H2 => Q (.ref x) H2) (xs := []) (ss := []) hT (.inr (he H)) (by simp) ⟨rfl, fun i x s h => by simp at h⟩ (fun s h => by simp at h) na nd fun H' ss' e T' hR pm pw => by
    rw [List.perm_nil.mp pm] at hR
    exact q H' x e T' hR na
def spRangeOf (K : PySem.W.Frag) (T : List (Addr × Str)) (CR : Addr) : Sp := fun vs H Q _ => ∃ (a : Addr) (xs : List V) (ss : List Str2), vs = [.ref a] ∧ Tabs T H ∧ SqLT K H a xs ∧ Strs K H xs ss ∧ ss.length ≤ 60 ∧
  ∀ (H' : Hp) (x : Addr) (ss' : List Str2), ExtN H H' → Tabs T H' → IsR K CR H' (.ref x) (ss'.foldl nfAdd []) → ss'.Perm ss → ss'.Pairwise (fun p q => ¬ ltV q.1 p.1) → Q (.ref x) H'
/-- what a read text has -/
structure ReadR (cs : List ChT) (nf : List Str2) : Prop where
  norm : NF nf
  has : ∀ v, hasL nf v = anyC cs v
  few : nf.length ≤ cs.length
def spRead (K : PySem.W.Frag) (T : List (Addr × Str)) (CR : Addr) : Sp := fun vs H Q _ => Tabs T H ∧ ((vs = [.str (S noneL)] ∧ ∀ (H' : Hp) (x : Addr), ExtN H H' → Tabs T H' → IsR K CR H' (.ref x) [] → Q (.ref x) H') ∨
  ∃ cs : List ChT, vs = [.str (S (TL.joinL [32] (wordsL cs)))] ∧ cs ≠ [] ∧ (∀ c ∈ cs, ChOk c) ∧ cs.length ≤ 60 ∧ (TL.joinL [32] (wordsL cs)).length ≤ 1000000 ∧
    ∀ (H' : Hp) (x : Addr) (nf : List Str2), ExtN H H' → Tabs T H' → IsR K CR H' (.ref x) nf → ReadR cs nf → Q (.ref x) H')
theorem scRangeOf : FnScope ["stretches"] ["stretches"] (defScope sRangeOf) := ⟨rfl, rfl, rfl, by decide +kernel, rfl, by decide +kernel, by decide +kernel⟩
abbrev nRd : List Str := ["text", "words", "low", "high"]
theorem scRead : FnScope nRd ["text"] (defScope sRead) := ⟨rfl, rfl, rfl, by decide +kernel, rfl, by decide +kernel, by decide +kernel⟩
/-! ### words have no blanks -/
theorem partL_signs {ps : List Nat} : ∀ c ∈ partL ps, c ≠ 32 := by
  have num : ∀ n : Nat, ∀ c ∈ TL.numL n, c ≠ 32 := fun n c hc => by
    have := TL.numL_digits n c hc
    omega
  have : ∀ l : List Nat, ∀ c ∈ TL.joinL [46] (l.map TL.numL), c ≠ 32 := by
    intro l
    induction l with
    | nil => intro c hc; simp [TL.joinL] at hc
    | cons x l ih =>
      intro c hc
      cases l with
      | nil => simp [TL.joinL] at hc; exact num x c hc
      | cons y l =>
        simp [TL.joinL] at hc
        rcases hc with hc | rfl | hc
        · exact num x c hc
        · decide
        · exact ih c (by simpa [TL.joinL] using hc)
  exact this ps
theorem termL_signs {t : TermT} : 32 ∉ termL t := fun h => by
  obtain ⟨sg, ps⟩ := t
  have p := fun c hc => partL_signs (ps := ps) c hc
  cases sg <;> simp [termL, Sg.txt] at h <;> exact p 32 h rfl
theorem words_signs : ∀ (cs : List ChT), ∀ w ∈ tailC cs, 32 ∉ w
  | [], w, h => nomatch h
  | c :: cs, w, h => by
    rcases List.mem_cons.mp h with rfl | h
    · decide
    · rcases List.mem_append.mp h with h | h
      · cases c with
        | dash a b =>
          simp [ChT.words] at h
          rcases h with rfl | rfl | rfl
          · exact fun z => partL_signs _ z rfl
          · decide
          · exact fun z => partL_signs _ z rfl
        | terms t ts =>
          simp only [ChT.words, List.mem_cons, List.mem_map] at h
          rcases h with rfl | ⟨u, _, rfl⟩
          · exact termL_signs
          · exact termL_signs
      · exact words_signs cs w h
theorem wordsL_ne {cs : List ChT} (ne : cs ≠ []) : wordsL cs ≠ [] := by
  cases cs with
  | nil => exact absurd rfl ne
  | cons c cs =>
    intro z
    have := congrArg List.length z
    simp [wordsL, words_len] at this
    cases c <;> simp [ChT.len] at this
theorem words_split {cs : List ChT} (ne : cs ≠ []) : Txt.split (S (TL.joinL [32] (wordsL cs))) (S [32]) = (wordsL cs).map S := by
  rw [split_S (by decide) (by decide), spl_join (wordsL_ne ne) fun w hw => words_signs cs w (by rw [wordsL_tail ne]; exact List.mem_cons_of_mem _ hw)]
theorem none_split : Txt.split (S noneL) (S [32]) = [S noneL] := by
  have e : TL.joinL [32] [noneL] = noneL := by simp [TL.joinL]
  have z := spl_join (c := 32) (sep := []) (parts := [noneL]) (by simp) (by decide)
  rw [split_S (by decide) (by decide)]
  rw [e] at z
  rw [z]
  rfl
theorem first_word {cs : List ChT} (ne : cs ≠ []) (ok : ∀ c ∈ cs, ChOk c) : ∃ w, (wordsL cs)[0]? = some w ∧ w ≠ noneL := by
  cases cs with
  | nil => exact absurd rfl ne
  | cons c cs =>
    have := ok c List.mem_cons_self
    cases c with
    | dash a b => exact ⟨partL a, rfl, term_none (t := (.none, a)) (.inr this.1)⟩
    | terms t ts => exact ⟨termL t, rfl, term_none this.1⟩
theorem read_ok {cs : List ChT} {ss' : List Str2} (pm : ss'.Perm ((cs.map ChT.span).filter someS)) (pw : ss'.Pairwise fun p q => ¬ ltV q.1 p.1) : ReadR cs (ss'.foldl nfAdd []) := by
  have oks := some_ok cs
  obtain ⟨a, b⟩ := nf_fold ss' [] ⟨fun s h => (nomatch h), List.Pairwise.nil⟩ (fun t ht => (nomatch ht)) pw fun s hs => oks s (pm.mem_iff.mp hs)
  refine ⟨a, fun v => ?_, ?_⟩
  · rw [nf_has oks pm pw, some_has]
  · have l1 := nf_len ss' []
    have l2 := pm.length_eq
    have l3 := List.length_filter_le someS (cs.map ChT.span)
    simp only [List.length_nil, Nat.zero_add, List.length_map] at l1 l3
    omega
section
variable {P : Program} {w : World} {K : PySem.W.Frag} {mg : Str → Option Value} {base : Heap}
theorem ok_rangeOf {f CR CN : Addr} {fd : FuncData} {k : Nat} {T : List (Addr × Str)} (F : Fun K "range_of" "range_of" sRangeOf f fd) (M : NormMk P w K mg base CR CN k) (DN : Def P w K mg base "normal_form" CX0 (k + 1) ["stretches"] (spNF K T)) : FnOk P w K mg base CX0 (k + 2) f fd ["stretches"] (spRangeOf K T CR) := by
  refine F.ok scRangeOf (fun vs H Q E h => ?_) (fun cdv A outer s H vs Q E hr h => ?_)
  · obtain ⟨a, xs, ss, rfl, _⟩ := h
    rfl
  · obtain ⟨a, xs, ss, rfl, hT, hS, hss, hl, q⟩ := h
    refine ⟨_, pss_one (ps_ret (pe_rngN M hr passL (pe_d DN hr (pa_cons (pv 0) pa_nil)))), ?_⟩
    refine ⟨_, rfl, a, xs, ss, rfl, hT, hS, hss, hl, fun H1 D zs ss' e1 T1 hD pm pw hz => ?_⟩
    exact rngN_at (.inl (.inl hD)) hz fun H2 z s2 nz hR => q H2 z ss' (e1.trans (ExtN.same s2)) (T1.ext s2) hR pm pw
theorem ok_read {f CR CE : Addr} {fd : FuncData} {k : Nat} {T : List (Addr × Str)} (F : Fun K "read_range" "read_range" sRead f fd) (mi : mg "isinstance" = none) (mst : mg "str" = none) (ml : mg "len" = none) (M : RangeMk0 P w K mg base CR CE T k) (DR : Def P w K mg base "range_of" CX0 (k + 1) ["stretches"] (spRangeOf K T CR)) (DC : Def P w K mg base "read_choices" CX0 (k + 1) ["words"] (spChoices K)) :
    FnOk P w K mg base CX0 (k + 2) f fd ["text"] (spRead K T CR) := by
  refine F.ok scRead (fun vs H Q E h => ?_) (fun cdv A outer s H vs Q E hr h => ?_)
  · obtain ⟨hT, ⟨rfl, _⟩ | ⟨cs, rfl, _⟩⟩ := h <;> rfl
  · obtain ⟨hT, h⟩ := h
    refine' ⟨_, pss_cons ?s1 (pss_cons ?s2 (pss_cons ?s3 (pss_one ?s4))), ?_⟩
    case s1 => exact ps_if (pt_not (pt_val (pe_callB call_isi (by rfl) mi (by decide +kernel) (pa_cons (pv 0) (pa_cons (pe_bltn (v := .ty "str") (by rfl) mst (by decide +kernel) rfl) pa_nil))))) (pss_one ps_never) pss_nil
    case s2 => exact ps_set (i := 1) scRead.nd rfl (.inl rfl) (pe_split (pv 0) pe_str)
    case s3 => exact ps_if (pt_cmpR op_eq (pe_ix (r := rIxL K) ix_list (pv 1) pe_int (fun _ _ => rfl)) pe_str (nomark _)) (pss_cons (ps_if (pt_cmpR op_gt (pe_callB call_len_seq (by rfl) ml PySem.boot_len (pa_cons (pv 1) pa_nil)) pe_int (nomark _)) (pss_one ps_never) pss_nil) (pss_one (ps_ret (pe_rng0 M hr passL)))) pss_nil
    case s4 => exact ps_ret (pe_d DR hr (pa_cons (pe_lc (own := [("low", 2), ("high", 3)]) (g := gTup K 2 (gCons (gName 2) (gCons (gName 3) gNil))) (te := tTup (tCons (tVar 2) (tCons (tVar 3) tNil))) (tt := tOr (tTest (tOp (fun x y H Q => y = .non ∧ Q (.bl (decide (x = .non))) H) (tVar 3) (tC .non))) (tTest (tOp (rVer K .Lt) (tVar 2) (tVar 3)))) rfl scRead.nd (pi_list (pe_d DC hr (pa_cons (pv 1) pa_nil))) (blkOk_by (N := nRd) (sc := defScope sRead) (by decide +kernel))
        (fun _ _ _ _ _ => pg_tup rfl (pgs_cons (pg_name (i := 2) scRead.nd rfl (.inl rfl)) (pgs_cons (pg_name (i := 3) scRead.nd rfl (.inl rfl)) pgs_nil))) (fun _ _ _ _ _ => pts_one (PW.pt (pw_or (pt_cmpR op_isN (pv 3) pe_non (nomark _)) (pw_or1 (pt_cmpR (op_ver (op := .Lt) (.inl rfl) hr.units0) (pv 2) (pv 3) (nomark _))))))
        (fun _ _ _ _ _ => pe_tup (pa_cons (pv 2) (pa_cons (pv 3) pa_nil)))) pa_nil))
    dsimp only [tSeq, tAsg, tRet, tIfS, gName, tNext, tDrop]
    rcases h with ⟨rfl, q⟩ | ⟨cs, rfl, ne, ok, few, len, q⟩
    · refine ⟨_, rfl, .str (S noneL), .ty "str", .type "str", .type "str", true, rfl, .ty _, Flat.ty (.str _), kit_ty (by decide +kernel), true, rfl, iteF ?_⟩
      refine ⟨_, rfl, ⟨_, rfl⟩, S noneL, " ", rfl, rfl, by decide, by rw [S_len, sizeLine_eq]; decide, fun p hp => ?_⟩
      have k1 := same_upd (o := .lst ((Txt.split (S noneL) " ").map V.str)) hp
      have at1 : upd H p (.lst ((Txt.split (S noneL) " ").map V.str)) p = some (.lst [.str (S noneL)]) := by
        rw [upd_same, show ((" " : Str)) = S [32] from rfl, none_split]
        rfl
      generalize upd H p (.lst ((Txt.split (S noneL) " ").map V.str)) = H1 at k1 at1 ⊢
      refine ⟨_, rfl, p, _, 0, _, rfl, rfl, SqL.of at1, atI_nat (j := 0) rfl, rfl, _, rfl, ?_⟩
      rw [show decide (V.str (S noneL) = V.str ("none" : Str)) = true from decide_eq_true rfl]
      refine iteT ⟨_, rfl, p, _, rfl, .inl (SqL.of at1), _, 1, rfl, rfl, _, rfl, iteF ?_⟩
      exact ⟨hT.ext k1, fun H2 x e2 T2 hR _ => q H2 x ((ExtN.same k1).trans e2) T2 hR⟩
    · refine ⟨_, rfl, .str (S (TL.joinL [32] (wordsL cs))), .ty "str", .type "str", .type "str", true, rfl, .ty _, Flat.ty (.str _), kit_ty (by decide +kernel), true, rfl, iteF ?_⟩
      refine ⟨_, rfl, ⟨_, rfl⟩, S (TL.joinL [32] (wordsL cs)), " ", rfl, rfl, by decide, by rw [S_len, sizeLine_eq]; omega, fun p hp => ?_⟩
      have k1 := same_upd (o := .lst ((Txt.split (S (TL.joinL [32] (wordsL cs))) " ").map V.str)) hp
      have at1 : upd H p (.lst ((Txt.split (S (TL.joinL [32] (wordsL cs))) " ").map V.str)) p = some (.lst (strL (wordsL cs))) := by
        rw [upd_same, show ((" " : Str)) = S [32] from rfl, words_split ne]
        simp [strL]
      generalize upd H p (.lst ((Txt.split (S (TL.joinL [32] (wordsL cs))) " ").map V.str)) = H1 at k1 at1 ⊢
      obtain ⟨w0, hw0, nw0⟩ := first_word ne ok
      refine ⟨_, rfl, p, _, 0, _, rfl, rfl, SqL.of at1, atI_nat (j := 0) (strL_at hw0), rfl, _, rfl, ?_⟩
      rw [show decide (V.str (S w0) = V.str ("none" : Str)) = false from decide_eq_false fun e => nw0 (S_inj (show S w0 = S noneL from V.str.inj e))]
      refine iteF ⟨_, rfl, p, cs, rfl, SqL.of at1, ne, ok, by omega, fun H2 D zs s2 hD hz => ⟨D, rfl, ⟨_, SqL.of hD⟩, fun L hL => ?_⟩⟩
      refine lc_list (K := K) (a := D) (xs := zs) (fun i H' => Same H2 H' ∧ ∃ ys, H' L = some (.lst ys) ∧ Strs K H' ys (((cs.map ChT.span).take i).filter someS)) ⟨same_upd hL, [], upd_same, rfl, fun i x s h => by simp at h⟩ (fun i H' _ R => SqL.of (R.1 _ _ hD)) ?_ ?_
      · rintro i y H3 hy ⟨s3, ys, hL3, hys⟩
        obtain ⟨st, hst, pa, lo, hh, rfl, g1, g2, g3⟩ := (hz.same s3).get hy
        have il := (List.getElem?_eq_some_iff.mp hst).1
        have ly : ys.length ≤ 60 := by
          rw [hys.len]
          have := List.length_filter_le someS ((cs.map ChT.span).take i)
          rw [List.length_take, List.length_map] at this
          omega
        refine ⟨pa, [lo, hh], rfl, g1, rfl, _, _, rfl, _, _, rfl, rfl, rfl, ?_⟩
        rw [take_snoc hst, List.filter_append]
        have yes : someS st = true → ∀ pn, H3 pn = none → ∃ acc, (upd H3 pn (.tup [lo, hh])) L = some (.lst acc) ∧ acc.length < sizeLine ∧ (Same H2 (upd (upd H3 pn (.tup [lo, hh])) L (.lst (acc ++ [.ref pn]))) ∧ ∃ ys, (upd (upd H3 pn (.tup [lo, hh])) L (.lst (acc ++ [.ref pn]))) L = some (.lst ys) ∧ Strs K (upd (upd H3 pn (.tup [lo, hh])) L (.lst (acc ++ [.ref pn]))) ys (((cs.map ChT.span).take i).filter someS ++ [st].filter someS)) := fun e pn hpn => by
          have t1 := same_upd (o := .tup [lo, hh]) hpn
          have hL4 := t1 _ _ hL3
          have f1 : Fr1 L (upd H3 pn (.tup [lo, hh])) (upd (upd H3 pn (.tup [lo, hh])) L (.lst (ys ++ [.ref pn]))) := Fr1.put
          refine ⟨ys, hL4, small1000 (by omega), fun b o z => ?_, ys ++ [.ref pn], upd_same, ?_⟩
          · rw [upd_ne (ne_of_none z hL)]
            exact t1 _ _ (s3 _ _ z)
          · rw [show [st].filter someS = [st] by simp [List.filter, e]]
            exact (f1.strs hL4 (hys.same t1)).snoc (f1.str (s := st) hL4 ⟨pn, lo, hh, rfl, .inl (.inl upd_same), g2.same t1, g3.same t1⟩)
        refine ⟨_, rfl, rfl, _, rfl, ?_⟩
        rw [isEnd_non g3]
        obtain ⟨st1, st2⟩ := st
        cases st2 with
        | none => exact iteT (iteT ⟨_, rfl, _, rfl, by show 2 ≤ sizeLine; decide, fun pn hpn => yes rfl pn hpn⟩)
        | some u =>
          refine iteF ⟨_, rfl, _, rfl, st1, u, g2, g3, _, rfl, ?_⟩
          by_cases c : ltV st1 u
          · rw [show cmpV .Lt st1 u = true from decide_eq_true c]
            exact iteT ⟨_, rfl, _, rfl, by show 2 ≤ sizeLine; decide, fun pn hpn => yes (decide_eq_true c) pn hpn⟩
          · rw [show cmpV .Lt st1 u = false from decide_eq_false c]
            refine iteF ⟨s3, ys, hL3, ?_⟩
            rw [show [((st1, some u) : Str2)].filter someS = [] by simp [List.filter, someS, someIn, c], List.append_nil]
            exact hys
      · rintro H3 ⟨s3, ys, hL3, hys⟩
        rw [List.take_of_length_le (Nat.le_of_eq hz.len.symm)] at hys
        have k3 := (k1.trans s2).trans s3
        refine ⟨L, ys, _, rfl, hT.ext k3, .inl (SqL.of hL3), hys, ?_, fun H4 x ss' e4 T4 hR pm pw => q H4 x _ ((ExtN.same k3).trans e4) T4 hR (read_ok pm pw)⟩
        have := List.length_filter_le someS (cs.map ChT.span)
        rw [List.length_map] at this
        omega
end
end Kw
set_option maxHeartbeats 4000000
namespace Kw
open PySem PySem.Spec PyProof.Rows L2 LamX SX
/-! ### the law's own parts -/
abbrev sPartD : Stmt := top 50
abbrev sPartW : Stmt := top 51
abbrev sFillD : Stmt := top 52
abbrev sEndD : Stmt := top 53
def spPartD (K : PySem.W.Frag) : Sp := fun vs H Q _ => ∃ (d w c : Addr) (B : Int), vs = [.ref d] ∧ StAt H d w c B ∧ B + 5 ≤ 1000000000000 ∧
  ∀ H' p ps, PartOk ps → H' p = some (.tup (tupN ps)) → StAt H' d w c (B + 5) → Fr2 d w H H' → Q (.ref p) H'
abbrev nPD : List Str := ["_law_state", "_law_some", "_law_spot"]
theorem scPartD : FnScope nPD ["_law_state"] (defScope sPartD) := ⟨rfl, rfl, rfl, by decide +kernel, rfl, by decide +kernel, by decide +kernel⟩
def spPartW (K : PySem.W.Frag) : Sp := fun vs H Q _ => ∃ (a : Addr) (ps : List Nat), vs = [.ref a] ∧ SqT K H a (tupN ps) ∧ PartOk ps ∧ ∀ H', Same H H' → Q (.str (S (partL ps))) H'
theorem scPartW : FnScope ["_law_part_here", "_law_number"] ["_law_part_here"] (defScope sPartW) := ⟨rfl, rfl, rfl, by decide +kernel, rfl, by decide +kernel, by decide +kernel⟩
theorem scFillD : FnScope ["_law_part_here"] ["_law_part_here"] (defScope sFillD) := ⟨rfl, rfl, rfl, by decide +kernel, rfl, by decide +kernel, by decide +kernel⟩
theorem scEndD : FnScope ["_law_part_here"] ["_law_part_here"] (defScope sEndD) := ⟨rfl, rfl, rfl, by decide +kernel, rfl, by decide +kernel, by decide +kernel⟩
theorem log_smallN {n : Nat} (h : n < 10 ^ 10) : ((n : Int)).natAbs.log2 < 1920 := by
  have e : ((n : Int)).natAbs = n := rfl
  rw [e]
  by_cases z : n = 0
  · subst z
    decide
  · refine (Nat.log2_lt z).mpr (Nat.lt_of_lt_of_le h ?_)
    exact Nat.le_trans (show 10 ^ 10 ≤ 2 ^ 34 by decide) (Nat.pow_le_pow_right (by decide) (by decide))
section
variable {P : Program} {w : World} {K : PySem.W.Frag} {mg : Str → Option Value} {base : Heap}
theorem ok_partD {f : Addr} {fd : FuncData} {k : Nat} (F : Fun K "_law_part" "_law_part" sPartD f fd) (mr : mg "range" = none) (mt : mg "tuple" = none) (DD : Def P w K mg base "_law_draw" CX0 k ["_law_state", "_law_size"] spDraw) (DPk : Def P w K mg base "_law_pick" CX0 k ["_law_state", "_law_some"] spPick) :
    FnOk P w K mg base CX0 (k + 1) f fd ["_law_state"] (spPartD K) := by
  refine F.ok scPartD (fun vs H Q E h => ?_) (fun cdv A outer s H vs Q E hr h => ?_)
  · obtain ⟨d, w, c, B, rfl, _⟩ := h
    rfl
  · obtain ⟨d, w, c, B, rfl, hS, hB, q⟩ := h
    refine' ⟨_, pss_cons ?s1 (pss_one ?s2), ?_⟩
    case s1 => exact ps_set (i := 1) scPartD.nd rfl (.inr rfl) (pe_ifExp (pt_cmpR op_gt (pe_d DD hr (pa_cons (pv 0) (pa_cons pe_int pa_nil))) pe_int (nomark _)) (pe_lst (pa_cons pe_int (pa_cons pe_int (pa_cons pe_int (pa_cons pe_int (pa_cons pe_int pa_nil)))))) (pe_lst (pa_cons pe_int (pa_cons pe_int (pa_cons pe_int (pa_cons pe_int (pa_cons pe_int (pa_cons pe_int pa_nil))))))))
    case s2 => exact ps_ret (pe_callTy call_tuple_of (by rfl) mt (by decide +kernel) (pa_cons (pe_lc (own := [("_law_spot", 2)]) (g := gName 2) (tt := tYes) rfl scPartD.nd (pi_range1 rfl mr (pa_cons (pe_op op_add pe_int (pe_d DD hr (pa_cons (pv 0) (pa_cons pe_int pa_nil)))) pa_nil)) (blkOk_by (N := nPD) (sc := defScope sPartD) (by decide +kernel))
        (fun _ _ _ _ _ => pg_name (i := 2) scPartD.nd rfl (Or.inl rfl)) (fun _ _ _ _ _ => pts_nil) (fun _ _ _ _ _ => pe_d DPk hr (pa_cons (pv 0) (pa_cons (pv 1) pa_nil)))) pa_nil))
    dsimp only [tSeq, tAsg, tRet, gName]
    have rest : ∀ (H1 H2 : Hp) (p : Addr) (ms : List Nat), StAt H1 d w c (B + 1) → Fr2 d w H H1 → H1 p = none → Same H1 H2 → H2 p = some (.lst (tupN ms)) → ((∀ n ∈ ms, n < 10 ^ 10) ∧ 0 < ms.length ∧ ms.length ≤ 6) →
        tCB (rTupOf K) (tCons (tLc (iRng1 (tCons (tOp (rI0 fun i j => .int (i + j)) (tC (.int 1)) (tCall spDraw [] E0 (tCons (tVar 0) (tCons (tC (.int 3)) tNil)))) tNil)) (gName 2) tYes (tCall spPick [] E0 (tCons (tVar 0) (tCons (tVar 1) tNil))) [2]) tNil) [some (.ref d), some (.ref p), none] H2 Q := by
      intro H1 H2 p ms S1 F1 hp k1 at1 bd
      have S2 := S1.same k1
      have F2 : Fr2 d w H H2 := F1.trans (Fr2.ofSame k1)
      have npw : p ≠ w := (S1.ne hp).2.1.symm
      obtain ⟨b1, b2, b3⟩ := bd
      refine ⟨_, rfl, d, w, c, B + 1, 3, rfl, S2, by omega, by decide, by decide, fun H3 z3 g0 g1 S3 F3 => ⟨1, z3, rfl, rfl, ?_⟩⟩
      obtain ⟨m, em⟩ : ∃ m : Nat, 1 + z3 = (m : Int) := ⟨(1 + z3).toNat, by omega⟩
      refine ⟨(m : Int), congrArg (fun z => [V.int z]) em, by omega, by omega, fun D hD => ?_⟩
      have at3 := F3.lst S2 at1 npw
      have nDw : D ≠ w := (S3.ne hD).2.1.symm
      have nDp : p ≠ D := ne_of_none at3 hD
      refine lc_range (lo := 0) (n := (m : Int).toNat) (fun i H' => Fr2 d w H3 H' ∧ StAt H' d w c (B + 2 + i) ∧ ∃ ps : List Nat, H' D = some (.lst (tupN ps)) ∧ ps.length = i ∧ ∀ n ∈ ps, n < 10 ^ 10)
        ⟨.new hD, (S3.same (same_upd hD)).mono (by simp; omega), [], upd_same, rfl, fun x h => (nomatch h)⟩ ?_ ?_
      · rintro i H4 hi ⟨F4, S4, ps, h1', h2, h3⟩
        rw [Int.toNat_natCast] at hi
        refine ⟨rfl, yesI ⟨_, rfl, _, rfl, d, w, c, B + 2 + i, p, tupN ms, rfl, S4, by omega, F4.lst S3 at3 npw, npw, by rw [List.length_map]; exact b2, by rw [List.length_map]; omega, fun H5 j v hv S5 F5 => ?_⟩⟩
        rw [List.getElem?_map] at hv
        obtain ⟨n, hn, rfl⟩ := Option.map_eq_some_iff.mp hv
        refine ⟨_, F5.lst S4 h1' nDw, by rw [List.length_map]; exact small1000 (by omega), (F4.trans F5).put hD, (S3.put hD S5).mono (by omega), ps ++ [n], by rw [upd_same]; simp [tupN], by rw [List.length_append, h2]; rfl, fun y hy => ?_⟩
        rcases List.mem_append.mp hy with hy | hy
        · exact h3 y hy
        · rw [List.mem_singleton.mp hy]
          exact b1 n (List.mem_of_getElem? hn)
      · rintro H4 ⟨F4, S4, ps, h1', h2, h3⟩
        rw [Int.toNat_natCast] at h2 S4
        refine ⟨_, _, rfl, .inl ⟨SqL.of h1', fun l hl => ?_⟩⟩
        exact q _ l ps ⟨by omega, by omega, h3⟩ upd_same ((S4.same (same_upd hl)).mono (by omega)) (((F2.trans F3).trans F4).trans (.new hl))
    refine ⟨_, rfl, d, w, c, B, 4, rfl, hS, by omega, by decide, by decide, fun H1 z h0 h1 S1 F1 => ⟨z, 0, rfl, rfl, _, rfl, ite2 (fun e => ⟨by show 5 ≤ sizeLine; decide, fun p hp => ?_⟩) (fun e => ⟨by show 6 ≤ sizeLine; decide, fun p hp => ?_⟩)⟩⟩
    · exact rest H1 _ p [0, 0, 1, 2, 10] S1 F1 hp (same_upd hp) upd_same (by decide)
    · exact rest H1 _ p [0, 1, 999, 1000, 65536, 999999990] S1 F1 hp (same_upd hp) upd_same (by decide)
theorem ok_partW {f : Addr} {fd : FuncData} {k : Nat} (F : Fun K "_law_part_word" "_law_part_word" sPartW f fd) (ms : mg "str" = none) : FnOk P w K mg base CX0 (k + 1) f fd ["_law_part_here"] (spPartW K) := by
  refine F.ok scPartW (fun vs H Q E h => ?_) (fun cdv A outer s H vs Q E hr h => ?_)
  · obtain ⟨a, ps, rfl, _⟩ := h
    rfl
  · obtain ⟨a, ps, rfl, ha, ok, q⟩ := h
    refine ⟨_, pss_one (ps_ret (pe_join pe_str (pe_lc (own := [("_law_number", 1)]) (g := gName 1) (tt := tYes) rfl scPartW.nd (pi_tup (pv 0)) (blkOk_by (N := ["_law_part_here", "_law_number"]) (sc := defScope sPartW) (by decide +kernel))
        (fun _ _ _ _ _ => pg_name (i := 1) scPartW.nd rfl (Or.inl rfl)) (fun _ _ _ _ _ => pts_nil) (fun _ _ _ _ _ => pe_callTy call_str_int (by rfl) ms (by decide +kernel) (pa_cons (pv 1) pa_nil))))), ?_⟩
    refine ⟨⟨_, rfl⟩, _, rfl, a, rfl, ⟨_, ha⟩, fun D hD => ?_⟩
    refine lc_tup (K := K) (a := a) (xs := tupN ps) (fun i H' => Same H H' ∧ H' D = some (.lst (strL ((ps.take i).map TL.numL)))) ⟨same_upd hD, upd_same⟩ (fun i H' _ R => Same.sqT R.1 ha) ?_ ?_
    · rintro i y H' hy ⟨s1, h1⟩
      rw [List.getElem?_map] at hy
      obtain ⟨n, hn, rfl⟩ := Option.map_eq_some_iff.mp hy
      have il := (List.getElem?_eq_some_iff.mp hn).1
      have lp := ok.le
      refine ⟨rfl, yesI ⟨_, rfl, (n : Int), rfl, log_smallN (ok.bd n (List.mem_of_getElem? hn)), _, h1, ?_, fun b o y => by rw [upd_ne (ne_of_none y hD)]; exact s1 _ _ y, ?_⟩⟩
      · rw [List.length_map, List.length_map, List.length_take]
        exact small1000 (by omega)
      · rw [upd_same, take_snoc hn]
        simp only [strL, List.map_append, List.map_cons, List.map_nil]
        rw [← num_S]
    · rintro H' ⟨s1, h1⟩
      rw [List.length_map, List.take_length] at h1
      have lp := ok.le
      refine ⟨S [46], D, (ps.map TL.numL).map S, rfl, rfl, .inl (SqL.of (by rw [h1]; simp [strL])), ?_, ?_⟩
      · rw [lens, List.length_map, List.length_map, S_len]
        rcases ok.cases with ⟨a, rfl⟩ | ⟨a, b, rfl⟩ | ⟨a, b, c, rfl⟩
        all_goals
          simp only [List.map_cons, List.map_nil, List.sum_cons, List.sum_nil, List.length_cons, List.length_nil]
          have l : ∀ n : Nat, n < 10 ^ 10 → (TL.numL n).length ≤ 10 := fun n hn => TL.numL_len (k := 10) (by decide) hn
        · have := l a (ok.bd a (by simp))
          omega
        · have := l a (ok.bd a (by simp))
          have := l b (ok.bd b (by simp))
          omega
        · have := l a (ok.bd a (by simp))
          have := l b (ok.bd b (by simp))
          have := l c (ok.bd c (by simp))
          omega
      · rw [join_S]
        exact q H' s1
end
end Kw
set_option maxHeartbeats 4000000
namespace Kw
open PySem PySem.Spec PyProof.Rows L2 LamX SX
section
variable {P : Program} {w : World} {K : PySem.W.Frag} {mg : Str → Option Value} {base : Heap}
theorem ok_fillD {f : Addr} {fd : FuncData} {k : Nat} (F : Fun K "_law_filled" "_law_filled" sFillD f fd) (ml : mg "len" = none) : FnOk P w K mg base CX0 (k + 1) f fd ["_law_part_here"] (spPartF K) := by
  refine F.ok scFillD (fun vs H Q E h => ?_) (fun cdv A outer s H vs Q E hr h => ?_)
  · obtain ⟨a, ps, rfl, _⟩ := h
    rfl
  · obtain ⟨a, ps, rfl, ha, len, q⟩ := h
    refine ⟨_, pss_one (ps_ret (pe_op op_catA (pv 0) (pe_op op_rep3 (pe_tup (pa_cons pe_int pa_nil)) (pe_op op_sub pe_int (pe_callB call_len_seq (by rfl) ml PySem.boot_len (pa_cons (pv 0) pa_nil)))))), ?_⟩
    refine ⟨_, rfl, by show 1 ≤ sizeLine; decide, fun p0 hp0 => ?_⟩
    have k0 := same_upd (o := .tup [.int 0]) hp0
    have at0 : SqT K (upd H p0 (.tup [.int 0])) p0 [.int 0] := .inl (.inl upd_same)
    have ha0 := Same.sqT k0 ha
    generalize upd H p0 (.tup [.int 0]) = H0 at k0 at0 ha0 ⊢
    rcases len.cases with ⟨i, rfl⟩ | ⟨i, j, rfl⟩ | ⟨i, j, l, rfl⟩
    · refine ⟨_, rfl, a, _, rfl, .inr ha0, 3, 1, rfl, rfl, p0, 2, .int 0, rfl, rfl, at0, by decide, by decide, (fun z => absurd z (by decide)), fun _ p1 hp1 => ?_⟩
      have k1 := same_upd (o := .tup [.int 0, .int 0]) hp1
      refine ⟨a, p1, _, [.int 0, .int 0], rfl, rfl, Same.sqT k1 ha0, .inl (.inl upd_same), by show 3 ≤ sizeLine; decide, (fun z => by cases z), (fun _ z => by cases z), fun _ _ p2 hp2 => ?_⟩
      exact q _ _ ((k0.trans k1).trans (same_upd hp2)) (IsVer.of (v := filledV [i]) upd_same)
    · refine ⟨_, rfl, a, _, rfl, .inr ha0, 3, 2, rfl, rfl, p0, 1, .int 0, rfl, rfl, at0, by decide, by decide, (fun _ => ?_), fun z => absurd rfl z⟩
      refine ⟨a, p0, _, [.int 0], rfl, rfl, ha0, at0, by show 3 ≤ sizeLine; decide, (fun z => by cases z), (fun _ z => by cases z), fun _ _ p2 hp2 => ?_⟩
      exact q _ _ (k0.trans (same_upd hp2)) (IsVer.of (v := filledV [i, j]) upd_same)
    · refine ⟨_, rfl, a, _, rfl, .inr ha0, 3, 3, rfl, rfl, p0, 0, .int 0, rfl, rfl, at0, by decide, by decide, (fun z => absurd z (by decide)), fun _ p1 hp1 => ?_⟩
      have k1 := same_upd (o := .tup []) hp1
      refine ⟨a, p1, _, [], rfl, rfl, Same.sqT k1 ha0, .inl (.inl upd_same), by show 3 ≤ sizeLine; decide, (fun z => by cases z), (fun _ _ => ?_), fun _ z => absurd rfl z⟩
      exact q _ _ (k0.trans k1) ⟨a, rfl, Same.sqT k1 ha0⟩
theorem ok_endD {f : Addr} {fd : FuncData} {k : Nat} (F : Fun K "_law_end" "_law_end" sEndD f fd) (DF : Def P w K mg base "_law_filled" CX0 k ["_law_part_here"] (spPartF K)) : FnOk P w K mg base CX0 (k + 1) f fd ["_law_part_here"] (spPartE K) := by
  refine F.ok scEndD (fun vs H Q E h => ?_) (fun cdv A outer s H vs Q E hr h => ?_)
  · obtain ⟨a, ps, rfl, _⟩ := h
    rfl
  · obtain ⟨a, ps, rfl, ha, len, q⟩ := h
    refine ⟨_, pss_one (ps_ret (pe_d DF hr (pa_cons (pe_op op_catA (pe_slice sl_tupA (pv 0) po_none (po_some (pe_un un_neg pe_int))) (pe_tup (pa_cons (pe_op op_add (pe_ix ix_tup (pv 0) (pe_un un_neg pe_int) (fun _ _ => rfl)) pe_int) pa_nil))) pa_nil))), ?_⟩
    have go : ∀ (xs : List Nat) (y : Nat), ps = xs ++ [y] → ps.length = xs.length + 1 → upN ps = xs ++ [y + 1] → cutV (tupN ps) none (some (-1)) = tupN xs → ¬ (HT.sIx (tupN ps).length 0 none = 0 ∧ HT.sIx (tupN ps).length (tupN ps).length (some (-1)) = (tupN ps).length) →
        ∀ Q1 : VK, (∀ b H1, Same H H1 → SqT K H1 b (tupN (upN ps)) → Q1 (.ref b) H1) → (tOp (rCatA K) (tSl (rSlA K) (tVar 0) tNoPart (tPart (tUn (rU fun i => .int (-i)) (tC (.int 1))))) (tTup (tCons (tOp (rI0 fun i j => .int (i + j)) (tOp (rIxT K) (tVar 0) (tUn (rU fun i => .int (-i)) (tC (.int 1)))) (tC (.int 1))) tNil))) (L2.start ["_law_part_here"] [.ref a]) H Q1 := by
      intro xs y e1 el e2 e3 e4 Q1 q1
      refine ⟨_, rfl, 1, rfl, -1, rfl, a, tupN ps, rfl, ha, (fun z => absurd z e4), fun _ p hp => ?_⟩
      rw [e3]
      have k1 := same_upd (o := .tup (tupN xs)) hp
      have ha1 := Same.sqT k1 ha
      refine ⟨_, rfl, 1, rfl, a, tupN ps, -1, .int (y : Int), rfl, rfl, ha1, ?_, (y : Int), 1, rfl, rfl, by show 1 ≤ sizeLine; decide, fun p2 hp2 => ?_⟩
      · rw [e1, tupN, List.map_append]
        exact atI_last _ _
      · have k2 := same_upd (o := .tup [.int ((y : Int) + 1)]) hp2
        have at1 : SqT K _ p (tupN xs) := .inl (.inl (k2 _ _ upd_same))
        have at2 : SqT K (upd (upd H p (.tup (tupN xs))) p2 (.tup [.int ((y : Int) + 1)])) p2 (tupN [y + 1]) := .inl (.inl (by rw [upd_same]; rfl))
        have lx := len.le
        refine ⟨p, p2, tupN xs, tupN [y + 1], rfl, rfl, at1, at2, by rw [sizeLine_eq, List.length_map]; simp; omega, (fun z => ?_), (fun _ z => by cases z), fun _ _ p3 hp3 => ?_⟩
        · obtain rfl : xs = [] := by simpa using z
          exact q1 p2 _ (k1.trans k2) (by rw [e2]; exact at2)
        · have k3 := same_upd (o := .tup (tupN xs ++ tupN [y + 1])) hp3
          exact q1 p3 _ ((k1.trans k2).trans k3) (.inl (.inl (by rw [upd_same, e2]; simp [tupN])))
    have fin : PLen (upN ps) → ∀ b H1, Same H H1 → SqT K H1 b (tupN (upN ps)) → spPartF K [.ref b] H1 Q E0 := fun l b H1 s1 hb => ⟨b, upN ps, rfl, hb, l, fun H2 x s2 hx => q H2 x (s1.trans s2) hx⟩
    rcases len.cases with ⟨i, rfl⟩ | ⟨i, j, rfl⟩ | ⟨i, j, l, rfl⟩
    · exact go [] i rfl rfl rfl rfl (by show ¬ (HT.sIx 1 0 none = 0 ∧ HT.sIx 1 1 (some (-1)) = 1); decide) _ (fin ⟨by show 1 ≤ 1; decide, by show 1 ≤ 3; decide⟩)
    · exact go [i] j rfl rfl rfl rfl (by show ¬ (HT.sIx 2 0 none = 0 ∧ HT.sIx 2 2 (some (-1)) = 2); decide) _ (fin ⟨by show 1 ≤ 2; decide, by show 2 ≤ 3; decide⟩)
    · exact go [i, j] l rfl rfl rfl rfl (by show ¬ (HT.sIx 3 0 none = 0 ∧ HT.sIx 3 3 (some (-1)) = 3); decide) _ (fin ⟨by show 1 ≤ 3; decide, by show 3 ≤ 3; decide⟩)
end
end Kw
set_option maxHeartbeats 4000000
namespace Kw
open PySem PySem.Spec PyProof.Rows L2 LamX SX
/-! ### the law's own stretch of a term -/
abbrev sTermD : Stmt := top 54
def spTermD (K : PySem.W.Frag) : Sp := fun vs H Q _ => ∃ (sg : Sg) (a : Addr) (ps : List Nat), vs = [.str (S sg.txt), .ref a] ∧ SqT K H a (tupN ps) ∧ PLen ps ∧ ∀ H' p, Same H H' → IsStr K H' (.ref p) (spanT (sg, ps)) → Q (.ref p) H'
abbrev nTD : List Str := ["_law_sign", "_law_part_here", "_law_low", "_law_high", "_law_many", "_law_at", "_law_number"]
theorem scTermD : FnScope nTD ["_law_sign", "_law_part_here"] (defScope sTermD) := ⟨rfl, rfl, rfl, by decide +kernel, rfl, by decide +kernel, by decide +kernel⟩
/-- what is found by the i-th turn -/
def ManyAt (ps : List Nat) (i m : Nat) : Prop := ((∀ l, l < i → ps[l]? = some 0) ∧ m = ps.length) ∨ ∃ j n, j < i ∧ ps[j]? = some n ∧ n ≠ 0 ∧ (∀ l, l < j → ps[l]? = some 0) ∧ m = j + 1
theorem many_end {ps : List Nat} {m : Nat} (h : ManyAt ps ps.length m) : ps.take m = caretN ps ∧ m ≤ ps.length ∧ (ps ≠ [] → 1 ≤ m) := by
  rcases h with ⟨z, rfl⟩ | ⟨j, n, lj, hj, nz, z, rfl⟩
  · refine ⟨?_, Nat.le_refl _, fun ne => List.length_pos_iff.mpr ne⟩
    rw [List.take_length, caret_zero]
    intro n hn
    obtain ⟨l, hl, e⟩ := List.getElem_of_mem hn
    have q := z l hl
    rw [List.getElem?_eq_getElem hl, e] at q
    exact Option.some.inj q
  · exact ⟨(caret_at z hj nz).symm, lj, fun _ => Nat.succ_le_succ (Nat.zero_le _)⟩
theorem in_two {K : PySem.W.Frag} {σ : L2.St} {H : Hp} {z a b : Str} {bb : Bool} {Q : Bool → Hp → Prop} (h0 : σ[0]? = some (some (.str z))) (h : inV (.str z) [.str a, .str b] = bb) (q : ∀ H', Same H H' → Q bb H') :
    tTest (tOp (rIn K false) (tVar 0) (tTup (tCons (tC (.str a)) (tCons (tC (.str b)) tNil)))) σ H Q := by
  refine ⟨_, h0, by show 2 ≤ sizeLine; decide, fun p hp => ⟨p, [.str a, .str b], rfl, .inr (.inl (.inl upd_same)), rfl, rfl, ?_⟩⟩
  refine ⟨_, rfl, ?_⟩
  show Q (inV (.str z) [.str a, .str b]) _
  rw [h]
  exact q _ (same_upd hp)
theorem zeros_read {K : PySem.W.Frag} {σ : L2.St} {H : Hp} {a : Addr} {ps : List Nat} {i : Nat} {Q : VK} (h1 : σ[1]? = some (some (.ref a))) (h5 : σ[5]? = some (some (.int (i : Int)))) (hw : ∀ y, wipe ((wipe σ [6]).set 6 y) [6] = wipe σ [6]) (h6 : ∀ y, ((wipe σ [6]).set 6 (some y))[6]? = some (some y)) (ha : SqT K H a (tupN ps)) (z : ∀ l, l < i → ps[l]? = some 0)
    (q : ∀ H' D, Same H H' → H' D = some (.lst []) → Q (.ref D) H') : tLc (iTup K (tSl (rSlA K) (tVar 1) tNoPart (tPart (tVar 5)))) (gName 6) (tTest (tOp rNe (tVar 6) (tC (.int 0)))) (tC (.int 1)) [6] σ H Q := by
  have go : ∀ (pT : Addr) (H7 : Hp), Same H H7 → SqT K H7 pT (tupN (ps.take i)) → ∀ D, H7 D = none → ∃ W : Nat → Nat → Hp → Prop, (∃ m, W 0 m (upd H7 D (.lst []))) ∧ ∀ i m H, W i m H →
      ((Itt K pT).stop i H ∧ Q (.ref D) H) ∨ ((Itt K pT).go i H ∧ ∃ Nx : Hp → Prop, (∀ H', Nx H' → ∃ m', m' < m ∧ W (i + 1) m' H') ∧ ∀ x H', (Itt K pT).yld i H x H' → gName 6 x (wipe σ [6]) H' fun σ2 H2 => wipe σ2 [6] = wipe σ [6] ∧ tTest (tOp rNe (tVar 6) (tC (.int 0))) σ2 H2 fun b H3 =>
        if b = true then tC (.int 1) σ2 H3 fun y H4 => ∃ acc, H4 D = some (.lst acc) ∧ acc.length < sizeLine ∧ Nx (upd H4 D (.lst (acc ++ [y]))) else Nx H3) := fun pT H7 s7 hT D hD => by
    refine lc_tup (K := K) (a := pT) (xs := tupN (ps.take i)) (fun j H' => Same H7 H' ∧ H' D = some (.lst [])) ⟨same_upd hD, upd_same⟩ (fun j H' _ R => Same.sqT R.1 hT) ?_ ?_
    · rintro j y H' hy ⟨s8, h8⟩
      rw [List.getElem?_map, List.getElem?_take] at hy
      obtain ⟨n, hn, rfl⟩ := Option.map_eq_some_iff.mp hy
      split at hn
      · rename_i lt
        rw [z j lt] at hn
        obtain rfl := Option.some.inj hn
        exact ⟨hw _, _, h6 _, rfl, _, rfl, iteF ⟨s8, h8⟩⟩
      · cases hn
    · rintro H' ⟨s8, h8⟩
      exact q H' D (s7.trans s8) h8
  refine ⟨_, h1, _, h5, (i : Int), rfl, a, tupN ps, rfl, ha, (fun y => ?_), fun _ p hp => ?_⟩
  · have z2 := y.2
    rw [HT.sIx_nat, List.length_map] at z2
    refine ⟨a, rfl, ⟨_, ha⟩, go a H (Same.refl H) ?_⟩
    rw [List.take_of_length_le (by omega)]
    exact ha
  · have k := same_upd (o := .tup (cutV (tupN ps) none (some (i : Int)))) hp
    have e : cutV (tupN ps) none (some (i : Int)) = tupN (ps.take i) := by
      rw [cut_to, tupN, tupN, List.map_take]
    have hT : SqT K (upd H p (.tup (cutV (tupN ps) none (some (i : Int))))) p (tupN (ps.take i)) := .inl (.inl (by rw [upd_same, e]))
    exact ⟨p, rfl, ⟨_, hT⟩, go p _ k hT⟩
section
variable {P : Program} {w : World} {K : PySem.W.Frag} {mg : Str → Option Value} {base : Heap}
theorem ok_termD {f : Addr} {fd : FuncData} {k : Nat} (F : Fun K "_law_term_stretch" "_law_term_stretch" sTermD f fd) (ml : mg "len" = none) (mr : mg "range" = none) (DF : Def P w K mg base "_law_filled" CX0 k ["_law_part_here"] (spPartF K)) (DE : Def P w K mg base "_law_end" CX0 k ["_law_part_here"] (spPartE K)) :
    FnOk P w K mg base CX0 (k + 1) f fd ["_law_sign", "_law_part_here"] (spTermD K) := by
  refine F.ok scTermD (fun vs H Q E h => ?_) (fun cdv A outer s H vs Q E hr h => ?_)
  · obtain ⟨sg, a, ps, rfl, _⟩ := h
    rfl
  · obtain ⟨sg, a, ps, rfl, ha, len, q⟩ := h
    refine' ⟨_, pss_cons ?s1 (pss_cons ?s2 (pss_cons ?s3 (pss_cons ?s4 (pss_cons ?s5 (pss_cons ?s6 (pss_cons ?s7 (pss_cons ?s8 (pss_one ?s9)))))))), ?_⟩
    case s1 => exact ps_par (i := 2) (j := 3) rfl scTermD.nd rfl rfl (by decide) rfl rfl (pa_cons (pe_d DF hr (pa_cons (pv 1) pa_nil)) (pa_cons (pe_d DE hr (pa_cons (pv 1) pa_nil)) pa_nil)) rfl
    case s2 => exact ps_if (pt_cmpR op_eq (pv 0) pe_str (nomark _)) (pss_one (ps_ret (pe_tup (pa_cons (pe_tup (pa_cons pe_int (pa_cons pe_int (pa_cons pe_int pa_nil)))) (pa_cons pe_non pa_nil))))) pss_nil
    case s3 => exact ps_if (pt_cmpR op_in_seq (pv 0) (pe_tup (pa_cons pe_str (pa_cons pe_str pa_nil))) rfl) (pss_one (ps_ret (pe_tup (pa_cons (pv 2) (pa_cons (pv 3) pa_nil))))) pss_nil
    case s4 => exact ps_if (pt_cmpR op_in_seq (pv 0) (pe_tup (pa_cons pe_str (pa_cons pe_str pa_nil))) rfl) (pss_one (ps_ret (pe_tup (pa_cons (pe_ifExp (pt_cmpR op_eq (pv 0) pe_str (nomark _)) (pv 2) (pv 3)) (pa_cons pe_non pa_nil))))) pss_nil
    case s5 => exact ps_if (pt_cmpR op_in_seq (pv 0) (pe_tup (pa_cons pe_str (pa_cons pe_str pa_nil))) rfl) (pss_one (ps_ret (pe_tup (pa_cons (pe_tup (pa_cons pe_int (pa_cons pe_int (pa_cons pe_int pa_nil)))) (pa_cons (pe_ifExp (pt_cmpR op_eq (pv 0) pe_str (nomark _)) (pv 2) (pv 3)) pa_nil))))) pss_nil
    case s6 => exact ps_if (pt_cmpR op_eq (pv 0) pe_str (nomark _)) (pss_one (ps_ret (pe_tup (pa_cons (pv 2) (pa_cons (pe_d DE hr (pa_cons (pe_slice sl_tupA (pv 1) po_none (po_some pe_int)) pa_nil)) pa_nil))))) pss_nil
    case s7 => exact ps_set (i := 4) scTermD.nd rfl (.inl rfl) (pe_callB call_len_seq (by rfl) ml PySem.boot_len (pa_cons (pv 1) pa_nil))
    case s8 => exact (ps_for PassesOwn.never rfl (pi_range1 rfl mr (pa_cons (pe_callB call_len_seq (by rfl) ml PySem.boot_len (pa_cons (pv 1) pa_nil)) pa_nil)) (pg_name (i := 5) scTermD.nd rfl (.inl rfl))
      (pss_one (ps_if (PW.pt (pw_and (pt_cmpR op_ne (pe_ix ix_tup (pv 1) (pv 5) (fun _ _ => rfl)) pe_int (nomark _)) (pw_and (pt_cmpR op_eq (pv 4) (pe_callB call_len_seq (by rfl) ml PySem.boot_len (pa_cons (pv 1) pa_nil)) (nomark _))
        (pw_and1 (pt_cmpR (op_eqD hr.units) (pe_lc (own := [("_law_number", 6)]) (g := gName 6) (te := tC (.int 1)) (tt := tTest (tOp rNe (tVar 6) (tC (.int 0)))) rfl scTermD.nd (pi_tup (pe_slice sl_tupA (pv 1) po_none (po_some (pv 5)))) (blkOk_by (N := nTD) (sc := defScope sTermD) (by decide +kernel))
          (fun _ _ _ _ _ => pg_name (i := 6) scTermD.nd rfl (Or.inl rfl)) (fun _ _ _ _ _ => pts_one (pt_cmpR op_ne (pv 6) pe_int (nomark _))) (fun _ _ _ _ _ => pe_int)) (pe_lst pa_nil) (nomark _))))))
        (pss_one (ps_set (i := 4) scTermD.nd rfl (.inl rfl) (pe_op op_add (pv 5) pe_int))) pss_nil)))
    case s9 => exact ps_ret (pe_tup (pa_cons (pv 2) (pa_cons (pe_d DE hr (pa_cons (pe_slice sl_tupA (pv 1) po_none (po_some (pv 4))) pa_nil)) pa_nil)))
    dsimp only [tSeq, tAsg, tRet, tIfS, gName, tNext]
    refine ⟨_, rfl, a, ps, rfl, ha, len, fun H1 x s1 hx => ⟨_, rfl, a, ps, rfl, Same.sqT s1 ha, len, fun H2 y s2 hy => ⟨x, y, rfl, ?_⟩⟩⟩
    have hx2 := hx.same s2
    have s12 := s1.trans s2
    have ha2 := Same.sqT s12 ha
    have two : ∀ (H3 : Hp) (u z : V) (lo : Ver) (hi : Option Ver), Same H2 H3 → IsVer K H3 u lo → IsEnd K H3 z hi → (lo, hi) = spanT (sg, ps) → [u, z].length ≤ sizeLine ∧ ∀ p, H3 p = none → Q (.ref p) (upd H3 p (.tup [u, z])) := fun H3 u z lo hi s3 hu hz e => by
      refine ⟨by show 2 ≤ sizeLine; decide, fun p hp => ?_⟩
      have k := same_upd (o := .tup [u, z]) hp
      refine q _ p ((s12.trans s3).trans k) ?_
      rw [← e]
      exact ⟨p, u, z, rfl, .inl (.inl upd_same), hu.same k, hz.same k⟩
    have cut : ∀ (H3 : Hp) (m : Nat) (Q1 : VK) (σ : L2.St) (j : Nat), Same H2 H3 → σ[1]? = some (some (.ref a)) → σ[j]? = some (some (.int (m : Int))) → 1 ≤ m → (∀ H4 u, Same H3 H4 → IsVer K H4 u (endV (ps.take m)) → Q1 u H4) → tCall (spPartE K) [] E0 (tCons (tSl (rSlA K) (tVar 1) tNoPart (tPart (tVar j))) tNil) σ H3 Q1 := fun H3 m Q1 σ j s3 h1 hj hm q1 => by
      have ha3 := Same.sqT s3 ha2
      refine ⟨_, h1, _, hj, (m : Int), rfl, a, tupN ps, rfl, ha3, (fun z => ?_), fun _ p hp => ?_⟩
      · have z2 := z.2
        rw [HT.sIx_nat, List.length_map] at z2
        refine ⟨a, ps, rfl, ha3, len, fun H4 u s4 hu => q1 H4 u s4 ?_⟩
        rw [List.take_of_length_le (by omega)]
        exact hu
      · have k := same_upd (o := .tup (cutV (tupN ps) none (some (m : Int)))) hp
        have e : cutV (tupN ps) none (some (m : Int)) = tupN (ps.take m) := by
          rw [cut_to, tupN, tupN, List.map_take]
        refine ⟨p, ps.take m, rfl, .inl (.inl (by rw [upd_same, e])), ⟨by have := len.pos; rw [List.length_take]; omega, by have := len.le; rw [List.length_take]; omega⟩, fun H4 u s4 hu => q1 H4 u (k.trans s4) hu⟩
    cases sg with
    | star => exact ⟨_, rfl, rfl, _, rfl, iteT ⟨by show 3 ≤ sizeLine; decide, fun pz hz => two _ (.ref pz) .non _ none (same_upd hz) (IsVer.of upd_same) rfl rfl⟩⟩
    | none => exact ⟨_, rfl, rfl, _, rfl, iteF (in_two (bb := true) rfl (by decide +kernel) fun H3 s3 => iteT ⟨_, rfl, _, rfl, two H3 x y _ (some (endV ps)) s3 (hx2.same s3) (hy.same s3) rfl⟩)⟩
    | eq => exact ⟨_, rfl, rfl, _, rfl, iteF (in_two (bb := true) rfl (by decide +kernel) fun H3 s3 => iteT ⟨_, rfl, _, rfl, two H3 x y _ (some (endV ps)) s3 (hx2.same s3) (hy.same s3) rfl⟩)⟩
    | ge => exact ⟨_, rfl, rfl, _, rfl, iteF (in_two (bb := false) rfl (by decide +kernel) fun H3 s3 => iteF (in_two (bb := true) rfl (by decide +kernel) fun H4 s4 => iteT ⟨_, rfl, rfl, _, rfl, iteT ⟨_, rfl, two H4 x .non _ none (s3.trans s4) (hx2.same (s3.trans s4)) rfl rfl⟩⟩))⟩
    | gt => exact ⟨_, rfl, rfl, _, rfl, iteF (in_two (bb := false) rfl (by decide +kernel) fun H3 s3 => iteF (in_two (bb := true) rfl (by decide +kernel) fun H4 s4 => iteT ⟨_, rfl, rfl, _, rfl, iteF ⟨_, rfl, two H4 y .non _ none (s3.trans s4) (hy.same (s3.trans s4)) rfl rfl⟩⟩))⟩
    | lt => exact ⟨_, rfl, rfl, _, rfl, iteF (in_two (bb := false) rfl (by decide +kernel) fun H3 s3 => iteF (in_two (bb := false) rfl (by decide +kernel) fun H4 s4 => iteF (in_two (bb := true) rfl (by decide +kernel) fun H5 s5 => iteT ⟨by show 3 ≤ sizeLine; decide, fun pz hz => ⟨_, rfl, rfl, _, rfl, iteT ⟨_, rfl, two _ (.ref pz) x v000 (some (filledV ps)) (((s3.trans s4).trans s5).trans (same_upd hz)) (IsVer.of upd_same) (hx2.same (((s3.trans s4).trans s5).trans (same_upd hz))) rfl⟩⟩⟩)))⟩
    | le => exact ⟨_, rfl, rfl, _, rfl, iteF (in_two (bb := false) rfl (by decide +kernel) fun H3 s3 => iteF (in_two (bb := false) rfl (by decide +kernel) fun H4 s4 => iteF (in_two (bb := true) rfl (by decide +kernel) fun H5 s5 => iteT ⟨by show 3 ≤ sizeLine; decide, fun pz hz => ⟨_, rfl, rfl, _, rfl, iteF ⟨_, rfl, two _ (.ref pz) y v000 (some (endV ps)) (((s3.trans s4).trans s5).trans (same_upd hz)) (IsVer.of upd_same) (hy.same (((s3.trans s4).trans s5).trans (same_upd hz))) rfl⟩⟩⟩)))⟩
    | til =>
      refine ⟨_, rfl, rfl, _, rfl, iteF (in_two (bb := false) rfl (by decide +kernel) fun H3 s3 => iteF (in_two (bb := false) rfl (by decide +kernel) fun H4 s4 => iteF (in_two (bb := false) rfl (by decide +kernel) fun H5 s5 => iteF ⟨_, rfl, rfl, _, rfl, iteT ⟨_, rfl, _, rfl, 2, rfl, a, tupN ps, rfl, ?_, (fun z => ?_), fun _ p hp => ?_⟩⟩)))⟩
      · exact Same.sqT ((s3.trans s4).trans s5) ha2
      · have z2 := z.2
        rw [show (2 : Int) = ((2 : Nat) : Int) from rfl, HT.sIx_nat, List.length_map] at z2
        have e : ps.take 2 = ps := List.take_of_length_le (by omega)
        have s5' := (s3.trans s4).trans s5
        refine ⟨a, ps, rfl, Same.sqT s5' ha2, len, fun H6 u s6 hu => two H6 x u _ (some (endV ps)) (s5'.trans s6) (hx2.same (s5'.trans s6)) hu ?_⟩
        show _ = (filledV ps, some (endV (ps.take 2)))
        rw [e]
      · have k := same_upd (o := .tup (cutV (tupN ps) none (some 2))) hp
        have e : cutV (tupN ps) none (some 2) = tupN (ps.take 2) := by
          rw [show (2 : Int) = ((2 : Nat) : Int) from rfl, cut_to, tupN, tupN, List.map_take]
        have s5' := ((s3.trans s4).trans s5).trans k
        refine ⟨p, ps.take 2, rfl, .inl (.inl (by rw [upd_same, e])), ⟨by have := len.pos; rw [List.length_take]; omega, by have := len.le; rw [List.length_take]; omega⟩, fun H6 u s6 hu => two H6 x u _ (some (endV (ps.take 2))) (s5'.trans s6) (hx2.same (s5'.trans s6)) hu rfl⟩
    | car =>
      refine ⟨_, rfl, rfl, _, rfl, iteF (in_two (bb := false) rfl (by decide +kernel) fun H3 s3 => iteF (in_two (bb := false) rfl (by decide +kernel) fun H4 s4 => iteF (in_two (bb := false) rfl (by decide +kernel) fun H5 s5 => iteF ⟨_, rfl, rfl, _, rfl, iteF ?_⟩)))⟩
      have s5' := (s3.trans s4).trans s5
      have ha5 := Same.sqT s5' ha2
      refine ⟨_, rfl, a, tupN ps, rfl, .inr ha5, _, rfl, a, tupN ps, rfl, .inr ha5, ((tupN ps).length : Int), rfl, by omega, by have := len.le; rw [List.length_map]; omega, ?_⟩
      refine for_range (lo := 0) (n := (((tupN ps).length : Nat) : Int).toNat) (fun i σ H' => ∃ (m : Nat) (y5 y6 : Option V), σ = [some (.str (S Sg.car.txt)), some (.ref a), some x, some y, some (.int (m : Int)), y5, y6] ∧ Same H5 H' ∧ ManyAt ps i m)
        ⟨ps.length, none, none, by rw [List.length_map]; rfl, Same.refl _, .inl ⟨fun l hl => absurd hl (Nat.not_lt_zero _), rfl⟩⟩ ?_ ?_
      · rintro i σ H6 hi ⟨m, y5, y6, rfl, s6, hm⟩
        rw [Int.toNat_natCast, List.length_map] at hi
        have ha6 := Same.sqT s6 ha5
        have hn : ps[i]? = some ps[i] := List.getElem?_eq_getElem hi
        have hv : (tupN ps)[i]? = some (.int ((ps[i] : Nat) : Int)) := by
          rw [List.getElem?_map, hn]
          rfl
        simp only [Int.zero_add]
        refine ⟨_, rfl, _, rfl, a, tupN ps, (i : Int), _, rfl, rfl, ha6, atI_nat hv, rfl, _, rfl, ?_⟩
        by_cases c : ps[i] = 0
        · rw [show (!decide (V.int ((ps[i] : Nat) : Int) = V.int 0)) = false by rw [c]; rfl]
          refine iteF ⟨m, _, y6, rfl, s6, ?_⟩
          rcases hm with ⟨z, e⟩ | ⟨j, n, lj, h⟩
          · refine .inl ⟨fun l hl => ?_, e⟩
            by_cases cl : l < i
            · exact z l cl
            · obtain rfl : l = i := by omega
              rw [hn, c]
          · exact .inr ⟨j, n, by omega, h⟩
        · rw [show (!decide (V.int ((ps[i] : Nat) : Int) = V.int 0)) = true by
            rw [decide_eq_false fun e => c (by have := V.int.inj e; omega)]
            rfl]
          refine iteT ⟨_, rfl, _, rfl, a, tupN ps, rfl, .inr ha6, rfl, _, rfl, ?_⟩
          rcases hm with ⟨z, e⟩ | ⟨j, n, lj, hj, nz, z, e⟩
          · rw [show decide (V.int (m : Int) = V.int ((tupN ps).length : Int)) = true from decide_eq_true (by rw [e, List.length_map])]
            refine iteT ?_
            rw [tTest, tOp]
            refine zeros_read rfl rfl (fun y => rfl) (fun y => rfl) ha6 z fun H7 D s7 hD => ?_
            refine ⟨Nat.zero_le _, fun l hl => ?_⟩
            have t1 := same_upd (o := .lst []) hl
            refine ⟨.list [], .list [], .lst (SqL.of (t1 _ _ hD)) .nil, .lst (SqL.of upd_same) .nil, shaped_nil, shaped_nil, _, rfl, ?_⟩
            rw [show PyData.eqv (.list []) (.list []) = true from eqv_nil []]
            refine iteT ⟨_, rfl, (i : Int), 1, rfl, rfl, i + 1, _, y6, rfl, (s6.trans s7).trans t1, ?_⟩
            exact .inr ⟨i, ps[i], Nat.lt_succ_self i, hn, c, z, rfl⟩
          · have lj2 := (List.getElem?_eq_some_iff.mp hj).1
            rw [show decide (V.int (m : Int) = V.int ((tupN ps).length : Int)) = false from decide_eq_false (fun q => by
              have := V.int.inj q
              rw [List.length_map] at this
              omega)]
            exact iteF ⟨m, _, y6, rfl, s6, .inr ⟨j, n, by omega, hj, nz, z, e⟩⟩
      · rintro σ H6 ⟨m, y5, y6, rfl, s6, hm⟩
        rw [Int.toNat_natCast, List.length_map] at hm
        obtain ⟨e1, e2, e3⟩ := many_end hm
        refine ⟨_, rfl, cut H6 m _ _ 4 (s5'.trans s6) rfl rfl (e3 fun z => by have := len.pos; rw [z] at this; simp at this) fun H7 u s7 hu => ?_⟩
        have s7' := (s5'.trans s6).trans s7
        exact two H7 x u _ (some (endV (ps.take m))) s7' (hx2.same s7') hu (by rw [e1]; rfl)
end
end Kw
set_option maxHeartbeats 4000000
namespace Kw
open PySem PySem.Spec PyProof.Rows L2 LamX SX
/-! ### lists of values that are something -/
structure AllR {α : Type} (R : V → α → Prop) (xs : List V) (ts : List α) : Prop where
  len : xs.length = ts.length
  at_ : ∀ (i : Nat) (x : V) (t : α), xs[i]? = some x → ts[i]? = some t → R x t
theorem AllR.nil {α : Type} {R : V → α → Prop} : AllR R [] [] := ⟨rfl, fun i x t h => by simp at h⟩
theorem AllR.imp {α : Type} {R R' : V → α → Prop} {xs : List V} {ts : List α} (h : AllR R xs ts) (f : ∀ x t, R x t → R' x t) : AllR R' xs ts := ⟨h.len, fun i x t a b => f x t (h.at_ i x t a b)⟩
theorem AllR.get {α : Type} {R : V → α → Prop} {xs : List V} {ts : List α} {i : Nat} {x : V} (h : AllR R xs ts) (a : xs[i]? = some x) : ∃ t, ts[i]? = some t ∧ R x t := by
  have hi := (List.getElem?_eq_some_iff.mp a).1
  have hi2 : i < ts.length := by rw [← h.len]; exact hi
  exact ⟨ts[i], List.getElem?_eq_getElem hi2, h.at_ i x _ a (List.getElem?_eq_getElem hi2)⟩
theorem AllR.snoc {α : Type} {R : V → α → Prop} {xs : List V} {ts : List α} {x : V} {t : α} (h : AllR R xs ts) (q : R x t) : AllR R (xs ++ [x]) (ts ++ [t]) := by
  refine ⟨by simp [h.len], fun i y u a b => ?_⟩
  by_cases hi : i < xs.length
  · rw [List.getElem?_append_left hi] at a
    rw [List.getElem?_append_left (by rw [← h.len]; exact hi)] at b
    exact h.at_ i y u a b
  · rw [List.getElem?_append_right (by omega)] at a
    rw [List.getElem?_append_right (by rw [← h.len]; omega), ← h.len] at b
    have h0 : i - xs.length = 0 := by
      have := (List.getElem?_eq_some_iff.mp a).1
      simp at this
      omega
    rw [h0] at a b
    obtain rfl := Option.some.inj a
    obtain rfl := Option.some.inj b
    exact q
/-! ### a term, a choice -/
abbrev sTermT : Stmt := top 55
abbrev sChD : Stmt := top 56
def IsTerm (K : PySem.W.Frag) (H : Hp) (x : V) (t : TermT) : Prop := ∃ p a, x = .ref p ∧ SqT K H p [.str (S t.1.txt), .ref a, .str (S (termL t))] ∧ SqT K H a (tupN t.2) ∧ PartOk t.2
theorem IsTerm.keep {K : PySem.W.Frag} {H H' : Hp} {x : V} {t : TermT} (h : IsTerm K H x t) (k : ∀ a xs, SqT K H a xs → SqT K H' a xs) : IsTerm K H' x t := let ⟨p, a, e, g1, g2, g3⟩ := h; ⟨p, a, e, k _ _ g1, k _ _ g2, g3⟩
def spTermT (K : PySem.W.Frag) : Sp := fun vs H Q _ => ∃ (d w c : Addr) (B : Int), vs = [.ref d] ∧ StAt H d w c B ∧ B + 6 ≤ 1000000000000 ∧ ∀ H' x t, IsTerm K H' x t → StAt H' d w c (B + 6) → Fr2 d w H H' → Q x H'
structure IsCh (K : PySem.W.Frag) (N : Addr → Prop) (H : Hp) (x : V) (c : ChT) : Prop where
  ex : ∃ p pw pl zs, x = .ref p ∧ SqT K H p [.ref pw, .ref pl] ∧ H pw = some (.lst (strL c.words)) ∧ H pl = some (.lst zs) ∧ Strs K H zs c.led ∧ N pw ∧ N pl
  ok : ChOk c
  few : c.len ≤ 3
theorem IsCh.ext {K : PySem.W.Frag} {N : Addr → Prop} {H H' : Hp} {x : V} {c : ChT} (h : IsCh K N H x c) (e : ExtN H H') : IsCh K N H' x c := by
  obtain ⟨p, pw, pl, zs, rfl, g1, g2, g3, g4, n1, n2⟩ := h.ex
  exact ⟨⟨p, pw, pl, zs, rfl, e.sqT g1, e _ _ g2 (fun ps z => nomatch z), e _ _ g3 (fun ps z => nomatch z), e.strs g4, n1, n2⟩, h.ok, h.few⟩
theorem IsCh.fr {K : PySem.W.Frag} {N : Addr → Prop} {d w c : Addr} {B : Int} {H H' : Hp} {x : V} {ch : ChT} (h : IsCh K N H x ch) (S : StAt H d w c B) (F : Fr2 d w H H') (nw : ∀ a, N a → a ≠ w) : IsCh K N H' x ch := by
  obtain ⟨p, pw, pl, zs, rfl, g1, g2, g3, g4, n1, n2⟩ := h.ex
  exact ⟨⟨p, pw, pl, zs, rfl, F.sqT S g1, F.lst S g2 (nw _ n1), F.lst S g3 (nw _ n2), strs_keep (fun a xs t => F.sqT S t) g4, n1, n2⟩, h.ok, h.few⟩
theorem IsCh.put {K : PySem.W.Frag} {N : Addr → Prop} {D : Addr} {xs : List V} {H H' : Hp} {x : V} {ch : ChT} (h : IsCh K N H x ch) (hD : H D = some (.lst xs)) (F : Fr1 D H H') (nD : ∀ a, N a → a ≠ D) : IsCh K N H' x ch := by
  obtain ⟨p, pw, pl, zs, rfl, g1, g2, g3, g4, n1, n2⟩ := h.ex
  exact ⟨⟨p, pw, pl, zs, rfl, F.sqT hD g1, F _ _ (nD _ n1) g2, F _ _ (nD _ n2) g3, F.strs hD g4, n1, n2⟩, h.ok, h.few⟩
theorem IsCh.imp {K : PySem.W.Frag} {N N' : Addr → Prop} {H : Hp} {x : V} {c : ChT} (h : IsCh K N H x c) (f : ∀ a, N a → N' a) : IsCh K N' H x c := by
  obtain ⟨p, pw, pl, zs, e, g1, g2, g3, g4, n1, n2⟩ := h.ex
  exact ⟨⟨p, pw, pl, zs, e, g1, g2, g3, g4, f _ n1, f _ n2⟩, h.ok, h.few⟩
def spChD (K : PySem.W.Frag) : Sp := fun vs H Q _ => ∃ (d w c : Addr) (B : Int), vs = [.ref d] ∧ StAt H d w c B ∧ B + 30 ≤ 1000000000000 ∧ ∀ H' x ch, IsCh K (fun a => H a = none) H' x ch → StAt H' d w c (B + 30) → Fr2 d w H H' → Q x H'
theorem scTermT : FnScope ["_law_state", "_law_sign", "_law_part_here"] ["_law_state"] (defScope sTermT) := ⟨rfl, rfl, rfl, by decide +kernel, rfl, by decide +kernel, by decide +kernel⟩
abbrev nCD : List Str := ["_law_state", "_law_one", "_law_other", "_law_words", "_law_terms", "_law_turn", "_law_term_here"]
theorem scChD : FnScope nCD ["_law_state"] (defScope sChD) := ⟨rfl, rfl, rfl, by decide +kernel, rfl, by decide +kernel, by decide +kernel⟩
def sgs : List Sg := [.star, .none, .none, .eq, .ge, .gt, .lt, .le, .til, .car, .car]
section
variable {P : Program} {w : World} {K : PySem.W.Frag} {mg : Str → Option Value} {base : Heap}
theorem ok_termT {f : Addr} {fd : FuncData} {k : Nat} (F : Fun K "_law_term" "_law_term" sTermT f fd) (DPk : Def P w K mg base "_law_pick" CX0 k ["_law_state", "_law_some"] spPick) (DP : Def P w K mg base "_law_part" CX0 k ["_law_state"] (spPartD K)) (DW : Def P w K mg base "_law_part_word" CX0 k ["_law_part_here"] (spPartW K)) :
    FnOk P w K mg base CX0 (k + 1) f fd ["_law_state"] (spTermT K) := by
  refine F.ok scTermT (fun vs H Q E h => ?_) (fun cdv A outer s H vs Q E hr h => ?_)
  · obtain ⟨d, w, c, B, rfl, _⟩ := h
    rfl
  · obtain ⟨d, w, c, B, rfl, hS, hB, q⟩ := h
    refine' ⟨_, pss_cons ?s1 (pss_cons ?s2 (pss_one ?s3)), ?_⟩
    case s1 => exact ps_set (i := 1) scTermT.nd rfl (.inl rfl) (pe_d DPk hr (pa_cons (pv 0) (pa_cons (pe_lst (pa_cons pe_str (pa_cons pe_str (pa_cons pe_str (pa_cons pe_str (pa_cons pe_str (pa_cons pe_str (pa_cons pe_str (pa_cons pe_str (pa_cons pe_str (pa_cons pe_str (pa_cons pe_str pa_nil)))))))))))) pa_nil)))
    case s2 => exact ps_set (i := 2) scTermT.nd rfl (.inl rfl) (pe_d DP hr (pa_cons (pv 0) pa_nil))
    case s3 => exact ps_ret (pe_tup (pa_cons (pv 1) (pa_cons (pv 2) (pa_cons (pe_ifExp (pt_cmpR op_eq (pv 1) pe_str (nomark _)) pe_str (pe_op op_add_str (pv 1) (pe_d DW hr (pa_cons (pv 2) pa_nil)))) pa_nil))))
    dsimp only [tSeq, tAsg, tRet, gName]
    refine ⟨_, rfl, by show 11 ≤ sizeLine; decide, fun p hp => ?_⟩
    have k1 := same_upd (o := .lst (sgs.map fun g => V.str (S g.txt))) hp
    have npw : p ≠ w := (hS.ne hp).2.1.symm
    refine ⟨d, w, c, B, p, sgs.map fun g => V.str (S g.txt), rfl, hS.same k1, by omega, upd_same, npw, by show 0 < 11; decide, by show 11 < 1073741824; decide, fun H1 i v hv S1 F1 => ?_⟩
    rw [List.getElem?_map] at hv
    obtain ⟨sg, hsg, rfl⟩ := Option.map_eq_some_iff.mp hv
    refine ⟨_, rfl, d, w, c, B + 1, rfl, S1, by omega, fun H2 pp ps okp hpp S2 F2 => ?_⟩
    have F02 : Fr2 d w H H2 := ((Fr2.ofSame k1).trans F1).trans F2
    refine ⟨_, rfl, _, rfl, _, rfl, rfl, _, rfl, ?_⟩
    have fin : ∀ (H3 : Hp), Same H2 H3 → ∀ p4, H3 p4 = none → Q (.ref p4) (upd H3 p4 (.tup [.str (S sg.txt), .ref pp, .str (S (termL (sg, ps)))])) := fun H3 s3 p4 hp4 => by
      have k := same_upd (o := .tup [.str (S sg.txt), .ref pp, .str (S (termL (sg, ps)))]) hp4
      have S3 := (S2.same (s3.trans k)).mono (B' := B + 6) (by omega)
      exact q _ _ (sg, ps) ⟨p4, pp, rfl, .inl (.inl upd_same), .inl (.inl ((s3.trans k) _ _ hpp)), okp⟩ S3 (F02.trans (Fr2.ofSame (s3.trans k)))
    by_cases st : sg = .star
    · rw [show decide (V.str (S sg.txt) = V.str ("*" : Str)) = true by rw [st]; exact decide_eq_true rfl]
      refine iteT ⟨by show 3 ≤ sizeLine; decide, fun p4 hp4 => ?_⟩
      have z := fin H2 (Same.refl H2) p4 hp4
      rw [st] at z ⊢
      exact z
    · rw [show decide (V.str (S sg.txt) = V.str ("*" : Str)) = false from decide_eq_false fun e => st (by
        have := S_inj (show S sg.txt = S [42] from V.str.inj e)
        cases sg <;> first | rfl | (exact absurd this (by decide)))]
      refine iteF ⟨_, rfl, _, rfl, pp, ps, rfl, .inl (.inl hpp), okp, fun H3 s3 => ?_⟩
      have l1 : sg.txt.length ≤ 2 := by cases sg <;> decide
      have l2 := partL_len okp
      refine ⟨_, _, rfl, rfl, by rw [S_len, S_len, sizeLine_eq]; omega, by show 3 ≤ sizeLine; decide, fun p4 hp4 => ?_⟩
      have z := fin H3 s3 p4 hp4
      rw [termL_ns (t := (sg, ps)) st] at z
      rw [S_cat]
      exact z
theorem ok_chD {f : Addr} {fd : FuncData} {k : Nat} (F : Fun K "_law_choice" "_law_choice" sChD f fd) (mr : mg "range" = none) (DD : Def P w K mg base "_law_draw" CX0 k ["_law_state", "_law_size"] spDraw) (DPk : Def P w K mg base "_law_pick" CX0 k ["_law_state", "_law_some"] spPick) (DP : Def P w K mg base "_law_part" CX0 k ["_law_state"] (spPartD K)) (DW : Def P w K mg base "_law_part_word" CX0 k ["_law_part_here"] (spPartW K))
    (DF : Def P w K mg base "_law_filled" CX0 k ["_law_part_here"] (spPartF K)) (DE : Def P w K mg base "_law_end" CX0 k ["_law_part_here"] (spPartE K)) (DT : Def P w K mg base "_law_term" CX0 k ["_law_state"] (spTermT K)) (DS : Def P w K mg base "_law_term_stretch" CX0 k ["_law_sign", "_law_part_here"] (spTermD K)) :
    FnOk P w K mg base CX0 (k + 1) f fd ["_law_state"] (spChD K) := by
  refine F.ok scChD (fun vs H Q E h => ?_) (fun cdv A outer s H vs Q E hr h => ?_)
  · obtain ⟨d, w, c, B, rfl, _⟩ := h
    rfl
  · obtain ⟨d, w, c, B, rfl, hS, hB, q⟩ := h
    refine' ⟨_, pss_cons ?s1 (pss_cons ?s2 (pss_one ?s3)), ?_⟩
    case s1 => exact (ps_if (pt_cmpR op_eq (pe_d DD hr (pa_cons (pv 0) (pa_cons pe_int pa_nil))) pe_int (nomark _)) (pss_cons (ps_par (i := 1) (j := 2) rfl scChD.nd rfl rfl (by decide) rfl rfl (pa_cons (pe_d DP hr (pa_cons (pv 0) pa_nil)) (pa_cons (pe_d DP hr (pa_cons (pv 0) pa_nil)) pa_nil)) rfl)
      (pss_cons (ps_set (i := 3) scChD.nd rfl (.inl rfl) (pe_lst (pa_cons (pe_d DW hr (pa_cons (pv 1) pa_nil)) (pa_cons pe_str (pa_cons (pe_d DW hr (pa_cons (pv 2) pa_nil)) pa_nil)))))
      (pss_one (ps_ret (pe_tup (pa_cons (pv 3) (pa_cons (pe_lst (pa_cons (pe_tup (pa_cons (pe_d DF hr (pa_cons (pv 1) pa_nil)) (pa_cons (pe_d DE hr (pa_cons (pv 2) pa_nil)) pa_nil))) pa_nil)) pa_nil))))))) pss_nil)
    case s2 => exact (ps_setLc (i := 4) (own := [("_law_turn", 5)]) (g := gName 5) (te := tCall (spTermT K) [] E0 (tCons (tVar 0) tNil)) (tt := tYes) rfl scChD.nd rfl rfl (sw_true rfl rfl rfl (by decide +kernel)) (pi_range1 rfl mr (pa_cons (pe_d DPk hr (pa_cons (pv 0) (pa_cons (pe_lst (pa_cons pe_int (pa_cons pe_int (pa_cons pe_int (pa_cons pe_int pa_nil))))) pa_nil))) pa_nil)) (blkOk_by (N := nCD) (sc := defScope sChD) (by decide +kernel))
        (fun _ _ _ _ _ => pg_name (i := 5) scChD.nd rfl (Or.inl rfl)) (fun _ _ _ _ _ => pts_nil) (fun _ _ _ _ _ => pe_d DT hr (pa_cons (pv 0) pa_nil)))
    case s3 => exact (ps_ret (pe_tup (pa_cons (pe_lc (own := [("_law_term_here", 6)]) (g := gName 6) (te := tOp (rIxT K) (tVar 6) (tC (.int 2))) (tt := tYes) rfl scChD.nd (pi_list (pv 4)) (blkOk_by (N := nCD) (sc := defScope sChD) (by decide +kernel))
        (fun _ _ _ _ _ => pg_name (i := 6) scChD.nd rfl (Or.inl rfl)) (fun _ _ _ _ _ => pts_nil) (fun _ _ _ _ _ => pe_ix ix_tup (pv 6) pe_int (fun _ _ => rfl)))
      (pa_cons (pe_lc (own := [("_law_term_here", 6)]) (g := gName 6) (te := tCall (spTermD K) [] E0 (tCons (tOp (rIxT K) (tVar 6) (tC (.int 0))) (tCons (tOp (rIxT K) (tVar 6) (tC (.int 1))) tNil))) (tt := tYes) rfl scChD.nd (pi_list (pv 4)) (blkOk_by (N := nCD) (sc := defScope sChD) (by decide +kernel))
        (fun _ _ _ _ _ => pg_name (i := 6) scChD.nd rfl (Or.inl rfl)) (fun _ _ _ _ _ => pts_nil) (fun _ _ _ _ _ => pe_d DS hr (pa_cons (pe_ix ix_tup (pv 6) pe_int (fun _ _ => rfl)) (pa_cons (pe_ix ix_tup (pv 6) pe_int (fun _ _ => rfl)) pa_nil)))) pa_nil))))
    dsimp only [tSeq, tAsg, tRet, gName, tIfS, tNext]
    refine ⟨_, rfl, d, w, c, B, 5, rfl, hS, by omega, by decide, by decide, fun H1 z h0 h1 S1 F1 => ⟨rfl, _, rfl, ite2 (fun e => ?_) (fun e => ?_)⟩⟩
    · refine ⟨_, rfl, d, w, c, B + 1, rfl, S1, by omega, fun H2 p1 ps1 ok1 hp1 S2 F2 => ⟨_, rfl, d, w, c, B + 1 + 5, rfl, S2, by omega, fun H3 p2 ps2 ok2 hp2 S3 F3 => ⟨_, _, rfl, ?_⟩⟩⟩
      have hp1' := F3.tup S2 hp1
      have F03 : Fr2 d w H H3 := (F1.trans F2).trans F3
      refine ⟨_, rfl, p1, ps1, rfl, .inl (.inl hp1'), ok1, fun H4 s4 => ⟨_, rfl, p2, ps2, rfl, .inl (.inl (s4 _ _ hp2)), ok2, fun H5 s5 => ⟨by show 3 ≤ sizeLine; decide, fun pw hpw => ?_⟩⟩⟩
      have k1 := same_upd (o := .lst [.str (S (partL ps1)), .str "-", .str (S (partL ps2))]) hpw
      have s6 := (s4.trans s5).trans k1
      have S6 := S3.same s6
      have nw : H pw = none := F03.free hS S3 ((s4.trans s5).free hpw)
      have at1 : upd H5 pw (.lst [.str (S (partL ps1)), .str "-", .str (S (partL ps2))]) pw = some (.lst (strL (ChT.dash ps1 ps2).words)) := upd_same
      generalize upd H5 pw (.lst [.str (S (partL ps1)), .str "-", .str (S (partL ps2))]) = H6 at k1 s6 S6 at1 ⊢
      refine ⟨_, rfl, _, rfl, p1, ps1, rfl, .inl (.inl (s6 _ _ hp1')), ok1.len, fun H7 x s7 hx => ⟨_, rfl, p2, ps2, rfl, .inl (.inl (s7 _ _ (s6 _ _ hp2))), ok2.len, fun H8 y s8 hy => ⟨by show 2 ≤ sizeLine; decide, fun pt hpt => ⟨by show 1 ≤ sizeLine; decide, fun pl hpl => ⟨by show 2 ≤ sizeLine; decide, fun pr hpr => ?_⟩⟩⟩⟩⟩
      have t1 := same_upd (o := .tup [x, y]) hpt
      have t2 := same_upd (o := .lst [.ref pt]) hpl
      have t3 := same_upd (o := .tup [.ref pw, .ref pl]) hpr
      have s78 := s7.trans s8
      have nl : H pl = none := F03.free hS S3 ((s6.trans (s78.trans t1)).free hpl)
      have tA := s78.trans ((t1.trans t2).trans t3)
      have S9 := (S6.same tA).mono (B' := B + 30) (by omega)
      refine q _ (.ref pr) (.dash ps1 ps2) ⟨⟨pr, pw, pl, [.ref pt], rfl, .inl (.inl upd_same), tA _ _ at1, t3 _ _ upd_same, strs_one (s := (filledV ps1, some (endV ps2))) ⟨pt, x, y, rfl, .inl (.inl (t3 _ _ (t2 _ _ upd_same))), (hx.same s8).same ((t1.trans t2).trans t3), hy.same ((t1.trans t2).trans t3)⟩, nw, nl⟩, ⟨ok1, ok2⟩, by show 3 ≤ 3; decide⟩ S9 (F03.trans (Fr2.ofSame (s6.trans tA)))
    · refine ⟨_, rfl, by show 4 ≤ sizeLine; decide, fun p hp => ?_⟩
      have k1 := same_upd (o := .lst (tupN [1, 1, 2, 3])) hp
      have npw : p ≠ w := (S1.ne hp).2.1.symm
      refine ⟨d, w, c, B + 1, p, tupN [1, 1, 2, 3], rfl, S1.same k1, by omega, upd_same, npw, by show 0 < 4; decide, by show 4 < 1073741824; decide, fun H2 i v hv S2 F2 => ?_⟩
      rw [List.getElem?_map] at hv
      obtain ⟨m, hm, rfl⟩ := Option.map_eq_some_iff.mp hv
      have hm3 : 1 ≤ m ∧ m ≤ 3 := by
        have := List.mem_of_getElem? hm
        simp at this
        omega
      have F02 : Fr2 d w H H2 := (F1.trans (Fr2.ofSame k1)).trans F2
      refine ⟨(m : Int), rfl, by omega, by omega, fun D hD => ?_⟩
      have nDw : D ≠ w := (S2.ne hD).2.1.symm
      refine lc_range (lo := 0) (n := (m : Int).toNat) (fun i H' => Fr2 d w H2 H' ∧ StAt H' d w c (B + 2 + 6 * i) ∧ ∃ (xs : List V) (ts : List TermT), H' D = some (.lst xs) ∧ AllR (IsTerm K H') xs ts ∧ ts.length = i)
        ⟨.new hD, (S2.same (same_upd hD)).mono (by simp; omega), [], [], upd_same, .nil, rfl⟩ ?_ ?_
      · rintro i H3 hi ⟨F3, S3, xs, ts, g1, g2, g3⟩
        rw [Int.toNat_natCast] at hi
        refine ⟨rfl, yesI ⟨_, rfl, d, w, c, B + 2 + 6 * i, rfl, S3, by omega, fun H4 x t ht S4 F4 => ?_⟩⟩
        have hD4 := F4.lst S3 g1 nDw
        have f1 : Fr1 D H4 (upd H4 D (.lst (xs ++ [x]))) := Fr1.put
        have l1 := g2.len
        refine ⟨xs, hD4, small1000 (by omega), (F3.trans F4).put hD, (S2.put hD S4).mono (by omega), xs ++ [x], ts ++ [t], upd_same, ?_, by rw [List.length_append, g3]; rfl⟩
        exact (g2.imp fun x t h => (h.keep fun a xs => F4.sqT S3).keep fun a xs => f1.sqT hD4).snoc (ht.keep fun a xs => f1.sqT hD4)
      · rintro H3 ⟨F3, S3, xs, ts, g1, g2, g3⟩
        rw [Int.toNat_natCast] at g3 S3
        have l1 := g2.len
        refine ⟨_, rfl, D, rfl, ⟨_, SqL.of g1⟩, fun D2 hD2 => ?_⟩
        have n2 : H D2 = none := (F02.trans F3).free hS S3 hD2
        refine lc_list (K := K) (a := D) (xs := xs) (fun i H' => Same H3 H' ∧ H' D2 = some (.lst (strL ((ts.take i).map termL)))) ⟨same_upd hD2, upd_same⟩ (fun i H' _ R => SqL.of (R.1 _ _ g1)) ?_ ?_
        · rintro i y H4 hy ⟨s4, h4⟩
          obtain ⟨t, ht, pp, pa, rfl, q1, q2, q3⟩ := g2.get hy
          have il := (List.getElem?_eq_some_iff.mp ht).1
          refine ⟨rfl, yesI ⟨_, rfl, pp, _, 2, _, rfl, rfl, Same.sqT s4 q1, atI_nat (j := 2) rfl, _, h4, ?_, fun b o z => by rw [upd_ne (ne_of_none z hD2)]; exact s4 _ _ z, ?_⟩⟩
          · rw [List.length_map, List.length_map, List.length_take]
            exact small1000 (by omega)
          · rw [upd_same, take_snoc ht]
            simp [strL]
        · rintro H4 ⟨s4, h4⟩
          rw [List.take_of_length_le (Nat.le_of_eq l1.symm)] at h4
          have S4 := S3.same s4
          refine ⟨_, rfl, D, rfl, ⟨_, SqL.of (s4 _ _ g1)⟩, fun D3 hD3 => ?_⟩
          have n3 : H D3 = none := (F02.trans F3).free hS S3 (s4.free hD3)
          refine lc_list (K := K) (a := D) (xs := xs) (fun i H' => Same H4 H' ∧ ∃ zs, H' D3 = some (.lst zs) ∧ Strs K H' zs ((ts.take i).map spanT)) ⟨same_upd hD3, [], upd_same, rfl, fun i x s h => by simp at h⟩ (fun i H' _ R => SqL.of (R.1 _ _ (s4 _ _ g1))) ?_ ?_
          · rintro i y H5 hy ⟨s5, zs, h5, hz⟩
            obtain ⟨t, ht, pp, pa, rfl, q1, q2, q3⟩ := g2.get hy
            have il := (List.getElem?_eq_some_iff.mp ht).1
            have s45 := s4.trans s5
            refine ⟨rfl, yesI ⟨_, rfl, pp, _, 0, _, rfl, rfl, Same.sqT s45 q1, atI_nat (j := 0) rfl, _, rfl, pp, _, 1, _, rfl, rfl, Same.sqT s45 q1, atI_nat (j := 1) rfl, t.1, pa, t.2, rfl, Same.sqT s45 q2, q3.len, fun H6 p6 s6 h6 => ?_⟩⟩
            have hD6 := s6 _ _ h5
            have f1 : Fr1 D3 H6 (upd H6 D3 (.lst (zs ++ [.ref p6]))) := Fr1.put
            have lz := hz.len
            rw [List.length_map, List.length_take] at lz
            refine ⟨zs, hD6, small1000 (by omega), fun b o z => by rw [upd_ne (ne_of_none z hD3)]; exact s6 _ _ (s5 _ _ z), zs ++ [.ref p6], upd_same, ?_⟩
            rw [take_snoc ht, List.map_append]
            exact (f1.strs hD6 (hz.same s6)).snoc (f1.str (s := spanT t) hD6 h6)
          · rintro H5 ⟨s5, zs, h5, hz⟩
            rw [List.take_of_length_le (Nat.le_of_eq l1.symm)] at hz
            refine ⟨by show 2 ≤ sizeLine; decide, fun pr hpr => ?_⟩
            have t3 := same_upd (o := .tup [.ref D2, .ref D3]) hpr
            have s35 := (s4.trans s5).trans t3
            cases ts with
            | nil => simp at g3; omega
            | cons t ts =>
              have oks : ∀ u ∈ t :: ts, TermOk u := fun u hu => by
                obtain ⟨j, hj, e⟩ := List.getElem_of_mem hu
                have := g2.at_ j (xs[j]'(by omega)) u (List.getElem?_eq_getElem _) (by rw [List.getElem?_eq_getElem hj, e])
                obtain ⟨_, _, _, _, _, q3⟩ := this
                exact .inr q3
              refine q _ (.ref pr) (.terms t ts) ⟨⟨pr, D2, D3, zs, rfl, .inl (.inl upd_same), (s5.trans t3) _ _ h4, t3 _ _ h5, hz.same t3, n2, n3⟩, ⟨oks t List.mem_cons_self, fun u hu => oks u (List.mem_cons_of_mem _ hu)⟩, ?_⟩ ((S3.same s35).mono (by omega)) ((F02.trans F3).trans (Fr2.ofSame s35))
              show ts.length + 1 ≤ 3
              simp at g3
              omega
end
end Kw
set_option maxHeartbeats 4000000
/-! ### a lambda handed on: place(lambda: body), where place hands what it got to another def, which calls it -/
namespace LamX
open PySem PySem.Spec PyProof.Rows L2
/-- frames that did not stand count for nothing -/
theorem Un.drop' {fs fs' : List Addr} {H H' : Hp} {h h' : Heap} (u : Un fs' [] H H' h h') (d : ∀ b ∈ fs', b ∈ fs ∨ h.get? b = none) : Un fs [] H H' h h' where
  keep := fun b o q n hb hx => by
    refine u.keep b o q n (fun z => ?_) hx
    rcases d b z with k | k
    · exact hb k
    · rw [k] at q
      cases q
  slot := fun b o q n _ hx => u.any q n hx
  free := u.free
  there := u.there
  tups := u.tups
  frzs := u.frzs
  tbls := u.tbls
theorem frs_new {q : Str} {sc : Scope} {n g : Addr} {cd : Value} {l : List Env} : ∀ b ∈ frs (envOfC q sc n g cd :: l), b ∈ frs l ∨ b = n := fun b hb => by
  unfold frs at hb ⊢
  rw [List.filterMap_cons] at hb
  have e : (envOfC q sc n g cd).frame = some n := rfl
  rw [e] at hb
  rcases List.mem_cons.mp hb with rfl | hb
  · exact .inr rfl
  · exact .inl hb
section
variable {X : Cx} {pins : List (Addr × Obj)} {σ : L2.St} {H H2 : Hp} {s s2 : Shared}
/-- a(), in a def further in: entered at s2 from the frames st2, with the lambda made at s -/
theorem pe_actIn {CXg : CXT} {Eg : XK} {Ng : List Str} {qg : Str} {sg : Scope} {g f c' : Addr} {cdg pm ctv : Value} {params : Arguments} {body : Expr} {scope : Scope} {k i : Nat} {a : Str} {pn : List (Addr × Obj)} {xe : Value → Shared → Prop} {W : WX} {E : XK} {tb : TE} {p1 p2 : Pos} {A2 : Around} {st2 : List Env}
    (I : Inv X pins σ H s) (L : LamS X.env.scope scope) (hf : s.heap.get? f = some (PySem.W.kla_obj "<lambda>" (X.env.qual ++ "<lambda>") params body scope (cloFrom X.env.cells scope.names []) pm c' ctv)) (hfn : H f = none) (hfr : f ∉ frs X.stack)
    (hbind : bindArgs (PySem.W.kla_fn "<lambda>" (X.env.qual ++ "<lambda>") params body scope (cloFrom X.env.cells scope.names []) pm (.ref c') ctv) ⟨[], []⟩ = pure [])
    (un0 : Un (frs X.stack) [] H H2 s.heap s2.heap) (d : ∀ b ∈ frs st2, b ∈ frs X.stack ∨ s.heap.get? b = none)
    (tk : Takes ((cxOf CXg X.prog X.w X.K X.mg X.base Ng qg sg g cdg A2 st2 s2 H2 Eg).tr pn xe) W) (hW : ∀ cls d σ' H', E cls d H' → W cls d σ' H') (hr : Room (k + 1) (A2.deeper (envOfC qg sg s2.heap.objs.size g cdg)))
    (hbody : ∀ (A : Around) (outer : List Env) (s : Shared) (H : Hp), Room k (A.deeper (lamEnv X scope s.heap.objs.size f c')) → PE (lamCx X A outer s H E scope f c') body tb)
    (hN : Ng[i]? = some a) (hv : Vis sg a) (hd : (a == ("__debug__" : Str)) = false := by decide) (hcd : (a == ("__classdict__" : Str)) = false := by decide) :
    PE ((cxOf CXg X.prog X.w X.K X.mg X.base Ng qg sg g cdg A2 st2 s2 H2 Eg).tr pn xe) (.Call (.Name a p1) [] [] p2)
      (fun σZ HZ Q => σZ[i]? = some (some (.ref f)) ∧ HZ c' = some (CodeO c' (X.env.qual ++ "<lambda>")) ∧ tb σ HZ Q) := by
  refine ⟨fun pinsZ sZ σZ HZ Q IZ h => ?_⟩
  obtain ⟨at1, at2, at3⟩ := h
  refine wpAny_Call_Name_kw (thn ((pe_var (pos := p1) (i := i) hN hv hd hcd).run pinsZ sZ σZ HZ (fun v H1 => v = .ref f ∧ H1 = HZ) IZ ⟨.ref f, at1, rfl, rfl⟩) fun u s1 ⟨v, H1, I1, r1, q1⟩ => ?_)
  obtain ⟨rfl, rfl⟩ := q1
  have eu : u = Value.ref f := r1
  rw [eu]
  have f2 := un0.keep f _ hf hfn hfr (by simp)
  have n2 := un0.free f _ hf hfn (by simp)
  have nst : f ∉ frs st2 := fun z => by
    rcases d f z with k | k
    · exact hfr k
    · rw [k] at hf
      cases hf
  have of1 : s1.heap.get? f = some (PySem.W.kla_obj "<lambda>" (X.env.qual ++ "<lambda>") params body scope (cloFrom X.env.cells scope.names []) pm c' ctv) := I1.base.keep f _ f2 n2 nst (fun z => nomatch (show f ∈ ([] : List Addr) from z))
  have un1 : Un (frs st2) [] H2 H1 s2.heap s1.heap := I1.base
  have un : Un (frs X.stack) [] H H1 s.heap s1.heap := Un.drop' ((un0.mono (fs' := frs st2 ++ frs X.stack) (ex' := []) (fun b hb => List.mem_append_right _ hb) (fun b hb => hb)).trans (un1.mono (fs' := frs st2 ++ frs X.stack) (ex' := []) (fun b hb => List.mem_append_left _ hb) (fun b hb => hb))) fun b hb => by
    rcases List.mem_append.mp hb with k | k
    · exact d b k
    · exact .inl k
  refine PySem.W.callWith_F0 ⟨_, _, _, _, of1⟩ ?_
  obtain ⟨⟨oc, vs, t, hoc, hdc, hvc⟩, _, _⟩ := I1.hok c' _ at2
  have rc : codeAny (model X.prog X.w) (A2.deeper (envOfC qg sg s2.heap.objs.size g cdg)) (.call (.ref f) ⟨[], []⟩) (CR (L2.CX X.prog X.w) (envOfC qg sg s2.heap.objs.size g cdg :: st2) X.prog X.w H1 s1 Q E) s1 := by
    refine PySem.W.kla_callFunE hr.depth of1 rfl L.co L.gen rfl ⟨c', oc, vs, t, rfl, hoc, hdc, hvc⟩ ?_
    rw [hbind]
    refine wpAny_pure (wpAny_newFunctionEnv (fun y hy => (L.own y hy).2) (fun y hy => absurd hy (by simp)) (fun h₁ hns hsb => ⟨I1.nolimit.fresh _ hsb, ?_⟩) L.kind)
    show codeAny _ _ (.expr body (lamEnv X scope s1.heap.objs.size f c')) _ _
    have kp : ∀ b o, s1.heap.get? b = some o → h₁.get? b = some o := fun b o e => hsb.extBut b o (Nat.ne_of_lt (Heap.lt_size e)) (Heap.get?_push_of_some _ e)
    have J : Inv (lamCx X (A2.deeper (envOfC qg sg s2.heap.objs.size g cdg)) (envOfC qg sg s2.heap.objs.size g cdg :: st2) s1 H1 E scope f c') [] σ H1 { s1 with heap := h₁, toks := s1.toks + ([] : List (Str × Value)).length } := lam_start2 I L I1.env0 hr.hd un hns kp
    refine PySem.W.kla_codeExpr (wpAny_mono ((hbody _ _ s1 H1 (hr.deeper _)).run [] _ _ H1 Q J at3) (fun v s' hq => ?_) fun e s' hq => hq)
    obtain ⟨w', H', J', rv, q⟩ := hq
    exact ⟨w', H', J'.os, J'.bare, J'.base, J'.hok, rv, q⟩
  have hx : Passes (L2.CX X.prog X.w) ((cxOf CXg X.prog X.w X.K X.mg X.base Ng qg sg g cdg A2 st2 s2 H2 Eg).tr pn xe) E := passes_call tk hW
  refine wpAny_call (codeAny_mono rc fun r s' hq => ?_)
  cases r with
  | error e => exact hx pinsZ σZ H1 s1 e s' I1 hq
  | ok fl =>
    cases fl with
    | ret u => exact I1.after hq
    | next => exact False.elim hq
    | brk => exact False.elim hq
    | cont => exact False.elim hq
end
end LamX
set_option maxHeartbeats 4000000
namespace Kw
open PySem PySem.Spec PyProof.Rows L2 LamX
/-- what a def makes of the lambda that it got, from where it is entered -/
abbrev CxP (X : Cx) (N : List Str) (q : Str) (sc : Scope) (g : Addr) (cd : Value) (s : Shared) (H : Hp) : Cx := (cxOf C8.CX0 X.prog X.w X.K X.mg X.base N q sc g cd X.A X.stack s H C8.E0).nox
section
variable {X : Cx} {CE : Addr}
/-- _law_caught(a), in a def that got a lambda as a -/
theorem pe_pass {N : List Str} {q a lq : Str} {sc : Scope} {g f c' : Addr} {cd : Value} {s : Shared} {H : Hp} {tl : XK → Hp → VK → Prop} {k i : Nat} {p p3 pos : Pos} (C : CaughtD X.K X.mg CE) (hg : Gl (CxP X N q sc g cd s H) "_law_caught") (hr : Room (k + 2) (CxP X N q sc g cd s H).A)
    (act : ∀ (s2 : Shared) (H2 : Hp) (g2 : Addr) (cd2 : Value) (W : WX) (pn : List (Addr × Obj)) (xe : Value → Shared → Prop) (E : XK) (p1 p2 : Pos), Un (frs X.stack) [] H H2 s.heap s2.heap → Room (k + 1) ((CxP X N q sc g cd s H).A.deeper (envOfC "_law_caught" (defScope sCaught) s2.heap.objs.size g2 cd2)) →
      Takes ((cxOf C8.CX0 X.prog X.w X.K X.mg X.base ["_law_task", "_law_caught_here", "_law_error"] "_law_caught" (defScope sCaught) g2 cd2 (CxP X N q sc g cd s H).A (CxP X N q sc g cd s H).stack s2 H2 C8.E0).tr pn xe) W → (∀ cls d σ' H', E cls d H' → W cls d σ' H') →
      PE ((cxOf C8.CX0 X.prog X.w X.K X.mg X.base ["_law_task", "_law_caught_here", "_law_error"] "_law_caught" (defScope sCaught) g2 cd2 (CxP X N q sc g cd s H).A (CxP X N q sc g cd s H).stack s2 H2 C8.E0).tr pn xe) (.Call (.Name "_law_task" p1) [] [] p2) (fun σZ HZ Q => σZ[0]? = some (some (.ref f)) ∧ HZ c' = some (CodeO c' lq) ∧ tl E HZ Q))
    (hN : N[i]? = some a) (hv : Vis sc a) (hd : (a == ("__debug__" : Str)) = false := by decide) (hcd : (a == ("__classdict__" : Str)) = false := by decide) :
    PE (CxP X N q sc g cd s H) (.Call (.Name "_law_caught" p) [.Name a p3] [] pos) (fun σZ HZ Q => σZ[i]? = some (some (.ref f)) ∧ HZ c' = some (CodeO c' lq) ∧ TTc X.K CE tl HZ Q) := by
  obtain ⟨g2, fd, F, hm, hk, hb⟩ := C.ex
  obtain ⟨oc, od, kV, doc, pm, an, cdv, ct, osl, rfl, lk, hcg⟩ := F.ex
  refine ⟨fun pins s1 σ H1 Q I h => ?_⟩
  obtain ⟨h1, h2, h3⟩ := h
  refine wpAny_Call_Name_kw (ld_glob I hg hm ?_ (by decide))
  have hp : PE (CxP X N q sc g cd s H) (.Name a p3) (tVar i) := pe_var hN hv hd hcd
  refine PySem.W.callWith_K (h₀ := X.base) I.ok.mod.kin hk (thn ((pa_cons hp pa_nil).run pos pins s1 σ H1 (fun vs H2 => vs = [.ref f] ∧ H2 = H1) I ⟨.ref f, h1, rfl, rfl⟩) fun us s2 ⟨vs, H2, I2, r, q⟩ => ⟨I2.kIn, ?_⟩) (by rfl) (by rfl)
  obtain ⟨rfl, rfl⟩ := q
  obtain ⟨u, rfl, ru⟩ := vals1 r
  have eu : u = Value.ref f := ru
  rw [eu]
  have un : Un (frs X.stack) [] H H2 s.heap s2.heap := I2.base
  have rc : codeAny (model X.prog X.w) (CxP X N q sc g cd s H).A (.call (.ref g2) ⟨[.ref f], []⟩) (CR C8.CX0 (CxP X N q sc g cd s H).stack X.prog X.w H2 s2 Q C8.E0) s2 := by
    refine run_ofS (N := ["_law_task", "_law_caught_here", "_law_error"]) (ps := ["_law_task"]) (us := [.ref f]) (vs := [.ref f]) lk hcg scCaught hr I2.env0 (hb s2 [.ref f] I2.kIn rfl) (.cons rfl .nil) rfl fun hr' => ?_
    obtain ⟨t', ht', hq'⟩ := caught_gives (X := CxP X N q sc g cd s H) (g := g2) (cdg := cdv) (q := lq) C.gE f c' s2 H2 Q tl (fun W pn xe E p1 p2 tk hW => act s2 H2 g2 cdv W pn xe E p1 p2 un hr' tk hW) h2 h3
    exact ⟨t', ht'.nox, hq'⟩
  refine wpAny_call (codeAny_mono rc fun r s3 hq => ?_)
  cases r with
  | error e => exact (show False from hq).elim
  | ok fl =>
    cases fl with
    | ret u => exact I2.after hq
    | next => exact False.elim hq
    | brk => exact False.elim hq
    | cont => exact False.elim hq
end
end Kw
set_option maxHeartbeats 4000000
namespace Kw
open PySem PySem.Spec PyProof.Rows L2 LamX
/-! ### _law_place(lambda: body) -/
abbrev sPlace : Stmt := top 62
abbrev nPl : List Str := ["_law_task", "_law_error"]
theorem scPlace : FnScope nPl ["_law_task"] (defScope sPlace) := ⟨rfl, rfl, rfl, by decide +kernel, rfl, by decide +kernel, by decide +kernel⟩
structure BadTx (K : PySem.W.Frag) (mg : Str → Option Value) (CB CK : Addr) : Prop where
  ec : ExcC K CB
  xc : XfC K CB
  na : PySem.W.findIn K (.ref CB) "at" = some none
  gB : mg "BadText" = some (.ref CB)
  mi : mg "isinstance" = none
  mv : mg "ValueError" = none
  k1 : PySem.W.kitOne K (.ref CB) (.ref CB) = some true
  k2 : PySem.W.kitOne K (.ref CB) (.type "ValueError") = some true
  sub : PySem.W.exmOne K (.ref CB) (.ref CK) = some true
structure PlaceD (K : PySem.W.Frag) (mg : Str → Option Value) : Prop where
  ex : ∃ g fd, Fun K "_law_place" "_law_place" sPlace g fd ∧ mg "_law_place" = some (.ref g) ∧ PySem.W.keepIn K (.ref g) = true ∧ Binds K fd ["_law_task"] []
abbrev rIsX (K : PySem.W.Frag) (C : Addr) : List V → Hp → VK → Prop := fun xs H Q => ∃ (x c : V) (v : Option V) (cv : Value) (b : Bool), xs = [x, c] ∧ IsExc H x C v ∧ ClsV c cv ∧ PySem.W.kitOne K (.ref C) cv = some b ∧ Q (.bl b) H
/-- what the place makes of its task: None, or the error's field -/
def TTp (K : PySem.W.Frag) (CK CB : Addr) : (XK → Hp → VK → Prop) → Hp → VK → Prop := fun tl H Q => ∀ f : Addr, TTc K CK tl H fun x H1 =>
    tTest (tOp (fun x y H Q => y = V.non ∧ Q (V.bl (decide (x = V.non))) H) (tVar 1) (tC V.non)) (List.set (L2.start nPl [V.ref f]) 1 (some x)) H1 fun b H1 =>
      if b = true then tC V.non (List.set (L2.start nPl [V.ref f]) 1 (some x)) H1 Q
      else tIf (tAnd (tB (tCB (rIsX K CB) (tCons (tVar 1) (tCons (tC (V.ref CB)) tNil)))) (tB (tCB (rIsX K CB) (tCons (tVar 1) (tCons (tC (V.ty "ValueError")) tNil))))) (tXat CB (tVar 1)) (tC (V.str (Str.ofString "other"))) (List.set (L2.start nPl [V.ref f]) 1 (some x)) H1 Q
section
variable {X : Cx} {CK CB : Addr} {T : List (Addr × Str)}
theorem pe_place {c PT : Addr} {k : Nat} {params : Arguments} {body : Expr} {scope : Scope} {t : XK → TE} {p lpos pos : Pos} (C : CaughtD X.K X.mg CK) (B : BadTx X.K X.mg CB CK) (D : PlaceD X.K X.mg) (hg : Gl X "_law_place")
    (TB : TabB X.base X.mg c PT) (hcode : X.env.code = .ref c) (hmT : (PT, X.env.qual ++ "<lambda>") ∈ T) (hu : ∀ p ∈ T, p.1 = PT → p.2 = X.env.qual ++ "<lambda>") (hr : Room (k + 3) X.A) (L : LamS X.env.scope scope) (hdef : defaultsOf params X.env = ([], []))
    (hbind : ∀ (q : Str) (cl : List (Str × Addr)) (pm cv ctv : Value), bindArgs (PySem.W.kla_fn "<lambda>" q params body scope cl pm cv ctv) ⟨[], []⟩ = pure [])
    (hbody : ∀ (A : Around) (outer : List Env) (s : Shared) (H : Hp) (E : XK) (f c' : Addr), Room k (A.deeper (lamEnv X scope s.heap.objs.size f c')) → PE (lamCx X A outer s H E scope f c') body (t E)) :
    PE X (.Call (.Name "_law_place" p) [.Lambda params body scope lpos] [] pos) (tLam T (TTp X.K CK CB) t) := by
  obtain ⟨g, fd, F, hm, hk, hb⟩ := D.ex
  obtain ⟨oc, od, kV, doc, pm, an, cdv, ct, osl, rfl, lk, hcg⟩ := F.ex
  refine ⟨fun pins s σ H Q I h => ?_⟩
  obtain ⟨hT, h⟩ := h
  refine wpAny_Call_Name_kw (ld_glob I hg hm ?_ (by decide))
  refine PySem.W.callWith_K (h₀ := X.base) I.ok.mod.kin hk ?_ (by rfl) (by rfl)
  show wpAny _ _ (spliced ((false, eval (.Lambda params body scope lpos) X.env) :: backTo pos (starEach [] X.env))) _ _ s
  refine Calls.spliced_cons (lam_make2 I TB hcode hmT hu hT hdef (L.has I.ok) fun f c' pm' ctv H1 s' I1 eN T1 hf hfn hfr hco => ?_)
  refine Calls.spliced_nil ⟨I1.kIn, ?_⟩
  have h1 := h H1 eN T1
  have rc : codeAny (model X.prog X.w) X.A (.call (.ref g) ⟨[.ref f], []⟩) (CR C8.CX0 X.stack X.prog X.w H1 s' Q C8.E0) s' := by
    refine run_ofS (N := nPl) (ps := ["_law_task"]) (us := [.ref f]) (vs := [.ref f]) lk hcg scPlace hr I1.env0 (hb s' [.ref f] I1.kIn rfl) (.cons rfl .nil) rfl fun hr' => ?_
    have fr : ∀ b ∈ frs (CxP X nPl "_law_place" (defScope sPlace) g cdv s' H1).stack, b ∈ frs X.stack ∨ s'.heap.get? b = none := fun b hb => (frs_new b hb).imp id fun e => by
      rw [e]
      cases z : s'.heap.get? s'.heap.objs.size with
      | none => rfl
      | some o => exact absurd (Heap.lt_size z) (Nat.lt_irrefl _)
    suffices hh : ∃ t, PSs (CxP X nPl "_law_place" (defScope sPlace) g cdv s' H1) (defBody sPlace) t ∧ t { nx := fun _ H' => Q .non H', rt := Q } (L2.start nPl [.ref f]) H1 from let ⟨t, a, b⟩ := hh; ⟨t, a.nox, b⟩
    refine' ⟨_, pss_cons ?s1 (pss_cons ?s2 (pss_one ?s3)), ?_⟩
    case s1 => exact ps_set (i := 1) scPlace.nd rfl (.inl rfl) (pe_pass (tl := fun E H' Q' => t E σ H' Q') (lq := X.env.qual ++ "<lambda>") (f := f) (c' := c') C rfl hr'
      (fun s2 H2 g2 cd2 W pn xe E p1 p2 un hr2 tk hW => pe_actIn (i := 0) I1 L hf hfn hfr (hbind _ _ _ _ _) un fr tk hW hr2 (fun A outer s H hr3 => hbody A outer s H E f c' hr3) rfl (.inl rfl)) (i := 0) rfl (.inl rfl))
    case s2 => exact ps_if (pt_cmpR op_isN (pv 1) pe_non (nomark _)) (pss_one (ps_ret pe_non)) pss_nil
    case s3 => exact ps_ret (pe_ifExp (PW.pt (pw_and (pt_val (pe_callB (r := rIsX X.K CB) (call_isX B.ec) (by rfl) B.mi (by decide +kernel) (pa_cons (pv 1) (pa_cons (pe_glob (v := .ref CB) (by rfl) B.gB rfl) pa_nil)))) (pw_and1 (pt_val (pe_callB (r := rIsX X.K CB) (call_isX B.ec) (by rfl) B.mi (by decide +kernel) (pa_cons (pv 1) (pa_cons (pe_bltn (v := .ty "ValueError") (by rfl) B.mv (by decide +kernel) rfl) pa_nil))))))) (pe_xat B.xc B.na (pv 1)) pe_str)
    dsimp only [tSeq, tAsg, tRet, tIfS, gName, tNext]
    refine ⟨rfl, hco, ?_⟩
    exact h1 f
  refine wpAny_call (codeAny_mono rc fun r s2 hq => ?_)
  cases r with
  | error e => exact (show False from hq).elim
  | ok fl =>
    cases fl with
    | ret u => exact I1.after hq
    | next => exact False.elim hq
    | brk => exact False.elim hq
    | cont => exact False.elim hq
end
section
variable {K : PySem.W.Frag} {CK CB : Addr} {T : List (Addr × Str)} {H : Hp} {tl : XK → Hp → VK → Prop} {Q : VK}
theorem place_ok (h : ∀ (E : XK) (Q' : VK), (∀ H' x, ExtN H H' → Tabs T H' → Q' x H') → tl E H Q') (q : ∀ H', ExtN H H' → Tabs T H' → Q .non H') : TTp K CK CB tl H Q := fun f => h _ _ fun H' x e t => ⟨.non, rfl, _, rfl, rfl, _, rfl, iteT (q H' e t)⟩
theorem place_err {mg : Str → Option Value} {v : V} (B : BadTx K mg CB CK) (h : ∀ (E : XK) (Q' : VK), (∀ H' dd, ExtN H H' → Tabs T H' → H' dd = some (.xd [(("at" : Str), v)]) → E (.ref CB) (some dd) H') → tl E H Q') (q : ∀ H', ExtN H H' → Tabs T H' → Q v H') : TTp K CK CB tl H Q := fun f =>
  h _ _ fun H' dd e t hd => ⟨B.sub, fun a ha => by
    have s4 := same_upd (o := exA (.ref CB) (some dd) a) ha
    have ex : IsExc (upd H' a (exA (.ref CB) (some dd) a)) (.ref a) CB (some v) := ⟨a, some dd, rfl, upd_same, dd, rfl, s4 _ _ hd⟩
    refine ⟨_, rfl, rfl, _, rfl, iteF ?_⟩
    refine ⟨_, rfl, .ref a, .ref CB, some v, .ref CB, true, rfl, ex, .own _, B.k1, true, rfl, iteT ?_⟩
    refine ⟨_, rfl, .ref a, .ty "ValueError", some v, .type "ValueError", true, rfl, ex, .ty _, B.k2, true, rfl, iteT ?_⟩
    exact ⟨_, rfl, v, ex, q _ (e.trans (ExtN.same s4)) (t.ext s4)⟩⟩
end
end Kw
set_option maxHeartbeats 4000000
/-! own errors whose __init__ is: super().__init__(f'.. {x!r}'); self.x = x -/
namespace Kst
open PySem PySem.W PySem.Calls PyProof.Rows PySem.HandSPX
abbrev sBR : Stmt := L2.inClass (Kw.top 5) 0
abbrev iP : Arguments := L2.defArgs sBR
abbrev iBody : List Stmt := L2.defBody sBR
abbrev iScope : Scope := L2.defScope sBR
/-- what the written part says of such a class, at C; its __init__ at fI, the cell of __class__ at cc, the code at cd -/
structure SupTxt (prog : Program) (K : Frag) (mg : Str → Option Value) (C fI cc cd : Addr) (qual : Str) : Prop where
  cls : ∃ nm q N bs bm sn sub ab col dd k0 k1 k2 k3 k5, K.lookup C = some (excClassObj nm q C N bs bm true sn sub ab col dd k0 k1 k2 k3 k5 "ValueError.__new__") ∧ refsVE bm = true
  sa : findIn K (.ref C) "__setattr__" = some (some (.builtin "object.__setattr__"))
  noA : findIn K (.ref C) "at" = some none
  iC : findIn K (.ref C) "__init__" = some (some (.ref fI))
  tI : typeIn K (.ref fI) = some (.type "function")
  subV : subIn K (.ref C) (.type "ValueError") = some true
  subC : mroIn K C (.ref C) = some true
  opq : nsIn K cStatics "thirdparty.any" = some none
  sup : ks_superIn K C C "__init__" = some (some (.builtin "ValueError.__init__"))
  fn : ∃ (oc : Value) (od : Option Addr) (doc pm : Value) (an : Option Addr) (ct : Value) (osl : Array (Option Value)),
    K.lookup fI = some ⟨oc, od, .func (ksFn "__init__" qual iP iBody iScope .none .none doc pm an (.ref cd) ct cc), osl⟩ ∧ codeIn K (.ref cd) qual = true
  code : ∃ ccl cdd vs ccs file tf, K.lookup cd = some ⟨ccl, cdd, .fields vs, ccs⟩ ∧ vs[2]? = some (.str file tf) ∧ ((prog.main.file : Str) == file) = true
  cell : ∃ cl cld csl, K.lookup cc = some ⟨cl, cld, .cell (some (.ref C)), csl⟩
  msup : mg "super" = none
  top : (prog.main.scope.names.lookup ("super" : Str)).isSome = false
/-- values whose repr is short -/
def Shown (v : Value) : Prop := v = .none ∨ ∃ i t, v = .int i t ∧ i.natAbs.log2 < 1920
/-- what __init__ leaves of a fresh exception at x -/
structure InitEnd (h h' : Heap) (x C dx t1 : Addr) (v : Value) : Prop where
  keep : ∀ b o, b ≠ x → h.get? b = some o → h'.get? b = some o
  obj : h'.get? x = some { cls := .ref C, dict := some dx, data := .fields #[.ref t1, .none, .none, .none, .bool false, .none] }
  dbig : h.objs.size ≤ dx
  dne : dx ≠ x
  ns : h'.Ns1 dx (fun y => if y = "at" then some v else none)
section
variable {prog : Program} {w : World} {A : Around} {E : Value → Shared → Prop} {h : Heap} {g : Array GenState} {d : Drawn} {t : Nat} {os : OsState}
variable {nm q : Str} {C N : Addr} {bs bm : List Value} {hdct : Bool} {sn : List Str} {sub : List Value} {ab : Bool} {col : Option Bool} {dd : Option Addr} {k0 k1 k2 k3 k5 : Option Value}
theorem mw_call {u x t0 : Addr} {rest : List Value} {Q : Value → Shared → Prop} (hC : h.get? C = some (excClassObj nm q C N bs bm hdct sn sub ab col dd k0 k1 k2 k3 k5 "ValueError.__new__")) (he : h.get? x = some (excO C t0)) (hu : h.get? u = some (kxs_mw "ValueError.__init__" x)) (hz : rest.length ≤ sizeLine)
    (fin : ∀ h', (∀ b o, b ≠ x → h.get? b = some o → h'.get? b = some o) → h'.get? x = some (excO C h.objs.size) → Q .none ⟨h', g, d, t, os⟩) : wpAny (model prog w) A (call (.ref u) rest) Q E ⟨h, g, d, t, os⟩ := by
  have FB := F.excBase_ValueError
  refine wpAny_call (codeAny_of_tree ?_)
  show wpAny (model prog w) A.in1 (callAny (.ref u) { pos := rest, kw := [] }) _ _ _
  unfold callAny
  refine wpAny_bind (wpAny_load hu ?_)
  have e1 : (Value.type "method-wrapper" == Value.type "method" || Value.type "method-wrapper" == Value.type "builtin_function_or_method" || Value.type "method-wrapper" == Value.type "method-wrapper") = true := by decide
  simp only [kxs_mw, e1, if_true]
  refine KFB.if_so (by decide) ?_
  refine wpAny_bind (check_bound_init FB.toExcCallFacts hC he rfl (wpAny_bind (wpAny_pure (wpAny_pure ?_))))
  refine ⟨plainId_quiet FB.init.plain _, codeAny_builtin FB.initEntry (exc_init_tree (cls := .ref C) (t0 := t0) (dv := none) (c2 := .none) (c3 := .none) (b4 := .bool false) he hz fun h' k e' _ => ?_)⟩
  exact fin h' k e'
end
section
variable {prog : Program} {w : World} {A : Around} {R : Result → Shared → Prop} {s : Shared} {K : Frag} {mg : Str → Option Value} {base : Heap} {C fI cc cd : Addr} {qual : Str}
theorem sup_init (T : SupTxt prog K mg C fI cc cd qual) {x t0 : Addr} {v : Value} (X : K.In s.heap) (M : L2.Mod K mg base) (kb : ∀ b o, base.get? b = some o → s.heap.get? b = some o) (hx : s.heap.get? x = some (excO C t0)) (hnx : ∀ t, K.lookup x ≠ some (excO C t))
    (hv : Shown v) (hroom : A.depth + 3 < recursionLimit) (hq : ∀ h' tk dx t1, InitEnd s.heap h' x C dx t1 v → R (.ok (.ret .none)) { s with heap := h', toks := tk }) :
    codeAny (model prog w) A (.call (.ref fI) ⟨[.ref x, v], []⟩) R s := by
  obtain ⟨oc, od, doc, pm, an, ct, osl, ho, hcd⟩ := T.fn
  obtain ⟨nm, qq, N, bs, bm, sn, sub, ab, col, dd, k0, k1, k2, k3, k5, hC, hbm⟩ := T.cls
  obtain ⟨ccl, cdd, vs, ccs, file, tf, hcode, hvs, hfile⟩ := T.code
  obtain ⟨cl, cld, csl, hcell⟩ := T.cell
  have hcl : clsIn K C = some { name := nm, bases := bs, mro := .ref C :: bm, ns := N, qualname := qq, hasDict := true, slotNames := sn, subclasses := sub, abstract := ab, collection := col, hasDel := false } := by unfold clsIn; rw [hC] <;> rfl
  have hlim : s.heap.NoLimit := M.nolimit.keeps kb
  refine ks_codeAny_call_defAt (fd := ksFn "__init__" qual iP iBody iScope .none .none doc pm an (.ref cd) ct cc) (body := iBody) (binds := [("self", .ref x), ("at", v)]) (by omega) (X _ _ ho) rfl hlim (codeRec_of X hcd) rfl
    (BindsTo.of_eq (by first | rfl | with_unfolding_all rfl)) (by show ∀ x ∈ iScope.names, x.2 ≠ .cell; decide) (by intro y hy; simp at hy; rcases hy with rfl | rfl <;> rfl) (fun h₁ hns hk₁ => ?_) rfl rfl rfl
  have X₁ : K.In h₁ := X.keeps hk₁
  have kb₁ : ∀ b o, base.get? b = some o → h₁.get? b = some o := fun b o e => hk₁ _ _ (kb b o e)
  have hx₁ := hk₁ _ _ hx
  have hC₁ := X₁ _ _ hC
  have hns1 : (fun y => [(PySem.Str.ofString "self", Value.ref x), (PySem.Str.ofString "at", v)].reverse.lookup y) "self" = some (.ref x) := by rfl
  obtain ⟨mb, hmb, hbb⟩ := M.blt
  have rest : ∀ (h' : Heap) (tk : Nat) (t1 : Addr), (∀ b o, b ≠ x → h₁.get? b = some o → h'.get? b = some o) → h'.get? x = some (excO C t1) →
      _root_.PySem.wpAt (model prog w) (A.deeper (ksEnv qual iScope s.heap.objs.size fI (.ref cd) cc)) (.func iBody (ksEnv qual iScope s.heap.objs.size fI (.ref cd) cc)) (execs iBody.tail (ksEnv qual iScope s.heap.objs.size fI (.ref cd) cc))
        (fun f s' => R (.ok (.ret (match f with | .ret v => v | _ => .none))) s')
        (fun e s' => wpAny (model prog w) (A.deeper (ksEnv qual iScope s.heap.objs.size fI (.ref cd) cc)) (leaving (ksEnv qual iScope s.heap.objs.size fI (.ref cd) cc) e) (fun _ s'' => R (.error e) s'') (fun e' s'' => R (.error e') s'') s') { s with heap := h', toks := tk } := fun h' tk t1 k e => by
    have hxL : s.heap.objs.size ≠ x := Nat.ne_of_gt (Heap.lt_size hx)
    have hns' : h'.Ns s.heap.objs.size (fun y => [(PySem.Str.ofString "self", Value.ref x), (PySem.Str.ofString "at", v)].reverse.lookup y) := hns.at fun o q => k _ o hxL q
    have X' : K.In h' := fun a o q => k a o (fun z => by
      subst z
      have e1 := X _ _ q
      rw [hx] at e1
      have e2 : o = excO C t0 := (Option.some.inj e1).symm
      exact absurd q (by rw [e2]; exact hnx t0)) (X₁ a o q)
    refine ks_wpAt_execs_cons (wpAt_of_wpAny (plainObj_wpAny_Assign_Attribute ?_))
    refine wpAny_Name (wpAny_loadName_local rfl rfl hns' (by rfl) (wpAny_Name (wpAny_loadName_local rfl rfl hns' (by rfl) ?_) rfl)) rfl
    refine set_plain X' (ox := excO C t1) (od := none) ⟨e, rfl, rfl, trivial⟩ T.sa ?_
    refine exc_osa X' e hcl (show refsVE (.ref C :: bm) = true from hbm) rfl T.noA (fun h₃ tk₃ dx k₃ dn dne hx₃ hn₃ => ?_)
    refine wpAt_of_wpAny (wpAny_execs_nil (hq h₃ tk₃ dx t1 ⟨fun b o hb q => k₃ b o hb (k b o hb (hk₁ b o q)), hx₃, ?_, dne, hn₃⟩))
    exact Nat.le_of_lt (Nat.lt_of_lt_of_le hns'.lt dn)
  refine ks_wpAt_execs_cons (ks_wpAt_Expr_any (ks_wpAt_MethodCall (pl := ?_) ?_))
  rotate_left
  · refine ks_wpAt_super_base (env := ksEnv qual iScope s.heap.objs.size fI (.ref cd) cc) rfl rfl rfl rfl (X₁ _ _ ho) rfl rfl rfl (X₁ _ _ hcode) rfl hvs hfile T.top ?_
    refine ks_loadName_global rfl rfl (loadGlobal_builtin (env := ksEnv qual iScope s.heap.objs.size fI (.ref cd) cc) (M.glob.keeps kb₁) T.msup (hmb.keeps kb₁) ((hbb "super" (by decide)).trans (by first | rfl | kernel_rfl)) ⟨rfl, ?_⟩)
    refine wpAny_loadName_free rfl rfl rfl ⟨_, X₁ _ _ hcell, rfl⟩ ?_
    refine wpAny_loadName_local rfl rfl hns (by rfl) ?_
    refine ks_wpAny_isType_cls hC₁ rfl ⟨rfl, ?_⟩
    refine ks_wpAny_call_super hC₁ rfl hx₁ rfl (fun c e => by cases e) (looks_mroIn X₁ T.subC) (fun h₂ hso hk₂ => ?_)
    have X₂ : K.In h₂ := X₁.keeps hk₂
    have hx₂ := hk₂ _ _ hx₁
    have I : InstAt h₂ x (excO C t0) C none := ⟨hx₂, rfl, rfl, trivial⟩
    have hI : Looks (model prog w) h₂ (isInstance (.ref x) (.type "ValueError")) true := I.type.andThen (looks_subIn X₂ T.subV)
    have hsup := T.sup
    unfold ks_superIn at hsup
    rw [hcl] at hsup
    refine kxs_getMethod kxs_ValueError hso (looks_opaque X₂ T.opq) (l₀ := .ref C :: bm) (fun A Q E s k q => wpAny_bind ((looks_clsIn X₂ hcl) A _ E s k (wpAny_pure q))) rfl X₂ hsup hI (ks_ne X₂ I hcl) rfl ?_
    have hu : (h₂.push (kxs_mw "ValueError.__init__" x)).get? h₂.objs.size = some (kxs_mw "ValueError.__init__" x) := Heap.get?_push_size _ rfl
    have hk₃ : ∀ b o, h₂.get? b = some o → (h₂.push (kxs_mw "ValueError.__init__" x)).get? b = some o := fun b o e => Heap.get?_push_of_some _ e
    have N1 : News h₂ x (h₂.push (kxs_mw "ValueError.__init__" x)) [(h₂.objs.size, kxs_mw "ValueError.__init__" x)] := fun p hp => by
      obtain rfl := List.mem_singleton.mp hp
      exact ⟨hu, Nat.ne_of_gt (Heap.lt_size hx₂), Heap.get?_none_of_le (Nat.le_refl _)⟩
    refine kxs_callWith1 N1 List.mem_cons_self ?_
    refine Calls.spliced_cons (wpAny_JoinedStr (pos := ⟨11, 25, 11, 48⟩) ?_)
    have hns₃ := (hns.keeps hk₂).keeps hk₃
    refine Calls.Constant_str ⟨_, _, rfl, by decide, ?_⟩
    refine wpAny_FormattedValue_repr (wpAny_Name (wpAny_loadName_local rfl rfl hns₃ (by rfl) ?_) rfl)
    have hC₃ := (X₂.keeps hk₃) _ _ hC
    have hx₃ := hk₃ _ _ hx₂
    rcases hv with rfl | ⟨i, ti, rfl, hi⟩
    · refine pyReprObj_none (wpAny_formatField_str ?_ ?_ (by decide))
      · refine ⟨_, _, rfl, by decide, by decide, Calls.spliced_nil ⟨hu, mw_call hC₃ hx₃ hu (by show 1 ≤ sizeLine; decide) fun h' k e' => ?_⟩⟩
        exact rest h' _ _ (fun b o hb q => k b o hb (hk₃ _ _ (hk₂ _ _ q))) e'
      · refine ⟨_, _, rfl, by decide, by decide, Calls.spliced_nil ⟨hu, mw_call hC₃ hx₃ hu (by show 1 ≤ sizeLine; decide) fun h' k e' => ?_⟩⟩
        exact rest h' _ _ (fun b o hb q => k b o hb (hk₃ _ _ (hk₂ _ _ q))) e'
    · have hz : (Str.ofString (toString i)).length ≤ sizeLine := int_text_fits hi
      have hz2 : ((Str.empty ++ Str.ofString "no text: ") ++ Str.ofString (toString i)).length ≤ sizeLine := by
        have h1 := int_text_len_1921 hi
        rw [Str.length_append, sizeLine_eq]
        have h2 : (Str.empty ++ Str.ofString "no text: ").length = 9 := by decide
        omega
      refine pyReprObj_int hi (wpAny_formatField_str ?_ ?_ hz)
      · refine ⟨_, _, rfl, hz2, hz2, Calls.spliced_nil ⟨hu, mw_call hC₃ hx₃ hu (by show 1 ≤ sizeLine; decide) fun h' k e' => ?_⟩⟩
        exact rest h' _ _ (fun b o hb q => k b o hb (hk₃ _ _ (hk₂ _ _ q))) e'
      · refine ⟨_, _, rfl, hz2, hz2, Calls.spliced_nil ⟨hu, mw_call hC₃ hx₃ hu (by show 1 ≤ sizeLine; decide) fun h' k e' => ?_⟩⟩
        exact rest h' _ _ (fun b o hb q => k b o hb (hk₃ _ _ (hk₂ _ _ q))) e'
/-- a made error -/
structure OwnMade (h h' : Heap) (e C d : Addr) (v : Value) : Prop where
  keep : ∀ b o, h.get? b = some o → h'.get? b = some o
  new : h.objs.size ≤ e
  obj : ∃ oe vs, h'.get? e = some oe ∧ oe.cls = .ref C ∧ oe.dict = some d ∧ oe.data = .fields vs ∧ vs[1]? = some .none
  dbig : h.objs.size ≤ d
  dne : d ≠ e
  ns : h'.Ns1 d (fun y => if y = "at" then some v else none)
theorem sup_made (T : SupTxt prog K mg C fI cc cd qual) {v : Value} (X : K.In s.heap) (M : L2.Mod K mg base) (kb : ∀ b o, base.get? b = some o → s.heap.get? b = some o) (hv : Shown v) (hroom : A.depth + 4 < recursionLimit)
    (hq : ∀ h' tk e d, OwnMade s.heap h' e C d v → R (.ok (.ret (.ref e))) { s with heap := h', toks := tk }) : codeAny (model prog w) A (.call (.ref C) ⟨[v], []⟩) R s := by
  obtain ⟨nm, qq, N, bs, bm, sn, sub, ab, col, dd, k0, k1, k2, k3, k5, hC, hbm⟩ := T.cls
  obtain ⟨hp, g, dr, tk, os⟩ := s
  have k : ∀ b o, hp.get? b = some o → ((hp.push (kdv_tup [v])).push (excO C hp.objs.size)).get? b = some o := fun b o e => Heap.get?_push_of_some _ (Heap.get?_push_of_some _ e)
  have hget : ((hp.push (kdv_tup [v])).push (excO C hp.objs.size)).get? (hp.objs.size + 1) = some (excO C hp.objs.size) := by heap_get
  have hnx : ∀ t, K.lookup (hp.objs.size + 1) ≠ some (excO C t) := fun t e => by
    have z : hp.get? (hp.objs.size + 1) = some (excO C t) := X _ _ e
    exact absurd (Nat.lt_of_succ_lt (Heap.lt_size z)) (Nat.lt_irrefl _)
  refine call_own F.excBase_ValueError (fun X => refsVE_contains X bm hbm) (X _ _ hC) (looks_findIn X T.iC) (fun self => bind_fn X self T.tI) (by show 1 ≤ sizeLine; decide) ?_
  refine sup_init (s := ⟨(hp.push (kdv_tup [v])).push (excO C hp.objs.size), g, dr, tk, os⟩) T (X.keeps k) M (fun b o e => k b o (kb b o e)) hget hnx hv ?_ fun h' tk' dx t1 ⟨k', hx, dn, dne, hns⟩ => ?_
  · show A.depth + 1 + 3 < recursionLimit
    omega
  · have old : ∀ b o, hp.get? b = some o → h'.get? b = some o := fun b o e => k' b o (Nat.ne_of_lt (Nat.lt_succ_of_lt (Heap.lt_size e))) (k b o e)
    have z : hp.objs.size + 1 + 1 ≤ dx := by
      first
        | exact dn
        | (simpa only [Heap.size_push] using dn)
        | (have q := dn; rw [Heap.size_push, Heap.size_push] at q; exact q)
    exact ⟨rfl, hq h' tk' (hp.objs.size + 1) dx ⟨old, Nat.le_succ _, ⟨_, _, hx, rfl, rfl, rfl, rfl⟩, Nat.le_trans (Nat.le_trans (Nat.le_succ _) (Nat.le_succ _)) z, dne, hns⟩⟩
end
end Kst
set_option maxHeartbeats 4000000
namespace Kw
open PySem PySem.Spec PyProof.Rows L2 LamX
theorem ShownV.valT {v : V} {u : Value} (h : ShownV v) (r : RelV v u) : Kst.Shown u := by
  rcases h with rfl | ⟨i, rfl, hi⟩
  · exact .inl r
  · obtain ⟨t, rfl⟩ := r
    exact .inr ⟨i, t, rfl, hi⟩
section
variable {X : Cx} {C fI cc cd : Addr} {qual : Str}
theorem pmk_supT {x : Str} {a : Expr} {ta : TA} {p pos : Pos} {k : Nat} (T : Kst.SupTxt X.prog X.K X.mg C fI cc cd qual) (gC : X.mg x = some (.ref C)) (kC : PySem.W.keepIn X.K (.ref C) = true) (rC : Raises X (.ref C)) (hr : Room k X.A) (ha : PA X [a] ta) (hg : Gl X x := by rfl)
    (hdb : (x == ("__debug__" : Str)) = false := by decide) (he : starEach (a :: []) X.env = (false, eval a X.env) :: starEach [] X.env := by rfl) (hpl : (backTo pos (starEach [] X.env)).any (·.1) = false := by rfl) :
    PMk X (.Call (.Name x p) [a] [] pos) (tMkSup C ta) := by
  intro pins s σ H Q I h
  refine wpAny_Call_Name_kw (ld_glob I hg gC ?_ hdb)
  refine PySem.W.callWith_K (h₀ := X.base) I.ok.mod.kin kC (thn (ha.run pos pins s σ H _ I h) fun us s1 hh => ?_) he hpl
  obtain ⟨vs, H1, I1, r1, v, ev, sv, q1⟩ := hh
  subst ev
  refine ⟨I1.kIn, ?_⟩
  obtain ⟨u, rfl, rv⟩ := vals1 r1
  show wpAny _ _ (call (.ref C) [u]) _ _ _
  have kb := I1.bk
  have kin := I1.kIn
  obtain ⟨hp, g, dr, tk, os⟩ := s1
  refine wpAny_call (Kst.sup_made T kin I1.mod kb (sv.valT rv) (by have := hr.dp; omega) fun h' tk' e d M => ?_)
  show MkP X pins σ Q (.ref e) ⟨h', g, dr, tk', os⟩
  obtain ⟨oe, fv, hoe, hc, hd, hdat, h1⟩ := M.obj
  obtain ⟨G', g1, g2⟩ := restrict h' fun b => decide (b ≠ e)
  have gk : ∀ b, b ≠ e → G'.get? b = h'.get? b := fun b hb => g1 b (decide_eq_true hb)
  have ge : G'.get? e = none := g2 e (by simp)
  have old : ∀ b o, hp.get? b = some o → G'.get? b = some o := fun b o q => (gk b (Nat.ne_of_lt (Nat.lt_of_lt_of_le (Heap.lt_size q) M.new))).trans (M.keep b o q)
  have ob : ObjOk X.prog X.w (upd H1 d (.xd [(("at" : Str), v)])) G' d (.xd [(("at" : Str), v)]) := ⟨_, M.ns.at (fun o q => (gk d M.dne).trans q), fun f => relO_at rv f⟩
  have J : Inv X pins σ (upd H1 d (.xd [(("at" : Str), v)])) ⟨G', g, dr, tk', os⟩ := I1.laid (t' := tk') old M.dbig ob
  refine ⟨e, oe, fv, ⟨G', g, dr, tk', os⟩, _, .ref C, some d, rfl, J, fun b o q => ?_, ge, hoe, ⟨hc, hd⟩, hdat, h1, ?_, rfl, I1.bare, rC, q1 d (I1.hok.fresh M.dbig)⟩
  · by_cases hb : b = e
    · have q' : G'.get? b = some o := q
      rw [hb, ge] at q'; cases q'
    · exact (gk b hb).symm.trans q
  · rw [upd_ne (Ne.symm M.dne)]
    exact I1.hok.fresh M.new
theorem ps_raiseSupT {x : Str} {a : Expr} {ta : TA} {W : WX} {p pos pos2 : Pos} {k : Nat} (hc : X.calm = true) (T : Kst.SupTxt X.prog X.K X.mg C fI cc cd qual) (gC : X.mg x = some (.ref C)) (kC : PySem.W.keepIn X.K (.ref C) = true) (rC : Raises X (.ref C)) (hr : Room k X.A) (tk : Takes X W) (ha : PA X [a] ta) (hg : Gl X x := by rfl)
    (hdb : (x == ("__debug__" : Str)) = false := by decide) (he : starEach (a :: []) X.env = (false, eval a X.env) :: starEach [] X.env := by rfl) (hpl : (backTo pos (starEach [] X.env)).any (·.1) = false := by rfl) :
    PS X (.Raise (some (.Call (.Name x p) [a] [] pos)) none pos2) (tRaiseSup C W ta) := ps_raise hc tk (pmk_supT T gC kC rC hr ha hg hdb he hpl)
end
/-- BadText, at C -/
structure TxtErr (P : Program) (K : PySem.W.Frag) (mg : Str → Option Value) (x : Str) (C : Addr) : Prop where
  ex : ∃ (fI cc cd : Addr) (qual : Str), Kst.SupTxt P K mg C fI cc cd qual
  gC : mg x = some (.ref C)
  kC : PySem.W.keepIn K (.ref C) = true
  sub : PySem.W.subIn K (.ref C) (.type "BaseException") = some true
  ty : PySem.W.typeIn K (.ref C) = some (.type "type")
section
variable {X : Cx}
theorem ps_raiseT {x : Str} {a : Expr} {ta : TA} {W : WX} {p pos pos2 : Pos} {k : Nat} {C : Addr} (O : TxtErr X.prog X.K X.mg x C) (hc : X.calm = true) (hr : Room k X.A) (tk : Takes X W) (ha : PA X [a] ta) (hg : Gl X x := by rfl)
    (hdb : (x == ("__debug__" : Str)) = false := by decide) (he : starEach (a :: []) X.env = (false, eval a X.env) :: starEach [] X.env := by rfl) (hpl : (backTo pos (starEach [] X.env)).any (·.1) = false := by rfl) :
    PS X (.Raise (some (.Call (.Name x p) [a] [] pos)) none pos2) (tRaiseSup C W ta) := by
  obtain ⟨fI, cc, cd, qual, T⟩ := O.ex
  exact ps_raiseSupT hc T O.gC O.kC (raises_own O.sub O.ty) hr tk ha hg hdb he hpl
end
end Kw
set_option maxHeartbeats 4000000
namespace Kw
open PySem PySem.Spec PyProof.Rows L2 LamX SX
/-! ### any words: counts, parts -/
abbrev sIsCnt : Stmt := top 57
abbrev sIsPrt : Stmt := top 58
def digB (c : Nat) : Bool := decide (48 ≤ c) && decide (c ≤ 57)
def isCnt (w : List Nat) : Bool := (!w.isEmpty && w.all digB) && (decide (w = [48]) || decide (w.head? ≠ some 48))
def pcs (w : List Nat) : List (List Nat) := TL.spl [46] 0 [] w
def isPrt (w : List Nat) : Bool := decide ((pcs w).length ≤ 3) && (pcs w).all isCnt
def numsW (w : List Nat) : List Nat := (pcs w).map NumText.digitsVal
theorem spl_bd (s : Nat) : ∀ (w acc : List Nat), (TL.spl [s] 0 acc w).length ≤ w.length + 1 ∧ TL.spl [s] 0 acc w ≠ [] ∧ ∀ p ∈ TL.spl [s] 0 acc w, p.length ≤ acc.length + w.length
  | [], acc => by
    rw [TL.spl_nil]
    exact ⟨by simp, by simp, fun p hp => by rw [List.mem_singleton.mp hp]; simp⟩
  | c :: r, acc => by
    cases h : TL.pre [s] (c :: r) with
    | true =>
      rw [TL.spl_hit h]
      obtain ⟨h1, h2, h3⟩ := spl_bd s r []
      show (acc :: TL.spl [s] 0 [] r).length ≤ _ ∧ _
      refine ⟨by simp only [List.length_cons]; omega, by simp, fun p hp => ?_⟩
      rcases List.mem_cons.mp hp with rfl | hp
      · omega
      · have := h3 p hp
        simp only [List.length_nil, List.length_cons] at this ⊢
        omega
    | false =>
      rw [TL.spl_miss h]
      obtain ⟨h1, h2, h3⟩ := spl_bd s r (acc ++ [c])
      refine ⟨by simp only [List.length_cons]; omega, h2, fun p hp => ?_⟩
      have := h3 p hp
      simp only [List.length_append, List.length_cons, List.length_nil] at this ⊢
      omega
theorem pcs_bd (w : List Nat) : (pcs w).length ≤ w.length + 1 ∧ pcs w ≠ [] ∧ ∀ p ∈ pcs w, p.length ≤ w.length := by
  obtain ⟨h1, h2, h3⟩ := spl_bd 46 w []
  exact ⟨h1, h2, fun p hp => by have := h3 p hp; simpa using this⟩
theorem nums_len {w : List Nat} (h : isPrt w = true) : PLen (numsW w) := by
  unfold isPrt at h
  simp only [Bool.and_eq_true, decide_eq_true_eq] at h
  have ne := (pcs_bd w).2.1
  refine ⟨?_, ?_⟩
  · unfold numsW
    rw [List.length_map]
    exact List.length_pos_iff.mpr ne
  · unfold numsW
    rw [List.length_map]
    exact h.1
theorem dig_in (c : Nat) : decide (c ∈ (("0123456789" : Str)).cps.toList) = digB c := by
  have e : (("0123456789" : Str)).cps.toList = [48, 49, 50, 51, 52, 53, 54, 55, 56, 57] := by decide +kernel
  rw [e]
  unfold digB
  rw [← Bool.decide_and]
  refine decide_eq_decide.mpr ?_
  simp only [List.mem_cons, List.not_mem_nil, or_false]
  omega
theorem str_is (w z : List Nat) : decide (V.str (S w) = V.str (S z)) = decide (w = z) := decide_eq_decide.mpr ⟨fun e => S_inj (V.str.inj e), fun e => by rw [e]⟩
/-- word == "0" or word[0] != "0" -/
theorem zero_or {σ : L2.St} {H : Hp} {w : List Nat} {Q : VK} (h0 : σ[0]? = some (some (.str (S w)))) (ne : w ≠ []) (q : Q (.bl (decide (w = [48]) || decide (w.head? ≠ some 48))) H) (lw : w.length ≤ 1000) :
    tOrV (tOp rEq (tVar 0) (tC (.str "0"))) (tOp rNe (tOp rIxS (tVar 0) (tC (.int 0))) (tC (.str "0"))) σ H Q := by
  refine ⟨_, h0, rfl, _, rfl, ?_⟩
  rw [str_0, str_is]
  by_cases c : w = [48]
  · rw [decide_eq_true c] at q ⊢
    exact iteT (by simpa using q)
  · rw [decide_eq_false c] at q ⊢
    cases w with
    | nil => exact absurd rfl ne
    | cons a r =>
      refine iteF ⟨_, h0, S (a :: r), 0, a, rfl, rfl, ?_, by simp [atI, L2.ixN], rfl, ?_⟩
      · rw [S_len, sizeLine_eq]
        omega
      · rw [show (V.str ⟨#[a]⟩) = V.str (S [a]) from rfl, str_is]
        have e : (!decide ([a] = [48])) = (false || decide ((a :: r).head? ≠ some 48)) := by
          simp
        rw [e]
        exact q
end Kw
set_option maxHeartbeats 4000000
namespace Kw
open PySem PySem.Spec PyProof.Rows L2 LamX SX
/-! ### lists of texts as data -/
abbrev strD' (ws : List (List Nat)) : List PyData := ws.map fun w => PyData.str (S w)
theorem dp_txts {K : PySem.W.Frag} {H : Hp} : ∀ ws : List (List Nat), DpAll K H (strL ws) (strD' ws)
  | [] => .nil
  | w :: ws => .cons (.str _) (dp_txts ws)
def smallW (ws : List (List Nat)) : Prop := ∀ w ∈ ws, ∀ c ∈ w, c < 128
theorem cl_txts : ∀ ws : List (List Nat), smallW ws → PyData.canLayAll0 (strD' ws) = true
  | [], _ => by simp [PyData.canLayAll0]
  | w :: ws, h => by
    have z : PyData.strOk (S w) = true := by
      unfold PyData.strOk
      rw [Array.all_eq_true']
      intro c hc
      have := h w List.mem_cons_self c (by simpa using hc)
      simp
      omega
    show PyData.canLayAll0 (PyData.str (S w) :: strD' ws) = true
    unfold PyData.canLayAll0
    rw [cl_txts ws fun v hv => h v (List.mem_cons_of_mem _ hv)]
    unfold PyData.canLay0
    rw [z]
    rfl
theorem dep_txts : ∀ ws : List (List Nat), PyData.depthAll (strD' ws) ≤ 1
  | [] => by simp [PyData.depthAll]
  | w :: ws => by
    have := dep_txts ws
    simp [PyData.depthAll, PyData.depth]
    try omega
theorem shaped_txts {ws : List (List Nat)} (h : smallW ws) : SeqAt.shaped (.list (strD' ws)) = true := by
  have h1 := cl_txts ws h
  have h2 := dep_txts ws
  simp only [SeqAt.shaped, PyData.canLay0, PyData.depth, h1, Bool.true_and]
  exact decide_eq_true (by omega)
theorem eqv_nilS (ws : List (List Nat)) : PyData.eqv (.list (strD' ws)) (.list []) = ws.isEmpty := by
  cases ws with
  | nil => simp [PyData.eqv, PyData.eqvAll]
  | cons n ns => simp [PyData.eqv, PyData.eqvAll]
theorem partL_small {ps : List Nat} : ∀ c ∈ partL ps, c < 128 := by
  have num : ∀ n : Nat, ∀ c ∈ TL.numL n, c < 128 := fun n c hc => by
    have := TL.numL_digits n c hc
    omega
  have : ∀ l : List Nat, ∀ c ∈ TL.joinL [46] (l.map TL.numL), c < 128 := by
    intro l
    induction l with
    | nil => intro c hc; simp [TL.joinL] at hc
    | cons x l ih =>
      intro c hc
      cases l with
      | nil => simp [TL.joinL] at hc; exact num x c hc
      | cons y l =>
        simp [TL.joinL] at hc
        rcases hc with hc | rfl | hc
        · exact num x c hc
        · decide
        · exact ih c (by simpa [TL.joinL] using hc)
  exact this ps
theorem termL_small {t : TermT} : ∀ c ∈ termL t, c < 128 := fun c h => by
  obtain ⟨sg, ps⟩ := t
  have p := fun c hc => partL_small (ps := ps) c hc
  cases sg <;> simp [termL, Sg.txt] at h
  case star => omega
  case none => exact p c h
  all_goals
    rcases h with h | h
    · omega
    · first
      | exact p c h
      | (rcases h with h | h
         · omega
         · exact p c h)
theorem choice_small (c : ChT) : smallW c.words := fun w h => by
  cases c with
  | dash a b =>
    simp [ChT.words] at h
    rcases h with rfl | rfl | rfl
    · exact partL_small
    · intro c hc
      simp at hc
      omega
    · exact partL_small
  | terms t ts =>
    simp only [ChT.words, List.mem_cons, List.mem_map] at h
    rcases h with rfl | ⟨u, _, rfl⟩ <;> exact termL_small
theorem tail_small : ∀ cs : List ChT, smallW (tailC cs)
  | [] => fun w h => nomatch h
  | c :: cs => fun w h => by
    rcases List.mem_cons.mp h with rfl | h
    · intro c hc
      simp at hc
      omega
    · rcases List.mem_append.mp h with h | h
      · exact choice_small c w h
      · exact tail_small cs w h
theorem words_small (cs : List ChT) : smallW (wordsL cs) := fun w h => by
  cases cs with
  | nil => exact nomatch h
  | cons c cs => exact tail_small (c :: cs) w (List.mem_cons_of_mem _ h)
theorem eqv_same {ws : List (List Nat)} (h : smallW ws) : PyData.eqv (.list (strD' ws)) (.list (strD' ws)) = true := PySem.SeqAt.eqv_refl _ (by
  unfold PyData.canLay0
  exact cl_txts ws h)
theorem eqvAll_txts : ∀ ws us : List (List Nat), PyData.eqvAll (strD' ws) (strD' us) = decide (ws = us)
  | [], [] => by simp [PyData.eqvAll]
  | [], u :: us => by simp [PyData.eqvAll]
  | w :: ws, [] => by simp [PyData.eqvAll]
  | w :: ws, u :: us => by
    have ih := eqvAll_txts ws us
    show PyData.eqvAll (PyData.str (S w) :: strD' ws) (PyData.str (S u) :: strD' us) = _
    simp only [PyData.eqvAll, PyData.eqv, ih, List.cons.injEq]
    rw [Bool.eq_iff_iff]
    simp only [Bool.and_eq_true, decide_eq_true_eq, beq_iff_eq]
    exact ⟨fun h => ⟨S_inj h.1, h.2⟩, fun h => ⟨by rw [h.1], h.2⟩⟩
theorem eqv_txts (ws us : List (List Nat)) : PyData.eqv (.list (strD' ws)) (.list (strD' us)) = decide (ws = us) := by
  rw [← eqvAll_txts]
  simp [PyData.eqv]
end Kw
set_option maxHeartbeats 4000000
namespace Kw
open PySem PySem.Spec PyProof.Rows L2 LamX SX
abbrev smT (w : List Nat) : Prop := ∀ c ∈ w, c < 128
abbrev rNotS : R2 := fun x y H Q => ∃ (c : Nat) (z : Str), x = .str ⟨#[c]⟩ ∧ y = .str z ∧ Q (.bl (!decide (c ∈ z.cps.toList))) H
def spCnt : Sp := fun vs H Q _ => ∃ w : List Nat, vs = [.str (S w)] ∧ w.length ≤ 900 ∧ smT w ∧ ∀ H', Same H H' → Q (.bl (isCnt w)) H'
/-- a part's numbers, or None -/
def spPrt (K : PySem.W.Frag) : Sp := fun vs H Q _ => ∃ w : List Nat, vs = [.str (S w)] ∧ w.length ≤ 600 ∧ smT w ∧ (isPrt w = true → ∀ H' p, Same H H' → SqT K H' p (tupN (numsW w)) → Q (.ref p) H') ∧ (isPrt w = false → ∀ H', Same H H' → Q .non H')
def spPrtB : Sp := fun vs H Q _ => ∃ w : List Nat, vs = [.str (S w)] ∧ w.length ≤ 600 ∧ smT w ∧ ∀ H', Same H H' → Q (.bl (isPrt w)) H'
theorem scIsCnt : FnScope ["_law_word", "_law_sign"] ["_law_word"] (defScope sIsCnt) := ⟨rfl, rfl, rfl, by decide +kernel, rfl, by decide +kernel, by decide +kernel⟩
theorem scIsPrt : FnScope ["_law_word", "_law_words", "_law_one"] ["_law_word"] (defScope sIsPrt) := ⟨rfl, rfl, rfl, by decide +kernel, rfl, by decide +kernel, by decide +kernel⟩
theorem cnt_false {w : List Nat} (h : (!w.isEmpty && w.all digB) = false) : isCnt w = false := by
  unfold isCnt
  rw [h, Bool.false_and]
theorem cnt_true {w : List Nat} (h : (!w.isEmpty && w.all digB) = true) : isCnt w = (decide (w = [48]) || decide (w.head? ≠ some 48)) := by
  unfold isCnt
  rw [h, Bool.true_and]
theorem all_take {α : Type} (f : α → Bool) (l : List α) : ((l.map f).all id) = l.all f := by
  induction l with
  | nil => rfl
  | cons a l ih => simp only [List.map_cons, List.all_cons, ih, id]
section
variable {P : Program} {w : World} {K : PySem.W.Frag} {mg : Str → Option Value} {base : Heap}
theorem ok_numB {f : Addr} {fd : FuncData} {k : Nat} {tD : Tok} (F : Fun K "is_numeral" "is_numeral" sNumeral f fd) (ma : mg "all" = none) (mD : mg "DIGITS" = some (.str "0123456789" tD)) : FnOk P w K mg base CX0 (k + 1) f fd ["word"] spCnt := by
  refine F.ok scNumeral (fun vs H Q E h => ?_) (fun cdv A outer s H vs Q E hr h => ?_)
  · obtain ⟨w, rfl, _⟩ := h
    rfl
  · obtain ⟨w, rfl, lw, sm, q⟩ := h
    refine' ⟨_, pss_cons ?s1 (pss_one ?s2), ?_⟩
    case s1 => exact ps_if (PW.pt (pw_or (pt_cmpR op_eq (pv 0) pe_str (nomark _)) (pw_or1 (pt_not (pt_val (pe_callB (cr_all rfl) (by rfl) ma (by decide +kernel) (pa_cons (pe_lc (own := [("letter", 1)]) (g := gName 1) (tt := tYes) rfl scNumeral.nd (pi_str (pv 0)) (blkOk_by (N := ["word", "letter"]) (sc := defScope sNumeral) (by decide +kernel))
        (fun _ _ _ _ _ => pg_name (i := 1) scNumeral.nd rfl (Or.inl rfl)) (fun _ _ _ _ _ => pts_nil) (fun _ _ _ _ _ => pe_cmpR op_in_sign (pv 1) (pe_glob (v := .str "0123456789") (by rfl) mD ⟨tD, rfl⟩) rfl)) pa_nil))))))) (pss_one (ps_ret pe_bl)) pss_nil
    case s2 => exact ps_ret (pe_or (pe_cmpR op_eq (pv 0) pe_str (nomark _)) (pe_one (pe_cmpR op_ne (pe_ix (r := rIxS) ix_str (pv 0) pe_int (fun _ _ => rfl)) pe_str (nomark _))))
    have sz : (S w).cps.size = w.length := by simp
    dsimp only [tSeq, tAsg, tRet, tIfS, gName]
    refine ⟨_, rfl, rfl, _, rfl, ?_⟩
    rw [str_e, str_is]
    by_cases ne : w = []
    · rw [decide_eq_true ne]
      have q := q H (Same.refl H)
      rw [cnt_false (by rw [ne]; rfl)] at q
      exact iteT (iteT q)
    rw [decide_eq_false ne]
    refine iteF ⟨_, rfl, _, rfl, fun D hD => ?_⟩
    refine lc_it (walk_str (z := S w)) (fun i H' => Same H H' ∧ H' D = some (.lst (((w.take i).map digB).map V.bl))) ⟨same_upd hD, upd_same⟩ (fun _ _ _ _ => trivial) ?_ ?_
    · rintro i H' x H'' hi ⟨s1, h1⟩ ⟨rfl, c, hc, rfl⟩
      have mc : w[i]? = some c := by simpa using hc
      refine ⟨rfl, yesI ⟨_, rfl, c, _, rfl, rfl, ?_⟩⟩
      rw [dig_in]
      refine ⟨_, h1, ?_, fun b o y => by rw [upd_ne (ne_of_none y hD)]; exact s1 _ _ y, ?_⟩
      · rw [List.length_map, List.length_map, List.length_take]
        exact small1000 (by omega)
      · rw [upd_same, take_snoc mc]
        simp
    · rintro H' ⟨s1, h1⟩
      rw [sz, List.take_length] at h1
      refine ⟨D, w.map digB, rfl, SqL.of h1, ?_⟩
      rw [all_take]
      refine ⟨_, rfl, ?_⟩
      have e1 : (!w.isEmpty && w.all digB) = w.all digB := by
        cases w with
        | nil => exact absurd rfl ne
        | cons a r => simp
      cases d : w.all digB with
      | false =>
        have q := q H' s1
        rw [cnt_false (by rw [e1, d])] at q
        exact iteT q
      | true =>
        have q := q H' s1
        rw [cnt_true (by rw [e1, d])] at q
        exact iteF (zero_or rfl ne q (by omega))
theorem ok_isCnt {f : Addr} {fd : FuncData} {k : Nat} (F : Fun K "_law_is_count" "_law_is_count" sIsCnt f fd) : FnOk P w K mg base CX0 (k + 1) f fd ["_law_word"] spCnt := by
  refine F.ok scIsCnt (fun vs H Q E h => ?_) (fun cdv A outer s H vs Q E hr h => ?_)
  · obtain ⟨w, rfl, _⟩ := h
    rfl
  · obtain ⟨w, rfl, lw, sm, q⟩ := h
    refine' ⟨_, pss_cons ?s1 (pss_one ?s2), ?_⟩
    case s1 => exact ps_if (PW.pt (pw_or (pt_cmpR op_eq (pv 0) pe_str (nomark _)) (pw_or1 (pt_cmpR (op_neD hr.units) (pe_lc (own := [("_law_sign", 1)]) (g := gName 1) (te := tVar 1) (tt := tTest (tOp rNotS (tVar 1) (tC (.str "0123456789")))) rfl scIsCnt.nd (pi_str (pv 0)) (blkOk_by (N := ["_law_word", "_law_sign"]) (sc := defScope sIsCnt) (by decide +kernel))
        (fun _ _ _ _ _ => pg_name (i := 1) scIsCnt.nd rfl (Or.inl rfl)) (fun _ _ _ _ _ => pts_one (pt_cmpR op_notIn_sign (pv 1) pe_str rfl)) (fun _ _ _ _ _ => pv 1)) (pe_lst pa_nil) (nomark _))))) (pss_one (ps_ret pe_bl)) pss_nil
    case s2 => exact ps_ret (pe_or (pe_cmpR op_eq (pv 0) pe_str (nomark _)) (pe_one (pe_cmpR op_ne (pe_ix (r := rIxS) ix_str (pv 0) pe_int (fun _ _ => rfl)) pe_str (nomark _))))
    have sz : (S w).cps.size = w.length := by simp
    dsimp only [tSeq, tAsg, tRet, tIfS, gName]
    refine ⟨_, rfl, rfl, _, rfl, ?_⟩
    rw [str_e, str_is]
    by_cases ne : w = []
    · rw [decide_eq_true ne]
      have q := q H (Same.refl H)
      rw [cnt_false (by rw [ne]; rfl)] at q
      exact iteT (iteT q)
    rw [decide_eq_false ne]
    refine iteF ⟨_, rfl, _, rfl, fun D hD => ?_⟩
    refine lc_it (walk_str (z := S w)) (fun i H' => Same H H' ∧ H' D = some (.lst (strL (((w.take i).filter fun c => !digB c).map fun c => [c])))) ⟨same_upd hD, upd_same⟩ (fun _ _ _ _ => trivial) ?_ ?_
    · rintro i H' x H'' hi ⟨s1, h1⟩ ⟨rfl, c, hc, rfl⟩
      have mc : w[i]? = some c := by simpa using hc
      refine ⟨rfl, _, rfl, c, _, rfl, rfl, _, rfl, ?_⟩
      rw [dig_in, take_snoc mc, List.filter_append, List.map_append]
      cases d : digB c with
      | true =>
        refine iteF ⟨s1, ?_⟩
        rw [show [c].filter (fun c => !digB c) = [] by simp [List.filter, d]]
        simpa using h1
      | false =>
        refine iteT ⟨_, rfl, _, h1, ?_, fun b o y => by rw [upd_ne (ne_of_none y hD)]; exact s1 _ _ y, ?_⟩
        · rw [List.length_map, List.length_map]
          have := List.length_filter_le (fun c => !digB c) (w.take i)
          rw [List.length_take] at this
          exact small1000 (by omega)
        · rw [upd_same, show [c].filter (fun c => !digB c) = [c] by simp [List.filter, d]]
          simp [strL]
    · rintro H' ⟨s1, h1⟩
      rw [sz, List.take_length] at h1
      refine ⟨Nat.zero_le _, fun l hl => ?_⟩
      have k2 := same_upd (o := .lst []) hl
      have smw : smallW ((w.filter fun c => !digB c).map fun c => [c]) := fun u hu c hc => by
        obtain ⟨d, hd, rfl⟩ := List.mem_map.mp hu
        rw [List.mem_singleton.mp hc]
        exact sm d (List.mem_filter.mp hd).1
      refine ⟨_, _, .lst (SqL.of (k2 _ _ h1)) (dp_txts _), .lst (SqL.of upd_same) .nil, shaped_txts smw, shaped_nil, _, rfl, ?_⟩
      rw [eqv_nilS]
      have e1 : (!w.isEmpty && w.all digB) = w.all digB := by
        cases w with
        | nil => exact absurd rfl ne
        | cons a r => simp
      have e2 : (((w.filter fun c => !digB c).map fun c => [c]).isEmpty) = w.all digB := by
        rw [Bool.eq_iff_iff]
        simp [List.filter_eq_nil_iff]
      rw [e2]
      cases d : w.all digB with
      | false =>
        have q := q _ (s1.trans k2)
        rw [cnt_false (by rw [e1, d])] at q
        exact iteT q
      | true =>
        have q := q _ (s1.trans k2)
        rw [cnt_true (by rw [e1, d])] at q
        exact iteF (zero_or rfl ne q (by omega))
end
end Kw
set_option maxHeartbeats 4000000
namespace Kw
open PySem PySem.Spec PyProof.Rows L2 LamX SX
/-! ### parts of any words -/
theorem spl_small (s : Nat) : ∀ (w acc : List Nat), smT w → smT acc → ∀ p ∈ TL.spl [s] 0 acc w, smT p
  | [], acc, _, ha, p, hp => by
    rw [TL.spl_nil, List.mem_singleton] at hp
    rw [hp]
    exact ha
  | c :: r, acc, hw, ha, p, hp => by
    have hr : smT r := fun d hd => hw d (List.mem_cons_of_mem _ hd)
    cases h : TL.pre [s] (c :: r) with
    | true =>
      rw [TL.spl_hit h] at hp
      rcases List.mem_cons.mp hp with rfl | hp
      · exact ha
      · exact spl_small s r [] hr (fun d hd => nomatch hd) p hp
    | false =>
      rw [TL.spl_miss h] at hp
      refine spl_small s r (acc ++ [c]) hr (fun d hd => ?_) p hp
      rcases List.mem_append.mp hd with hd | hd
      · exact ha d hd
      · rw [List.mem_singleton.mp hd]
        exact hw c (by simp)
theorem pcs_small {w : List Nat} (h : smT w) : ∀ p ∈ pcs w, smT p := spl_small 46 w [] h fun d hd => nomatch hd
theorem pcs_split (w : List Nat) : Txt.split (S w) (S [46]) = (pcs w).map S := split_S (by decide) (by decide)
theorem cnt_digs {p : List Nat} (h : isCnt p = true) : p ≠ [] ∧ p.all (fun c => decide (48 ≤ c) && decide (c ≤ 57)) = true := by
  unfold isCnt at h
  simp only [Bool.and_eq_true] at h
  obtain ⟨⟨h1, h2⟩, _⟩ := h
  refine ⟨fun e => ?_, h2⟩
  rw [e] at h1
  cases h1
theorem prt_iff {w : List Nat} : isPrt w = (decide ((pcs w).length ≤ 3) && (pcs w).all isCnt) := rfl
section
variable {P : Program} {w : World} {K : PySem.W.Frag} {mg : Str → Option Value} {base : Heap}
theorem ok_prtN {f : Addr} {fd : FuncData} {k : Nat} (F : Fun K "part_numbers" "part_numbers" sPartN f fd) (ma : mg "all" = none) (ml : mg "len" = none) (mt : mg "tuple" = none) (mi : mg "int" = none) (DN : Def P w K mg base "is_numeral" CX0 k ["word"] spCnt) : FnOk P w K mg base CX0 (k + 1) f fd ["word"] (spPrt K) := by
  refine F.ok scPartN (fun vs H Q E h => ?_) (fun cdv A outer s H vs Q E hr h => ?_)
  · obtain ⟨w, rfl, _⟩ := h
    rfl
  · obtain ⟨w, rfl, lw, sm, q1, q2⟩ := h
    refine' ⟨_, pss_cons ?s1 (pss_cons ?s2 (pss_one ?s3)), ?_⟩
    case s1 => exact ps_set (i := 1) scPartN.nd rfl (.inl rfl) (pe_split (pv 0) pe_str)
    case s2 => exact ps_if (PW.pt (pw_or (pt_cmpR op_gt (pe_callB call_len_seq (by rfl) ml PySem.boot_len (pa_cons (pv 1) pa_nil)) pe_int (nomark _)) (pw_or1 (pt_not (pt_val (pe_callB (cr_all rfl) (by rfl) ma (by decide +kernel) (pa_cons (pe_lc (own := [("piece", 2)]) (g := gName 2) (tt := tYes) rfl scPartN.nd (pi_list (pv 1)) (blkOk_by (N := ["word", "pieces", "piece"]) (sc := defScope sPartN) (by decide +kernel))
        (fun _ _ _ _ _ => pg_name (i := 2) scPartN.nd rfl (Or.inl rfl)) (fun _ _ _ _ _ => pts_nil) (fun _ _ _ _ _ => pe_d DN hr (pa_cons (pv 2) pa_nil))) pa_nil))))))) (pss_one (ps_ret pe_non)) pss_nil
    case s3 => exact ps_ret (pe_callTy call_tuple_of (by rfl) mt (by decide +kernel) (pa_cons (pe_lc (own := [("piece", 2)]) (g := gName 2) (tt := tYes) rfl scPartN.nd (pi_list (pv 1)) (blkOk_by (N := ["word", "pieces", "piece"]) (sc := defScope sPartN) (by decide +kernel))
        (fun _ _ _ _ _ => pg_name (i := 2) scPartN.nd rfl (Or.inl rfl)) (fun _ _ _ _ _ => pts_nil) (fun _ _ _ _ _ => pe_callTy call_int_str (by rfl) mi (by decide +kernel) (pa_cons (pv 2) pa_nil))) pa_nil))
    obtain ⟨b1, b2, b3⟩ := pcs_bd w
    dsimp only [tSeq, tAsg, tRet, tIfS, gName]
    refine ⟨_, rfl, ⟨_, rfl⟩, S w, ".", rfl, rfl, by decide, ?_, fun p hp => ?_⟩
    · rw [S_len, sizeLine_eq]
      omega
    have k1 := same_upd (o := .lst ((Txt.split (S w) ".").map V.str)) hp
    have at1 : upd H p (.lst ((Txt.split (S w) ".").map V.str)) p = some (.lst (strL (pcs w))) := by
      rw [upd_same, str_d, pcs_split]
      simp [strL]
    generalize upd H p (.lst ((Txt.split (S w) ".").map V.str)) = H1 at k1 at1 ⊢
    refine ⟨_, rfl, p, strL (pcs w), rfl, .inl (SqL.of at1), _, 3, rfl, rfl, _, rfl, ?_⟩
    have c1 : decide (((strL (pcs w)).length : Int) > 3) = !decide ((pcs w).length ≤ 3) := by
      rw [List.length_map]
      by_cases c : (pcs w).length ≤ 3
      · rw [decide_eq_true c, decide_eq_false (by omega)]
        rfl
      · rw [decide_eq_false c, decide_eq_true (by omega)]
        rfl
    rw [c1]
    by_cases c : (pcs w).length ≤ 3
    case neg =>
      rw [decide_eq_false c]
      exact iteT (iteT (q2 (by rw [prt_iff, decide_eq_false c]; rfl) H1 k1))
    rw [decide_eq_true c]
    refine iteF ⟨_, rfl, p, rfl, ⟨_, SqL.of at1⟩, fun D hD => ?_⟩
    refine lc_list (K := K) (a := p) (xs := strL (pcs w)) (fun i H' => Same H1 H' ∧ H' D = some (.lst ((((pcs w).take i).map isCnt).map V.bl))) ⟨same_upd hD, upd_same⟩ (fun i H' _ R => SqL.of (R.1 _ _ at1)) ?_ ?_
    · rintro i y H' hi ⟨s1, h1⟩
      rw [List.getElem?_map] at hi
      obtain ⟨n, hn, rfl⟩ := Option.map_eq_some_iff.mp hi
      have il := (List.getElem?_eq_some_iff.mp hn).1
      have mn := List.mem_of_getElem? hn
      refine ⟨rfl, yesI ⟨_, rfl, n, rfl, by have := b3 n mn; omega, pcs_small sm n mn, fun H2 s2 => ?_⟩⟩
      refine ⟨_, s2 _ _ h1, ?_, fun b o y => by rw [upd_ne (ne_of_none y hD)]; exact s2 _ _ (s1 _ _ y), ?_⟩
      · rw [List.length_map, List.length_map, List.length_take]
        exact small1000 (by omega)
      · rw [upd_same, take_snoc hn]
        simp
    · rintro H2 ⟨s1, h1⟩
      rw [List.length_map, List.take_length] at h1
      refine ⟨D, (pcs w).map isCnt, rfl, SqL.of h1, ?_⟩
      rw [all_take]
      refine ⟨_, rfl, ?_⟩
      cases d : (pcs w).all isCnt with
      | false => exact iteT (q2 (by rw [prt_iff, d, Bool.and_false]) H2 (k1.trans s1))
      | true =>
        have yes : isPrt w = true := by rw [prt_iff, d, decide_eq_true c]; rfl
        refine iteF ⟨_, rfl, p, rfl, ⟨_, SqL.of (s1 _ _ at1)⟩, fun E hE => ?_⟩
        refine lc_list (K := K) (a := p) (xs := strL (pcs w)) (fun i H' => Same H2 H' ∧ H' E = some (.lst (tupN (((pcs w).take i).map NumText.digitsVal)))) ⟨same_upd hE, by rw [upd_same]; rfl⟩ (fun i H' _ R => SqL.of (R.1 _ _ (s1 _ _ at1))) ?_ ?_
        · rintro i y H' hi ⟨s2, h2⟩
          rw [List.getElem?_map] at hi
          obtain ⟨n, hn, rfl⟩ := Option.map_eq_some_iff.mp hi
          have mn := List.mem_of_getElem? hn
          obtain ⟨t1, t2⟩ := cnt_digs (List.all_eq_true.mp d n mn)
          have ln := b3 n mn
          refine ⟨rfl, yesI ⟨_, rfl, S n, ((NumText.digitsVal n : Nat) : Int), rfl, int_S t2 t1 (by omega), by rw [S_len]; omega, ?_⟩⟩
          refine ⟨_, h2, ?_, fun b o y => by rw [upd_ne (ne_of_none y hE)]; exact s2 _ _ y, ?_⟩
          · rw [List.length_map, List.length_map, List.length_take]
            exact small1000 (by omega)
          · rw [upd_same, take_snoc hn]
            simp [tupN]
        · rintro H3 ⟨s2, h2⟩
          rw [List.length_map, List.take_length] at h2
          refine ⟨_, _, rfl, .inl ⟨SqL.of h2, fun l hl => ?_⟩⟩
          exact q1 yes _ l ((k1.trans s1).trans (s2.trans (same_upd hl))) (.inl (.inl upd_same))
theorem ok_isPrt {f : Addr} {fd : FuncData} {k : Nat} (F : Fun K "_law_is_part" "_law_is_part" sIsPrt f fd) (ml : mg "len" = none) (DN : Def P w K mg base "_law_is_count" CX0 k ["_law_word"] spCnt) : FnOk P w K mg base CX0 (k + 1) f fd ["_law_word"] spPrtB := by
  refine F.ok scIsPrt (fun vs H Q E h => ?_) (fun cdv A outer s H vs Q E hr h => ?_)
  · obtain ⟨w, rfl, _⟩ := h
    rfl
  · obtain ⟨w, rfl, lw, sm, q⟩ := h
    refine' ⟨_, pss_cons ?s1 (pss_one ?s2), ?_⟩
    case s1 => exact ps_set (i := 1) scIsPrt.nd rfl (.inl rfl) (pe_split (pv 0) pe_str)
    case s2 => exact ps_ret (pe_and (pe_cmpR op_lt (pe_callB call_len_seq (by rfl) ml PySem.boot_len (pa_cons (pv 1) pa_nil)) pe_int (nomark _)) (pe_one (pe_cmpR (op_eqD hr.units) (pe_lc (own := [("_law_one", 2)]) (g := gName 2) (te := tC (.int 1)) (tt := tNot (tB (tCall spCnt [] E0 (tCons (tVar 2) tNil)))) rfl scIsPrt.nd (pi_list (pv 1)) (blkOk_by (N := ["_law_word", "_law_words", "_law_one"]) (sc := defScope sIsPrt) (by decide +kernel))
        (fun _ _ _ _ _ => pg_name (i := 2) scIsPrt.nd rfl (Or.inl rfl)) (fun _ _ _ _ _ => pts_one (pt_not (pt_val (pe_d DN hr (pa_cons (pv 2) pa_nil))))) (fun _ _ _ _ _ => pe_int)) (pe_lst pa_nil) (nomark _))))
    obtain ⟨b1, b2, b3⟩ := pcs_bd w
    dsimp only [tSeq, tAsg, tRet, tIfS, gName]
    refine ⟨_, rfl, ⟨_, rfl⟩, S w, ".", rfl, rfl, by decide, ?_, fun p hp => ?_⟩
    · rw [S_len, sizeLine_eq]
      omega
    have k1 := same_upd (o := .lst ((Txt.split (S w) ".").map V.str)) hp
    have at1 : upd H p (.lst ((Txt.split (S w) ".").map V.str)) p = some (.lst (strL (pcs w))) := by
      rw [upd_same, str_d, pcs_split]
      simp [strL]
    generalize upd H p (.lst ((Txt.split (S w) ".").map V.str)) = H1 at k1 at1 ⊢
    refine ⟨_, rfl, p, strL (pcs w), rfl, .inl (SqL.of at1), _, 4, rfl, rfl, _, rfl, ?_⟩
    have c1 : decide (((strL (pcs w)).length : Int) < 4) = decide ((pcs w).length ≤ 3) := by
      rw [List.length_map]
      exact decide_eq_decide.mpr (by omega)
    rw [c1]
    by_cases c : (pcs w).length ≤ 3
    case neg =>
      rw [decide_eq_false c]
      have q := q H1 k1
      rw [prt_iff, decide_eq_false c, Bool.false_and] at q
      exact iteF q
    rw [decide_eq_true c]
    refine iteT ⟨_, rfl, p, rfl, ⟨_, SqL.of at1⟩, fun D hD => ?_⟩
    refine lc_list (K := K) (a := p) (xs := strL (pcs w)) (fun i H' => Same H1 H' ∧ H' D = some (.lst ((((pcs w).take i).filter fun p => !isCnt p).map fun _ => V.int 1))) ⟨same_upd hD, upd_same⟩ (fun i H' _ R => SqL.of (R.1 _ _ at1)) ?_ ?_
    · rintro i y H' hi ⟨s1, h1⟩
      rw [List.getElem?_map] at hi
      obtain ⟨n, hn, rfl⟩ := Option.map_eq_some_iff.mp hi
      have mn := List.mem_of_getElem? hn
      have il := (List.getElem?_eq_some_iff.mp hn).1
      refine ⟨rfl, _, rfl, n, rfl, by have := b3 n mn; omega, pcs_small sm n mn, fun H2 s2 => ⟨_, rfl, ?_⟩⟩
      rw [take_snoc hn, List.filter_append, List.map_append]
      cases d : isCnt n with
      | true =>
        refine iteF ⟨s1.trans s2, ?_⟩
        rw [show [n].filter (fun p => !isCnt p) = [] by simp [List.filter, d]]
        simpa using s2 _ _ h1
      | false =>
        refine iteT ⟨_, s2 _ _ h1, ?_, fun b o y => by rw [upd_ne (ne_of_none y hD)]; exact s2 _ _ (s1 _ _ y), ?_⟩
        · rw [List.length_map]
          have := List.length_filter_le (fun p => !isCnt p) ((pcs w).take i)
          rw [List.length_take] at this
          exact small1000 (by omega)
        · rw [upd_same, show [n].filter (fun p => !isCnt p) = [n] by simp [List.filter, d]]
          simp
    · rintro H2 ⟨s1, h1⟩
      rw [List.length_map, List.take_length] at h1
      refine ⟨Nat.zero_le _, fun l hl => ?_⟩
      have k2 := same_upd (o := .lst []) hl
      have e3 : ((pcs w).filter fun p => !isCnt p).map (fun _ => V.int 1) = (((pcs w).filter fun p => !isCnt p).map fun _ => (1 : Int)).map V.int := by simp
      rw [e3] at h1
      refine ⟨_, _, .lst (SqL.of (k2 _ _ h1)) (dp_ints _), .lst (SqL.of upd_same) .nil, shaped_ints _, shaped_nil, ?_⟩
      rw [eqv_nil]
      have e2 : ((((pcs w).filter fun p => !isCnt p).map fun _ => (1 : Int)).isEmpty) = (pcs w).all isCnt := by
        rw [Bool.eq_iff_iff]
        simp [List.filter_eq_nil_iff]
      rw [e2]
      have q := q _ ((k1.trans s1).trans k2)
      rw [prt_iff, decide_eq_true c, Bool.true_and] at q
      exact q
end
end Kw
set_option maxHeartbeats 4000000
namespace Kw
open PySem PySem.Spec PyProof.Rows L2 LamX SX
/-! ### terms of any words -/
abbrev sgs8 : List Sg := [.ge, .le, .gt, .lt, .eq, .til, .car, .none]
def sgOf (w : List Nat) : Sg := (sgs8.find? fun g => startsB w g.txt).getD .none
def isTrm (w : List Nat) : Bool := decide (w = [42]) || isPrt (w.drop (sgOf w).txt.length)
theorem sg_found (w : List Nat) : sgs8.find? (fun g => startsB w g.txt) = some (sgOf w) := by
  unfold sgOf
  cases h : sgs8.find? (fun g => startsB w g.txt) with
  | some g => rfl
  | none =>
    rw [List.find?_eq_none] at h
    have := h .none (by simp)
    exact absurd (by unfold startsB; simp [Sg.txt]) this
theorem sg_starts (w : List Nat) : startsB w (sgOf w).txt = true := by
  have h := List.find?_some (sg_found w)
  exact h
theorem sg_ns (w : List Nat) : sgOf w ≠ .star := fun e => by
  have h := List.mem_of_find?_eq_some (sg_found w)
  rw [e] at h
  simp at h
theorem sg_head (w : List Nat) : (signsL.filter fun b => startsB w b).head? = some (sgOf w).txt := by
  have e : signsL = sgs8.map Sg.txt := rfl
  rw [e, List.filter_map, List.head?_map, List.head?_filter]
  have := sg_found w
  rw [show sgs8.find? ((fun b => startsB w b) ∘ Sg.txt) = some (sgOf w) from this]
  rfl
theorem sg_cut (w : List Nat) : cutS (S w) (some ((S (sgOf w).txt).length : Int)) none = S (w.drop (sgOf w).txt.length) := by
  have h := sg_starts w
  unfold startsB at h
  simp only [Bool.and_eq_true, decide_eq_true_eq, beq_iff_eq] at h
  have e : w = (sgOf w).txt ++ w.drop (sgOf w).txt.length := by
    have := (List.take_append_drop (sgOf w).txt.length w).symm
    rw [h.2] at this
    exact this
  have c := cut_S (sgOf w).txt (w.drop (sgOf w).txt.length)
  rw [← e] at c
  exact c
structure OkE (s : Str2) : Prop where
  l : okV s.1
  h : ∀ u, s.2 = some u → okV u
theorem span_okE (t : TermT) : OkE (spanT t) := by
  have o : ∀ p, okV (filledV p) := fun p => ⟨Int.natCast_nonneg _, Int.natCast_nonneg _, Int.natCast_nonneg _⟩
  have e : ∀ p, okV (endV p) := fun p => o _
  have z : okV v000 := ⟨Int.le_refl _, Int.le_refl _, Int.le_refl _⟩
  have s2 : ∀ {v u : Ver}, okV v → okV u → OkE (v, some u) := fun h1 h2 => ⟨h1, fun x hx => by
    obtain rfl := Option.some.inj hx
    exact h2⟩
  have n2 : ∀ {v : Ver}, okV v → OkE (v, none) := fun h1 => ⟨h1, fun x hx => nomatch hx⟩
  obtain ⟨sg, ps⟩ := t
  cases sg with
  | star => exact n2 z
  | none => exact s2 (o _) (e _)
  | eq => exact s2 (o _) (e _)
  | ge => exact n2 (o _)
  | gt => exact n2 (e _)
  | lt => exact s2 z (o _)
  | le => exact s2 z (e _)
  | til => exact s2 (o _) (e _)
  | car => exact s2 (o _) (e _)
/-- words of a text -/
structure OkWs (ws : List (List Nat)) : Prop where
  len : ws.length ≤ 60
  word : ∀ w ∈ ws, w.length ≤ 590 ∧ smT w
def trmAt (ws : List (List Nat)) (i : Nat) : Bool := match ws[i]? with
  | some w => isTrm w
  | none => false
def prtAt (ws : List (List Nat)) (i : Nat) : Bool := match ws[i]? with
  | some w => isPrt w
  | none => false
def spWordG (K : PySem.W.Frag) (CB : Addr) : Sp := fun vs H Q E => ∃ (a : Addr) (ws : List (List Nat)) (i : Nat), vs = [.ref a, .int i] ∧ SqL K H a (strL ws) ∧ OkWs ws ∧ i ≤ ws.length ∧
  (trmAt ws i = true → ∀ H' p s, Same H H' → IsStr K H' (.ref p) s → OkE s → Q (.ref p) H') ∧ (trmAt ws i = false → XAt E CB (.int i) H)
theorem XAt.same {E : XK} {C : Addr} {v : V} {H H' : Hp} (h : XAt E C v H) (s : Same H H') : XAt E C v H' := fun H2 d s2 hd => h H2 d (s.trans s2) hd
theorem shown_nat {i : Nat} (h : i < 1000) : ShownV (.int (i : Int)) := .inr ⟨_, rfl, log_small i h⟩
section
variable {P : Program} {w : World} {K : PySem.W.Frag} {mg : Str → Option Value} {base : Heap}
theorem ok_wordG {f Z SG CB : Addr} {fd : FuncData} {k : Nat} (F : Fun K "word_span" "word_span" sWordS f fd) (O : TxtErr P K mg "BadText" CB) (ml : mg "len" = none) (gZ : mg "ZERO" = some (.ref Z)) (hZ : ∀ H : Hp, IsVer K H (.ref Z) v000) (gS : mg "SIGNS" = some (.ref SG)) (hS : ∀ H : Hp, SqT K H SG (strL signsL))
    (DP : Def P w K mg base "part_numbers" CX0 k ["word"] (spPrt K)) (DS : Def P w K mg base "signed_span" CX0 k ["sign", "numbers"] (spSpan K)) : FnOk P w K mg base (L2.CX P w) (k + 1) f fd ["words", "at"] (spWordG K CB) := by
  refine F.okX scWordS (fun vs H Q E h => ?_) (fun cdv A outer s H vs Q E hr h => ?_)
  · obtain ⟨a, ws, i, rfl, _⟩ := h
    rfl
  · obtain ⟨a, ws, i, rfl, ha, ok, il, q1, q2⟩ := h
    refine' ⟨_, pss_cons ?s1 (pss_cons ?s2 (pss_cons ?s3 (pss_cons ?s4 (pss_cons ?s5 (pss_cons ?s6 (pss_one ?s7)))))), ?_⟩
    case s1 => exact ps_if (pt_cmpR op_eq (pv 1) (pe_callB call_len_seq (by rfl) ml PySem.boot_len (pa_cons (pv 0) pa_nil)) (nomark _)) (pss_one (ps_raiseT O rfl hr (takes_of rfl rfl rfl rfl) (pa_cons (pv 1) pa_nil))) pss_nil
    case s2 => exact ps_set (i := 2) scWordS.nd rfl (.inr rfl) (pe_ix ix_list (pv 0) (pv 1) (fun _ _ => rfl))
    case s3 => exact ps_if (pt_cmpR op_eq (pv 2) pe_str (nomark _)) (pss_one (ps_ret (pe_tup (pa_cons (pe_glob (v := .ref Z) (by rfl) gZ rfl) (pa_cons pe_non pa_nil))))) pss_nil
    case s4 => exact ps_set (i := 3) scWordS.nd rfl (.inl rfl) (pe_ix (r := rIxL K) ix_list (pe_lc (own := [("known", 5)]) (g := gName 5) (te := tVar 5) (tt := tB (tM1 (fun x xs H Q => ∃ a b, x = .str a ∧ xs = [.str b] ∧ Q (.bl (Txt.startswith a b)) H) (tVar 2) (tVar 5))) rfl scWordS.nd (pi_tup (pe_glob (v := .ref SG) (by rfl) gS rfl)) (blkOk_by (N := nWS) (sc := defScope sWordS) (by decide +kernel))
        (fun _ _ _ _ _ => pg_name (i := 5) scWordS.nd rfl (Or.inl rfl)) (fun _ _ _ _ _ => pts_one (pt_val (pe_m1 PySem.F.slot_str_startswith PySem.F.type_str_startswith mt_startswith (pv 2) (pv 5)))) (fun _ _ _ _ _ => pv 5)) pe_int (fun _ _ => rfl))
    case s5 => exact ps_set (i := 4) scWordS.nd rfl (.inl rfl) (pe_d DP hr (pa_cons (pe_slice sl_str (pv 2) (po_some (pe_callB call_len_str (by rfl) ml PySem.boot_len (pa_cons (pv 3) pa_nil))) po_none) pa_nil))
    case s6 => exact ps_if (pt_cmpR op_isN (pv 4) pe_non (nomark _)) (pss_one (ps_raiseT O rfl hr (takes_of rfl rfl rfl rfl) (pa_cons (pv 1) pa_nil))) pss_nil
    case s7 => exact ps_ret (pe_d DS hr (pa_cons (pv 3) (pa_cons (pv 4) pa_nil)))
    have wl := ok.len
    dsimp only [tSeq, tAsg, tRet, tIfS, gName, tNext]
    refine ⟨_, rfl, _, rfl, a, strL ws, rfl, .inl ha, rfl, _, rfl, ?_⟩
    cases hi : ws[i]? with
    | none =>
      have e : i = ws.length := by
        have := List.getElem?_eq_none_iff.mp hi
        omega
      rw [show decide (V.int (i : Int) = V.int ((strL ws).length : Int)) = true from decide_eq_true (by rw [List.length_map, e])]
      have t : trmAt ws i = false := by
        unfold trmAt
        rw [hi]
      refine iteT ⟨_, rfl, _, rfl, shown_nat (by omega), fun d hd => ?_⟩
      exact q2 t _ d (same_upd hd) upd_same
    | some w =>
      have i2 := (List.getElem?_eq_some_iff.mp hi).1
      obtain ⟨lw, sm⟩ := ok.word w (List.mem_of_getElem? hi)
      have t : trmAt ws i = isTrm w := by
        unfold trmAt
        rw [hi]
      rw [show decide (V.int (i : Int) = V.int ((strL ws).length : Int)) = false from decide_eq_false fun e => by
        have := V.int.inj e
        rw [List.length_map] at this
        omega]
      refine iteF ⟨_, rfl, _, rfl, a, strL ws, (i : Int), _, rfl, rfl, ha, atI_nat (strL_at hi), ?_⟩
      refine ⟨_, rfl, rfl, _, rfl, ?_⟩
      rw [show ("*" : Str) = S [42] from rfl, str_is]
      by_cases st : w = [42]
      · rw [decide_eq_true st]
        refine iteT ⟨by show 2 ≤ sizeLine; decide, fun p hp => ?_⟩
        have k1 := same_upd (o := .tup [.ref Z, .non]) hp
        refine q1 (by rw [t]; unfold isTrm; rw [decide_eq_true st]; rfl) _ p (v000, none) k1 ⟨p, .ref Z, .non, rfl, .inl (.inl upd_same), hZ _, rfl⟩ (span_okE (.star, []))
      · rw [decide_eq_false st]
        have t2 : trmAt ws i = isPrt (w.drop (sgOf w).txt.length) := by
          rw [t]
          unfold isTrm
          rw [decide_eq_false st, Bool.false_or]
        refine iteF ⟨_, rfl, ⟨_, hS H⟩, fun D hD => ?_⟩
        refine lc_tup (K := K) (a := SG) (xs := strL signsL) (fun i H' => Same H H' ∧ H' D = some (.lst (strL ((signsL.take i).filter fun b => startsB w b)))) ⟨same_upd hD, upd_same⟩ (fun _ H' _ _ => hS H') ?_ ?_
        · rintro j y H' hy ⟨s1, h1⟩
          rw [List.getElem?_map] at hy
          obtain ⟨b, hb, rfl⟩ := Option.map_eq_some_iff.mp hy
          have il2 := (List.getElem?_eq_some_iff.mp hb).1
          refine ⟨rfl, _, rfl, ⟨_, rfl⟩, _, rfl, _, _, rfl, rfl, _, rfl, ?_⟩
          rw [starts_S, take_snoc hb, List.filter_append]
          have le : ((signsL.take j).filter fun b => startsB w b).length ≤ 8 := by
            have := List.length_filter_le (fun b => startsB w b) (signsL.take j)
            rw [List.length_take] at this
            have : j < 8 := il2
            omega
          cases e : startsB w b with
          | true =>
            refine iteT ⟨_, rfl, _, h1, ?_, fun c o z => by rw [upd_ne (ne_of_none z hD)]; exact s1 _ _ z, ?_⟩
            · rw [List.length_map]
              exact small1000 (by omega)
            · rw [upd_same]
              simp [List.filter, e]
          | false =>
            refine iteF ⟨s1, ?_⟩
            rw [h1]
            simp [List.filter, e]
        · rintro H1 ⟨s1, h1'⟩
          have h0 : (strL (signsL.filter fun b => startsB w b))[0]? = some (.str (S (sgOf w).txt)) := strL_at (by rw [← List.head?_eq_getElem?]; exact sg_head w)
          rw [List.take_of_length_le (Nat.le_of_eq (by rw [List.length_map]))] at h1'
          refine ⟨D, _, 0, _, rfl, rfl, SqL.of h1', atI_nat (j := 0) h0, ?_⟩
          refine ⟨_, rfl, _, rfl, S (sgOf w).txt, rfl, ?_, _, rfl, S w, rfl, ?_, w.drop (sgOf w).txt.length, ?_, ?_, fun c hc => sm c (List.mem_of_mem_drop hc), fun yes H2 p s2 hp => ?_, fun no H2 s2 => ?_⟩
          · rw [S_len, sizeLine_eq]
            have : (sgOf w).txt.length ≤ 2 := by cases sgOf w <;> decide
            omega
          · rw [S_len, sizeLine_eq]
            omega
          · rw [sg_cut]; rfl
          · rw [List.length_drop]
            omega
          · refine ⟨_, rfl, rfl, _, rfl, iteF ⟨_, rfl, _, rfl, sgOf w, p, _, sg_ns w, rfl, hp, nums_len yes, fun H3 u s3 hu => ?_⟩⟩
            exact q1 (by rw [t2, yes]) H3 u _ ((s1.trans s2).trans s3) hu (span_okE _)
          · refine ⟨_, rfl, rfl, _, rfl, iteT ⟨_, rfl, _, rfl, shown_nat (by omega), fun d hd => ?_⟩⟩
            exact q2 (by rw [t2, no]) _ d ((s1.trans s2).trans (same_upd hd)) upd_same
/-- a part that has to stand there -/
def spPartG (K : PySem.W.Frag) (CB : Addr) : Sp := fun vs H Q E => ∃ (a : Addr) (ws : List (List Nat)) (i : Nat), vs = [.ref a, .int i] ∧ SqL K H a (strL ws) ∧ OkWs ws ∧ i < 1000 ∧
  (∀ w, ws[i]? = some w → isPrt w = true → ∀ H' p, Same H H' → SqT K H' p (tupN (numsW w)) → Q (.ref p) H') ∧ (prtAt ws i = false → XAt E CB (.int i) H)
theorem ok_partG {f CB : Addr} {fd : FuncData} {k : Nat} (F : Fun K "part_at" "part_at" sPartA f fd) (O : TxtErr P K mg "BadText" CB) (ml : mg "len" = none) (DP : Def P w K mg base "part_numbers" CX0 k ["word"] (spPrt K)) : FnOk P w K mg base (L2.CX P w) (k + 1) f fd ["words", "at"] (spPartG K CB) := by
  refine F.okX scPartA (fun vs H Q E h => ?_) (fun cdv A outer s H vs Q E hr h => ?_)
  · obtain ⟨a, ws, i, rfl, _⟩ := h
    rfl
  · obtain ⟨a, ws, i, rfl, ha, ok, il, q1, q2⟩ := h
    refine' ⟨_, pss_cons ?s1 (pss_cons ?s2 (pss_one ?s3)), ?_⟩
    case s1 => exact ps_set (i := 2) scPartA.nd rfl (.inl rfl) (pe_ifExp (pt_cmpR op_lt (pv 1) (pe_callB call_len_seq (by rfl) ml PySem.boot_len (pa_cons (pv 0) pa_nil)) (nomark _)) (pe_d DP hr (pa_cons (pe_ix (r := rIxL K) ix_list (pv 0) (pv 1) (fun _ _ => rfl)) pa_nil)) pe_non)
    case s2 => exact ps_if (pt_cmpR op_isN (pv 2) pe_non (nomark _)) (pss_one (ps_raiseT O rfl hr (takes_of rfl rfl rfl rfl) (pa_cons (pv 1) pa_nil))) pss_nil
    case s3 => exact ps_ret (pv 2)
    dsimp only [tSeq, tAsg, tRet, tIfS, gName, tNext]
    refine ⟨_, rfl, _, rfl, a, strL ws, rfl, .inl ha, _, _, rfl, rfl, _, rfl, ?_⟩
    cases hi : ws[i]? with
    | none =>
      have e := List.getElem?_eq_none_iff.mp hi
      rw [show decide ((i : Int) < ((strL ws).length : Int)) = false from decide_eq_false (by rw [List.length_map]; omega)]
      refine iteF ⟨_, rfl, rfl, _, rfl, iteT ⟨_, rfl, _, rfl, shown_nat il, fun d hd => ?_⟩⟩
      exact q2 (by unfold prtAt; rw [hi]) _ d (same_upd hd) upd_same
    | some w =>
      have i2 := (List.getElem?_eq_some_iff.mp hi).1
      obtain ⟨lw, sm⟩ := ok.word w (List.mem_of_getElem? hi)
      rw [show decide ((i : Int) < ((strL ws).length : Int)) = true from decide_eq_true (by rw [List.length_map]; omega)]
      refine iteT ⟨_, rfl, _, rfl, a, strL ws, (i : Int), _, rfl, rfl, ha, atI_nat (strL_at hi), w, rfl, by omega, sm, fun yes H1 p s1 hp => ?_, fun no H1 s1 => ?_⟩
      · exact ⟨_, rfl, rfl, _, rfl, iteF ⟨_, rfl, q1 w hi yes H1 p s1 hp⟩⟩
      · refine ⟨_, rfl, rfl, _, rfl, iteT ⟨_, rfl, _, rfl, shown_nat il, fun d hd => ?_⟩⟩
        exact q2 (by unfold prtAt; rw [hi]; exact no) _ d (s1.trans (same_upd hd)) upd_same
end
end Kw
set_option maxHeartbeats 4000000
namespace Kw
open PySem PySem.Spec PyProof.Rows L2 LamX SX
/-! ### where a text goes wrong -/
def goB (ws : List (List Nat)) (j : Nat) : Bool := match ws[j]? with
  | some w => decide (w ≠ bars)
  | none => false
def scanT (ws : List (List Nat)) : Nat → Nat → Nat ⊕ Nat
  | 0, j => .inr j
  | n + 1, j => if goB ws j = true then (if trmAt ws j = true then scanT ws n (j + 1) else .inl j) else .inr j
def dashB (ws : List (List Nat)) (i : Nat) : Bool := decide (ws[i + 1]? = some [45]) && prtAt ws i
def choiceR (ws : List (List Nat)) (i : Nat) : Nat ⊕ Nat :=
  if trmAt ws i = true then (if dashB ws i = true then (if prtAt ws (i + 2) = true then .inr (i + 3) else .inl (i + 2)) else scanT ws (ws.length - (i + 1)) (i + 1)) else .inl i
def badR (ws : List (List Nat)) : Nat → Nat → Option Nat
  | 0, i => some i
  | n + 1, i => match choiceR ws i with
    | .inl b => some b
    | .inr j => match ws[j]? with
      | none => none
      | some w => if w = bars then badR ws n (j + 1) else some j
theorem go_lt {ws : List (List Nat)} {j : Nat} (h : goB ws j = true) : j < ws.length := by
  unfold goB at h
  cases e : ws[j]? with
  | none => rw [e] at h; cases h
  | some w => exact (List.getElem?_eq_some_iff.mp e).1
theorem trm_lt {ws : List (List Nat)} {j : Nat} (h : trmAt ws j = true) : j < ws.length := by
  unfold trmAt at h
  cases e : ws[j]? with
  | none => rw [e] at h; cases h
  | some w => exact (List.getElem?_eq_some_iff.mp e).1
theorem prt_lt {ws : List (List Nat)} {j : Nat} (h : prtAt ws j = true) : j < ws.length := by
  unfold prtAt at h
  cases e : ws[j]? with
  | none => rw [e] at h; cases h
  | some w => exact (List.getElem?_eq_some_iff.mp e).1
theorem scan_step {ws : List (List Nat)} {j : Nat} (g : goB ws j = true) (t : trmAt ws j = true) : scanT ws (ws.length - j) j = scanT ws (ws.length - (j + 1)) (j + 1) := by
  have l := go_lt g
  rw [show ws.length - j = (ws.length - (j + 1)) + 1 by omega]
  show (if goB ws j = true then (if trmAt ws j = true then scanT ws (ws.length - (j + 1)) (j + 1) else .inl j) else .inr j) = _
  rw [if_pos g, if_pos t]
theorem scan_bad {ws : List (List Nat)} {j : Nat} (g : goB ws j = true) (t : trmAt ws j = false) : scanT ws (ws.length - j) j = .inl j := by
  have l := go_lt g
  rw [show ws.length - j = (ws.length - (j + 1)) + 1 by omega]
  show (if goB ws j = true then (if trmAt ws j = true then scanT ws (ws.length - (j + 1)) (j + 1) else .inl j) else .inr j) = _
  rw [if_pos g, if_neg (by rw [t]; exact Bool.false_ne_true)]
theorem scan_end {ws : List (List Nat)} {j : Nat} (g : goB ws j = false) : scanT ws (ws.length - j) j = .inr j := by
  cases h : ws.length - j with
  | zero => rfl
  | succ n =>
    show (if goB ws j = true then (if trmAt ws j = true then scanT ws n (j + 1) else .inl j) else .inr j) = _
    rw [if_neg (by rw [g]; exact Bool.false_ne_true)]
theorem scan_bd {ws : List (List Nat)} : ∀ (n j : Nat), j ≤ ws.length → (∀ r, scanT ws n j = .inr r → j ≤ r ∧ r ≤ ws.length) ∧ ∀ b, scanT ws n j = .inl b → b < ws.length
  | 0, j, h => ⟨fun r e => by cases e; exact ⟨Nat.le_refl _, h⟩, fun b e => by cases e⟩
  | n + 1, j, h => by
    unfold scanT
    split
    · rename_i g
      have l := go_lt g
      split
      · obtain ⟨h1, h2⟩ := scan_bd n (j + 1) l
        exact ⟨fun r e => by have := h1 r e; omega, h2⟩
      · exact ⟨fun r e => (by cases e), fun b e => (by cases e; exact l)⟩
    · exact ⟨fun r e => by cases e; exact ⟨Nat.le_refl _, h⟩, fun b e => by cases e⟩
theorem choice_bd {ws : List (List Nat)} {i : Nat} (h : i ≤ ws.length) : (∀ r, choiceR ws i = .inr r → i < r ∧ r ≤ ws.length) ∧ ∀ b, choiceR ws i = .inl b → b ≤ ws.length + 2 := by
  unfold choiceR
  split
  · rename_i t
    have l := trm_lt t
    split
    · split
      · rename_i p
        have := prt_lt p
        exact ⟨fun r e => by cases e; omega, fun b e => by cases e⟩
      · exact ⟨fun r e => (by cases e), fun b e => by cases e; omega⟩
    · obtain ⟨h1, h2⟩ := scan_bd (ws := ws) (ws.length - (i + 1)) (i + 1) l
      exact ⟨fun r e => by have := h1 r e; omega, fun b e => by have := h2 b e; omega⟩
  · exact ⟨fun r e => (by cases e), fun b e => by cases e; omega⟩
abbrev rLenS (K : PySem.W.Frag) : List V → Hp → (V → Hp → Prop) → Prop := fun xs H Q => ∃ p ys, xs = [.ref p] ∧ (SqL K H p ys ∨ SqT K H p ys) ∧ Q (.int ys.length) H
abbrev rNotN : R2 := fun x y H Q => y = .non ∧ Q (.bl (!decide (x = .non))) H
section
variable {K : PySem.W.Frag} {σ : L2.St} {H : Hp} {a : Addr} {ws : List (List Nat)} {i : Nat} {Q : Bool → Hp → Prop}
theorem dash_read (h0 : σ[0]? = some (some (.ref a))) (h1 : σ[1]? = some (some (.int ((i : Int) + 1)))) (ha : SqL K H a (strL ws)) (ok : OkWs ws) (il : i < ws.length) (q : ∀ H', Same H H' → Q (dashB ws i) H') :
    tAnd (tTest (tOp (rI0 fun i j => .bl (decide (i < j))) (tVar 1) (tCB (rLenS K) (tCons (tVar 0) tNil)))) (tAnd (tTest (tOp rEq (tOp (rIxL K) (tVar 0) (tVar 1)) (tC (.str "-")))) (tTest (tOp rNotN (tCall (spPrt K) [] E0 (tCons (tOp (rIxL K) (tVar 0) (tOp (rI0 fun i j => .int (i - j)) (tVar 1) (tC (.int 1)))) tNil)) (tC .non)))) σ H Q := by
  refine ⟨_, h1, _, h0, a, strL ws, rfl, .inl ha, _, _, rfl, rfl, _, rfl, ?_⟩
  unfold dashB at q
  cases e1 : ws[i + 1]? with
  | none =>
    have l := List.getElem?_eq_none_iff.mp e1
    rw [e1] at q
    rw [show decide ((i : Int) + 1 < ((strL ws).length : Int)) = false from decide_eq_false (by rw [List.length_map]; omega)]
    exact iteF (by simpa using q H (Same.refl H))
  | some w1 =>
    have l := (List.getElem?_eq_some_iff.mp e1).1
    rw [e1] at q
    rw [show decide ((i : Int) + 1 < ((strL ws).length : Int)) = true from decide_eq_true (by rw [List.length_map]; omega)]
    refine iteT ⟨_, h0, _, h1, a, strL ws, _, _, rfl, rfl, ha, atI_nat (j := i + 1) (strL_at e1), rfl, _, rfl, ?_⟩
    rw [show ("-" : Str) = S [45] from rfl, str_is]
    by_cases c : w1 = [45]
    · rw [decide_eq_true c]
      have e0 : ws[i]? = some ws[i] := List.getElem?_eq_getElem il
      have i0 : atI (strL ws) ((i : Int) + 1 - 1) = some (.str (S ws[i])) := by
        rw [show (i : Int) + 1 - 1 = ((i : Nat) : Int) by omega]
        exact atI_nat (strL_at e0)
      obtain ⟨lw, sm⟩ := ok.word _ (List.getElem_mem il)
      have p0 : prtAt ws i = isPrt ws[i] := by
        unfold prtAt
        rw [e0]
      rw [decide_eq_true (by rw [c]), Bool.true_and, p0] at q
      refine iteT ⟨_, h0, _, h1, _, _, rfl, rfl, a, strL ws, _, _, rfl, rfl, ha, i0, ws[i], rfl, by omega, sm, fun yes H2 p2 s2 hp2 => ⟨rfl, _, rfl, ?_⟩, fun no H2 s2 => ⟨rfl, _, rfl, ?_⟩⟩
      · rw [yes] at q
        exact q H2 s2
      · rw [no] at q
        exact q H2 s2
    · rw [decide_eq_false c]
      rw [decide_eq_false (fun z => c (Option.some.inj z)), Bool.false_and] at q
      exact iteF (q H (Same.refl H))
theorem go_read {j : Nat} (h0 : σ[0]? = some (some (.ref a))) (h1 : σ[1]? = some (some (.int (j : Int)))) (ha : SqL K H a (strL ws)) (q : Q (goB ws j) H) :
    tAnd (tTest (tOp (rI0 fun i j => .bl (decide (i < j))) (tVar 1) (tCB (rLenS K) (tCons (tVar 0) tNil)))) (tTest (tOp rNe (tOp (rIxL K) (tVar 0) (tVar 1)) (tC (.str "||")))) σ H Q := by
  refine ⟨_, h1, _, h0, a, strL ws, rfl, .inl ha, _, _, rfl, rfl, _, rfl, ?_⟩
  unfold goB at q
  cases e1 : ws[j]? with
  | none =>
    have l := List.getElem?_eq_none_iff.mp e1
    rw [e1] at q
    rw [show decide ((j : Int) < ((strL ws).length : Int)) = false from decide_eq_false (by rw [List.length_map]; omega)]
    exact iteF q
  | some w1 =>
    have l := (List.getElem?_eq_some_iff.mp e1).1
    rw [e1] at q
    rw [show decide ((j : Int) < ((strL ws).length : Int)) = true from decide_eq_true (by rw [List.length_map]; omega)]
    refine iteT ⟨_, h0, _, h1, a, strL ws, _, _, rfl, rfl, ha, atI_nat (j := j) (strL_at e1), rfl, _, rfl, ?_⟩
    rw [show ("||" : Str) = S bars from rfl, str_is]
    rw [show (!decide (w1 = bars)) = decide (w1 ≠ bars) by simp]
    exact q
end
def spChoiceG (K : PySem.W.Frag) (CB : Addr) : Sp := fun vs H Q E => ∃ (a : Addr) (ws : List (List Nat)) (i : Nat), vs = [.ref a, .int i] ∧ SqL K H a (strL ws) ∧ OkWs ws ∧ i ≤ ws.length ∧
  (∀ j, choiceR ws i = .inr j → ∀ H' p lo hi s, Same H H' → SqT K H' p [lo, hi, .int (j : Int)] → IsVer K H' lo s.1 → IsEnd K H' hi s.2 → OkE s → Q (.ref p) H') ∧ (∀ b, choiceR ws i = .inl b → XAt E CB (.int (b : Int)) H)
theorem meet_okE {s u : Str2} (h : OkE s) (g : OkE u) : OkE (maxV s.1 u.1, earlyE s.2 u.2) := by
  have h1 : okV (maxV s.1 u.1) := by
    unfold maxV
    split
    · exact g.l
    · exact h.l
  refine ⟨h1, fun x hx => ?_⟩
  have hx : earlyE s.2 u.2 = some x := hx
  cases es : s.2 with
  | none =>
    rw [es] at hx
    exact g.h x hx
  | some a =>
    rw [es] at hx
    cases eu : u.2 with
    | none =>
      rw [eu] at hx
      obtain rfl := Option.some.inj hx
      exact h.h _ es
    | some b =>
      rw [eu] at hx
      have hx : (if ltV b a then b else a) = x := Option.some.inj hx
      rw [← hx]
      split
      · exact g.h _ eu
      · exact h.h _ es
section
variable {P : Program} {w : World} {K : PySem.W.Frag} {mg : Str → Option Value} {base : Heap}
theorem ok_choiceG {f CB : Addr} {fd : FuncData} {k : Nat} (F : Fun K "read_choice" "read_choice" sChoice f fd) (ml : mg "len" = none) (mm : mg "max" = none) (DW : DefX P w K mg base "word_span" k ["words", "at"] (spWordG K CB)) (DP : Def P w K mg base "part_numbers" CX0 k ["word"] (spPrt K)) (DA : DefX P w K mg base "part_at" k ["words", "at"] (spPartG K CB))
    (DE : Def P w K mg base "part_end" CX0 k ["numbers"] (spPartE K)) (DY : Def P w K mg base "earlier_end" CX0 k ["one", "other"] (spEarlyE K)) : FnOk P w K mg base (L2.CX P w) (k + 1) f fd ["words", "at"] (spChoiceG K CB) := by
  refine F.okX scChoice (fun vs H Q E h => ?_) (fun cdv A outer s H vs Q E hr h => ?_)
  · obtain ⟨a, ws, i, rfl, _⟩ := h
    rfl
  · obtain ⟨a, ws, i, rfl, ha, ok, il, q, qe⟩ := h
    refine' ⟨_, pss_cons ?s1 (pss_cons ?s2 (pss_cons ?s3 (pss_cons ?s4 (pss_one ?s5)))), ?_⟩
    case s1 => exact ps_asg (pe_dX DW hr (takes_of rfl rfl rfl rfl) (pa_cons (pv 0) (pa_cons (pv 1) pa_nil))) (pg_tup rfl (pgs_cons (pg_name (i := 2) scChoice.nd rfl (.inl rfl)) (pgs_cons (pg_name (i := 3) scChoice.nd rfl (.inl rfl)) pgs_nil)))
    case s2 => exact ps_aug (i := 1) scChoice.nd rfl (.inl rfl) pe_int ip_add
    case s3 => exact (ps_if (PW.pt (pw_and (pt_cmpR op_lt (pv 1) (pe_callB call_len_seq (by rfl) ml PySem.boot_len (pa_cons (pv 0) pa_nil)) (nomark _)) (pw_and (pt_cmpR op_eq (pe_ix (r := rIxL K) ix_list (pv 0) (pv 1) (fun _ _ => rfl)) pe_str (nomark _)) (pw_and1 (pt_cmpR op_notN (pe_d DP hr (pa_cons (pe_ix (r := rIxL K) ix_list (pv 0) (pe_op op_sub (pv 1) pe_int) (fun _ _ => rfl)) pa_nil)) pe_non (nomark _))))))
        (pss_one (ps_ret (pe_tup (pa_cons (pv 2) (pa_cons (pe_d DE hr (pa_cons (pe_dX DA hr (takes_of rfl rfl rfl rfl) (pa_cons (pv 0) (pa_cons (pe_op op_add (pv 1) pe_int) pa_nil))) pa_nil)) (pa_cons (pe_op op_add (pv 1) pe_int) pa_nil)))))) pss_nil)
    case s4 => exact (ps_while (passes_of rfl) (PW.pt (pw_and (pt_cmpR op_lt (pv 1) (pe_callB call_len_seq (by rfl) ml PySem.boot_len (pa_cons (pv 0) pa_nil)) (nomark _)) (pw_and1 (pt_cmpR op_ne (pe_ix (r := rIxL K) ix_list (pv 0) (pv 1) (fun _ _ => rfl)) pe_str (nomark _)))))
        (pss_cons (ps_asg (pe_dX DW hr (takes_of rfl rfl rfl rfl) (pa_cons (pv 0) (pa_cons (pv 1) pa_nil))) (pg_tup rfl (pgs_cons (pg_name (i := 4) scChoice.nd rfl (.inl rfl)) (pgs_cons (pg_name (i := 5) scChoice.nd rfl (.inl rfl)) pgs_nil))))
        (pss_cons (ps_par (i := 2) (j := 3) rfl scChoice.nd rfl rfl (by decide) rfl rfl (pa_cons (pe_callB (cr_max2V rfl hr) (by rfl) mm boot_max (pa_cons (pv 2) (pa_cons (pv 4) pa_nil))) (pa_cons (pe_d DY hr (pa_cons (pv 3) (pa_cons (pv 5) pa_nil))) pa_nil)) rfl)
        (pss_one (ps_aug (i := 1) scChoice.nd rfl (.inl rfl) pe_int ip_add)))))
    case s5 => exact ps_ret (pe_tup (pa_cons (pv 2) (pa_cons (pv 3) (pa_cons (pv 1) pa_nil))))
    dsimp only [tSeq, tAsg, tRet, tIfS, gName, tNext]
    refine ⟨_, rfl, _, rfl, a, ws, i, rfl, ha, ok, il, fun t H1 p st s1 hp oe => ?_, fun t => ?_⟩
    case refine_2 => exact qe i (by unfold choiceR; rw [t]; rfl)
    have i2 := trm_lt t
    obtain ⟨p', lo, hh, e, tp, vlo, vhi⟩ := hp
    cases e
    refine ⟨p, [lo, hh], rfl, tp, rfl, _, _, rfl, _, _, rfl, rfl, ?_⟩
    have ha1 := s1.seq ha
    refine ⟨_, rfl, _, _, rfl, rfl, ?_⟩
    refine dash_read rfl rfl ha1 ok i2 fun H2 s2 => ?_
    have s12 := s1.trans s2
    have ha2 := s2.seq ha1
    cases db : dashB ws i with
    | true =>
      have wl := ok.len
      refine iteT ⟨_, rfl, _, rfl, _, rfl, _, _, rfl, rfl, a, ws, i + 2, congrArg (fun z => [V.ref a, V.int z]) (show (i : Int) + 1 + 1 = ((i + 2 : Nat) : Int) by omega), ha2, ok, by omega, fun w hw yes H3 p3 s3 hp3 => ?_, fun no => ?_⟩
      · refine ⟨p3, numsW w, rfl, hp3, nums_len yes, fun H4 z s4 hz => ?_⟩
        refine ⟨_, rfl, _, _, rfl, rfl, by show 3 ≤ sizeLine; decide, fun p4 hp4 => ?_⟩
        have k := same_upd (o := .tup [lo, z, .int ((i : Int) + 1 + 2)]) hp4
        have pw : prtAt ws (i + 2) = true := by
          unfold prtAt
          rw [hw]
          exact yes
        have e3 : (i : Int) + 1 + 2 = ((i + 3 : Nat) : Int) := by omega
        refine q (i + 3) (by unfold choiceR; rw [if_pos t, if_pos db, if_pos pw]) _ p4 lo z (st.1, some (endV (numsW w))) (((s12.trans s3).trans s4).trans k) (.inl (.inl ?_)) ((((vlo.same s2).same s3).same s4).same k) (hz.same k) ⟨oe.l, fun u hu => ?_⟩
        · rw [upd_same]
          show some (HO.tup [lo, z, .int ((i : Int) + 1 + 2)]) = _
          rw [e3]
        · obtain rfl := Option.some.inj hu
          exact ⟨Int.natCast_nonneg _, Int.natCast_nonneg _, Int.natCast_nonneg _⟩
      · exact (qe (i + 2) (by unfold choiceR; rw [if_pos t, if_pos db, if_neg (by rw [no]; exact Bool.false_ne_true)])).same s12
    | false =>
      have eR : choiceR ws i = scanT ws (ws.length - (i + 1)) (i + 1) := by
        unfold choiceR
        rw [if_pos t, if_neg (by rw [db]; exact Bool.false_ne_true)]
      refine iteF ⟨fun (m : Nat) (σ : L2.St) (H' : Hp) => ∃ (j : Nat) (xl xh : V) (y4 y5 : Option V) (s : Str2), m = ws.length - j ∧ j ≤ ws.length ∧ σ = [some (.ref a), some (.int (j : Int)), some xl, some xh, y4, y5] ∧ Same H H' ∧ IsVer K H' xl s.1 ∧ IsEnd K H' xh s.2 ∧ OkE s ∧ choiceR ws i = scanT ws (ws.length - j) j,
          ⟨_, i + 1, lo, hh, none, none, st, rfl, i2, rfl, s12, vlo.same s2, vhi.same s2, oe, eR⟩, ?_⟩
      rintro m σ H3 ⟨j, xl, xh, y4, y5, s, rfl, jl, rfl, s3, vl, vh, os, er⟩
      have ha3 := s3.seq ha
      refine go_read rfl rfl ha3 ?_
      cases g : goB ws j with
      | false =>
        refine iteF ⟨_, rfl, _, rfl, _, rfl, by show 3 ≤ sizeLine; decide, fun p4 hp4 => ?_⟩
        have k := same_upd (o := .tup [xl, xh, .int (j : Int)]) hp4
        exact q j (by rw [er, scan_end g]) _ p4 xl xh s (s3.trans k) (.inl (.inl upd_same)) (vl.same k) (vh.same k) os
      | true =>
        have jl2 := go_lt g
        refine iteT ⟨fun σ' H' => ∃ (xl xh : V) (y4 y5 : Option V) (s : Str2), trmAt ws j = true ∧ σ' = [some (.ref a), some (.int ((j + 1 : Nat) : Int)), some xl, some xh, y4, y5] ∧ Same H H' ∧ IsVer K H' xl s.1 ∧ IsEnd K H' xh s.2 ∧ OkE s, fun σ' H' ⟨xl, xh, y4, y5, s, tj, e, g1, g2, g3, g4⟩ => ⟨_, by omega, j + 1, xl, xh, y4, y5, s, rfl, jl2, e, g1, g2, g3, g4, by rw [er, scan_step g tj]⟩, ?_⟩
        refine ⟨_, rfl, _, rfl, a, ws, j, rfl, ha3, ok, jl, fun tj H4 p4 s4 s34 hp4 oe4 => ?_, fun tj => ?_⟩
        · obtain ⟨p', l4, h4, e, tp4, vl4, vh4⟩ := hp4
          cases e
          refine ⟨p4, [l4, h4], rfl, tp4, rfl, _, _, rfl, _, _, rfl, rfl, ?_⟩
          refine ⟨_, rfl, _, rfl, xl, l4, s.1, s4.1, rfl, vl.same s34, vl4, fun z hz => ⟨_, rfl, _, rfl, xh, h4, s.2, s4.2, rfl, vh.same s34, vh4, fun z2 hz2 => ⟨_, _, rfl, _, rfl, _, _, rfl, rfl, ?_⟩⟩⟩
          exact ⟨z, z2, _, _, (maxV s.1 s4.1, earlyE s.2 s4.2), tj, rfl, s3.trans s34, hz, hz2, meet_okE os oe4⟩
        · exact (qe j (by rw [er, scan_bad g tj])).same s3
end
end Kw
set_option maxHeartbeats 4000000
namespace Kw
open PySem PySem.Spec PyProof.Rows L2 LamX SX
/-! ### all choices, the whole text -/
def contR (ws : List (List Nat)) (n j : Nat) : Option Nat := match ws[j]? with
  | none => none
  | some w => if w = bars then badR ws n (j + 1) else some j
theorem bad_step {ws : List (List Nat)} {n i j : Nat} (h : choiceR ws i = .inr j) : badR ws (n + 1) i = contR ws n j := by
  show (match choiceR ws i with
    | .inl b => some b
    | .inr j => match ws[j]? with
      | none => none
      | some w => if w = bars then badR ws n (j + 1) else some j) = _
  rw [h]
  rfl
theorem bad_here {ws : List (List Nat)} {n i b : Nat} (h : choiceR ws i = .inl b) : badR ws (n + 1) i = some b := by
  show (match choiceR ws i with
    | .inl b => some b
    | .inr j => match ws[j]? with
      | none => none
      | some w => if w = bars then badR ws n (j + 1) else some j) = _
  rw [h]
def spChoicesG (K : PySem.W.Frag) (CB : Addr) : Sp := fun vs H Q E => ∃ (a : Addr) (ws : List (List Nat)), vs = [.ref a] ∧ SqL K H a (strL ws) ∧ OkWs ws ∧
  (badR ws (ws.length + 1) 0 = none → ∀ H' D zs ss, Same H H' → H' D = some (.lst zs) → Strs K H' zs ss → (∀ s ∈ ss, OkE s) → ss.length ≤ 60 → Q (.ref D) H') ∧ (∀ b, badR ws (ws.length + 1) 0 = some b → XAt E CB (.int (b : Int)) H)
section
variable {P : Program} {w : World} {K : PySem.W.Frag} {mg : Str → Option Value} {base : Heap}
theorem ok_choicesG {f CB : Addr} {fd : FuncData} {k : Nat} (F : Fun K "read_choices" "read_choices" sChoices f fd) (O : TxtErr P K mg "BadText" CB) (ml : mg "len" = none) (DC : DefX P w K mg base "read_choice" k ["words", "at"] (spChoiceG K CB)) : FnOk P w K mg base (L2.CX P w) (k + 1) f fd ["words"] (spChoicesG K CB) := by
  refine F.okX scChoices (fun vs H Q E h => ?_) (fun cdv A outer s H vs Q E hr h => ?_)
  · obtain ⟨a, ws, rfl, _⟩ := h
    rfl
  · obtain ⟨a, ws, rfl, ha, ok, q, qe⟩ := h
    refine' ⟨_, pss_cons ?s1 (pss_cons ?s2 (pss_cons ?s3 (pss_one ?s4))), ?_⟩
    case s1 => exact ps_asg (pe_dX DC hr (takes_of rfl rfl rfl rfl) (pa_cons (pv 0) (pa_cons pe_int pa_nil))) (pg_tup rfl (pgs_cons (pg_name (i := 1) scChoices.nd rfl (.inl rfl)) (pgs_cons (pg_name (i := 2) scChoices.nd rfl (.inl rfl)) (pgs_cons (pg_name (i := 3) scChoices.nd rfl (.inl rfl)) pgs_nil))))
    case s2 => exact ps_set (i := 4) scChoices.nd rfl (.inl rfl) (pe_lst (pa_cons (pe_tup (pa_cons (pv 1) (pa_cons (pv 2) pa_nil))) pa_nil))
    case s3 => exact (ps_while (passes_of rfl) (pt_cmpR op_lt (pv 3) (pe_callB call_len_seq (by rfl) ml PySem.boot_len (pa_cons (pv 0) pa_nil)) (nomark _))
        (pss_cons (ps_if (pt_cmpR op_ne (pe_ix (r := rIxL K) ix_list (pv 0) (pv 3) (fun _ _ => rfl)) pe_str (nomark _)) (pss_one (ps_raiseT O rfl hr (takes_of rfl rfl rfl rfl) (pa_cons (pv 3) pa_nil))) pss_nil)
        (pss_cons (ps_asg (pe_dX DC hr (takes_of rfl rfl rfl rfl) (pa_cons (pv 0) (pa_cons (pe_op op_add (pv 3) pe_int) pa_nil))) (pg_tup rfl (pgs_cons (pg_name (i := 1) scChoices.nd rfl (.inl rfl)) (pgs_cons (pg_name (i := 2) scChoices.nd rfl (.inl rfl)) (pgs_cons (pg_name (i := 3) scChoices.nd rfl (.inl rfl)) pgs_nil)))))
        (pss_one (ps_expr (pe_bm PySem.F.plainAttrs_list PySem.F.slot_list_append PySem.F.type_list_append mt_append (pv 4) (pa_cons (pe_tup (pa_cons (pv 1) (pa_cons (pv 2) pa_nil))) pa_nil)))))))
    case s4 => exact ps_ret (pv 4)
    have wl := ok.len
    dsimp only [tSeq, tAsg, tRet, tIfS, gName, tNext, tDrop]
    refine ⟨_, rfl, a, ws, 0, rfl, ha, ok, Nat.zero_le _, fun j e0 H1 p lo hi s s1 tp vl vh oe => ?_, fun b e0 => qe b (bad_here e0)⟩
    have jb := (choice_bd (Nat.zero_le _)).1 j e0
    refine ⟨p, [lo, hi, .int (j : Int)], rfl, tp, rfl, _, _, rfl, _, _, rfl, _, _, rfl, rfl, ?_⟩
    refine ⟨_, rfl, _, rfl, by show 2 ≤ sizeLine; decide, fun d hd => ⟨by show 1 ≤ sizeLine; decide, fun D hD => ?_⟩⟩
    have t1 := same_upd (o := .tup [lo, hi]) hd
    have t2 := same_upd (o := .lst [.ref d]) hD
    have tA := t1.trans t2
    have first : Strs K (upd (upd H1 d (.tup [lo, hi])) D (.lst [.ref d])) [.ref d] [s] := strs_one ⟨d, lo, hi, rfl, .inl (.inl (t2 _ _ upd_same)), vl.same tA, vh.same tA⟩
    have nD : H D = none := s1.free (t1.free hD)
    refine ⟨fun (m : Nat) (σ : L2.St) (H' : Hp) => ∃ (n j : Nat) (xl xh : V) (zs : List V) (ss : List Str2), m = ws.length - j ∧ j ≤ ws.length ∧ ws.length ≤ n + j ∧ σ = [some (.ref a), some xl, some xh, some (.int (j : Int)), some (.ref D)] ∧ Same H H' ∧ H' D = some (.lst zs) ∧ Strs K H' zs ss ∧ (∀ s ∈ ss, OkE s) ∧ ss.length ≤ j ∧ badR ws (ws.length + 1) 0 = contR ws n j,
      ⟨_, ws.length, j, lo, hi, [.ref d], [s], rfl, jb.2, by omega, rfl, s1.trans tA, upd_same, first, fun u hu => by rw [List.mem_singleton.mp hu]; exact oe, by simp; omega, bad_step e0⟩, ?_⟩
    rintro m σ H2 ⟨n, j, xl, xh, zs, ss, rfl, jl, hn, rfl, s2, hD2, hz, os, ls, er⟩
    have ha2 := s2.seq ha
    refine ⟨_, rfl, _, rfl, a, _, rfl, .inl ha2, _, _, rfl, rfl, _, rfl, ?_⟩
    cases hj : ws[j]? with
    | none =>
      have l := List.getElem?_eq_none_iff.mp hj
      rw [show decide ((j : Int) < ((strL ws).length : Int)) = false from decide_eq_false (by rw [List.length_map]; omega)]
      have e2 : contR ws n j = none := by
        unfold contR
        rw [hj]
      exact iteF ⟨_, rfl, q (by rw [er, e2]) H2 D zs ss s2 hD2 hz os (by omega)⟩
    | some wd =>
      have l := (List.getElem?_eq_some_iff.mp hj).1
      rw [show decide ((j : Int) < ((strL ws).length : Int)) = true from decide_eq_true (by rw [List.length_map]; omega)]
      obtain ⟨n', rfl⟩ : ∃ n', n = n' + 1 := ⟨n - 1, by omega⟩
      refine iteT ⟨fun σ' H' => ∃ (j2 : Nat) (xl xh : V) (zs : List V) (ss : List Str2), j + 1 < j2 ∧ j2 ≤ ws.length ∧ σ' = [some (.ref a), some xl, some xh, some (.int (j2 : Int)), some (.ref D)] ∧ Same H H' ∧ H' D = some (.lst zs) ∧ Strs K H' zs ss ∧ (∀ s ∈ ss, OkE s) ∧ ss.length ≤ j2 ∧ badR ws (ws.length + 1) 0 = contR ws n' j2, fun σ' H' ⟨j2, xl, xh, zs, ss, l1, l2, e, g1, g2, g3, g4, g5, g6⟩ => ⟨_, by omega, n', j2, xl, xh, zs, ss, rfl, l2, by omega, e, g1, g2, g3, g4, g5, g6⟩, ?_⟩
      refine ⟨_, rfl, _, rfl, a, _, _, _, rfl, rfl, ha2, atI_nat (strL_at hj), rfl, _, rfl, ?_⟩
      rw [show ("||" : Str) = S bars from rfl, str_is]
      by_cases c : wd = bars
      · have ec : contR ws (n' + 1) j = badR ws (n' + 1) (j + 1) := by
          unfold contR
          rw [hj]
          exact if_pos c
        rw [decide_eq_true c]
        refine iteF ⟨_, rfl, _, rfl, _, _, rfl, rfl, a, ws, j + 1, rfl, ha2, ok, l, fun j2 e2 H3 p3 lo3 hi3 s4 s3 tp3 vl3 vh3 oe3 => ?_, fun b e2 => (qe b (by rw [er, ec, bad_here e2])).same s2⟩
        have jb2 := (choice_bd (ws := ws) (i := j + 1) l).1 j2 e2
        refine ⟨p3, [lo3, hi3, .int (j2 : Int)], rfl, tp3, rfl, _, _, rfl, _, _, rfl, _, _, rfl, rfl, ?_⟩
        have hD3 := s3 _ _ hD2
        refine ⟨_, rfl, .inl ⟨rfl, _, SqL.of hD3⟩, _, rfl, _, rfl, by show 2 ≤ sizeLine; decide, fun d3 hd3 => ?_⟩
        have t3 := same_upd (o := .tup [lo3, hi3]) hd3
        have hD4 := t3 _ _ hD3
        have lz : zs.length ≤ 1000 := by
          rw [hz.len]
          omega
        have f1 : Fr1 D (upd H3 d3 (.tup [lo3, hi3])) (upd (upd H3 d3 (.tup [lo3, hi3])) D (.lst (zs ++ [.ref d3]))) := Fr1.put
        refine ⟨D, zs, _, rfl, rfl, hD4, small1000 lz, j2, lo3, hi3, zs ++ [.ref d3], ss ++ [s4], jb2.1, jb2.2, rfl, fun b o e => ?_, upd_same, ?_, fun u hu => ?_, by rw [List.length_append]; simp; omega, by rw [er, ec, bad_step e2]⟩
        · rw [upd_ne (ne_of_none e nD)]
          exact t3 _ _ (s3 _ _ (s2 _ _ e))
        · exact (f1.strs hD4 ((hz.same s3).same t3)).snoc (f1.str (s := s4) hD4 ⟨d3, lo3, hi3, rfl, .inl (.inl upd_same), vl3.same t3, vh3.same t3⟩)
        · rcases List.mem_append.mp hu with hu | hu
          · exact os u hu
          · rw [List.mem_singleton.mp hu]
            exact oe3
      · have ec : contR ws (n' + 1) j = some j := by
          unfold contR
          rw [hj]
          exact if_neg c
        rw [decide_eq_false c]
        refine iteT ⟨_, rfl, _, rfl, shown_nat (by omega), fun dd hdd => ?_⟩
        exact (qe j (by rw [er, ec])).same s2 _ dd (same_upd hdd) upd_same
end
end Kw
set_option maxHeartbeats 4000000
namespace Kw
open PySem PySem.Spec PyProof.Rows L2 LamX SX
/-- a version's numbers -/
def nV (v : Ver) : List Nat := [v.1.toNat, v.2.1.toNat, v.2.2.toNat]
theorem v3_nat {v : Ver} (o : okV v) : v3 v = tupN (nV v) := by
  obtain ⟨a, b, c⟩ := v
  obtain ⟨h1, h2, h3⟩ := o
  simp only at h1 h2 h3
  simp [v3, vl, tupN, nV, Int.toNat_of_nonneg h1, Int.toNat_of_nonneg h2, Int.toNat_of_nonneg h3]
theorem filled_nV {v : Ver} (o : okV v) : filledV (nV v) = v := by
  obtain ⟨a, b, c⟩ := v
  obtain ⟨h1, h2, h3⟩ := o
  simp only at h1 h2 h3
  simp [filledV, nV, Int.toNat_of_nonneg h1, Int.toNat_of_nonneg h2, Int.toNat_of_nonneg h3]
theorem take_len {v : Ver} {m : Nat} (h1 : 1 ≤ m) (h3 : m ≤ 3) : PLen ((nV v).take m) := by
  have e : ((nV v).take m).length = m := by
    rw [List.length_take]
    show min m 3 = m
    omega
  exact ⟨by omega, by omega⟩
theorem filled_take {p : List Nat} {v : Ver} (h : PLen p) (e : filledV p = v) : p = (nV v).take p.length := by
  rcases h.cases with ⟨a, rfl⟩ | ⟨a, b, rfl⟩ | ⟨a, b, c, rfl⟩ <;> (rw [← e]; simp [filledV, nV])
/-- all numbers are small -/
def smallV (v : Ver) : Prop := v.1 < 10000000000 ∧ v.2.1 < 10000000000 ∧ v.2.2 < 10000000000
theorem nV_small {v : Ver} (h : smallV v) : ∀ n ∈ nV v, n < 10 ^ 10 := by
  obtain ⟨a, b, c⟩ := v
  obtain ⟨h1, h2, h3⟩ := h
  intro n hn
  simp only [nV, List.mem_cons, List.not_mem_nil, or_false] at hn
  simp only at h1 h2 h3
  rcases hn with rfl | rfl | rfl <;> omega
theorem take_ok {v : Ver} {m : Nat} (h : smallV v) (h1 : 1 ≤ m) (h3 : m ≤ 3) : PartOk ((nV v).take m) := ⟨(take_len h1 h3).pos, (take_len h1 h3).le, fun n hn => nV_small h n (List.mem_of_mem_take hn)⟩
abbrev sPartT : Stmt := top 32
abbrev sVerT : Stmt := top 42
abbrev sRdV : Stmt := top 43
theorem scPartT : FnScope ["numbers", "number"] ["numbers"] (defScope sPartT) := ⟨rfl, rfl, rfl, by decide +kernel, rfl, by decide +kernel, by decide +kernel⟩
theorem scVerT : FnScope ["version"] ["version"] (defScope sVerT) := ⟨rfl, rfl, rfl, by decide +kernel, rfl, by decide +kernel, by decide +kernel⟩
theorem scRdV : FnScope ["text", "numbers"] ["text"] (defScope sRdV) := ⟨rfl, rfl, rfl, by decide +kernel, rfl, by decide +kernel, by decide +kernel⟩
section
variable {P : Program} {w : World} {K : PySem.W.Frag} {mg : Str → Option Value} {base : Heap}
theorem ok_partT {f : Addr} {fd : FuncData} {k : Nat} (F : Fun K "part_text" "part_text" sPartT f fd) (ms : mg "str" = none) : FnOk P w K mg base CX0 (k + 1) f fd ["numbers"] (spPartW K) := by
  refine F.ok scPartT (fun vs H Q E h => ?_) (fun cdv A outer s H vs Q E hr h => ?_)
  · obtain ⟨a, ps, rfl, _⟩ := h
    rfl
  · obtain ⟨a, ps, rfl, ha, ok, q⟩ := h
    refine ⟨_, pss_one (ps_ret (pe_join pe_str (pe_lc (own := [("number", 1)]) (g := gName 1) (tt := tYes) rfl scPartT.nd (pi_tup (pv 0)) (blkOk_by (N := ["numbers", "number"]) (sc := defScope sPartT) (by decide +kernel))
        (fun _ _ _ _ _ => pg_name (i := 1) scPartT.nd rfl (Or.inl rfl)) (fun _ _ _ _ _ => pts_nil) (fun _ _ _ _ _ => pe_callTy call_str_int (by rfl) ms (by decide +kernel) (pa_cons (pv 1) pa_nil))))), ?_⟩
    refine ⟨⟨_, rfl⟩, _, rfl, a, rfl, ⟨_, ha⟩, fun D hD => ?_⟩
    refine lc_tup (K := K) (a := a) (xs := tupN ps) (fun i H' => Same H H' ∧ H' D = some (.lst (strL ((ps.take i).map TL.numL)))) ⟨same_upd hD, upd_same⟩ (fun i H' _ R => Same.sqT R.1 ha) ?_ ?_
    · rintro i y H' hy ⟨s1, h1⟩
      rw [List.getElem?_map] at hy
      obtain ⟨n, hn, rfl⟩ := Option.map_eq_some_iff.mp hy
      have il := (List.getElem?_eq_some_iff.mp hn).1
      have lp := ok.le
      refine ⟨rfl, yesI ⟨_, rfl, (n : Int), rfl, log_smallN (ok.bd n (List.mem_of_getElem? hn)), _, h1, ?_, fun b o y => by rw [upd_ne (ne_of_none y hD)]; exact s1 _ _ y, ?_⟩⟩
      · rw [List.length_map, List.length_map, List.length_take]
        exact small1000 (by omega)
      · rw [upd_same, take_snoc hn]
        simp only [strL, List.map_append, List.map_cons, List.map_nil]
        rw [← num_S]
    · rintro H' ⟨s1, h1⟩
      rw [List.length_map, List.take_length] at h1
      have lp := ok.le
      refine ⟨S [46], D, (ps.map TL.numL).map S, rfl, rfl, .inl (SqL.of (by rw [h1]; simp [strL])), ?_, ?_⟩
      · rw [lens, List.length_map, List.length_map, S_len]
        rcases ok.cases with ⟨a, rfl⟩ | ⟨a, b, rfl⟩ | ⟨a, b, c, rfl⟩
        all_goals
          simp only [List.map_cons, List.map_nil, List.sum_cons, List.sum_nil, List.length_cons, List.length_nil]
          have l : ∀ n : Nat, n < 10 ^ 10 → (TL.numL n).length ≤ 10 := fun n hn => TL.numL_len (k := 10) (by decide) hn
        · have := l a (ok.bd a (by simp))
          omega
        · have := l a (ok.bd a (by simp))
          have := l b (ok.bd b (by simp))
          omega
        · have := l a (ok.bd a (by simp))
          have := l b (ok.bd b (by simp))
          have := l c (ok.bd c (by simp))
          omega
      · rw [join_S]
        exact q H' s1
end
def badT (ws : List (List Nat)) : Option Nat := if ws[0]? = some noneL then (if ws.length = 1 then none else some 1) else badR ws (ws.length + 1) 0
abbrev wordsT (t : List Nat) : List (List Nat) := TL.spl [32] 0 [] t
def NotS (K : PySem.W.Frag) (H : Hp) (x : V) : Prop := ∃ t : Value, TyX K H x t ∧ PySem.W.kitOne K t (.type "str") = some false
def spReadG (K : PySem.W.Frag) (T : List (Addr × Str)) (CB : Addr) : Sp := fun vs H Q E => ∃ x : V, vs = [x] ∧ Tabs T H ∧ ((NotS K H x ∧ XAt E CB (.int 0) H) ∨
  ∃ t : List Nat, x = .str (S t) ∧ t.length ≤ 590 ∧ smT t ∧ (wordsT t).length ≤ 60 ∧ (badT (wordsT t) = none → ∀ H' z, ExtN H H' → Tabs T H' → Q z H') ∧ ∀ b, badT (wordsT t) = some b → XAt E CB (.int (b : Int)) H)
def spVerT (K : PySem.W.Frag) (CV : Addr) : Sp := fun vs H Q E => ∃ x : V, vs = [x] ∧ ((∃ v, IsVer K H x v ∧ okV v ∧ smallV v ∧ ∀ H', Same H H' → Q (.str (S (partL (nV v)))) H') ∨ (VerB K H x false ∧ ∀ H', Same H H' → E (.ref CV) none H'))
def verW (w : List Nat) : Bool := isPrt w && decide ((pcs w).length = 3)
def spRdV (K : PySem.W.Frag) (CB : Addr) : Sp := fun vs H Q E => ∃ x : V, vs = [x] ∧ ((NotS K H x ∧ XAt E CB (.int 0) H) ∨
  ∃ t : List Nat, x = .str (S t) ∧ t.length ≤ 590 ∧ smT t ∧ (verW t = true → ∀ H' p, Same H H' → SqT K H' p (tupN (numsW t)) → Q (.ref p) H') ∧ (verW t = false → XAt E CB (.int 0) H))
theorem words_ok {t : List Nat} (l : t.length ≤ 590) (sm : smT t) (n : (wordsT t).length ≤ 60) : OkWs (wordsT t) := ⟨n, fun w hw => ⟨by
  have := (spl_bd 32 t []).2.2 w hw
  simp at this
  omega, spl_small 32 t [] sm (fun d hd => nomatch hd) w hw⟩⟩
theorem words_cut (t : List Nat) : Txt.split (S t) (S [32]) = (wordsT t).map S := split_S (by decide) (by decide)
section
variable {P : Program} {w : World} {K : PySem.W.Frag} {mg : Str → Option Value} {base : Heap}
theorem ok_verT {f CV : Addr} {fd : FuncData} {k : Nat} (F : Fun K "version_text" "version_text" sVerT f fd) (DV : DefX P w K mg base "check_version" k ["version"] (spChkV K CV)) (DP : Def P w K mg base "part_text" CX0 k ["numbers"] (spPartW K)) : FnOk P w K mg base (L2.CX P w) (k + 1) f fd ["version"] (spVerT K CV) := by
  refine F.okX scVerT (fun vs H Q E h => ?_) (fun cdv A outer s H vs Q E hr h => ?_)
  · obtain ⟨x, rfl, _⟩ := h
    rfl
  · obtain ⟨x, rfl, h⟩ := h
    refine ⟨_, pss_cons (ps_expr (pe_dX DV hr (takes_of rfl rfl rfl rfl) (pa_cons (pv 0) pa_nil))) (pss_one (ps_ret (pe_d DP hr (pa_cons (pv 0) pa_nil)))), ?_⟩
    rcases h with ⟨v, hx, ov, sv, q⟩ | ⟨hx, q⟩
    · refine ⟨x, rfl, x, true, rfl, .of hx ov, fun _ H1 s1 => ?_, fun z => Bool.noConfusion z⟩
      obtain ⟨a, rfl, ga⟩ := hx
      rw [v3_nat ov] at ga
      exact ⟨_, rfl, a, nV v, rfl, Same.sqT s1 ga, take_ok (m := 3) sv (by decide) (by decide), fun H2 s2 => q H2 (s1.trans s2)⟩
    · exact ⟨x, rfl, x, false, rfl, hx, fun z => Bool.noConfusion z, fun _ H1 s1 => q H1 s1⟩
theorem ok_rdV {f CB : Addr} {fd : FuncData} {k : Nat} (F : Fun K "read_version" "read_version" sRdV f fd) (O : TxtErr P K mg "BadText" CB) (mi : mg "isinstance" = none) (mst : mg "str" = none) (ml : mg "len" = none) (DP : Def P w K mg base "part_numbers" CX0 k ["word"] (spPrt K)) : FnOk P w K mg base (L2.CX P w) (k + 1) f fd ["text"] (spRdV K CB) := by
  refine F.okX scRdV (fun vs H Q E h => ?_) (fun cdv A outer s H vs Q E hr h => ?_)
  · obtain ⟨x, rfl, _⟩ := h
    rfl
  · obtain ⟨x, rfl, h⟩ := h
    refine' ⟨_, pss_cons ?s1 (pss_cons ?s2 (pss_one ?s3)), ?_⟩
    case s1 => exact ps_set (i := 1) scRdV.nd rfl (.inl rfl) (pe_ifExp (pt_val (pe_callB call_isi (by rfl) mi (by decide +kernel) (pa_cons (pv 0) (pa_cons (pe_bltn (v := .ty "str") (by rfl) mst (by decide +kernel) rfl) pa_nil)))) (pe_d DP hr (pa_cons (pv 0) pa_nil)) pe_non)
    case s2 => exact ps_if (PW.pt (pw_or (pt_cmpR op_isN (pv 1) pe_non (nomark _)) (pw_or1 (pt_cmpR op_ne (pe_callB call_len_seq (by rfl) ml PySem.boot_len (pa_cons (pv 1) pa_nil)) pe_int (nomark _))))) (pss_one (ps_raiseT O rfl hr (takes_of rfl rfl rfl rfl) (pa_cons pe_int pa_nil))) pss_nil
    case s3 => exact ps_ret (pv 1)
    dsimp only [tSeq, tAsg, tRet, tIfS, gName, tNext]
    rcases h with ⟨⟨ty, h1, h2⟩, q⟩ | ⟨t, rfl, lt, sm, q1, q2⟩
    · refine ⟨_, rfl, x, .ty "str", ty, .type "str", false, rfl, .ty _, h1, h2, false, rfl, iteF ?_⟩
      refine ⟨_, rfl, rfl, _, rfl, iteT (iteT ⟨.int 0, rfl, shown_nat (i := 0) (by decide), fun d hd => ?_⟩)⟩
      exact q _ d (same_upd hd) upd_same
    · refine ⟨_, rfl, .str (S t), .ty "str", .type "str", .type "str", true, rfl, .ty _, Flat.ty (.str _), kit_ty (by decide +kernel), true, rfl, iteT ?_⟩
      refine ⟨_, rfl, t, rfl, by omega, sm, fun yes H1 p s1 hp => ?_, fun no H1 s1 => ?_⟩
      · refine ⟨_, rfl, rfl, _, rfl, iteF ⟨_, rfl, p, _, rfl, .inr hp, rfl, _, rfl, ?_⟩⟩
        have e : ((tupN (numsW t)).length : Int) = ((pcs t).length : Int) := by
          unfold numsW
          simp
        rw [e]
        by_cases c : (pcs t).length = 3
        · rw [show (!decide (V.int ((pcs t).length : Int) = V.int 3)) = false by rw [c]; rfl]
          exact iteF ⟨_, rfl, q1 (by unfold verW; rw [yes, decide_eq_true c]; rfl) H1 p s1 hp⟩
        · rw [show (!decide (V.int ((pcs t).length : Int) = V.int 3)) = true by
            rw [decide_eq_false fun z => c (by have := V.int.inj z; omega)]
            rfl]
          refine iteT ⟨.int 0, rfl, shown_nat (i := 0) (by decide), fun d hd => ?_⟩
          exact q2 (by unfold verW; rw [decide_eq_false c, Bool.and_false]) _ d (s1.trans (same_upd hd)) upd_same
      · refine ⟨_, rfl, rfl, _, rfl, iteT (iteT ⟨.int 0, rfl, shown_nat (i := 0) (by decide), fun d hd => ?_⟩)⟩
        exact q2 (by unfold verW; rw [no, Bool.false_and]) _ d (s1.trans (same_upd hd)) upd_same
end
end Kw
set_option maxHeartbeats 4000000
namespace Kw
open PySem PySem.Spec PyProof.Rows L2 LamX SX
/-! ### read_range of any text -/
theorem some_okE {ss : List Str2} (h : ∀ s ∈ ss, OkE s) : ∀ s ∈ ss.filter someS, okS s := fun s hs => by
  obtain ⟨h1, h2⟩ := List.mem_filter.mp hs
  have o := h s h1
  refine ⟨o.l, fun u hu => ⟨o.h u hu, ?_⟩⟩
  unfold someS someIn at h2
  rw [hu] at h2
  exact of_decide_eq_true h2
section
variable {P : Program} {w : World} {K : PySem.W.Frag} {mg : Str → Option Value} {base : Heap}
theorem ok_readG {f CR CE CB : Addr} {fd : FuncData} {k : Nat} {T : List (Addr × Str)} (F : Fun K "read_range" "read_range" sRead f fd) (O : TxtErr P K mg "BadText" CB) (mi : mg "isinstance" = none) (mst : mg "str" = none) (ml : mg "len" = none) (M : RangeMk0 P w K mg base CR CE T k) (DR : Def P w K mg base "range_of" CX0 (k + 1) ["stretches"] (spRangeOf K T CR)) (DC : DefX P w K mg base "read_choices" (k + 1) ["words"] (spChoicesG K CB)) :
    FnOk P w K mg base (L2.CX P w) (k + 2) f fd ["text"] (spReadG K T CB) := by
  refine F.okX scRead (fun vs H Q E h => ?_) (fun cdv A outer s H vs Q E hr h => ?_)
  · obtain ⟨x, rfl, _⟩ := h
    rfl
  · obtain ⟨x, rfl, hT, h⟩ := h
    refine' ⟨_, pss_cons ?s1 (pss_cons ?s2 (pss_cons ?s3 (pss_one ?s4))), ?_⟩
    case s1 => exact ps_if (pt_not (pt_val (pe_callB call_isi (by rfl) mi (by decide +kernel) (pa_cons (pv 0) (pa_cons (pe_bltn (v := .ty "str") (by rfl) mst (by decide +kernel) rfl) pa_nil))))) (pss_one (ps_raiseT O rfl hr (takes_of rfl rfl rfl rfl) (pa_cons pe_int pa_nil))) pss_nil
    case s2 => exact ps_set (i := 1) scRead.nd rfl (.inl rfl) (pe_split (pv 0) pe_str)
    case s3 => exact ps_if (pt_cmpR op_eq (pe_ix (r := rIxL K) ix_list (pv 1) pe_int (fun _ _ => rfl)) pe_str (nomark _)) (pss_cons (ps_if (pt_cmpR op_gt (pe_callB call_len_seq (by rfl) ml PySem.boot_len (pa_cons (pv 1) pa_nil)) pe_int (nomark _)) (pss_one (ps_raiseT O rfl hr (takes_of rfl rfl rfl rfl) (pa_cons pe_int pa_nil))) pss_nil) (pss_one (ps_ret (pe_rng0 M hr passL)))) pss_nil
    case s4 => exact ps_ret (pe_d DR hr (pa_cons (pe_lc (own := [("low", 2), ("high", 3)]) (g := gTup K 2 (gCons (gName 2) (gCons (gName 3) gNil))) (te := tTup (tCons (tVar 2) (tCons (tVar 3) tNil))) (tt := tOr (tTest (tOp (fun x y H Q => y = .non ∧ Q (.bl (decide (x = .non))) H) (tVar 3) (tC .non))) (tTest (tOp (rVer K .Lt) (tVar 2) (tVar 3)))) rfl scRead.nd (pi_list (pe_dX DC hr (takes_of rfl rfl rfl rfl) (pa_cons (pv 1) pa_nil))) (blkOk_by (N := nRd) (sc := defScope sRead) (by decide +kernel))
        (fun _ _ _ _ _ => pg_tup rfl (pgs_cons (pg_name (i := 2) scRead.nd rfl (.inl rfl)) (pgs_cons (pg_name (i := 3) scRead.nd rfl (.inl rfl)) pgs_nil))) (fun _ _ _ _ _ => pts_one (PW.pt (pw_or (pt_cmpR op_isN (pv 3) pe_non (nomark _)) (pw_or1 (pt_cmpR (op_ver (op := .Lt) (.inl rfl) hr.units0) (pv 2) (pv 3) (nomark _))))))
        (fun _ _ _ _ _ => pe_tup (pa_cons (pv 2) (pa_cons (pv 3) pa_nil)))) pa_nil))
    dsimp only [tSeq, tAsg, tRet, tIfS, gName, tNext, tDrop]
    rcases h with ⟨⟨ty, h1, h2⟩, q⟩ | ⟨t, rfl, lt, sm, wn, q1, q2⟩
    · refine ⟨_, rfl, x, .ty "str", ty, .type "str", false, rfl, .ty _, h1, h2, false, rfl, iteT ?_⟩
      refine ⟨.int 0, rfl, shown_nat (i := 0) (by decide), fun d hd => ?_⟩
      exact q _ d (same_upd hd) upd_same
    · have ok := words_ok lt sm wn
      refine ⟨_, rfl, .str (S t), .ty "str", .type "str", .type "str", true, rfl, .ty _, Flat.ty (.str _), kit_ty (by decide +kernel), true, rfl, iteF ?_⟩
      refine ⟨_, rfl, ⟨_, rfl⟩, S t, " ", rfl, rfl, by decide, by rw [S_len, sizeLine_eq]; omega, fun p hp => ?_⟩
      have k1 := same_upd (o := .lst ((Txt.split (S t) " ").map V.str)) hp
      have at1 : upd H p (.lst ((Txt.split (S t) " ").map V.str)) p = some (.lst (strL (wordsT t))) := by
        rw [upd_same, show ((" " : Str)) = S [32] from rfl, words_cut]
        simp [strL]
      generalize upd H p (.lst ((Txt.split (S t) " ").map V.str)) = H1 at k1 at1 ⊢
      have wne : wordsT t ≠ [] := (spl_bd 32 t []).2.1
      generalize wordsT t = ws at ok at1 q1 q2 wn wne
      cases h0 : ws[0]? with
      | none =>
        have z := List.getElem?_eq_none_iff.mp h0
        exact absurd (List.length_eq_zero_iff.mp (by omega)) wne
      | some w0 =>
        refine ⟨_, rfl, p, _, 0, _, rfl, rfl, SqL.of at1, atI_nat (j := 0) (strL_at h0), rfl, _, rfl, ?_⟩
        rw [show ("none" : Str) = S noneL from rfl, str_is]
        by_cases c : w0 = noneL
        · rw [decide_eq_true c]
          refine iteT ⟨_, rfl, p, _, rfl, .inl (SqL.of at1), _, 1, rfl, rfl, _, rfl, ?_⟩
          by_cases l1 : ws.length = 1
          · have e : badT ws = none := by
              unfold badT
              rw [h0, c, if_pos rfl, if_pos l1]
            rw [show decide (((strL ws).length : Int) > 1) = false from decide_eq_false (by rw [List.length_map]; omega)]
            exact iteF ⟨hT.ext k1, fun H2 x e2 T2 hR _ => q1 e H2 _ ((ExtN.same k1).trans e2) T2⟩
          · have e : badT ws = some 1 := by
              unfold badT
              rw [h0, c, if_pos rfl, if_neg l1]
            have l0 := (List.getElem?_eq_some_iff.mp h0).1
            rw [show decide (((strL ws).length : Int) > 1) = true from decide_eq_true (by rw [List.length_map]; omega)]
            refine iteT ⟨.int 1, rfl, shown_nat (i := 1) (by decide), fun d hd => ?_⟩
            exact (q2 1 e).same k1 _ d (same_upd hd) upd_same
        · have e : badT ws = badR ws (ws.length + 1) 0 := by
            unfold badT
            rw [h0, if_neg fun z => c (Option.some.inj z)]
          rw [decide_eq_false c]
          refine iteF ⟨_, rfl, p, ws, rfl, SqL.of at1, ok, fun bn H2 D zs ss s2 hD hz os ls => ⟨D, rfl, ⟨_, SqL.of hD⟩, fun L hL => ?_⟩, fun b hb => (q2 b (by rw [e, hb])).same k1⟩
          refine lc_list (K := K) (a := D) (xs := zs) (fun i H' => Same H2 H' ∧ ∃ ys, H' L = some (.lst ys) ∧ Strs K H' ys ((ss.take i).filter someS)) ⟨same_upd hL, [], upd_same, rfl, fun i x s h => by simp at h⟩ (fun i H' _ R => SqL.of (R.1 _ _ hD)) ?_ ?_
          · rintro i y H3 hy ⟨s3, ys, hL3, hys⟩
            obtain ⟨st, hst, pa, lo, hh, rfl, g1, g2, g3⟩ := (hz.same s3).get hy
            have il := (List.getElem?_eq_some_iff.mp hst).1
            have ly : ys.length ≤ 60 := by
              rw [hys.len]
              have := List.length_filter_le someS (ss.take i)
              rw [List.length_take] at this
              omega
            refine ⟨pa, [lo, hh], rfl, g1, rfl, _, _, rfl, _, _, rfl, rfl, rfl, ?_⟩
            rw [take_snoc hst, List.filter_append]
            have yes : someS st = true → ∀ pn, H3 pn = none → ∃ acc, (upd H3 pn (.tup [lo, hh])) L = some (.lst acc) ∧ acc.length < sizeLine ∧ (Same H2 (upd (upd H3 pn (.tup [lo, hh])) L (.lst (acc ++ [.ref pn]))) ∧ ∃ ys, (upd (upd H3 pn (.tup [lo, hh])) L (.lst (acc ++ [.ref pn]))) L = some (.lst ys) ∧ Strs K (upd (upd H3 pn (.tup [lo, hh])) L (.lst (acc ++ [.ref pn]))) ys ((ss.take i).filter someS ++ [st].filter someS)) := fun e pn hpn => by
              have t1 := same_upd (o := .tup [lo, hh]) hpn
              have hL4 := t1 _ _ hL3
              have f1 : Fr1 L (upd H3 pn (.tup [lo, hh])) (upd (upd H3 pn (.tup [lo, hh])) L (.lst (ys ++ [.ref pn]))) := Fr1.put
              refine ⟨ys, hL4, small1000 (by omega), fun b o z => ?_, ys ++ [.ref pn], upd_same, ?_⟩
              · rw [upd_ne (ne_of_none z hL)]
                exact t1 _ _ (s3 _ _ z)
              · rw [show [st].filter someS = [st] by simp [List.filter, e]]
                exact (f1.strs hL4 (hys.same t1)).snoc (f1.str (s := st) hL4 ⟨pn, lo, hh, rfl, .inl (.inl upd_same), g2.same t1, g3.same t1⟩)
            refine ⟨_, rfl, rfl, _, rfl, ?_⟩
            rw [isEnd_non g3]
            obtain ⟨st1, st2⟩ := st
            cases st2 with
            | none => exact iteT (iteT ⟨_, rfl, _, rfl, by show 2 ≤ sizeLine; decide, fun pn hpn => yes rfl pn hpn⟩)
            | some u =>
              refine iteF ⟨_, rfl, _, rfl, st1, u, g2, g3, _, rfl, ?_⟩
              by_cases c : ltV st1 u
              · rw [show cmpV .Lt st1 u = true from decide_eq_true c]
                exact iteT ⟨_, rfl, _, rfl, by show 2 ≤ sizeLine; decide, fun pn hpn => yes (decide_eq_true c) pn hpn⟩
              · rw [show cmpV .Lt st1 u = false from decide_eq_false c]
                refine iteF ⟨s3, ys, hL3, ?_⟩
                rw [show [((st1, some u) : Str2)].filter someS = [] by simp [List.filter, someS, someIn, c], List.append_nil]
                exact hys
          · rintro H3 ⟨s3, ys, hL3, hys⟩
            rw [List.take_of_length_le (Nat.le_of_eq hz.len.symm)] at hys
            have k3 := (k1.trans s2).trans s3
            refine ⟨L, ys, _, rfl, hT.ext k3, .inl (SqL.of hL3), hys, ?_, fun H4 x ss' e4 T4 hR pm pw => q1 (by rw [e, bn]) H4 _ ((ExtN.same k3).trans e4) T4⟩
            have := List.length_filter_le someS ss
            omega
end
end Kw
set_option maxHeartbeats 4000000
namespace Kw
open PySem PySem.Spec PyProof.Rows L2 LamX SX
/-! ### the law's own look at a term -/
abbrev sIsTrm : Stmt := top 59
abbrev sgs7 : List Sg := [.ge, .le, .gt, .lt, .eq, .til, .car]
def fitG (w : List Nat) (g : Sg) : Bool := startsB w g.txt && isPrt (w.drop g.txt.length)
theorem spl_first (s : Nat) : ∀ (w acc : List Nat), ∃ r tl, TL.spl [s] 0 acc w = (acc ++ r) :: tl
  | [], acc => ⟨[], [], by rw [TL.spl_nil, List.append_nil]⟩
  | c :: w, acc => by
    cases h : TL.pre [s] (c :: w) with
    | true =>
      rw [TL.spl_hit h]
      exact ⟨[], _, by rw [List.append_nil]⟩
    | false =>
      rw [TL.spl_miss h]
      obtain ⟨r, tl, e⟩ := spl_first s w (acc ++ [c])
      exact ⟨c :: r, tl, by rw [e]; simp⟩
theorem prt_head {w : List Nat} (h : isPrt w = true) : ∃ c r, w = c :: r ∧ 48 ≤ c ∧ c ≤ 57 := by
  unfold isPrt at h
  simp only [Bool.and_eq_true] at h
  have hall := List.all_eq_true.mp h.2
  cases w with
  | nil =>
    have e : pcs [] = [[]] := rfl
    rw [e] at hall
    exact absurd (hall [] (by simp)) (by decide)
  | cons c r =>
    refine ⟨c, r, rfl, ?_⟩
    cases hp : TL.pre [46] (c :: r) with
    | true =>
      have e : pcs (c :: r) = [] :: TL.spl [46] ([46].length - 1) [] r := TL.spl_hit hp
      rw [e] at hall
      exact absurd (hall [] (by simp)) (by decide)
    | false =>
      have e : pcs (c :: r) = TL.spl [46] 0 ([] ++ [c]) r := TL.spl_miss hp
      obtain ⟨r2, tl, e2⟩ := spl_first 46 r ([] ++ [c])
      rw [e, e2] at hall
      obtain ⟨_, d⟩ := cnt_digs (hall ([] ++ [c] ++ r2) (by simp))
      have := List.all_eq_true.mp d c (by simp)
      simpa using this
theorem sg_txt_of {w : List Nat} {g : Sg} (ns : g ≠ .star) (hs : startsB w g.txt = true) (hp : isPrt (w.drop g.txt.length) = true) : (sgOf w).txt = g.txt := by
  obtain ⟨c, r, e, h⟩ := prt_head hp
  unfold startsB at hs
  simp only [Bool.and_eq_true, decide_eq_true_eq, beq_iff_eq] at hs
  have ew : w = g.txt ++ c :: r := by
    have := (List.take_append_drop g.txt.length w).symm
    rw [hs.2, e] at this
    exact this
  have h1 := sg_head w
  have h2 := sign_first (sg := g) (r := r) ns h
  rw [← ew, h1] at h2
  exact Option.some.inj h2
theorem trm_law (w : List Nat) : isTrm w = ((decide (w = [42]) || isPrt w) || sgs7.any (fitG w)) := by
  have e0 : startsB w Sg.none.txt = true := by
    unfold startsB
    simp [Sg.txt]
  unfold isTrm
  rw [Bool.or_assoc]
  congr 1
  rw [Bool.eq_iff_iff, Bool.or_eq_true, List.any_eq_true]
  constructor
  · intro h
    by_cases c : sgOf w = .none
    · left
      rw [c] at h
      simpa [Sg.txt] using h
    · right
      refine ⟨sgOf w, ?_, ?_⟩
      · have h1 := List.mem_of_find?_eq_some (sg_found w)
        simp only [sgs8, List.mem_cons, List.not_mem_nil, or_false] at h1
        rcases h1 with e | e | e | e | e | e | e | e <;> first | exact absurd e c | (rw [e]; simp)
      · unfold fitG
        rw [sg_starts, h]
        rfl
  · rintro (h | ⟨g, hg, h⟩)
    · have t := sg_txt_of (w := w) (g := .none) (by decide) e0 (by simpa [Sg.txt] using h)
      rw [t]
      simpa [Sg.txt] using h
    · unfold fitG at h
      rw [Bool.and_eq_true] at h
      have t := sg_txt_of (w := w) (g := g) (fun e => by rw [e] at hg; simp at hg) h.1 h.2
      rw [t]
      exact h.2
theorem take_starts (w b : List Nat) : decide (w.take b.length = b) = startsB w b := by
  unfold startsB
  by_cases c : w.take b.length = b
  · have l := congrArg List.length c
    rw [List.length_take] at l
    rw [decide_eq_true c, decide_eq_true (show b.length ≤ w.length by omega), c]
    simp
  · rw [decide_eq_false c]
    have : (w.take b.length == b) = false := by simpa using c
    rw [this, Bool.and_false]
theorem scIsTrm : FnScope ["_law_word", "_law_sign"] ["_law_word"] (defScope sIsTrm) := ⟨rfl, rfl, rfl, by decide +kernel, rfl, by decide +kernel, by decide +kernel⟩
def spTrmB : Sp := fun vs H Q _ => ∃ w : List Nat, vs = [.str (S w)] ∧ w.length ≤ 600 ∧ smT w ∧ ∀ H', Same H H' → Q (.bl (isTrm w)) H'
section
variable {P : Program} {w : World} {K : PySem.W.Frag} {mg : Str → Option Value} {base : Heap}
theorem ok_isTrm {f : Addr} {fd : FuncData} {k : Nat} (F : Fun K "_law_is_term" "_law_is_term" sIsTrm f fd) (ml : mg "len" = none) (DP : Def P w K mg base "_law_is_part" CX0 k ["_law_word"] spPrtB) : FnOk P w K mg base CX0 (k + 1) f fd ["_law_word"] spTrmB := by
  refine F.ok scIsTrm (fun vs H Q E h => ?_) (fun cdv A outer s H vs Q E hr h => ?_)
  · obtain ⟨w, rfl, _⟩ := h
    rfl
  · obtain ⟨w, rfl, lw, sm, q⟩ := h
    refine' ⟨_, pss_cons ?s1 (pss_cons ?s2 (pss_one ?s3)), ?_⟩
    case s1 => exact ps_if (PW.pt (pw_or (pt_cmpR op_eq (pv 0) pe_str (nomark _)) (pw_or1 (pt_val (pe_d DP hr (pa_cons (pv 0) pa_nil)))))) (pss_one (ps_ret pe_bl)) pss_nil
    case s2 => exact (ps_for PassesOwn.never rfl (pi_list (pe_lst (pa_cons pe_str (pa_cons pe_str (pa_cons pe_str (pa_cons pe_str (pa_cons pe_str (pa_cons pe_str (pa_cons pe_str pa_nil))))))))) (pg_name (i := 1) scIsTrm.nd rfl (.inl rfl))
      (pss_one (ps_if (PW.pt (pw_and (pt_cmpR op_eq (pe_slice sl_str (pv 0) po_none (po_some (pe_callB call_len_str (by rfl) ml PySem.boot_len (pa_cons (pv 1) pa_nil)))) (pv 1) (nomark _)) (pw_and1 (pt_val (pe_d DP hr (pa_cons (pe_slice sl_str (pv 0) (po_some (pe_callB call_len_str (by rfl) ml PySem.boot_len (pa_cons (pv 1) pa_nil))) po_none) pa_nil)))))) (pss_one (ps_ret pe_bl)) pss_nil)))
    case s3 => exact ps_ret pe_bl
    have szw : (S w).length ≤ sizeLine := by rw [S_len, sizeLine_eq]; omega
    dsimp only [tSeq, tAsg, tRet, tIfS, gName, tNext]
    refine ⟨_, rfl, rfl, _, rfl, ?_⟩
    rw [show ("*" : Str) = S [42] from rfl, str_is]
    by_cases c1 : w = [42]
    · have q := q H (Same.refl H)
      rw [trm_law, decide_eq_true c1] at q
      rw [decide_eq_true c1]
      have q : Q (.bl true) H := by simpa using q
      exact iteT (iteT q)
    rw [decide_eq_false c1]
    refine iteF ⟨_, rfl, w, rfl, lw, sm, fun H1 s1 => ⟨_, rfl, ?_⟩⟩
    cases c2 : isPrt w with
    | true =>
      have q := q H1 s1
      rw [trm_law, c2] at q
      have q : Q (.bl true) H1 := by simpa using q
      exact iteT q
    | false =>
      refine iteF ⟨by show 7 ≤ sizeLine; decide, fun pw hpw => ?_⟩
      have k2 := same_upd (o := .lst (sgs7.map fun g => V.str (S g.txt))) hpw
      have hW : upd H1 pw (.lst (sgs7.map fun g => V.str (S g.txt))) pw = some (.lst (sgs7.map fun g => V.str (S g.txt))) := upd_same
      refine ⟨pw, rfl, ⟨_, SqL.of hW⟩, for_list (K := K) (a := pw) (xs := sgs7.map fun g => V.str (S g.txt)) (fun i σ H' => ∃ y1 : Option V, σ = [some (.str (S w)), y1] ∧ Same (upd H1 pw (.lst (sgs7.map fun g => V.str (S g.txt)))) H' ∧ ∀ g ∈ sgs7.take i, fitG w g = false) ⟨none, rfl, Same.refl _, fun g hg => by simp at hg⟩ (fun i σ H' _ ⟨_, _, s3, _⟩ => SqL.of (s3 _ _ hW)) ?_ ?_⟩
      · rintro i w0 σ H3 hi ⟨y1, rfl, s3, hn⟩
        rw [List.getElem?_map] at hi
        obtain ⟨g, hg, rfl⟩ := Option.map_eq_some_iff.mp hi
        have l2 : g.txt.length ≤ 2 := by cases g <;> decide
        have szg : (S g.txt).length ≤ sizeLine := by rw [S_len, sizeLine_eq]; omega
        have step : fitG w g = false → ∀ H', Same H3 H' → ∃ y1 : Option V, [some (V.str (S w)), some (.str (S g.txt))] = [some (.str (S w)), y1] ∧ Same (upd H1 pw (.lst (sgs7.map fun g => V.str (S g.txt)))) H' ∧ ∀ g ∈ sgs7.take (i + 1), fitG w g = false := fun e H' s' => by
          refine ⟨_, rfl, s3.trans s', fun u hu => ?_⟩
          rw [take_snoc hg] at hu
          rcases List.mem_append.mp hu with hu | hu
          · exact hn u hu
          · rw [List.mem_singleton.mp hu]
            exact e
        dsimp only [tSeq, tAsg, tRet, tIfS, gName, tNext]
        refine ⟨_, rfl, _, rfl, S g.txt, rfl, szg, _, rfl, S w, rfl, szw, ?_⟩
        rw [show cutS (S w) none (some ((S g.txt).length : Int)) = S (w.take g.txt.length) by rw [C8.cutS_slice, slice_to (by omega), S_len, Int.toNat_natCast]]
        refine ⟨_, rfl, rfl, _, rfl, ?_⟩
        rw [str_is, take_starts]
        cases st : startsB w g.txt with
        | false => exact iteF (iteF (step (by unfold fitG; rw [st]; rfl) H3 (Same.refl _)))
        | true =>
          refine iteT ⟨_, rfl, _, rfl, S g.txt, rfl, szg, _, rfl, S w, rfl, szw, ?_⟩
          rw [show cutS (S w) (some ((S g.txt).length : Int)) none = S (w.drop g.txt.length) by rw [C8.cutS_slice, slice_from (by omega), S_len, Int.toNat_natCast]]
          refine ⟨w.drop g.txt.length, rfl, by rw [List.length_drop]; omega, fun c hc => sm c (List.mem_of_mem_drop hc), fun H4 s4 => ⟨_, rfl, ?_⟩⟩
          cases pp : isPrt (w.drop g.txt.length) with
          | false => exact iteF (step (by unfold fitG; rw [pp, Bool.and_false]) H4 s4)
          | true =>
            have q := q H4 (((s1.trans k2).trans s3).trans s4)
            have yes : sgs7.any (fitG w) = true := List.any_eq_true.mpr ⟨g, List.mem_of_getElem? hg, by unfold fitG; rw [st, pp]; rfl⟩
            rw [trm_law, yes, Bool.or_true] at q
            exact iteT q
      · rintro σ H3 ⟨y1, rfl, s3, hn⟩
        have q := q H3 ((s1.trans k2).trans s3)
        have no : sgs7.any (fitG w) = false := List.any_eq_false.mpr fun g hg => by
          rw [hn g (by simpa using hg)]
          exact Bool.false_ne_true
        rw [trm_law, no, c2, decide_eq_false c1] at q
        exact q
end
end Kw
set_option maxHeartbeats 4000000
namespace Kw
open PySem PySem.Spec PyProof.Rows L2 LamX SX
/-! ### the law's own look at words -/
abbrev sBadW : Stmt := top 60
theorem scBadW : FnScope ["_law_words", "_law_at"] ["_law_words"] (defScope sBadW) := ⟨rfl, rfl, rfl, by decide +kernel, rfl, by decide +kernel, by decide +kernel⟩
theorem cut_mid (ws : List (List Nat)) (i j : Nat) : cutV (strL ws) (some (i : Int)) (some (j : Int)) = strL ((ws.take j).drop i) := by
  unfold cutV
  rw [HT.sIx_nat, HT.sIx_nat, List.length_map, strL, ← List.map_drop, ← List.map_take]
  congr 1
  apply List.ext_getElem?
  intro n
  rw [List.getElem?_take, List.getElem?_drop, List.getElem?_drop, List.getElem?_take]
  by_cases h1 : i ≤ ws.length
  · rw [Nat.min_eq_left (a := i) (b := ws.length) h1]
    by_cases h2 : n < min j ws.length - i
    · rw [if_pos h2, if_pos (by omega)]
    · rw [if_neg h2]
      by_cases h3 : i + n < j
      · rw [if_pos h3, List.getElem?_eq_none (by omega)]
      · rw [if_neg h3]
  · rw [Nat.min_eq_right (a := i) (b := ws.length) (by omega)]
    rw [List.getElem?_eq_none (l := ws) (i := ws.length + n) (by omega), List.getElem?_eq_none (l := ws) (i := i + n) (by omega)]
    simp
theorem one_cut {ws : List (List Nat)} {i : Nat} {w : List Nat} : ((ws.take (i + 1)).drop i = [w]) ↔ ws[i]? = some w := by
  have e : (ws.take (i + 1)).drop i = (ws[i]?).toList := by
    apply List.ext_getElem?
    intro n
    rw [List.getElem?_drop, List.getElem?_take]
    cases n with
    | zero =>
      rw [Nat.add_zero, if_pos (Nat.lt_succ_self i)]
      cases ws[i]? <;> rfl
    | succ n =>
      rw [if_neg (by omega)]
      cases ws[i]? <;> simp
  rw [e]
  cases ws[i]? <;> simp
def optV : Option Nat → V
  | none => .non
  | some b => .int (b : Int)
def spBadW (K : PySem.W.Frag) : Sp := fun vs H Q _ => ∃ (a : Addr) (ws : List (List Nat)), vs = [.ref a] ∧ SqL K H a (strL ws) ∧ OkWs ws ∧ ws ≠ [] ∧ ∀ H', Same H H' → Q (optV (badT ws)) H'
section
variable {K : PySem.W.Frag} {σ : L2.St} {H : Hp} {a : Addr} {ws : List (List Nat)} {i : Nat}
theorem after_read {j : Nat} {D : Ends} (ha : SqL K H a (strL ws)) (jl : j ≤ ws.length) (q0 : ws[j]? = none → D.rt .non H) (q1 : ∀ w, ws[j]? = some w → w ≠ bars → D.rt (.int (j : Int)) H) (q2 : ws[j]? = some bars → D.nx [some (.ref a), some (.int ((j : Int) + 1))] H) :
    tSeq (tIfS (tTest (tOp rEq (tVar 1) (tCB (rLenS K) (tCons (tVar 0) tNil)))) (tRet (tC .non)) tNext) (tSeq (tIfS (tTest (tOp rNe (tOp (rIxL K) (tVar 0) (tVar 1)) (tC (.str "||")))) (tRet (tVar 1)) tNext) (tAsg (tOp (rI0 fun i j => .int (i + j)) (tVar 1) (tC (.int 1))) (gName 1))) D [some (.ref a), some (.int (j : Int))] H := by
  dsimp only [tSeq, tIfS, tRet, tNext, tAsg, gName]
  refine ⟨_, rfl, _, rfl, a, strL ws, rfl, .inl ha, rfl, _, rfl, ?_⟩
  cases e : ws[j]? with
  | none =>
    have l := List.getElem?_eq_none_iff.mp e
    rw [show decide (V.int (j : Int) = V.int ((strL ws).length : Int)) = true from decide_eq_true (by rw [List.length_map]; congr 1; omega)]
    exact iteT (q0 e)
  | some w =>
    have l := (List.getElem?_eq_some_iff.mp e).1
    rw [show decide (V.int (j : Int) = V.int ((strL ws).length : Int)) = false from decide_eq_false fun z => by
      have := V.int.inj z
      rw [List.length_map] at this
      omega]
    refine iteF ⟨_, rfl, _, rfl, a, strL ws, _, _, rfl, rfl, ha, atI_nat (strL_at e), rfl, _, rfl, ?_⟩
    rw [show ("||" : Str) = S bars from rfl, str_is]
    by_cases c : w = bars
    · rw [decide_eq_true c]
      rw [c] at e
      exact iteF ⟨_, rfl, _, 1, rfl, rfl, q2 e⟩
    · rw [decide_eq_false c]
      exact iteT ⟨_, rfl, q1 w e c⟩
/-- at >= len(words) or not f(words[at]) -/
theorem ge_or {g : List Nat → Bool} {sp : Sp} {n : Nat} {te : TE} (hsp : ∀ w H' (Q : VK), w.length ≤ 600 → smT w → (∀ H2, Same H' H2 → Q (.bl (g w)) H2) → sp [.str (S w)] H' Q E0) {Q : Bool → Hp → Prop} (h0 : σ[0]? = some (some (.ref a))) (ht : ∀ (H' : Hp) (R : VK), R (.int (n : Int)) H' → te σ H' R) (ha : SqL K H a (strL ws)) (ok : OkWs ws)
    (q : ∀ H', Same H H' → Q (!(match ws[n]? with | some w => g w | none => false)) H') :
    tOr (tTest (tOp (rI0 fun i j => .bl (decide (i ≥ j))) te (tCB (rLenS K) (tCons (tVar 0) tNil)))) (tNot (tB (tCall sp [] E0 (tCons (tOp (rIxL K) (tVar 0) te) tNil)))) σ H Q := by
  refine ht _ _ ⟨_, h0, a, strL ws, rfl, .inl ha, _, _, rfl, rfl, _, rfl, ?_⟩
  cases e : ws[n]? with
  | none =>
    have l := List.getElem?_eq_none_iff.mp e
    rw [e] at q
    rw [show decide ((n : Int) ≥ ((strL ws).length : Int)) = true from decide_eq_true (by rw [List.length_map]; omega)]
    exact iteT (q H (Same.refl H))
  | some w =>
    have l := (List.getElem?_eq_some_iff.mp e).1
    rw [e] at q
    obtain ⟨lw, sm⟩ := ok.word w (List.mem_of_getElem? e)
    rw [show decide ((n : Int) ≥ ((strL ws).length : Int)) = false from decide_eq_false (by rw [List.length_map]; omega)]
    refine iteF ⟨_, h0, ht _ _ ⟨a, strL ws, _, _, rfl, rfl, ha, atI_nat (strL_at e), ?_⟩⟩
    exact hsp w H _ (by omega) sm fun H2 s2 => ⟨_, rfl, q H2 s2⟩
/-- is_part(words[at]) and words[at + 1:at + 2] == ["-"] -/
theorem part_dash {Q : Bool → Hp → Prop} (h0 : σ[0]? = some (some (.ref a))) (h1 : σ[1]? = some (some (.int (i : Int)))) (ha : SqL K H a (strL ws)) (ok : OkWs ws) (il : i < ws.length) (q : ∀ H', Same H H' → Q (dashB ws i) H') :
    tAnd (tB (tCall spPrtB [] E0 (tCons (tOp (rIxL K) (tVar 0) (tVar 1)) tNil))) (tTest (tOp (rEqD K) (tSl (rSlL K) (tVar 0) (tPart (tOp (rI0 fun i j => .int (i + j)) (tVar 1) (tC (.int 1)))) (tPart (tOp (rI0 fun i j => .int (i + j)) (tVar 1) (tC (.int 2))))) (tLst (tCons (tC (.str "-")) tNil)))) σ H Q := by
  have e0 : ws[i]? = some ws[i] := List.getElem?_eq_getElem il
  obtain ⟨lw, sm⟩ := ok.word _ (List.getElem_mem il)
  have p0 : prtAt ws i = isPrt ws[i] := by
    unfold prtAt
    rw [e0]
  unfold dashB at q
  rw [p0] at q
  refine ⟨_, h0, _, h1, a, strL ws, _, _, rfl, rfl, ha, atI_nat (strL_at e0), ws[i], rfl, by omega, sm, fun H1 s1 => ⟨_, rfl, ?_⟩⟩
  cases pp : isPrt ws[i] with
  | false =>
    rw [pp, Bool.and_false] at q
    exact iteF (q H1 s1)
  | true =>
    rw [pp, Bool.and_true] at q
    have ha1 := s1.seq ha
    refine iteT ⟨_, h0, _, h1, _, _, rfl, rfl, _, rfl, _, h1, _, _, rfl, rfl, _, rfl, a, strL ws, rfl, ha1, fun p hp => ?_⟩
    have e : cutV (strL ws) (some ((i : Int) + 1)) (some ((i : Int) + 2)) = strL ((ws.take (i + 2)).drop (i + 1)) := cut_mid ws (i + 1) (i + 2)
    have k2 := same_upd (o := .lst (cutV (strL ws) (some ((i : Int) + 1)) (some ((i : Int) + 2)))) hp
    refine ⟨by show 1 ≤ sizeLine; decide, fun p2 hp2 => ?_⟩
    have k3 := same_upd (o := .lst (strL [[45]])) hp2
    have smw : smallW ((ws.take (i + 2)).drop (i + 1)) := fun u hu => (ok.word u (List.mem_of_mem_take (List.mem_of_mem_drop hu))).2
    have sm1 : smallW [[45]] := by unfold smallW; decide
    refine ⟨_, _, .lst (SqL.of (k3 _ _ (by rw [upd_same, e]))) (dp_txts _), .lst (SqL.of upd_same) (dp_txts [[45]]), shaped_txts smw, shaped_txts sm1, _, rfl, ?_⟩
    rw [eqv_txts]
    have q := q _ ((s1.trans k2).trans k3)
    rw [show decide ((ws.take (i + 2)).drop (i + 1) = [[45]]) = decide (ws[i + 1]? = some [45]) from decide_eq_decide.mpr one_cut]
    exact q
end
section
variable {P : Program} {w : World} {K : PySem.W.Frag} {mg : Str → Option Value} {base : Heap}
theorem ok_badW {f : Addr} {fd : FuncData} {k : Nat} (F : Fun K "_law_bad_word" "_law_bad_word" sBadW f fd) (ml : mg "len" = none) (DP : Def P w K mg base "_law_is_part" CX0 k ["_law_word"] spPrtB) (DT : Def P w K mg base "_law_is_term" CX0 k ["_law_word"] spTrmB) : FnOk P w K mg base CX0 (k + 1) f fd ["_law_words"] (spBadW K) := by
  refine F.ok scBadW (fun vs H Q E h => ?_) (fun cdv A outer s H vs Q E hr h => ?_)
  · obtain ⟨a, ws, rfl, _⟩ := h
    rfl
  · obtain ⟨a, ws, rfl, ha, ok, ne, q⟩ := h
    refine' ⟨_, pss_cons ?s1 (pss_cons ?s2 (pss_one ?s3)), ?_⟩
    case s1 => exact ps_if (pt_cmpR op_eq (pe_ix (r := rIxL K) ix_list (pv 0) pe_int (fun _ _ => rfl)) pe_str (nomark _)) (pss_one (ps_ret (pe_ifExp (pt_cmpR op_eq (pe_callB call_len_seq (by rfl) ml PySem.boot_len (pa_cons (pv 0) pa_nil)) pe_int (nomark _)) pe_non pe_int))) pss_nil
    case s2 => exact ps_set (i := 1) scBadW.nd rfl (.inl rfl) pe_int
    case s3 =>
      refine' ps_while PassesOwn.never (pt_val pe_bl) (pss_cons ?w1 (pss_cons ?w2 (pss_cons ?w3 (pss_cons ?w4 (pss_one ?w5)))))
      case w1 => exact ps_if (PW.pt (pw_or (pt_cmpR op_ge (pv 1) (pe_callB call_len_seq (by rfl) ml PySem.boot_len (pa_cons (pv 0) pa_nil)) (nomark _)) (pw_or1 (pt_not (pt_val (pe_d DT hr (pa_cons (pe_ix (r := rIxL K) ix_list (pv 0) (pv 1) (fun _ _ => rfl)) pa_nil))))))) (pss_one (ps_ret (pv 1))) pss_nil
      case w2 =>
        refine' ps_if ?c ?A ?B
        case c => exact PW.pt (pw_and (pt_val (pe_d DP hr (pa_cons (pe_ix (r := rIxL K) ix_list (pv 0) (pv 1) (fun _ _ => rfl)) pa_nil))) (pw_and1 (pt_cmpR (op_eqD hr.units) (pe_slice sl_list (pv 0) (po_some (pe_op op_add (pv 1) pe_int)) (po_some (pe_op op_add (pv 1) pe_int))) (pe_lst (pa_cons pe_str pa_nil)) (nomark _))))
        case A => exact pss_cons (ps_if (PW.pt (pw_or (pt_cmpR op_ge (pe_op op_add (pv 1) pe_int) (pe_callB call_len_seq (by rfl) ml PySem.boot_len (pa_cons (pv 0) pa_nil)) (nomark _)) (pw_or1 (pt_not (pt_val (pe_d DP hr (pa_cons (pe_ix (r := rIxL K) ix_list (pv 0) (pe_op op_add (pv 1) pe_int) (fun _ _ => rfl)) pa_nil))))))) (pss_one (ps_ret (pe_op op_add (pv 1) pe_int))) pss_nil) (pss_one (ps_set (i := 1) scBadW.nd rfl (.inl rfl) (pe_op op_add (pv 1) pe_int)))
        case B => exact (pss_cons (ps_set (i := 1) scBadW.nd rfl (.inl rfl) (pe_op op_add (pv 1) pe_int))
          (pss_one (ps_while PassesOwn.never (PW.pt (pw_and (pt_cmpR op_lt (pv 1) (pe_callB call_len_seq (by rfl) ml PySem.boot_len (pa_cons (pv 0) pa_nil)) (nomark _)) (pw_and1 (pt_cmpR op_ne (pe_ix (r := rIxL K) ix_list (pv 0) (pv 1) (fun _ _ => rfl)) pe_str (nomark _)))))
            (pss_cons (ps_if (pt_not (pt_val (pe_d DT hr (pa_cons (pe_ix (r := rIxL K) ix_list (pv 0) (pv 1) (fun _ _ => rfl)) pa_nil)))) (pss_one (ps_ret (pv 1))) pss_nil) (pss_one (ps_set (i := 1) scBadW.nd rfl (.inl rfl) (pe_op op_add (pv 1) pe_int)))))))
      case w3 => exact ps_if (pt_cmpR op_eq (pv 1) (pe_callB call_len_seq (by rfl) ml PySem.boot_len (pa_cons (pv 0) pa_nil)) (nomark _)) (pss_one (ps_ret pe_non)) pss_nil
      case w4 => exact ps_if (pt_cmpR op_ne (pe_ix (r := rIxL K) ix_list (pv 0) (pv 1) (fun _ _ => rfl)) pe_str (nomark _)) (pss_one (ps_ret (pv 1))) pss_nil
      case w5 => exact ps_set (i := 1) scBadW.nd rfl (.inl rfl) (pe_op op_add (pv 1) pe_int)
    have wl := ok.len
    have h0 : ws[0]? = some ws[0]! := by
      cases ws with
      | nil => exact absurd rfl ne
      | cons w r => rfl
    generalize ws[0]! = w0 at h0
    have fin : ∀ (D : Ends) (i n j : Nat) (H' : Hp), choiceR ws i = .inr j → i < j → j ≤ ws.length → ws.length ≤ n + i → badT ws = badR ws (n + 1) i → Same H H' → (∀ H'', Same H H'' → D.rt (optV (badT ws)) H'') → (∀ n2, j + 1 ≤ ws.length → ws.length ≤ n2 + (j + 1) → badT ws = badR ws (n2 + 1) (j + 1) → D.nx [some (.ref a), some (.int ((j : Int) + 1))] H') →
        tSeq (tIfS (tTest (tOp rEq (tVar 1) (tCB (rLenS K) (tCons (tVar 0) tNil)))) (tRet (tC .non)) tNext) (tSeq (tIfS (tTest (tOp rNe (tOp (rIxL K) (tVar 0) (tVar 1)) (tC (.str "||")))) (tRet (tVar 1)) tNext) (tAsg (tOp (rI0 fun i j => .int (i + j)) (tVar 1) (tC (.int 1))) (gName 1))) D [some (.ref a), some (.int (j : Int))] H' := fun D i n j H' ec lij lj hn er s1 hrt hnx => by
      rw [bad_step ec] at er
      refine after_read (s1.seq ha) lj (fun e => ?_) (fun w e c => ?_) fun e => ?_
      · have z := hrt H' s1
        rw [er] at z
        unfold contR at z
        rw [e] at z
        exact z
      · have z := hrt H' s1
        rw [er] at z
        unfold contR at z
        rw [e] at z
        simp only [if_neg c] at z
        exact z
      · have l := (List.getElem?_eq_some_iff.mp e).1
        obtain ⟨n2, rfl⟩ : ∃ n2, n = n2 + 1 := ⟨n - 1, by omega⟩
        refine hnx n2 l (by omega) ?_
        rw [er]
        unfold contR
        rw [e]
        exact if_pos rfl
    dsimp only [tSeq, tAsg, tRet, tIfS, gName, tNext] at fin ⊢
    refine ⟨_, rfl, a, strL ws, 0, _, rfl, rfl, ha, atI_nat (j := 0) (strL_at h0), rfl, _, rfl, ?_⟩
    rw [show ("none" : Str) = S noneL from rfl, str_is]
    by_cases c : w0 = noneL
    · rw [decide_eq_true c]
      refine iteT ⟨_, rfl, a, _, rfl, .inl ha, rfl, _, rfl, ?_⟩
      have q := q H (Same.refl H)
      by_cases l1 : ws.length = 1
      · have e : badT ws = none := by
          unfold badT
          rw [h0, c, if_pos rfl, if_pos l1]
        rw [e] at q
        rw [show decide (V.int ((strL ws).length : Int) = V.int 1) = true from decide_eq_true (by rw [List.length_map, l1]; rfl)]
        exact iteT q
      · have e : badT ws = some 1 := by
          unfold badT
          rw [h0, c, if_pos rfl, if_neg l1]
        rw [e] at q
        rw [show decide (V.int ((strL ws).length : Int) = V.int 1) = false from decide_eq_false fun z => by
          have := V.int.inj z
          rw [List.length_map] at this
          omega]
        exact iteF q
    have e0 : badT ws = badR ws (ws.length + 1) 0 := by
      unfold badT
      rw [h0, if_neg fun z => c (Option.some.inj z)]
    rw [decide_eq_false c]
    refine iteF ⟨fun (m : Nat) (σ : L2.St) (H' : Hp) => ∃ i n : Nat, m = ws.length + 1 - i ∧ i ≤ ws.length ∧ ws.length ≤ n + i ∧ σ = [some (.ref a), some (.int (i : Int))] ∧ Same H H' ∧ badT ws = badR ws (n + 1) i, ⟨_, 0, ws.length, rfl, Nat.zero_le _, Nat.le_refl _, rfl, Same.refl H, e0⟩, ?_⟩
    rintro m σ H1 ⟨i, n, rfl, il, hn, rfl, s1, er⟩
    refine ⟨true, rfl, iteT ⟨fun σ' H' => ∃ i2 n2 : Nat, i < i2 ∧ i2 ≤ ws.length ∧ ws.length ≤ n2 + i2 ∧ σ' = [some (.ref a), some (.int (i2 : Int))] ∧ Same H H' ∧ badT ws = badR ws (n2 + 1) i2, fun σ' H' ⟨i2, n2, l1, l2, l3, e, s2, er2⟩ => ⟨_, by omega, i2, n2, rfl, l2, l3, e, s2, er2⟩, ?_⟩⟩
    have ha1 := s1.seq ha
    refine ge_or (g := isTrm) (sp := spTrmB) (n := i) (te := tVar 1) (fun w H' Q l sm q => ⟨w, rfl, l, sm, q⟩) rfl (fun H' R r => ⟨_, rfl, r⟩) ha1 ok fun H2 s2 => ?_
    have s12 := s1.trans s2
    show if (!trmAt ws i) = true then _ else _
    cases t : trmAt ws i with
    | false =>
      have z := q H2 s12
      rw [er, bad_here (show choiceR ws i = .inl i by unfold choiceR; rw [t]; rfl)] at z
      exact iteT ⟨_, rfl, z⟩
    | true =>
      have ha2 := s12.seq ha
      have i2 := trm_lt t
      refine iteF (part_dash rfl rfl ha2 ok i2 fun H3 s3 => ?_)
      have s13 := s12.trans s3
      have ha3 := s13.seq ha
      cases db : dashB ws i with
      | true =>
        refine iteT (ge_or (g := isPrt) (sp := spPrtB) (n := i + 2) (te := tOp (rI0 fun i j => .int (i + j)) (tVar 1) (tC (.int 2))) (fun w H' Q l sm q => ⟨w, rfl, l, sm, q⟩) rfl (fun H' R r => ⟨_, rfl, _, _, rfl, rfl, by
          show R (.int ((i : Int) + 2)) H'
          rw [show (i : Int) + 2 = ((i + 2 : Nat) : Int) by omega]
          exact r⟩) ha3 ok fun H4 s4 => ?_)
        have s14 := s13.trans s4
        show if (!prtAt ws (i + 2)) = true then _ else _
        cases pp : prtAt ws (i + 2) with
        | false =>
          have z := q H4 s14
          rw [er, bad_here (show choiceR ws i = .inl (i + 2) by unfold choiceR; rw [if_pos t, if_pos db, if_neg (by rw [pp]; exact Bool.false_ne_true)])] at z
          refine iteT ⟨_, rfl, _, _, rfl, rfl, ?_⟩
          show Q (.int ((i : Int) + 2)) H4
          rw [show (i : Int) + 2 = ((i + 2 : Nat) : Int) by omega]
          exact z
        | true =>
          have pl := prt_lt pp
          refine iteF ⟨_, rfl, _, _, rfl, rfl, ?_⟩
          have ec : choiceR ws i = .inr (i + 3) := by
            unfold choiceR
            rw [if_pos t, if_pos db, if_pos pp]
          have z := fin { nx := fun σ' H' => ∃ i2 n2 : Nat, i < i2 ∧ i2 ≤ ws.length ∧ ws.length ≤ n2 + i2 ∧ σ' = [some (.ref a), some (.int (i2 : Int))] ∧ Same H H' ∧ badT ws = badR ws (n2 + 1) i2, rt := Q } i n (i + 3) H4 ec (by omega) (by omega) hn er s14 (fun H'' s => q H'' s) (fun n2 l1 l2 l3 => ⟨i + 3 + 1, n2, by omega, l1, l2, rfl, s14, l3⟩)
          exact z
      | false =>
        have eR : choiceR ws i = scanT ws (ws.length - (i + 1)) (i + 1) := by
          unfold choiceR
          rw [if_pos t, if_neg (by rw [db]; exact Bool.false_ne_true)]
        refine iteF ⟨_, rfl, _, _, rfl, rfl, ?_⟩
        refine ⟨fun (m : Nat) (σ : L2.St) (H' : Hp) => ∃ j : Nat, m = ws.length - j ∧ j ≤ ws.length ∧ i < j ∧ σ = [some (.ref a), some (.int (j : Int))] ∧ Same H H' ∧ choiceR ws i = scanT ws (ws.length - j) j, ⟨_, i + 1, rfl, i2, Nat.lt_succ_self i, rfl, s13, eR⟩, ?_⟩
        rintro m σ H4 ⟨j, rfl, jl, ij, rfl, s4, ej⟩
        have ha4 := s4.seq ha
        refine go_read rfl rfl ha4 ?_
        cases g : goB ws j with
        | false =>
          have z := fin { nx := fun σ' H' => ∃ i2 n2 : Nat, i < i2 ∧ i2 ≤ ws.length ∧ ws.length ≤ n2 + i2 ∧ σ' = [some (.ref a), some (.int (i2 : Int))] ∧ Same H H' ∧ badT ws = badR ws (n2 + 1) i2, rt := Q } i n j H4 (by rw [ej, scan_end g]) ij jl hn er s4 (fun H'' s => q H'' s) (fun n2 l1 l2 l3 => ⟨j + 1, n2, by omega, l1, l2, rfl, s4, l3⟩)
          exact iteF z
        | true =>
          have jl2 := go_lt g
          have wj : ws[j]? = some ws[j] := List.getElem?_eq_getElem jl2
          obtain ⟨lw, sm⟩ := ok.word _ (List.getElem_mem jl2)
          refine iteT ⟨fun σ' H' => trmAt ws j = true ∧ σ' = [some (.ref a), some (.int ((j : Int) + 1))] ∧ Same H H', fun σ' H' ⟨tj, e, s'⟩ => ⟨_, by omega, j + 1, rfl, jl2, by omega, e, s', by rw [ej, scan_step g tj]⟩, ?_⟩
          refine ⟨_, rfl, _, rfl, a, strL ws, _, _, rfl, rfl, ha4, atI_nat (strL_at wj), ws[j], rfl, by omega, sm, fun H5 s5 => ⟨_, rfl, ?_⟩⟩
          have et : trmAt ws j = isTrm ws[j] := by
            unfold trmAt
            rw [wj]
          cases tj : isTrm ws[j] with
          | false =>
            have z := q H5 (s4.trans s5)
            rw [er, bad_here (show choiceR ws i = .inl j by rw [ej, scan_bad g (by rw [et, tj])])] at z
            exact iteT ⟨_, rfl, z⟩
          | true => exact iteF ⟨_, rfl, _, _, rfl, rfl, by rw [et, tj], rfl, s4.trans s5⟩
end
end Kw
set_option maxHeartbeats 4000000
namespace Kw
open PySem PySem.Spec PyProof.Rows L2 LamX SX
/-! ### words bent -/
abbrev sBent : Stmt := top 61
abbrev nBe : List Str := ["_law_state", "_law_words", "_law_some", "_law_at", "_law_way"]
theorem scBent : FnScope nBe ["_law_state", "_law_words"] (defScope sBent) := ⟨rfl, rfl, rfl, by decide +kernel, rfl, by decide +kernel, by decide +kernel⟩
def okU (w : List Nat) : Prop := w.length ≤ 34 ∧ smT w ∧ 32 ∉ w
def bentL : List (List Nat) := [[], [124, 124], [45], [110, 111, 110, 101], [49], [49, 46, 50, 46, 51, 46, 52], [48, 49], [61, 49], [42], [62, 61], [94, 48, 46, 48], [120], [49, 46], [126, 50], [49, 45, 50]]
theorem bent_ok : ∀ w ∈ bentL, okU w := by unfold okU bentL; decide
theorem cut_from (xs : List V) (k : Nat) : cutV xs (some (k : Int)) none = xs.drop k := by
  unfold cutV
  rw [HT.sIx_none, HT.sIx_nat]
  by_cases h : k ≤ xs.length
  · rw [Nat.min_eq_left h, List.take_of_length_le (by rw [List.length_drop]; omega)]
  · rw [Nat.min_eq_right (by omega), List.drop_of_length_le (Nat.le_refl _), List.drop_of_length_le (by omega), List.take_nil]
def spBent (K : PySem.W.Frag) : Sp := fun vs H Q _ => ∃ (d w c : Addr) (B : Int) (l : Addr) (ws : List (List Nat)), vs = [.ref d, .ref l] ∧ StAt H d w c B ∧ B + 3 ≤ 1000000000000 ∧ H l = some (.lst (strL ws)) ∧ l ≠ w ∧ ws.length ≤ 50 ∧ (∀ u ∈ ws, okU u) ∧
  ∀ H' D us, H D = none → H' D = some (.lst (strL us)) → us.length ≤ ws.length + 1 → (∀ u ∈ us, okU u) → StAt H' d w c (B + 3) → Fr2 d w H H' → Q (.ref D) H'
section
variable {K : PySem.W.Frag} {σ : L2.St} {H : Hp} {l : Addr} {ws : List (List Nat)} {n : Nat} {Q : VK}
section
variable (h1 : σ[1]? = some (some (.ref l))) (h3 : σ[3]? = some (some (.int (n : Int)))) (hl : H l = some (.lst (strL ws)))
include h1 h3 hl
theorem sl_to (q : ∀ p H', Same H H' → H p = none → H' p = some (.lst (strL (ws.take n))) → Q (.ref p) H') : tSl (rSlL K) (tVar 1) tNoPart (tPart (tVar 3)) σ H Q := by
  refine ⟨_, h1, _, h3, (n : Int), rfl, l, strL ws, rfl, SqL.of hl, fun p hp => ?_⟩
  refine q p _ (same_upd hp) hp ?_
  rw [upd_same, cut_to, strL, ← List.map_take]
theorem sl_fr (q : ∀ p H', Same H H' → H p = none → H' p = some (.lst (strL (ws.drop n))) → Q (.ref p) H') : tSl (rSlL K) (tVar 1) (tPart (tVar 3)) tNoPart σ H Q := by
  refine ⟨_, h1, _, h3, (n : Int), rfl, l, strL ws, rfl, SqL.of hl, fun p hp => ?_⟩
  refine q p _ (same_upd hp) hp ?_
  rw [upd_same, cut_from, strL, ← List.map_drop]
theorem sl_fr1 (q : ∀ p H', Same H H' → H p = none → H' p = some (.lst (strL (ws.drop (n + 1)))) → Q (.ref p) H') : tSl (rSlL K) (tVar 1) (tPart (tOp (rI0 fun i j => .int (i + j)) (tVar 3) (tC (.int 1)))) tNoPart σ H Q := by
  refine ⟨_, h1, _, h3, _, _, rfl, rfl, _, rfl, l, strL ws, rfl, SqL.of hl, fun p hp => ?_⟩
  refine q p _ (same_upd hp) hp ?_
  have e : cutV (strL ws) (some ((n : Int) + 1)) none = (strL ws).drop (n + 1) := cut_from _ (n + 1)
  rw [upd_same]
  show some (HO.lst (cutV (strL ws) (some ((n : Int) + 1)) none)) = _
  rw [e, strL, ← List.map_drop]
theorem sl_one (q : ∀ p H', Same H H' → H p = none → H' p = some (.lst (strL ((ws.take (n + 1)).drop n))) → Q (.ref p) H') : tSl (rSlL K) (tVar 1) (tPart (tVar 3)) (tPart (tOp (rI0 fun i j => .int (i + j)) (tVar 3) (tC (.int 1)))) σ H Q := by
  refine ⟨_, h1, _, h3, (n : Int), rfl, _, h3, _, _, rfl, rfl, _, rfl, l, strL ws, rfl, SqL.of hl, fun p hp => ?_⟩
  refine q p _ (same_upd hp) hp ?_
  have e : cutV (strL ws) (some (n : Int)) (some ((n : Int) + 1)) = strL ((ws.take (n + 1)).drop n) := cut_mid ws n (n + 1)
  rw [upd_same]
  show some (HO.lst (cutV (strL ws) (some (n : Int)) (some ((n : Int) + 1)))) = _
  rw [e]
end
theorem cat_l {a b : Addr} {us vs : List (List Nat)} (ha : H a = some (.lst (strL us))) (hb : H b = some (.lst (strL vs))) (l1 : us.length ≤ 200) (l2 : vs.length ≤ 200) (q : ∀ p H', Same H H' → H p = none → H' p = some (.lst (strL (us ++ vs))) → Q (.ref p) H') : rCat (.ref a) (.ref b) H Q := by
  refine ⟨a, b, strL us, strL vs, rfl, rfl, ha, hb, by rw [sizeLine_eq, List.length_map, List.length_map]; omega, fun p hp => ?_⟩
  refine q p _ (same_upd hp) hp ?_
  rw [upd_same]
  simp [strL]
end
section
variable {P : Program} {w : World} {K : PySem.W.Frag} {mg : Str → Option Value} {base : Heap}
theorem ok_bent {f : Addr} {fd : FuncData} {k : Nat} (F : Fun K "_law_bent_words" "_law_bent_words" sBent f fd) (ml : mg "len" = none) (DD : Def P w K mg base "_law_draw" CX0 k ["_law_state", "_law_size"] spDraw) (DPk : Def P w K mg base "_law_pick" CX0 k ["_law_state", "_law_some"] spPick) : FnOk P w K mg base CX0 (k + 1) f fd ["_law_state", "_law_words"] (spBent K) := by
  refine F.ok scBent (fun vs H Q E h => ?_) (fun cdv A outer s H vs Q E hr h => ?_)
  · obtain ⟨d, w, c, B, l, ws, rfl, _⟩ := h
    rfl
  · obtain ⟨d, w, c, B, l, ws, rfl, hS, hB, hl, nlw, few, okw, q⟩ := h
    refine' ⟨_, pss_cons ?s1 (pss_cons ?s2 (pss_cons ?s3 (pss_cons ?s4 (pss_cons ?s5 (pss_cons ?s6 (pss_one ?s7)))))), ?_⟩
    case s1 => exact ps_set (i := 2) scBent.nd rfl (.inl rfl) (pe_lst (pa_cons pe_str (pa_cons pe_str (pa_cons pe_str (pa_cons pe_str (pa_cons pe_str (pa_cons pe_str (pa_cons pe_str (pa_cons pe_str (pa_cons pe_str (pa_cons pe_str (pa_cons pe_str (pa_cons pe_str (pa_cons pe_str (pa_cons pe_str (pa_cons pe_str pa_nil))))))))))))))))
    case s2 => exact ps_par (i := 3) (j := 4) rfl scBent.nd rfl rfl (by decide) rfl rfl (pa_cons (pe_d DD hr (pa_cons (pv 0) (pa_cons (pe_op op_add (pe_callB call_len_seq (by rfl) ml PySem.boot_len (pa_cons (pv 1) pa_nil)) pe_int) pa_nil))) (pa_cons (pe_d DD hr (pa_cons (pv 0) (pa_cons pe_int pa_nil))) pa_nil)) rfl
    case s3 => exact ps_if (pt_cmpR op_eq (pv 4) pe_int (nomark _)) (pss_one (ps_ret (pe_slice sl_list (pv 1) po_none (po_some (pv 3))))) pss_nil
    case s4 => exact ps_if (pt_cmpR op_eq (pv 4) pe_int (nomark _)) (pss_one (ps_ret (pe_op op_cat (pe_slice sl_list (pv 1) po_none (po_some (pv 3))) (pe_slice sl_list (pv 1) (po_some (pe_op op_add (pv 3) pe_int)) po_none)))) pss_nil
    case s5 => exact ps_if (pt_cmpR op_eq (pv 4) pe_int (nomark _)) (pss_one (ps_ret (pe_op op_cat (pe_op op_cat (pe_slice sl_list (pv 1) po_none (po_some (pv 3))) (pe_lst (pa_cons (pe_d DPk hr (pa_cons (pv 0) (pa_cons (pv 2) pa_nil))) pa_nil))) (pe_slice sl_list (pv 1) (po_some (pv 3)) po_none)))) pss_nil
    case s6 => exact ps_if (pt_cmpR op_eq (pv 4) pe_int (nomark _)) (pss_one (ps_ret (pe_op op_cat (pe_op op_cat (pe_slice sl_list (pv 1) po_none (po_some (pv 3))) (pe_lst (pa_cons (pe_d DPk hr (pa_cons (pv 0) (pa_cons (pv 2) pa_nil))) pa_nil))) (pe_slice sl_list (pv 1) (po_some (pe_op op_add (pv 3) pe_int)) po_none)))) pss_nil
    case s7 => exact ps_ret (pe_op op_cat (pe_op op_cat (pe_slice sl_list (pv 1) po_none (po_some (pv 3))) (pe_op op_rep (pe_slice sl_list (pv 1) (po_some (pv 3)) (po_some (pe_op op_add (pv 3) pe_int))) pe_int)) (pe_slice sl_list (pv 1) (po_some (pe_op op_add (pv 3) pe_int)) po_none))
    dsimp only [tSeq, tAsg, tRet, tIfS, gName, tNext]
    refine ⟨by show 15 ≤ sizeLine; decide, fun p0 hp0 => ?_⟩
    have k0 := same_upd (o := .lst (strL bentL)) hp0
    have b0 : upd H p0 (.lst (strL bentL)) p0 = some (.lst (strL bentL)) := upd_same
    have S0 := hS.same k0
    have hl0 := k0 _ _ hl
    have npw : p0 ≠ w := (hS.ne hp0).2.1.symm
    have F0 : Fr2 d w H (upd H p0 (.lst (strL bentL))) := .ofSame k0
    refine ⟨_, rfl, _, rfl, l, strL ws, rfl, .inl (SqL.of hl0), _, 1, rfl, rfl, d, w, c, B, ((ws.length + 1 : Nat) : Int), congrArg (fun z => [V.ref d, V.int z]) (by rw [List.length_map]; omega), S0, by omega, by omega, by omega, fun H1 z hz0 hz1 S1 F1 => ?_⟩
    refine ⟨_, rfl, d, w, c, B + 1, 5, rfl, S1, by omega, by decide, by decide, fun H2 z2 hy0 hy1 S2 F2 => ⟨_, _, rfl, ?_⟩⟩
    obtain ⟨n, rfl⟩ : ∃ n : Nat, z = (n : Int) := ⟨z.toNat, by omega⟩
    have hl2 := F2.lst S1 (F1.lst S0 hl0 nlw) nlw
    have b2 := F2.lst S1 (F1.lst S0 b0 npw) npw
    have F02 := (F0.trans F1).trans F2
    have tk : ∀ u ∈ ws.take n, okU u := fun u hu => okw u (List.mem_of_mem_take hu)
    have dr : ∀ m, ∀ u ∈ ws.drop m, okU u := fun m u hu => okw u (List.mem_of_mem_drop hu)
    have ap : ∀ {xs ys : List (List Nat)}, (∀ u ∈ xs, okU u) → (∀ u ∈ ys, okU u) → ∀ u ∈ xs ++ ys, okU u := fun h g u hu => (List.mem_append.mp hu).elim (h u) (g u)
    have lt1 : (ws.take n).length ≤ n := by rw [List.length_take]; omega
    have lt2 : (ws.take n).length ≤ 50 := by rw [List.length_take]; omega
    have ld : ∀ m, (ws.drop m).length ≤ 50 := fun m => by rw [List.length_drop]; omega
    -- what is given back
    have give : ∀ (H3 H4 : Hp) (p : Addr) (us : List (List Nat)), StAt H3 d w c (B + 3) → Fr2 d w H H3 → Same H3 H4 → H3 p = none → H4 p = some (.lst (strL us)) → us.length ≤ ws.length + 1 → (∀ u ∈ us, okU u) → Q (.ref p) H4 := fun H3 H4 p us S3 F3 s34 n3 h4 lu ou =>
      q H4 p us (F3.free hS S3 n3) h4 lu ou (S3.same s34) (F3.trans (.ofSame s34))
    have pick : ∀ (H3 : Hp) (R : VK), Same H2 H3 → (∀ H4 u, okU u → StAt H4 d w c (B + 3) → Fr2 d w H3 H4 → R (.str (S u)) H4) → tCall spPick [] E0 (tCons (tVar 0) (tCons (tVar 2) tNil)) [some (.ref d), some (.ref l), some (.ref p0), some (.int (n : Int)), some (.int z2)] H3 R := fun H3 R s3 r => by
      refine ⟨_, rfl, _, rfl, d, w, c, B + 2, p0, strL bentL, rfl, (S2.same s3).mono (by omega), by omega, s3 _ _ b2, npw, by show 0 < 15; decide, by show 15 < 1073741824; decide, fun H4 i v hv S4 F4 => ?_⟩
      rw [List.getElem?_map] at hv
      obtain ⟨u, hu, rfl⟩ := Option.map_eq_some_iff.mp hv
      exact r H4 u (bent_ok u (List.mem_of_getElem? hu)) (S4.mono (by omega)) F4
    have S2' := S2.mono (B' := B + 3) (by omega)
    refine ⟨_, rfl, rfl, _, rfl, ite2 (fun e => ?_) (fun e => ?_)⟩
    · exact sl_to rfl rfl hl2 fun p H3 s3 n3 h3 => give H2 H3 p _ S2' F02 s3 n3 h3 (by omega) tk
    refine ⟨_, rfl, rfl, _, rfl, ite2 (fun e => ?_) (fun e => ?_)⟩
    · refine sl_to rfl rfl hl2 fun p H3 s3 n3 h3 => sl_fr1 rfl rfl (s3 _ _ hl2) fun p4 H4 s4 n4 h4 => cat_l (s4 _ _ h3) h4 (by omega) (by have := ld (n + 1); omega) fun p5 H5 s5 n5 h5 => ?_
      exact give H2 H5 p5 _ S2' F02 ((s3.trans s4).trans s5) (s3.free (s4.free n5)) h5 (by rw [List.length_append, List.length_drop]; omega) (ap tk (dr _))
    refine ⟨_, rfl, rfl, _, rfl, ite2 (fun e => ?_) (fun e => ?_)⟩
    · refine sl_to rfl rfl hl2 fun p H3 s3 n3 h3 => pick H3 _ s3 fun H4 u ou S4 F4 => ⟨by show 1 ≤ sizeLine; decide, fun p5 hp5 => ?_⟩
      have S3 := S2.same s3
      have npw3 : p ≠ w := (S2.ne n3).2.1.symm
      have h4 := F4.lst S3 h3 npw3
      have k5 := same_upd (o := .lst (strL [u])) hp5
      refine cat_l (b := p5) (vs := [u]) (k5 _ _ h4) upd_same (by omega) (by simp) fun p6 H6 s6 n6 h6 => ?_
      have k56 := k5.trans s6
      have hl4 := F4.lst S3 (s3 _ _ hl2) nlw
      refine sl_fr rfl rfl (k56 _ _ hl4) fun p7 H7 s7 n7 h7 => cat_l (s7 _ _ h6) h7 (by rw [List.length_append]; simp; omega) (by have := ld n; omega) fun p8 H8 s8 n8 h8 => ?_
      exact give H4 H8 p8 _ S4 ((F02.trans (.ofSame s3)).trans F4) ((k56.trans s7).trans s8) (k5.free (s6.free (s7.free n8))) h8 (by simp only [List.length_append, List.length_drop, List.length_singleton]; omega) (ap (ap tk (fun v hv => by rw [List.mem_singleton.mp hv]; exact ou)) (dr _))
    refine ⟨_, rfl, rfl, _, rfl, ite2 (fun e => ?_) (fun e => ?_)⟩
    · refine sl_to rfl rfl hl2 fun p H3 s3 n3 h3 => pick H3 _ s3 fun H4 u ou S4 F4 => ⟨by show 1 ≤ sizeLine; decide, fun p5 hp5 => ?_⟩
      have S3 := S2.same s3
      have npw3 : p ≠ w := (S2.ne n3).2.1.symm
      have h4 := F4.lst S3 h3 npw3
      have k5 := same_upd (o := .lst (strL [u])) hp5
      refine cat_l (b := p5) (vs := [u]) (k5 _ _ h4) upd_same (by omega) (by simp) fun p6 H6 s6 n6 h6 => ?_
      have k56 := k5.trans s6
      have hl4 := F4.lst S3 (s3 _ _ hl2) nlw
      refine sl_fr1 rfl rfl (k56 _ _ hl4) fun p7 H7 s7 n7 h7 => cat_l (s7 _ _ h6) h7 (by rw [List.length_append]; simp; omega) (by have := ld (n + 1); omega) fun p8 H8 s8 n8 h8 => ?_
      exact give H4 H8 p8 _ S4 ((F02.trans (.ofSame s3)).trans F4) ((k56.trans s7).trans s8) (k5.free (s6.free (s7.free n8))) h8 (by simp only [List.length_append, List.length_drop, List.length_singleton]; omega) (ap (ap tk (fun v hv => by rw [List.mem_singleton.mp hv]; exact ou)) (dr _))
    · refine sl_to rfl rfl hl2 fun p H3 s3 n3 h3 => sl_one rfl rfl (s3 _ _ hl2) fun p4 H4 s4 n4 h4 => ?_
      have l1 : ((ws.take (n + 1)).drop n).length ≤ 1 := by rw [List.length_drop, List.length_take]; omega
      refine ⟨p4, 2, _, rfl, rfl, h4, by decide, by decide, ?_, fun p5 hp5 => ?_⟩
      · show (strL ((ws.take (n + 1)).drop n)).length * 2 ≤ sizeLine
        rw [sizeLine_eq, List.length_map]
        omega
      have k5 := same_upd (o := .lst (List.replicate (2 : Int).toNat (strL ((ws.take (n + 1)).drop n))).flatten) hp5
      have h5 : upd H4 p5 (.lst (List.replicate (2 : Int).toNat (strL ((ws.take (n + 1)).drop n))).flatten) p5 = some (.lst (strL (((ws.take (n + 1)).drop n) ++ ((ws.take (n + 1)).drop n)))) := by
        rw [upd_same]
        show some (HO.lst (List.replicate 2 (strL ((ws.take (n + 1)).drop n))).flatten) = _
        simp [List.replicate, strL]
      have ot : ∀ u ∈ (ws.take (n + 1)).drop n, okU u := fun u hu => okw u (List.mem_of_mem_take (List.mem_of_mem_drop hu))
      have ln : (ws.take n).length + ((ws.take (n + 1)).drop n).length + (ws.drop (n + 1)).length = ws.length := by
        simp only [List.length_take, List.length_drop]
        omega
      refine cat_l (k5 _ _ (s4 _ _ h3)) h5 (by omega) (by rw [List.length_append]; omega) fun p6 H6 s6 n6 h6 => ?_
      have k56 := k5.trans s6
      refine sl_fr1 rfl rfl (k56 _ _ (s4 _ _ (s3 _ _ hl2))) fun p7 H7 s7 n7 h7 => cat_l (s7 _ _ h6) h7 (by simp only [List.length_append]; omega) (by have := ld (n + 1); omega) fun p8 H8 s8 n8 h8 => ?_
      exact give H2 H8 p8 _ S2' F02 ((((s3.trans s4).trans k56).trans s7).trans s8) (s3.free (s4.free (k5.free (s6.free (s7.free n8))))) h8 (by simp only [List.length_append] at ln ⊢; omega) (ap (ap tk (ap ot ot)) (dr _))
end
end Kw
set_option maxHeartbeats 4000000
namespace Kw
open PySem PySem.Spec PyProof.Rows L2 LamX SX
/-! ### texts of versions -/
theorem cnt_num (n : Nat) : isCnt (TL.numL n) = true := by
  have ne := TL.numL_ne n
  have d : (TL.numL n).all digB = true := List.all_eq_true.mpr fun c hc => by
    have := TL.numL_digits n c hc
    unfold digB
    simp only [Bool.and_eq_true, decide_eq_true_eq]
    omega
  unfold isCnt
  have e1 : (!(TL.numL n).isEmpty) = true := by
    cases h : TL.numL n with
    | nil => exact absurd h ne
    | cons a r => rfl
  rw [e1, d, Bool.true_and, Bool.true_and]
  by_cases z : n = 0
  · subst z
    rw [numL_zero]
    rfl
  · have h := numL_head n (by omega)
    have : (TL.numL n).head? ≠ some 48 := fun e => h 48 e rfl
    rw [decide_eq_true this, Bool.or_true]
theorem pcs_part {ps : List Nat} (ne : ps ≠ []) : pcs (partL ps) = ps.map TL.numL := spl_join (by simpa using ne) dot_free
theorem ver_part {ps : List Nat} (l : ps.length = 3) : verW (partL ps) = true ∧ numsW (partL ps) = ps := by
  have ne : ps ≠ [] := fun e => by rw [e] at l; cases l
  have e := pcs_part ne
  refine ⟨?_, ?_⟩
  · unfold verW isPrt
    rw [e, List.length_map, l]
    simp [List.all_map, cnt_num]
  · unfold numsW
    rw [e, List.map_map]
    have : (NumText.digitsVal ∘ TL.numL) = id := funext fun n => TL.numL_val n
    rw [this, List.map_id]
theorem cut_str (t : List Nat) (lo hi : Option Int) : ∃ u : List Nat, cutS (S t) lo hi = S u ∧ u.length ≤ t.length ∧ ∀ c ∈ u, c ∈ t := by
  refine ⟨(t.drop (HT.sIx (S t).length 0 lo)).take (HT.sIx (S t).length (S t).length hi - HT.sIx (S t).length 0 lo), rfl, ?_, fun c hc => List.mem_of_mem_drop (List.mem_of_mem_take hc)⟩
  rw [List.length_take, List.length_drop]
  omega
/-- repr of None or of an int -/
theorem cr_reprO {X : Cx} : CallR X (.builtin "repr") (fun xs H Q => (xs = [.non] ∧ Q (.str "None") H) ∨ ∃ i : Int, xs = [.int i] ∧ i.natAbs.log2 < 1920 ∧ Q (.str (toString i)) H) := by
  intro pins s σ H xs us Q I r h
  rcases h with ⟨rfl, q⟩ | ⟨i, rfl, hz, q⟩
  · obtain ⟨u, rfl, ru⟩ := vals1 r
    cases (show u = Value.none from ru)
    exact PySem.P.repr_of_none ⟨.str _, H, I.tok _, ⟨_, rfl⟩, q⟩
  · exact SkE.call_repr_int pins s σ H _ us Q I r ⟨i, rfl, hz, q⟩
abbrev rReprO : List V → Hp → VK → Prop := fun xs H Q => (xs = [.non] ∧ Q (.str "None") H) ∨ ∃ i : Int, xs = [.int i] ∧ i.natAbs.log2 < 1920 ∧ Q (.str (toString i)) H
abbrev sVR : Stmt := top 63
abbrev nVR : List Str := ["_law_state", "_law_version", "_law_text", "_law_odd", "_law_fits", "_law_strange", "_law_k", "_law_number"]
theorem scVR : FnScope nVR ["_law_state"] (defScope sVR) := ⟨rfl, rfl, rfl, by decide +kernel, rfl, by decide +kernel, by decide +kernel⟩
end Kw
set_option maxHeartbeats 4000000
namespace Kw
open PySem PySem.Spec PyProof.Rows L2 LamX SX
/-! ### readings for the law's turn -/
def qEmp : Hp → V → Prop := fun H x => ∃ l, x = .ref l ∧ H l = some (.lst [])
def qX (C : Addr) : Hp → V → Prop := fun H x => IsExc H x C none
section
variable {K : PySem.W.Frag} {T : List (Addr × Str)} {σ : L2.St} {H H' : Hp} {CR CE CX CK C : Addr} {a b : TE} {xs : List V} {ss : List Str2}
theorem yNeE (ha : Yd T σ H a qEmp) : Yd T σ H (tOp (rNeD K) a (tLst tNil)) (qB false) := fun H1 Q e t q => ha H1 _ e t fun H2 x e2 t2 hx => by
  obtain ⟨l, rfl, hl⟩ := hx
  refine ⟨Nat.zero_le _, fun p hp => ?_⟩
  have k := same_upd (o := .lst []) hp
  refine ⟨.list [], .list [], .lst (SqL.of (k _ _ hl)) .nil, .lst (SqL.of upd_same) .nil, shaped_nil, shaped_nil, ?_⟩
  rw [show PyData.eqv (.list []) (.list []) = true from eqv_nil []]
  exact q _ _ (e2.trans (ExtN.same k)) (t2.ext k) rfl
theorem yNone {i j : Nat} {l : Addr} {xs : List V} {te : TE} {tc : TT} (hi : σ[i]? = some (some (.ref l))) (hS : SqL K H l xs) (hw : ∀ y, wipe ((wipe σ [j]).set j y) [j] = wipe σ [j]) (h : ∀ y H', y ∈ xs → ExtN H H' → Yt T ((wipe σ [j]).set j (some y)) H' tc false) :
    Yd T σ H (tLc (iList K (tVar i)) (gName j) tc te [j]) qEmp := fun H1 Q e t q => by
  refine ⟨_, hi, l, rfl, ⟨_, e.sqL hS⟩, fun D hD => ?_⟩
  refine lc_list (K := K) (a := l) (xs := xs) (fun i H' => ExtN H1 H' ∧ Tabs T H' ∧ H' D = some (.lst [])) ⟨ExtN.same (same_upd hD), t.ext (same_upd hD), upd_same⟩ (fun i H' _ R => R.1.sqL (e.sqL hS)) ?_ ?_
  · rintro n y H2 hy ⟨e2, t2, hd⟩
    refine ⟨hw _, h y H2 (List.mem_of_getElem? hy) (e.trans e2) H2 _ (ExtN.refl _) t2 fun H3 e3 t3 => iteF ⟨e2.trans e3, t3, e3 _ _ hd fun ps z => nomatch z⟩⟩
  · rintro H2 ⟨e2, t2, hd⟩
    exact q H2 _ e2 t2 ⟨D, rfl, hd⟩
theorem yTrue : Yd T σ H (tCall (spTrue T) [] E0 tNil) (qB true) := fun H1 Q e t q => ⟨rfl, t, fun H' e' t' => q H' _ e' t' rfl⟩
theorem one_read {Pa : Hp → V → Prop} {Q : VK} (t : Tabs T H) (q : ∀ (H2 : Hp) (p : Addr) (x : V), ExtN H H2 → Tabs T H2 → H2 p = none → Pa H2 x → Q (.ref p) (upd H2 p (.lst [x]))) (ha : Yd T σ H a Pa) : tLst (tCons a tNil) σ H Q :=
  ha H _ (ExtN.refl _) t fun H2 x e2 t2 hx => ⟨by show 1 ≤ sizeLine; decide, fun p hp => q H2 p x e2 t2 hp hx⟩
theorem app_read {i : Nat} {l : Addr} {zs : List V} {te : TE} {Pa : Hp → V → Prop} {Q : VK} (hi : σ[i]? = some (some (.ref l))) (hl : H l = some (.lst zs)) (n : zs.length < 100) (t : Tabs T H) (q : ∀ (H2 : Hp) (x : V), ExtN H H2 → Tabs T H2 → H2 l = some (.lst zs) → Pa H2 x → Q .non (upd H2 l (.lst (zs ++ [x])))) (ha : Yd T σ H te Pa) :
    tBM K "list" rAppend (tVar i) (tCons te tNil) σ H Q :=
  ⟨_, hi, .inl ⟨rfl, _, SqL.of hl⟩, ha H _ (ExtN.refl _) t fun H2 x e2 t2 hx => ⟨l, zs, x, rfl, rfl, e2 _ _ hl fun ps z => (nomatch z), by rw [sizeLine_eq]; omega, q H2 x e2 t2 (e2 _ _ hl fun ps z => nomatch z) hx⟩⟩
theorem qX_ext {x : V} (e : ExtN H H') (h : qX CX H x) : qX CX H' x := by
  obtain ⟨a, d, rfl, h1, h2⟩ := h
  exact ⟨a, d, rfl, e _ _ h1 (fun ps z => exA_ne (o := .tbl ps) (fun φ y => by cases y) z), h2⟩
theorem qX_fr1 {x : V} {l : Addr} {zs : List V} (f : Fr1 l H H') (hl : H l = some (.lst zs)) (h : qX CX H x) : qX CX H' x := by
  obtain ⟨a, d, rfl, h1, h2⟩ := h
  refine ⟨a, d, rfl, f _ _ (fun z => ?_) h1, h2⟩
  rw [z, hl] at h1
  exact exA_ne (o := .lst zs) (fun φ y => by cases y) (Option.some.inj h1).symm
theorem yIsX {j : Nat} {y : V} (hj : σ[j]? = some (some y)) (kX : PySem.W.kitOne K (.ref CX) (.ref CX) = some true) (hy : qX CX H y) : Yd T σ H (tCB (rIsX K CX) (tCons (tVar j) (tCons (tC (.ref CX)) tNil))) (qB true) := fun H1 Q e t q =>
  ⟨y, hj, y, .ref CX, none, .ref CX, true, rfl, qX_ext e hy, .own _, kX, q H1 _ (ExtN.refl _) t rfl⟩
theorem ext_put {H0 : Hp} {l : Addr} {o : HO} (e : ExtN H0 H) (n : H0 l = none) : ExtN H0 (upd H l o) := fun b u z nt => by
  rw [upd_ne (ne_of_none z n)]
  exact e b u z nt
theorem yCauG {C : Addr} {tb : XK → TE} (hsub : PySem.W.exmOne K (.ref C) (.ref CK) = some true) (h : ∀ (H' : Hp) (Q : VK) (E : XK), ExtN H H' → (∀ H'', Same H' H'' → E (.ref C) none H'') → tb E σ H' Q) : Yd T σ H (tLam T (TTc K CK) tb) (qX C) := fun H1 Q e t q => by
  refine ⟨t, fun H2 e2 t2 => ?_⟩
  show tb (fun cls d H' => PySem.W.exmOne K cls (.ref CK) = some true ∧ ∀ a, H' a = none → Q (.ref a) (upd H' a (exA cls d a))) σ H2 (fun _ H' => ∃ x, (some (some V.non) : Option (Option V)) = some (some x) ∧ Q x H')
  refine h H2 _ _ (e.trans e2) fun H3 s3 => ⟨hsub, fun a ha => ?_⟩
  have s4 := same_upd (o := exA (.ref C) none a) ha
  exact q _ _ ((e2.trans (ExtN.same s3)).trans (ExtN.same s4)) ((t2.ext s3).ext s4) ⟨a, none, rfl, upd_same, rfl⟩
end
section
variable {X : Cx} {CK : Addr} {T : List (Addr × Str)} {k i j : Nat}
/-- _law_caught(lambda: x(..)) -/
theorem pe_caughtF {c PT : Addr} {x : Str} {ps : List Str} {sp : Sp} {e : Expr} {es : List Expr} {ta : TA} {params : Arguments} {scope : Scope} {p p1 p3 lpos pos : Pos} (C : CaughtD X.K X.mg CK) (D : DefX X.prog X.w X.K X.mg X.base x k ps sp) (TB : TabB X.base X.mg c PT) (hcode : X.env.code = .ref c) (hmT : (PT, X.env.qual ++ "<lambda>") ∈ T)
    (hu : ∀ p ∈ T, p.1 = PT → p.2 = X.env.qual ++ "<lambda>") (hr : Room (k + 2) X.A) (L : LamS X.env.scope scope) (hdef : defaultsOf params X.env = ([], []))
    (hbind : ∀ (q : Str) (cl : List (Str × Addr)) (pm cv ctv : Value), bindArgs (PySem.W.kla_fn "<lambda>" q params (.Call (.Name x p1) (e :: es) [] p3) scope cl pm cv ctv) ⟨[], []⟩ = pure [])
    (ha : ∀ (A : Around) (outer : List Env) (s : Shared) (H : Hp) (E : XK) (f c' : Addr), PA (lamCx X A outer s H E scope f c') (e :: es) ta)
    (hgl : ∀ (A : Around) (outer : List Env) (s : Shared) (H : Hp) (E : XK) (f c' : Addr), Gl (lamCx X A outer s H E scope f c') x) (hg : Gl X "_law_caught") (hdb : (x == ("__debug__" : Str)) = false := by decide)
    (he : ∀ env : Env, starEach (e :: es) env = (false, eval e env) :: starEach es env := by intro _; rfl) (hpl : ∀ env : Env, (backTo p3 (starEach es env)).any (·.1) = false := by intro _; rfl) :
    PE X (.Call (.Name "_law_caught" p) [.Lambda params (.Call (.Name x p1) (e :: es) [] p3) scope lpos] [] pos) (tLam T (TTc X.K CK) fun E => tCall sp [] E ta) := by
  obtain ⟨g, fd, F, hm, hk, hb⟩ := C.ex
  obtain ⟨oc, od, kV, doc, pm, an, cdv, ct, osl, rfl, lk, hcg⟩ := F.ex
  obtain ⟨f1, fd1, F1, m1, k1, b1⟩ := D.ex
  refine pe_lamcall (T := T) (c := c) (P := PT) (k := k) (a := "_law_task") hg hm hk lk hcg hb scCaught rfl (.inl rfl) (caught_gives C.gE) TB hcode hmT hu hr L hdef hbind (fun A outer s H E f c' hr2 => ?_) (by decide) (by decide) (by decide)
  have hP : Passes (L2.CX X.prog X.w) (lamCx X A outer s H E scope f c') E := pass_lam (X := X) (A := A) (outer := outer) (s := s) (H := H) (E := E) (scope := scope) (f := f) (c' := c')
  exact pe_call (X := lamCx X A outer s H E scope f c') F1 hr2 (hgl A outer s H E f c') m1 k1 b1 .nil hP (ha A outer s H E f c') hdb (he _) (hpl _)
theorem pv_lam {y : Str} {scope : Scope} {A : Around} {outer : List Env} {s : Shared} {H : Hp} {E : XK} {f c' : Addr} {p : Pos} (hN : X.N[i]? = some y) (hv : Vis scope y) (hd : (y == ("__debug__" : Str)) = false := by decide) (hcd : (y == ("__classdict__" : Str)) = false := by decide) : PE (lamCx X A outer s H E scope f c') (.Name y p) (tVar i) :=
  pe_var (X := lamCx X A outer s H E scope f c') (i := i) hN hv hd hcd
end
/-- _law_place(lambda: x(..)) -/
theorem pe_placeF {X : Cx} {CK CB : Addr} {T : List (Addr × Str)} {k : Nat} {c PT : Addr} {x : Str} {ps : List Str} {sp : Sp} {e : Expr} {es : List Expr} {ta : TA} {params : Arguments} {scope : Scope} {p p1 p3 lpos pos : Pos} (C : CaughtD X.K X.mg CK) (B : BadTx X.K X.mg CB CK) (PD : PlaceD X.K X.mg) (D : DefX X.prog X.w X.K X.mg X.base x k ps sp) (TB : TabB X.base X.mg c PT) (hcode : X.env.code = .ref c) (hmT : (PT, X.env.qual ++ "<lambda>") ∈ T)
    (hu : ∀ p ∈ T, p.1 = PT → p.2 = X.env.qual ++ "<lambda>") (hr : Room (k + 3) X.A) (L : LamS X.env.scope scope) (hdef : defaultsOf params X.env = ([], []))
    (hbind : ∀ (q : Str) (cl : List (Str × Addr)) (pm cv ctv : Value), bindArgs (PySem.W.kla_fn "<lambda>" q params (.Call (.Name x p1) (e :: es) [] p3) scope cl pm cv ctv) ⟨[], []⟩ = pure [])
    (ha : ∀ (A : Around) (outer : List Env) (s : Shared) (H : Hp) (E : XK) (f c' : Addr), PA (lamCx X A outer s H E scope f c') (e :: es) ta)
    (hgl : ∀ (A : Around) (outer : List Env) (s : Shared) (H : Hp) (E : XK) (f c' : Addr), Gl (lamCx X A outer s H E scope f c') x) (hg : Gl X "_law_place") (hdb : (x == ("__debug__" : Str)) = false := by decide)
    (he : ∀ env : Env, starEach (e :: es) env = (false, eval e env) :: starEach es env := by intro _; rfl) (hpl : ∀ env : Env, (backTo p3 (starEach es env)).any (·.1) = false := by intro _; rfl) :
    PE X (.Call (.Name "_law_place" p) [.Lambda params (.Call (.Name x p1) (e :: es) [] p3) scope lpos] [] pos) (tLam T (TTp X.K CK CB) fun E => tCall sp [] E ta) := by
  obtain ⟨f1, fd1, F1, m1, k1, b1⟩ := D.ex
  refine pe_place (k := k) C B PD hg TB hcode hmT hu hr L hdef hbind fun A outer s H E f c' hr2 => ?_
  have hP : Passes (L2.CX X.prog X.w) (lamCx X A outer s H E scope f c') E := pass_lam (X := X) (A := A) (outer := outer) (s := s) (H := H) (E := E) (scope := scope) (f := f) (c' := c')
  exact pe_call (X := lamCx X A outer s H E scope f c') F1 hr2 (hgl A outer s H E f c') m1 k1 b1 .nil hP (ha A outer s H E f c') hdb (he _) (hpl _)
end Kw
set_option maxHeartbeats 6000000
namespace Kw
open PySem PySem.Spec PyProof.Rows L2 LamX SX
/-! ### versions and their texts -/
def spVR (K : PySem.W.Frag) (T : List (Addr × Str)) : Sp := fun vs H Q _ => ∃ (d w c : Addr) (B : Int), vs = [.ref d] ∧ StAt H d w c B ∧ B + 10 ≤ 1000000000000 ∧ Tabs T H ∧ ∀ H', StAt H' d w c (B + 10) → Tabs T H' → Q (.bl true) H'
/-- what is picked: a text, or no text -/
def OddT (K : PySem.W.Frag) (H : Hp) (o : V) (u : Option (List Nat)) : Prop := match u with
  | some u => o = .str (S u) ∧ u.length ≤ 60 ∧ smT u
  | none => ∃ Ty, KT K H o Ty ∧ kitB Ty "str" = some false
def fitU : Option (List Nat) → Bool
  | some u => verW u
  | none => false
theorem notS_non {K : PySem.W.Frag} {H : Hp} : OddT K H .non none := ⟨_, .flat .non, by decide +kernel⟩
theorem notS_tup {K : PySem.W.Frag} {H : Hp} {a : Addr} {xs : List V} (h : SqT K H a xs) : OddT K H (.ref a) none := ⟨_, .tup h, by decide +kernel⟩
theorem OddT.not {K : PySem.W.Frag} {H : Hp} {o : V} (h : OddT K H o none) : NotS K H o := let ⟨_, h1, h2⟩ := h; ⟨_, h1.ty, kit_ty h2⟩
theorem OddT.ext {K : PySem.W.Frag} {H H' : Hp} {o : V} {u : Option (List Nat)} (h : OddT K H o u) (e : ExtN H H') : OddT K H' o u := by
  cases u with
  | none => exact let ⟨_, h1, h2⟩ := h; ⟨_, h1.ext e, h2⟩
  | some u => exact h
abbrev rSpl : V → List V → Hp → VK → Prop := fun x xs H Q => ∃ a b, x = .str a ∧ xs = [.str b] ∧ (b.length == 0) = false ∧ a.length + 2 ≤ sizeLine ∧ rNewStrs (Txt.split a b) H Q
theorem fits_read {K : PySem.W.Frag} {σ : L2.St} {H : Hp} {o : V} {u : Option (List Nat)} {Q : VK} (h3 : σ[3]? = some (some o)) (ho : OddT K H o u) (q : ∀ H', Same H H' → Q (.bl (fitU u)) H') :
    tAndV (tCB (rIsi K) (tCons (tVar 3) (tCons (tC (.ty "str")) tNil))) (tAndV (tCall spPrtB [] E0 (tCons (tVar 3) tNil)) (tOp rEq (tCB (rLenS K) (tCons (tM1 rSpl (tVar 3) (tC (.str "."))) tNil)) (tC (.int 3)))) σ H Q := by
  cases u with
  | none =>
    obtain ⟨ty, h1, h2⟩ := OddT.not ho
    exact ⟨_, h3, o, .ty "str", ty, .type "str", false, rfl, .ty _, h1, h2, false, rfl, iteF (q H (Same.refl H))⟩
  | some u =>
    obtain ⟨rfl, lu, sm⟩ := ho
    refine ⟨_, h3, .str (S u), .ty "str", .type "str", .type "str", true, rfl, .ty _, Flat.ty (.str _), kit_ty (by decide +kernel), true, rfl, iteT ?_⟩
    refine ⟨_, h3, u, rfl, by omega, sm, fun H1 s1 => ⟨_, rfl, ?_⟩⟩
    cases pp : isPrt u with
    | false =>
      have q := q H1 s1
      unfold fitU verW at q
      simp only [pp, Bool.false_and] at q
      exact iteF q
    | true =>
      refine iteT ⟨_, h3, ⟨_, rfl⟩, S u, ".", rfl, rfl, by decide, by rw [S_len, sizeLine_eq]; omega, fun p hp => ?_⟩
      have k2 := same_upd (o := .lst ((Txt.split (S u) ".").map V.str)) hp
      refine ⟨p, _, rfl, .inl (SqL.of upd_same), rfl, ?_⟩
      have q := q _ (s1.trans k2)
      have e : (V.int ((((Txt.split (S u) ".").map V.str).length : Nat) : Int)) = V.int ((pcs u).length : Int) := by
        rw [str_d, pcs_split]
        simp
      show Q (.bl (decide (V.int ((((Txt.split (S u) ".").map V.str).length : Nat) : Int) = V.int 3))) _
      rw [e]
      unfold fitU verW at q
      simp only [pp, Bool.true_and] at q
      rw [show decide (V.int ((pcs u).length : Int) = V.int 3) = decide ((pcs u).length = 3) from decide_eq_decide.mpr ⟨fun z => by have := V.int.inj z; omega, fun z => by rw [z]; rfl⟩]
      exact q
section
variable {P : Program} {w : World} {K : PySem.W.Frag} {mg : Str → Option Value} {base : Heap}
theorem ok_VR {f cd PT CV CB CK : Addr} {fd : FuncData} {k : Nat} {T : List (Addr × Str)} (ml : mg "len" = none) (mr : mg "range" = none) (mt : mg "tuple" = none) (mst : mg "str" = none) (mp : mg "repr" = none) (gV : mg "BadVersion" = some (.ref CV)) (TB : TabB base mg cd PT)
    (hmT : (PT, ("_law_versions_right" : Str) ++ ".<locals>." ++ "<lambda>") ∈ T) (hu : ∀ p ∈ T, p.1 = PT → p.2 = ("_law_versions_right" : Str) ++ ".<locals>." ++ "<lambda>")
    (DPk : Def P w K mg base "_law_pick" CX0 k ["_law_state", "_law_some"] spPick) (DP : Def P w K mg base "_law_is_part" CX0 k ["_law_word"] spPrtB) (DT : DefX P w K mg base "version_text" k ["version"] (spVerT K CV)) (DTn : DefN P w K mg base "version_text" (L2.CX P w) k "version" (spVerT K CV))
    (DR : DefX P w K mg base "read_version" k ["text"] (spRdV K CB)) (DRn : DefN P w K mg base "read_version" (L2.CX P w) k "text" (spRdV K CB)) (C : CaughtD K mg CK) (B : BadTx K mg CB CK) (PD : PlaceD K mg)
    (EV : ExcC K CV) (subV' : PySem.W.exmOne K (.ref CV) (.ref CK) = some true) (kV : PySem.W.kitOne K (.ref CV) (.ref CV) = some true) (F : FunC K "_law_versions_right" "_law_versions_right" sVR f fd cd) :
    FnOk P w K mg base CX0 (k + 4) f fd ["_law_state"] (spVR K T) := by
  refine F.ok scVR (fun vs H Q E h => ?_) (fun A outer s H vs Q E hr h => ?_)
  · obtain ⟨d, w, c, B, rfl, _⟩ := h
    rfl
  · obtain ⟨d, w, c, B0, rfl, hS, hB, hT, q⟩ := h
    have hk := hr.mono (show k ≤ k + 3 by omega)
    have hk2 := hr.mono (show k + 2 ≤ k + 3 by omega)
    refine' ⟨_, pss_cons ?s1 (pss_cons ?s2 (pss_cons ?s3 (pss_cons ?s4 (pss_cons ?s5 (pss_cons ?s6 (pss_cons ?s7 (pss_one ?s8))))))), ?_⟩
    case s1 => exact ps_set (i := 1) scVR.nd rfl (.inl rfl) (pe_callTy call_tuple_of (by rfl) mt (by decide +kernel) (pa_cons (pe_lc (own := [("_law_k", 6)]) (g := gName 6) (te := tCall spPick [] E0 (tCons (tVar 0) (tCons (tLst (tCons (tC (.int 0)) (tCons (tC (.int 1)) (tCons (tC (.int 10)) (tCons (tOp (rI CPow fun i j => .int (i ^ j.toNat)) (tC (.int 10)) (tC (.int 8))) (tCons (tC (.int 123)) tNil)))))) tNil))) (tt := tYes) rfl scVR.nd (pi_range1 rfl mr (pa_cons pe_int pa_nil)) (blkOk_by (N := nVR) (sc := defScope sVR) (by decide +kernel))
        (fun _ _ _ _ _ => pg_name (i := 6) scVR.nd rfl (Or.inl rfl)) (fun _ _ _ _ _ => pts_nil) (fun _ _ _ _ _ => pe_d DPk hk (pa_cons (pv 0) (pa_cons (pe_lst (pa_cons pe_int (pa_cons pe_int (pa_cons pe_int (pa_cons (pe_op op_pow pe_int pe_int) (pa_cons pe_int pa_nil)))))) pa_nil)))) pa_nil))
    case s2 => exact ps_set (i := 2) scVR.nd rfl (.inl rfl) (pe_join pe_str (pe_lc (own := [("_law_number", 7)]) (g := gName 7) (tt := tYes) rfl scVR.nd (pi_tup (pv 1)) (blkOk_by (N := nVR) (sc := defScope sVR) (by decide +kernel))
        (fun _ _ _ _ _ => pg_name (i := 7) scVR.nd rfl (Or.inl rfl)) (fun _ _ _ _ _ => pts_nil) (fun _ _ _ _ _ => pe_callTy call_str_int (by rfl) mst (by decide +kernel) (pa_cons (pv 7) pa_nil))))
    case s3 => exact ps_if (PW.pt (pw_or (pt_cmpR op_ne (pe_dN DTn hk passL (pv 1)) (pv 2) (nomark _)) (pw_or1 (pt_cmpR (op_neD hr.units) (pe_dN DRn hk passL (pv 2)) (pv 1) (nomark _))))) (pss_one (ps_ret pe_bl)) pss_nil
    case s4 => exact ps_set (i := 3) scVR.nd rfl (.inr rfl) (pe_d DPk hk (pa_cons (pv 0) (pa_cons (pe_lst (pa_cons (pe_op op_add_str (pv 2) pe_str) (pa_cons (pe_op op_add_str (pv 2) pe_str) (pa_cons (pe_slice sl_str (pv 2) po_none (po_some (pe_un un_neg pe_int))) (pa_cons pe_str (pa_cons pe_str (pa_cons pe_str (pa_cons pe_str (pa_cons pe_str (pa_cons pe_non (pa_cons (pv 1) pa_nil))))))))))) pa_nil)))
    case s5 => exact ps_set (i := 4) scVR.nd rfl (.inl rfl) (pe_and (pe_callB call_isi (by rfl) B.mi (by decide +kernel) (pa_cons (pv 3) (pa_cons (pe_bltn (v := .ty "str") (by rfl) mst (by decide +kernel) rfl) pa_nil))) (pe_and (pe_d DP hk (pa_cons (pv 3) pa_nil)) (pe_one (pe_cmpR op_eq (pe_callB call_len_seq (by rfl) ml PySem.boot_len (pa_cons (pe_split (pv 3) pe_str) pa_nil)) pe_int (nomark _)))))
    case s6 => exact ps_if (pt_cmpR op_ne (pe_callB (r := rReprO) cr_reprO (by rfl) mp (by decide +kernel) (pa_cons (pe_placeF (ta := tCons (tVar 3) tNil) C B PD DR TB rfl hmT hu hr (lamS_by rfl) rfl (fun _ _ _ _ _ => rfl) (fun _ _ _ _ _ _ _ => pa_cons (pv_lam (i := 3) rfl (.inr (.inr rfl))) pa_nil) (fun _ _ _ _ _ _ _ => rfl) rfl) pa_nil)) (pe_ifExp (pt_val (pv 4)) pe_str pe_str) (nomark _)) (pss_one (ps_ret pe_bl)) pss_nil
    case s7 => exact ps_set (i := 5) scVR.nd rfl (.inr rfl) (pe_d DPk hk (pa_cons (pv 0) (pa_cons (pe_lst (pa_cons pe_non (pa_cons (pe_tup (pa_cons pe_int (pa_cons pe_int pa_nil))) (pa_cons (pe_lst (pa_cons pe_int (pa_cons pe_int (pa_cons pe_int pa_nil)))) (pa_cons pe_str pa_nil))))) pa_nil)))
    case s8 => exact ps_ret (pe_callB (r := rIsX K CV) (call_isX EV) (by rfl) B.mi (by decide +kernel) (pa_cons (pe_caughtF (ta := tCons (tVar 5) tNil) C DT TB rfl hmT hu hk2 (lamS_by rfl) rfl (fun _ _ _ _ _ => rfl) (fun _ _ _ _ _ _ _ => pa_cons (pv_lam (i := 5) rfl (.inr (.inr rfl))) pa_nil) (fun _ _ _ _ _ _ _ => rfl) rfl) (pa_cons (pe_glob (v := .ref CV) (by rfl) gV rfl) pa_nil)))
    dsimp only [tSeq, tAsg, tRet, tIfS, gName, tNext]
    obtain ⟨ys, hw⟩ := hS.hw
    refine ⟨3, rfl, by decide, by decide, fun D hD => ?_⟩
    have nDw : D ≠ w := (ne_of_none hw hD).symm
    refine lc_range (lo := 0) (n := 3) (fun i H' => Fr2 d w H H' ∧ StAt H' d w c (B0 + i) ∧ ∃ ns : List Nat, H' D = some (.lst (tupN ns)) ∧ ns.length = i ∧ ∀ x ∈ ns, x ≤ 100000000)
      ⟨.new hD, (hS.same (same_upd hD)).mono (by simp), [], upd_same, rfl, fun x h => (nomatch h)⟩ ?_ ?_
    · rintro i H1 hi ⟨F1, S1, ns, h1, h2, h3⟩
      refine ⟨rfl, yesI ?_⟩
      refine ⟨_, rfl, 10, 8, rfl, rfl, ⟨by decide, by decide, by decide⟩, by show 5 ≤ sizeLine; decide, fun l hl => ?_⟩
      have sl := same_upd (o := .lst ([0, 1, 10, 10 ^ Int.toNat 8, 123].map V.int)) hl
      obtain ⟨ys1, hw1⟩ := S1.hw
      refine ⟨d, w, c, B0 + i, l, [0, 1, 10, 10 ^ Int.toNat 8, 123].map V.int, rfl, S1.same sl, by omega, upd_same, (ne_of_none hw1 hl).symm, by show 0 < 5; decide, by show 5 < 1073741824; decide, fun H2 j v hv S2 F2 => ?_⟩
      obtain ⟨n, hn, rfl⟩ : ∃ n : Nat, n ≤ 100000000 ∧ v = .int (n : Int) := by
        have hm := List.mem_of_getElem? hv
        simp only [List.map_cons, List.map_nil, List.mem_cons, List.not_mem_nil, or_false] at hm
        rcases hm with rfl | rfl | rfl | rfl | rfl
        · exact ⟨0, by decide, rfl⟩
        · exact ⟨1, by decide, rfl⟩
        · exact ⟨10, by decide, rfl⟩
        · exact ⟨100000000, by decide, rfl⟩
        · exact ⟨123, by decide, rfl⟩
      have hD2 := F2.lst (S1.same sl) (sl _ _ h1) nDw
      refine ⟨_, hD2, by rw [List.length_map]; exact small1000 (by omega), ?_⟩
      refine ⟨(F1.trans ((Fr2.ofSame sl).trans F2)).put hD, (hS.put hD S2).mono (by omega), ns ++ [n], by rw [upd_same]; simp [tupN], by rw [List.length_append, h2]; rfl, fun x hx => ?_⟩
      rcases List.mem_append.mp hx with hx | hx
      · exact h3 x hx
      · rw [List.mem_singleton.mp hx]; exact hn
    rintro H1 ⟨F1, S1, ns, h1, h2, h3⟩
    obtain ⟨x, y, z, rfl⟩ : ∃ x y z, ns = [x, y, z] := by
      match ns, h2 with
      | [x, y, z], _ => exact ⟨x, y, z, rfl⟩
    have bx := h3 x (by simp)
    have by' := h3 y (by simp)
    have bz := h3 z (by simp)
    have okp : PartOk [x, y, z] := ⟨by show 1 ≤ 3; decide, by show 3 ≤ 3; decide, fun n hn => Nat.lt_of_le_of_lt (h3 n hn) (by decide)⟩
    let v : Ver := ((x : Int), (y : Int), (z : Int))
    have ov : okV v := ⟨Int.natCast_nonneg _, Int.natCast_nonneg _, Int.natCast_nonneg _⟩
    have sv : smallV v := ⟨by show (x : Int) < _; omega, by show (y : Int) < _; omega, by show (z : Int) < _; omega⟩
    have nv : nV v = [x, y, z] := rfl
    refine ⟨_, _, rfl, .inl ⟨SqL.of h1, fun pV hpV => ?_⟩⟩
    have k2 := same_upd (o := .tup (tupN [x, y, z])) hpV
    have g2 : SqT K (upd H1 pV (.tup (tupN [x, y, z]))) pV (tupN [x, y, z]) := .inl (.inl upd_same)
    have S2 := S1.same k2
    have T1 := Tabs.fr2 hT hS F1
    have T2 := T1.ext k2
    generalize upd H1 pV (.tup (tupN [x, y, z])) = H2 at k2 g2 S2 T2 ⊢
    have iv2 : IsVer K H2 (.ref pV) v := ⟨pV, rfl, g2⟩
    -- the text
    refine ⟨⟨_, rfl⟩, _, rfl, pV, rfl, ⟨_, g2⟩, fun L hL => ?_⟩
    refine lc_tup (K := K) (a := pV) (xs := tupN [x, y, z]) (fun i H' => Same H2 H' ∧ H' L = some (.lst (strL (([x, y, z].take i).map TL.numL)))) ⟨same_upd hL, upd_same⟩ (fun i H' _ R => Same.sqT R.1 g2) ?_ ?_
    · rintro i yv H' hy ⟨s1, hL1⟩
      rw [List.getElem?_map] at hy
      obtain ⟨n, hn, rfl⟩ := Option.map_eq_some_iff.mp hy
      have il := (List.getElem?_eq_some_iff.mp hn).1
      refine ⟨rfl, yesI ⟨_, rfl, (n : Int), rfl, log_smallN (okp.bd n (List.mem_of_getElem? hn)), _, hL1, ?_, fun b o y => by rw [upd_ne (ne_of_none y hL)]; exact s1 _ _ y, ?_⟩⟩
      · rw [List.length_map, List.length_map, List.length_take]
        have : i < 3 := il
        exact small1000 (by omega)
      · rw [upd_same, take_snoc hn]
        simp only [strL, List.map_append, List.map_cons, List.map_nil]
        rw [← num_S]
    rintro H3 ⟨s3, hL3⟩
    have lpt := partL_len okp
    refine ⟨S [46], L, ([x, y, z].map TL.numL).map S, rfl, rfl, .inl (SqL.of (by rw [hL3]; simp [strL])), ?_, ?_⟩
    · have l : ∀ n : Nat, n < 10 ^ 10 → (TL.numL n).length ≤ 10 := fun n hn => TL.numL_len (k := 10) (by decide) hn
      have l1 := l x (okp.bd x (by simp))
      have l2 := l y (okp.bd y (by simp))
      have l3 := l z (okp.bd z (by simp))
      rw [lens, S_len]
      simp only [List.map_cons, List.map_nil, List.sum_cons, List.sum_nil, List.length_cons, List.length_nil]
      omega
    rw [join_S]
    have T3 := T2.ext s3
    have S3 := S2.same s3
    have iv3 := iv2.same s3
    have smp : smT (partL [x, y, z]) := partL_small
    refine ⟨_, rfl, .ref pV, rfl, .inl ⟨v, iv3, ov, sv, fun H4 s4 => ⟨_, rfl, rfl, _, rfl, ?_⟩⟩⟩
    rw [show (!decide (V.str (S (partL (nV v))) = V.str (S (partL [x, y, z])))) = false by rw [nv]; simp]
    obtain ⟨vp1, vp2⟩ := ver_part (ps := [x, y, z]) rfl
    refine iteF ⟨_, rfl, _, rfl, .inr ⟨partL [x, y, z], rfl, by omega, smp, fun _ H5 p5 s5 h5 => ?_, fun no => absurd (vp1.symm.trans no) (by decide)⟩⟩
    rw [vp2] at h5
    have s35 := s4.trans s5
    have iv5 : IsVer K H5 (.ref p5) v := ⟨p5, rfl, h5⟩
    have iv5' := iv3.same s35
    refine ⟨_, rfl, _, _, dp_ver iv5, dp_ver iv5', shaped_ver _, shaped_ver _, _, rfl, ?_⟩
    rw [show PyData.eqv (verD v) (verD v) = true from (eqv_verD v v).trans (decide_eq_true rfl)]
    refine iteF ?_
    have S5 := S3.same s35
    have T5 := T3.ext s35
    -- what is picked
    obtain ⟨cu, ec, lc, mc⟩ := cut_str (partL [x, y, z]) none (some (-1))
    have szp : (S (partL [x, y, z])).length ≤ sizeLine := by rw [S_len, sizeLine_eq]; omega
    refine ⟨_, rfl, _, rfl, S (partL [x, y, z]), S [46, 48], rfl, rfl, by rw [S_len, S_len, sizeLine_eq]; simp; omega, ?_⟩
    refine ⟨_, rfl, S (partL [x, y, z]), S [32], rfl, rfl, by rw [S_len, S_len, sizeLine_eq]; simp; omega, ?_⟩
    refine ⟨_, rfl, 1, rfl, -1, rfl, S (partL [x, y, z]), rfl, szp, ?_⟩
    rw [S_cat, S_cat, ec]
    refine ⟨_, rfl, by show 10 ≤ sizeLine; decide, fun l hl => ?_⟩
    have k6 := same_upd (o := .lst [.str (S (partL [x, y, z] ++ [46, 48])), .str (S (partL [x, y, z] ++ [32])), .str (S cu), .str "", .str "1.2", .str "01.0.0", .str "a.b.c", .str "1..2", .non, .ref pV]) hl
    have S6 := S5.same k6
    refine ⟨d, w, c, B0 + 3, l, _, rfl, S6.mono (by simp), by omega, upd_same, (S5.ne hl).2.1.symm, by show 0 < 10; decide, by show 10 < 1073741824; decide, fun H7 j o hv S7 F7 => ?_⟩
    have T7 := Tabs.fr2 (T5.ext k6) S6 F7
    obtain ⟨u, ho⟩ : ∃ u, OddT K H7 o u := by
      have sm1 : smT (partL [x, y, z] ++ [46, 48]) := fun c hc => (List.mem_append.mp hc).elim (smp c) fun h => by simp at h; omega
      have sm2 : smT (partL [x, y, z] ++ [32]) := fun c hc => (List.mem_append.mp hc).elim (smp c) fun h => by simp at h; omega
      match j, hv with
      | 0, hv => cases hv; exact ⟨some _, rfl, by rw [List.length_append]; simp; omega, sm1⟩
      | 1, hv => cases hv; exact ⟨some _, rfl, by rw [List.length_append]; simp; omega, sm2⟩
      | 2, hv => cases hv; exact ⟨some cu, rfl, by omega, fun c hc => smp c (mc c hc)⟩
      | 3, hv => cases hv; exact ⟨some [], rfl, by decide, by unfold smT; decide⟩
      | 4, hv => cases hv; exact ⟨some [49, 46, 50], rfl, by decide, by unfold smT; decide⟩
      | 5, hv => cases hv; exact ⟨some [48, 49, 46, 48, 46, 48], rfl, by decide, by unfold smT; decide⟩
      | 6, hv => cases hv; exact ⟨some [97, 46, 98, 46, 99], rfl, by decide, by unfold smT; decide⟩
      | 7, hv => cases hv; exact ⟨some [49, 46, 46, 50], rfl, by decide, by unfold smT; decide⟩
      | 8, hv => cases hv; exact ⟨none, notS_non⟩
      | 9, hv => cases hv; exact ⟨none, notS_tup (F7.sqT S6 (Same.sqT (((s3.trans s35)).trans k6) g2))⟩
      | j + 10, hv => simp at hv
    refine fits_read rfl ho fun H8 s8 => ?_
    have T8 := T7.ext s8
    have S8 := S7.same s8
    have ho8 := ho.ext (ExtN.same s8)
    -- the place
    have plc : ∀ R : VK, (∀ H', ExtN H8 H' → Tabs T H' → R (.str (if fitU u = true then "None" else "0")) H') → tCB rReprO (tCons (tLam T (TTp K CK CB) fun E => tCall (spRdV K CB) [] E (tCons (tVar 3) tNil)) tNil) [some (.ref d), some (.ref pV), some (.str (S (partL [x, y, z]))), some o, some (.bl (fitU u)), none, none, none] H8 R := fun R r => by
      refine ⟨T8, fun H9 e9 T9 => ?_⟩
      have fail : fitU u = false → ∀ (hX : ∀ (E : XK) (Q' : VK), (∀ H' dd, ExtN H9 H' → Tabs T H' → H' dd = some (.xd [(("at" : Str), .int 0)]) → E (.ref CB) (some dd) H') → spRdV K CB [o] H9 Q' E), TTp K CK CB (fun E H' Q' => tCall (spRdV K CB) [] E (tCons (tVar 3) tNil) [some (.ref d), some (.ref pV), some (.str (S (partL [x, y, z]))), some o, some (.bl (fitU u)), none, none, none] H' Q') H9 (fun v H' => rReprO [v] H' R) := fun fu hX =>
        place_err (T := T) B (v := .int 0) (fun E Q' h => ⟨_, rfl, hX E Q' h⟩) fun H' e' t' => .inr ⟨0, rfl, by decide, by
          have z := r H' (e9.trans e') t'
          rw [fu] at z
          exact z⟩
      cases u with
      | none =>
        exact fail rfl fun E Q' h => ⟨o, rfl, .inl ⟨OddT.not (ho8.ext e9), fun H' dd s hd => h H' dd (ExtN.same s) (T9.ext s) hd⟩⟩
      | some u =>
        obtain ⟨rfl, lu, sm⟩ := ho8
        cases vu : verW u with
        | false =>
          exact fail vu fun E Q' h => ⟨_, rfl, .inr ⟨u, rfl, by omega, sm, fun yes => absurd (yes.symm.trans vu) (by decide), fun _ H' dd s hd => h H' dd (ExtN.same s) (T9.ext s) hd⟩⟩
        | true =>
          refine place_ok (T := T) (fun E Q' h => ⟨_, rfl, _, rfl, .inr ⟨u, rfl, by omega, sm, fun _ H' p s hp => h H' _ (ExtN.same s) (T9.ext s), fun no => absurd (no.symm.trans vu) (by decide)⟩⟩) fun H' e' t' => .inl ⟨rfl, ?_⟩
          have z : R (.str (if verW u = true then "None" else "0")) H' := r H' (e9.trans e') t'
          rw [if_pos vu] at z
          exact z
    refine plc _ fun H9 e9 T9 => ⟨_, rfl, fitU u, rfl, ?_⟩
    have S9 := S8.ext e9
    have last : ∀ σ : L2.St, σ[0]? = some (some (.ref d)) → (∀ y, (σ.set 5 (some y))[5]? = some (some y)) → tCall spPick [] E0 (tCons (tVar 0) (tCons (tLst (tCons (tC V.non) (tCons (tTup (tCons (tC (.int 1)) (tCons (tC (.int 2)) tNil))) (tCons (tLst (tCons (tC (.int 1)) (tCons (tC (.int 2)) (tCons (tC (.int 3)) tNil)))) (tCons (tC (.str "1.2.3")) tNil))))) tNil)) σ H9 (fun x H1 => tCB (rIsX K CV) (tCons (tLam T (TTc K CK) fun E => tCall (spVerT K CV) [] E (tCons (tVar 5) tNil)) (tCons (tC (.ref CV)) tNil)) (σ.set 5 (some x)) H1 Q) := fun σ hσ h5 => by
      refine ⟨_, hσ, by show 2 ≤ sizeLine; decide, fun p1 hp1 => ⟨by show 3 ≤ sizeLine; decide, fun p2 hp2 => ⟨by show 4 ≤ sizeLine; decide, fun l hl => ?_⟩⟩⟩
      have k1 := same_upd (o := .tup [.int 1, .int 2]) hp1
      have k2 := same_upd (o := .lst [.int 1, .int 2, .int 3]) hp2
      have k3 := same_upd (o := .lst [.non, .ref p1, .ref p2, .str "1.2.3"]) hl
      have S10 := ((S9.same k1).same k2).same k3
      have n2w : p2 ≠ w := ((S9.same k1).ne hp2).2.1.symm
      refine ⟨d, w, c, B0 + 4, l, _, rfl, S10.mono (by omega), by omega, upd_same, (((S9.same k1).same k2).ne hl).2.1.symm, by show 0 < 4; decide, by show 4 < 1073741824; decide, fun H11 j o hv S11 F11 => ?_⟩
      have T11 := Tabs.fr2 (((T9.ext k1).ext k2).ext k3) S10 F11
      have vb : VerB K H11 o false := by
        match j, hv with
        | 0, hv => cases hv; exact .oth (.flat .non)
        | 1, hv => cases hv; exact .tup (F11.sqT S10 (.inl (.inl ((k2.trans k3) _ _ upd_same)))) (fun y hy h => absurd h (by decide)) rfl
        | 2, hv => cases hv; exact .oth (.lst (F11.lst S10 (k3 _ _ upd_same) n2w))
        | 3, hv => cases hv; exact .oth (.flat (.str _))
        | j + 4, hv => simp at hv
      refine use (Pv := qX CV) T11 (fun H12 x e12 T12 hx => ?_) (yCauG subV' fun H' Q E e' hE => ⟨o, h5 o, o, rfl, .inr ⟨vb.ext e', hE⟩⟩)
      exact ⟨x, .ref CV, none, .ref CV, true, rfl, hx, .own _, kV, q H12 ((S11.ext e12).mono (by omega)) T12⟩
    cases fitU u with
    | true =>
      refine iteT ⟨rfl, _, rfl, ?_⟩
      rw [decide_eq_true (show V.str (if true = true then ("None" : Str) else "0") = V.str "None" from rfl)]
      exact iteF (last [some (.ref d), some (.ref pV), some (.str (S (partL [x, y, z]))), some o, some (.bl true), none, none, none] rfl fun y => rfl)
    | false =>
      refine iteF ⟨rfl, _, rfl, ?_⟩
      rw [decide_eq_true (show V.str (if false = true then ("None" : Str) else "0") = V.str "0" from rfl)]
      exact iteF (last [some (.ref d), some (.ref pV), some (.str (S (partL [x, y, z]))), some o, some (.bl false), none, none, none] rfl fun y => rfl)
end
end Kw
set_option maxHeartbeats 6000000
namespace Kw
open PySem PySem.Spec PyProof.Rows L2 LamX SX
/-! ### the law's turn -/
def spPickS : Sp := fun vs H Q _ => ∃ (d w c : Addr) (B : Int) (z : List Nat), vs = [.ref d, .str (S z)] ∧ StAt H d w c B ∧ B ≤ 1000000000000 ∧ 0 < z.length ∧ z.length ≤ 1000 ∧ ∀ H' n, n ∈ z → StAt H' d w c (B + 1) → Fr2 d w H H' → Q (.str (S [n])) H'
theorem ch_words {c : ChT} (ok : ChOk c) : ∀ u ∈ c.words, okU u := fun u hu => by
  have h3 : 32 ∉ u := words_signs [c] u (by simp [tailC, hu])
  refine ⟨?_, choice_small c u hu, h3⟩
  cases c with
  | dash a b =>
    simp [ChT.words] at hu
    rcases hu with rfl | rfl | rfl
    · have := partL_len ok.1; omega
    · decide
    · have := partL_len ok.2; omega
  | terms t ts =>
    simp only [ChT.words, List.mem_cons, List.mem_map] at hu
    rcases hu with rfl | ⟨v, hv, rfl⟩
    · exact termL_len ok.1
    · exact termL_len (ok.2 v hv)
theorem joinU_len : ∀ {ws : List (List Nat)}, (∀ w ∈ ws, okU w) → (TL.joinL [32] ws).length ≤ 35 * ws.length ∧ smT (TL.joinL [32] ws)
  | [], _ => ⟨Nat.zero_le _, fun c h => by simp [TL.joinL] at h⟩
  | [w], h => by
    have := h w (by simp)
    refine ⟨by simp [TL.joinL]; have := this.1; omega, fun c hc => this.2.1 c (by simpa [TL.joinL] using hc)⟩
  | w :: v :: ws, h => by
    have h1 := h w (by simp)
    obtain ⟨ih, ih2⟩ := joinU_len (ws := v :: ws) fun u hu => h u (List.mem_cons_of_mem _ hu)
    refine ⟨?_, fun c hc => ?_⟩
    · have := h1.1
      simp only [TL.joinL, List.length_append, List.length_cons, List.length_nil] at ih ⊢
      omega
    · simp only [TL.joinL, List.mem_append] at hc
      rcases hc with hc | hc | hc
      · exact h1.2.1 c hc
      · simp at hc
        omega
      · exact ih2 c hc
theorem text_words {ws : List (List Nat)} (h : ∀ w ∈ ws, okU w) (l : ws.length ≤ 16) : (wordsT (TL.joinL [32] ws)).length ≤ 60 := by
  by_cases ne : ws = []
  · rw [ne]
    decide
  · have e : wordsT (TL.joinL [32] ws) = ws := spl_join ne fun w hw => (h w hw).2.2
    rw [e]
    omega
section
variable {P : Program} {w : World} {K : PySem.W.Frag} {mg : Str → Option Value} {base : Heap}
theorem ok_pickS {f : Addr} {fd : FuncData} {k : Nat} (F : Fun K "_law_pick" "_law_pick" sPick f fd) (ml : mg "len" = none) (DD : Def P w K mg base "_law_draw" CX0 k ["_law_state", "_law_size"] spDraw) : FnOk P w K mg base CX0 (k + 1) f fd ["_law_state", "_law_some"] spPickS := by
  refine F.ok scPick (fun vs H Q E h => ?_) (fun cdv A outer s H vs Q E hr h => ?_)
  · obtain ⟨d, w, c, B, z, rfl, _⟩ := h
    rfl
  · obtain ⟨d, w, c, B, z, rfl, hS, hB, hl, hl2, q⟩ := h
    have sz : (S z).length ≤ sizeLine := by rw [S_len, sizeLine_eq]; omega
    refine ⟨_, pss_one (ps_ret (pe_ix (r := rIxS) ix_str (pv 1) (pe_d DD hr (pa_cons (pv 0) (pa_cons (pe_callB call_len_str (by rfl) ml PySem.boot_len (pa_cons (pv 1) pa_nil)) pa_nil))) (fun _ _ => rfl))), ?_⟩
    refine ⟨_, rfl, _, rfl, _, rfl, S z, rfl, sz, d, w, c, B, (z.length : Int), congrArg (fun i => [V.ref d, V.int i]) (by rw [S_len]), hS, hB, by omega, by omega, fun H' i h0 h1 S' F' => ?_⟩
    obtain ⟨n, rfl⟩ : ∃ n : Nat, i = (n : Int) := ⟨i.toNat, by omega⟩
    have hn : n < z.length := by omega
    refine ⟨S z, n, z[n], rfl, rfl, sz, ?_, q H' _ (List.getElem_mem hn) S' F'⟩
    exact atI_nat (List.getElem?_eq_getElem hn)
end
section
variable {K : PySem.W.Frag} {σ : L2.St} {H : Hp} {l : Addr} {ws : List (List Nat)}
theorem bars_read {R : VK} (h3 : σ[3]? = some (some (.ref l))) (hl : H l = some (.lst (strL ws))) (sm : ∀ u ∈ ws, okU u) (q : ∀ H' p vs, Same H H' → H p = none → H' p = some (.lst (strL vs)) → vs.length ≤ 1 → (∀ u ∈ vs, okU u) → R (.ref p) H') :
    tIf (tTest (tOp (rNeD K) (tVar 3) (tLst tNil))) (tLst (tCons (tC (.str "||")) tNil)) (tLst tNil) σ H R := by
  refine ⟨_, h3, Nat.zero_le _, fun e0 he0 => ?_⟩
  have k1 := same_upd (o := .lst []) he0
  refine ⟨_, _, .lst (SqL.of (k1 _ _ hl)) (dp_txts _), .lst (SqL.of upd_same) .nil, shaped_txts (fun u hu => (sm u hu).2.1), shaped_nil, _, rfl, ?_⟩
  rw [eqv_nilS]
  cases ws with
  | nil => exact iteF ⟨Nat.zero_le _, fun p hp => q _ p [] (k1.trans (same_upd hp)) (k1.free hp) upd_same (by simp) fun u hu => nomatch hu⟩
  | cons a r => exact iteT ⟨by show 1 ≤ sizeLine; decide, fun p hp => q _ p [bars] (k1.trans (same_upd (o := .lst (strL [bars])) hp)) (k1.free hp) upd_same (by simp) fun u hu => by
      rw [List.mem_singleton.mp hu]
      exact ⟨by decide, by unfold smT; decide, by decide⟩⟩
end
abbrev sLaw5 : Stmt := top 64
abbrev nL5 : List Str := ["_law_script", "_law_state", "_law_turn", "_law_words", "_law_k", "_law_lap", "_law_text", "_law_odd"]
theorem scL5 : FnScope nL5 ["_law_script"] (defScope sLaw5) := ⟨rfl, rfl, rfl, by decide +kernel, rfl, by decide +kernel, by decide +kernel⟩
end Kw
set_option maxHeartbeats 6000000
namespace Kw
open PySem PySem.Spec PyProof.Rows L2 LamX SX
theorem sumU : ∀ {ws : List (List Nat)}, (∀ w ∈ ws, okU w) → (ws.map (·.length)).sum ≤ 34 * ws.length
  | [], _ => Nat.zero_le _
  | w :: ws, h => by
    have := (h w List.mem_cons_self).1
    have ih := sumU (ws := ws) fun v hv => h v (List.mem_cons_of_mem _ hv)
    simp
    omega
structure OkT (t : List Nat) : Prop where
  len : t.length ≤ 590
  sm : smT t
  few : (wordsT t).length ≤ 60
abbrev tPl (K : PySem.W.Frag) (T : List (Addr × Str)) (CK CB : Addr) (te : TE) : TE := tLam T (TTp K CK CB) fun E => tCall (spReadG K T CB) [] E (tCons te tNil)
abbrev tRng0 (K : PySem.W.Frag) (T : List (Addr × Str)) (CR : Addr) : TE := fun _ H Q => Tabs T H ∧ ∀ H' x, ExtN H H' → Tabs T H' → IsR K CR H' (.ref x) [] → H x = none → Q (.ref x) H'
abbrev tEnd (K : PySem.W.Frag) (T : List (Addr × Str)) (CK CB CR : Addr) : TS :=
  tSeq (tIfS (tTest (tOp rNe (tCB rReprO (tCons (tPl K T CK CB (tVar 6)) tNil)) (tCB rReprO (tCons (tCall (spBadW K) [] E0 (tCons (tM1 rSpl (tVar 6) (tC (.str " "))) tNil)) tNil)))) (tRet (tC (.bl false))) tNext)
  (tSeq (tAsg (tCall spPick [] E0 (tCons (tVar 1) (tCons (tLst (tCons (tC .non) (tCons (tC (.int 5)) (tCons (tC (.bl true)) (tCons (tLst (tCons (tC (.str "*")) tNil)) (tCons (tTup tNil) (tCons (tRng0 K T CR) tNil))))))) tNil))) (gName 7))
    (tIfS (tOr (tTest (tOp rNe (tCB rReprO (tCons (tPl K T CK CB (tVar 7)) tNil)) (tC (.str "0")))) (tNot (tB (tCall (spVR K T) [] E0 (tCons (tVar 1) tNil))))) (tRet (tC (.bl false))) tNext))
def repO (o : Option Nat) : Str := match o with
  | none => "None"
  | some b => toString (b : Int)
theorem rep_opt {o : Option Nat} {H : Hp} {Q : VK} (h : ∀ b, o = some b → b < 1000) (q : Q (.str (repO o)) H) : rReprO [optV o] H Q := by
  cases o with
  | none => exact .inl ⟨rfl, q⟩
  | some b => exact .inr ⟨(b : Int), rfl, log_small b (h b rfl), q⟩
theorem badR_bd {ws : List (List Nat)} : ∀ (n i : Nat), i ≤ ws.length → ∀ b, badR ws n i = some b → b ≤ ws.length + 2
  | 0, i, h, b, e => by
    have : i = b := Option.some.inj e
    omega
  | n + 1, i, h, b, e => by
    cases ec : choiceR ws i with
    | inl x =>
      rw [bad_here ec] at e
      have := (choice_bd h).2 x ec
      have : x = b := Option.some.inj e
      omega
    | inr j =>
      have jb := (choice_bd h).1 j ec
      rw [bad_step ec] at e
      unfold contR at e
      cases ej : ws[j]? with
      | none => rw [ej] at e; cases e
      | some w =>
        have lj := (List.getElem?_eq_some_iff.mp ej).1
        rw [ej] at e
        simp only at e
        split at e
        · exact badR_bd n (j + 1) lj b e
        · have : j = b := Option.some.inj e
          omega
theorem badT_bd {ws : List (List Nat)} {b : Nat} (h : badT ws = some b) : b ≤ ws.length + 2 := by
  unfold badT at h
  split at h
  · split at h
    · cases h
    · have : 1 = b := Option.some.inj h
      omega
  · exact badR_bd _ 0 (Nat.zero_le _) b h
section
variable {K : PySem.W.Frag} {mg : Str → Option Value} {T : List (Addr × Str)} {σ : L2.St} {H : Hp} {CK CB CR : Addr}
theorem place_read {i : Nat} {o : V} {R : VK} (B : BadTx K mg CB CK) (t : Tabs T H) (hi : σ[i]? = some (some o)) (r : Option Nat) (hr : ∀ b, r = some b → b < 1000)
    (h : ∀ H', ExtN H H' → Tabs T H' → (r = none → ∀ (Q : VK) (E : XK), (∀ H'' z, ExtN H' H'' → Tabs T H'' → Q z H'') → spReadG K T CB [o] H' Q E) ∧ (∀ b, r = some b → ∀ (Q : VK) (E : XK), XAt E CB (.int (b : Int)) H' → spReadG K T CB [o] H' Q E))
    (q : ∀ H', ExtN H H' → Tabs T H' → R (.str (repO r)) H') : tCB rReprO (tCons (tPl K T CK CB (tVar i)) tNil) σ H R := by
  refine ⟨t, fun H1 e1 T1 => ?_⟩
  obtain ⟨h1, h2⟩ := h H1 e1 T1
  cases r with
  | none => exact place_ok (T := T) (fun E Q' r => ⟨_, hi, h1 rfl _ E fun H' z e t => r H' z e t⟩) fun H' e' t' => .inl ⟨rfl, q H' (e1.trans e') t'⟩
  | some b => exact place_err (T := T) B (v := .int (b : Int)) (fun E Q' r => ⟨_, hi, h2 b rfl _ E fun H' dd s hd => r H' dd (ExtN.same s) (T1.ext s) hd⟩) fun H' e' t' => .inr ⟨(b : Int), rfl, log_small b (hr b rfl), q H' (e1.trans e') t'⟩
theorem end_read {d wl c : Addr} {B0 : Int} {t : List Nat} {y0 y2 y3 y4 y5 y7 : Option V} {D : Ends} (B : BadTx K mg CB CK) (rty : RTy K CR) (noR : PySem.W.kitOne K (.ref CR) (.type "str") = some false) (S0 : StAt H d wl c B0) (hB : B0 + 20 ≤ 1000000000000) (t0 : Tabs T H) (ok : OkT t)
    (q : ∀ H' z7, StAt H' d wl c (B0 + 20) → Tabs T H' → D.nx [y0, some (.ref d), y2, y3, y4, y5, some (.str (S t)), z7] H') : tEnd K T CK CB CR D [y0, some (.ref d), y2, y3, y4, y5, some (.str (S t)), y7] H := by
  unfold tEnd
  dsimp only [tSeq, tAsg, tRet, tIfS, gName, tNext]
  have okw := words_ok ok.len ok.sm ok.few
  have bdT : ∀ b, badT (wordsT t) = some b → b < 1000 := fun b hb => by
    have := badT_bd hb
    have := ok.few
    omega
  refine place_read B t0 rfl (badT (wordsT t)) bdT (fun H1 e1 T1 => ⟨fun r Q E h => ⟨_, rfl, T1, .inr ⟨t, rfl, ok.len, ok.sm, ok.few, fun _ H' z e t => h H' z e t, fun b hb => absurd (r.symm.trans hb) (by simp)⟩⟩, fun b r Q E h => ⟨_, rfl, T1, .inr ⟨t, rfl, ok.len, ok.sm, ok.few, fun hn => absurd (r.symm.trans hn) (by simp), fun b' hb' => by
    have : b = b' := Option.some.inj (r.symm.trans hb')
    rw [← this]
    exact h⟩⟩⟩) fun H1 e1 T1 => ?_
  refine ⟨_, rfl, ⟨_, rfl⟩, S t, " ", rfl, rfl, by decide, by rw [S_len, sizeLine_eq]; have := ok.len; omega, fun p hp => ?_⟩
  have k2 := same_upd (o := .lst ((Txt.split (S t) " ").map V.str)) hp
  have at2 : upd H1 p (.lst ((Txt.split (S t) " ").map V.str)) p = some (.lst (strL (wordsT t))) := by
    rw [upd_same, show ((" " : Str)) = S [32] from rfl, words_cut]
    simp [strL]
  refine ⟨p, wordsT t, rfl, SqL.of at2, okw, (spl_bd 32 t []).2.1, fun H3 s3 => ?_⟩
  dsimp only [tNil]
  refine rep_opt bdT ⟨rfl, _, rfl, ?_⟩
  rw [decide_eq_true (show V.str (repO (badT (wordsT t))) = V.str (repO (badT (wordsT t))) from rfl)]
  have e13 := e1.trans (ExtN.same (k2.trans s3))
  have T3 := (T1.ext k2).ext s3
  have S3 := S0.ext e13
  refine iteF ⟨_, rfl, by show 1 ≤ sizeLine; decide, fun p1 hp1 => ⟨Nat.zero_le _, fun p2 hp2 => ?_⟩⟩
  have j1 := same_upd (o := .lst [.str "*"]) hp1
  have j2 := same_upd (o := .tup []) hp2
  have n1w : p1 ≠ wl := (S3.ne hp1).2.1.symm
  refine ⟨(T3.ext j1).ext j2, fun H4 xr e4 T4 hR nx => ⟨by show 6 ≤ sizeLine; decide, fun l hl => ?_⟩⟩
  have j5 := same_upd (o := .lst [.non, .int 5, .bl true, .ref p1, .ref p2, .ref xr]) hl
  have S4 := ((S3.same j1).same j2).ext e4
  have S5 := S4.same j5
  refine ⟨d, wl, c, B0, l, _, rfl, S5, by omega, upd_same, (S4.ne hl).2.1.symm, by show 0 < 6; decide, by show 6 < 1073741824; decide, fun H6 j o hv S6 F6 => ?_⟩
  have T6 := Tabs.fr2 (T4.ext j5) S5 F6
  have hno : ∀ H', ExtN H6 H' → NotS K H' o := by
    match j, hv with
    | 0, hv => cases hv; exact fun H' _ => ⟨_, Flat.ty .non, kit_ty (by decide +kernel)⟩
    | 1, hv => cases hv; exact fun H' _ => ⟨_, Flat.ty (.int _), kit_ty (by decide +kernel)⟩
    | 2, hv => cases hv; exact fun H' _ => ⟨_, Flat.ty (.bl _), kit_ty (by decide +kernel)⟩
    | 3, hv => cases hv; exact fun H' e => ⟨_, ty_lst (SqL.of (e _ _ (F6.lst S5 (j5 _ _ (e4 _ _ (j2 _ _ upd_same) fun ps z => nomatch z)) n1w) fun ps z => nomatch z)), kit_ty (by decide +kernel)⟩
    | 4, hv => cases hv; exact fun H' e => ⟨_, ty_tup (e.sqT (F6.sqT S5 (Same.sqT j5 (e4.sqT (.inl (.inl upd_same)))))), kit_ty (by decide +kernel)⟩
    | 5, hv =>
      cases hv
      have hR6 := IsR.frX (hR.ext (ExtN.same j5)) S5 (FrX.of2 F6)
      intro H' e
      obtain ⟨a, dx, fs, ea, hins⟩ := (hR6.ext e).ins
      cases ea
      exact ⟨_, rty.ty H' _ dx fs hins, noR⟩
    | j + 6, hv => simp at hv
  refine place_read (r := some 0) B T6 rfl (fun b hb => by cases hb; decide) (fun H7 e7 T7 => ⟨fun r => (by cases r), fun b hb Q E h => ⟨_, rfl, T7, .inl ⟨hno H7 e7, by cases hb; exact h⟩⟩⟩) fun H7 e7 T7 => ?_
  refine ⟨rfl, _, rfl, ?_⟩
  rw [decide_eq_true (show V.str (repO (some 0)) = V.str "0" from rfl)]
  have S7 := S6.ext e7
  refine iteF ⟨_, rfl, d, wl, c, B0 + 1, rfl, S7, by omega, T7, fun H8 S8 T8 => ⟨true, rfl, iteF ?_⟩⟩
  exact q H8 _ (S8.mono (by omega)) T8
end
section
variable {P : Program} {w : World} {K : PySem.W.Frag} {mg : Str → Option Value} {base : Heap}
theorem ok_law5 {f cd PT CR CE CB CK : Addr} {fd : FuncData} {k : Nat} {T : List (Addr × Str)} (ml : mg "len" = none) (mr : mg "range" = none) (mm : mg "min" = none) (mp : mg "repr" = none) (TB : TabB base mg cd PT)
    (hmT : (PT, ("law" : Str) ++ ".<locals>." ++ "<lambda>") ∈ T) (hu : ∀ p ∈ T, p.1 = PT → p.2 = ("law" : Str) ++ ".<locals>." ++ "<lambda>")
    (DB : Def P w K mg base "_law_begun" CX0 k ["_law_script"] (spBegun K)) (DD : Def P w K mg base "_law_draw" CX0 k ["_law_state", "_law_size"] spDraw) (DC : Def P w K mg base "_law_choice" CX0 k ["_law_state"] (spChD K)) (DBt : Def P w K mg base "_law_bent_words" CX0 k ["_law_state", "_law_words"] (spBent K)) (DPk : Def P w K mg base "_law_pick" CX0 k ["_law_state", "_law_some"] spPick) (DPs : Def P w K mg base "_law_pick" CX0 k ["_law_state", "_law_some"] spPickS)
    (DBW : Def P w K mg base "_law_bad_word" CX0 k ["_law_words"] (spBadW K)) (DV : Def P w K mg base "_law_versions_right" CX0 k ["_law_state"] (spVR K T)) (M0 : RangeMk0 P w K mg base CR CE T k) (DR : DefX P w K mg base "read_range" k ["text"] (spReadG K T CB)) (C : CaughtD K mg CK) (B : BadTx K mg CB CK) (PD : PlaceD K mg) (rty : RTy K CR) (noR : PySem.W.kitOne K (.ref CR) (.type "str") = some false)
    (F : FunC K "law" "law" sLaw5 f fd cd) : FnOkG P w K mg base CX0 (k + 4) f fd ["_law_script"] (spLaw K T) := by
  refine F.okG scL5 (fun vs H Q E h => ?_) (fun A outer s H vs Q E hg hr h => ?_)
  · obtain ⟨a, ns, rfl, _⟩ := h
    rfl
  · obtain ⟨a, ns, rfl, hA, hlen, hT, q⟩ := h
    have hk := hr.mono (show k ≤ k + 3 by omega)
    have hk1 := hr.mono (show k + 1 ≤ k + 3 by omega)
    refine' ⟨_, pss_cons ?s1 (pss_cons (ps_for PassesOwn.never rfl ?it (pg_name (i := 2) scL5.nd rfl (.inl rfl)) (pss_cons ?la (pss_cons ?lb (pss_cons ?lc (pss_cons ?ld (pss_cons ?le (pss_cons ?lf (pss_cons ?lg (pss_one ?lh))))))))) (pss_one (ps_ret pe_bl))), ?_⟩
    case s1 => exact ps_set (i := 1) scL5.nd rfl (.inr rfl) (pe_d DB hk (pa_cons (pv 0) pa_nil))
    case it => exact pi_range1 rfl mr (pa_cons (pe_op op_add pe_int (pe_callB (call_min2 rfl) (by rfl) mm boot_min (pa_cons (pe_callB call_len_seq (by rfl) ml PySem.boot_len (pa_cons (pv 0) pa_nil)) (pa_cons pe_int pa_nil)))) pa_nil)
    case la => exact ps_set (i := 3) scL5.nd rfl (.inl rfl) (pe_lst pa_nil)
    case lb => exact (ps_for PassesOwn.never rfl (pi_range1 rfl mr (pa_cons (pe_op op_add pe_int (pe_d DD hk (pa_cons (pv 1) (pa_cons pe_int pa_nil)))) pa_nil)) (pg_name (i := 4) scL5.nd rfl (.inl rfl))
      (pss_one (ps_set (i := 3) scL5.nd rfl (.inl rfl) (pe_op op_cat (pe_op op_cat (pv 3) (pe_ifExp (pt_cmpR (op_neD hr.units) (pv 3) (pe_lst pa_nil) (nomark _)) (pe_lst (pa_cons pe_str pa_nil)) (pe_lst pa_nil))) (pe_ix ix_tup (pe_d DC hk (pa_cons (pv 1) pa_nil)) pe_int (fun _ _ => rfl))))))
    case lc => exact (ps_for PassesOwn.never rfl (pi_range1 rfl mr (pa_cons (pe_op op_add pe_int (pe_d DD hk (pa_cons (pv 1) (pa_cons pe_int pa_nil)))) pa_nil)) (pg_name (i := 5) scL5.nd rfl (.inl rfl))
      (pss_one (ps_set (i := 3) scL5.nd rfl (.inl rfl) (pe_d DBt hk (pa_cons (pv 1) (pa_cons (pv 3) pa_nil))))))
    case ld => exact ps_set (i := 6) scL5.nd rfl (.inr rfl) (pe_join pe_str (pv 3))
    case le => exact ps_if (pt_cmpR op_eq (pe_d DD hk (pa_cons (pv 1) (pa_cons pe_int pa_nil))) pe_int (nomark _)) (pss_one (ps_set (i := 6) scL5.nd rfl (.inr rfl) (pe_join pe_str (pe_lc (own := [("_law_k", 4)]) (g := gName 4) (te := tCall spPickS [] E0 (tCons (tVar 1) (tCons (tC (.str "01.| -=<>~^*xn")) tNil))) (tt := tYes) rfl scL5.nd (pi_range1 rfl mr (pa_cons (pe_d DD hk (pa_cons (pv 1) (pa_cons pe_int pa_nil))) pa_nil)) (blkOk_by (N := nL5) (sc := defScope sLaw5) (by decide +kernel))
        (fun _ _ _ _ _ => pg_name (i := 4) scL5.nd rfl (Or.inl rfl)) (fun _ _ _ _ _ => pts_nil) (fun _ _ _ _ _ => pe_d DPs hk (pa_cons (pv 1) (pa_cons pe_str pa_nil))))))) pss_nil
    case lf => exact ps_if (pt_cmpR op_ne (pe_callB (r := rReprO) cr_reprO (by rfl) mp (by decide +kernel) (pa_cons (pe_placeF (ta := tCons (tVar 6) tNil) C B PD DR TB rfl hmT hu hr (lamS_by rfl) rfl (fun _ _ _ _ _ => rfl) (fun _ _ _ _ _ _ _ => pa_cons (pv_lam (i := 6) rfl (.inr (.inr rfl))) pa_nil) (fun _ _ _ _ _ _ _ => rfl) rfl) pa_nil)) (pe_callB (r := rReprO) cr_reprO (by rfl) mp (by decide +kernel) (pa_cons (pe_d DBW hk (pa_cons (pe_split (pv 6) pe_str) pa_nil)) pa_nil)) (nomark _)) (pss_one (ps_ret pe_bl)) pss_nil
    case lg => exact ps_set (i := 7) scL5.nd rfl (.inr rfl) (pe_d DPk hk (pa_cons (pv 1) (pa_cons (pe_lst (pa_cons pe_non (pa_cons pe_int (pa_cons pe_bl (pa_cons (pe_lst (pa_cons pe_str pa_nil)) (pa_cons (pe_tup pa_nil) (pa_cons (pe_rng0 M0 hk1 passL) pa_nil))))))) pa_nil)))
    case lh => exact ps_if (PW.pt (pw_or (pt_cmpR op_ne (pe_callB (r := rReprO) cr_reprO (by rfl) mp (by decide +kernel) (pa_cons (pe_placeF (ta := tCons (tVar 7) tNil) C B PD DR TB rfl hmT hu hr (lamS_by rfl) rfl (fun _ _ _ _ _ => rfl) (fun _ _ _ _ _ _ _ => pa_cons (pv_lam (i := 7) rfl (.inr (.inr rfl))) pa_nil) (fun _ _ _ _ _ _ _ => rfl) rfl) pa_nil)) pe_str (nomark _)) (pw_or1 (pt_not (pt_val (pe_d DV hk (pa_cons (pv 1) pa_nil))))))) (pss_one (ps_ret pe_bl)) pss_nil
    refine ⟨_, rfl, a, ns, rfl, hA, hlen, fun H1 d wl c S0 s1 nd nw nc => ?_⟩
    dsimp only [tSeq, tAsg, tRet, tIfS, gName]
    have hm : ∃ m : Nat, m ≤ 15 ∧ (3 : Int) + (if (12 : Int) < ((ns.map V.int).length : Int) then (12 : Int) else ((ns.map V.int).length : Int)) = (m : Int) := by
      rw [List.length_map]
      by_cases h8 : (12 : Int) < (ns.length : Int)
      · exact ⟨15, by omega, by rw [if_pos h8]; rfl⟩
      · exact ⟨3 + ns.length, by omega, by rw [if_neg h8]; omega⟩
    obtain ⟨m, hm10, em⟩ := hm
    refine ⟨_, rfl, a, _, rfl, .inl (s1.seq hA), _, _, rfl, _, _, rfl, rfl, (m : Int), congrArg (fun z => [V.int z]) em, by omega, by omega, ?_⟩
    refine for_range (lo := 0) (n := (m : Int).toNat) (fun i σ H' => ∃ y2 y3 y4 y5 y6 y7 : Option V, σ = [some (.ref a), some (.ref d), y2, y3, y4, y5, y6, y7] ∧ StAt H' d wl c (200 * i) ∧ Tabs T H')
      ⟨none, none, none, none, none, none, rfl, S0.mono (by simp), hT.ext s1⟩ ?_ ?_
    · rintro i σ H3 hi ⟨y2, y3, y4, y5, y6, y7, rfl, S3, T3⟩
      rw [Int.toNat_natCast] at hi
      dsimp only [tSeq, tAsg, tRet, tIfS, gName, tNext]
      refine ⟨Nat.zero_le _, fun p0 hp0 => ?_⟩
      have k4 := same_upd (o := .lst (strL [])) hp0
      have at4 : upd H3 p0 (.lst (strL [])) p0 = some (.lst (strL [])) := upd_same
      have S4 := S3.same k4
      have T4 := T3.ext k4
      have n0 : p0 ≠ wl := (S3.ne hp0).2.1.symm
      change upd H3 p0 (.lst []) p0 = _ at at4
      refine ⟨_, rfl, d, wl, c, 200 * i, 3, rfl, S4, by omega, by decide, by decide, fun H5 z g0 g1 S5 F5 => ⟨1, z, rfl, rfl, ?_⟩⟩
      obtain ⟨n1, e1⟩ : ∃ n : Nat, 1 + z = (n : Int) := ⟨(1 + z).toNat, by omega⟩
      refine ⟨(n1 : Int), congrArg (fun z => [V.int z]) e1, by omega, by omega, ?_⟩
      have T5 := Tabs.fr2 T4 S4 F5
      have at5 := F5.lst S4 at4 n0
      refine for_range (lo := 0) (n := (n1 : Int).toNat) (fun j σ H' => ∃ (p : Addr) (us : List (List Nat)) (y4 : Option V), σ = [some (.ref a), some (.ref d), some (.int (0 + (i : Int))), some (.ref p), y4, y5, y6, y7] ∧ H' p = some (.lst (strL us)) ∧ p ≠ wl ∧ us.length ≤ 4 * j ∧ (∀ u ∈ us, okU u) ∧ StAt H' d wl c (200 * i + 1 + 30 * j) ∧ Tabs T H')
        ⟨p0, [], y4, rfl, at5, n0, Nat.zero_le _, fun u hu => (nomatch hu), S5.mono (by simp), T5⟩ ?_ ?_
      · rintro j σ H6 hj ⟨p, us, y4', rfl, hp, npw, lu, ou, S6, T6⟩
        rw [Int.toNat_natCast] at hj
        refine ⟨_, rfl, bars_read rfl hp ou fun H7 p7 vs s7 n7 h7 lv ov => ?_⟩
        refine cat_l (s7 _ _ hp) h7 (by omega) (by omega) fun p8 H8 s8 n8 h8 => ?_
        have s78 := s7.trans s8
        have S8 := S6.same s78
        have T8 := T6.ext s78
        have n8w : p8 ≠ wl := ((S6.same s7).ne n8).2.1.symm
        refine ⟨_, rfl, d, wl, c, _, rfl, S8, by omega, fun H9 x ch hch S9 F9 => ?_⟩
        obtain ⟨q0, pw, pl, zs, rfl, g1, g2, g3, g4, n1, n2⟩ := hch.ex
        refine ⟨q0, _, 0, .ref pw, rfl, rfl, g1, atI_nat (j := 0) rfl, ?_⟩
        have lc : ch.words.length ≤ 3 := by rw [words_len]; exact hch.few
        refine cat_l (F9.lst S8 h8 n8w) g2 (by rw [List.length_append]; omega) (by omega) fun p10 H10 s10 n10 h10 => ?_
        refine ⟨p10, us ++ vs ++ ch.words, _, rfl, h10, (S9.ne n10).2.1.symm, by simp only [List.length_append]; omega, fun u hu => ?_, (S9.same s10).mono (by omega), (Tabs.fr2 T8 S8 F9).ext s10⟩
        rcases List.mem_append.mp hu with hu | hu
        · rcases List.mem_append.mp hu with hu | hu
          · exact ou u hu
          · exact ov u hu
        · exact ch_words hch.ok u hu
      · rintro σ H6 ⟨p, us, y4', rfl, hp, npw, lu, ou, S6, T6⟩
        rw [Int.toNat_natCast] at lu S6
        refine ⟨_, rfl, d, wl, c, 200 * i + 91, 3, rfl, S6.mono (by omega), by omega, by decide, by decide, fun H7 z2 g2 g3 S7 F7 => ⟨1, z2, rfl, rfl, ?_⟩⟩
        obtain ⟨n2, e2⟩ : ∃ n : Nat, 1 + z2 = (n : Int) := ⟨(1 + z2).toNat, by omega⟩
        refine ⟨(n2 : Int), congrArg (fun z => [V.int z]) e2, by omega, by omega, ?_⟩
        refine for_range (lo := 0) (n := (n2 : Int).toNat) (fun j σ H' => ∃ (p : Addr) (us : List (List Nat)) (y5 : Option V), σ = [some (.ref a), some (.ref d), some (.int (0 + (i : Int))), some (.ref p), y4', y5, y6, y7] ∧ H' p = some (.lst (strL us)) ∧ p ≠ wl ∧ us.length ≤ 12 + j ∧ (∀ u ∈ us, okU u) ∧ StAt H' d wl c (200 * i + 92 + 3 * j) ∧ Tabs T H')
          ⟨p, us, y5, rfl, F7.lst S6 hp npw, npw, by omega, ou, S7.mono (by simp; omega), Tabs.fr2 T6 S6 F7⟩ ?_ ?_
        · rintro j σ H8 hj ⟨p, us, y5', rfl, hp, npw, lu, ou, S8, T8⟩
          rw [Int.toNat_natCast] at hj
          exact ⟨_, rfl, _, rfl, d, wl, c, _, p, us, rfl, S8, by omega, hp, npw, by omega, ou, fun H9 D us' nD hD lu' ou' S9 F9 => ⟨D, us', _, rfl, hD, (S8.ne nD).2.1.symm, by omega, ou', S9.mono (by omega), Tabs.fr2 T8 S8 F9⟩⟩
        · rintro σ H8 ⟨p, us, y5', rfl, hp, npw, lu, ou, S8, T8⟩
          rw [Int.toNat_natCast] at lu S8
          obtain ⟨jl, jsm⟩ := joinU_len ou
          have ok1 : OkT (TL.joinL [32] us) := ⟨by omega, jsm, text_words ou (by omega)⟩
          refine ⟨⟨_, rfl⟩, _, rfl, S [32], p, us.map S, rfl, rfl, .inl (SqL.of (by rw [hp, List.map_map]; rfl)), ?_, ?_⟩
          · have := sumU ou
            rw [lens, List.length_map, S_len]
            simp only [List.length_cons, List.length_nil]
            omega
          rw [join_S]
          have fin : ∀ (t : List Nat) (y3 y4 y5 y7 : Option V) (H' : Hp), OkT t → StAt H' d wl c (200 * i + 115) → Tabs T H' → tEnd K T CK CB CR { nx := fun σ H' => ∃ y2 y3 y4 y5 y6 y7 : Option V, σ = [some (.ref a), some (.ref d), y2, y3, y4, y5, y6, y7] ∧ StAt H' d wl c (200 * ((i + 1 : Nat) : Int)) ∧ Tabs T H', rt := Q } [some (.ref a), some (.ref d), some (.int (0 + (i : Int))), y3, y4, y5, some (.str (S t)), y7] H' := fun t y3 y4 y5 y7 H' okt S' T' =>
            end_read B rty noR S' (by omega) T' okt fun H'' z7 S'' T'' => ⟨_, _, _, _, _, _, rfl, S''.mono (by omega), T''⟩
          unfold tEnd at fin
          dsimp only [tSeq, tAsg, tRet, tIfS, gName, tNext] at fin
          refine ⟨_, rfl, d, wl, c, 200 * i + 101, 4, rfl, S8.mono (by omega), by omega, by decide, by decide, fun H9 z4 g4 g5 S9 F9 => ⟨rfl, _, rfl, ite2 (fun e => ?_) (fun e => ?_)⟩⟩
          · have T9 := Tabs.fr2 T8 S8 F9
            refine ⟨⟨_, rfl⟩, _, rfl, d, wl, c, 200 * i + 102, 9, rfl, S9.mono (by omega), by omega, by decide, by decide, fun H10 z9 g8 g9 S10 F10 => ⟨z9, rfl, by omega, by omega, fun L hL => ?_⟩⟩
            have nLw : L ≠ wl := (S10.ne hL).2.1.symm
            refine lc_range (lo := 0) (n := z9.toNat) (fun j H' => Fr2 d wl H10 H' ∧ StAt H' d wl c (200 * i + 103 + j) ∧ ∃ cs : List Nat, H' L = some (.lst (strL (cs.map fun c => [c]))) ∧ cs.length = j ∧ ∀ x ∈ cs, x < 128)
              ⟨.new hL, (S10.same (same_upd hL)).mono (by simp; omega), [], upd_same, rfl, fun x h => (nomatch h)⟩ ?_ ?_
            · rintro j H11 hj ⟨F11, S11, cs, h1, h2, h3⟩
              refine ⟨rfl, yesI ⟨_, rfl, d, wl, c, _, [48, 49, 46, 124, 32, 45, 61, 60, 62, 126, 94, 42, 120, 110], rfl, S11, by omega, by decide, by decide, fun H12 n hn S12 F12 => ?_⟩⟩
              have bn : n < 128 := by
                revert hn n
                decide
              have h12 := F12.lst S11 h1 nLw
              refine ⟨_, h12, by rw [List.length_map, List.length_map]; exact small1000 (by omega), (F11.trans F12).put hL, (S10.put hL S12).mono (by omega), cs ++ [n], by rw [upd_same]; simp [strL], by rw [List.length_append, h2]; rfl, fun x hx => ?_⟩
              rcases List.mem_append.mp hx with hx | hx
              · exact h3 x hx
              · rw [List.mem_singleton.mp hx]
                exact bn
            · rintro H11 ⟨F11, S11, cs, h1, h2, h3⟩
              have ej : ∀ l : List Nat, TL.joinL [] (l.map fun c => [c]) = l := fun l => by
                induction l with
                | nil => rfl
                | cons x l ih =>
                  cases l with
                  | nil => rfl
                  | cons y l =>
                    show [x] ++ ([] ++ TL.joinL [] ((y :: l).map fun c => [c])) = _
                    rw [ih]
                    rfl
              refine ⟨S [], L, (cs.map fun c => [c]).map S, rfl, rfl, .inl (SqL.of (by rw [h1, List.map_map]; rfl)), ?_, ?_⟩
              · have e : ∀ l : List Nat, ((l.map fun c => [c]).map (·.length)).sum = l.length := fun l => by
                  induction l with
                  | nil => rfl
                  | cons x l ih =>
                    simp only [List.map_cons, List.sum_cons, List.length_cons] at ih ⊢
                    simp at ih ⊢
                    omega
                have l9 : cs.length ≤ 9 := by omega
                rw [lens, e, S_len, List.length_nil, Nat.mul_zero, Nat.add_zero]
                omega
              rw [join_S, ej]
              have l9 : cs.length ≤ 9 := by omega
              have okc : OkT cs := ⟨by omega, h3, by
                have := (spl_bd 32 cs []).1
                show (TL.spl [32] 0 [] cs).length ≤ 60
                omega⟩
              exact fin _ _ _ _ _ H11 okc (S11.mono (by omega)) (Tabs.fr2 (Tabs.fr2 T9 S9 F10) S10 F11)
          · exact fin _ _ _ _ _ H9 ok1 (S9.mono (by omega)) (Tabs.fr2 T8 S8 F9)
    · rintro σ H2 ⟨y2, y3, y4, y5, y6, y7, rfl, S2, T2⟩
      exact q _
end
end Kw
set_option maxHeartbeats 4000000
namespace Kw
open PySem PySem.Spec PyProof.Rows L2 LamX SX
/-! ### all together -/
theorem init_binds0 {T d : Addr} {t : Value} {fd : FuncData} {o : Obj} {n : Nat} {kV doc pm cdv ct : Value} {an : Option Addr} {K : PySem.W.Frag} (e : fd = PySem.W.fnOf "__init__" "Range.__init__" (defArgs sInit) (defBody sInit) (defScope sInit) (.ref T) kV doc pm an cdv ct)
    (lT : K.lookup T = some o) (oT : o.data = .seq #[.ref d] n) : Binds K fd ["self", "stretches"] [.ref d] := by
  subst e
  intro s us X hl
  obtain ⟨u, rfl⟩ : ∃ u, us = [u] := List.length_eq_one_iff.mp (by simpa using hl)
  refine BindsTo.of_looks fun M => ?_
  have hk : ∃ k, bindArgs (PySem.W.fnOf "__init__" "Range.__init__" (defArgs sInit) (defBody sInit) (defScope sInit) (.ref T) kV doc pm an cdv ct) ⟨[u], []⟩ = seqItems? (.ref T) >>= k ∧ k (some #[.ref d]) = pure [(("self" : Str), u), (("stretches" : Str), .ref d)] := ⟨_, rfl, rfl⟩
  obtain ⟨k, e1, e2⟩ := hk
  exact e1 ▸ looks_items X lT oT (.of_pure e2)
/-- what Range's class has -/
structure RngF (K : PySem.W.Frag) (CR f0 f1 f2 f3 pp : Addr) : Prop where
  gR : PySem.W.nsIn K mainGlobals "Range" = some (some (.ref CR))
  pg : PySem.W.plainGet K CR Str.empty = true
  hd : PySem.W.hasDictIn K CR = true
  po : PySem.W.plainOver K CR = true
  sa : PySem.W.findIn K (.ref CR) "__setattr__" = some (some (.builtin "object.__setattr__"))
  nA : PySem.W.findIn K (.ref CR) "_stretches" = some none
  mkk : PySem.W.makesIn K CR = true
  a0 : PySem.W.findIn K (.ref CR) "__init__" = some (some (.ref f0))
  i0 : PySem.W.isFn K (.ref f0) = true
  kp : PySem.W.keepIn K (.ref CR) = true
  a1 : PySem.W.findIn K (.ref CR) "stretches" = some (some (.ref pp))
  a2 : PySem.W.findIn K (.ref CR) "__contains__" = some (some (.ref f2))
  i2 : PySem.W.isFn K (.ref f2) = true
  a3 : PySem.W.findIn K (.ref CR) "__eq__" = some (some (.ref f3))
  i3 : PySem.W.isFn K (.ref f3) = true
  ne : PySem.W.findIn K (.ref CR) "__ne__" = some (some (.builtin "object.__ne__"))
  ob : PySem.W.mroIn K CR (.type "object") = some true
  nT : PySem.W.notFirst K CR (.type "tuple") = true
  sp : PySem.W.specialIn K (.ref pp) "__get__" = some (some (.builtin "property.__get__"))
  tk : PySem.W.takesIn K (.ref pp) = some true
  kR : PySem.W.kitOne K (.ref CR) (.ref CR) = some true
  kT : PySem.W.kitOne K (.type "tuple") (.ref CR) = some false
  ha : PySem.W.findIn K (.ref CR) "__class__" = some (some (.builtin "object.__class__"))
/-- what an own error's class has -/
structure ErrF (K : PySem.W.Frag) (x : Str) (C CK : Addr) : Prop where
  gC : PySem.W.nsIn K mainGlobals x = some (some (.ref C))
  kC : PySem.W.keepIn K (.ref C) = true
  sub : PySem.W.subIn K (.ref C) (.type "BaseException") = some true
  ty : PySem.W.typeIn K (.ref C) = some (.type "type")
  hg : PySem.W.findIn K (.ref C) "__getattribute__" = some (some (.builtin "BaseException.__getattribute__"))
  hk : PySem.W.findIn K (.ref C) "__getattr__" = some none
  hd : PySem.W.hasDictIn K C = true
  ha : PySem.W.findIn K (.ref C) "__class__" = some (some (.builtin "object.__class__"))
  hn : PySem.W.specialIn K (.builtin "object.__class__") "__get__" = some (some (.builtin "getset_descriptor.__get__"))
  ht : PySem.W.takesIn K (.builtin "object.__class__") = some true
  hm : PySem.W.mroIn K C (.type "object") = some true
  kk : PySem.W.kitOne K (.ref C) (.ref C) = some true
  ex : PySem.W.exmOne K (.ref C) (.ref CK) = some true
theorem ErrF.c {K : PySem.W.Frag} {x : Str} {C CK : Addr} (e : ErrF K x C CK) : ExcC K C := ⟨e.hg, e.hk, e.sub, e.hd, e.ha, e.hn, e.ht, e.hm⟩
theorem ErrF.f {K : PySem.W.Frag} {x : Str} {C CK : Addr} (e : ErrF K x C CK) : XfC K C := ⟨e.hg, e.hk, e.sub, e.hd⟩
/-- a def that makes functions: its code object at c, the table at T -/
structure TabF (K : PySem.W.Frag) (h : Heap) (c T : Addr) : Prop where
  hd : PySem.W.codeHdIn K c T = true
  tab : h.get? T = some (PySem.W.tabObj #[])
  no : K.lookup T = none
/-- the further facts of Range and of Normal -/
structure OpF (K : PySem.W.Frag) (CR CN CX : Addr) (fa fo fs fi fN : Addr) : Prop where
  ba : BinF K CR fa "and"
  bo : BinF K CR fo "or"
  bs : BinF K CR fs "sub"
  vi : PySem.W.findIn K (.ref CR) "__invert__" = some (some (.ref fi))
  ii : PySem.W.isFn K (.ref fi) = true
  nf : ∀ T ∈ ["NoneType", "bool", "int", "str", "list", "tuple"], PySem.W.notFirst K CR (.type T) = true
  no : ∀ T ∈ ["NoneType", "bool", "int", "str", "list", "tuple"], PySem.W.kitOne K (.type T) (.ref CR) = some false
  pg : PySem.W.plainGet K CN Str.empty = true
  hd : PySem.W.hasDictIn K CN = true
  po : PySem.W.plainOver K CN = true
  sa : PySem.W.findIn K (.ref CN) "__setattr__" = some (some (.builtin "object.__setattr__"))
  nA : PySem.W.findIn K (.ref CN) "rows" = some none
  kN : PySem.W.kitOne K (.ref CN) (.ref CN) = some true
  ha : PySem.W.findIn K (.ref CN) "__class__" = some (some (.builtin "object.__class__"))
  ob : PySem.W.mroIn K CN (.type "object") = some true
  mkk : PySem.W.makesIn K CN = true
  a0 : PySem.W.findIn K (.ref CN) "__init__" = some (some (.ref fN))
  i0 : PySem.W.isFn K (.ref fN) = true
  kp : PySem.W.keepIn K (.ref CN) = true
section
variable {P : Program} {w : World} {K : PySem.W.Frag} {mg : Str → Option Value} {base : Heap}
end
theorem all_law5 {K : PySem.W.Frag} {l : PySem.W.OpenLaw} {w : World} {h : Heap} {mg : Str → Option Value} {fa : Addr} (X : K.In h) (G : h.Ns mainGlobals mg) (hfa : mg "law" = some (.ref fa))
    {aBegun cBegun aStir cStir aDraw cDraw aPick cPick aCaug cCaug aPaD cPaD aPaW cPaW aFill cFill aEndD cEndD aTerD cTerD aTerT cTerT aChD cChD aIsC cIsC aIsP cIsP aIsT cIsT aBadW cBadW aBent cBent aPlac cPlac aVR cVR aLaw cLaw aNume cNume aPaN cPaN aPaT cPaT aPaF cPaF aPaE cPaE aCare cCare aSpan cSpan aWorS cWorS aPaA cPaA aChoi cChoi aChos cChos aRanO cRanO aRead cRead aVerT cVerT aRdV cRdV aChkV cChkV aLatE cLatE aEarE cEarE aNF cNF aCom cCom aBut cBut aIsNu cIsNu aIsLi cIsLi aTupO cTupO aIsVe cIsVe aChkR cChkR aIsSt cIsSt aChkS cChkS CR f0 f1 f2 f3 pp TI CE CX CV CB CK CN PN PL PV Z SG d0 fA fO fS fI fN : Addr}
    (dBegun : TD K "_law_begun" sBegun aBegun cBegun) (dStir : TD K "_law_stirred" sStirred aStir cStir) (dDraw : TD K "_law_draw" sDraw aDraw cDraw) (dPick : TD K "_law_pick" sPick aPick cPick) (dCaug : TD K "_law_caught" sCaught aCaug cCaug) (dPaD : TD K "_law_part" sPartD aPaD cPaD) (dPaW : TD K "_law_part_word" sPartW aPaW cPaW) (dFill : TD K "_law_filled" sFillD aFill cFill) (dEndD : TD K "_law_end" sEndD aEndD cEndD) (dTerD : TD K "_law_term_stretch" sTermD aTerD cTerD) (dTerT : TD K "_law_term" sTermT aTerT cTerT) (dChD : TD K "_law_choice" sChD aChD cChD) (dIsC : TD K "_law_is_count" sIsCnt aIsC cIsC) (dIsP : TD K "_law_is_part" sIsPrt aIsP cIsP) (dIsT : TD K "_law_is_term" sIsTrm aIsT cIsT) (dBadW : TD K "_law_bad_word" sBadW aBadW cBadW) (dBent : TD K "_law_bent_words" sBent aBent cBent) (dPlac : TD K "_law_place" sPlace aPlac cPlac) (dVR : TD K "_law_versions_right" sVR aVR cVR) (dLaw : TD K "law" sLaw5 aLaw cLaw) (dNume : TD K "is_numeral" sNumeral aNume cNume) (dPaN : TD K "part_numbers" sPartN aPaN cPaN) (dPaT : TD K "part_text" sPartT aPaT cPaT) (dPaF : TD K "part_first" sPartF aPaF cPaF) (dPaE : TD K "part_end" sPartE aPaE cPaE) (dCare : TD K "caret_numbers" sCaret aCare cCare) (dSpan : TD K "signed_span" sSpan aSpan cSpan) (dWorS : TD K "word_span" sWordS aWorS cWorS) (dPaA : TD K "part_at" sPartA aPaA cPaA) (dChoi : TD K "read_choice" sChoice aChoi cChoi) (dChos : TD K "read_choices" sChoices aChos cChos) (dRanO : TD K "range_of" sRangeOf aRanO cRanO) (dRead : TD K "read_range" sRead aRead cRead) (dVerT : TD K "version_text" sVerT aVerT cVerT) (dRdV : TD K "read_version" sRdV aRdV cRdV) (dChkV : TD K "check_version" sChkV aChkV cChkV) (dLatE : TD K "later_end" sLaterE aLatE cLatE) (dEarE : TD K "earlier_end" sEarlyE aEarE cEarE) (dNF : TD K "normal_form" sNF aNF cNF) (dCom : TD K "common" sCom aCom cCom) (dBut : TD K "all_but" sBut aBut cBut) (dIsNu : TD K "is_number" sIsNum aIsNu cIsNu) (dIsLi : TD K "is_list" sIsList aIsLi cIsLi) (dTupO : TD K "is_tuple_of" sTupOf aTupO cTupO) (dIsVe : TD K "is_version" sIsVer aIsVe cIsVe) (dChkR : TD K "check_range" sChkR aChkR cChkR) (dIsSt : TD K "is_stretch" sIsStr aIsSt cIsSt) (dChkS : TD K "check_stretches" sChkS aChkS cChkS)
    (z_len : PySem.W.nsIn K mainGlobals "len" = some none) (z_range : PySem.W.nsIn K mainGlobals "range" = some none) (z_min : PySem.W.nsIn K mainGlobals "min" = some none) (z_max : PySem.W.nsIn K mainGlobals "max" = some none) (z_isinstance : PySem.W.nsIn K mainGlobals "isinstance" = some none) (z_tuple : PySem.W.nsIn K mainGlobals "tuple" = some none) (z_list : PySem.W.nsIn K mainGlobals "list" = some none) (z_sorted : PySem.W.nsIn K mainGlobals "sorted" = some none) (z_enumerate : PySem.W.nsIn K mainGlobals "enumerate" = some none) (z_int : PySem.W.nsIn K mainGlobals "int" = some none) (z_bool : PySem.W.nsIn K mainGlobals "bool" = some none) (z_abs : PySem.W.nsIn K mainGlobals "abs" = some none) (z_all : PySem.W.nsIn K mainGlobals "all" = some none) (z_any : PySem.W.nsIn K mainGlobals "any" = some none) (z_super : PySem.W.nsIn K mainGlobals "super" = some none) (z_str : PySem.W.nsIn K mainGlobals "str" = some none) (z_repr : PySem.W.nsIn K mainGlobals "repr" = some none) (z_ValueError : PySem.W.nsIn K mainGlobals "ValueError" = some none)
    {tM : Tok} (mM : PySem.W.nsIn K mainGlobals "MOST_STRETCHES" = some (some (.int 40 tM)))
    (R : RngF K CR f0 f1 f2 f3 pp) {rest : List Value} (rc : PySem.W.recIn K pp "property" = some (.ref f1 :: rest))
    {oc0 kV0 doc0 pm0 cdv0 ct0 : Value} {od0 an0 : Option Addr} {osl0 : Array (Option Value)} (l0 : K.lookup f0 = some ⟨oc0, od0, .func (PySem.W.fnOf "__init__" "Range.__init__" (defArgs sInit) (defBody sInit) (defScope sInit) (.ref TI) kV0 doc0 pm0 an0 cdv0 ct0), osl0⟩) (c0 : PySem.W.codeIn K cdv0 "Range.__init__" = true)
    {oT : Obj} {nI : Nat} (lT : K.lookup TI = some oT) (sT : oT.data = .seq #[.ref d0] nI) {o0 : Obj} {nE : Nat} (lE : K.lookup d0 = some o0) (cE : o0.cls = .type "tuple") (sE : o0.data = .seq #[] nE)
    {tD : Tok} (mD : PySem.W.nsIn K mainGlobals "DIGITS" = some (some (.str "0123456789" tD))) {oSg : Obj} {u1 u2 u3 u4 u5 u6 u7 u8 : Tok} {nS : Nat} (gS : PySem.W.nsIn K mainGlobals "SIGNS" = some (some (.ref SG))) (lS : K.lookup SG = some oSg) (cS : oSg.cls = .type "tuple") (sS : oSg.data = .seq #[.str ">=" u1, .str "<=" u2, .str ">" u3, .str "<" u4, .str "=" u5, .str "~" u6, .str "^" u7, .str "" u8] nS)
    {oZ : Obj} {tz1 tz2 tz3 : Tok} {nZ : Nat} (gZ : PySem.W.nsIn K mainGlobals "ZERO" = some (some (.ref Z))) (lZ : K.lookup Z = some oZ) (cZ : oZ.cls = .type "tuple") (sZ : oZ.data = .seq #[.int 0 tz1, .int 0 tz2, .int 0 tz3] nZ)
    (m1 : ∃ fd, Fun K "stretches" "Range.stretches" sGet f1 fd) (m2 : ∃ fd, Fun K "__contains__" "Range.__contains__" sHasR f2 fd) (m3 : ∃ fd, Fun K "__eq__" "Range.__eq__" sEqR f3 fd)
    (mA : ∃ fd, Fun K "__and__" "Range.__and__" sAnd fA fd) (mO : ∃ fd, Fun K "__or__" "Range.__or__" sOr fO fd) (mS : ∃ fd, Fun K "__sub__" "Range.__sub__" sSub fS fd) (mI : ∃ fd, Fun K "__invert__" "Range.__invert__" sInv fI fd) (mN : ∃ fd, Fun K "__init__" "Normal.__init__" sNorm fN fd) (O : OpF K CR CN CX fA fO fS fI fN)
    (gN : PySem.W.nsIn K mainGlobals "Normal" = some (some (.ref CN))) (noN : ∀ T ∈ ["NoneType", "bool", "int", "str", "dict", "list", "tuple"], PySem.W.kitOne K (.type T) (.ref CN) = some false)
    (gK : PySem.W.nsIn K mainGlobals "KitError" = some (some (.ref CK))) (eE : ErrF K "BadRange" CE CK) (eX : ErrF K "NotRange" CX CK) (xX : PySem.W.excIn K CX [.type "ValueError", .type "Exception", .type "BaseException", .type "object"] "ValueError.__new__" = true)
    (sup : ∃ (fI cc cd : Addr) (qual : Str), Ks.SupTxt l.prog K mg CE fI cc cd qual) (hno : PySem.W.findIn K (.ref CE) "at" = some none)
    (eV : ErrF K "BadVersion" CV CK) (xV : PySem.W.excIn K CV [.type "ValueError", .type "Exception", .type "BaseException", .type "object"] "ValueError.__new__" = true) (eB : ErrF K "BadText" CB CK) (supB : ∃ (fI cc cd : Addr) (qual : Str), Kst.SupTxt l.prog K mg CB fI cc cd qual) (hnoB : PySem.W.findIn K (.ref CB) "at" = some none) (kB2 : PySem.W.kitOne K (.ref CB) (.type "ValueError") = some true) (noR : PySem.W.kitOne K (.ref CR) (.type "str") = some false)
    (tN : TabF K h cNF PN) (tL' : TabF K h cLaw PL) (tV : TabF K h cVR PV) (n2 : PN ≠ PL) (n3 : PN ≠ PV) (n4 : PL ≠ PV) : LawG l w K 16 mg fa h := by
  have g : Glo K mg := ⟨fun n v e => PySem.W.mg_of X G e, fun n e => PySem.W.mg_none_of X G e⟩
  have efa := hfa.symm.trans (g.some_ _ _ dLaw.gl)
  cases efa
  obtain ⟨fdL, FL⟩ := dLaw.ex
  obtain ⟨fdN, FN⟩ := dNF.ex
  obtain ⟨fd1, F1⟩ := m1
  obtain ⟨fd2, F2⟩ := m2
  obtain ⟨fd3, F3⟩ := m3
  obtain ⟨fdA, FA⟩ := mA
  obtain ⟨fdO', FO'⟩ := mO
  obtain ⟨fdS, FS⟩ := mS
  obtain ⟨fdI, FI⟩ := mI
  obtain ⟨fdM, FM⟩ := mN
  have cR : Cls K CR := ⟨R.pg, R.hd, R.po, R.sa⟩
  have cN : Cls K CN := ⟨O.pg, O.hd, O.po, O.sa⟩
  have mK := g.some_ _ _ gK
  have mE := g.some_ _ _ eE.gC
  have mX := g.some_ _ _ eX.gC
  have mV := g.some_ _ _ eV.gC
  have mB := g.some_ _ _ eB.gC
  have mR := g.some_ _ _ R.gR
  have mN' := g.some_ _ _ gN
  obtain ⟨fdV, FV⟩ := dVR.ex
  have mem : ∀ {p : Addr × Addr}, p ∈ [(cNF, PN), (cLaw, PL), (cVR, PV)] → p = (cNF, PN) ∨ p = (cLaw, PL) ∨ p = (cVR, PV) := fun hp => by simpa using hp
  have memB : ∀ {b : Addr}, b ∈ [(cNF, PN), (cLaw, PL), (cVR, PV)].map (·.2) → b = PN ∨ b = PL ∨ b = PV := fun hp => by simpa using hp
  refine ⟨fdL, [(cNF, PN), (cLaw, PL), (cVR, PV)], [(PN, ("normal_form" : Str) ++ ".<locals>." ++ "<lambda>"), (PL, ("law" : Str) ++ ".<locals>." ++ "<lambda>"), (PV, ("_law_versions_right" : Str) ++ ".<locals>." ++ "<lambda>")], fun b hb => ?_, fun b hb => ?_, fun p hp => ?_, fun p hp => ?_, fun s u => ?_, fun base X' G' TB => ?_⟩
  · rcases memB hb with rfl | rfl | rfl
    · exact tN.tab
    · exact tL'.tab
    · exact tV.tab
  · rcases memB hb with rfl | rfl | rfl
    · exact tN.no
    · exact tL'.no
    · exact tV.no
  · rcases mem hp with rfl | rfl | rfl
    · exact PySem.W.codeHd_of_K X tN.hd
    · exact PySem.W.codeHd_of_K X tL'.hd
    · exact PySem.W.codeHd_of_K X tV.hd
  · simp only [List.mem_cons, List.not_mem_nil, or_false] at hp
    rcases hp with rfl | rfl | rfl <;> simp
  · obtain ⟨oc, od, kV, doc, pm, an, ct, osl, rfl, lk, hcd⟩ := FL.ex
    exact .of_eq rfl
  have bN := TB _ (List.mem_cons_self)
  have bL := TB (cLaw, PL) (by simp)
  have bV := TB (cVR, PV) (by simp)
  have d1 : Def l.prog w K mg base "_law_stirred" CX0 1 ["_law_state"] spStirred := dStir.def1 g (fun fd F => ok_stirred (k := 0) F (g.none_ _ z_int)) 1 (by decide) fun _ _ _ _ _ _ _ => rfl
  have d2 : Def l.prog w K mg base "_law_draw" CX0 2 ["_law_state", "_law_size"] spDraw := dDraw.def2 g (fun fd F => ok_draw F (g.none_ _ z_int) d1) 2 (by decide) fun _ _ _ _ _ _ _ _ => rfl
  have d3 : Def l.prog w K mg base "_law_pick" CX0 3 ["_law_state", "_law_some"] spPick := dPick.def2 g (fun fd F => ok_pick F (g.none_ _ z_len) d2) 3 (by decide) fun _ _ _ _ _ _ _ _ => rfl
  have d3s : Def l.prog w K mg base "_law_pick" CX0 3 ["_law_state", "_law_some"] spPickS := dPick.def2 g (fun fd F => ok_pickS F (g.none_ _ z_len) d2) 3 (by decide) fun _ _ _ _ _ _ _ _ => rfl
  have d6 : Def l.prog w K mg base "_law_part" CX0 4 ["_law_state"] (spPartD K) := dPaD.def1 g (fun fd F => ok_partD F (g.none_ _ z_range) (g.none_ _ z_tuple) (d2.up (by decide)) d3) 4 (by decide) fun _ _ _ _ _ _ _ => rfl
  have d7 : Def l.prog w K mg base "_law_part_word" CX0 1 ["_law_part_here"] (spPartW K) := dPaW.def1 g (fun fd F => ok_partW (k := 0) F (g.none_ _ z_str)) 1 (by decide) fun _ _ _ _ _ _ _ => rfl
  have d8 : Def l.prog w K mg base "_law_filled" CX0 1 ["_law_part_here"] (spPartF K) := dFill.def1 g (fun fd F => ok_fillD (k := 0) F (g.none_ _ z_len)) 1 (by decide) fun _ _ _ _ _ _ _ => rfl
  have d9 : Def l.prog w K mg base "_law_end" CX0 2 ["_law_part_here"] (spPartE K) := dEndD.def1 g (fun fd F => ok_endD F d8) 2 (by decide) fun _ _ _ _ _ _ _ => rfl
  have d10 : Def l.prog w K mg base "_law_term_stretch" CX0 3 ["_law_sign", "_law_part_here"] (spTermD K) := dTerD.def2 g (fun fd F => ok_termD F (g.none_ _ z_len) (g.none_ _ z_range) (d8.up (by decide)) d9) 3 (by decide) fun _ _ _ _ _ _ _ _ => rfl
  have d13 : Def l.prog w K mg base "_law_term" CX0 5 ["_law_state"] (spTermT K) := dTerT.def1 g (fun fd F => ok_termT F (d3.up (by decide)) d6 (d7.up (by decide))) 5 (by decide) fun _ _ _ _ _ _ _ => rfl
  have d14 : Def l.prog w K mg base "_law_choice" CX0 6 ["_law_state"] (spChD K) := dChD.def1 g (fun fd F => ok_chD F (g.none_ _ z_range) (d2.up (by decide)) (d3.up (by decide)) (d6.up (by decide)) (d7.up (by decide)) (d8.up (by decide)) (d9.up (by decide)) d13 (d10.up (by decide))) 6 (by decide) fun _ _ _ _ _ _ _ => rfl
  have b1 : Def l.prog w K mg base "_law_is_count" CX0 1 ["_law_word"] spCnt := dIsC.def1 g (fun fd F => ok_isCnt (k := 0) F) 1 (by decide) fun _ _ _ _ _ _ _ => rfl
  have b2 : Def l.prog w K mg base "_law_is_part" CX0 2 ["_law_word"] spPrtB := dIsP.def1 g (fun fd F => ok_isPrt F (g.none_ _ z_len) b1) 2 (by decide) fun _ _ _ _ _ _ _ => rfl
  have b3 : Def l.prog w K mg base "_law_is_term" CX0 3 ["_law_word"] spTrmB := dIsT.def1 g (fun fd F => ok_isTrm F (g.none_ _ z_len) b2) 3 (by decide) fun _ _ _ _ _ _ _ => rfl
  have b4 : Def l.prog w K mg base "_law_bad_word" CX0 4 ["_law_words"] (spBadW K) := dBadW.def1 g (fun fd F => ok_badW F (g.none_ _ z_len) (b2.up (by decide)) b3) 4 (by decide) fun _ _ _ _ _ _ _ => rfl
  have b5 : Def l.prog w K mg base "_law_bent_words" CX0 4 ["_law_state", "_law_words"] (spBent K) := dBent.def2 g (fun fd F => ok_bent F (g.none_ _ z_len) (d2.up (by decide)) d3) 4 (by decide) fun _ _ _ _ _ _ _ _ => rfl
  have d18 : Def l.prog w K mg base "_law_begun" CX0 1 ["_law_script"] (spBegun K) := dBegun.def1 g (fun fd F => ok_begun (k := 0) F (g.none_ _ z_abs)) 1 (by decide) fun _ _ _ _ _ _ _ => rfl
  have e1 : Def l.prog w K mg base "is_number" CX0 1 ["value"] (spIsNum K) := dIsNu.def1 g (fun fd F => ok_isNum (k := 0) F (g.none_ _ z_isinstance) (g.none_ _ z_int) (g.none_ _ z_bool)) 1 (by decide) fun _ _ _ _ _ _ _ => rfl
  have e2 : Def l.prog w K mg base "is_tuple_of" CX0 1 ["value", "many"] (spTupOf K) := dTupO.def2 g (fun fd F => ok_tupOf (k := 0) F (g.none_ _ z_isinstance) (g.none_ _ z_tuple) (g.none_ _ z_len)) 1 (by decide) fun _ _ _ _ _ _ _ _ => rfl
  have oV : ∀ fd, Fun K "is_version" "is_version" sIsVer aIsVe fd → FnOk l.prog w K mg base CX0 2 aIsVe fd ["value"] (spVerB K) := fun fd F => (ok_isVer F (g.none_ _ z_all) e2 e1).imp verB_of
  have e3 : Def l.prog w K mg base "is_version" CX0 2 ["value"] (spVerB K) := dIsVe.def1 g oV 2 (by decide) fun _ _ _ _ _ _ _ => rfl
  have e5 : Def l.prog w K mg base "is_list" CX0 1 ["value"] (spIsList K) := dIsLi.def1 g (fun fd F => ok_isList (k := 0) F (g.none_ _ z_isinstance) (g.none_ _ z_list) (g.none_ _ z_tuple)) 1 (by decide) fun _ _ _ _ _ _ _ => rfl
  have e6 : Def l.prog w K mg base "is_stretch" CX0 3 ["value"] (spStrB K) := dIsSt.def1 g (fun fd F => ok_isStr F (e2.up (by decide)) e3) 3 (by decide) fun _ _ _ _ _ _ _ => rfl
  have e7 : Def l.prog w K mg base "later_end" CX0 1 ["one", "other"] (spLaterE K) := dLatE.def2 g (fun fd F => ok_laterE (k := 0) F (g.none_ _ z_max)) 1 (by decide) fun _ _ _ _ _ _ _ _ => rfl
  have own : OwnErr K mg "NotRange" CX := ⟨⟨_, _, _, _, PySem.F.excBase_ValueError, xX⟩, mX, eX.kC, eX.sub, eX.ty⟩
  have supE : SupErr l.prog K mg "BadRange" CE := ⟨sup, mE, eE.kC, eE.sub, eE.ty⟩
  have e10 : Def l.prog w K mg base "check_stretches" (L2.CX l.prog w) 4 ["stretches"] (spChkS K CE) := dChkS.def1 g (fun fd F => ok_chkS F supE (g.none_ _ z_len) (g.none_ _ z_enumerate) (g.some_ _ _ mM) (e5.up (by decide)) e6) 4 (by decide) fun _ _ _ _ _ _ _ => rfl
  generalize hTT : [(PN, ("normal_form" : Str) ++ ".<locals>." ++ "<lambda>"), (PL, ("law" : Str) ++ ".<locals>." ++ "<lambda>"), (PV, ("_law_versions_right" : Str) ++ ".<locals>." ++ "<lambda>")] = TT
  have memT : ∀ p ∈ TT, p = (PN, ("normal_form" : Str) ++ ".<locals>." ++ "<lambda>") ∨ p = (PL, ("law" : Str) ++ ".<locals>." ++ "<lambda>") ∨ p = (PV, ("_law_versions_right" : Str) ++ ".<locals>." ++ "<lambda>") := fun p hp => by
    rw [← hTT] at hp
    simpa only [List.mem_cons, List.not_mem_nil, or_false] using hp
  have inN : (PN, ("normal_form" : Str) ++ ".<locals>." ++ "<lambda>") ∈ TT := by rw [← hTT]; exact List.mem_cons_self
  have inL : (PL, ("law" : Str) ++ ".<locals>." ++ "<lambda>") ∈ TT := by rw [← hTT]; exact List.mem_cons_of_mem _ List.mem_cons_self
  have inV : (PV, ("_law_versions_right" : Str) ++ ".<locals>." ++ "<lambda>") ∈ TT := by rw [← hTT]; exact List.mem_cons_of_mem _ (List.mem_cons_of_mem _ List.mem_cons_self)
  have huN : ∀ p ∈ TT, p.1 = PN → p.2 = ("normal_form" : Str) ++ ".<locals>." ++ "<lambda>" := fun p hp e => by
    rcases memT p hp with rfl | rfl | rfl
    · rfl
    · exact absurd e.symm n2
    · exact absurd e.symm n3
  have huL : ∀ p ∈ TT, p.1 = PL → p.2 = ("law" : Str) ++ ".<locals>." ++ "<lambda>" := fun p hp e => by
    rcases memT p hp with rfl | rfl | rfl
    · exact absurd e n2
    · rfl
    · exact absurd e.symm n4
  have huV : ∀ p ∈ TT, p.1 = PV → p.2 = ("_law_versions_right" : Str) ++ ".<locals>." ++ "<lambda>" := fun p hp e => by
    rcases memT p hp with rfl | rfl | rfl
    · exact absurd e n3
    · exact absurd e n4
    · rfl
  clear hTT memT
  have nf : Def l.prog w K mg base "normal_form" CX0 4 ["stretches"] (spNF K TT) := ⟨aNF, fdN, ok_nf (k := 0) FN (g.none_ _ z_sorted) (g.none_ _ z_tuple) bN inN huN (e7.up (by decide)), g.some_ _ _ dNF.gl, FN.kp, Binds1 FN.fn fun _ _ _ _ _ _ _ => rfl⟩
  have iOk := ok_init (k := 4) (T := TT) (CR := CR) (CE := CE) (P := l.prog) (w := w) (base := base) (mg := mg) ⟨⟨oc0, od0, .ref TI, kV0, doc0, pm0, an0, cdv0, ct0, osl0, rfl, l0, c0⟩⟩ (g.none_ _ z_isinstance) (g.some_ _ _ gN) cR R.nA noN e10.x nf
  have mk0 : Mk K CR f0 := ⟨R.mkk, R.a0, R.i0, R.kp⟩
  have un0 : ∀ H, SqT K H d0 [] := fun H => .inr ⟨o0, #[], nE, lE, cE, sE, by decide, .nil⟩
  have M06 : RangeMk0 l.prog w K mg base CR CE TT 6 := ⟨⟨f0, _, d0, iOk.mono (by decide), mk0, init_binds0 (t := .none) rfl lT sT, un0⟩, mR⟩
  have M012 : RangeMk0 l.prog w K mg base CR CE TT 12 := ⟨⟨f0, _, d0, iOk.mono (by decide), mk0, init_binds0 (t := .none) rfl lT sT, un0⟩, mR⟩
  have v1 : FunV K "stretches" "Range.stretches" sGet f1 fd1 := by
    obtain ⟨oc, od, kV, doc, pm, an, cdv, ct, osl, q1, q2, q3⟩ := F1.ex
    exact ⟨⟨oc, od, .none, kV, doc, pm, an, cdv, ct, osl, q1, q2, q3⟩⟩
  have G8 : RangeGet l.prog w K mg base CR 8 := ⟨⟨pp, f1, fd1, ⟨R.a1, R.sp, R.tk, ⟨rest, rc⟩⟩, (ok_getR (k := 0) v1 cR R.nA).mono (by decide), Binds1 F1 fun _ _ _ _ _ _ _ => rfl⟩, cR⟩
  have H8 : RangeHas l.prog w K mg base CR 8 := ⟨⟨f2, fd2, (ok_hasR (k := 2) F2 (g.none_ _ z_any) cR R.nA e3).mono (by decide), R.a2, R.i2, Binds2 F2 fun _ _ _ _ _ _ _ _ => rfl⟩⟩
  have rty : RTy K CR := ⟨fun H a dx fs e => .base (.ins e cR R.ha eE.hn eE.ht R.ob), R.kR, O.no⟩
  have hZ : ∀ H : Hp, IsVer K H (.ref Z) v000 := fun H => ⟨Z, rfl, .inr ⟨oZ, _, nZ, lZ, cZ, sZ, by show 3 ≤ sizeLine; decide, .cons ⟨_, rfl⟩ (.cons ⟨_, rfl⟩ (.cons ⟨_, rfl⟩ .nil))⟩⟩
  have dE := dEarE.def2 g (fun fd F => ok_earlyE (P := l.prog) (w := w) (base := base) (k := 0) F (g.none_ _ z_min)) 1 (by decide) fun _ _ _ _ _ _ _ _ => rfl
  have dC : Def l.prog w K mg base "common" CX0 6 ["ones", "others"] (spCom K) := dCom.def2 g (fun fd F => ok_com F (g.none_ _ z_len) (g.none_ _ z_max) (g.none_ _ z_tuple) dE) 6 (by decide) fun _ _ _ _ _ _ _ _ => rfl
  have dB : Def l.prog w K mg base "all_but" CX0 6 ["stretches"] (spBut K) := dBut.def1 g (fun fd F => ok_but (k := 0) F (g.none_ _ z_tuple) (g.some_ _ _ gZ) hZ) 6 (by decide) fun _ _ _ _ _ _ _ => rfl
  have dK : Def l.prog w K mg base "check_range" (L2.CX l.prog w) 6 ["ranged"] (spChkR K CR CX) := dChkR.def1 g (fun fd F => ok_chkR (k := 0) F own (g.none_ _ z_isinstance) mR rty) 6 (by decide) fun _ _ _ _ _ _ _ => rfl
  have iN := ok_initN (k := 4) (T := TT) (CR := CR) (CN := CN) (CE := CE) (P := l.prog) (w := w) (base := base) (mg := mg) ⟨⟨oc0, od0, .ref TI, kV0, doc0, pm0, an0, cdv0, ct0, osl0, rfl, l0, c0⟩⟩ (g.none_ _ z_isinstance) mN' cR R.nA cN O.nA (fun H a dx fs e => .base (.ins e cN O.ha eE.hn eE.ht O.ob)) O.kN e10.x nf
  have NM : NormMk l.prog w K mg base CR CN 5 := ⟨⟨fN, fdM, (ok_norm (k := 0) FM cN O.nA).mono (by decide), ⟨O.mkk, O.a0, O.i0, O.kp⟩, Binds2 FM fun _ _ _ _ _ _ _ _ => rfl⟩, ⟨f0, _, iN, mk0, init_binds rfl lT sT rfl⟩, mN', mR⟩
  have oA := ok_and cR R.nA dK.x dC dB NM FA
  have oO := ok_or cR R.nA dK.x dC dB NM FO'
  have oS := ok_sub cR R.nA dK.x dC dB NM FS
  have oI := ok_inv cR R.nA dK.x dC dB NM FI
  have oE := ok_eqG (P := l.prog) (w := w) (base := base) (k := 0) F3 (g.none_ _ z_isinstance) mR cR R.nA rty
  have ops : ∀ k, 7 ≤ k → ROps l.prog w K mg base CR CX k := fun k hk => ⟨⟨fA, fdA, oA.mono hk, O.ba, Binds2 FA fun _ _ _ _ _ _ _ _ => rfl⟩, ⟨fO, fdO', oO.mono hk, O.bo, Binds2 FO' fun _ _ _ _ _ _ _ _ => rfl⟩, ⟨fS, fdS, oS.mono hk, O.bs, Binds2 FS fun _ _ _ _ _ _ _ _ => rfl⟩, ⟨fI, fdI, oI.mono hk, O.vi, O.ii, Binds1 FI fun _ _ _ _ _ _ _ => rfl⟩,
    ⟨f3, fd3, oE.mono (by omega), R.a3, R.i3, Binds2 F3 fun _ _ _ _ _ _ _ _ => rfl, R.ne, R.ob⟩, O.nf⟩
  obtain ⟨fdC, FC⟩ := dCaug.ex
  obtain ⟨fdP, FP⟩ := dPlac.ex
  have C : CaughtD K mg CK := ⟨⟨aCaug, fdC, FC.fn, g.some_ _ _ dCaug.gl, FC.kp, Binds1 FC.fn fun _ _ _ _ _ _ _ => rfl⟩, mK⟩
  have PD : PlaceD K mg := ⟨⟨aPlac, fdP, FP.fn, g.some_ _ _ dPlac.gl, FP.kp, Binds1 FP.fn fun _ _ _ _ _ _ _ => rfl⟩⟩
  have O5 : TxtErr l.prog K mg "BadText" CB := ⟨supB, mB, eB.kC, eB.sub, eB.ty⟩
  have BT : BadTx K mg CB CK := ⟨eB.c, eB.f, hnoB, mB, g.none_ _ z_isinstance, g.none_ _ z_ValueError, eB.kk, kB2, eB.ex⟩
  have ownV : OwnErr K mg "BadVersion" CV := ⟨⟨_, _, _, _, PySem.F.excBase_ValueError, xV⟩, mV, eV.kC, eV.sub, eV.ty⟩
  have hS : ∀ H : Hp, SqT K H SG (strL signsL) := fun H => .inr ⟨oSg, _, nS, lS, cS, sS, by show 8 ≤ sizeLine; decide, .cons ⟨_, rfl⟩ (.cons ⟨_, rfl⟩ (.cons ⟨_, rfl⟩ (.cons ⟨_, rfl⟩ (.cons ⟨_, rfl⟩ (.cons ⟨_, rfl⟩ (.cons ⟨_, rfl⟩ (.cons ⟨_, rfl⟩ .nil)))))))⟩
  have n1 : Def l.prog w K mg base "is_numeral" CX0 1 ["word"] spCnt := dNume.def1 g (fun fd F => ok_numB (k := 0) F (g.none_ _ z_all) (g.some_ _ _ mD)) 1 (by decide) fun _ _ _ _ _ _ _ => rfl
  have n2 : Def l.prog w K mg base "part_numbers" CX0 2 ["word"] (spPrt K) := dPaN.def1 g (fun fd F => ok_prtN F (g.none_ _ z_all) (g.none_ _ z_len) (g.none_ _ z_tuple) (g.none_ _ z_int) n1) 2 (by decide) fun _ _ _ _ _ _ _ => rfl
  have n3 : Def l.prog w K mg base "part_first" CX0 1 ["numbers"] (spPartF K) := dPaF.def1 g (fun fd F => ok_partF (k := 0) F (g.none_ _ z_len)) 1 (by decide) fun _ _ _ _ _ _ _ => rfl
  have n4 : Def l.prog w K mg base "part_end" CX0 2 ["numbers"] (spPartE K) := dPaE.def1 g (fun fd F => ok_partE F n3) 2 (by decide) fun _ _ _ _ _ _ _ => rfl
  have n5 : Def l.prog w K mg base "caret_numbers" CX0 1 ["numbers"] (spCaret K) := dCare.def1 g (fun fd F => ok_caret (k := 0) F (g.none_ _ z_enumerate)) 1 (by decide) fun _ _ _ _ _ _ _ => rfl
  have n6 : Def l.prog w K mg base "signed_span" CX0 3 ["sign", "numbers"] (spSpan K) := dSpan.def2 g (fun fd F => ok_span F (g.some_ _ _ gZ) hZ (n3.up (by decide)) n4 (n5.up (by decide))) 3 (by decide) fun _ _ _ _ _ _ _ _ => rfl
  have n7 : Def l.prog w K mg base "word_span" (L2.CX l.prog w) 4 ["words", "at"] (spWordG K CB) := dWorS.def2 g (fun fd F => ok_wordG F O5 (g.none_ _ z_len) (g.some_ _ _ gZ) hZ (g.some_ _ _ gS) hS (n2.up (by decide)) n6) 4 (by decide) fun _ _ _ _ _ _ _ _ => rfl
  have n8 : Def l.prog w K mg base "part_at" (L2.CX l.prog w) 4 ["words", "at"] (spPartG K CB) := dPaA.def2 g (fun fd F => ok_partG F O5 (g.none_ _ z_len) n2) 4 (by decide) fun _ _ _ _ _ _ _ _ => rfl
  have n9 : Def l.prog w K mg base "read_choice" (L2.CX l.prog w) 5 ["words", "at"] (spChoiceG K CB) := dChoi.def2 g (fun fd F => ok_choiceG F (g.none_ _ z_len) (g.none_ _ z_max) n7.x (n2.up (by decide)) n8.x (n4.up (by decide)) (dE.up (by decide))) 5 (by decide) fun _ _ _ _ _ _ _ _ => rfl
  have n10 : Def l.prog w K mg base "read_choices" (L2.CX l.prog w) 7 ["words"] (spChoicesG K CB) := dChos.def1 g (fun fd F => ok_choicesG F O5 (g.none_ _ z_len) n9.x) 7 (by decide) fun _ _ _ _ _ _ _ => rfl
  have n11 : Def l.prog w K mg base "range_of" CX0 7 ["stretches"] (spRangeOf K TT CR) := dRanO.def1 g (fun fd F => ok_rangeOf F NM (nf.up (by decide))) 7 (by decide) fun _ _ _ _ _ _ _ => rfl
  have oRd : ∀ fd, Fun K "read_range" "read_range" sRead aRead fd → FnOk l.prog w K mg base (L2.CX l.prog w) 8 aRead fd ["text"] (spReadG K TT CB) := fun fd F => ok_readG F O5 (g.none_ _ z_isinstance) (g.none_ _ z_str) (g.none_ _ z_len) M06 n11 n10.x
  have n12 := dRead.def1 g oRd 12 (by decide) fun _ _ _ _ _ _ _ => rfl
  have p1 : Def l.prog w K mg base "part_text" CX0 3 ["numbers"] (spPartW K) := dPaT.def1 g (fun fd F => ok_partT (k := 0) F (g.none_ _ z_str)) 3 (by decide) fun _ _ _ _ _ _ _ => rfl
  have dV : Def l.prog w K mg base "check_version" (L2.CX l.prog w) 3 ["version"] (spChkV K CV) := dChkV.def1 g (fun fd F => ok_chkV F ownV e3) 3 (by decide) fun _ _ _ _ _ _ _ => rfl
  have oVt : ∀ fd, Fun K "version_text" "version_text" sVerT aVerT fd → FnOk l.prog w K mg base (L2.CX l.prog w) 4 aVerT fd ["version"] (spVerT K CV) := fun fd F => ok_verT F dV.x p1
  have oRv : ∀ fd, Fun K "read_version" "read_version" sRdV aRdV fd → FnOk l.prog w K mg base (L2.CX l.prog w) 3 aRdV fd ["text"] (spRdV K CB) := fun fd F => ok_rdV F O5 (g.none_ _ z_isinstance) (g.none_ _ z_str) (g.none_ _ z_len) n2
  have vT := dVerT.def1 g oVt 8 (by decide) fun _ _ _ _ _ _ _ => rfl
  have vTn := dVerT.defN g oVt 8 (by decide) fun _ _ _ _ _ _ _ => rfl
  have vR := dRdV.def1 g oRv 8 (by decide) fun _ _ _ _ _ _ _ => rfl
  have vRn := dRdV.defN g oRv 8 (by decide) fun _ _ _ _ _ _ _ => rfl
  have dVRd : Def l.prog w K mg base "_law_versions_right" CX0 12 ["_law_state"] (spVR K TT) := ⟨aVR, fdV, ok_VR (k := 8) (g.none_ _ z_len) (g.none_ _ z_range) (g.none_ _ z_tuple) (g.none_ _ z_str) (g.none_ _ z_repr) mV bV inV huV (d3.up (by decide)) (b2.up (by decide)) vT.x vTn vR.x vRn C BT PD eV.c eV.ex eV.kk FV, g.some_ _ _ dVR.gl, FV.kp, Binds1 FV.fn fun _ _ _ _ _ _ _ => rfl⟩
  exact ok_law5 (k := 12) (g.none_ _ z_len) (g.none_ _ z_range) (g.none_ _ z_min) (g.none_ _ z_repr) bL inL huL (d18.up (by decide)) (d2.up (by decide)) (d14.up (by decide)) (b5.up (by decide)) (d3.up (by decide)) (d3s.up (by decide)) (b4.up (by decide)) dVRd M012 n12.x C BT PD rty noR FL
end Kw
set_option maxHeartbeats 2000000
namespace Kw
open PySem PySem.Spec PyProof.Rows L2 LamX PySem.HandSPX
theorem sup_mk {prog : Program} {K : PySem.W.Frag} {mg : Str → Option Value} {C fI cc cd N : Addr} {nm q qual : Str} {bs bm sub : List Value} {sn : List Str} {ab : Bool} {col : Option Bool} {dd : Option Addr} {k0 k1 k2 k3 k5 : Option Value}
    (h1 : K.lookup C = some (excClassObj nm q C N bs bm true sn sub ab col dd k0 k1 k2 k3 k5 "ValueError.__new__")) (h2 : refsVE bm = true) (sa : PySem.W.findIn K (.ref C) "__setattr__" = some (some (.builtin "object.__setattr__"))) (noA : PySem.W.findIn K (.ref C) "at" = some none)
    (iC : PySem.W.findIn K (.ref C) "__init__" = some (some (.ref fI))) (tI : PySem.W.typeIn K (.ref fI) = some (.type "function")) (subV : PySem.W.subIn K (.ref C) (.type "ValueError") = some true) (subC : PySem.W.mroIn K C (.ref C) = some true) (opq : PySem.W.nsIn K cStatics "thirdparty.any" = some none)
    (sp : PySem.W.ks_superIn K C C "__init__" = some (some (.builtin "ValueError.__init__"))) {oc doc pm ct : Value} {od an : Option Addr} {osl : Array (Option Value)} (fn : K.lookup fI = some ⟨oc, od, .func (PySem.W.ksFn "__init__" qual Ks.iP Ks.iBody Ks.iScope .none .none doc pm an (.ref cd) ct cc), osl⟩) (fc : PySem.W.codeIn K (.ref cd) qual = true)
    {ccl : Value} {cdd : Option Addr} {vs : Array Value} {ccs : Array (Option Value)} {file : Str} {tf : Tok} (co : K.lookup cd = some ⟨ccl, cdd, .fields vs, ccs⟩) (v2 : vs[2]? = some (.str file tf)) (fe : ((prog.main.file : Str) == file) = true)
    {cl : Value} {cld : Option Addr} {csl : Array (Option Value)} (ce : K.lookup cc = some ⟨cl, cld, .cell (some (.ref C)), csl⟩) (ms : mg "super" = none) (tp : (prog.main.scope.names.lookup ("super" : Str)).isSome = false) : ∃ (fI cc cd : Addr) (qual : Str), Ks.SupTxt prog K mg C fI cc cd qual :=
  ⟨fI, cc, cd, qual, ⟨_, _, _, _, _, _, _, _, _, _, _, _, _, _, _, h1, h2⟩, sa, noA, iC, tI, subV, subC, opq, sp, ⟨_, _, _, _, _, _, _, fn, fc⟩, ⟨_, _, _, _, _, _, co, v2, fe⟩, ⟨_, _, _, ce⟩, ms, tp⟩
theorem sup_mkT {prog : Program} {K : PySem.W.Frag} {mg : Str → Option Value} {C fI cc cd N : Addr} {nm q qual : Str} {bs bm sub : List Value} {sn : List Str} {ab : Bool} {col : Option Bool} {dd : Option Addr} {k0 k1 k2 k3 k5 : Option Value}
    (h1 : K.lookup C = some (excClassObj nm q C N bs bm true sn sub ab col dd k0 k1 k2 k3 k5 "ValueError.__new__")) (h2 : refsVE bm = true) (sa : PySem.W.findIn K (.ref C) "__setattr__" = some (some (.builtin "object.__setattr__"))) (noA : PySem.W.findIn K (.ref C) "at" = some none)
    (iC : PySem.W.findIn K (.ref C) "__init__" = some (some (.ref fI))) (tI : PySem.W.typeIn K (.ref fI) = some (.type "function")) (subV : PySem.W.subIn K (.ref C) (.type "ValueError") = some true) (subC : PySem.W.mroIn K C (.ref C) = some true) (opq : PySem.W.nsIn K cStatics "thirdparty.any" = some none)
    (sp : PySem.W.ks_superIn K C C "__init__" = some (some (.builtin "ValueError.__init__"))) {oc doc pm ct : Value} {od an : Option Addr} {osl : Array (Option Value)} (fn : K.lookup fI = some ⟨oc, od, .func (PySem.W.ksFn "__init__" qual Kst.iP Kst.iBody Kst.iScope .none .none doc pm an (.ref cd) ct cc), osl⟩) (fc : PySem.W.codeIn K (.ref cd) qual = true)
    {ccl : Value} {cdd : Option Addr} {vs : Array Value} {ccs : Array (Option Value)} {file : Str} {tf : Tok} (co : K.lookup cd = some ⟨ccl, cdd, .fields vs, ccs⟩) (v2 : vs[2]? = some (.str file tf)) (fe : ((prog.main.file : Str) == file) = true)
    {cl : Value} {cld : Option Addr} {csl : Array (Option Value)} (ce : K.lookup cc = some ⟨cl, cld, .cell (some (.ref C)), csl⟩) (ms : mg "super" = none) (tp : (prog.main.scope.names.lookup ("super" : Str)).isSome = false) : ∃ (fI cc cd : Addr) (qual : Str), Kst.SupTxt prog K mg C fI cc cd qual :=
  ⟨fI, cc, cd, qual, ⟨_, _, _, _, _, _, _, _, _, _, _, _, _, _, _, h1, h2⟩, sa, noA, iC, tI, subV, subC, opq, sp, ⟨_, _, _, _, _, _, _, fn, fc⟩, ⟨_, _, _, _, _, _, co, v2, fe⟩, ⟨_, _, _, ce⟩, ms, tp⟩
theorem tab_mk {K : PySem.W.Frag} {h : Heap} {c T : Addr} {a1 : Value} {a2 : Option Addr} {vs : Array Value} {a4 : Array (Option Value)} (lc : K.lookup c = some ⟨a1, a2, .fields vs, a4⟩) (v : vs[11]? = some (.ref T)) (hd : PySem.W.codeHdIn K c T = true) (tab : h.get? T = some (PySem.W.tabObj #[])) (no : K.lookup T = none) : TabF K h c T := ⟨hd, tab, no⟩
end Kw
open PySem PySem.W PyProof.Rows
set_option maxHeartbeats 0
open_top k05_head for PySem.Challenge.rw_kitwright_k05_range_texts_refused
open PySem PySem.W PyProof.Rows
set_option maxRecDepth 100000 in
set_option maxHeartbeats 0 in
theorem PySem.Challenge.cw_kitwright_k05_range_texts_refused_holds : PySem.Challenge.rw_kitwright_k05_range_texts_refused.Holds :=
  k05_head (by
  k_fill
  refine Kw.walkG (l := PySem.Challenge.rw_kitwright_k05_range_texts_refused) (k := 16) rfl rfl ⟨rfl, by decide, by decide⟩ (fun w h Y => PySem.W.km_in_of Y) ?F
  case F =>
    intro w mg fa h Y KX G hmg
    have hT8 := PySem.W.km_tabs_of Y
    refine' Kw.all_law5 KX G hmg ?dBegun ?dStir ?dDraw ?dPick ?dCaug ?dPaD ?dPaW ?dFill ?dEndD ?dTerD ?dTerT ?dChD ?dIsC ?dIsP ?dIsT ?dBadW ?dBent ?dPlac ?dVR ?dLaw ?dNume ?dPaN ?dPaT ?dPaF ?dPaE ?dCare ?dSpan ?dWorS ?dPaA ?dChoi ?dChos ?dRanO ?dRead ?dVerT ?dRdV ?dChkV ?dLatE ?dEarE ?dNF ?dCom ?dBut ?dIsNu ?dIsLi ?dTupO ?dIsVe ?dChkR ?dIsSt ?dChkS ?z_len ?z_range ?z_min ?z_max ?z_isinstance ?z_tuple ?z_list ?z_sorted ?z_enumerate ?z_int ?z_bool ?z_abs ?z_all ?z_any ?z_super ?z_str ?z_repr ?z_ValueError ?mM ?R ?rc ?l0 ?c0 ?lT ?sT ?lE ?cE ?sE ?mD ?gS ?lS ?cS ?sS ?gZ ?lZ ?cZ ?sZ ?m1 ?m2 ?m3 ?mA ?mO ?mS ?mI ?mN ?O ?gN ?noN ?gK ?eE ?eX ?xX ?sup ?hno ?eV ?xV ?eB ?supB ?hnoB ?kB2 ?noR ?tN ?tL ?tV ?n2 ?n3 ?n4
    (case dBegun => refine' Kw.td_mk ?a ?l ?c ?k; (case a => k_is); (case l => k_is); (case c => k_is); (case k => k_is))
    (case dStir => refine' Kw.td_mk ?a ?l ?c ?k; (case a => k_is); (case l => k_is); (case c => k_is); (case k => k_is))
    (case dDraw => refine' Kw.td_mk ?a ?l ?c ?k; (case a => k_is); (case l => k_is); (case c => k_is); (case k => k_is))
    (case dPick => refine' Kw.td_mk ?a ?l ?c ?k; (case a => k_is); (case l => k_is); (case c => k_is); (case k => k_is))
    (case dCaug => refine' Kw.td_mk ?a ?l ?c ?k; (case a => k_is); (case l => k_is); (case c => k_is); (case k => k_is))
    (case dPaD => refine' Kw.td_mk ?a ?l ?c ?k; (case a => k_is); (case l => k_is); (case c => k_is); (case k => k_is))
    (case dPaW => refine' Kw.td_mk ?a ?l ?c ?k; (case a => k_is); (case l => k_is); (case c => k_is); (case k => k_is))
    (case dFill => refine' Kw.td_mk ?a ?l ?c ?k; (case a => k_is); (case l => k_is); (case c => k_is); (case k => k_is))
    (case dEndD => refine' Kw.td_mk ?a ?l ?c ?k; (case a => k_is); (case l => k_is); (case c => k_is); (case k => k_is))
    (case dTerD => refine' Kw.td_mk ?a ?l ?c ?k; (case a => k_is); (case l => k_is); (case c => k_is); (case k => k_is))
    (case dTerT => refine' Kw.td_mk ?a ?l ?c ?k; (case a => k_is); (case l => k_is); (case c => k_is); (case k => k_is))
    (case dChD => refine' Kw.td_mk ?a ?l ?c ?k; (case a => k_is); (case l => k_is); (case c => k_is); (case k => k_is))
    (case dIsC => refine' Kw.td_mk ?a ?l ?c ?k; (case a => k_is); (case l => k_is); (case c => k_is); (case k => k_is))
    (case dIsP => refine' Kw.td_mk ?a ?l ?c ?k; (case a => k_is); (case l => k_is); (case c => k_is); (case k => k_is))
    (case dIsT => refine' Kw.td_mk ?a ?l ?c ?k; (case a => k_is); (case l => k_is); (case c => k_is); (case k => k_is))
    (case dBadW => refine' Kw.td_mk ?a ?l ?c ?k; (case a => k_is); (case l => k_is); (case c => k_is); (case k => k_is))
    (case dBent => refine' Kw.td_mk ?a ?l ?c ?k; (case a => k_is); (case l => k_is); (case c => k_is); (case k => k_is))
    (case dPlac => refine' Kw.td_mk ?a ?l ?c ?k; (case a => k_is); (case l => k_is); (case c => k_is); (case k => k_is))
    (case dVR => refine' Kw.td_mk ?a ?l ?c ?k; (case a => k_is); (case l => k_is); (case c => k_is); (case k => k_is))
    (case dLaw => refine' Kw.td_mk ?a ?l ?c ?k; (case a => k_is); (case l => k_is); (case c => k_is); (case k => k_is))
    (case dNume => refine' Kw.td_mk ?a ?l ?c ?k; (case a => k_is); (case l => k_is); (case c => k_is); (case k => k_is))
    (case dPaN => refine' Kw.td_mk ?a ?l ?c ?k; (case a => k_is); (case l => k_is); (case c => k_is); (case k => k_is))
    (case dPaT => refine' Kw.td_mk ?a ?l ?c ?k; (case a => k_is); (case l => k_is); (case c => k_is); (case k => k_is))
    (case dPaF => refine' Kw.td_mk ?a ?l ?c ?k; (case a => k_is); (case l => k_is); (case c => k_is); (case k => k_is))
    (case dPaE => refine' Kw.td_mk ?a ?l ?c ?k; (case a => k_is); (case l => k_is); (case c => k_is); (case k => k_is))
    (case dCare => refine' Kw.td_mk ?a ?l ?c ?k; (case a => k_is); (case l => k_is); (case c => k_is); (case k => k_is))
    (case dSpan => refine' Kw.td_mk ?a ?l ?c ?k; (case a => k_is); (case l => k_is); (case c => k_is); (case k => k_is))
    (case dWorS => refine' Kw.td_mk ?a ?l ?c ?k; (case a => k_is); (case l => k_is); (case c => k_is); (case k => k_is))
    (case dPaA => refine' Kw.td_mk ?a ?l ?c ?k; (case a => k_is); (case l => k_is); (case c => k_is); (case k => k_is))
    (case dChoi => refine' Kw.td_mk ?a ?l ?c ?k; (case a => k_is); (case l => k_is); (case c => k_is); (case k => k_is))
    (case dChos => refine' Kw.td_mk ?a ?l ?c ?k; (case a => k_is); (case l => k_is); (case c => k_is); (case k => k_is))
    (case dRanO => refine' Kw.td_mk ?a ?l ?c ?k; (case a => k_is); (case l => k_is); (case c => k_is); (case k => k_is))
    (case dRead => refine' Kw.td_mk ?a ?l ?c ?k; (case a => k_is); (case l => k_is); (case c => k_is); (case k => k_is))
    (case dVerT => refine' Kw.td_mk ?a ?l ?c ?k; (case a => k_is); (case l => k_is); (case c => k_is); (case k => k_is))
    (case dRdV => refine' Kw.td_mk ?a ?l ?c ?k; (case a => k_is); (case l => k_is); (case c => k_is); (case k => k_is))
    (case dChkV => refine' Kw.td_mk ?a ?l ?c ?k; (case a => k_is); (case l => k_is); (case c => k_is); (case k => k_is))
    (case dLatE => refine' Kw.td_mk ?a ?l ?c ?k; (case a => k_is); (case l => k_is); (case c => k_is); (case k => k_is))
    (case dEarE => refine' Kw.td_mk ?a ?l ?c ?k; (case a => k_is); (case l => k_is); (case c => k_is); (case k => k_is))
    (case dNF => refine' Kw.td_mk ?a ?l ?c ?k; (case a => k_is); (case l => k_is); (case c => k_is); (case k => k_is))
    (case dCom => refine' Kw.td_mk ?a ?l ?c ?k; (case a => k_is); (case l => k_is); (case c => k_is); (case k => k_is))
    (case dBut => refine' Kw.td_mk ?a ?l ?c ?k; (case a => k_is); (case l => k_is); (case c => k_is); (case k => k_is))
    (case dIsNu => refine' Kw.td_mk ?a ?l ?c ?k; (case a => k_is); (case l => k_is); (case c => k_is); (case k => k_is))
    (case dIsLi => refine' Kw.td_mk ?a ?l ?c ?k; (case a => k_is); (case l => k_is); (case c => k_is); (case k => k_is))
    (case dTupO => refine' Kw.td_mk ?a ?l ?c ?k; (case a => k_is); (case l => k_is); (case c => k_is); (case k => k_is))
    (case dIsVe => refine' Kw.td_mk ?a ?l ?c ?k; (case a => k_is); (case l => k_is); (case c => k_is); (case k => k_is))
    (case dChkR => refine' Kw.td_mk ?a ?l ?c ?k; (case a => k_is); (case l => k_is); (case c => k_is); (case k => k_is))
    (case dIsSt => refine' Kw.td_mk ?a ?l ?c ?k; (case a => k_is); (case l => k_is); (case c => k_is); (case k => k_is))
    (case dChkS => refine' Kw.td_mk ?a ?l ?c ?k; (case a => k_is); (case l => k_is); (case c => k_is); (case k => k_is))
    (case z_len => k_is)
    (case z_range => k_is)
    (case z_min => k_is)
    (case z_max => k_is)
    (case z_isinstance => k_is)
    (case z_tuple => k_is)
    (case z_list => k_is)
    (case z_sorted => k_is)
    (case z_enumerate => k_is)
    (case z_int => k_is)
    (case z_bool => k_is)
    (case z_abs => k_is)
    (case z_all => k_is)
    (case z_any => k_is)
    (case z_super => k_is)
    (case z_str => k_is)
    (case z_repr => k_is)
    (case z_ValueError => k_is)
    (case mM => k_is)
    (case R => constructor; (case gR => k_is); (case pg => k_is); (case hd => k_is); (case po => k_is); (case sa => k_is); (case nA => k_is); (case mkk => k_is); (case a0 => k_is); (case i0 => k_is); (case kp => k_is); (case a1 => k_is); (case a2 => k_is); (case i2 => k_is); (case a3 => k_is); (case i3 => k_is); (case ne => k_is); (case ob => k_is); (case nT => k_is); (case sp => k_is); (case tk => k_is); (case kR => kit_is); (case kT => kit_is); (case ha => k_is))
    (case rc => k_is)
    (case l0 => k_is)
    (case c0 => k_is)
    (case lT => k_is)
    (case sT => rfl)
    (case lE => k_is)
    (case cE => rfl)
    (case sE => rfl)
    (case mD => k_is)
    (case gS => k_is)
    (case lS => k_is)
    (case cS => rfl)
    (case sS => rfl)
    (case gZ => k_is)
    (case lZ => k_is)
    (case cZ => rfl)
    (case sZ => rfl)
    (case m1 => refine' Kw.fm_mk ?l ?c ?k; (case l => k_is); (case c => k_is); (case k => k_is))
    (case m2 => refine' Kw.fm_mk ?l ?c ?k; (case l => k_is); (case c => k_is); (case k => k_is))
    (case m3 => refine' Kw.fm_mk ?l ?c ?k; (case l => k_is); (case c => k_is); (case k => k_is))
    (case gN => k_is)
    (case O => constructor; (case ba => (constructor; (case hc => k_is); (case hs => k_is); (case hf => k_is); (case hr => exact ⟨_, by k_is⟩); (case ht => intro T hT; simp only [List.mem_cons, List.not_mem_nil, or_false] at hT; rcases hT with rfl | rfl | rfl | rfl | rfl | rfl <;> exact ⟨_, _, by k_is, by k_is, by k_is⟩))); (case bo => (constructor; (case hc => k_is); (case hs => k_is); (case hf => k_is); (case hr => exact ⟨_, by k_is⟩); (case ht => intro T hT; simp only [List.mem_cons, List.not_mem_nil, or_false] at hT; rcases hT with rfl | rfl | rfl | rfl | rfl | rfl <;> exact ⟨_, _, by k_is, by k_is, by k_is⟩))); (case bs => (constructor; (case hc => k_is); (case hs => k_is); (case hf => k_is); (case hr => exact ⟨_, by k_is⟩); (case ht => intro T hT; simp only [List.mem_cons, List.not_mem_nil, or_false] at hT; rcases hT with rfl | rfl | rfl | rfl | rfl | rfl <;> exact ⟨_, _, by k_is, by k_is, by k_is⟩))); (case vi => k_is); (case ii => k_is); (case nf => (intro T hT; simp only [List.mem_cons, List.not_mem_nil, or_false] at hT; rcases hT with rfl | rfl | rfl | rfl | rfl | rfl <;> k_is)); (case no => (intro T hT; simp only [List.mem_cons, List.not_mem_nil, or_false] at hT; rcases hT with rfl | rfl | rfl | rfl | rfl | rfl <;> kit_is)); (case pg => k_is); (case hd => k_is); (case po => k_is); (case sa => k_is); (case nA => k_is); (case kN => kit_is); (case ha => k_is); (case ob => k_is); (case mkk => k_is); (case a0 => k_is); (case i0 => k_is); (case kp => k_is))
    (case mA => refine' Kw.fm_mk ?l ?c ?k; (case l => k_is); (case c => k_is); (case k => k_is))
    (case mO => refine' Kw.fm_mk ?l ?c ?k; (case l => k_is); (case c => k_is); (case k => k_is))
    (case mS => refine' Kw.fm_mk ?l ?c ?k; (case l => k_is); (case c => k_is); (case k => k_is))
    (case mI => refine' Kw.fm_mk ?l ?c ?k; (case l => k_is); (case c => k_is); (case k => k_is))
    (case mN => refine' Kw.fm_mk ?l ?c ?k; (case l => k_is); (case c => k_is); (case k => k_is))
    (case noN => intro T hT; simp only [List.mem_cons, List.not_mem_nil, or_false] at hT; rcases hT with rfl | rfl | rfl | rfl | rfl | rfl | rfl <;> kit_is)
    (case gK => k_is)
    (case eE => constructor; (case gC => k_is); (case kC => k_is); (case sub => k_is); (case ty => k_is); (case hg => k_is); (case hk => k_is); (case hd => k_is); (case ha => k_is); (case hn => k_is); (case ht => k_is); (case hm => k_is); (case kk => kit_is); (case ex => kernel_rfl))
    (case eX => constructor; (case gC => k_is); (case kC => k_is); (case sub => k_is); (case ty => k_is); (case hg => k_is); (case hk => k_is); (case hd => k_is); (case ha => k_is); (case hn => k_is); (case ht => k_is); (case hm => k_is); (case kk => kit_is); (case ex => kernel_rfl))
    (case xX => kernel_rfl)
    (case sup => refine' Kw.sup_mk ?h1 ?h2 ?sa ?noA ?iC ?tI ?subV ?subC ?opq ?sp ?fn ?fc ?co ?v2 ?fe ?ce ?ms ?tp; (case h1 => k_is); (case h2 => first | rfl | kernel_rfl); (case sa => k_is); (case noA => k_is); (case iC => k_is); (case tI => k_is); (case subV => k_is); (case subC => k_is); (case opq => k_is); (case sp => kernel_rfl); (case fn => k_is); (case fc => k_is); (case co => k_is); (case v2 => rfl); (case fe => first | rfl | kernel_rfl); (case ce => k_is); (case ms => exact PySem.W.mg_none_of KX G (by k_is)); (case tp => first | rfl | kernel_rfl))
    (case hno => k_is)
    (case eV => constructor; (case gC => k_is); (case kC => k_is); (case sub => k_is); (case ty => k_is); (case hg => k_is); (case hk => k_is); (case hd => k_is); (case ha => k_is); (case hn => k_is); (case ht => k_is); (case hm => k_is); (case kk => kit_is); (case ex => kernel_rfl))
    (case xV => kernel_rfl)
    (case eB => constructor; (case gC => k_is); (case kC => k_is); (case sub => k_is); (case ty => k_is); (case hg => k_is); (case hk => k_is); (case hd => k_is); (case ha => k_is); (case hn => k_is); (case ht => k_is); (case hm => k_is); (case kk => kit_is); (case ex => kernel_rfl))
    (case supB => refine' Kw.sup_mkT ?h1 ?h2 ?sa ?noA ?iC ?tI ?subV ?subC ?opq ?sp ?fn ?fc ?co ?v2 ?fe ?ce ?ms ?tp; (case h1 => k_is); (case h2 => first | rfl | kernel_rfl); (case sa => k_is); (case noA => k_is); (case iC => k_is); (case tI => k_is); (case subV => k_is); (case subC => k_is); (case opq => k_is); (case sp => kernel_rfl); (case fn => k_is); (case fc => k_is); (case co => k_is); (case v2 => rfl); (case fe => first | rfl | kernel_rfl); (case ce => k_is); (case ms => exact PySem.W.mg_none_of KX G (by k_is)); (case tp => first | rfl | kernel_rfl))
    (case hnoB => k_is)
    (case kB2 => kit_is)
    (case noR => kit_is)
    (case tN => refine' Kw.tab_mk ?lc ?v ?hd ?tab ?no; (case lc => k_is); (case v => rfl); (case hd => kernel_rfl); (case tab => exact hT8 _ (by decide)); (case no => kernel_rfl))
    (case tL => refine' Kw.tab_mk ?lc ?v ?hd ?tab ?no; (case lc => k_is); (case v => rfl); (case hd => kernel_rfl); (case tab => exact hT8 _ (by decide)); (case no => kernel_rfl))
    (case tV => refine' Kw.tab_mk ?lc ?v ?hd ?tab ?no; (case lc => k_is); (case v => rfl); (case hd => kernel_rfl); (case tab => exact hT8 _ (by decide)); (case no => kernel_rfl))
    (case n2 => decide)
    (case n3 => decide)
    (case n4 => decide))
