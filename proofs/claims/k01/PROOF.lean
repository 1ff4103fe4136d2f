import PyProof.Rows.All
import Wide.All
import OpenK.AllK
import Wide.FinOn
import HandS.ForMost
import HandS.Wide
import HandS.TupLe
import HandS.IsInst
import PyProof.EqAt
import PyProof.EqKinds
import PyProof.TupleCall
import KE.KExcSuper
import HandS.Exc
import HandS.ExcOwn
import HandS.TryOnly
import HandS.WordsExc
import HandS.Lambda
import HandS.ExcValue
import KE.KExcIs
import HandS.ExcIs
import HandS.ExcField
import KE.SortKeyHeap
import HandS.TupSets
import KE.DataMinMax
import KE.GoesMore
import HandS.Iter
import HandS.OwnEq
import HandS.Property
import HandS.More
import HandS.MakeKwOnly
import OpenK.KMeth
import PyProof.P3Eq
import PyProof.ReprRoads
import HandS.EndTab
import HandS.Defaults
import PySem.Challenge.RW_kitwright_k01_kits_versions_ranges_made
set_option Elab.async false
set_option linter.all false
set_option maxRecDepth 100000
set_option maxHeartbeats 4000000
namespace Kw
open PySem PySem.Spec PyProof.Rows L2
/-! ### the text by places -/
def top (i : Nat) : Stmt := PySem.Challenge.pw_kitwright_k01_kits_versions_ranges_made.main.body.getD i (.Pass ⟨0, 0, 0, 0⟩)
abbrev sBegun : Stmt := top 29
abbrev sStirred : Stmt := top 30
abbrev sDraw : Stmt := top 31
abbrev sPick : Stmt := top 32
abbrev sVersion : Stmt := top 34

/-! ### a def of the text that keeps a promise, found by its name -/
structure Def (P : Program) (w : World) (K : PySem.W.Frag) (mg : Str → Option Value) (base : Heap) (x : Str) (CX : CXT) (k : Nat) (ps : List Str) (sp : Sp) : Prop where
  ex : ∃ f fd, FnOk P w K mg base CX k f fd ps sp ∧ mg x = some (.ref f) ∧ PySem.W.keepIn K (.ref f) = true ∧ Binds K fd ps []
section
variable {X : Cx}
theorem pe_d {x : Str} {k : Nat} {ps : List Str} {sp : Sp} {p pos : Pos} {e : Expr} {es : List Expr} {t : TA} (D : Def X.prog X.w X.K X.mg X.base x CX0 k ps sp) (hr : Room k X.A) (ha : PA X (e :: es) t) (hg : Gl X x := by rfl)
    (hdb : (x == ("__debug__" : Str)) = false := by decide) (he : starEach (e :: es) X.env = (false, eval e X.env) :: starEach es X.env := by rfl) (hpl : (backTo pos (starEach es X.env)).any (·.1) = false := by rfl) :
    PE X (.Call (.Name x p) (e :: es) [] pos) (tCall sp [] E0 t) := by
  obtain ⟨f, fd, F, hm, hk, hb⟩ := D.ex
  exact pe_call F hr hg hm hk hb .nil pass0 ha hdb he hpl
end
/-! ### frames -/
/-- all but a and b stay -/
def Fr2 (a b : Addr) (H H' : Hp) : Prop := ∀ c o, c ≠ a → c ≠ b → H c = some o → H' c = some o
theorem Fr2.refl {a b : Addr} {H : Hp} : Fr2 a b H H := fun _ _ _ _ h => h
theorem Fr2.trans {a b : Addr} {H H1 H2 : Hp} (x : Fr2 a b H H1) (y : Fr2 a b H1 H2) : Fr2 a b H H2 := fun c o h1 h2 h => y c o h1 h2 (x c o h1 h2 h)
theorem Fr2.ofSame {a b : Addr} {H H' : Hp} (x : Same H H') : Fr2 a b H H' := fun c o _ _ h => x c o h
theorem same_upd {H : Hp} {p : Addr} {o : HO} (h : H p = none) : Same H (upd H p o) := fun b x e => by
  rw [upd_ne (ne_of_none e h)]
  exact e
theorem Fr2.new {a b p : Addr} {H : Hp} {o : HO} (h : H p = none) : Fr2 a b H (upd H p o) := .ofSame (same_upd h)
theorem Fr2.at1 {a b : Addr} {H : Hp} {o : HO} : Fr2 a b H (upd H a o) := fun c u h1 _ h => by rw [upd_ne h1]; exact h
theorem Fr2.at2 {a b : Addr} {H : Hp} {o : HO} : Fr2 a b H (upd H b o) := fun c u _ h2 h => by rw [upd_ne h2]; exact h
/-! ### the state of the draws -/
abbrev kW : Key := Sum.inr "wide"
abbrev kC : Key := Sum.inr "cells"
abbrev kR : Key := Sum.inr "rest"
abbrev kT : Key := Sum.inr "turn"
def stD (w c : Addr) (r t : Int) : List (Key × V) := [(kW, .ref w), (kC, .ref c), (kR, .int r), (kT, .int t)]
/-- at d the state of the draws: what is wide at w, the cells at c; at most B stirs so far -/
structure StAt (H : Hp) (d w c : Addr) (B : Int) : Prop where
  ex : ∃ (ws cs : List Int) (r t : Int), H d = some (.dK (stD w c r t)) ∧ H w = some (.lst (ws.map V.int)) ∧ H c = some (.lst (cs.map V.int)) ∧
    (∀ x ∈ ws, 0 ≤ x) ∧ (∀ x ∈ cs, 0 ≤ x) ∧ 0 ≤ r ∧ 0 ≤ t ∧ t ≤ B ∧ ws.length ≤ 63 ∧ cs.length ≤ 63 ∧ w ≠ c
end Kw
set_option maxHeartbeats 4000000
namespace Kw
open PySem PySem.Spec PyProof.Rows L2
theorem wR : valV (stD w c r t) kR = some (.int r) := by
  simp [stD, valV, List.find?_cons, kR, kW, kC, kT, show ¬ (("wide" : Str) = "rest") by decide +kernel, show ¬ (("cells" : Str) = "rest") by decide +kernel]
theorem wW : valV (stD w c r t) kW = some (.ref w) := by
  simp [stD, valV, List.find?_cons, kR, kW, kC, kT]
theorem wC : valV (stD w c r t) kC = some (.ref c) := by
  simp [stD, valV, List.find?_cons, kR, kW, kC, kT, show ¬ (("wide" : Str) = "cells") by decide +kernel]
theorem wT : valV (stD w c r t) kT = some (.int t) := by
  simp [stD, valV, List.find?_cons, kR, kW, kC, kT, show ¬ (("wide" : Str) = "turn") by decide +kernel, show ¬ (("cells" : Str) = "turn") by decide +kernel, show ¬ (("rest" : Str) = "turn") by decide +kernel]
theorem pR {u : Int} : putK (stD w c r t) kR (.int u) = stD w c u t := by
  simp [stD, putK, kR, kW, kC, kT, show ¬ (("wide" : Str) = "rest") by decide +kernel, show ¬ (("cells" : Str) = "rest") by decide +kernel, show ¬ (("turn" : Str) = "rest") by decide +kernel]
theorem pT {u : Int} : putK (stD w c r t) kT (.int u) = stD w c r u := by
  simp [stD, putK, kR, kW, kC, kT, show ¬ (("wide" : Str) = "turn") by decide +kernel, show ¬ (("cells" : Str) = "turn") by decide +kernel, show ¬ (("rest" : Str) = "turn") by decide +kernel]
theorem gR {H : Hp} {d w c : Addr} {r t : Int} (h : H d = some (.dK (stD w c r t))) : DGet H d (.str "rest") (some (.int r)) := by
  have q := DGet.k (k := kR) h
  rw [wR] at q
  exact q
theorem gW {H : Hp} {d w c : Addr} {r t : Int} (h : H d = some (.dK (stD w c r t))) : DGet H d (.str "wide") (some (.ref w)) := by
  have q := DGet.k (k := kW) h
  rw [wW] at q
  exact q
theorem gC {H : Hp} {d w c : Addr} {r t : Int} (h : H d = some (.dK (stD w c r t))) : DGet H d (.str "cells") (some (.ref c)) := by
  have q := DGet.k (k := kC) h
  rw [wC] at q
  exact q
theorem gT {H : Hp} {d w c : Addr} {r t : Int} (h : H d = some (.dK (stD w c r t))) : DGet H d (.str "turn") (some (.int t)) := by
  have q := DGet.k (k := kT) h
  rw [wT] at q
  exact q
theorem dR {H : Hp} {d w c : Addr} {r t u : Int} (h : H d = some (.dK (stD w c r t))) : DPut H d (.str "rest") (.int u) (upd H d (.dK (stD w c u t))) := by
  have q := DPut.k (k := kR) (v := .int u) h (by show 4 < sizeLine; decide)
  rw [pR] at q
  exact q
theorem dT {H : Hp} {d w c : Addr} {r t u : Int} (h : H d = some (.dK (stD w c r t))) : DPut H d (.str "turn") (.int u) (upd H d (.dK (stD w c r u))) := by
  have q := DPut.k (k := kT) (v := .int u) h (by show 4 < sizeLine; decide)
  rw [pT] at q
  exact q
/-! ### data: lists of ints -/
theorem dp_ints {K : PySem.W.Frag} {H : Hp} : ∀ ns : List Int, DpAll K H (ns.map V.int) (ns.map PyData.int)
  | [] => .nil
  | n :: ns => .cons (.int n) (dp_ints ns)
theorem cl_ints : ∀ ns : List Int, PyData.canLayAll0 (ns.map PyData.int) = true
  | [] => by simp [PyData.canLayAll0]
  | n :: ns => by simp [PyData.canLayAll0, PyData.canLay0, cl_ints ns]
theorem dep_ints : ∀ ns : List Int, PyData.depthAll (ns.map PyData.int) ≤ 1
  | [] => by simp [PyData.depthAll]
  | n :: ns => by
    have := dep_ints ns
    simp [PyData.depthAll, PyData.depth]
    try omega
theorem shaped_ints (ns : List Int) : SeqAt.shaped (.list (ns.map PyData.int)) = true := by
  have h1 := cl_ints ns
  have h2 := dep_ints ns
  simp only [SeqAt.shaped, PyData.canLay0, PyData.depth, h1, Bool.true_and]
  exact decide_eq_true (by omega)
theorem shaped_nil : SeqAt.shaped (.list []) = true := shaped_ints []
theorem eqv_nil (ns : List Int) : PyData.eqv (.list (ns.map PyData.int)) (.list []) = ns.isEmpty := by
  cases ns with
  | nil => simp [PyData.eqv, PyData.eqvAll]
  | cons n ns => simp [PyData.eqv, PyData.eqvAll]
/-! ### promises -/
/-- a stir: a number from 0 on -/
def spStirred : Sp := fun vs H Q _ => ∃ (d w c : Addr) (B : Int), vs = [.ref d] ∧ StAt H d w c B ∧ B ≤ 1000000000000 ∧
  ∀ H' z, 0 ≤ z → StAt H' d w c (B + 1) → Fr2 d w H H' → Q (.int z) H'
/-- a draw below n -/
def spDraw : Sp := fun vs H Q _ => ∃ (d w c : Addr) (B n : Int), vs = [.ref d, .int n] ∧ StAt H d w c B ∧ B ≤ 1000000000000 ∧ 0 < n ∧ n < 1073741824 ∧
  ∀ H' z, 0 ≤ z → z < n → StAt H' d w c (B + 1) → Fr2 d w H H' → Q (.int z) H'
section
variable {P : Program} {w : World} {K : PySem.W.Frag} {mg : Str → Option Value} {base : Heap}
theorem scStirred : FnScope ["_law_state", "_law_turn", "_law_found", "_law_prime", "_law_blend", "_law_cell"] ["_law_state"] (defScope sStirred) := ⟨rfl, rfl, rfl, by decide +kernel, rfl, by decide +kernel, by decide +kernel⟩
theorem scDraw : FnScope ["_law_state", "_law_size", "_law_found"] ["_law_state", "_law_size"] (defScope sDraw) := ⟨rfl, rfl, rfl, by decide +kernel, rfl, by decide +kernel, by decide +kernel⟩
theorem ok_draw {f : Addr} {fd : FuncData} {k : Nat} (F : Fun K "_law_draw" "_law_draw" sDraw f fd) (mi : mg "int" = none) (DS : Def P w K mg base "_law_stirred" CX0 k ["_law_state"] spStirred) : FnOk P w K mg base CX0 (k + 1) f fd ["_law_state", "_law_size"] spDraw := by
  refine F.ok scDraw (fun vs H Q E h => ?_) (fun cdv A outer s H vs Q E hr h => ?_)
  · obtain ⟨d, w, c, B, n, rfl, _⟩ := h
    rfl
  · obtain ⟨d, w, c, B, n, rfl, hS, hB, hn, hn2, q⟩ := h
    have hu := hu_of hr
    refine ⟨_, pss_cons (ps_if (pt_cmpR op_eq (pe_dget hu (pv 0) pe_str (fun _ _ => rfl)) pe_int (nomark _))
        (pss_one (ps_dput hu (pv 0) pe_str (pe_ifExp (pt_cmpR (op_neD hr.units) (pe_dget hu (pv 0) pe_str (fun _ _ => rfl)) (pe_lst pa_nil) (nomark _))
          (pe_bm PySem.F.plainAttrs_list PySem.F.slot_list_pop PySem.F.type_list_pop mt_popAt (pe_dget hu (pv 0) pe_str (fun _ _ => rfl)) (pa_cons pe_int pa_nil))
          (pe_d DS hr (pa_cons (pv 0) pa_nil))) rfl)) pss_nil)
      (pss_cons (ps_set (i := 2) scDraw.nd rfl (.inl rfl) (pe_op op_mod (pe_callTy call_int1 (by rfl) mi (by decide +kernel) (pa_cons (pe_dget hu (pv 0) pe_str (fun _ _ => rfl)) pa_nil)) (pv 1)))
      (pss_cons (ps_dput hu (pv 0) pe_str (pe_op op_fdiv (pe_dget hu (pv 0) pe_str (fun _ _ => rfl)) (pv 1)) rfl)
      (pss_one (ps_ret (pv 2))))), ?_⟩
    -- what follows the if, from any state
    have rest : ∀ (H1 : Hp), StAt H1 d w c (B + 1) → Fr2 d w H H1 → ∀ v2 : Option V,
        (tSeq (tAsg (tOp (rI (fun _ j => 0 < j) fun i j => .int (i % j)) (tCB (fun xs H Q => (∃ i, xs = [V.int i] ∧ Q (.int i) H) ∨ ∃ k, xs = [V.bl k] ∧ Q (.int (if k then 1 else 0)) H) (tCons (tDGet (tVar 0) (tC (.str "rest"))) tNil)) (tVar 1)) (gName 2))
          (tSeq (sDPut (tVar 0) (tC (.str "rest")) (tOp (rI CDiv fun i j => .int (i / j)) (tDGet (tVar 0) (tC (.str "rest"))) (tVar 1))) (tRet (tVar 2))))
          { nx := fun _ H' => Q .non H', rt := Q } [some (.ref d), some (.int n), v2] H1 := by
      intro H1 S1 F1 v2
      obtain ⟨ws, cs, r, t, hd, hw, hc, pw, pc, hr0, ht0, htB, lw, lc, nwc⟩ := S1.ex
      refine ⟨_, rfl, d, _, rfl, gR hd, .inl ⟨r, rfl, ?_⟩⟩
      refine ⟨_, rfl, r, n, rfl, rfl, hn, ?_⟩
      refine ⟨_, rfl, d, _, rfl, gR hd, _, rfl, r, n, rfl, rfl, ⟨hn, hn2⟩, ?_⟩
      refine ⟨_, rfl, d, _, rfl, dR hd, _, rfl, ?_⟩
      have ndw : d ≠ w := ne_of hd hw (by intro z; cases z)
      have ndc : d ≠ c := ne_of hd hc (by intro z; cases z)
      refine q _ (r % n) (Int.emod_nonneg _ (by omega)) (Int.emod_lt_of_pos _ hn) ⟨ws, cs, r / n, t, upd_same, ?_, ?_, pw, pc, Int.ediv_nonneg hr0 (by omega), ht0, htB, lw, lc, nwc⟩ (F1.trans Fr2.at1)
      · rw [upd_ne ndw.symm]; exact hw
      · rw [upd_ne ndc.symm]; exact hc
    obtain ⟨ws, cs, r, t, hd, hw, hc, pw, pc, hr0, ht0, htB, lw, lc, nwc⟩ := hS.ex
    have ndw : d ≠ w := ne_of hd hw (by intro z; cases z)
    have ndc : d ≠ c := ne_of hd hc (by intro z; cases z)
    refine ⟨_, rfl, d, _, rfl, gR hd, rfl, _, rfl, ?_⟩
    refine ite2 (fun e0 => ?_) (fun e0 => ?_)
    · -- rest == 0: wide's first, or a stir
      refine ⟨_, rfl, d, _, rfl, gW hd, ⟨Nat.zero_le _, fun l hl => ?_⟩⟩
      have s1 : Same H (upd H l (.lst [])) := same_upd hl
      refine ⟨_, _, .lst (SqL.of (s1 _ _ hw)) (dp_ints ws), .lst (SqL.of upd_same) .nil, shaped_ints ws, shaped_nil, _, rfl, ?_⟩
      rw [eqv_nil]
      cases ws with
      | cons x ws =>
        refine iteT ?_
        refine ⟨_, rfl, d, _, rfl, gW (s1 _ _ hd), .inl ⟨rfl, _, SqL.of (s1 _ _ hw)⟩, w, (x :: ws).map V.int, 0, 0, .int x, rfl, rfl, s1 _ _ hw, by decide, by decide, by simp [seqIndex?], rfl, ?_⟩
        have hd2 : upd (upd H l (.lst [])) w (.lst (((x :: ws).map V.int).eraseIdx 0)) d = some (.dK (stD w c r t)) := by
          rw [upd_ne ndw]; exact s1 _ _ hd
        refine ⟨_, rfl, d, _, rfl, dR hd2, ?_⟩
        refine rest _ ⟨ws, cs, x, t, upd_same, ?_, ?_, fun y hy => pw y (List.mem_cons_of_mem _ hy), pc, pw x List.mem_cons_self, ht0, by omega, by simp at lw; omega, lc, nwc⟩ ((Fr2.new hl).trans (Fr2.at2.trans Fr2.at1)) _
        · rw [upd_ne ndw.symm, upd_same]; rfl
        · rw [upd_ne ndc.symm, upd_ne nwc.symm]; exact s1 _ _ hc
      | nil =>
        refine iteF ?_
        refine ⟨_, rfl, d, w, c, B, rfl, ⟨[], cs, r, t, s1 _ _ hd, s1 _ _ hw, s1 _ _ hc, pw, pc, hr0, ht0, htB, lw, lc, nwc⟩, hB, fun H2 z hz S2 F2 => ?_⟩
        obtain ⟨ws', cs', r', t', hd', hw', hc', pw', pc', hr', ht', htB', lw', lc', nwc'⟩ := S2.ex
        refine ⟨_, rfl, d, _, rfl, dR hd', ?_⟩
        have ndw' : d ≠ w := ndw
        refine rest _ ⟨ws', cs', z, t', upd_same, ?_, ?_, pw', pc', hz, ht', htB', lw', lc', nwc⟩ ((Fr2.new hl).trans (F2.trans Fr2.at1)) _
        · rw [upd_ne ndw.symm]; exact hw'
        · rw [upd_ne ndc.symm]; exact hc'
    · exact rest H ⟨ws, cs, r, t, hd, hw, hc, pw, pc, hr0, ht0, by omega, lw, lc, nwc⟩ .refl _
theorem ok_stirred {f : Addr} {fd : FuncData} {k : Nat} (F : Fun K "_law_stirred" "_law_stirred" sStirred f fd) (mi : mg "int" = none) : FnOk P w K mg base CX0 (k + 1) f fd ["_law_state"] spStirred := by
  refine F.ok scStirred (fun vs H Q E h => ?_) (fun cdv A outer s H vs Q E hr h => ?_)
  · obtain ⟨d, w, c, B, rfl, _⟩ := h
    rfl
  · obtain ⟨d, w, c, B, rfl, hS, hB, q⟩ := h
    have hu := hu_of hr
    refine ⟨_, pss_cons (ps_par (i := 1) (j := 2) rfl scStirred.nd rfl rfl (by decide) rfl rfl (pa_cons (pe_op op_add (pe_dget hu (pv 0) pe_str (fun _ _ => rfl)) pe_int) (pa_cons pe_int pa_nil)) (by rfl))
      (pss_cons (ps_dput hu (pv 0) pe_str (pv 1) rfl)
      (pss_cons (ps_for PassesOwn.never rfl (pi_list (pe_lst (pa_cons pe_int (pa_cons pe_int (pa_cons pe_int (pa_cons pe_int pa_nil)))))) (pg_name (i := 3) scStirred.nd rfl (Or.inl rfl))
        (pss_cons (ps_set (i := 4) scStirred.nd rfl (.inl rfl) (pe_op op_add (pe_op op_mul pe_int (pv 1)) (pe_op op_fdiv (pv 3) pe_int)))
        (pss_cons (ps_for PassesOwn.never rfl (pi_list (pe_dget hu (pv 0) pe_str (fun _ _ => rfl))) (pg_name (i := 5) scStirred.nd rfl (Or.inl rfl))
          (pss_one (ps_set (i := 4) scStirred.nd rfl (.inl rfl) (pe_op op_mod (pe_callTy call_int1 (by rfl) mi (by decide +kernel) (pa_cons (pe_op op_add (pe_op op_add (pe_op op_mul (pv 4) pe_int) (pv 5)) (pv 1)) pa_nil)) (pv 3)))))
        (pss_one (ps_set (i := 2) scStirred.nd rfl (.inl rfl) (pe_op op_add (pe_op op_mul (pv 2) pe_int) (pe_op op_mod (pe_callTy call_int1 (by rfl) mi (by decide +kernel) (pa_cons (pe_op op_pow (pv 4) pe_int) pa_nil)) (pv 3))))))))
      (pss_one (ps_ret (pv 2))))), ?_⟩
    obtain ⟨ws, cs, r, t, hd, hw, hc, pw, pc, hr0, ht0, htB, lw, lc, nwc⟩ := hS.ex
    have ndw : d ≠ w := ne_of hd hw (by intro z; cases z)
    have ndc : d ≠ c := ne_of hd hc (by intro z; cases z)
    refine ⟨_, rfl, d, _, rfl, gT hd, t, 1, rfl, rfl, _, _, rfl, ?_⟩
    refine ⟨_, rfl, _, rfl, d, _, rfl, dT hd, ?_⟩
    refine ⟨by show 4 ≤ sizeLine; decide, fun l hl => ?_⟩
    have e1 : Fr2 d w H (upd (upd H d (.dK (stD w c r (t + 1)))) l (.lst ([2147483647, 2147483629, 2147483587, 2147483579].map V.int))) := Fr2.at1.trans (Fr2.new hl)
    have s1 : Same (upd H d (.dK (stD w c r (t + 1)))) (upd (upd H d (.dK (stD w c r (t + 1)))) l (.lst ([2147483647, 2147483629, 2147483587, 2147483579].map V.int))) := same_upd hl
    generalize hG : upd (upd H d (.dK (stD w c r (t + 1)))) l (.lst ([2147483647, 2147483629, 2147483587, 2147483579].map V.int)) = G at e1 s1
    have gl : G l = some (.lst ([2147483647, 2147483629, 2147483587, 2147483579].map V.int)) := by rw [← hG]; exact upd_same
    have gd : G d = some (.dK (stD w c r (t + 1))) := s1 _ _ upd_same
    have gw : G w = some (.lst (ws.map V.int)) := s1 _ _ (by rw [upd_ne ndw.symm]; exact hw)
    have gc : G c = some (.lst (cs.map V.int)) := s1 _ _ (by rw [upd_ne ndc.symm]; exact hc)
    refine ⟨l, rfl, ⟨_, SqL.of (by first | exact upd_same | (rw [← hG]; exact upd_same))⟩, for_list (K := K) (a := l) (xs := [2147483647, 2147483629, 2147483587, 2147483579].map V.int) (fun i σ H' => ∃ (z : Int) (y3 y4 y5 : Option V), σ = [some (.ref d), some (.int (t + 1)), some (.int z), y3, y4, y5] ∧ 0 ≤ z ∧ H' = G)
      ⟨0, none, none, none, rfl, Int.le_refl _, by first | rfl | exact hG⟩ (fun i σ H' _ ⟨_, _, _, _, _, _, e⟩ => by rw [e]; exact SqL.of gl) ?_ ?_⟩
    · rintro i y σ H' hi ⟨z, y3, y4, y5, rfl, hz, rfl⟩
      obtain ⟨p, hp, hp2, rfl⟩ : ∃ p : Int, 0 < p ∧ p < 2147483648 ∧ y = V.int p := by
        have hm := List.mem_of_getElem? hi
        simp at hm
        rcases hm with rfl | rfl | rfl | rfl
        · exact ⟨_, by decide, by decide, rfl⟩
        · exact ⟨_, by decide, by decide, rfl⟩
        · exact ⟨_, by decide, by decide, rfl⟩
        · exact ⟨_, by decide, by decide, rfl⟩
      have b0 : (0 : Int) ≤ 48271 * (t + 1) + p / 37 := by omega
      have b1 : (48271 * (t + 1) + p / 37 : Int) < 18446744073709551616 := by omega
      refine ⟨_, rfl, 48271, _, rfl, rfl, .inl ⟨by decide, by decide⟩, _, rfl, p, 37, rfl, rfl, ⟨by decide, by decide⟩, _, _, rfl, rfl, ?_⟩
      refine ⟨_, rfl, d, _, rfl, gC gd, c, rfl, ⟨_, SqL.of gc⟩, for_list (K := K) (a := c) (xs := cs.map V.int) (fun i σ H2 => ∃ (b : Int) (y5 : Option V), σ = [some (.ref d), some (.int (t + 1)), some (.int z), some (.int p), some (.int b), y5] ∧ 0 ≤ b ∧ b < 18446744073709551616 ∧ H2 = H')
        ⟨_, y5, rfl, b0, b1, rfl⟩ (fun i σ H2 _ ⟨_, _, _, _, _, e⟩ => by rw [e]; exact SqL.of gc) ?_ ?_⟩
      · rintro i y σ H2 hi ⟨b, y5', rfl, hb0, hb1, rfl⟩
        obtain ⟨u, rfl⟩ : ∃ u, y = V.int u := by
          have hm := List.mem_of_getElem? hi
          obtain ⟨u, _, e⟩ := List.mem_map.mp hm
          exact ⟨u, e.symm⟩
        refine ⟨_, rfl, b, 69621, rfl, rfl, .inr ⟨by decide, by decide⟩, _, rfl, _, _, rfl, rfl, _, rfl, _, _, rfl, rfl, .inl ⟨_, rfl, ?_⟩⟩
        refine ⟨_, rfl, _, _, rfl, rfl, hp, ?_⟩
        exact ⟨_, some (.int u), rfl, Int.emod_nonneg _ (by omega), by have := Int.emod_lt_of_pos (b * 69621 + u + (t + 1)) hp; omega, rfl⟩
      · rintro σ H2 ⟨b, y5', rfl, hb0, hb1, rfl⟩
        refine ⟨_, rfl, z, 2147483563, rfl, rfl, .inr ⟨by decide, by decide⟩, _, rfl, b, 5, rfl, rfl, ⟨by decide, by decide, by omega⟩, .inl ⟨_, rfl, ?_⟩⟩
        refine ⟨_, rfl, _, _, rfl, rfl, hp, _, _, rfl, rfl, ?_⟩
        refine ⟨_, some (.int p), some (.int b), y5', rfl, ?_, rfl⟩
        have := Int.emod_nonneg (b ^ Int.toNat 5) (show p ≠ 0 by omega)
        omega
    · rintro σ H' ⟨z, y3, y4, y5, rfl, hz, rfl⟩
      refine ⟨_, rfl, q _ z hz ⟨ws, cs, r, t + 1, gd, gw, gc, pw, pc, hr0, by omega, by omega, lw, lc, nwc⟩ e1⟩
end
end Kw
set_option maxHeartbeats 4000000
namespace Kw
open PySem PySem.Spec PyProof.Rows L2
theorem merge_st (w c : Addr) (r t : Int) : mergeK [] (stD w c r t) = stD w c r t := by
  simp [mergeK, stD, putK, kR, kW, kC, kT, show ¬ (("wide" : Str) = "turn") by decide +kernel, show ¬ (("cells" : Str) = "turn") by decide +kernel, show ¬ (("rest" : Str) = "turn") by decide +kernel,
    show ¬ (("wide" : Str) = "cells") by decide +kernel, show ¬ (("wide" : Str) = "rest") by decide +kernel, show ¬ (("cells" : Str) = "rest") by decide +kernel]
theorem StAt.hd {H : Hp} {d w c : Addr} {B : Int} (S : StAt H d w c B) : ∃ kvs, H d = some (.dK kvs) := let ⟨_, _, _, _, h, _⟩ := S.ex; ⟨_, h⟩
theorem StAt.hw {H : Hp} {d w c : Addr} {B : Int} (S : StAt H d w c B) : ∃ xs, H w = some (.lst xs) := let ⟨_, _, _, _, _, h, _⟩ := S.ex; ⟨_, h⟩
theorem StAt.mono {H : Hp} {d w c : Addr} {B B' : Int} (S : StAt H d w c B) (h : B ≤ B') : StAt H d w c B' := by
  obtain ⟨ws, cs, r, t, hd, hw, hc, pw, pc, hr0, ht0, htB, lw, lc, nwc⟩ := S.ex
  exact ⟨ws, cs, r, t, hd, hw, hc, pw, pc, hr0, ht0, by omega, lw, lc, nwc⟩
theorem StAt.same {H H' : Hp} {d w c : Addr} {B : Int} (S : StAt H d w c B) (s : Same H H') : StAt H' d w c B := by
  obtain ⟨ws, cs, r, t, hd, hw, hc, pw, pc, hr0, ht0, htB, lw, lc, nwc⟩ := S.ex
  exact ⟨ws, cs, r, t, s _ _ hd, s _ _ hw, s _ _ hc, pw, pc, hr0, ht0, htB, lw, lc, nwc⟩
/-- a list that is not the wide one stays -/
theorem Fr2.lst {H H' : Hp} {d w c a : Addr} {B : Int} {xs : List V} (F : Fr2 d w H H') (S : StAt H d w c B) (h : H a = some (.lst xs)) (n : a ≠ w) : H' a = some (.lst xs) := by
  obtain ⟨kvs, hd⟩ := S.hd
  exact F a _ (ne_of h hd (by intro z; cases z)) n h
theorem Fr2.tup {H H' : Hp} {d w c a : Addr} {B : Int} {xs : List V} (F : Fr2 d w H H') (S : StAt H d w c B) (h : H a = some (.tup xs)) : H' a = some (.tup xs) := by
  obtain ⟨kvs, hd⟩ := S.hd
  obtain ⟨ys, hw⟩ := S.hw
  exact F a _ (ne_of h hd (by intro z; cases z)) (ne_of h hw (by intro z; cases z)) h
theorem Fr2.sqT {K : PySem.W.Frag} {H H' : Hp} {d w c a : Addr} {B : Int} {xs : List V} (F : Fr2 d w H H') (S : StAt H d w c B) (h : SqT K H a xs) : SqT K H' a xs := by
  obtain ⟨kvs, hd⟩ := S.hd
  obtain ⟨ys, hw⟩ := S.hw
  rcases h with (h | ⟨o, h⟩) | h
  · exact .inl (.inl (F.tup S h))
  · exact .inl (.inr ⟨o, F a _ (ne_of h hd (by intro z; cases z)) (ne_of h hw (by intro z; cases z)) h⟩)
  · exact .inr h
theorem Same.sqT {K : PySem.W.Frag} {H H' : Hp} {a : Addr} {xs : List V} (s : Same H H') (h : SqT K H a xs) : SqT K H' a xs := by
  rcases h with (h | ⟨o, h⟩) | h
  · exact .inl (.inl (s _ _ h))
  · exact .inl (.inr ⟨o, s _ _ h⟩)
  · exact .inr h
/-- no test in a comprehension -/
theorem yesI {σ : L2.St} {H : Hp} {A B : Hp → Prop} (h : A H) : tYes σ H fun b H3 => if b = true then A H3 else B H3 := by
  show if true = true then A H else B H
  rw [if_pos rfl]
  exact h
/-- the beginning: a new state -/
def spBegun (K : PySem.W.Frag) : Sp := fun vs H Q _ => ∃ (a : Addr) (ns : List Int), vs = [.ref a] ∧ SqL K H a (ns.map V.int) ∧ ns.length ≤ 63 ∧
  ∀ H' d w c, StAt H' d w c 0 → Same H H' → H d = none → H w = none → H c = none → Q (.ref d) H'
/-- one of a list -/
def spPick : Sp := fun vs H Q _ => ∃ (d w c : Addr) (B : Int) (a : Addr) (xs : List V), vs = [.ref d, .ref a] ∧ StAt H d w c B ∧ B ≤ 1000000000000 ∧ H a = some (.lst xs) ∧ a ≠ w ∧ 0 < xs.length ∧ xs.length < 1073741824 ∧
  ∀ H' (i : Nat) v, xs[i]? = some v → StAt H' d w c (B + 1) → Fr2 d w H H' → Q v H'
section
variable {P : Program} {w : World} {K : PySem.W.Frag} {mg : Str → Option Value} {base : Heap}
theorem scBegun : FnScope ["_law_script", "_law_wide", "_law_cell"] ["_law_script"] (defScope sBegun) := ⟨rfl, rfl, rfl, by decide +kernel, rfl, by decide +kernel, by decide +kernel⟩
theorem scPick : FnScope ["_law_state", "_law_some"] ["_law_state", "_law_some"] (defScope sPick) := ⟨rfl, rfl, rfl, by decide +kernel, rfl, by decide +kernel, by decide +kernel⟩
theorem ok_pick {f : Addr} {fd : FuncData} {k : Nat} (F : Fun K "_law_pick" "_law_pick" sPick f fd) (ml : mg "len" = none) (DD : Def P w K mg base "_law_draw" CX0 k ["_law_state", "_law_size"] spDraw) : FnOk P w K mg base CX0 (k + 1) f fd ["_law_state", "_law_some"] spPick := by
  refine F.ok scPick (fun vs H Q E h => ?_) (fun cdv A outer s H vs Q E hr h => ?_)
  · obtain ⟨d, w, c, B, a, xs, rfl, _⟩ := h
    rfl
  · obtain ⟨d, w, c, B, a, xs, rfl, hS, hB, ha, naw, hl, hl2, q⟩ := h
    refine ⟨_, pss_one (ps_ret (pe_ix ix_list (pv 1) (pe_d DD hr (pa_cons (pv 0) (pa_cons (pe_callB call_len_seq (by rfl) ml PySem.boot_len (pa_cons (pv 1) pa_nil)) pa_nil))) (fun _ _ => rfl))), ?_⟩
    refine ⟨_, rfl, _, rfl, _, rfl, a, xs, rfl, .inl (SqL.of ha), d, w, c, B, xs.length, rfl, hS, hB, by omega, by omega, fun H' z h0 h1 S' F' => ?_⟩
    obtain ⟨i, rfl⟩ : ∃ i : Nat, z = (i : Int) := ⟨z.toNat, by omega⟩
    have hi : i < xs.length := by omega
    have ha' := F'.lst hS ha naw
    refine ⟨a, xs, i, xs[i], rfl, rfl, SqL.of ha', atI_nat (List.getElem?_eq_getElem hi), q H' i _ (List.getElem?_eq_getElem hi) S' F'⟩
theorem ok_begun {f : Addr} {fd : FuncData} {k : Nat} (F : Fun K "_law_begun" "_law_begun" sBegun f fd) (ma : mg "abs" = none) : FnOk P w K mg base CX0 (k + 1) f fd ["_law_script"] (spBegun K) := by
  refine F.ok scBegun (fun vs H Q E h => ?_) (fun cdv A outer s H vs Q E hr h => ?_)
  · obtain ⟨a, ns, rfl, _⟩ := h
    rfl
  · obtain ⟨a, ns, rfl, hS, hlen, q⟩ := h
    refine ⟨_, pss_cons (ps_setLc (i := 1) (own := [("_law_cell", 2)]) (g := gName 2) rfl scBegun.nd rfl rfl (sw_true rfl rfl rfl (by decide +kernel)) (pi_list (pv 0)) (blkOk_by (N := ["_law_script", "_law_wide", "_law_cell"]) (sc := defScope sBegun) (by decide +kernel))
        (fun _ _ _ _ _ => pg_name (i := 2) scBegun.nd rfl (Or.inl rfl)) (fun _ _ _ _ _ => pts_one (pt_cmpR op_ge (pe_callB call_abs (by rfl) ma (by decide +kernel) (pa_cons (pv 2) pa_nil)) (pe_op op_pow pe_int pe_int) (nomark _)))
        (fun _ _ _ _ _ => pe_op op_sub (pe_callB call_abs (by rfl) ma (by decide +kernel) (pa_cons (pv 2) pa_nil)) (pe_op op_pow pe_int pe_int)))
      (pss_one (ps_ret (pe_disp (pps_cons pe_str (pv 1) (pps_cons pe_str (pe_lc (own := [("_law_cell", 2)]) (g := gName 2) (tt := tYes) rfl scBegun.nd (pi_list (pv 0)) (blkOk_by (N := ["_law_script", "_law_wide", "_law_cell"]) (sc := defScope sBegun) (by decide +kernel))
        (fun _ _ _ _ _ => pg_name (i := 2) scBegun.nd rfl (Or.inl rfl)) (fun _ _ _ _ _ => pts_nil) (fun _ _ _ _ _ => pe_callB call_abs (by rfl) ma (by decide +kernel) (pa_cons (pv 2) pa_nil)))
        (pps_cons pe_str pe_int (pps_cons pe_str pe_int pps_nil)))) (by rfl) (by rfl) (fun z => by cases z) (by decide)))), ?_⟩
    have hint : ∀ (i : Nat) (x : V), (ns.map V.int)[i]? = some x → i < ns.length ∧ ∃ u, x = V.int u := fun i x hi => by
      have h1 := (List.getElem?_eq_some_iff.mp hi).1
      rw [List.length_map] at h1
      obtain ⟨u, _, e⟩ := List.mem_map.mp (List.mem_of_getElem? hi)
      exact ⟨h1, u, e.symm⟩
    -- wide
    refine ⟨_, rfl, a, rfl, ⟨_, hS⟩, fun D hD => ?_⟩
    refine lc_list (K := K) (a := a) (xs := ns.map V.int) (fun i H' => Same H H' ∧ ∃ ws : List Int, H' D = some (.lst (ws.map V.int)) ∧ (∀ x ∈ ws, 0 ≤ x) ∧ ws.length ≤ i)
      ⟨same_upd hD, [], upd_same, fun x h => (nomatch h), Nat.le_refl _⟩ (fun i H' _ R => R.1.seq hS) ?_ ?_
    · rintro i x H' hi ⟨s1, ws, h1, h2, h3⟩
      obtain ⟨hi', u, rfl⟩ := hint i x hi
      refine ⟨rfl, ?_⟩
      refine ⟨_, rfl, u, rfl, 10, 18, rfl, rfl, ⟨by decide, by decide, by decide⟩, _, _, rfl, rfl, _, rfl, ?_⟩
      refine ite2 (fun e => ?_) (fun e => ⟨s1, ws, h1, h2, by omega⟩)
      have e' : (10 : Int) ^ (Int.toNat 18) ≤ (if u < 0 then -u else u) := of_decide_eq_true e
      refine ⟨_, rfl, u, rfl, 10, 18, rfl, rfl, ⟨by decide, by decide, by decide⟩, _, _, rfl, rfl, _, h1, by rw [List.length_map]; exact small1000 (by omega), ?_⟩
      refine ⟨fun b o e => by rw [upd_ne (ne_of_none e hD)]; exact s1 _ _ e, ws ++ [(if u < 0 then -u else u) - 10 ^ (Int.toNat 18)], by rw [upd_same, List.map_append]; rfl, fun y hy => ?_, by rw [List.length_append, List.length_singleton]; omega⟩
      rcases List.mem_append.mp hy with hy | hy
      · exact h2 y hy
      · rw [List.mem_singleton.mp hy]
        omega
    · rintro H' ⟨s1, ws, h1, h2, h3⟩
      rw [List.length_map] at h3
      -- the dict
      refine fun p hp => ?_
      have sp := same_upd (o := .dK []) hp
      refine ⟨_, rfl, _, rfl, a, rfl, ⟨_, sp.seq (s1.seq hS)⟩, fun D2 hD2 => ?_⟩
      have sp2 := same_upd (o := .lst []) hD2
      refine lc_list (K := K) (a := a) (xs := ns.map V.int) (fun i H2 => Same (upd H' p (.dK [])) H2 ∧ ∃ cs : List Int, H2 D2 = some (.lst (cs.map V.int)) ∧ (∀ x ∈ cs, 0 ≤ x) ∧ cs.length ≤ i)
        ⟨sp2, [], upd_same, fun x h => (nomatch h), Nat.le_refl _⟩ (fun i H2 _ R => R.1.seq (sp.seq (s1.seq hS))) ?_ ?_
      · rintro i x H2 hi ⟨s3, cs, g1, g2, g3⟩
        obtain ⟨hi', u, rfl⟩ := hint i x hi
        refine ⟨rfl, yesI ?_⟩
        refine ⟨_, rfl, u, rfl, _, g1, by rw [List.length_map]; exact small1000 (by omega), ?_⟩
        refine ⟨fun b o e => by rw [upd_ne (ne_of_none e hD2)]; exact s3 _ _ e, cs ++ [if u < 0 then -u else u], by rw [upd_same, List.map_append]; rfl, fun y hy => ?_, by rw [List.length_append, List.length_singleton]; omega⟩
        rcases List.mem_append.mp hy with hy | hy
        · exact g2 y hy
        · rw [List.mem_singleton.mp hy]
          split <;> omega
      · rintro H2 ⟨s3, cs, g1, g2, g3⟩
        rw [List.length_map] at g3
        have hp2 : H2 p = some (.dK []) := s3 _ _ upd_same
        refine ⟨hp2, stD D D2 0 0, rfl, by show 4 ≤ 15; decide, ?_⟩
        rw [merge_st]
        have npD : p ≠ D := (ne_of_none h1 hp).symm
        have sH : Same H H2 := fun b o e => s3 _ _ (sp _ _ (s1 _ _ e))
        have nD2 : D ≠ D2 := ne_of_none (sp _ _ h1) hD2
        have hH2 : H D2 = none := s1.free (sp.free hD2)
        refine q _ p D D2 ⟨ws, cs, 0, 0, upd_same, ?_, ?_, h2, g2, Int.le_refl _, Int.le_refl _, Int.le_refl _, by omega, by omega, nD2⟩ ?_ (s1.free hp) hD hH2
        · rw [upd_ne npD.symm]; exact s3 _ _ (sp _ _ h1)
        · rw [upd_ne (ne_of g1 hp2 (by intro z; cases z))]; exact g1
        · exact fun b o e => by rw [upd_ne (ne_of_none (s1 _ _ e) hp)]; exact sH _ _ e
end
end Kw
set_option maxHeartbeats 4000000
namespace Kw
open PySem PySem.Spec PyProof.Rows L2
abbrev sLater : Stmt := top 35
abbrev sStretch : Stmt := top 36
/-! ### versions -/
abbrev Ver := Int × Int × Int
abbrev vl (v : Ver) : List Int := [v.1, v.2.1, v.2.2]
abbrev v3 (v : Ver) : List V := (vl v).map V.int
def okV (v : Ver) : Prop := 0 ≤ v.1 ∧ 0 ≤ v.2.1 ∧ 0 ≤ v.2.2
def ltV (v u : Ver) : Prop := v.1 < u.1 ∨ v.1 = u.1 ∧ (v.2.1 < u.2.1 ∨ v.2.1 = u.2.1 ∧ v.2.2 < u.2.2)
instance (v u : Ver) : Decidable (ltV v u) := by unfold ltV; infer_instance
def leV (v u : Ver) : Prop := ¬ ltV u v
instance (v u : Ver) : Decidable (leV v u) := by unfold leV; infer_instance
theorem ltV_irrefl (v : Ver) : ¬ ltV v v := by unfold ltV; omega
theorem ltV_trans {a b c : Ver} (h : ltV a b) (k : ltV b c) : ltV a c := by unfold ltV at *; omega
theorem ltV_or {a b : Ver} (h : ¬ ltV a b) (k : ¬ ltV b a) : a = b := by
  obtain ⟨a1, a2, a3⟩ := a
  obtain ⟨b1, b2, b3⟩ := b
  unfold ltV at *
  simp only at h k
  simp only [Prod.mk.injEq]
  omega
/-- x is the version v -/
def IsVer (K : PySem.W.Frag) (H : Hp) (x : V) (v : Ver) : Prop := ∃ a, x = .ref a ∧ SqT K H a (v3 v)
theorem IsVer.of {K : PySem.W.Frag} {H : Hp} {a : Addr} {v : Ver} (h : H a = some (.tup (v3 v))) : IsVer K H (.ref a) v := ⟨a, rfl, .inl (.inl h)⟩
theorem IsVer.same {K : PySem.W.Frag} {H H' : Hp} {x : V} {v : Ver} (h : IsVer K H x v) (s : Same H H') : IsVer K H' x v := let ⟨a, e, q⟩ := h; ⟨a, e, Same.sqT s q⟩
theorem IsVer.fr {K : PySem.W.Frag} {H H' : Hp} {x : V} {v : Ver} {d w c : Addr} {B : Int} (h : IsVer K H x v) (S : StAt H d w c B) (F : Fr2 d w H H') : IsVer K H' x v := let ⟨a, e, q⟩ := h; ⟨a, e, F.sqT S q⟩
/-! ### comparisons of versions -/
theorem lexAt3 (e r : Nat → Bool) (z : Bool) : Ob.lexAt e r z 0 3 = if e 0 = true then (if e 1 = true then (if e 2 = true then z else r 2) else r 1) else r 0 := rfl
def cmpV (op : CmpOp) (v u : Ver) : Bool := match op with
  | .Lt => decide (ltV v u)
  | .LtE => decide (leV v u)
  | .Gt => decide (ltV u v)
  | .GtE => decide (leV u v)
  | _ => false
def cmpI (op : CmpOp) (i j : Int) : Bool := match op with
  | .Lt => decide (i < j)
  | .LtE => decide (i ≤ j)
  | .Gt => decide (j < i)
  | .GtE => decide (j ≤ i)
  | _ => false
def rVer (K : PySem.W.Frag) (op : CmpOp) : R2 := fun x y H Q => ∃ v u, IsVer K H x v ∧ IsVer K H y u ∧ Q (.bl (cmpV op v u)) H
section
variable {X : Cx}
theorem int_places {ns : List Int} {its : List Value} (i : IntsAre its ns) (j : Nat) (h : j < its.toArray.size) : ∃ t, its.toArray[j] = Value.int (ns.getD j 0) t :=
  PyProof.Rows.IntsAre.int_at i _ _ (by simp at h; simp [h])
theorem op_ver {op : CmpOp} (hop : op = .Lt ∨ op = .LtE ∨ op = .Gt ∨ op = .GtE) (hu : X.A.units < cLine) : OpR X (compareOp op) (rVer X.K op) := by
  intro pins s σ H x y p q Q I rx ry ⟨v, u, ⟨a, ea, ha⟩, ⟨b, eb, hb⟩, fin⟩
  subst ea eb
  cases rx
  cases ry
  obtain ⟨m1, r1, t1, _⟩ := I.tuple ha
  obtain ⟨m2, r2, t2, _⟩ := I.tuple hb
  have k1 : IntsAre m1 (vl v) := Vals.ints r1
  have k2 : IntsAre m2 (vl u) := Vals.ints r2
  have z1 : m1.toArray.size = 3 := by rw [List.size_toArray]; exact k1.length
  have z2 : m2.toArray.size = 3 := by rw [List.size_toArray]; exact k2.length
  have eqs : ∀ j (h1 : j < m1.toArray.size) (h2 : j < m2.toArray.size), SeqAt.EqAt X.A.in1 s m1.toArray[j] m2.toArray[j] ((vl v).getD j 0 == (vl u).getD j 0) := fun j h1 h2 => by
    obtain ⟨t, et⟩ := int_places k1 j h1
    obtain ⟨t', et'⟩ := int_places k2 j h2
    rw [et, et']
    exact SeqAt.EqAt.int_int _ _ _ _
  have goal : ∀ {bb : Bool}, Ob.RcOp op X.A s (.ref a) (.ref b) bb → bb = cmpV op v u → wpAny (model X.prog X.w) X.A (compareOp op (.ref a) (.ref b)) (EP X pins σ Q) X.xe s := fun {bb} R e => by
    subst e
    rcases hop with rfl | rfl | rfl | rfl <;> exact R X.prog X.w X.xe (EP X pins σ Q) ⟨.bl _, H, I, rfl, fin⟩
  rcases hop with rfl | rfl | rfl | rfl
  · refine goal (Ob.RcOp.tuples_lt (r := fun j => decide ((vl v).getD j 0 < (vl u).getD j 0)) t1 t2 hu eqs fun j h1 h2 _ => ?_) ?_
    · obtain ⟨t, et⟩ := int_places k1 j h1
      obtain ⟨t', et'⟩ := int_places k2 j h2
      rw [et, et']
      exact Ob.RcOp.lt_int _ _ _ _
    · rw [z1, z2, show min 3 3 = 3 from rfl, lexAt3]
      simp only [cmpV, vl, List.getD_cons_zero, List.getD_cons_succ, beq_iff_eq]
      rw [Bool.eq_iff_iff]
      repeat' split
      all_goals (simp only [decide_eq_true_eq]; unfold ltV; omega)
  · refine goal (Ob.RcOp.tuples_le (r := fun j => decide ((vl v).getD j 0 ≤ (vl u).getD j 0)) t1 t2 hu eqs fun j h1 h2 _ => ?_) ?_
    · obtain ⟨t, et⟩ := int_places k1 j h1
      obtain ⟨t', et'⟩ := int_places k2 j h2
      rw [et, et']
      exact Ob.RcOp.le_int _ _ _ _
    · rw [z1, z2, show min 3 3 = 3 from rfl, lexAt3]
      simp only [cmpV, vl, List.getD_cons_zero, List.getD_cons_succ, beq_iff_eq]
      rw [Bool.eq_iff_iff]
      repeat' split
      all_goals (simp only [decide_eq_true_eq]; unfold leV ltV; omega)
  · refine goal (Ob.RcOp.tuples_gt (r := fun j => decide ((vl u).getD j 0 < (vl v).getD j 0)) t1 t2 hu eqs fun j h1 h2 _ => ?_) ?_
    · obtain ⟨t, et⟩ := int_places k1 j h1
      obtain ⟨t', et'⟩ := int_places k2 j h2
      rw [et, et']
      exact Ob.RcOp.gt_int _ _ _ _
    · rw [z1, z2, show min 3 3 = 3 from rfl, lexAt3]
      simp only [cmpV, vl, List.getD_cons_zero, List.getD_cons_succ, beq_iff_eq]
      rw [Bool.eq_iff_iff]
      repeat' split
      all_goals (simp only [decide_eq_true_eq]; unfold ltV; omega)
  · refine goal (Ob.RcOp.tuples_ge (r := fun j => decide ((vl u).getD j 0 ≤ (vl v).getD j 0)) t1 t2 hu eqs fun j h1 h2 _ => ?_) ?_
    · obtain ⟨t, et⟩ := int_places k1 j h1
      obtain ⟨t', et'⟩ := int_places k2 j h2
      rw [et, et']
      exact Ob.RcOp.ge_int _ _ _ _
    · rw [z1, z2, show min 3 3 = 3 from rfl, lexAt3]
      simp only [cmpV, vl, List.getD_cons_zero, List.getD_cons_succ, beq_iff_eq]
      rw [Bool.eq_iff_iff]
      repeat' split
      all_goals (simp only [decide_eq_true_eq]; unfold leV ltV; omega)
end
end Kw
set_option maxHeartbeats 4000000
namespace Kw
open PySem PySem.Spec PyProof.Rows L2
theorem Fr2.put {H H2 : Hp} {d w D : Addr} {o : HO} (F : Fr2 d w H H2) (hD : H D = none) : Fr2 d w H (upd H2 D o) := fun b u n1 n2 e => by
  rw [upd_ne (ne_of_none e hD)]
  exact F b u n1 n2 e
theorem StAt.ne {H : Hp} {d w c D : Addr} {B : Int} (S : StAt H d w c B) (hD : H D = none) : d ≠ D ∧ w ≠ D ∧ c ≠ D := by
  obtain ⟨ws, cs, r, t, hd, hw, hc, _⟩ := S.ex
  exact ⟨ne_of_none hd hD, ne_of_none hw hD, ne_of_none hc hD⟩
theorem StAt.put {H H2 : Hp} {d w c D : Addr} {B B2 : Int} {o : HO} (S0 : StAt H d w c B) (hD : H D = none) (S : StAt H2 d w c B2) : StAt (upd H2 D o) d w c B2 := by
  obtain ⟨n1, n2, n3⟩ := S0.ne hD
  obtain ⟨ws, cs, r, t, hd, hw, hc, pw, pc, hr0, ht0, htB, lw, lc, nwc⟩ := S.ex
  exact ⟨ws, cs, r, t, by rw [upd_ne n1]; exact hd, by rw [upd_ne n2]; exact hw, by rw [upd_ne n3]; exact hc, pw, pc, hr0, ht0, htB, lw, lc, nwc⟩
theorem Fr2.free {H H2 : Hp} {d w c p : Addr} {B B2 : Int} (F : Fr2 d w H H2) (S : StAt H d w c B) (S2 : StAt H2 d w c B2) (h : H2 p = none) : H p = none := by
  obtain ⟨n1, n2, n3⟩ := S2.ne h
  cases q : H p with
  | none => rfl
  | some o =>
    rw [F p o n1.symm n2.symm q] at h
    cases h
theorem ltA {v : Ver} {a b c : Int} (h : v.1 < a) : ltV v (a, b, c) := .inl h
theorem ltB {v : Ver} {b c : Int} (h : v.2.1 < b) : ltV v (v.1, b, c) := .inr ⟨rfl, .inl h⟩
theorem ltC {v : Ver} {c : Int} (h : v.2.2 < c) : ltV v (v.1, v.2.1, c) := .inr ⟨rfl, .inr ⟨rfl, h⟩⟩
/-- a version, drawn from a menu of numbers from 0 on -/
def spVersion (K : PySem.W.Frag) : Sp := fun vs H Q _ => ∃ (d w c : Addr) (B : Int), vs = [.ref d] ∧ StAt H d w c B ∧ B + 3 ≤ 1000000000000 ∧
  ∀ H' p v, okV v → v.1 ≤ 10 → v.2.1 ≤ 10 → v.2.2 ≤ 10 → H p = none → H' p = some (.tup (v3 v)) → StAt H' d w c (B + 3) → Fr2 d w H H' → Q (.ref p) H'
/-- a later version -/
def spLater (K : PySem.W.Frag) : Sp := fun vs H Q _ => ∃ (d w c : Addr) (B : Int) (x : V) (v : Ver), vs = [.ref d, x] ∧ StAt H d w c B ∧ B + 3 ≤ 1000000000000 ∧ IsVer K H x v ∧ okV v ∧
  ∀ H' p u, okV u → ltV v u → H p = none → H' p = some (.tup (v3 u)) → StAt H' d w c (B + 3) → Fr2 d w H H' → Q (.ref p) H'
section
variable {P : Program} {w : World} {K : PySem.W.Frag} {mg : Str → Option Value} {base : Heap}
theorem scVersion : FnScope ["_law_state", "_law_spot"] ["_law_state"] (defScope sVersion) := ⟨rfl, rfl, rfl, by decide +kernel, rfl, by decide +kernel, by decide +kernel⟩
theorem scLater : FnScope ["_law_state", "_law_version_here", "_law_way"] ["_law_state", "_law_version_here"] (defScope sLater) := ⟨rfl, rfl, rfl, by decide +kernel, rfl, by decide +kernel, by decide +kernel⟩
theorem ok_version {f : Addr} {fd : FuncData} {k : Nat} (F : Fun K "_law_version" "_law_version" sVersion f fd) (mt : mg "tuple" = none) (mr : mg "range" = none) (DP : Def P w K mg base "_law_pick" CX0 k ["_law_state", "_law_some"] spPick) : FnOk P w K mg base CX0 (k + 1) f fd ["_law_state"] (spVersion K) := by
  refine F.ok scVersion (fun vs H Q E h => ?_) (fun cdv A outer s H vs Q E hr h => ?_)
  · obtain ⟨d, w, c, B, rfl, _⟩ := h
    rfl
  · obtain ⟨d, w, c, B, rfl, hS, hB, q⟩ := h
    refine ⟨_, pss_one (ps_ret (pe_callTy call_tuple_of (by rfl) mt (by decide +kernel) (pa_cons (pe_lc (own := [("_law_spot", 1)]) (g := gName 1) (tt := tYes) rfl scVersion.nd (pi_range1 rfl mr (pa_cons pe_int pa_nil)) (blkOk_by (N := ["_law_state", "_law_spot"]) (sc := defScope sVersion) (by decide +kernel))
      (fun _ _ _ _ _ => pg_name (i := 1) scVersion.nd rfl (Or.inl rfl)) (fun _ _ _ _ _ => pts_nil) (fun _ _ _ _ _ => pe_d DP hr (pa_cons (pv 0) (pa_cons (pe_lst (pa_cons pe_int (pa_cons pe_int (pa_cons pe_int (pa_cons pe_int (pa_cons pe_int (pa_cons pe_int (pa_cons pe_int pa_nil)))))))) pa_nil)))) pa_nil))), ?_⟩
    obtain ⟨ys, hw⟩ := hS.hw
    refine ⟨3, rfl, by decide, by decide, fun D hD => ?_⟩
    have nDw : D ≠ w := (ne_of_none hw hD).symm
    refine lc_range (lo := 0) (n := 3) (fun i H' => Fr2 d w H H' ∧ StAt H' d w c (B + i) ∧ ∃ ns : List Int, H' D = some (.lst (ns.map V.int)) ∧ ns.length = i ∧ ∀ x ∈ ns, 0 ≤ x ∧ x ≤ 10)
      ⟨.new hD, (hS.same (same_upd hD)).mono (by simp), [], upd_same, rfl, fun x h => (nomatch h)⟩ ?_ ?_
    · rintro i H1 hi ⟨F1, S1, ns, h1, h2, h3⟩
      refine ⟨rfl, yesI ?_⟩
      refine ⟨_, rfl, by show 7 ≤ sizeLine; decide, fun l hl => ?_⟩
      have sl := same_upd (o := .lst ([0, 0, 1, 1, 2, 3, 10].map V.int)) hl
      obtain ⟨ys1, hw1⟩ := S1.hw
      refine ⟨d, w, c, B + i, l, [0, 0, 1, 1, 2, 3, 10].map V.int, rfl, S1.same sl, by omega, upd_same, (ne_of_none hw1 hl).symm, by decide, by decide, fun H2 j v hv S2 F2 => ?_⟩
      obtain ⟨z, hz, rfl⟩ : ∃ z : Int, (0 ≤ z ∧ z ≤ 10) ∧ v = .int z := by
        have hm := List.mem_of_getElem? hv
        simp at hm
        rcases hm with rfl | rfl | rfl | rfl | rfl <;> exact ⟨_, by decide, rfl⟩
      have hD2 := F2.lst (S1.same sl) (sl _ _ h1) nDw
      refine ⟨_, hD2, by rw [List.length_map]; exact small1000 (by omega), ?_⟩
      refine ⟨(F1.trans ((Fr2.ofSame sl).trans F2)).put hD, (hS.put hD S2).mono (by omega), ns ++ [z], by rw [upd_same, List.map_append]; rfl, by rw [List.length_append, h2]; rfl, fun x hx => ?_⟩
      rcases List.mem_append.mp hx with hx | hx
      · exact h3 x hx
      · rw [List.mem_singleton.mp hx]; exact hz
    · rintro H1 ⟨F1, S1, ns, h1, h2, h3⟩
      obtain ⟨x, y, z, rfl⟩ : ∃ x y z, ns = [x, y, z] := by
        match ns, h2 with
        | [x, y, z], _ => exact ⟨x, y, z, rfl⟩
      refine ⟨_, _, rfl, .inl ⟨SqL.of h1, fun l hl => ?_⟩⟩
      have sl := same_upd (o := .tup (v3 (x, y, z))) hl
      exact q _ l (x, y, z) ⟨(h3 x (by simp)).1, (h3 y (by simp)).1, (h3 z (by simp)).1⟩ (h3 x (by simp)).2 (h3 y (by simp)).2 (h3 z (by simp)).2 (F1.free hS S1 hl) upd_same (S1.same sl) (F1.trans (.ofSame sl))
theorem ok_later {f : Addr} {fd : FuncData} {k : Nat} (F : Fun K "_law_later" "_law_later" sLater f fd) (DD : Def P w K mg base "_law_draw" CX0 k ["_law_state", "_law_size"] spDraw) : FnOk P w K mg base CX0 (k + 1) f fd ["_law_state", "_law_version_here"] (spLater K) := by
  refine F.ok scLater (fun vs H Q E h => ?_) (fun cdv A outer s H vs Q E hr h => ?_)
  · obtain ⟨d, w, c, B, x, v, rfl, _⟩ := h
    rfl
  · obtain ⟨d, w, c, B, x, v, rfl, hS, hB, ⟨a, rfl, ha⟩, hv, q⟩ := h
    refine ⟨_, pss_cons (ps_set (i := 2) scLater.nd rfl (.inl rfl) (pe_d DD hr (pa_cons (pv 0) (pa_cons pe_int pa_nil))))
      (pss_cons (ps_if (pt_cmpR op_eq (pv 2) pe_int (nomark _)) (pss_one (ps_ret (pe_op op_catT (pe_slice sl_tup (pv 1) po_none (po_some pe_int)) (pe_tup (pa_cons (pe_op op_add (pe_ix ix_tup (pv 1) pe_int (fun _ _ => rfl)) pe_int) pa_nil))))) pss_nil)
      (pss_cons (ps_if (pt_cmpR op_eq (pv 2) pe_int (nomark _)) (pss_one (ps_ret (pe_tup (pa_cons (pe_ix ix_tup (pv 1) pe_int (fun _ _ => rfl)) (pa_cons (pe_op op_add (pe_op op_add (pe_ix ix_tup (pv 1) pe_int (fun _ _ => rfl)) pe_int) (pe_d DD hr (pa_cons (pv 0) (pa_cons pe_int pa_nil)))) (pa_cons (pe_d DD hr (pa_cons (pv 0) (pa_cons pe_int pa_nil))) pa_nil)))))) pss_nil)
      (pss_one (ps_ret (pe_ifExp (pt_cmpR op_eq (pv 2) pe_int (nomark _)) (pe_tup (pa_cons (pe_op op_add (pe_op op_add (pe_ix ix_tup (pv 1) pe_int (fun _ _ => rfl)) pe_int) (pe_d DD hr (pa_cons (pv 0) (pa_cons pe_int pa_nil)))) (pa_cons pe_int (pa_cons (pe_d DD hr (pa_cons (pv 0) (pa_cons pe_int pa_nil))) pa_nil))))
        (pe_tup (pa_cons (pe_op op_add (pe_ix ix_tup (pv 1) pe_int (fun _ _ => rfl)) pe_int) (pa_cons pe_int (pa_cons pe_int pa_nil))))))))), ?_⟩
    refine ⟨_, rfl, d, w, c, B, 4, rfl, hS, by omega, by decide, by decide, fun H1 z hz0 hz1 S1 F1 => ?_⟩
    have ha1 := F1.sqT hS ha
    refine ⟨_, rfl, rfl, _, rfl, ite2 (fun e => ?_) (fun e => ?_)⟩
    · -- the next one
      refine ⟨_, rfl, 2, rfl, a, v3 v, rfl, ha1, (by intro z; exact absurd z.2 (by show ¬ (2 = 3); decide)), fun p hp => ?_⟩
      have s1 := same_upd (o := .tup (cutV (v3 v) none (some 2))) hp
      refine ⟨_, rfl, a, v3 v, 2, .int v.2.2, rfl, rfl, Same.sqT s1 ha1, atI_nat (j := 2) rfl, _, 1, rfl, rfl, by show 1 ≤ sizeLine; decide, fun p2 hp2 => ?_⟩
      have s2 := same_upd (o := .tup [.int (v.2.2 + 1)]) hp2
      refine ⟨p, p2, _, _, rfl, rfl, .inl (.inl (s2 _ _ upd_same)), .inl (.inl upd_same), (by intro z; cases z), (by show 3 ≤ sizeLine; decide), (fun z => (nomatch z)), fun _ p3 hp3 => ?_⟩
      have s3 := same_upd (o := .tup (v3 (v.1, v.2.1, v.2.2 + 1))) hp3
      have sA := (s1.trans s2).trans s3
      refine q _ p3 (v.1, v.2.1, v.2.2 + 1) ⟨hv.1, hv.2.1, by have := hv.2.2; show 0 ≤ v.2.2 + 1; omega⟩ (ltC (by omega)) (F1.free hS S1 (s1.free (s2.free hp3))) upd_same ((S1.same sA).mono (by omega)) (F1.trans (.ofSame sA))
    · refine ⟨_, rfl, rfl, _, rfl, ite2 (fun e2 => ?_) (fun e2 => ?_)⟩
      · refine ⟨_, rfl, a, v3 v, 0, .int v.1, rfl, rfl, ha1, atI_nat (j := 0) rfl, ?_⟩
        refine ⟨_, rfl, a, v3 v, 1, .int v.2.1, rfl, rfl, ha1, atI_nat (j := 1) rfl, _, 1, rfl, rfl, ?_⟩
        refine ⟨_, rfl, d, w, c, B + 1, 2, rfl, S1, by omega, by decide, by decide, fun H2 z2 hz2 hz2' S2 F2 => ?_⟩
        refine ⟨_, z2, rfl, rfl, ?_⟩
        refine ⟨_, rfl, d, w, c, B + 1 + 1, 2, rfl, S2, by omega, by decide, by decide, fun H3 z3 hz3 hz3' S3 F3 => ?_⟩
        refine ⟨by show 3 ≤ sizeLine; decide, fun p hp => ?_⟩
        have s1 := same_upd (o := .tup (v3 (v.1, v.2.1 + 1 + z2, z3))) hp
        have FA := F1.trans (F2.trans F3)
        refine q _ p (v.1, v.2.1 + 1 + z2, z3) ⟨hv.1, by have := hv.2.1; show 0 ≤ v.2.1 + 1 + z2; omega, hz3⟩ (ltB (by omega)) (FA.free hS S3 hp) upd_same ((S3.same s1).mono (by omega)) (FA.trans (.ofSame s1))
      · refine ⟨_, rfl, rfl, _, rfl, ite2 (fun e3 => ?_) (fun e3 => ?_)⟩
        · refine ⟨_, rfl, a, v3 v, 0, .int v.1, rfl, rfl, ha1, atI_nat (j := 0) rfl, _, 1, rfl, rfl, ?_⟩
          refine ⟨_, rfl, d, w, c, B + 1, 2, rfl, S1, by omega, by decide, by decide, fun H2 z2 hz2 hz2' S2 F2 => ?_⟩
          refine ⟨_, z2, rfl, rfl, ?_⟩
          refine ⟨_, rfl, d, w, c, B + 1 + 1, 2, rfl, S2, by omega, by decide, by decide, fun H3 z3 hz3 hz3' S3 F3 => ?_⟩
          refine ⟨by show 3 ≤ sizeLine; decide, fun p hp => ?_⟩
          have s1 := same_upd (o := .tup (v3 (v.1 + 1 + z2, 0, z3))) hp
          have FA := F1.trans (F2.trans F3)
          refine q _ p (v.1 + 1 + z2, 0, z3) ⟨by have := hv.1; show 0 ≤ v.1 + 1 + z2; omega, Int.le_refl _, hz3⟩ (ltA (by omega)) (FA.free hS S3 hp) upd_same ((S3.same s1).mono (by omega)) (FA.trans (.ofSame s1))
        · refine ⟨_, rfl, a, v3 v, 0, .int v.1, rfl, rfl, ha1, atI_nat (j := 0) rfl, _, 1, rfl, rfl, ?_⟩
          refine ⟨by show 3 ≤ sizeLine; decide, fun p hp => ?_⟩
          have s1 := same_upd (o := .tup (v3 (v.1 + 1, 0, 0))) hp
          refine q _ p (v.1 + 1, 0, 0) ⟨by have := hv.1; show 0 ≤ v.1 + 1; omega, Int.le_refl _, Int.le_refl _⟩ (ltA (by omega)) (F1.free hS S1 hp) upd_same ((S1.same s1).mono (by omega)) (F1.trans (.ofSame s1))
end
end Kw
set_option maxHeartbeats 4000000
namespace Kw
open PySem PySem.Spec PyProof.Rows L2
/-! ### stretches -/
abbrev Str2 := Ver × Option Ver
def IsEnd (K : PySem.W.Frag) (H : Hp) (x : V) : Option Ver → Prop
  | none => x = .non
  | some u => IsVer K H x u
def IsStr (K : PySem.W.Frag) (H : Hp) (x : V) (s : Str2) : Prop := ∃ p l h, x = .ref p ∧ SqT K H p [l, h] ∧ IsVer K H l s.1 ∧ IsEnd K H h s.2
def okS (s : Str2) : Prop := okV s.1 ∧ ∀ u, s.2 = some u → okV u ∧ ltV s.1 u
theorem IsEnd.same {K : PySem.W.Frag} {H H' : Hp} {x : V} {e : Option Ver} (h : IsEnd K H x e) (s : Same H H') : IsEnd K H' x e := by
  cases e with
  | none => exact h
  | some u => exact IsVer.same h s
theorem IsEnd.fr {K : PySem.W.Frag} {H H' : Hp} {x : V} {e : Option Ver} {d w c : Addr} {B : Int} (h : IsEnd K H x e) (S : StAt H d w c B) (F : Fr2 d w H H') : IsEnd K H' x e := by
  cases e with
  | none => exact h
  | some u => exact IsVer.fr h S F
theorem IsStr.same {K : PySem.W.Frag} {H H' : Hp} {x : V} {s : Str2} (h : IsStr K H x s) (e : Same H H') : IsStr K H' x s := by
  obtain ⟨p, l, hh, rfl, h1, h2, h3⟩ := h
  exact ⟨p, l, hh, rfl, Same.sqT e h1, h2.same e, h3.same e⟩
theorem IsStr.fr {K : PySem.W.Frag} {H H' : Hp} {x : V} {s : Str2} {d w c : Addr} {B : Int} (h : IsStr K H x s) (S : StAt H d w c B) (F : Fr2 d w H H') : IsStr K H' x s := by
  obtain ⟨p, l, hh, rfl, h1, h2, h3⟩ := h
  exact ⟨p, l, hh, rfl, F.sqT S h1, h2.fr S F, h3.fr S F⟩
/-- all are versions from 0 on -/
def Vers (K : PySem.W.Frag) (H : Hp) (xs : List V) : Prop := ∀ x ∈ xs, ∃ v, IsVer K H x v ∧ okV v
theorem Vers.same {K : PySem.W.Frag} {H H' : Hp} {xs : List V} (h : Vers K H xs) (s : Same H H') : Vers K H' xs := fun x hx => let ⟨v, a, b⟩ := h x hx; ⟨v, a.same s, b⟩
theorem Vers.fr {K : PySem.W.Frag} {H H' : Hp} {xs : List V} {d w c : Addr} {B : Int} (h : Vers K H xs) (S : StAt H d w c B) (F : Fr2 d w H H') : Vers K H' xs := fun x hx => let ⟨v, a, b⟩ := h x hx; ⟨v, a.fr S F, b⟩
/-- a stretch -/
def spStretch (K : PySem.W.Frag) : Sp := fun vs H Q _ => ∃ (d w c : Addr) (B : Int) (al : Addr) (xs : List V), vs = [.ref d, .ref al] ∧ StAt H d w c B ∧ B + 12 ≤ 1000000000000 ∧ H al = some (.lst xs) ∧ al ≠ w ∧ xs.length ≤ 10 ∧ Vers K H xs ∧
  ∀ H' p s, okS s → H p = none → IsStr K H' (.ref p) s → StAt H' d w c (B + 12) → Fr2 d w H H' → Q (.ref p) H'
section
variable {P : Program} {w : World} {K : PySem.W.Frag} {mg : Str → Option Value} {base : Heap}
theorem scStretch : FnScope ["_law_state", "_law_some", "_law_low", "_law_way", "_law_high"] ["_law_state", "_law_some"] (defScope sStretch) := ⟨rfl, rfl, rfl, by decide +kernel, rfl, by decide +kernel, by decide +kernel⟩
theorem ok_stretch {f : Addr} {fd : FuncData} {k : Nat} (F : Fun K "_law_stretch" "_law_stretch" sStretch f fd) (DP : Def P w K mg base "_law_pick" CX0 k ["_law_state", "_law_some"] spPick) (DV : Def P w K mg base "_law_version" CX0 k ["_law_state"] (spVersion K))
    (DD : Def P w K mg base "_law_draw" CX0 k ["_law_state", "_law_size"] spDraw) (DL : Def P w K mg base "_law_later" CX0 k ["_law_state", "_law_version_here"] (spLater K)) : FnOk P w K mg base CX0 (k + 1) f fd ["_law_state", "_law_some"] (spStretch K) := by
  refine F.ok scStretch (fun vs H Q E h => ?_) (fun cdv A outer s H vs Q E hr h => ?_)
  · obtain ⟨d, w, c, B, a, xs, rfl, _⟩ := h
    rfl
  · obtain ⟨d, w, c, B, al, xs, rfl, hS, hB, hal, naw, hlen, hxs, q⟩ := h
    refine ⟨_, pss_cons (ps_set (i := 2) scStretch.nd rfl (.inl rfl) (pe_d DP hr (pa_cons (pv 0) (pa_cons (pe_op op_cat (pv 1) (pe_lst (pa_cons (pe_tup (pa_cons pe_int (pa_cons pe_int (pa_cons pe_int pa_nil)))) (pa_cons (pe_d DV hr (pa_cons (pv 0) pa_nil)) pa_nil)))) pa_nil))))
      (pss_cons (ps_set (i := 3) scStretch.nd rfl (.inl rfl) (pe_d DD hr (pa_cons (pv 0) (pa_cons pe_int pa_nil))))
      (pss_cons (ps_if (pt_cmpR op_eq (pv 3) pe_int (nomark _)) (pss_one (ps_ret (pe_tup (pa_cons (pv 2) (pa_cons pe_non pa_nil))))) pss_nil)
      (pss_cons (ps_if (pt_cmpR op_eq (pv 3) pe_int (nomark _)) (pss_one (ps_ret (pe_tup (pa_cons (pv 2) (pa_cons (pe_op op_catT (pe_slice sl_tup (pv 2) po_none (po_some pe_int)) (pe_tup (pa_cons (pe_op op_add (pe_ix ix_tup (pv 2) pe_int (fun _ _ => rfl)) pe_int) pa_nil))) pa_nil))))) pss_nil)
      (pss_cons (ps_set (i := 4) scStretch.nd rfl (.inl rfl) (pe_d DP hr (pa_cons (pv 0) (pa_cons (pe_op op_cat (pv 1) (pe_lst (pa_cons (pe_d DL hr (pa_cons (pv 0) (pa_cons (pv 2) pa_nil))) pa_nil))) pa_nil))))
      (pss_one (ps_ret (pe_ifExp (pt_cmpR (op_ver (op := .Gt) (.inr (.inr (.inl rfl))) hr.units0) (pv 4) (pv 2) (nomark _)) (pe_tup (pa_cons (pv 2) (pa_cons (pv 4) pa_nil))) (pe_tup (pa_cons (pv 2) (pa_cons (pe_d DL hr (pa_cons (pv 0) (pa_cons (pv 2) pa_nil))) pa_nil)))))))))), ?_⟩
    -- low
    refine ⟨_, rfl, _, rfl, by show 3 ≤ sizeLine; decide, fun t0 ht0 => ?_⟩
    have e0 := same_upd (o := .tup (v3 (0, 0, 0))) ht0
    refine ⟨_, rfl, d, w, c, B, rfl, hS.same e0, by omega, fun H1 t1 v1 ok1 _ _ _ n1 g1 S1 F1 => ?_⟩
    refine ⟨by show 2 ≤ sizeLine; decide, fun l1 hl1 => ?_⟩
    have e1 := same_upd (o := .lst [.ref t0, .ref t1]) hl1
    have S0 := hS.same e0
    have a1 : upd H1 l1 (.lst [.ref t0, .ref t1]) al = some (.lst xs) := e1 _ _ (F1.lst S0 (e0 _ _ hal) naw)
    refine ⟨al, l1, xs, _, rfl, rfl, a1, upd_same, (by show xs.length + 2 ≤ sizeLine; exact Nat.le_of_lt (small1000 (by omega))), fun l2 hl2 => ?_⟩
    have e2 := same_upd (o := .lst (xs ++ [.ref t0, .ref t1])) hl2
    have S1' := (S1.same e1).same e2
    have F01 : Fr2 d w H (upd (upd H1 l1 (.lst [.ref t0, .ref t1])) l2 (.lst (xs ++ [.ref t0, .ref t1]))) := (Fr2.ofSame e0).trans (F1.trans (.ofSame (e1.trans e2)))
    have vA : Vers K (upd (upd H1 l1 (.lst [.ref t0, .ref t1])) l2 (.lst (xs ++ [.ref t0, .ref t1]))) (xs ++ [.ref t0, .ref t1]) := fun x hx => by
      rcases List.mem_append.mp hx with hx | hx
      · exact (hxs.fr hS F01) x hx
      · simp at hx
        rcases hx with rfl | rfl
        · exact ⟨(0, 0, 0), (IsVer.of (e2 _ _ (e1 _ _ (F1.tup S0 upd_same)))), by decide, by decide, by decide⟩
        · exact ⟨v1, IsVer.of (e2 _ _ (e1 _ _ g1)), ok1⟩
    refine ⟨d, w, c, B + 3, l2, xs ++ [.ref t0, .ref t1], rfl, S1', by omega, upd_same, ((S1.same e1).ne hl2).2.1.symm, by simp, by simp; omega, fun H2 i x hx S2 F2 => ?_⟩
    obtain ⟨lo, hlo, oklo⟩ := (vA.fr S1' F2) x (List.mem_of_getElem? hx)
    have F02 := F01.trans F2
    -- way
    refine ⟨_, rfl, d, w, c, B + 3 + 1, 4, rfl, S2, by omega, by decide, by decide, fun H3 z hz0 hz1 S3 F3 => ?_⟩
    have hlo3 := hlo.fr S2 F3
    have F03 := F02.trans F3
    refine ⟨_, rfl, rfl, _, rfl, ite2 (fun e => ?_) (fun e => ?_)⟩
    · refine ⟨_, rfl, by show 2 ≤ sizeLine; decide, fun p hp => ?_⟩
      have s1 := same_upd (o := .tup [x, .non]) hp
      exact q _ p (lo, none) ⟨oklo, fun u hu => by cases hu⟩ (F03.free hS S3 hp) ⟨p, x, .non, rfl, .inl (.inl upd_same), hlo3.same s1, rfl⟩ ((S3.same s1).mono (by omega)) (F03.trans (.ofSame s1))
    · refine ⟨_, rfl, rfl, _, rfl, ite2 (fun e2 => ?_) (fun e2 => ?_)⟩
      · obtain ⟨a, rfl, ha⟩ := hlo3
        refine ⟨_, rfl, _, rfl, 2, rfl, a, v3 lo, rfl, ha, (by intro z; exact absurd z.2 (by show ¬ (2 = 3); decide)), fun p hp => ?_⟩
        have s1 := same_upd (o := .tup (cutV (v3 lo) none (some 2))) hp
        refine ⟨_, rfl, a, v3 lo, 2, .int lo.2.2, rfl, rfl, Same.sqT s1 ha, atI_nat (j := 2) rfl, _, 1, rfl, rfl, by show 1 ≤ sizeLine; decide, fun p2 hp2 => ?_⟩
        have s2 := same_upd (o := .tup [.int (lo.2.2 + 1)]) hp2
        refine ⟨p, p2, _, _, rfl, rfl, .inl (.inl (s2 _ _ upd_same)), .inl (.inl upd_same), (by intro z; cases z), (by show 3 ≤ sizeLine; decide), (fun z => (nomatch z)), fun _ p3 hp3 => ?_⟩
        have s3 := same_upd (o := .tup (v3 (lo.1, lo.2.1, lo.2.2 + 1))) hp3
        refine ⟨by show 2 ≤ sizeLine; decide, fun p4 hp4 => ?_⟩
        have s4 := same_upd (o := .tup [.ref a, .ref p3]) hp4
        have sA := ((s1.trans s2).trans s3).trans s4
        refine q _ p4 (lo, some (lo.1, lo.2.1, lo.2.2 + 1)) ⟨oklo, fun u hu => ?_⟩ (F03.free hS S3 (s1.free (s2.free (s3.free hp4)))) ⟨p4, .ref a, .ref p3, rfl, .inl (.inl upd_same), ⟨a, rfl, Same.sqT sA ha⟩, IsVer.of (s4 _ _ upd_same)⟩ ((S3.same sA).mono (by omega)) (F03.trans (.ofSame sA))
        obtain rfl := Option.some.inj hu
        exact ⟨⟨oklo.1, oklo.2.1, by have := oklo.2.2; show 0 ≤ lo.2.2 + 1; omega⟩, ltC (show lo.2.2 < lo.2.2 + 1 by omega)⟩
      · -- high
        refine ⟨_, rfl, _, rfl, _, rfl, _, rfl, d, w, c, B + 3 + 1 + 1, x, lo, rfl, S3, by omega, hlo3, oklo, fun H4 t4 u4 ok4 lt4 n4 g4 S4 F4 => ?_⟩
        refine ⟨by show 1 ≤ sizeLine; decide, fun l3 hl3 => ?_⟩
        have e3 := same_upd (o := .lst [.ref t4]) hl3
        have F04 := F03.trans F4
        have a4 : upd H4 l3 (.lst [.ref t4]) al = some (.lst xs) := e3 _ _ (F04.lst hS hal naw)
        refine ⟨al, l3, xs, _, rfl, rfl, a4, upd_same, (by show xs.length + 1 ≤ sizeLine; exact Nat.le_of_lt (small1000 (by omega))), fun l4 hl4 => ?_⟩
        have e4 := same_upd (o := .lst (xs ++ [.ref t4])) hl4
        have S4' := (S4.same e3).same e4
        have F4' : Fr2 d w H (upd (upd H4 l3 (.lst [.ref t4])) l4 (.lst (xs ++ [.ref t4]))) := F04.trans (.ofSame (e3.trans e4))
        have vB : Vers K (upd (upd H4 l3 (.lst [.ref t4])) l4 (.lst (xs ++ [.ref t4]))) (xs ++ [.ref t4]) := fun x hx => by
          rcases List.mem_append.mp hx with hx | hx
          · exact (hxs.fr hS F4') x hx
          · rw [List.mem_singleton.mp hx]
            exact ⟨u4, IsVer.of (e4 _ _ (e3 _ _ g4)), ok4⟩
        refine ⟨d, w, c, B + 3 + 1 + 1 + 3, l4, xs ++ [.ref t4], rfl, S4', by omega, upd_same, ((S4.same e3).ne hl4).2.1.symm, by simp, by simp; omega, fun H5 j y hy S5 F5 => ?_⟩
        obtain ⟨hi, hhi, okhi⟩ := (vB.fr S4' F5) y (List.mem_of_getElem? hy)
        have F05 := F4'.trans F5
        have hlo5 : IsVer K H5 x lo := ((hlo3.fr S3 F4).same (e3.trans e4)).fr S4' F5
        refine ⟨_, rfl, _, rfl, hi, lo, hhi, hlo5, _, rfl, ite2 (fun e5 => ?_) (fun e5 => ?_)⟩
        · refine ⟨_, rfl, _, rfl, by show 2 ≤ sizeLine; decide, fun p hp => ?_⟩
          have s1 := same_upd (o := .tup [x, y]) hp
          refine q _ p (lo, some hi) ⟨oklo, fun u hu => ?_⟩ (F05.free hS S5 hp) ⟨p, x, y, rfl, .inl (.inl upd_same), hlo5.same s1, hhi.same s1⟩ ((S5.same s1).mono (by omega)) (F05.trans (.ofSame s1))
          obtain rfl := Option.some.inj hu
          exact ⟨okhi, of_decide_eq_true e5⟩
        · refine ⟨_, rfl, _, rfl, _, rfl, d, w, c, B + 3 + 1 + 1 + 3 + 1, x, lo, rfl, S5, by omega, hlo5, oklo, fun H6 t6 u6 ok6 lt6 n6 g6 S6 F6 => ?_⟩
          refine ⟨by show 2 ≤ sizeLine; decide, fun p hp => ?_⟩
          have s1 := same_upd (o := .tup [x, .ref t6]) hp
          have F06 := F05.trans F6
          refine q _ p (lo, some u6) ⟨oklo, fun u hu => ?_⟩ (F06.free hS S6 hp) ⟨p, x, .ref t6, rfl, .inl (.inl upd_same), (hlo5.fr S5 F6).same s1, IsVer.of (s1 _ _ g6)⟩ ((S6.same s1).mono (by omega)) (F06.trans (.ofSame s1))
          obtain rfl := Option.some.inj hu
          exact ⟨ok6, lt6⟩
end
end Kw
set_option maxHeartbeats 4000000
namespace Kw
open PySem PySem.Spec PyProof.Rows L2
abbrev sHas : Stmt := top 37
abbrev sWideV : Stmt := top 43
abbrev sSomeS : Stmt := top 44
/-- the stretch has the version -/
def hasS (s : Str2) (v : Ver) : Bool := decide (leV s.1 v) && (match s.2 with | none => true | some u => decide (ltV v u))
/-- xs are the stretches ss -/
structure Strs (K : PySem.W.Frag) (H : Hp) (xs : List V) (ss : List Str2) : Prop where
  len : xs.length = ss.length
  at_ : ∀ (i : Nat) (x : V) (s : Str2), xs[i]? = some x → ss[i]? = some s → IsStr K H x s
theorem Strs.same {K : PySem.W.Frag} {H H' : Hp} {xs : List V} {ss : List Str2} (h : Strs K H xs ss) (e : Same H H') : Strs K H' xs ss := ⟨h.len, fun i x s a b => (h.at_ i x s a b).same e⟩
theorem Strs.fr {K : PySem.W.Frag} {H H' : Hp} {xs : List V} {ss : List Str2} {d w c : Addr} {B : Int} (h : Strs K H xs ss) (S : StAt H d w c B) (F : Fr2 d w H H') : Strs K H' xs ss := ⟨h.len, fun i x s a b => (h.at_ i x s a b).fr S F⟩
theorem Strs.snoc {K : PySem.W.Frag} {H : Hp} {xs : List V} {ss : List Str2} {x : V} {s : Str2} (h : Strs K H xs ss) (q : IsStr K H x s) : Strs K H (xs ++ [x]) (ss ++ [s]) := by
  refine ⟨by simp [h.len], fun i y t a b => ?_⟩
  by_cases hi : i < xs.length
  · rw [List.getElem?_append_left hi] at a
    rw [List.getElem?_append_left (by rw [← h.len]; exact hi)] at b
    exact h.at_ i y t a b
  · rw [List.getElem?_append_right (by omega)] at a
    rw [List.getElem?_append_right (by rw [← h.len]; omega), ← h.len] at b
    have h0 : i - xs.length = 0 := by
      have := (List.getElem?_eq_some_iff.mp a).1
      simp at this
      omega
    rw [h0] at a b
    obtain rfl := Option.some.inj a
    obtain rfl := Option.some.inj b
    exact q
theorem Strs.get {K : PySem.W.Frag} {H : Hp} {xs : List V} {ss : List Str2} {i : Nat} {x : V} (h : Strs K H xs ss) (a : xs[i]? = some x) : ∃ s, ss[i]? = some s ∧ IsStr K H x s := by
  have hi := (List.getElem?_eq_some_iff.mp a).1
  have hi2 : i < ss.length := by rw [← h.len]; exact hi
  exact ⟨ss[i], List.getElem?_eq_getElem hi2, h.at_ i x _ a (List.getElem?_eq_getElem hi2)⟩
theorem take_snoc {α : Type} {l : List α} {i : Nat} {x : α} (h : l[i]? = some x) : l.take (i + 1) = l.take i ++ [x] := by
  rw [List.take_add_one, h]
  rfl
/-- low <= v and (high is None or v < high), of a low and a high in hand -/
def tIn (K : PySem.W.Frag) (l h v : Nat) : TT := tAnd (tTest (tOp (rVer K .LtE) (tVar l) (tVar v))) (tOr (tTest (tOp (fun x y H Q => y = .non ∧ Q (.bl (decide (x = .non))) H) (tVar h) (tC .non))) (tTest (tOp (rVer K .Lt) (tVar v) (tVar h))))
theorem isEnd_non {K : PySem.W.Frag} {H : Hp} {x : V} {e : Option Ver} (h : IsEnd K H x e) : decide (x = .non) = e.isNone := by
  cases e with
  | none =>
    have e1 : x = .non := h
    rw [e1]
    rfl
  | some u =>
    obtain ⟨a, rfl, _⟩ := h
    rfl
theorem in_read {K : PySem.W.Frag} {H : Hp} {σ : L2.St} {l h v : Nat} {x y z : V} {s : Str2} {u : Ver} {Q : Bool → Hp → Prop} (hl : σ[l]? = some (some x)) (hh : σ[h]? = some (some y)) (hv : σ[v]? = some (some z)) (q1 : IsVer K H x s.1) (q2 : IsEnd K H y s.2) (q3 : IsVer K H z u)
    (q : Q (hasS s u) H) : tIn K l h v σ H Q := by
  refine ⟨x, hl, z, hv, s.1, u, q1, q3, _, rfl, ?_⟩
  unfold hasS at q
  refine ite2 (fun e => ?_) (fun e => ?_)
  · have e' : leV s.1 u := of_decide_eq_true e
    rw [decide_eq_true e', Bool.true_and] at q
    refine ⟨y, hh, rfl, _, rfl, ?_⟩
    rw [isEnd_non q2]
    obtain ⟨s1, s2⟩ := s
    cases s2 with
    | none => exact iteT q
    | some t => exact iteF ⟨z, hv, y, hh, u, t, q3, q2, _, rfl, q⟩
  · have e' : ¬ leV s.1 u := fun c => e (decide_eq_true c)
    rw [decide_eq_false e', Bool.false_and] at q
    exact q
def spHas (K : PySem.W.Frag) : Sp := fun vs H Q _ => ∃ (a : Addr) (xs : List V) (ss : List Str2) (x : V) (v : Ver), vs = [.ref a, x] ∧ SqL K H a xs ∧ Strs K H xs ss ∧ ss.length ≤ 100 ∧ IsVer K H x v ∧
  ∀ H', Same H H' → Q (.bl (ss.any fun s => hasS s v)) H'
section
variable {P : Program} {w : World} {K : PySem.W.Frag} {mg : Str → Option Value} {base : Heap}
theorem scHas : FnScope ["_law_stretches", "_law_version_here", "_law_low", "_law_high"] ["_law_stretches", "_law_version_here"] (defScope sHas) := ⟨rfl, rfl, rfl, by decide +kernel, rfl, by decide +kernel, by decide +kernel⟩
theorem ones_ne (n : Nat) : (!PyData.eqv (.list ((List.replicate n (1 : Int)).map PyData.int)) (.list [])) = decide (n ≠ 0) := by
  rw [eqv_nil]
  cases n <;> rfl
theorem ok_has {f : Addr} {fd : FuncData} {k : Nat} (F : Fun K "_law_has" "_law_has" sHas f fd) : FnOk P w K mg base CX0 (k + 1) f fd ["_law_stretches", "_law_version_here"] (spHas K) := by
  refine F.ok scHas (fun vs H Q E h => ?_) (fun cdv A outer s H vs Q E hr h => ?_)
  · obtain ⟨a, xs, ss, x, v, rfl, _⟩ := h
    rfl
  · obtain ⟨a, xs, ss, x, v, rfl, hS, hss, hlen, hx, q⟩ := h
    refine ⟨_, pss_one (ps_ret (pe_cmpR (op_neD hr.units) (pe_lc (own := [("_law_low", 2), ("_law_high", 3)]) (g := gTup K 2 (gCons (gName 2) (gCons (gName 3) gNil))) (tt := tIn K 2 3 1) rfl scHas.nd (pi_list (pv 0)) (blkOk_by (N := ["_law_stretches", "_law_version_here", "_law_low", "_law_high"]) (sc := defScope sHas) (by decide +kernel))
      (fun _ _ _ _ _ => pg_tup rfl (pgs_cons (pg_name (i := 2) scHas.nd rfl (.inl rfl)) (pgs_cons (pg_name (i := 3) scHas.nd rfl (.inl rfl)) pgs_nil)))
      (fun _ _ _ _ _ => pts_one (PW.pt (pw_and (pt_cmpR (op_ver (op := .LtE) (.inr (.inl rfl)) hr.units0) (pv 2) (pv 1) (nomark _)) (pw_and1 (PW.pt (pw_or (pt_cmpR op_isN (pv 3) pe_non (nomark _)) (pw_or1 (pt_cmpR (op_ver (op := .Lt) (.inl rfl) hr.units0) (pv 1) (pv 3) (nomark _)))))))))
      (fun _ _ _ _ _ => pe_int)) (pe_lst pa_nil) (nomark _))), ?_⟩
    refine ⟨_, rfl, a, rfl, ⟨_, hS⟩, fun D hD => ?_⟩
    refine lc_list (K := K) (a := a) (xs := xs) (fun i H' => Same H H' ∧ ∃ n : Nat, H' D = some (.lst ((List.replicate n (1 : Int)).map V.int)) ∧ decide (n ≠ 0) = ((ss.take i).any fun s => hasS s v) ∧ n ≤ i)
      ⟨same_upd hD, 0, upd_same, rfl, Nat.le_refl _⟩ (fun i H' _ R => R.1.seq hS) ?_ ?_
    · rintro i y H' hi ⟨s1, n, h1, h2, h3⟩
      obtain ⟨st, hst, ist⟩ := (hss.same s1).get hi
      obtain ⟨p, l, hh, rfl, g1, g2, g3⟩ := ist
      have hil := (List.getElem?_eq_some_iff.mp hst).1
      refine ⟨p, [l, hh], rfl, g1, rfl, l, [hh], rfl, hh, [], rfl, rfl, rfl, ?_⟩
      refine in_read (s := st) (u := v) rfl rfl rfl g2 g3 (hx.same s1) ?_
      have ta : ((ss.take (i + 1)).any fun s => hasS s v) = (((ss.take i).any fun s => hasS s v) || hasS st v) := by
        rw [take_snoc hst, List.any_append]
        simp
      refine ite2 (fun e => ?_) (fun e => ?_)
      · refine ⟨_, h1, by rw [List.length_map, List.length_replicate]; exact small1000 (by omega), ?_⟩
        refine ⟨fun b o z => by rw [upd_ne (ne_of_none z hD)]; exact s1 _ _ z, n + 1, ?_, ?_, by omega⟩
        · rw [upd_same, List.replicate_succ', List.map_append]
          rfl
        · rw [ta, e]
          simp
      · refine ⟨s1, n, h1, ?_, by omega⟩
        rw [ta, h2]
        simp at e
        simp [e]
    · rintro H' ⟨s1, n, h1, h2, h3⟩
      refine ⟨Nat.zero_le _, fun l hl => ?_⟩
      have s2 := same_upd (o := .lst []) hl
      refine ⟨_, _, .lst (SqL.of (s2 _ _ h1)) (dp_ints _), .lst (SqL.of upd_same) .nil, shaped_ints _, shaped_nil, ?_⟩
      rw [ones_ne, h2, List.take_of_length_le (by rw [hss.len]; exact Nat.le_refl _)]
      exact q _ (s1.trans s2)
end
end Kw
set_option maxHeartbeats 4000000
namespace Kw
open PySem PySem.Spec PyProof.Rows L2
def spWideV (K : PySem.W.Frag) : Sp := fun vs H Q _ => ∃ (d w c : Addr) (B : Int), vs = [.ref d] ∧ StAt H d w c B ∧ B + 4 ≤ 1000000000000 ∧
  ∀ H' p v, okV v → H p = none → H' p = some (.tup (v3 v)) → StAt H' d w c (B + 4) → Fr2 d w H H' → Q (.ref p) H'
def spSomeS (K : PySem.W.Frag) : Sp := fun vs H Q _ => ∃ (d w c : Addr) (B m : Int), vs = [.ref d, .int m] ∧ StAt H d w c B ∧ B + 200 ≤ 1000000000000 ∧ 0 ≤ m ∧ m ≤ 10 ∧
  ∀ H' p xs ss, H p = none → H' p = some (.lst xs) → Strs K H' xs ss → (∀ s ∈ ss, okS s) → ss.length ≤ m.toNat → StAt H' d w c (B + 200) → Fr2 d w H H' → Q (.ref p) H'
section
variable {P : Program} {w : World} {K : PySem.W.Frag} {mg : Str → Option Value} {base : Heap}
theorem scWideV : FnScope ["_law_state", "_law_spot"] ["_law_state"] (defScope sWideV) := ⟨rfl, rfl, rfl, by decide +kernel, rfl, by decide +kernel, by decide +kernel⟩
theorem scSomeS : FnScope ["_law_state", "_law_most", "_law_some", "_law_turn"] ["_law_state", "_law_most"] (defScope sSomeS) := ⟨rfl, rfl, rfl, by decide +kernel, rfl, by decide +kernel, by decide +kernel⟩
theorem ok_wideV {f : Addr} {fd : FuncData} {k : Nat} (F : Fun K "_law_wide_version" "_law_wide_version" sWideV f fd) (mt : mg "tuple" = none) (mr : mg "range" = none) (DP : Def P w K mg base "_law_pick" CX0 k ["_law_state", "_law_some"] spPick)
    (DD : Def P w K mg base "_law_draw" CX0 k ["_law_state", "_law_size"] spDraw) (DV : Def P w K mg base "_law_version" CX0 k ["_law_state"] (spVersion K)) : FnOk P w K mg base CX0 (k + 1) f fd ["_law_state"] (spWideV K) := by
  refine F.ok scWideV (fun vs H Q E h => ?_) (fun cdv A outer s H vs Q E hr h => ?_)
  · obtain ⟨d, w, c, B, rfl, _⟩ := h
    rfl
  · obtain ⟨d, w, c, B, rfl, hS, hB, q⟩ := h
    refine ⟨_, pss_cons (ps_if (pt_cmpR op_gt (pe_d DD hr (pa_cons (pv 0) (pa_cons pe_int pa_nil))) pe_int (nomark _)) (pss_one (ps_ret (pe_d DV hr (pa_cons (pv 0) pa_nil)))) pss_nil)
      (pss_one (ps_ret (pe_callTy call_tuple_of (by rfl) mt (by decide +kernel) (pa_cons (pe_lc (own := [("_law_spot", 1)]) (g := gName 1) (tt := tYes) rfl scWideV.nd (pi_range1 rfl mr (pa_cons pe_int pa_nil)) (blkOk_by (N := ["_law_state", "_law_spot"]) (sc := defScope sWideV) (by decide +kernel))
      (fun _ _ _ _ _ => pg_name (i := 1) scWideV.nd rfl (Or.inl rfl)) (fun _ _ _ _ _ => pts_nil) (fun _ _ _ _ _ => pe_d DP hr (pa_cons (pv 0) (pa_cons (pe_lst (pa_cons pe_int (pa_cons pe_int (pa_cons pe_int (pa_cons pe_int (pa_cons pe_int (pa_cons pe_int (pa_cons pe_int pa_nil)))))))) pa_nil)))) pa_nil)))), ?_⟩
    refine ⟨_, rfl, d, w, c, B, 3, rfl, hS, by omega, by decide, by decide, fun H0 z0 hz0 hz1 S0 F0 => ?_⟩
    refine ⟨_, _, rfl, rfl, _, rfl, ite2 (fun e => ?_) (fun e => ?_)⟩
    · refine ⟨_, rfl, d, w, c, B + 1, rfl, S0, by omega, fun H1 p v okv _ _ _ np hp S1 F1 => ?_⟩
      exact q _ p v okv (F0.free hS S0 np) hp (S1.mono (by omega)) (F0.trans F1)
    · obtain ⟨ys, hw⟩ := S0.hw
      refine ⟨3, rfl, by decide, by decide, fun D hD => ?_⟩
      have nDw : D ≠ w := (ne_of_none hw hD).symm
      refine lc_range (lo := 0) (n := 3) (fun i H' => Fr2 d w H0 H' ∧ StAt H' d w c (B + 1 + i) ∧ ∃ ns : List Int, H' D = some (.lst (ns.map V.int)) ∧ ns.length = i ∧ ∀ x ∈ ns, 0 ≤ x)
        ⟨.new hD, (S0.same (same_upd hD)).mono (by simp), [], upd_same, rfl, fun x h => (nomatch h)⟩ ?_ ?_
      · rintro i H1 hi ⟨F1, S1, ns, h1, h2, h3⟩
        refine ⟨rfl, yesI ?_⟩
        refine ⟨_, rfl, by show 7 ≤ sizeLine; decide, fun l hl => ?_⟩
        have sl := same_upd (o := .lst ([0, 1, 2, 999, 1000, 65536, 999999990].map V.int)) hl
        obtain ⟨ys1, hw1⟩ := S1.hw
        refine ⟨d, w, c, B + 1 + i, l, [0, 1, 2, 999, 1000, 65536, 999999990].map V.int, rfl, S1.same sl, by omega, upd_same, (ne_of_none hw1 hl).symm, by decide, by decide, fun H2 j v hv S2 F2 => ?_⟩
        obtain ⟨z, hz, rfl⟩ : ∃ z : Int, 0 ≤ z ∧ v = .int z := by
          have hm := List.mem_of_getElem? hv
          simp at hm
          rcases hm with rfl | rfl | rfl | rfl | rfl | rfl | rfl <;> exact ⟨_, by decide, rfl⟩
        have hD2 := F2.lst (S1.same sl) (sl _ _ h1) nDw
        refine ⟨_, hD2, by rw [List.length_map]; exact small1000 (by omega), ?_⟩
        refine ⟨(F1.trans ((Fr2.ofSame sl).trans F2)).put hD, (S0.put hD S2).mono (by omega), ns ++ [z], by rw [upd_same, List.map_append]; rfl, by rw [List.length_append, h2]; rfl, fun x hx => ?_⟩
        rcases List.mem_append.mp hx with hx | hx
        · exact h3 x hx
        · rw [List.mem_singleton.mp hx]; exact hz
      · rintro H1 ⟨F1, S1, ns, h1, h2, h3⟩
        obtain ⟨x, y, z, rfl⟩ : ∃ x y z, ns = [x, y, z] := by
          match ns, h2 with
          | [x, y, z], _ => exact ⟨x, y, z, rfl⟩
        refine ⟨_, _, rfl, .inl ⟨SqL.of h1, fun l hl => ?_⟩⟩
        have sl := same_upd (o := .tup (v3 (x, y, z))) hl
        exact q _ l (x, y, z) ⟨h3 x (by simp), h3 y (by simp), h3 z (by simp)⟩ ((F0.trans F1).free hS S1 hl) upd_same ((S1.same sl).mono (by omega)) ((F0.trans F1).trans (.ofSame sl))
theorem ok_someS {f : Addr} {fd : FuncData} {k : Nat} (F : Fun K "_law_some_stretches" "_law_some_stretches" sSomeS f fd) (mr : mg "range" = none) (DW : Def P w K mg base "_law_wide_version" CX0 k ["_law_state"] (spWideV K))
    (DD : Def P w K mg base "_law_draw" CX0 k ["_law_state", "_law_size"] spDraw) (DS : Def P w K mg base "_law_stretch" CX0 k ["_law_state", "_law_some"] (spStretch K)) : FnOk P w K mg base CX0 (k + 1) f fd ["_law_state", "_law_most"] (spSomeS K) := by
  refine F.ok scSomeS (fun vs H Q E h => ?_) (fun cdv A outer s H vs Q E hr h => ?_)
  · obtain ⟨d, w, c, B, m, rfl, _⟩ := h
    rfl
  · obtain ⟨d, w, c, B, m, rfl, hS, hB, hm0, hm1, q⟩ := h
    refine ⟨_, pss_cons (ps_set (i := 2) scSomeS.nd rfl (.inr rfl) (pe_lc (own := [("_law_turn", 3)]) (g := gName 3) (tt := tYes) rfl scSomeS.nd (pi_range1 rfl mr (pa_cons pe_int pa_nil)) (blkOk_by (N := ["_law_state", "_law_most", "_law_some", "_law_turn"]) (sc := defScope sSomeS) (by decide +kernel))
        (fun _ _ _ _ _ => pg_name (i := 3) scSomeS.nd rfl (Or.inl rfl)) (fun _ _ _ _ _ => pts_nil) (fun _ _ _ _ _ => pe_d DW hr (pa_cons (pv 0) pa_nil))))
      (pss_one (ps_ret (pe_lc (own := [("_law_turn", 3)]) (g := gName 3) (tt := tYes) rfl scSomeS.nd (pi_range1 rfl mr (pa_cons (pe_d DD hr (pa_cons (pv 0) (pa_cons (pe_op op_add (pv 1) pe_int) pa_nil))) pa_nil)) (blkOk_by (N := ["_law_state", "_law_most", "_law_some", "_law_turn"]) (sc := defScope sSomeS) (by decide +kernel))
        (fun _ _ _ _ _ => pg_name (i := 3) scSomeS.nd rfl (Or.inl rfl)) (fun _ _ _ _ _ => pts_nil) (fun _ _ _ _ _ => pe_d DS hr (pa_cons (pv 0) (pa_cons (pv 2) pa_nil)))))), ?_⟩
    obtain ⟨ys, hw⟩ := hS.hw
    refine ⟨2, rfl, by decide, by decide, fun D hD => ?_⟩
    have nDw : D ≠ w := (ne_of_none hw hD).symm
    refine lc_range (lo := 0) (n := 2) (fun i H' => Fr2 d w H H' ∧ StAt H' d w c (B + 4 * i) ∧ ∃ xs : List V, H' D = some (.lst xs) ∧ xs.length = i ∧ Vers K H' xs)
      ⟨.new hD, (hS.same (same_upd hD)).mono (by simp), [], upd_same, rfl, fun x h => (nomatch h)⟩ ?_ ?_
    · rintro i H1 hi ⟨F1, S1, xs, h1, h2, h3⟩
      refine ⟨rfl, yesI ?_⟩
      refine ⟨_, rfl, d, w, c, B + 4 * i, rfl, S1, by omega, fun H2 p v okv np hp S2 F2 => ?_⟩
      refine ⟨_, F2.lst S1 h1 nDw, Nat.lt_of_le_of_lt (show xs.length ≤ 1000 by omega) (by decide), ?_⟩
      have fD : Same H2 (upd H2 D (.lst (xs ++ [.ref p]))) ∨ True := .inr trivial
      have vs2 := h3.fr S1 F2
      have keepT : ∀ {b : Addr} {ys : List V}, SqT K H2 b ys → SqT K (upd H2 D (.lst (xs ++ [.ref p]))) b ys := fun {b ys} t => by
        have hD2 := F2.lst S1 h1 nDw
        rcases t with (t | ⟨o, t⟩) | t
        · exact .inl (.inl (by rw [upd_ne (ne_of t hD2 (by intro z; cases z))]; exact t))
        · exact .inl (.inr ⟨o, by rw [upd_ne (ne_of t hD2 (by intro z; cases z))]; exact t⟩)
        · exact .inr t
      refine ⟨(F1.trans F2).put hD, (hS.put hD S2).mono (by omega), xs ++ [.ref p], upd_same, by rw [List.length_append, h2]; rfl, fun x hx => ?_⟩
      rcases List.mem_append.mp hx with hx | hx
      · obtain ⟨u, ⟨a, rfl, t⟩, ok⟩ := vs2 x hx
        exact ⟨u, ⟨a, rfl, keepT t⟩, ok⟩
      · rw [List.mem_singleton.mp hx]
        exact ⟨v, ⟨p, rfl, keepT (.inl (.inl hp))⟩, okv⟩
    · rintro H1 ⟨F1, S1, xs, h1, h2, h3⟩
      refine ⟨_, rfl, _, rfl, m, 1, rfl, rfl, d, w, c, B + 8, m + 1, rfl, S1, by omega, by omega, by omega, fun H2 z hz0 hz1 S2 F2 => ?_⟩
      have hD2 := F2.lst S1 h1 nDw
      have vs2 := h3.fr S1 F2
      refine ⟨z, rfl, by omega, by omega, fun D3 hD3 => ?_⟩
      have n3w : D3 ≠ w := (S2.ne hD3).2.1.symm
      have s3 := same_upd (o := .lst []) hD3
      refine lc_range (lo := 0) (n := z.toNat) (fun i H' => Fr2 d w H2 H' ∧ StAt H' d w c (B + 9 + 12 * i) ∧ ∃ (ys : List V) (ss : List Str2), H' D3 = some (.lst ys) ∧ ss.length = i ∧ Strs K H' ys ss ∧ ∀ s ∈ ss, okS s)
        ⟨.new hD3, (S2.same s3).mono (by omega), [], [], upd_same, rfl, ⟨rfl, fun i x s h => by simp at h⟩, fun x h => (nomatch h)⟩ ?_ ?_
      · rintro i H3 hi ⟨F3, S3, zs, ss, g1, g2, g3, g4⟩
        refine ⟨rfl, yesI ?_⟩
        have hD3' := F3.lst S2 hD2 nDw
        refine ⟨_, rfl, _, rfl, d, w, c, B + 9 + 12 * i, D, xs, rfl, S3, by omega, hD3', nDw, by omega, vs2.fr S2 F3, fun H4 p st oks np ist S4 F4 => ?_⟩
        have hl4 := F4.lst S3 g1 n3w
        refine ⟨_, hl4, Nat.lt_of_le_of_lt (show zs.length ≤ 1000 by rw [g3.len]; omega) (by decide), ?_⟩
        have keepT : ∀ {b : Addr} {ys : List V}, SqT K H4 b ys → SqT K (upd H4 D3 (.lst (zs ++ [.ref p]))) b ys := fun {b ys} t => by
          rcases t with (t | ⟨o, t⟩) | t
          · exact .inl (.inl (by rw [upd_ne (ne_of t hl4 (by intro z; cases z))]; exact t))
          · exact .inl (.inr ⟨o, by rw [upd_ne (ne_of t hl4 (by intro z; cases z))]; exact t⟩)
          · exact .inr t
        have keepV : ∀ {x : V} {v : Ver}, IsVer K H4 x v → IsVer K (upd H4 D3 (.lst (zs ++ [.ref p]))) x v := fun {x v} ⟨a, e, t⟩ => ⟨a, e, keepT t⟩
        have keepS : ∀ {x : V} {s : Str2}, IsStr K H4 x s → IsStr K (upd H4 D3 (.lst (zs ++ [.ref p]))) x s := fun {x s} ⟨a, l, hh, e, t, t1, t2⟩ => ⟨a, l, hh, e, keepT t, keepV t1, by
          obtain ⟨s1, s2⟩ := s
          cases s2 with
          | none => exact t2
          | some u => exact keepV t2⟩
        have all : Strs K (upd H4 D3 (.lst (zs ++ [.ref p]))) zs ss := ⟨g3.len, fun i x s a b => keepS ((g3.fr S3 F4).at_ i x s a b)⟩
        refine ⟨(F3.trans F4).put hD3, (S2.put hD3 S4).mono (by omega), zs ++ [.ref p], ss ++ [st], upd_same, by rw [List.length_append, g2]; rfl, all.snoc (keepS ist), fun s hs => ?_⟩
        rcases List.mem_append.mp hs with hs | hs
        · exact g4 s hs
        · rw [List.mem_singleton.mp hs]; exact oks
      · rintro H3 ⟨F3, S3, zs, ss, g1, g2, g3, g4⟩
        have F12 := F1.trans F2
        refine q _ D3 zs ss (F12.free hS S2 hD3) g1 g3 g4 (by rw [g2]; omega) (S3.mono (by omega)) (F12.trans F3)
end
end Kw
set_option maxHeartbeats 4000000
namespace Kw
open PySem PySem.Spec PyProof.Rows L2
abbrev sIsNum : Stmt := top 14
abbrev sIsList : Stmt := top 15
abbrev sTupOf : Stmt := top 16
abbrev sIsKit : Stmt := top 20
abbrev sIsVer : Stmt := top 21
abbrev sIsStr : Stmt := top 25
/-- the value's type is the built-in one called T -/
def Ty (K : PySem.W.Frag) (H : Hp) (x : V) (T : String) : Prop := TyX K H x (.type T)
/-- a value without parts -/
inductive Flat : V → String → Prop
  | non : Flat .non "NoneType"
  | bl (b : Bool) : Flat (.bl b) "bool"
  | int (i : Int) : Flat (.int i) "int"
  | str (z : Str) : Flat (.str z) "str"
theorem Flat.ty {K : PySem.W.Frag} {H : Hp} {x : V} {T : String} (f : Flat x T) : Ty K H x T := by
  cases f with
  | non => exact .base .non
  | bl b => exact .base (.bl b)
  | int i => exact .base (.int i)
  | str z => exact .base (.str z)
/-- a number from 0 on -/
def numV : V → Bool
  | .int i => decide (0 ≤ i)
  | _ => false
def spIsNum (K : PySem.W.Frag) : Sp := fun vs H Q _ => ∃ (x : V) (T : String) (b1 b2 : Bool), vs = [x] ∧ Ty K H x T ∧ kitB T "int" = some b1 ∧ kitB T "bool" = some b2 ∧ Q (.bl (b1 && !b2)) H
def spTupOf (K : PySem.W.Frag) : Sp := fun vs H Q _ => ∃ (x : V) (n : Int), vs = [x, .int n] ∧
  ((∃ a xs, x = .ref a ∧ SqT K H a xs ∧ Q (.bl (decide ((xs.length : Int) = n))) H) ∨ ∃ T, Ty K H x T ∧ kitB T "tuple" = some false ∧ Q (.bl false) H)
/-- whether a value is a version; of a tuple of flat things, or of no tuple -/
def spIsVer (K : PySem.W.Frag) : Sp := fun vs H Q _ => ∃ (x : V), vs = [x] ∧
  ((∃ a xs, x = .ref a ∧ SqT K H a xs ∧ (∀ y ∈ xs, xs.length = 3 → ∃ T, Flat y T) ∧ ∀ H', Same H H' → Q (.bl (decide (xs.length = 3) && xs.all numV)) H') ∨ ∃ T, Ty K H x T ∧ kitB T "tuple" = some false ∧ Q (.bl false) H)
section
variable {P : Program} {w : World} {K : PySem.W.Frag} {mg : Str → Option Value} {base : Heap}
theorem scIsNum : FnScope ["value"] ["value"] (defScope sIsNum) := ⟨rfl, rfl, rfl, by decide +kernel, rfl, by decide +kernel, by decide +kernel⟩
theorem scTupOf : FnScope ["value", "many"] ["value", "many"] (defScope sTupOf) := ⟨rfl, rfl, rfl, by decide +kernel, rfl, by decide +kernel, by decide +kernel⟩
theorem scIsVer : FnScope ["value", "number"] ["value"] (defScope sIsVer) := ⟨rfl, rfl, rfl, by decide +kernel, rfl, by decide +kernel, by decide +kernel⟩
theorem ty_tup {H : Hp} {a : Addr} {xs : List V} (h : SqT K H a xs) : Ty K H (.ref a) "tuple" := by
  rcases h with (h | ⟨o, h⟩) | ⟨o, its, n, h, c, _⟩
  · exact .base (.tup h)
  · exact .fTuple h
  · exact .kTuple h c
theorem ok_isNum {f : Addr} {fd : FuncData} {k : Nat} (F : Fun K "is_number" "is_number" sIsNum f fd) (mi : mg "isinstance" = none) (mint : mg "int" = none) (mb : mg "bool" = none) : FnOk P w K mg base CX0 (k + 1) f fd ["value"] (spIsNum K) := by
  refine F.ok scIsNum (fun vs H Q E h => ?_) (fun cdv A outer s H vs Q E hr h => ?_)
  · obtain ⟨x, T, b1, b2, rfl, _⟩ := h
    rfl
  · obtain ⟨x, T, b1, b2, rfl, ty, e1, e2, q⟩ := h
    refine ⟨_, pss_one (ps_ret (pe_and (pe_callB call_isi (by rfl) mi (by decide +kernel) (pa_cons (pv 0) (pa_cons (pe_bltn (v := .ty "int") (by rfl) mint (by decide +kernel) rfl) pa_nil)))
      (pe_one (pe_not (pe_callB call_isi (by rfl) mi (by decide +kernel) (pa_cons (pv 0) (pa_cons (pe_bltn (v := .ty "bool") (by rfl) mb (by decide +kernel) rfl) pa_nil))))))), ?_⟩
    refine ⟨_, rfl, x, .ty "int", .type T, .type "int", b1, rfl, .ty _, ty, kit_ty e1, b1, rfl, ?_⟩
    cases b1 with
    | false => exact iteF q
    | true => exact iteT ⟨_, rfl, x, .ty "bool", .type T, .type "bool", b2, rfl, .ty _, ty, kit_ty e2, b2, rfl, q⟩
theorem ok_tupOf {f : Addr} {fd : FuncData} {k : Nat} (F : Fun K "is_tuple_of" "is_tuple_of" sTupOf f fd) (mi : mg "isinstance" = none) (mt : mg "tuple" = none) (ml : mg "len" = none) : FnOk P w K mg base CX0 (k + 1) f fd ["value", "many"] (spTupOf K) := by
  refine F.ok scTupOf (fun vs H Q E h => ?_) (fun cdv A outer s H vs Q E hr h => ?_)
  · obtain ⟨x, n, rfl, _⟩ := h
    rfl
  · obtain ⟨x, n, rfl, h⟩ := h
    refine ⟨_, pss_one (ps_ret (pe_and (pe_callB call_isi (by rfl) mi (by decide +kernel) (pa_cons (pv 0) (pa_cons (pe_bltn (v := .ty "tuple") (by rfl) mt (by decide +kernel) rfl) pa_nil)))
      (pe_one (pe_cmpR op_eq (pe_callB call_len_seq (by rfl) ml PySem.boot_len (pa_cons (pv 0) pa_nil)) (pv 1) (nomark _))))), ?_⟩
    rcases h with ⟨a, xs, rfl, hx, q⟩ | ⟨T, ty, e, q⟩
    · refine ⟨_, rfl, .ref a, .ty "tuple", .type "tuple", .type "tuple", true, rfl, .ty _, ty_tup hx, kit_ty (by decide +kernel), true, rfl, iteT ?_⟩
      refine ⟨_, rfl, a, xs, rfl, .inr hx, _, rfl, rfl, ?_⟩
      rw [dec_int, ← show decide ((xs.length : Int) = n) = ((xs.length : Int) == n) from by rw [Bool.eq_iff_iff]; simp]
      exact q
    · exact ⟨_, rfl, x, .ty "tuple", .type T, .type "tuple", false, rfl, .ty _, ty, kit_ty e, false, rfl, iteF q⟩
theorem ok_isVer {f : Addr} {fd : FuncData} {k : Nat} (F : Fun K "is_version" "is_version" sIsVer f fd) (ma : mg "all" = none) (DT : Def P w K mg base "is_tuple_of" CX0 k ["value", "many"] (spTupOf K)) (DN : Def P w K mg base "is_number" CX0 k ["value"] (spIsNum K)) : FnOk P w K mg base CX0 (k + 1) f fd ["value"] (spIsVer K) := by
  refine F.ok scIsVer (fun vs H Q E h => ?_) (fun cdv A outer s H vs Q E hr h => ?_)
  · obtain ⟨x, rfl, _⟩ := h
    rfl
  · obtain ⟨x, rfl, h⟩ := h
    refine ⟨_, pss_one (ps_ret (pe_and (pe_d DT hr (pa_cons (pv 0) (pa_cons pe_int pa_nil)))
      (pe_one (pe_callB (cr_all rfl) (by rfl) ma (by decide +kernel) (pa_cons (pe_lc (own := [("number", 1)]) (g := gName 1) (tt := tYes) rfl scIsVer.nd (pi_tup (pv 0)) (blkOk_by (N := ["value", "number"]) (sc := defScope sIsVer) (by decide +kernel))
        (fun _ _ _ _ _ => pg_name (i := 1) scIsVer.nd rfl (Or.inl rfl)) (fun _ _ _ _ _ => pts_nil) (fun _ _ _ _ _ => pe_and (pe_d DN hr (pa_cons (pv 1) pa_nil)) (pe_one (pe_cmpR op_ge (pv 1) pe_int (nomark _))))) pa_nil))))), ?_⟩
    rcases h with ⟨a, xs, rfl, hx, hf, q⟩ | ⟨T, ty, e, q⟩
    · refine ⟨_, rfl, .ref a, 3, rfl, .inl ⟨a, xs, rfl, hx, _, rfl, ?_⟩⟩
      refine ite2 (fun e => ?_) (fun e => ?_)
      · have e3 : xs.length = 3 := by
          have e' : (xs.length : Int) = 3 := of_decide_eq_true e
          omega
        refine ⟨_, rfl, a, rfl, ⟨_, hx⟩, fun D hD => ?_⟩
        refine lc_tup (K := K) (a := a) (xs := xs) (fun i H' => Same H H' ∧ H' D = some (.lst ((xs.take i).map fun v => V.bl (numV v)))) ⟨same_upd hD, upd_same⟩ (fun i H' _ R => Same.sqT R.1 hx) ?_ ?_
        · rintro i y H' hi ⟨s1, h1⟩
          refine ⟨rfl, yesI ?_⟩
          obtain ⟨T, hy⟩ := hf y (List.mem_of_getElem? hi) e3
          have hil := (List.getElem?_eq_some_iff.mp hi).1
          have fin : ∃ acc, H' D = some (.lst acc) ∧ acc.length < sizeLine ∧ Same H (upd H' D (.lst (acc ++ [V.bl (numV y)]))) ∧ (upd H' D (.lst (acc ++ [V.bl (numV y)]))) D = some (.lst ((xs.take (i + 1)).map fun v => V.bl (numV v))) := by
            refine ⟨_, h1, ?_, ?_, ?_⟩
            · rw [List.length_map, List.length_take]
              exact Nat.lt_of_le_of_lt (Nat.min_le_left _ _) (small1000 (by omega))
            · exact fun b o z => by rw [upd_ne (ne_of_none z hD)]; exact s1 _ _ z
            · rw [upd_same, take_snoc hi, List.map_append]
              rfl
          cases hy with
          | non => exact ⟨_, rfl, .non, "NoneType", false, false, rfl, Flat.ty .non, by decide +kernel, by decide +kernel, _, rfl, iteF fin⟩
          | bl b => exact ⟨_, rfl, .bl b, "bool", true, true, rfl, Flat.ty (.bl b), by decide +kernel, by decide +kernel, _, rfl, iteF fin⟩
          | int i => exact ⟨_, rfl, .int i, "int", true, false, rfl, Flat.ty (.int i), by decide +kernel, by decide +kernel, _, rfl, iteT ⟨_, rfl, i, 0, rfl, rfl, fin⟩⟩
          | str z => exact ⟨_, rfl, .str z, "str", false, false, rfl, Flat.ty (.str z), by decide +kernel, by decide +kernel, _, rfl, iteF fin⟩
        · rintro H' ⟨s1, h1⟩
          rw [List.take_length] at h1
          refine ⟨D, xs.map numV, rfl, SqL.of (by rw [h1, List.map_map]; rfl), ?_⟩
          have := q H' s1
          rw [e3] at this
          simpa [List.all_map] using this
      · have e3 : ¬ xs.length = 3 := fun z => e (decide_eq_true (by omega))
        have := q H (Same.refl H)
        rw [decide_eq_false e3] at this
        exact this
    · exact ⟨_, rfl, x, 3, rfl, .inr ⟨T, ty, e, _, rfl, iteF q⟩⟩
end
end Kw
set_option maxHeartbeats 4000000
/-! own errors whose __init__ is: super().__init__(f'.. {x!r}'); self.x = x -/
namespace Ks
open PySem PySem.W PySem.Calls PyProof.Rows PySem.HandSPX
abbrev sBR : Stmt := L2.inClass (Kw.top 4) 0
abbrev iP : Arguments := L2.defArgs sBR
abbrev iBody : List Stmt := L2.defBody sBR
abbrev iScope : Scope := L2.defScope sBR
/-- what the written part says of such a class, at C; its __init__ at fI, the cell of __class__ at cc, the code at cd -/
structure SupTxt (prog : Program) (K : Frag) (mg : Str → Option Value) (C fI cc cd : Addr) (qual : Str) : Prop where
  cls : ∃ nm q N bs bm sn sub ab col dd k0 k1 k2 k3 k5, K.lookup C = some (excClassObj nm q C N bs bm true sn sub ab col dd k0 k1 k2 k3 k5 "ValueError.__new__") ∧ refsVE bm = true
  sa : findIn K (.ref C) "__setattr__" = some (some (.builtin "object.__setattr__"))
  noA : findIn K (.ref C) "at" = some none
  iC : findIn K (.ref C) "__init__" = some (some (.ref fI))
  tI : typeIn K (.ref fI) = some (.type "function")
  subV : subIn K (.ref C) (.type "ValueError") = some true
  subC : mroIn K C (.ref C) = some true
  opq : nsIn K cStatics "thirdparty.any" = some none
  sup : ks_superIn K C C "__init__" = some (some (.builtin "ValueError.__init__"))
  fn : ∃ (oc : Value) (od : Option Addr) (doc pm : Value) (an : Option Addr) (ct : Value) (osl : Array (Option Value)),
    K.lookup fI = some ⟨oc, od, .func (ksFn "__init__" qual iP iBody iScope .none .none doc pm an (.ref cd) ct cc), osl⟩ ∧ codeIn K (.ref cd) qual = true
  code : ∃ ccl cdd vs ccs file tf, K.lookup cd = some ⟨ccl, cdd, .fields vs, ccs⟩ ∧ vs[2]? = some (.str file tf) ∧ ((prog.main.file : Str) == file) = true
  cell : ∃ cl cld csl, K.lookup cc = some ⟨cl, cld, .cell (some (.ref C)), csl⟩
  msup : mg "super" = none
  top : (prog.main.scope.names.lookup ("super" : Str)).isSome = false
/-- values whose repr is short -/
def Shown (v : Value) : Prop := v = .none ∨ ∃ i t, v = .int i t ∧ i.natAbs.log2 < 1920
/-- what __init__ leaves of a fresh exception at x -/
structure InitEnd (h h' : Heap) (x C dx t1 : Addr) (v : Value) : Prop where
  keep : ∀ b o, b ≠ x → h.get? b = some o → h'.get? b = some o
  obj : h'.get? x = some { cls := .ref C, dict := some dx, data := .fields #[.ref t1, .none, .none, .none, .bool false, .none] }
  dbig : h.objs.size ≤ dx
  dne : dx ≠ x
  ns : h'.Ns1 dx (fun y => if y = "at" then some v else none)
section
variable {prog : Program} {w : World} {A : Around} {E : Value → Shared → Prop} {h : Heap} {g : Array GenState} {d : Drawn} {t : Nat} {os : OsState}
variable {nm q : Str} {C N : Addr} {bs bm : List Value} {hdct : Bool} {sn : List Str} {sub : List Value} {ab : Bool} {col : Option Bool} {dd : Option Addr} {k0 k1 k2 k3 k5 : Option Value}
theorem mw_call {u x t0 : Addr} {rest : List Value} {Q : Value → Shared → Prop} (hC : h.get? C = some (excClassObj nm q C N bs bm hdct sn sub ab col dd k0 k1 k2 k3 k5 "ValueError.__new__")) (he : h.get? x = some (excO C t0)) (hu : h.get? u = some (kxs_mw "ValueError.__init__" x)) (hz : rest.length ≤ sizeLine)
    (fin : ∀ h', (∀ b o, b ≠ x → h.get? b = some o → h'.get? b = some o) → h'.get? x = some (excO C h.objs.size) → Q .none ⟨h', g, d, t, os⟩) : wpAny (model prog w) A (call (.ref u) rest) Q E ⟨h, g, d, t, os⟩ := by
  have FB := F.excBase_ValueError
  refine wpAny_call (codeAny_of_tree ?_)
  show wpAny (model prog w) A.in1 (callAny (.ref u) { pos := rest, kw := [] }) _ _ _
  unfold callAny
  refine wpAny_bind (wpAny_load hu ?_)
  have e1 : (Value.type "method-wrapper" == Value.type "method" || Value.type "method-wrapper" == Value.type "builtin_function_or_method" || Value.type "method-wrapper" == Value.type "method-wrapper") = true := by decide
  simp only [kxs_mw, e1, if_true]
  refine KFB.if_so (by decide) ?_
  refine wpAny_bind (check_bound_init FB.toExcCallFacts hC he rfl (wpAny_bind (wpAny_pure (wpAny_pure ?_))))
  refine ⟨plainId_quiet FB.init.plain _, codeAny_builtin FB.initEntry (exc_init_tree (cls := .ref C) (t0 := t0) (dv := none) (c2 := .none) (c3 := .none) (b4 := .bool false) he hz fun h' k e' _ => ?_)⟩
  exact fin h' k e'
end
section
variable {prog : Program} {w : World} {A : Around} {R : Result → Shared → Prop} {s : Shared} {K : Frag} {mg : Str → Option Value} {base : Heap} {C fI cc cd : Addr} {qual : Str}
theorem sup_init (T : SupTxt prog K mg C fI cc cd qual) {x t0 : Addr} {v : Value} (X : K.In s.heap) (M : L2.Mod K mg base) (kb : ∀ b o, base.get? b = some o → s.heap.get? b = some o) (hx : s.heap.get? x = some (excO C t0)) (hnx : ∀ t, K.lookup x ≠ some (excO C t))
    (hv : Shown v) (hroom : A.depth + 3 < recursionLimit) (hq : ∀ h' tk dx t1, InitEnd s.heap h' x C dx t1 v → R (.ok (.ret .none)) { s with heap := h', toks := tk }) :
    codeAny (model prog w) A (.call (.ref fI) ⟨[.ref x, v], []⟩) R s := by
  obtain ⟨oc, od, doc, pm, an, ct, osl, ho, hcd⟩ := T.fn
  obtain ⟨nm, qq, N, bs, bm, sn, sub, ab, col, dd, k0, k1, k2, k3, k5, hC, hbm⟩ := T.cls
  obtain ⟨ccl, cdd, vs, ccs, file, tf, hcode, hvs, hfile⟩ := T.code
  obtain ⟨cl, cld, csl, hcell⟩ := T.cell
  have hcl : clsIn K C = some { name := nm, bases := bs, mro := .ref C :: bm, ns := N, qualname := qq, hasDict := true, slotNames := sn, subclasses := sub, abstract := ab, collection := col, hasDel := false } := by unfold clsIn; rw [hC] <;> rfl
  have hlim : s.heap.NoLimit := M.nolimit.keeps kb
  refine ks_codeAny_call_defAt (fd := ksFn "__init__" qual iP iBody iScope .none .none doc pm an (.ref cd) ct cc) (body := iBody) (binds := [("self", .ref x), ("at", v)]) (by omega) (X _ _ ho) rfl hlim (codeRec_of X hcd) rfl
    (BindsTo.of_eq (by first | rfl | with_unfolding_all rfl)) (by show ∀ x ∈ iScope.names, x.2 ≠ .cell; decide) (by intro y hy; simp at hy; rcases hy with rfl | rfl <;> rfl) (fun h₁ hns hk₁ => ?_) rfl rfl rfl
  have X₁ : K.In h₁ := X.keeps hk₁
  have kb₁ : ∀ b o, base.get? b = some o → h₁.get? b = some o := fun b o e => hk₁ _ _ (kb b o e)
  have hx₁ := hk₁ _ _ hx
  have hC₁ := X₁ _ _ hC
  have hns1 : (fun y => [(PySem.Str.ofString "self", Value.ref x), (PySem.Str.ofString "at", v)].reverse.lookup y) "self" = some (.ref x) := by rfl
  obtain ⟨mb, hmb, hbb⟩ := M.blt
  have rest : ∀ (h' : Heap) (tk : Nat) (t1 : Addr), (∀ b o, b ≠ x → h₁.get? b = some o → h'.get? b = some o) → h'.get? x = some (excO C t1) →
      _root_.PySem.wpAt (model prog w) (A.deeper (ksEnv qual iScope s.heap.objs.size fI (.ref cd) cc)) (.func iBody (ksEnv qual iScope s.heap.objs.size fI (.ref cd) cc)) (execs iBody.tail (ksEnv qual iScope s.heap.objs.size fI (.ref cd) cc))
        (fun f s' => R (.ok (.ret (match f with | .ret v => v | _ => .none))) s')
        (fun e s' => wpAny (model prog w) (A.deeper (ksEnv qual iScope s.heap.objs.size fI (.ref cd) cc)) (leaving (ksEnv qual iScope s.heap.objs.size fI (.ref cd) cc) e) (fun _ s'' => R (.error e) s'') (fun e' s'' => R (.error e') s'') s') { s with heap := h', toks := tk } := fun h' tk t1 k e => by
    have hxL : s.heap.objs.size ≠ x := Nat.ne_of_gt (Heap.lt_size hx)
    have hns' : h'.Ns s.heap.objs.size (fun y => [(PySem.Str.ofString "self", Value.ref x), (PySem.Str.ofString "at", v)].reverse.lookup y) := hns.at fun o q => k _ o hxL q
    have X' : K.In h' := fun a o q => k a o (fun z => by
      subst z
      have e1 := X _ _ q
      rw [hx] at e1
      have e2 : o = excO C t0 := (Option.some.inj e1).symm
      exact absurd q (by rw [e2]; exact hnx t0)) (X₁ a o q)
    refine ks_wpAt_execs_cons (wpAt_of_wpAny (plainObj_wpAny_Assign_Attribute ?_))
    refine wpAny_Name (wpAny_loadName_local rfl rfl hns' (by rfl) (wpAny_Name (wpAny_loadName_local rfl rfl hns' (by rfl) ?_) rfl)) rfl
    refine set_plain X' (ox := excO C t1) (od := none) ⟨e, rfl, rfl, trivial⟩ T.sa ?_
    refine exc_osa X' e hcl (show refsVE (.ref C :: bm) = true from hbm) rfl T.noA (fun h₃ tk₃ dx k₃ dn dne hx₃ hn₃ => ?_)
    refine wpAt_of_wpAny (wpAny_execs_nil (hq h₃ tk₃ dx t1 ⟨fun b o hb q => k₃ b o hb (k b o hb (hk₁ b o q)), hx₃, ?_, dne, hn₃⟩))
    exact Nat.le_of_lt (Nat.lt_of_lt_of_le hns'.lt dn)
  refine ks_wpAt_execs_cons (ks_wpAt_Expr_any (ks_wpAt_MethodCall (pl := ?_) ?_))
  rotate_left
  · refine ks_wpAt_super_base (env := ksEnv qual iScope s.heap.objs.size fI (.ref cd) cc) rfl rfl rfl rfl (X₁ _ _ ho) rfl rfl rfl (X₁ _ _ hcode) rfl hvs hfile T.top ?_
    refine ks_loadName_global rfl rfl (loadGlobal_builtin (env := ksEnv qual iScope s.heap.objs.size fI (.ref cd) cc) (M.glob.keeps kb₁) T.msup (hmb.keeps kb₁) ((hbb "super" (by decide)).trans (by first | rfl | kernel_rfl)) ⟨rfl, ?_⟩)
    refine wpAny_loadName_free rfl rfl rfl ⟨_, X₁ _ _ hcell, rfl⟩ ?_
    refine wpAny_loadName_local rfl rfl hns (by rfl) ?_
    refine ks_wpAny_isType_cls hC₁ rfl ⟨rfl, ?_⟩
    refine ks_wpAny_call_super hC₁ rfl hx₁ rfl (fun c e => by cases e) (looks_mroIn X₁ T.subC) (fun h₂ hso hk₂ => ?_)
    have X₂ : K.In h₂ := X₁.keeps hk₂
    have hx₂ := hk₂ _ _ hx₁
    have I : InstAt h₂ x (excO C t0) C none := ⟨hx₂, rfl, rfl, trivial⟩
    have hI : Looks (model prog w) h₂ (isInstance (.ref x) (.type "ValueError")) true := I.type.andThen (looks_subIn X₂ T.subV)
    have hsup := T.sup
    unfold ks_superIn at hsup
    rw [hcl] at hsup
    refine kxs_getMethod kxs_ValueError hso (looks_opaque X₂ T.opq) (l₀ := .ref C :: bm) (fun A Q E s k q => wpAny_bind ((looks_clsIn X₂ hcl) A _ E s k (wpAny_pure q))) rfl X₂ hsup hI (ks_ne X₂ I hcl) rfl ?_
    have hu : (h₂.push (kxs_mw "ValueError.__init__" x)).get? h₂.objs.size = some (kxs_mw "ValueError.__init__" x) := Heap.get?_push_size _ rfl
    have hk₃ : ∀ b o, h₂.get? b = some o → (h₂.push (kxs_mw "ValueError.__init__" x)).get? b = some o := fun b o e => Heap.get?_push_of_some _ e
    have N1 : News h₂ x (h₂.push (kxs_mw "ValueError.__init__" x)) [(h₂.objs.size, kxs_mw "ValueError.__init__" x)] := fun p hp => by
      obtain rfl := List.mem_singleton.mp hp
      exact ⟨hu, Nat.ne_of_gt (Heap.lt_size hx₂), Heap.get?_none_of_le (Nat.le_refl _)⟩
    refine kxs_callWith1 N1 List.mem_cons_self ?_
    refine Calls.spliced_cons (wpAny_JoinedStr (pos := ⟨11, 25, 11, 48⟩) ?_)
    have hns₃ := (hns.keeps hk₂).keeps hk₃
    refine Calls.Constant_str ⟨_, _, rfl, by decide, ?_⟩
    refine wpAny_FormattedValue_repr (wpAny_Name (wpAny_loadName_local rfl rfl hns₃ (by rfl) ?_) rfl)
    have hC₃ := (X₂.keeps hk₃) _ _ hC
    have hx₃ := hk₃ _ _ hx₂
    rcases hv with rfl | ⟨i, ti, rfl, hi⟩
    · refine pyReprObj_none (wpAny_formatField_str ?_ ?_ (by decide))
      · refine ⟨_, _, rfl, by decide, by decide, Calls.spliced_nil ⟨hu, mw_call hC₃ hx₃ hu (by show 1 ≤ sizeLine; decide) fun h' k e' => ?_⟩⟩
        exact rest h' _ _ (fun b o hb q => k b o hb (hk₃ _ _ (hk₂ _ _ q))) e'
      · refine ⟨_, _, rfl, by decide, by decide, Calls.spliced_nil ⟨hu, mw_call hC₃ hx₃ hu (by show 1 ≤ sizeLine; decide) fun h' k e' => ?_⟩⟩
        exact rest h' _ _ (fun b o hb q => k b o hb (hk₃ _ _ (hk₂ _ _ q))) e'
    · have hz : (Str.ofString (toString i)).length ≤ sizeLine := int_text_fits hi
      have hz2 : ((Str.empty ++ Str.ofString "no stretches: ") ++ Str.ofString (toString i)).length ≤ sizeLine := by
        have h1 := int_text_len_1921 hi
        rw [Str.length_append, sizeLine_eq]
        have h2 : (Str.empty ++ Str.ofString "no stretches: ").length = 14 := by decide
        omega
      refine pyReprObj_int hi (wpAny_formatField_str ?_ ?_ hz)
      · refine ⟨_, _, rfl, hz2, hz2, Calls.spliced_nil ⟨hu, mw_call hC₃ hx₃ hu (by show 1 ≤ sizeLine; decide) fun h' k e' => ?_⟩⟩
        exact rest h' _ _ (fun b o hb q => k b o hb (hk₃ _ _ (hk₂ _ _ q))) e'
      · refine ⟨_, _, rfl, hz2, hz2, Calls.spliced_nil ⟨hu, mw_call hC₃ hx₃ hu (by show 1 ≤ sizeLine; decide) fun h' k e' => ?_⟩⟩
        exact rest h' _ _ (fun b o hb q => k b o hb (hk₃ _ _ (hk₂ _ _ q))) e'
/-- a made error -/
structure OwnMade (h h' : Heap) (e C d : Addr) (v : Value) : Prop where
  keep : ∀ b o, h.get? b = some o → h'.get? b = some o
  new : h.objs.size ≤ e
  obj : ∃ oe vs, h'.get? e = some oe ∧ oe.cls = .ref C ∧ oe.dict = some d ∧ oe.data = .fields vs ∧ vs[1]? = some .none
  dbig : h.objs.size ≤ d
  dne : d ≠ e
  ns : h'.Ns1 d (fun y => if y = "at" then some v else none)
theorem sup_made (T : SupTxt prog K mg C fI cc cd qual) {v : Value} (X : K.In s.heap) (M : L2.Mod K mg base) (kb : ∀ b o, base.get? b = some o → s.heap.get? b = some o) (hv : Shown v) (hroom : A.depth + 4 < recursionLimit)
    (hq : ∀ h' tk e d, OwnMade s.heap h' e C d v → R (.ok (.ret (.ref e))) { s with heap := h', toks := tk }) : codeAny (model prog w) A (.call (.ref C) ⟨[v], []⟩) R s := by
  obtain ⟨nm, qq, N, bs, bm, sn, sub, ab, col, dd, k0, k1, k2, k3, k5, hC, hbm⟩ := T.cls
  obtain ⟨hp, g, dr, tk, os⟩ := s
  have k : ∀ b o, hp.get? b = some o → ((hp.push (kdv_tup [v])).push (excO C hp.objs.size)).get? b = some o := fun b o e => Heap.get?_push_of_some _ (Heap.get?_push_of_some _ e)
  have hget : ((hp.push (kdv_tup [v])).push (excO C hp.objs.size)).get? (hp.objs.size + 1) = some (excO C hp.objs.size) := by heap_get
  have hnx : ∀ t, K.lookup (hp.objs.size + 1) ≠ some (excO C t) := fun t e => by
    have z : hp.get? (hp.objs.size + 1) = some (excO C t) := X _ _ e
    exact absurd (Nat.lt_of_succ_lt (Heap.lt_size z)) (Nat.lt_irrefl _)
  refine call_own F.excBase_ValueError (fun X => refsVE_contains X bm hbm) (X _ _ hC) (looks_findIn X T.iC) (fun self => bind_fn X self T.tI) (by show 1 ≤ sizeLine; decide) ?_
  refine sup_init (s := ⟨(hp.push (kdv_tup [v])).push (excO C hp.objs.size), g, dr, tk, os⟩) T (X.keeps k) M (fun b o e => k b o (kb b o e)) hget hnx hv ?_ fun h' tk' dx t1 ⟨k', hx, dn, dne, hns⟩ => ?_
  · show A.depth + 1 + 3 < recursionLimit
    omega
  · have old : ∀ b o, hp.get? b = some o → h'.get? b = some o := fun b o e => k' b o (Nat.ne_of_lt (Nat.lt_succ_of_lt (Heap.lt_size e))) (k b o e)
    have z : hp.objs.size + 1 + 1 ≤ dx := by
      first
        | exact dn
        | (simpa only [Heap.size_push] using dn)
        | (have q := dn; rw [Heap.size_push, Heap.size_push] at q; exact q)
    exact ⟨rfl, hq h' tk' (hp.objs.size + 1) dx ⟨old, Nat.le_succ _, ⟨_, _, hx, rfl, rfl, rfl, rfl⟩, Nat.le_trans (Nat.le_trans (Nat.le_succ _) (Nat.le_succ _)) z, dne, hns⟩⟩
end
end Ks
set_option maxHeartbeats 4000000
namespace Kw
open PySem PySem.Spec PyProof.Rows L2
theorem relO_at {v : V} {v' : Value} (r : RelV v v') (f : Str) : RelO (List.lookup f [(("at" : Str), v)]) (if f = "at" then some v' else none) := by
  by_cases hw : f = "at"
  · subst hw
    rw [if_pos rfl, show List.lookup ("at" : Str) [(("at" : Str), v)] = some v by simp [List.lookup]]
    exact r
  · rw [if_neg hw]
    have qw : (f == ("at" : Str)) = false := by simpa using hw
    rw [show List.lookup f [(("at" : Str), v)] = none by simp [List.lookup, qw]]
    trivial
/-- None, or an int of few digits -/
def ShownV (v : V) : Prop := v = .non ∨ ∃ i, v = .int i ∧ i.natAbs.log2 < 1920
theorem ShownV.val {v : V} {u : Value} (h : ShownV v) (r : RelV v u) : Ks.Shown u := by
  rcases h with rfl | ⟨i, rfl, hi⟩
  · exact .inl r
  · obtain ⟨t, rfl⟩ := r
    exact .inr ⟨i, t, rfl, hi⟩
section
variable {X : Cx} {C fI cc cd : Addr} {qual : Str}
/-- BadX(e) made -/
def tMkSup (C : Addr) (ta : TA) : L2.St → Hp → XK → Prop := fun σ H Q => ta σ H fun vs H1 => ∃ v, vs = [v] ∧ ShownV v ∧ ∀ d, H1 d = none → Q (.ref C) (some d) (upd H1 d (.xd [(("at" : Str), v)]))
theorem pmk_sup {x : Str} {a : Expr} {ta : TA} {p pos : Pos} {k : Nat} (T : Ks.SupTxt X.prog X.K X.mg C fI cc cd qual) (gC : X.mg x = some (.ref C)) (kC : PySem.W.keepIn X.K (.ref C) = true) (rC : Raises X (.ref C)) (hr : Room k X.A) (ha : PA X [a] ta) (hg : Gl X x := by rfl)
    (hdb : (x == ("__debug__" : Str)) = false := by decide) (he : starEach (a :: []) X.env = (false, eval a X.env) :: starEach [] X.env := by rfl) (hpl : (backTo pos (starEach [] X.env)).any (·.1) = false := by rfl) :
    PMk X (.Call (.Name x p) [a] [] pos) (tMkSup C ta) := by
  intro pins s σ H Q I h
  refine wpAny_Call_Name_kw (ld_glob I hg gC ?_ hdb)
  refine PySem.W.callWith_K (h₀ := X.base) I.ok.mod.kin kC (thn (ha.run pos pins s σ H _ I h) fun us s1 hh => ?_) he hpl
  obtain ⟨vs, H1, I1, r1, v, ev, sv, q1⟩ := hh
  subst ev
  refine ⟨I1.kIn, ?_⟩
  obtain ⟨u, rfl, rv⟩ := vals1 r1
  show wpAny _ _ (call (.ref C) [u]) _ _ _
  have kb := I1.bk
  have kin := I1.kIn
  obtain ⟨hp, g, dr, tk, os⟩ := s1
  refine wpAny_call (Ks.sup_made T kin I1.mod kb (sv.val rv) (by have := hr.dp; omega) fun h' tk' e d M => ?_)
  show MkP X pins σ Q (.ref e) ⟨h', g, dr, tk', os⟩
  obtain ⟨oe, fv, hoe, hc, hd, hdat, h1⟩ := M.obj
  obtain ⟨G', g1, g2⟩ := restrict h' fun b => decide (b ≠ e)
  have gk : ∀ b, b ≠ e → G'.get? b = h'.get? b := fun b hb => g1 b (decide_eq_true hb)
  have ge : G'.get? e = none := g2 e (by simp)
  have old : ∀ b o, hp.get? b = some o → G'.get? b = some o := fun b o q => (gk b (Nat.ne_of_lt (Nat.lt_of_lt_of_le (Heap.lt_size q) M.new))).trans (M.keep b o q)
  have ob : ObjOk X.prog X.w (upd H1 d (.xd [(("at" : Str), v)])) G' d (.xd [(("at" : Str), v)]) := ⟨_, M.ns.at (fun o q => (gk d M.dne).trans q), fun f => relO_at rv f⟩
  have J : Inv X pins σ (upd H1 d (.xd [(("at" : Str), v)])) ⟨G', g, dr, tk', os⟩ := I1.laid (t' := tk') old M.dbig ob
  refine ⟨e, oe, fv, ⟨G', g, dr, tk', os⟩, _, .ref C, some d, rfl, J, fun b o q => ?_, ge, hoe, ⟨hc, hd⟩, hdat, h1, ?_, rfl, I1.bare, rC, q1 d (I1.hok.fresh M.dbig)⟩
  · by_cases hb : b = e
    · have q' : G'.get? b = some o := q
      rw [hb, ge] at q'; cases q'
    · exact (gk b hb).symm.trans q
  · rw [upd_ne (Ne.symm M.dne)]
    exact I1.hok.fresh M.new
/-- raise BadX(e) -/
def tRaiseSup (C : Addr) (W : WX) (ta : TA) : TS := fun _ σ H => tMkSup C ta σ H fun cls d H' => W cls d σ H'
theorem ps_raiseSup {x : Str} {a : Expr} {ta : TA} {W : WX} {p pos pos2 : Pos} {k : Nat} (hc : X.calm = true) (T : Ks.SupTxt X.prog X.K X.mg C fI cc cd qual) (gC : X.mg x = some (.ref C)) (kC : PySem.W.keepIn X.K (.ref C) = true) (rC : Raises X (.ref C)) (hr : Room k X.A) (tk : Takes X W) (ha : PA X [a] ta) (hg : Gl X x := by rfl)
    (hdb : (x == ("__debug__" : Str)) = false := by decide) (he : starEach (a :: []) X.env = (false, eval a X.env) :: starEach [] X.env := by rfl) (hpl : (backTo pos (starEach [] X.env)).any (·.1) = false := by rfl) :
    PS X (.Raise (some (.Call (.Name x p) [a] [] pos)) none pos2) (tRaiseSup C W ta) := ps_raise hc tk (pmk_sup T gC kC rC hr ha hg hdb he hpl)
end
end Kw
set_option maxHeartbeats 4000000
namespace Kw
open PySem PySem.Spec PyProof.Rows L2
/-! ### a caught error kept as a value -/
/-- at a: an error of the class cls, its own dict d -/
def exA (cls : Value) (d : Option Addr) (a : Addr) : HO := .ext fun h => ∃ (oe : Obj) (vs : Array Value), h.get? a = some oe ∧ Zc cls d oe ∧ oe.data = .fields vs
theorem exA_ok {P : Program} {w : World} {H : Hp} {h : Heap} {a : Addr} {cls : Value} {d : Option Addr} {oe : Obj} {vs : Array Value} (e : h.get? a = some oe) (z : Zc cls d oe) (dd : oe.data = .fields vs) : ObjOk P w H h a (exA cls d a) :=
  ⟨⟨oe, vs, e, z, dd⟩, ⟨oe, e⟩, fun h1 h2 ⟨o1, v1, e1, z1, d1⟩ k => ⟨o1, v1, k _ e1, z1, d1⟩⟩
theorem exA_ne {cls : Value} {d : Option Addr} {a : Addr} {o : HO} (h : ∀ φ, o ≠ .ext φ) : exA cls d a ≠ o := fun z => h _ (by rw [← z]; rfl)
section
variable {X : Cx} {pins : List (Addr × Obj)} {σ : L2.St} {H : Hp} {s : Shared}
/-- an object that came while this def ran is tracked from here on -/
theorem track {a : Addr} {o : HO} {oe : Obj} {vs : Array Value} (I : Inv X pins σ H s) (he : s.heap.get? a = some oe) (hd : oe.data = .fields vs) (hn : H a = none) (h0 : X.s_0.heap.get? a = none) (hL : a ≠ X.env.locals) (hp : ∀ p ∈ X.pn ++ pins, p.1 ≠ a)
    (new : ObjOk X.prog X.w (upd H a o) s.heap a o) : Inv X pins σ (upd H a o) s where
  ok := I.ok
  os := I.os
  bare := I.bare
  base := {
    keep := fun b u q n hb hx => I.base.keep b u q n hb hx
    slot := fun b u q n hb hx => I.base.slot b u q n hb hx
    free := fun b u q n hx => by
      rw [upd_ne (fun z => by rw [z, h0] at q; cases q)]
      exact I.base.free b u q n hx
    there := fun b u q hx => I.base.there b u q hx
    tups := fun b xs q => by
      have q' := I.base.tups b xs q
      rw [upd_ne (ne_of_none q' hn)]
      exact q'
    frzs := fun b u xs q => by
      have q' := I.base.frzs b u xs q
      rw [upd_ne (ne_of_none q' hn)]
      exact q'
    tbls := fun b ps q => by
      obtain ⟨m, q'⟩ := I.base.tbls b ps q
      exact ⟨m, by rw [upd_ne (ne_of_none q' hn)]; exact q'⟩ }
  loc := I.loc
  cell := I.cell
  free := by
    rw [upd_ne hL.symm]
    exact I.free
  freeC := fun x c e => by
    obtain ⟨v, oc, ho, hdc⟩ := I.cell x c e
    rw [upd_ne (fun z => by rw [z, he] at ho; cases ho; rw [hd] at hdc; cases hdc)]
    exact I.freeC x c e
  pin := fun p hm => by
    obtain ⟨p1, p2, p3⟩ := I.pin p hm
    exact ⟨p1, by rw [upd_ne (hp p hm)]; exact p2, p3⟩
  hok := I.hok.laidN (fun _ _ q => q) hn new
  len := I.len
end
/-- except x as n: y = n; slots i of n, j of y -/
def wKeep (K : PySem.W.Frag) (c : Value) (i j : Nat) (Wout : WX) (D : Ends) : WX := fun cls d σ H =>
  ∃ b, PySem.W.exmOne K cls c = some b ∧ (b = true → ∀ a, H a = none → D.nx (((σ.set i (some (.ref a))).set j (some (.ref a))).set i none) (upd H a (exA cls d a))) ∧ (b = false → Wout cls d σ H)
section
variable {X : Cx} {x n y : Str} {c : Value} {i j : Nat} {body : List Stmt} {np n2 py pa pos pos' : Pos} {tb : WX → TS} {Wout : WX}
theorem ps_try_keep (hex : X.ex = []) (hstk : X.stack = X.env :: X.outer) (hfm : X.env.frame = some X.env.locals) (hN : X.N.Nodup) (hi : X.N[i]? = some n) (hj : X.N[j]? = some y) (hln : X.env.kindOf n = some .local) (hly : X.env.scope.names.lookup y = some .local) (hij : i < X.N.length) (hc : Names X x c) (tk : Takes X Wout)
    (hb : ∀ (W : WX) (pn : List (Addr × Obj)) (xe : Value → Shared → Prop), Takes (X.tr pn xe) W → PassesOwn (model X.prog X.w) X.A X.env xe → PSs (X.tr pn xe) body (tb W))
    (hsw : ∀ Y : Cx, Y.env = X.env → swapsWith (.Name n n2) (some (.Name y py)) pa.line Y.env = pure false) (hnd : (n == ("__debug__" : Str)) = false := by decide) (hnc : (n == ("__classdict__" : Str)) = false := by decide) :
    PS X (.Try body [.ExceptHandler (some (.Name x np)) (some n) [.Assign [.Name y py] (.Name n n2) pa] pos'] [] [] pos) (fun D σ H => tb (wKeep X.K c i j Wout D) D σ H) := by
  refine ⟨fun pins s σ H D I hyp => ?_⟩
  have okX := I.ok
  have frs' : X.A.frames = some (X.env :: X.outer) := okX.frames.trans (by rw [hstk])
  refine wpAny_Try_except ?_
  let hs1 : List ExceptHandler := [.ExceptHandler (some (.Name x np)) (some n) [.Assign [.Name y py] (.Name n n2) pa] pos']
  refine wpAny_mono ((hb (wKeep X.K c i j Wout D) (X.pn ++ pins) (fun e s₁ => wpAny (model X.prog X.w) X.A (noteFrame e X.env) (fun _ s₂ => wpAny (model X.prog X.w) X.A (setFlight e none)
    (fun _ s₃ => wpAny (model X.prog X.w) X.A (handleBy e X.env hs1) (SP X pins D) X.xe s₃) X.xe s₂) X.xe s₁) (fun u s' air => ?_) PassesOwn.looking).run [] s σ H D (I.toTry _) hyp) (fun fl s1 hsp => ?_) (fun e s1 he => he)
  · obtain ⟨a, B, sI, pins', σ', H', cls, d, rfl, J', nb, up, sky, na, os, ag, b, hb1, hyes, hno⟩ := air
    have J : Inv X pins σ' H' sI := J'.ofTry okX
    have sky2 : Sky B (X.env :: X.outer) a (Zc cls d) X.env.locals s'.heap := hstk ▸ sky
    show wpAny _ X.A (noteFrame (.ref a) X.env) _ _ _
    refine Sky.land Zc.steady frs' hfm sky2 fun h3 fl3 up3 => ?_
    have J3 : Inv X pins σ' H' { s' with heap := h3 } := J.landed nb fl3.1 (up.trans up3) os ag
    obtain ⟨oe3, vs3, he3, hz3, hd3⟩ := fl3.there
    have outF : ∀ {h : Heap} {o : Obj} {vs : Array Value}, h.FunFrames B (X.env :: X.outer) → h.get? a = some o → o.data = .fields vs → a ∉ L2.frs (X.env :: X.outer) := fun {h o vs} ff e dd hm => by
      obtain ⟨_, o', e', hnf⟩ := ff.mem hm
      cases e.symm.trans e'
      exact hnf _ dd
    have nfr := outF fl3.2.2.1 he3 hd3
    have nL : a ≠ X.env.locals := fun z => nfr (List.mem_filterMap.mpr ⟨X.env, .head _, hfm.trans (by rw [z])⟩)
    have nF : a ∉ X.fs := fun hm => by
      obtain ⟨e, he, q⟩ := List.mem_filterMap.mp hm
      exact nfr (List.mem_filterMap.mpr ⟨e, .tail _ he, q⟩)
    have sIn : sI.heap.get? a = none := by
      cases z : sI.heap.get? a with
      | none => rfl
      | some o => exact absurd (nb a o z (by rw [hstk]; exact nfr)) (by rw [fl3.2.1]; intro q; cases q)
    have s0n : X.s_0.heap.get? a = none := by
      cases z : X.s_0.heap.get? a with
      | none => rfl
      | some o =>
        obtain ⟨o', q⟩ := J.base.there a o z (by rw [hex]; simp)
        rw [sIn] at q
        cases q
    have pinn : ∀ p ∈ X.pn ++ pins, p.1 ≠ a := fun p hp z => by
      have q := (J.pin p hp).1
      rw [z, sIn] at q
      cases q
    have S3 := J3.suite he3 hd3 na nL nF
    refine wpAny_handleBy_cons (codeAny_handlers_test ?_) (fun q => by cases q)
    have LT : PySem.W.Looks (model X.prog X.w) h3 (typeOf (.ref a)) cls := fun A Q E s k q => wpAny_typeOf_ref (k _ _ he3) (hz3.1.symm ▸ q)
    have LM := PySem.W.exm_one (M := model X.prog X.w) (J3.kIn) LT hb1
    have test : ∀ {Q : Value → Shared → Prop} {E : Value → Shared → Prop}, Q c { s' with heap := h3 } → wpAny (model X.prog X.w) (X.A.mark (some (.ref a))) (eval (.Name x np) X.env) Q E { s' with heap := h3 } := by
      intro Q E q
      rcases hc with ⟨hg, hdbg, hm | ⟨hm, hv, hnn⟩⟩
      · exact ld_glob (X := X.suite a ((a, oe3) :: (X.pn ++ pins))) S3 hg hm q hdbg
      · exact ld_blt (X := X.suite a ((a, oe3) :: (X.pn ++ pins))) S3 hg hm hv q hnn hdbg
    refine test (LM.here ?_)
    cases b with
    | true =>
      refine codeAny_handlers_suite_as (HandSPX.lands_againZ fl3 fun h4 fl4 up4 => ?_)
      have J4 : Inv X pins σ' H' { s' with heap := h4 } := J.landed nb fl4.1 ((up.trans up3).trans up4) os ag
      obtain ⟨oe4, vs4, he4, hz4, hd4⟩ := fl4.there
      have S4 := J4.suite he4 hd4 na nL nF
      refine store_ok (X := X.suite a ((a, oe4) :: (X.pn ++ pins))) (v := .ref a) S4 hN hi (.inl hln) rfl (fun s5 S5 => ?_) (.inr hln)
      have bodyP : PSs (X.suite a ((a, oe4) :: (X.pn ++ pins))) [.Assign [.Name y py] (.Name n n2) pa] (tAsg (tVar i) (gName j)) :=
        pss_one (ps_set (i := j) hN hj (.inl hly) (pe_var (i := i) hi (.inl hln) hnd hnc) (hsw _ rfl) (.inr hly))
      have ilen : i < σ'.length := by rw [J.len]; exact hij
      refine wpAny_mono (bodyP.run [] s5 _ H' { nx := fun σ6 H6 => D.nx (σ6.set i none) (upd H6 a (exA cls d a)), rt := fun _ _ => False, bk := fun _ _ => False, ct := fun _ _ => False } S5 ⟨.ref a, by rw [List.getElem?_set_self ilen], hyes rfl a na⟩) (fun f s6 hsp => ?_) (fun _ _ z => False.elim z)
      cases f with
      | next =>
        obtain ⟨σ6, H6, S6, q6⟩ := hsp
        have pa6 := S6.pin (a, oe4) (by simp)
        have J6 := track (o := exA cls d a) (S6.unsuite okX) pa6.1 hd4 pa6.2.1 s0n nL pinn (exA_ok pa6.1 hz4 hd4)
        exact gone_ok J6 hN hi hln fun s7 J7 => ⟨_, _, J7, q6⟩
      | brk => obtain ⟨σ6, H6, S6, q6⟩ := hsp; exact q6.elim
      | cont => obtain ⟨σ6, H6, S6, q6⟩ := hsp; exact q6.elim
      | ret u => obtain ⟨v6, σ6, H6, S6, r6, q6⟩ := hsp; exact q6.elim
    | false =>
      show wpAny _ X.A (handleBy (.ref a) X.env []) _ _ _
      refine wpAny_handleBy_nil ?_
      obtain ⟨k1, k2, k3, oe, vs, T, oT, ts', he, hz, hd, h1, hr⟩ := id fl3
      unfold PySem.passOn
      refine wpAny_bind (wpAny_field he hd h1 ?_)
      rw [if_neg (show ¬ ((Value.ref T == Value.none) = true) by simp)]
      have fin : wpAny (model X.prog X.w) X.A (setFlight (.ref a) X.env.frame) (fun _ s4 => wpAny (model X.prog X.w) X.A (throw (.ref a) : Sem Flow) (SP X pins D) X.xe s4) X.xe { s' with heap := h3 } := by
        rw [hfm]
        exact HandSPX.setFlight_upZ fl3 fun h4 hh4 up4 => wpAny_throw (tk _ _ ⟨a, B, sI, pins, σ', H', cls, d, rfl, J, nb, (up.trans up3).trans up4, .inr (.inr (by rw [hstk]; exact hh4)), na, os, ag, hno rfl⟩)
      first
        | exact wpAny_bind fin
        | exact wpAny_bind (wpAny_pure (wpAny_bind fin))
  · cases fl with
    | next => exact let ⟨τ, G, K1, z⟩ := hsp; wpAny_execs_nil ⟨τ, G, K1.ofTry okX, z⟩
    | brk => exact let ⟨τ, G, K1, z⟩ := hsp; ⟨τ, G, K1.ofTry okX, z⟩
    | cont => exact let ⟨τ, G, K1, z⟩ := hsp; ⟨τ, G, K1.ofTry okX, z⟩
    | ret u => exact let ⟨v, τ, G, K1, rr, z⟩ := hsp; ⟨v, τ, G, K1.ofTry okX, rr, z⟩
end
end Kw
set_option maxHeartbeats 4000000
namespace Kw
open PySem PySem.Spec PyProof.Rows L2
/-- a kept error of the class at C; v: its one field, if it has a dict -/
def IsExc (H : Hp) (x : V) (C : Addr) (v : Option V) : Prop := ∃ (a : Addr) (d : Option Addr), x = .ref a ∧ H a = some (exA (.ref C) d a) ∧
  match v with
  | none => d = none
  | some v => ∃ dd, d = some dd ∧ H dd = some (.xd [(("at" : Str), v)])
section
variable {X : Cx} {pins : List (Addr × Obj)} {σ : L2.St} {H : Hp} {s : Shared}
theorem exc_inst {a C : Addr} {d : Option Addr} (I : Inv X pins σ H s) (ha : H a = some (exA (.ref C) d a)) (hd : ∀ dd, d = some dd → ∃ fs, H dd = some (.xd fs)) : ∃ ox od, PySem.W.InstAt s.heap a ox C od ∧ ∀ dd, d = some dd → ∃ o, od = some o ∧ s.heap.get? dd = some o := by
  obtain ⟨⟨oe, vs, he, hz, hdt⟩, _⟩ := I.hok a _ ha
  have nc : PySem.W.notCls oe = true := by unfold PySem.W.notCls; rw [hdt] <;> rfl
  cases d with
  | none => exact ⟨oe, none, ⟨he, hz.1, nc, by rw [hz.2]; trivial⟩, fun dd e => by cases e⟩
  | some dd =>
    obtain ⟨fs, hdd⟩ := hd dd rfl
    obtain ⟨mA, hns, hr⟩ : ObjOk X.prog X.w H s.heap dd (.xd fs) := I.hok dd _ hdd
    obtain ⟨o, es, ep, ho, _⟩ := id hns
    exact ⟨oe, some o, ⟨he, hz.1, nc, by rw [hz.2]; exact ho⟩, fun d' e => by cases e; exact ⟨o, rfl, ho⟩⟩
/-- isinstance(e, c) of a kept error -/
theorem call_isX {C : Addr} (T : ExcC X.K C) : CallR X (.builtin "isinstance") (fun xs H Q => ∃ (x c : V) (v : Option V) (cv : Value) (b : Bool), xs = [x, c] ∧ IsExc H x C v ∧ ClsV c cv ∧ PySem.W.kitOne X.K (.ref C) cv = some b ∧ Q (.bl b) H) := by
  intro pins s σ H xs us Q I r h
  obtain ⟨x, c, v, cv, b, rfl, ⟨a, d, rfl, ha, hv⟩, hc, e, q⟩ := h
  obtain ⟨u1, u2, rfl, r1, r2⟩ := vals2 r
  cases (show u1 = Value.ref a from r1)
  have ec := hc.eq r2
  subst ec
  obtain ⟨ox, od, J, _⟩ := exc_inst I ha fun dd ed => by
    cases v with
    | none => rw [show d = none from hv] at ed; cases ed
    | some v =>
      obtain ⟨d2, e2, h2⟩ := hv
      rw [e2] at ed
      cases ed
      exact ⟨_, h2⟩
  have hcl : (PySem.W.clsIn X.K C).isSome = true := by
    obtain ⟨cd, hcd, _⟩ := PySem.W.any_some T.hd
    rw [hcd]
    rfl
  exact PySem.W.kia_one (PySem.W.kitx_exc hcl T.hg T.hk T.hs T.ha T.hn T.ht T.hm) I.kIn J e (fun z => nomatch z) fun tk => ⟨.bl b, H, I.kept (t' := tk) fun _ _ z => z, rfl, q⟩
/-- e.at of a kept error -/
def tXat (C : Addr) (te : TE) : TE := fun σ H Q => te σ H fun x H1 => ∃ v, IsExc H1 x C (some v) ∧ Q v H1
theorem pe_xat {C : Addr} {e : Expr} {te : TE} {pos : Pos} (T : XfC X.K C) (hno : PySem.W.findIn X.K (.ref C) "at" = some none) (he : PE X e te) (hb : attributeBase e "at" X.env (eval e X.env) = eval e X.env := by rfl) : PE X (.Attribute e "at" pos) (tXat C te) := by
  refine ⟨fun pins s σ H Q I h => ?_⟩
  refine attr_of hb (thn (he.run pins s σ H _ I h) fun u s1 hh => ?_)
  obtain ⟨x, H1, I1, rx, v, ⟨a, d, rfl, ha, dd, rfl, hdd⟩, q⟩ := hh
  cases (show u = Value.ref a from rx)
  obtain ⟨mA, hns, hr⟩ : ObjOk X.prog X.w H1 s1.heap dd (.xd [(("at" : Str), v)]) := I1.hok dd _ hdd
  obtain ⟨od, ho, hl⟩ := lookIn_ns hns
  have l : List.lookup ("at" : Str) [(("at" : Str), v)] = some v := by simp [List.lookup]
  obtain ⟨u, hu, ru⟩ := RelO.some_of (v := v) (o := mA "at") (by rw [← l]; exact hr "at")
  obtain ⟨⟨oe, vs, he, hz, hdt⟩, _⟩ := I1.hok a _ ha
  have J : PySem.W.InstAt s1.heap a oe C (some od) := ⟨he, hz.1, by unfold PySem.W.notCls; rw [hdt] <;> rfl, by rw [hz.2]; exact ho⟩
  exact HandSPX.exc_get I1.kIn J T.ga T.gg T.exC (PySem.W.findObj_own T.hdC hno rfl (by rw [hl, hu])) (handed_of ru) ⟨v, H1, I1.tok _, ru, q⟩
end
end Kw
set_option maxHeartbeats 4000000
namespace Kw
open PySem PySem.Spec PyProof.Rows L2 LamX
abbrev sCaught : Stmt := top 38
theorem scCaught : FnScope ["_law_task", "_law_caught_here", "_law_error"] ["_law_task"] (defScope sCaught) := ⟨rfl, rfl, rfl, by decide +kernel, rfl, by decide +kernel, by decide +kernel⟩
/-- an exception's slots are as many as the names -/
theorem Takes.len {X : Cx} {W : WX} (tk : Takes X W) : Takes X (fun cls d σ H => σ.length = X.N.length → W cls d σ H) := fun u s' ⟨a, B, sI, pins, σ, H, cls, d, e, I, nb, up, sky, na, os, ag, wi⟩ =>
  tk u s' ⟨a, B, sI, pins, σ, H, cls, d, e, I, nb, up, sky, na, os, ag, wi I.len⟩
/-- what the catcher makes of its task: None, or the error, kept -/
def TTc (K : PySem.W.Frag) (CE : Addr) : (XK → Hp → VK → Prop) → Hp → VK → Prop := fun tl H Q =>
  tl (fun cls d H' => PySem.W.exmOne K cls (.ref CE) = some true ∧ ∀ a, H' a = none → Q (.ref a) (upd H' a (exA cls d a))) H (fun _ H' => ∃ x, (some (some V.non) : Option (Option V)) = some (some x) ∧ Q x H')
theorem caught_gives {X : Cx} {g CE : Addr} {cdg : Value} {q : Str} (gE : X.mg "KitError" = some (.ref CE)) :
    GivesTo X ["_law_task", "_law_caught_here", "_law_error"] "_law_caught" (defScope sCaught) g cdg (defBody sCaught) "_law_task" q (TTc X.K CE) := by
  intro f c' s H Q tl act hc h
  let Y : Cx := (cxOf C8.CX0 X.prog X.w X.K X.mg X.base ["_law_task", "_law_caught_here", "_law_error"] "_law_caught" (defScope sCaught) g cdg X.A X.stack s H C8.E0).nox
  refine ⟨_, pss_cons (X := Y) (ps_set (i := 1) scCaught.nd rfl (.inl rfl) pe_non)
    (pss_cons (ps_try_keep (X := Y) (i := 2) (j := 1) (c := .ref CE) (tb := fun W D σ H => ∃ Ech : XK, (∀ cls d σ' H', σ'.length = 3 → Ech cls d H' → W cls d σ' H') ∧ σ[0]? = some (some (.ref f)) ∧ H c' = some (CodeO c' q) ∧ tl Ech H (fun _ H' => D.nx σ H'))
      rfl rfl rfl scCaught.nd rfl rfl rfl rfl (by show 2 < 3; decide) ⟨rfl, by decide, .inl gE⟩ L2.takes0 (fun W pn xe tk _ => ?_) (fun Z e => by rw [e]; rfl)) (pss_one (ps_ret (pv 1)))), ?_⟩
  · refine ⟨fun pins s' σ H D I h' => ?_⟩
    obtain ⟨Ech, hW, h1, h2, h3⟩ := h'
    exact (pss_one (ps_expr (act (fun cls d σ H => σ.length = 3 → W cls d σ H) pn xe Ech _ _ (Takes.len tk) (fun cls d σ' H' e hl => hW cls d σ' H' hl e)))).run pins s' σ H D I ⟨h1, h2, h3⟩
  · refine ⟨fun cls d H' => PySem.W.exmOne X.K cls (.ref CE) = some true ∧ ∀ a, H' a = none → Q (.ref a) (upd H' a (exA cls d a)), fun cls d σ' H' hl e => ⟨true, e.1, fun _ a ha => ?_, fun z => Bool.noConfusion z⟩, rfl, hc, ?_⟩
    · refine ⟨.ref a, ?_, e.2 a ha⟩
      match σ', hl with
      | [x, y, z], _ => rfl
    · exact h
end Kw
set_option maxHeartbeats 4000000
/-! a lambda of one parameter, handed to a def as its second argument and called there -/
namespace Kw
open PySem PySem.Spec PyProof.Rows L2 LamX
/-- the lambda's names: its parameter p, captured ones, globals -/
structure LamP (sc scope : Scope) (p : Str) : Prop where
  kind : scope.kind = .function
  co : scope.isCoroutine = false
  gen : scope.isGenerator = false
  par : scope.names.lookup p = some .local
  one : ∀ y, scope.names.lookup y = some .local → y = p
  nocell : ∀ y ∈ scope.names, y.2 ≠ .cell
  free : ∀ y ∈ scope.names, y.2 = .free → sc.names.lookup y.1 = some .cell ∨ sc.names.lookup y.1 = some .free
section
variable {X : Cx} {pins : List (Addr × Obj)} {σ : L2.St} {H HZ : Hp} {s s1 : Shared}
theorem LamP.has {scope : Scope} {p : Str} (L : LamP X.env.scope scope p) (ok : X.Ok) : ∀ y ∈ scope.names, y.2 = .free → ∃ c, X.env.cells.lookup y.1 = some c := fun y hy e => (L.free y hy e).elim (fun k => ok.has _ (.inl k)) fun k => ok.has _ (.inr k)
theorem lam_startP {A : Around} {outer : List Env} {E : XK} {scope : Scope} {p : Str} {j : Nat} {v : V} {u : Value} {f c' : Addr} {h₁ : Heap} {tk : Nat} (I : Inv X pins σ H s) (L : LamP X.env.scope scope p) (hN : X.N.Nodup) (hj : X.N[j]? = some p) (rv : RelV v u)
    (e0 : Env0 X.prog X.w X.K X.mg X.base A outer s1 HZ) (hd : A.handled = none) (un : Un (frs X.stack) [] H HZ s.heap s1.heap) (hns : h₁.Ns s1.heap.objs.size fun y => [(p, u)].reverse.lookup y) (kp : ∀ b o, s1.heap.get? b = some o → h₁.get? b = some o) :
    Inv (lamCx X A outer s1 HZ E scope f c') [] (σ.set j (some v)) HZ { s1 with heap := h₁, toks := tk } := by
  have hasC := L.has I.ok
  have cm : ∀ {y c}, (cloFrom X.env.cells scope.names []).lookup y = some c → X.env.cells.lookup y = some c := fun {y c} e => by
    rcases cloFrom_mem (PySem.mem_of_lookup e) with hm | ⟨h1, h2⟩
    · cases hm
    · obtain ⟨c1, hc⟩ := hasC _ h1 rfl
      have hc' : X.env.cells.lookup y = some c1 := hc
      rw [hc'] at h2 ⊢
      rw [h2]
      rfl
  have look : ∀ {y}, scope.names.lookup y = some .free → ∃ c, (cloFrom X.env.cells scope.names []).lookup y = some c := fun {y} hl =>
    mem_lookup (cloFrom_has (cells := X.env.cells) (acc := []) (show (y, NameKind.free) ∈ scope.names from PySem.mem_of_lookup hl))
  have cellK : ∀ {c : Addr} {v : Option Value}, H c = none → s.heap.IsCell c v → h₁.IsCell c v := fun {c v} n ⟨o, ho, hd⟩ => by
    obtain ⟨sl, q⟩ := un.any ho n (by simp)
    exact ⟨_, kp _ _ q, hd⟩
  have noA : ∀ b : Addr, b ∉ (lamCx X A outer s1 HZ E scope f c').ex := fun b z => absurd (show b ∈ ([] : List Addr) from z) (by simp)
  have noCell : ∀ y, scope.names.lookup y ≠ some .cell := fun y h => L.nocell _ (PySem.mem_of_lookup h) rfl
  refine ⟨⟨e0.mod, L.kind, rfl, rfl, Nat.le_refl _, fun y z c e1 e2 => I.ok.inj y z c (cm e1) (cm e2), fun y hy => ?_, fun y c z _ => (Bool.noConfusion (show false = true from z)), fun _ => hd, Around.frames_deeper e0.frames, .inr ⟨rfl, rfl⟩, fun b z => absurd z (noA b), e0.bs, e0.bsz, fun b _ _ => noA b,
      fun b z => absurd z (noA b), e0.funs, e0.frf⟩,
    rfl, e0.bare, Un.kept kp, ⟨_, hns, fun i y v' e1 e2 e3 => ?_⟩, fun y c e => ?_, e0.hok.fresh (Nat.le_refl _), fun y c e => ?_, fun q hq => absurd (show q ∈ ([] : List (Addr × Obj)) ++ [] from hq) (by simp), e0.hok.kept kp, by rw [List.length_set]; exact I.len⟩
  · have hy : scope.names.lookup y = some .cell ∨ scope.names.lookup y = some .free := hy
    exact hy.elim (fun h => absurd h (noCell y)) look
  · have e3 : Vis scope y := e3
    have e1 : X.N[i]? = some y := e1
    rcases e3 with k | k | k
    · obtain rfl := L.one y k
      obtain rfl : i = j := by
        obtain ⟨i1, i2⟩ := List.getElem?_eq_some_iff.mp e1
        obtain ⟨j1, j2⟩ := List.getElem?_eq_some_iff.mp hj
        exact (List.getElem_inj hN).mp (i2.trans j2.symm)
      have hi : i < σ.length := by rw [I.len]; exact (List.getElem?_eq_some_iff.mp e1).1
      rw [List.getElem?_set_self hi] at e2
      obtain rfl := Option.some.inj (Option.some.inj e2)
      exact ⟨u, rv, .inl ⟨k, by simp⟩⟩
    · exact absurd k (noCell y)
    · have hij : j ≠ i := fun z => by
        subst z
        rw [hj] at e1
        obtain rfl := Option.some.inj e1
        rw [L.par] at k
        cases k
      rw [List.getElem?_set_ne hij] at e2
      obtain ⟨m, hn, hl⟩ := I.loc
      have hvis : Vis X.env.scope y := (L.free _ (PySem.mem_of_lookup k) rfl).elim (fun k => .inr (.inl k)) (fun k => .inr (.inr k))
      obtain ⟨w', r, q⟩ := hl i y v' e1 e2 hvis
      obtain ⟨c2, h2⟩ := look k
      refine ⟨w', r, .inr ⟨.inr k, c2, h2, ?_⟩⟩
      have c1 := cm h2
      rcases q with ⟨k', _⟩ | ⟨_, c3, e', z⟩
      · have k' : X.env.scope.names.lookup y = some .local := k'
        rcases L.free _ (PySem.mem_of_lookup k) rfl with k2 | k2 <;> (rw [show X.env.scope.names.lookup y = _ from k2] at k'; cases k')
      · rw [c1] at e'
        cases e'
        exact cellK (I.freeC y _ c1) z
  · obtain ⟨w', z⟩ := I.cell y c (cm e)
    exact ⟨w', cellK (I.freeC y c (cm e)) z⟩
  · obtain ⟨v', o, ho, hd'⟩ := I.cell y c (cm e)
    exact un.free c o ho (I.freeC y c (cm e)) (by simp)
end
end Kw
set_option maxHeartbeats 4000000
namespace Kw
open PySem PySem.Spec PyProof.Rows L2 LamX
/-- the context of the def that got the lambda -/
abbrev gotCx (X : Cx) (Ng : List Str) (x : Str) (sg : Scope) (g : Addr) (cdg : Value) (s : Shared) (H : Hp) : Cx := (cxOf C8.CX0 X.prog X.w X.K X.mg X.base Ng x sg g cdg X.A X.stack s H C8.E0).nox
section
variable {X : Cx} {pins : List (Addr × Obj)} {σ : L2.St} {H : Hp} {s : Shared}
/-- a(e), in the def that got the lambda as a -/
theorem pe_actP {Ng : List Str} {qg : Str} {sg : Scope} {g f c' : Addr} {cdg pm ctv : Value} {params : Arguments} {body : Expr} {scope : Scope} {k i j : Nat} {a p : Str} {tb : TE} {e : Expr} {te : TE} {p1 p2 : Pos}
    (I : Inv X pins σ H s) (L : LamP X.env.scope scope p) (hNX : X.N.Nodup) (hj : X.N[j]? = some p) (hf : s.heap.get? f = some (PySem.W.kla_obj "<lambda>" (X.env.qual ++ "<lambda>") params body scope (cloFrom X.env.cells scope.names []) pm c' ctv)) (hfn : H f = none) (hfr : f ∉ frs X.stack)
    (hbind : ∀ u : Value, bindArgs (PySem.W.kla_fn "<lambda>" (X.env.qual ++ "<lambda>") params body scope (cloFrom X.env.cells scope.names []) pm (.ref c') ctv) ⟨[u], []⟩ = pure [(p, u)]) (hr : Room (k + 1) (X.A.deeper (envOfC qg sg s.heap.objs.size g cdg)))
    (hbody : ∀ (A : Around) (outer : List Env) (s : Shared) (H : Hp), Room k (A.deeper (lamEnv X scope s.heap.objs.size f c')) → PE (lamCx X A outer s H C8.E0 scope f c') body tb)
    (hN : Ng[i]? = some a) (hv : Vis sg a) (he : PE (gotCx X Ng qg sg g cdg s H) e te) (hs : starEach [e] (gotCx X Ng qg sg g cdg s H).env = (false, eval e (gotCx X Ng qg sg g cdg s H).env) :: starEach [] (gotCx X Ng qg sg g cdg s H).env)
    (hd : (a == ("__debug__" : Str)) = false := by decide) (hcd : (a == ("__classdict__" : Str)) = false := by decide) :
    PE (gotCx X Ng qg sg g cdg s H) (.Call (.Name a p1) [e] [] p2)
      (fun σZ HZ Q => σZ[i]? = some (some (.ref f)) ∧ te σZ HZ fun v H1 => H1 c' = some (CodeO c' (X.env.qual ++ "<lambda>")) ∧ tb (σ.set j (some v)) H1 Q) := by
  refine ⟨fun pinsZ sZ σZ HZ Q IZ h => ?_⟩
  obtain ⟨hs0, ht⟩ := h
  refine wpAny_Call_Name_kw (thn ((pe_var (pos := p1) (i := i) hN hv hd hcd).run pinsZ sZ σZ HZ (fun v H1 => v = .ref f ∧ H1 = HZ) IZ ⟨.ref f, hs0, rfl, rfl⟩) fun u s0 ⟨v, H0, I0, r0, q0⟩ => ?_)
  obtain ⟨ev, eH⟩ := q0
  subst ev
  rw [eH] at I0
  obtain rfl : u = Value.ref f := r0
  have ofAt : ∀ {s1 : Shared} {H1 : Hp}, Inv (gotCx X Ng qg sg g cdg s H) pinsZ σZ H1 s1 → s1.heap.get? f = some (PySem.W.kla_obj "<lambda>" (X.env.qual ++ "<lambda>") params body scope (cloFrom X.env.cells scope.names []) pm c' ctv) :=
    fun I1 => I1.base.keep f _ hf hfn hfr (fun z => nomatch (show f ∈ ([] : List Addr) from z))
  refine PySem.W.callWith_F ⟨_, _, _, _, ofAt I0⟩ ?_ hs (by rfl)
  rw [hs]
  show wpAny _ _ (spliced ((false, eval e (gotCx X Ng qg sg g cdg s H).env) :: [])) _ _ s0
  refine Calls.spliced_cons (thn (he.run pinsZ s0 σZ HZ _ I0 ht) fun u s1 ⟨v, H1, I1, rv, hc, q1⟩ => Calls.spliced_nil ⟨⟨_, _, _, _, ofAt I1⟩, ?_⟩)
  have of1 := ofAt I1
  have un : Un (frs X.stack) [] H H1 s.heap s1.heap := I1.base
  obtain ⟨⟨oc, vs, t, hoc, hdc, hvc⟩, _, _⟩ := I1.hok c' _ hc
  have rc : codeAny (model X.prog X.w) (X.A.deeper (envOfC qg sg s.heap.objs.size g cdg)) (.call (.ref f) ⟨[u], []⟩) (CR (L2.CX X.prog X.w) (envOfC qg sg s.heap.objs.size g cdg :: X.stack) X.prog X.w H1 s1 Q C8.E0) s1 := by
    refine PySem.W.kla_callFunE hr.depth of1 rfl L.co L.gen rfl ⟨c', oc, vs, t, rfl, hoc, hdc, hvc⟩ ?_
    rw [hbind]
    refine wpAny_pure (wpAny_newFunctionEnv (fun y hy => L.nocell y hy) (fun y hy => by
      obtain rfl := List.mem_singleton.mp hy
      exact L.par) (fun h₁ hns hsb => ⟨I1.nolimit.fresh _ hsb, ?_⟩) L.kind)
    show codeAny _ _ (.expr body (lamEnv X scope s1.heap.objs.size f c')) _ _
    have kp : ∀ b o, s1.heap.get? b = some o → h₁.get? b = some o := fun b o q => hsb.extBut b o (Nat.ne_of_lt (Heap.lt_size q)) (Heap.get?_push_of_some _ q)
    have J := lam_startP (A := X.A.deeper (envOfC qg sg s.heap.objs.size g cdg)) (outer := envOfC qg sg s.heap.objs.size g cdg :: X.stack) (E := C8.E0) (f := f) (c' := c') (tk := s1.toks + 1) I L hNX hj rv I1.env0 hr.hd un hns kp
    refine PySem.W.kla_codeExpr (wpAny_mono ((hbody _ _ s1 H1 (hr.deeper _)).run [] _ _ H1 Q J q1) (fun v' s' hq => ?_) fun e' s' hq => hq)
    obtain ⟨w', H', J', rv', q'⟩ := hq
    exact ⟨w', H', J'.os, J'.bare, J'.base, J'.hok, rv', q'⟩
  refine wpAny_call (codeAny_mono rc fun r s' hq => ?_)
  cases r with
  | error e' =>
    obtain ⟨_, _, _, _, _, _, _, _, _, _, _, _, z⟩ := hq
    exact z.elim
  | ok fl =>
    cases fl with
    | ret u => exact I1.after hq
    | next => exact False.elim hq
    | brk => exact False.elim hq
    | cont => exact False.elim hq
end
end Kw
set_option maxHeartbeats 4000000
namespace Kw
open PySem PySem.Spec PyProof.Rows L2 LamX
/-- the def x (its second parameter a) that calls what it got with one argument; TT: what it makes of the lambda's reading -/
def GivesP (X : Cx) (Ng : List Str) (x : Str) (sg : Scope) (g : Addr) (cdg : Value) (bg : List Stmt) (a : Str) (q : Str) (TT : (V → Hp → VK → Prop) → V → Hp → VK → Prop) : Prop :=
  ∀ (f c' : Addr) (v1 : V) (s : Shared) (H : Hp) (Q : VK) (tl : V → Hp → VK → Prop), Room 1 (gotCx X Ng x sg g cdg s H).A →
    (∀ (e : Expr) (te : TE) (p1 p2 : Pos), PE (gotCx X Ng x sg g cdg s H) e te → starEach [e] (gotCx X Ng x sg g cdg s H).env = (false, eval e (gotCx X Ng x sg g cdg s H).env) :: starEach [] (gotCx X Ng x sg g cdg s H).env →
      PE (gotCx X Ng x sg g cdg s H) (.Call (.Name a p1) [e] [] p2) (fun σZ HZ Q => σZ[1]? = some (some (.ref f)) ∧ te σZ HZ fun v H1 => H1 c' = some (CodeO c' q) ∧ tl v H1 Q)) →
    H c' = some (CodeO c' q) → TT tl v1 H Q →
    ∃ t, PSs (gotCx X Ng x sg g cdg s H) bg t ∧ t { nx := fun _ H' => Q .non H', rt := Q } (L2.start Ng [v1, .ref f]) H
def tLamP (T : List (Addr × Str)) (TT : (V → Hp → VK → Prop) → V → Hp → VK → Prop) (t1 tb : TE) (j : Nat) : TE := fun σ H Q => t1 σ H fun v1 H0 => Tabs T H0 ∧ ∀ H1, ExtN H0 H1 → Tabs T H1 → TT (fun v H' Q' => tb (σ.set j (some v)) H' Q') v1 H1 Q
section
variable {X : Cx}
/-- x(e1, lambda p: body) -/
theorem pe_lamcallP {T : List (Addr × Str)} {TT : (V → Hp → VK → Prop) → V → Hp → VK → Prop} {x a b lp : Str} {g c P : Addr} {k j : Nat} {pg : Arguments} {bg : List Stmt} {sg : Scope} {dV kV doc pm cdv ct oc : Value} {an od : Option Addr} {osl : Array (Option Value)} {Ng : List Str}
    {params : Arguments} {body e1 : Expr} {scope : Scope} {t1 tb : TE} {p lpos pos : Pos} (hg : Gl X x) (hm : X.mg x = some (.ref g)) (hk : PySem.W.keepIn X.K (.ref g) = true)
    (lk : X.K.lookup g = some ⟨oc, od, .func (PySem.W.fnOf x x pg bg sg dV kV doc pm an cdv ct), osl⟩) (hcg : PySem.W.codeIn X.K cdv x = true) (hb : L2.Binds X.K (PySem.W.fnOf x x pg bg sg dV kV doc pm an cdv ct) [b, a] []) (Sg : FnScope Ng [b, a] sg) (hNg : Ng[1]? = some a) (hva : Vis sg a)
    (hG : GivesP X Ng x sg g cdv bg a (X.env.qual ++ "<lambda>") TT)
    (TB : TabB X.base X.mg c P) (hcode : X.env.code = .ref c) (hmT : (P, X.env.qual ++ "<lambda>") ∈ T) (hu : ∀ p ∈ T, p.1 = P → p.2 = X.env.qual ++ "<lambda>") (hr : Room (k + 3) X.A) (L : LamP X.env.scope scope lp) (hNX : X.N.Nodup) (hj : X.N[j]? = some lp) (hdef : defaultsOf params X.env = ([], []))
    (hbind : ∀ (q : Str) (cl : List (Str × Addr)) (pm cv ctv : Value) (u : Value), bindArgs (PySem.W.kla_fn "<lambda>" q params body scope cl pm cv ctv) ⟨[u], []⟩ = pure [(lp, u)])
    (h1 : PE X e1 t1) (hbody : ∀ (A : Around) (outer : List Env) (s : Shared) (H : Hp) (f c' : Addr), Room k (A.deeper (lamEnv X scope s.heap.objs.size f c')) → PE (lamCx X A outer s H C8.E0 scope f c') body tb)
    (hs : starEach [e1, .Lambda params body scope lpos] X.env = (false, eval e1 X.env) :: (false, eval (.Lambda params body scope lpos) X.env) :: [] := by rfl)
    (hdb : (x == ("__debug__" : Str)) = false := by decide) (hd : (a == ("__debug__" : Str)) = false := by decide) (hcd : (a == ("__classdict__" : Str)) = false := by decide) :
    PE X (.Call (.Name x p) [e1, .Lambda params body scope lpos] [] pos) (tLamP T TT t1 tb j) := by
  refine ⟨fun pins s σ H Q I h => ?_⟩
  refine wpAny_Call_Name_kw (ld_glob I hg hm ?_ hdb)
  have hs2 : starEach [e1, .Lambda params body scope lpos] X.env = (false, eval e1 X.env) :: starEach [.Lambda params body scope lpos] X.env := by rw [hs]; rfl
  refine PySem.W.callWith_K (h₀ := X.base) I.ok.mod.kin hk ?_ hs2 (by rfl)
  rw [hs]
  show wpAny _ _ (spliced ((false, eval e1 X.env) :: (false, eval (.Lambda params body scope lpos) X.env) :: [])) _ _ s
  refine Calls.spliced_cons (thn (h1.run pins s σ H _ I h) fun u1 s0 ⟨v1, H0, I0, rv1, hT, hq0⟩ => ?_)
  refine Calls.spliced_cons (lam_make2 I0 TB hcode hmT hu hT hdef (L.has I0.ok) fun f c' pm' ctv H1 s' I1 eN T1 hf hfn hfr hco => Calls.spliced_nil ⟨I1.kIn, ?_⟩)
  have rc : codeAny (model X.prog X.w) X.A (.call (.ref g) ⟨[u1, .ref f], []⟩) (CR C8.CX0 X.stack X.prog X.w H1 s' Q C8.E0) s' := by
    refine run_ofS (N := Ng) (ps := [b, a]) (us := [u1, .ref f]) (vs := [v1, .ref f]) (hr.mono (j := (k + 1) + 1) (by omega) |> fun r => lk) hcg Sg (hr.mono (j := (k + 1) + 1) (by omega)) I1.env0 (hb s' [u1, .ref f] I1.kIn rfl) (.cons rv1 (.cons rfl .nil)) rfl fun hr' => ?_
    obtain ⟨t', ht', hq'⟩ := hG f c' v1 s' H1 Q (fun v H' Q' => tb (σ.set j (some v)) H' Q') (hr'.mono (by omega))
      (fun e te p1 p2 he hse => pe_actP I1 L hNX hj hf hfn hfr (hbind _ _ _ _ _) hr' (fun A outer s H hr2 => hbody A outer s H f c' hr2) hNg hva he hse hd hcd) hco (hq0 H1 eN T1)
    exact ⟨t', ht'.nox, hq'⟩
  refine wpAny_call (codeAny_mono rc fun r s2 hq => ?_)
  cases r with
  | error e => exact (show False from hq).elim
  | ok fl =>
    cases fl with
    | ret u => exact I1.after hq
    | next => exact False.elim hq
    | brk => exact False.elim hq
    | cont => exact False.elim hq
end
end Kw
set_option maxHeartbeats 4000000
namespace Kw
open PySem PySem.Spec PyProof.Rows L2 LamX
open PySem.W (AllAlike Sortable EachIs KeyPure KeepsBut dataLe alike alikeAll)
/-! ### sorted(xs, key=f), xs a list or a tuple -/
def IsSeqAt (h : Heap) (a : Addr) (items : Array Value) : Prop := ∃ o n T, h.get? a = some o ∧ (T = "list" ∨ T = "tuple") ∧ o.cls = .type T ∧ o.data = .seq items n
section
variable {prog : Program} {w : World} {A : Around} {E : Value → Shared → Prop} {s : Shared} {β : Type} {R : Value → β → Prop} {vs : List Value} {bs : List β}
theorem sorted_key_seq {l : Addr} {f : Value} {kw : List (Str × Value)} {b : Bool} {Q : Value → Shared → Prop} (k : β → PyData) (hl : IsSeqAt s.heap l vs.toArray) (e : EachIs R vs bs) (hal : AllAlike (bs.map k)) (hk : Sortable (bs.map k)) (hL : bs.length ≤ sizeLine)
    (hu : ∀ x, x ∈ bs → A.units + 2 + (k x).depth < cLine) (ha1 : argsOk "sorted" ⟨[.ref l], kw⟩) (ha2 : ∀ x, argsOk "list.sort" ⟨[.ref x], kw⟩) (ht : ∀ x, Builtin.«list.sort» ⟨[.ref x], kw⟩ = ksk_tree x f b)
    (turn : ∀ (v : Value) (x : β), R v x → x ∈ bs → ∀ (h : Heap) (tk : Nat), (∀ b o, s.heap.get? b = some o → h.get? b = some o) → wpAny (model prog w) A.in1.in1 (call f [v]) (KeyPure (k x) { s with heap := h, toks := tk }) (fun _ _ => False) { s with heap := h, toks := tk })
    (h : ∀ D out c h' tk, (∀ b o, s.heap.get? b = some o → h'.get? b = some o) → s.heap.get? D = none → h'.get? D = some (seqObj "list" (List.toArray out) c) → out.length = bs.length → EachIs R out (bs.mergeSort (dataLe b k)) → Q (.ref D) { s with heap := h', toks := tk }) :
    wpAny (model prog w) A (call (.builtin "sorted") [.ref l] kw) Q E s := by
  obtain ⟨o, n, T, ho, hT, hc, hd⟩ := hl
  have hz : vs.length ≤ sizeLine := by rw [e.length]; exact hL
  refine call_function_entry_kw kind_sorted plain_sorted entry_sorted ha1 ?_
  unfold Builtin.«sorted»
  refine wpAny_bind (m := checkCount "sorted" 1 1 _) (wpAny_pure ?_)
  refine wpAny_bind (wpAny_collect_seq l hT ho hc hd (fun h1 k1 => ?_) (by rw [List.size_toArray]; exact hz))
  refine wpAny_bind (wpAny_newList ?_ hz)
  have hget : (h1.push (seqObj "list" vs.toArray 0)).get? h1.objs.size = some (seqObj "list" vs.toArray 0) := Heap.get?_push_size _ rfl
  have hfree : s.heap.get? h1.objs.size = none := by
    cases q : s.heap.get? h1.objs.size with
    | none => rfl
    | some o' => exact absurd (Heap.lt_size (k1 _ _ q)) (Nat.lt_irrefl _)
  have up : ∀ {g : Heap}, KeepsBut h1.objs.size (h1.push (seqObj "list" vs.toArray 0)) g → ∀ b o, s.heap.get? b = some o → g.get? b = some o := fun {g} kp b o q =>
    kp b o (fun z => by rw [z, hfree] at q; cases q) (Heap.get?_push_of_some _ (k1 _ _ q))
  refine wpAny_bind (wpAny_holding (wpAny_call_entry_kw slot_list_sort ⟨_, hget, rfl⟩ entry_list_sort ?body (ha2 _)))
  case body =>
    show wpAny (model prog w) A.in1.in1 (Builtin.«list.sort» ⟨[.ref h1.objs.size], kw⟩) _ _ _
    rw [ht]
    refine PySem.W.keyH_tree (kz := bs.map k) (s := { s with heap := h1.push (seqObj "list" vs.toArray 0) }) hget (by rw [List.length_map]; exact e.length.symm) hz hal hk (PySem.W.bound_map (A := A.in1.in1) hu)
      (PySem.W.keyH_turns (s := { s with heap := h1.push (seqObj "list" vs.toArray 0) }) e fun v x hR hx h tk kp => turn v x hR hx h tk (up kp)) fun h' tk out c kp hD ko => ?_
    refine ⟨_, rfl, wpAny_pure ⟨_, rfl, ?_⟩⟩
    exact h _ out c h' tk (up kp) hfree hD ((ko.length (by rw [List.length_map]; exact e.length.symm)).trans e.length) (PySem.W.keyedOut_each k ko e)
/-- lambda p: p[0], of a tuple -/
theorem call_fst {q : Str} {params : Arguments} {p : Str} {q1 q2 q3 : Pos} {kk : Nat} {scope : Scope} {cl : List (Str × Addr)} {pm ctv : Value} {f c' t : Addr} {l : List Value} {x : Value} {Q : Value → Shared → Prop}
    (hf : s.heap.get? f = some (PySem.W.kla_obj "<lambda>" q params (.Subscript (.Name p q1) (.Constant (.int 0) kk q2) q3) scope cl pm c' ctv)) (hcr : s.heap.CodeRec (.ref c') q) (nl : s.heap.NoLimit) (hroom : A.depth < recursionLimit)
    (hk : scope.kind = .function) (hco : scope.isCoroutine = false) (hgen : scope.isGenerator = false) (hp : scope.names.lookup p = some .local) (hnc : ∀ y ∈ scope.names, y.2 ≠ .cell)
    (hbind : ∀ u : Value, bindArgs (PySem.W.kla_fn "<lambda>" q params (.Subscript (.Name p q1) (.Constant (.int 0) kk q2) q3) scope cl pm (.ref c') ctv) ⟨[u], []⟩ = pure [(p, u)])
    (ht : IsTup s.heap t l.toArray) (h0 : l[0]? = some x) (hd : (p == ("__debug__" : Str)) = false) (hq : ∀ h' tk, (∀ b o, s.heap.get? b = some o → h'.get? b = some o) → Q x { s with heap := h', toks := tk }) :
    wpAny (model prog w) A (call (.ref f) [.ref t]) Q E s := by
  refine wpAny_call (codeAny_mono (R := fun r s' => ∃ u, r = .ok (.ret u) ∧ Q u s') ?_ fun r s' hr => ?_)
  · refine PySem.W.kla_callFunE hroom hf rfl hco hgen rfl hcr ?_
    rw [hbind]
    refine wpAny_pure (wpAny_newFunctionEnv hnc (fun y hy => by
      obtain rfl := List.mem_singleton.mp hy
      exact hp) (fun h₁ hns hsb => ⟨nl.fresh _ hsb, ?_⟩) hk)
    have kp : ∀ b o, s.heap.get? b = some o → h₁.get? b = some o := fun b o q => hsb.extBut b o (Nat.ne_of_lt (Heap.lt_size q)) (Heap.get?_push_of_some _ q)
    refine PySem.W.kla_codeExpr (Subscript_ (wpAny_Name (wpAny_loadName_local (v := .ref t) hk hp hns (by simp) ?_) hd))
    refine wpAny_Constant_int ?_
    obtain ⟨o, ho, hc, n, hdd⟩ := ht
    have h0' : 0 < l.length := by
      cases l with
      | nil => simp at h0
      | cons _ _ => simp
    refine item_tupleL (l := l) (j := 0) ⟨o, kp _ _ ho, hc, n, hdd⟩ (by decide) (by decide) ?_ h0 ⟨_, rfl, hq _ _ kp⟩
    simp [seqIndex?, h0']
  · obtain ⟨u, rfl, hu⟩ := hr
    exact hu
end
end Kw
set_option maxHeartbeats 4000000
namespace Kw
open PySem PySem.Spec PyProof.Rows L2 LamX
open PySem.W (AllAlike Sortable EachIs KeyPure KeepsBut dataLe dataLt alike alikeAll)
/-- a version's key as data -/
def keyD (v : Ver) : PyData := .tuple ((vl v).map PyData.int)
theorem keyLt (v u : Ver) : dataLt (keyD v) (keyD u) = decide (ltV v u) := by
  unfold keyD
  rw [PySem.W.dataLt_tuple]
  have e := PySem.W.dataLt_ints (vl v) (vl u)
  unfold PySem.W.rowLt at e
  rw [e]
  refine decide_eq_decide.mpr ?_
  unfold ltV
  show ([v.1, v.2.1, v.2.2] : List Int) < [u.1, u.2.1, u.2.2] ↔ _
  rw [List.cons_lt_cons_iff, List.cons_lt_cons_iff, List.cons_lt_cons_iff]
  simp
abbrev VS := V × (Ver × Option Ver)
abbrev keyS (b : VS) : PyData := keyD b.2.1
theorem keyLe : dataLe false keyS = fun (p q : VS) => !decide (ltV q.2.1 p.2.1) := by
  funext p q
  show (!dataLt (keyD q.2.1) (keyD p.2.1)) = _
  rw [keyLt]
theorem sorted_pw (bs : List VS) : (bs.mergeSort (dataLe false keyS)).Pairwise fun p q => ¬ ltV q.2.1 p.2.1 := by
  rw [keyLe]
  have h := List.pairwise_mergeSort (le := fun (p q : VS) => !decide (ltV q.2.1 p.2.1)) (fun a b c h1 h2 => by
    simp only [Bool.not_eq_true', decide_eq_false_iff_not] at h1 h2 ⊢
    unfold ltV at *
    omega) (fun a b => by
    simp only [Bool.or_eq_true, Bool.not_eq_true', decide_eq_false_iff_not]
    unfold ltV
    omega) bs
  refine h.imp fun {p q} h => ?_
  simpa using h
theorem eachV : ∀ {bs : List VS} {us : List Value}, Vals (bs.map (·.1)) us → ∀ ys : List VS, (∀ x ∈ bs, x ∈ ys) → EachIs (fun (u : Value) (x : VS) => RelV x.1 u ∧ x ∈ ys) us bs
  | [], _, .nil, _, _ => .nil
  | x :: xs, _, .cons r t, ys, h => .cons ⟨r, h x List.mem_cons_self⟩ (eachV t ys fun z hz => h z (List.mem_cons_of_mem _ hz))
theorem valsE : ∀ {bs ys : List VS} {us : List Value}, EachIs (fun (u : Value) (x : VS) => RelV x.1 u ∧ x ∈ ys) us bs → Vals (bs.map (·.1)) us
  | _, _, _, .nil => .nil
  | _, _, _, .cons r t => .cons r.1 (valsE t)
/-- xs stands at l, as a list or a tuple -/
def SqLT (K : PySem.W.Frag) (H : Hp) (l : Addr) (xs : List V) : Prop := SqL K H l xs ∨ SqT K H l xs
def tSortK (K : PySem.W.Frag) (T : List (Addr × Str)) (t1 : TE) : TE := fun σ H Q => t1 σ H fun v1 H0 => Tabs T H0 ∧ ∀ H1, ExtN H0 H1 → Tabs T H1 → ∃ (l : Addr) (bs : List VS), v1 = .ref l ∧ SqLT K H1 l (bs.map (·.1)) ∧
  (∀ b ∈ bs, ∃ t r a, b.1 = .ref t ∧ SqT K H1 t (.ref a :: r) ∧ SqT K H1 a (v3 b.2.1)) ∧
  ∀ (D : Addr) (bs' : List VS), H1 D = none → bs'.Perm bs → bs'.Pairwise (fun p q => ¬ ltV q.2.1 p.2.1) → Q (.ref D) (upd H1 D (.lst (bs'.map (·.1))))
section
variable {X : Cx}
theorem seqLT {pins : List (Addr × Obj)} {σ : L2.St} {H : Hp} {s : Shared} {l : Addr} {xs : List V} (I : Inv X pins σ H s) (h : SqLT X.K H l xs) : ∃ its : List Value, Vals xs its ∧ IsSeqAt s.heap l its.toArray ∧ xs.length ≤ sizeLine := by
  rcases h with h | h
  · obtain ⟨its, r, ⟨o, n, ho, hc, _, hd⟩, z⟩ := I.list h
    exact ⟨its, r, ⟨o, n, "list", ho, .inl rfl, hc, hd⟩, z⟩
  · obtain ⟨its, r, ⟨o, ho, hc, n, hd⟩, z⟩ := I.tuple h
    exact ⟨its, r, ⟨o, n, "tuple", ho, .inr rfl, hc, hd⟩, z⟩
/-- sorted(e1, key=lambda p: p[0]), of a list or a tuple of tuples whose first items are versions -/
theorem pe_sortedKey {T : List (Addr × Str)} {c P : Addr} {k kk : Nat} {params : Arguments} {lp : Str} {e1 : Expr} {scope : Scope} {t1 : TE} {p q1 q2 q3 lpos kpos pos : Pos} (hg : Gl X "sorted") (hm : X.mg "sorted" = none)
    (TB : TabB X.base X.mg c P) (hcode : X.env.code = .ref c) (hmT : (P, X.env.qual ++ "<lambda>") ∈ T) (hu : ∀ p ∈ T, p.1 = P → p.2 = X.env.qual ++ "<lambda>") (hr : Room (k + 3) X.A)
    (hk : scope.kind = .function) (hco : scope.isCoroutine = false) (hgen : scope.isGenerator = false) (hp : scope.names.lookup lp = some .local) (hnc : ∀ y ∈ scope.names, y.2 ≠ .cell) (hfr : ∀ y ∈ scope.names, y.2 ≠ .free) (hdef : defaultsOf params X.env = ([], []))
    (hbind : ∀ (q : Str) (cl : List (Str × Addr)) (pm cv ctv : Value) (u : Value), bindArgs (PySem.W.kla_fn "<lambda>" q params (.Subscript (.Name lp q1) (.Constant (.int 0) kk q2) q3) scope cl pm cv ctv) ⟨[u], []⟩ = pure [(lp, u)])
    (h1 : PE X e1 t1) (hd : (lp == ("__debug__" : Str)) = false := by decide) (he : backTo pos (starEach [e1] X.env) = (false, eval e1 X.env) :: backTo pos (starEach [] X.env) := by rfl) (hpl : (backTo pos (starEach [e1] X.env)).any (·.1) = false := by rfl) :
    PE X (.Call (.Name "sorted" p) [e1] [⟨some "key", .Lambda params (.Subscript (.Name lp q1) (.Constant (.int 0) kk q2) q3) scope lpos, kpos⟩] pos) (tSortK X.K T t1) := by
  refine ⟨fun pins s σ H Q I h => ?_⟩
  refine wpAny_Call_Name_kw (ld_blt (u := .builtin "sorted") I hg hm (by first | rfl | kernel_rfl) ?_ (by decide) (by decide))
  refine PyProof.Rows.callWith_kw ?_ he hpl (by rfl) (by rfl)
  rw [he]
  refine Calls.spliced_cons (thn (h1.run pins s σ H _ I h) fun u1 s0 ⟨v1, H0, I0, rv1, hT, hq0⟩ => Calls.spliced_nil ?_)
  refine kwAll_cons (lam_make2 I0 TB hcode hmT hu hT hdef (fun y hy e => absurd e (hfr y hy)) fun f c' pm' ctv H1 s' I1 eN T1 hf hfn hfrs hco' => kwAll_nil ?_)
  obtain ⟨l, bs, rfl, hl, hx, q⟩ := hq0 H1 eN T1
  rw [show u1 = Value.ref l from rv1]
  obtain ⟨its, rv, hseq, hz⟩ := seqLT I1 hl
  obtain ⟨⟨oc, vs, t, hoc, hdc, hvc⟩, _, _⟩ := I1.hok c' _ hco'
  have hlen := rv.length
  show wpAny _ _ (call (.builtin "sorted") [.ref l] [(Str.ofString "key", .ref f)]) _ _ s'
  rw [List.length_map] at hz
  refine sorted_key_seq (b := false) (k := keyS) hseq (eachV rv bs fun _ h => h) ?_ ?_ hz ?_ (ksk_s1 _ _) (fun _ => ksk_l1 _ _) (fun _ => ksk_t1 _ _) ?_ ?_
  · intro d hd d' hd'
    obtain ⟨x, _, rfl⟩ := List.mem_map.mp hd
    obtain ⟨y, _, rfl⟩ := List.mem_map.mp hd'
    simp [keyS, keyD, alike, alikeAll]
  · refine .inl fun d hd => ?_
    obtain ⟨x, _, rfl⟩ := List.mem_map.mp hd
    exact ⟨_, _, rfl⟩
  · intro x _
    have := hr.un
    have e : (keyS x).depth = 1 := by simp [keyS, keyD, PyData.depth, PyData.depthAll]
    rw [e]
    omega
  · rintro v x ⟨rx, _⟩ hm' h tk kp
    obtain ⟨t', r, a, ex, ht, ha⟩ := hx x hm'
    rw [ex] at rx
    rw [show v = Value.ref t' from rx]
    obtain ⟨its', rv', tp', _⟩ := I1.tuple ht
    obtain ⟨itk, rvk, ⟨ok, hok, hck, nk, hdk⟩, _⟩ := I1.tuple ha
    cases rv' with
    | cons r1 t1' =>
      rename_i w0 ws0
      obtain rfl : w0 = Value.ref a := r1
      obtain ⟨o, ho, hc, n, hdd⟩ := tp'
      refine call_fst (s := { s' with heap := h, toks := tk }) (kp _ _ hf) ⟨c', oc, vs, t, rfl, kp _ _ hoc, hdc, hvc⟩ (I1.nolimit.keeps kp) ?_ hk hco hgen hp hnc (fun u => hbind _ _ _ _ _ u) ⟨o, kp _ _ ho, hc, n, hdd⟩ rfl hd fun h' tk' k' => ?_
      · have := hr.dp
        show X.A.depth < recursionLimit
        omega
      · refine ⟨h', tk', rfl, k', ?_⟩
        refine .tuple (k' _ _ (kp _ _ hok)) hck hdk ?_
        have k1 : IntsAre itk (vl x.2.1) := Vals.ints rvk
        simpa using IntsAre.reads _ k1
  · intro D out c2 h' tk kp hD0 hD hlen' hout
    have hn : H1 D = none := I1.hok.gone hD0
    have hv := valsE hout
    have hlx : ((bs.mergeSort (dataLe false keyS)).map (·.1)).length ≤ sizeLine := by rw [List.length_map, List.length_mergeSort]; exact hz
    refine ⟨.ref D, _, I1.laidN (o := .lst ((bs.mergeSort (dataLe false keyS)).map (·.1))) kp hD0 hn ⟨hlx, out, c2, hv, hD⟩, rfl, q D _ hn (List.mergeSort_perm _ _) (sorted_pw bs)⟩
end
end Kw
set_option maxHeartbeats 4000000
namespace Kw
open PySem PySem.Spec PyProof.Rows L2
abbrev sAround : Stmt := top 39
abbrev sPoints : Stmt := top 40
abbrev sEnds : Stmt := top 41
/-! ### lists of versions with their places -/
abbrev rf (ks : List (Addr × Ver)) : List V := ks.map fun p => V.ref p.1
def KsOk (K : PySem.W.Frag) (H : Hp) (ks : List (Addr × Ver)) : Prop := ∀ p ∈ ks, SqT K H p.1 (v3 p.2) ∧ okV p.2
theorem KsOk.same {K : PySem.W.Frag} {H H' : Hp} {ks : List (Addr × Ver)} (h : KsOk K H ks) (s : Same H H') : KsOk K H' ks := fun p hp => ⟨Same.sqT s (h p hp).1, (h p hp).2⟩
theorem KsOk.app {K : PySem.W.Frag} {H : Hp} {ks js : List (Addr × Ver)} (h : KsOk K H ks) (h' : KsOk K H js) : KsOk K H (ks ++ js) := fun p hp => (List.mem_append.mp hp).elim (h p) (h' p)
theorem KsOk.one {K : PySem.W.Frag} {H : Hp} {a : Addr} {v : Ver} (h : SqT K H a (v3 v)) (o : okV v) : KsOk K H [(a, v)] := fun p hp => by
  rw [List.mem_singleton.mp hp]
  exact ⟨h, o⟩
theorem KsOk.nil {K : PySem.W.Frag} {H : Hp} : KsOk K H [] := fun p hp => nomatch hp
theorem vl_inj {v u : Ver} (h : vl v = vl u) : v = u := by
  obtain ⟨a, b, c⟩ := v
  obtain ⟨d, e, f⟩ := u
  simp at h
  obtain ⟨rfl, rfl, rfl⟩ := h
  rfl
theorem bd_all : ∀ ks : List (Addr × Ver), (∀ p ∈ ks, okV p.2) → ∃ B : Int, ∀ p ∈ ks, _root_.TS.Bd B (vl p.2)
  | [], _ => ⟨0, fun p hp => nomatch hp⟩
  | q :: ks, h => by
    obtain ⟨B, hB⟩ := bd_all ks fun p hp => h p (List.mem_cons_of_mem _ hp)
    have ⟨h1, h2, h3⟩ := h q List.mem_cons_self
    refine ⟨B + q.2.1 + q.2.2.1 + q.2.2.2 + 1 + (if B < 0 then -B else 0), fun p hp => ?_⟩
    rcases List.mem_cons.mp hp with rfl | hp
    · intro m hm
      simp at hm
      split <;> rcases hm with rfl | rfl | rfl <;> omega
    · intro m hm
      have := hB p hp m hm
      split <;> omega
theorem code_ltV {B : Int} {v u : Ver} (hv : _root_.TS.Bd B (vl v)) (hu : _root_.TS.Bd B (vl u)) (h : ltV v u) : _root_.TS.code B (vl v) < _root_.TS.code B (vl u) := by
  obtain ⟨a, b, c⟩ := v
  obtain ⟨d, e, f⟩ := u
  have hv1 := hv.tail
  have hu1 := hu.tail
  rcases h with h | ⟨h, h⟩
  · exact _root_.TS.code_lt rfl hv1 hu1 h
  · have e1 : a = d := by assumption
    subst e1
    show _root_.TS.code B (a :: [b, c]) < _root_.TS.code B (a :: [e, f])
    refine (_root_.TS.code_same (r := [b, c]) (q := [e, f]) rfl).mpr ?_
    rcases h with h | ⟨e2, h⟩
    · exact _root_.TS.code_lt rfl hv1.tail hu1.tail h
    · have e2 : b = e := e2
      subst e2
      show _root_.TS.code B (b :: [c]) < _root_.TS.code B (b :: [f])
      refine (_root_.TS.code_same (r := [c]) (q := [f]) rfl).mpr (_root_.TS.code_lt rfl hv1.tail.tail hu1.tail.tail h)
/-- what sorted(set(xs)) gives -/
theorem setsort {K : PySem.W.Frag} {P : Program} {w : World} {H : Hp} {l : Addr} {ks : List (Addr × Ver)} {Q : VK} (h : SqL K H l (rf ks)) (hk : KsOk K H ks) (hl : ks.length < 64)
    (q : ∀ H2 D ks', Same H H2 → H2 D = some (.lst (rf ks')) → KsOk K H2 ks' → (ks'.map (·.2)).Pairwise ltV → (∀ v, v ∈ ks'.map (·.2) ↔ v ∈ ks.map (·.2)) → ks'.length < 64 → H D = none → Q (.ref D) H2) :
    rSetOfT K P w [.ref l] H (fun v H1 => rSortedT K P w [v] H1 Q) := by
  obtain ⟨B, hB⟩ := bd_all ks fun p hp => (hk p hp).2
  refine ⟨l, ks.map fun p => (p.1, vl p.2), rfl, ?_, ?_, by rw [List.length_map]; exact hl, fun a L ha hsub hall => ?_⟩
  · rw [List.map_map]
    exact h
  · intro p hp
    obtain ⟨r, hr, rfl⟩ := List.mem_map.mp hp
    exact (hk r hr).1
  · have s1 : Same H (upd H a (SetTO P w a L)) := same_upd ha
    have hL : ∀ p ∈ L, ∃ r ∈ ks, p = (r.1, vl r.2) := fun p hp => by
      obtain ⟨r, hr, e⟩ := List.mem_map.mp (hsub p hp)
      exact ⟨r, hr, e.symm⟩
    refine ⟨a, L, 3, B, rfl, upd_same, fun p hp => ?_, by decide, fun p hp => ?_, fun L' D pm nd few pw hD => ?_⟩
    · obtain ⟨r, hr, rfl⟩ := hL p hp
      exact Same.sqT s1 (hk r hr).1
    · obtain ⟨r, hr, rfl⟩ := hL p hp
      exact ⟨rfl, hB r hr⟩
    · have hL' : ∀ p ∈ L', ∃ r ∈ ks, p = (r.1, vl r.2) := fun p hp => hL p (pm.mem_iff.mp hp)
      -- the versions back
      obtain ⟨ks', e1, h1⟩ : ∃ ks' : List (Addr × Ver), L' = ks'.map (fun p => (p.1, vl p.2)) ∧ ∀ p ∈ ks', p ∈ ks := by
        clear pm nd few pw
        induction L' with
        | nil => exact ⟨[], rfl, fun p hp => nomatch hp⟩
        | cons x L' ih =>
          obtain ⟨ks', e, h⟩ := ih fun p hp => hL' p (List.mem_cons_of_mem _ hp)
          obtain ⟨r, hr, rfl⟩ := hL' x List.mem_cons_self
          refine ⟨r :: ks', by rw [e]; rfl, fun p hp => ?_⟩
          rcases List.mem_cons.mp hp with rfl | hp
          · exact hr
          · exact h p hp
      subst e1
      have s2 : Same (upd H a (SetTO P w a L)) (upd (upd H a (SetTO P w a L)) D (.lst ((ks'.map fun p => (p.1, vl p.2)).map fun q => V.ref q.1))) := same_upd hD
      refine q _ D ks' (s1.trans s2) (by rw [upd_same, List.map_map]; rfl) (KsOk.same (fun p hp => hk p (h1 p hp)) (s1.trans s2)) ?_ (fun v => ?_) (by rw [List.length_map] at few; exact few) (s1.free hD)
      · rw [List.map_map] at nd
        have nd' : (ks'.map fun p => vl p.2).Nodup := nd
        have pw' : ks'.Pairwise fun q r => _root_.TS.code B (vl q.2) ≤ _root_.TS.code B (vl r.2) := by
          rw [List.pairwise_map] at pw
          exact pw
        rw [List.pairwise_map]
        refine List.Pairwise.imp_of_mem (fun {p r} hp hr h => ?_) (pw'.and (List.pairwise_map.mp nd'))
        by_cases c1 : ltV p.2 r.2
        · exact c1
        · by_cases c2 : ltV r.2 p.2
          · have := code_ltV (hB r (h1 r hr)) (hB p (h1 p hp)) c2
            omega
          · exact absurd (congrArg vl (ltV_or c1 c2)) h.2
      · constructor
        · intro hv
          obtain ⟨p, hp, rfl⟩ := List.mem_map.mp hv
          exact List.mem_map.mpr ⟨p, h1 p hp, rfl⟩
        · intro hv
          obtain ⟨p, hp, rfl⟩ := List.mem_map.mp hv
          have m1 := hall (p.1, vl p.2) (List.mem_map.mpr ⟨p, hp, rfl⟩)
          obtain ⟨x, hx, e⟩ := List.mem_map.mp m1
          have hx' := pm.mem_iff.mpr hx
          obtain ⟨y, hy, rfl⟩ := List.mem_map.mp hx'
          exact List.mem_map.mpr ⟨y, hy, vl_inj e⟩
end Kw
set_option maxHeartbeats 4000000
namespace Kw
open PySem PySem.Spec PyProof.Rows L2
def spAround (K : PySem.W.Frag) : Sp := fun vs H Q _ => ∃ (a : Addr) (v : Ver), vs = [.ref a] ∧ SqT K H a (v3 v) ∧ okV v ∧
  ∀ H' p ks, Same H H' → H' p = some (.lst (rf ks)) → KsOk K H' ks → ks.length ≤ 5 → Q (.ref p) H'
section
variable {P : Program} {w : World} {K : PySem.W.Frag} {mg : Str → Option Value} {base : Heap}
theorem scAround : FnScope ["_law_version_here", "_law_one", "_law_two", "_law_three", "_law_found"] ["_law_version_here"] (defScope sAround) := ⟨rfl, rfl, rfl, by decide +kernel, rfl, by decide +kernel, by decide +kernel⟩
theorem ok_around {f : Addr} {fd : FuncData} {k : Nat} (F : Fun K "_law_around" "_law_around" sAround f fd) (mi : mg "int" = none) : FnOk P w K mg base CX0 (k + 1) f fd ["_law_version_here"] (spAround K) := by
  refine F.ok scAround (fun vs H Q E h => ?_) (fun cdv A outer s H vs Q E hr h => ?_)
  · obtain ⟨a, v, rfl, _⟩ := h
    rfl
  · obtain ⟨a, v, rfl, ha, ov, q⟩ := h
    have hu := hu_of hr
    refine ⟨_, pss_cons (ps_asg (pv 0) (pg_tup rfl (pgs_cons (pg_name (i := 1) scAround.nd rfl (.inl rfl)) (pgs_cons (pg_name (i := 2) scAround.nd rfl (.inl rfl)) (pgs_cons (pg_name (i := 3) scAround.nd rfl (.inl rfl)) pgs_nil)))))
      (pss_cons (ps_set (i := 4) scAround.nd rfl (.inl rfl) (pe_lst (pa_cons (pv 0) (pa_cons (pe_tup (pa_cons (pv 1) (pa_cons (pv 2) (pa_cons (pe_op op_add (pv 3) pe_int) pa_nil)))) (pa_cons (pe_tup (pa_cons (pv 1) (pa_cons (pe_op op_add (pv 2) pe_int) (pa_cons pe_int pa_nil)))) (pa_cons (pe_tup (pa_cons (pe_op op_add (pv 1) pe_int) (pa_cons pe_int (pa_cons pe_int pa_nil)))) pa_nil))))))
      (pss_cons (ps_if (pt_cmpR op_gt (pv 3) pe_int (nomark _)) (pss_one (ps_ret (pe_op op_cat (pv 4) (pe_lst (pa_cons (pe_tup (pa_cons (pv 1) (pa_cons (pv 2) (pa_cons (pe_op op_sub (pv 3) pe_int) pa_nil)))) pa_nil))))) pss_nil)
      (pss_cons (ps_if (pt_cmpR op_gt (pv 2) pe_int (nomark _)) (pss_one (ps_ret (pe_op op_cat (pv 4) (pe_lst (pa_cons (pe_tup (pa_cons (pv 1) (pa_cons (pe_op op_sub (pv 2) pe_int) (pa_cons pe_int pa_nil)))) pa_nil))))) pss_nil)
      (pss_one (ps_ret (pe_op op_cat (pv 4) (pe_op op_rep (pe_lst (pa_cons (pe_tup (pa_cons (pe_op op_sub (pv 1) pe_int) (pa_cons pe_int (pa_cons pe_int pa_nil)))) pa_nil)) (pe_callTy call_int1 (by rfl) mi (by decide +kernel) (pa_cons (pe_cmpR op_gt (pv 1) pe_int (nomark _)) pa_nil))))))))), ?_⟩
    obtain ⟨o1, o2, o3⟩ := ov
    refine ⟨_, rfl, a, v3 v, rfl, ha, rfl, _, _, rfl, _, _, rfl, _, _, rfl, rfl, ?_⟩
    refine ⟨_, rfl, _, rfl, _, rfl, _, rfl, v.2.2, 1, rfl, rfl, by show 3 ≤ sizeLine; decide, fun p1 hp1 => ?_⟩
    have s1 := same_upd (o := .tup (v3 (v.1, v.2.1, v.2.2 + 1))) hp1
    refine ⟨_, rfl, _, rfl, v.2.1, 1, rfl, rfl, by show 3 ≤ sizeLine; decide, fun p2 hp2 => ?_⟩
    have s2 := same_upd (o := .tup (v3 (v.1, v.2.1 + 1, 0))) hp2
    refine ⟨_, rfl, v.1, 1, rfl, rfl, by show 3 ≤ sizeLine; decide, fun p3 hp3 => ?_⟩
    have s3 := same_upd (o := .tup (v3 (v.1 + 1, 0, 0))) hp3
    refine ⟨by show 4 ≤ sizeLine; decide, fun l hl => ?_⟩
    generalize hG : upd (upd (upd (upd H p1 _) p2 _) p3 _) l _ = G
    have s4 : Same (upd (upd (upd H p1 (.tup (v3 (v.1, v.2.1, v.2.2 + 1)))) p2 (.tup (v3 (v.1, v.2.1 + 1, 0)))) p3 (.tup (v3 (v.1 + 1, 0, 0)))) G := by rw [← hG]; exact same_upd hl
    have hl4 : G l = some (.lst (rf [(a, v), (p1, (v.1, v.2.1, v.2.2 + 1)), (p2, (v.1, v.2.1 + 1, 0)), (p3, (v.1 + 1, 0, 0))])) := by rw [← hG]; exact upd_same
    have sA := ((s1.trans s2).trans s3).trans s4
    have kA : KsOk K G [(a, v), (p1, (v.1, v.2.1, v.2.2 + 1)), (p2, (v.1, v.2.1 + 1, 0)), (p3, (v.1 + 1, 0, 0))] := (((KsOk.one (a := a) (v := v) (Same.sqT sA ha) ⟨o1, o2, o3⟩).app (KsOk.one (K := K) (a := p1) (v := (v.1, v.2.1, v.2.2 + 1)) (.inl (.inl (s4 _ _ (s3 _ _ (s2 _ _ upd_same))))) ⟨o1, o2, by show 0 ≤ v.2.2 + 1; omega⟩)).app
      (KsOk.one (K := K) (a := p2) (v := (v.1, v.2.1 + 1, 0)) (.inl (.inl (s4 _ _ (s3 _ _ upd_same)))) ⟨o1, by show 0 ≤ v.2.1 + 1; omega, Int.le_refl _⟩)).app
      (KsOk.one (K := K) (a := p3) (v := (v.1 + 1, 0, 0)) (.inl (.inl (s4 _ _ upd_same))) ⟨by show 0 ≤ v.1 + 1; omega, Int.le_refl _, Int.le_refl _⟩)
    -- found + [one]
    have one : ∀ (u : Ver), okV u → ∀ p4, G p4 = none → ∀ l4, upd G p4 (.tup (v3 u)) l4 = none → ∀ D, upd (upd G p4 (.tup (v3 u))) l4 (.lst [.ref p4]) D = none →
        Q (.ref D) (upd (upd (upd G p4 (.tup (v3 u))) l4 (.lst [.ref p4])) D (.lst (rf [(a, v), (p1, (v.1, v.2.1, v.2.2 + 1)), (p2, (v.1, v.2.1 + 1, 0)), (p3, (v.1 + 1, 0, 0))] ++ [.ref p4]))) := fun u ou p4 hp4 l4 hl4 D hD => by
      have t1 := same_upd (o := .tup (v3 u)) hp4
      have t2 := same_upd (o := .lst [.ref p4]) hl4
      have t3 := same_upd (o := .lst (rf [(a, v), (p1, (v.1, v.2.1, v.2.2 + 1)), (p2, (v.1, v.2.1 + 1, 0)), (p3, (v.1 + 1, 0, 0))] ++ [.ref p4])) hD
      have tA := (t1.trans t2).trans t3
      exact q _ D ([(a, v), (p1, (v.1, v.2.1, v.2.2 + 1)), (p2, (v.1, v.2.1 + 1, 0)), (p3, (v.1 + 1, 0, 0))] ++ [(p4, u)]) (sA.trans tA) upd_same ((kA.same tA).app (KsOk.one (.inl (.inl (t3 _ _ (t2 _ _ upd_same)))) ou)) (by simp)
    refine ⟨_, rfl, v.2.2, 0, rfl, rfl, _, rfl, ite2 (fun e => ?_) (fun e => ?_)⟩
    · have e' : 0 < v.2.2 := of_decide_eq_true e
      refine ⟨_, rfl, _, rfl, _, rfl, _, rfl, v.2.2, 1, rfl, rfl, by show 3 ≤ sizeLine; decide, fun p4 hp4 => ⟨by show 1 ≤ sizeLine; decide, fun l4 hl4' => ?_⟩⟩
      refine ⟨l, l4, _, _, rfl, rfl, same_upd hl4' _ _ (same_upd hp4 _ _ hl4), upd_same, by show 4 + 1 ≤ sizeLine; decide, fun D hD => ?_⟩
      exact one (v.1, v.2.1, v.2.2 - 1) ⟨o1, o2, by show 0 ≤ v.2.2 - 1; omega⟩ p4 hp4 l4 hl4' D hD
    · refine ⟨_, rfl, v.2.1, 0, rfl, rfl, _, rfl, ite2 (fun e2 => ?_) (fun e2 => ?_)⟩
      · have e' : 0 < v.2.1 := of_decide_eq_true e2
        refine ⟨_, rfl, _, rfl, _, rfl, v.2.1, 1, rfl, rfl, by show 3 ≤ sizeLine; decide, fun p4 hp4 => ⟨by show 1 ≤ sizeLine; decide, fun l4 hl4' => ?_⟩⟩
        refine ⟨l, l4, _, _, rfl, rfl, same_upd hl4' _ _ (same_upd hp4 _ _ hl4), upd_same, by show 4 + 1 ≤ sizeLine; decide, fun D hD => ?_⟩
        exact one (v.1, v.2.1 - 1, 99) ⟨o1, by show 0 ≤ v.2.1 - 1; omega, by show (0 : Int) ≤ 99; decide⟩ p4 hp4 l4 hl4' D hD
      · refine ⟨_, rfl, _, rfl, v.1, 1, rfl, rfl, by show 3 ≤ sizeLine; decide, fun p4 hp4 => ⟨by show 1 ≤ sizeLine; decide, fun l4 hl4' => ?_⟩⟩
        refine ⟨_, rfl, v.1, 0, rfl, rfl, .inr ⟨_, rfl, ?_⟩⟩
        have t1 := same_upd (o := .tup (v3 (v.1 - 1, 99, 99))) hp4
        have t2 := same_upd (o := .lst [.ref p4]) hl4'
        by_cases e3 : 0 < v.1
        · rw [decide_eq_true e3]
          refine ⟨l4, 1, _, rfl, rfl, upd_same, by decide, by decide, by show 1 * 1 ≤ sizeLine; decide, fun l5 hl5 => ?_⟩
          have t3 := same_upd (o := .lst [.ref p4]) hl5
          refine ⟨l, l5, _, [.ref p4], rfl, rfl, t3 _ _ (t2 _ _ (t1 _ _ hl4)), upd_same, by show 4 + 1 ≤ sizeLine; decide, fun D hD => ?_⟩
          have t4 := same_upd (o := .lst (rf [(a, v), (p1, (v.1, v.2.1, v.2.2 + 1)), (p2, (v.1, v.2.1 + 1, 0)), (p3, (v.1 + 1, 0, 0))] ++ [.ref p4])) hD
          have tA := ((t1.trans t2).trans t3).trans t4
          exact q _ D ([(a, v), (p1, (v.1, v.2.1, v.2.2 + 1)), (p2, (v.1, v.2.1 + 1, 0)), (p3, (v.1 + 1, 0, 0))] ++ [(p4, (v.1 - 1, 99, 99))]) (sA.trans tA) upd_same ((kA.same tA).app (KsOk.one (.inl (.inl (t4 _ _ (t3 _ _ (t2 _ _ upd_same))))) ⟨by show 0 ≤ v.1 - 1; omega, by show (0 : Int) ≤ 99; decide, by show (0 : Int) ≤ 99; decide⟩)) (by simp)
        · rw [decide_eq_false e3]
          refine ⟨l4, 0, _, rfl, rfl, upd_same, by decide, by decide, by show 1 * 0 ≤ sizeLine; decide, fun l5 hl5 => ?_⟩
          have t3 := same_upd (o := .lst []) hl5
          refine ⟨l, l5, _, [], rfl, rfl, t3 _ _ (t2 _ _ (t1 _ _ hl4)), upd_same, by show 4 + 0 ≤ sizeLine; decide, fun D hD => ?_⟩
          have t4 := same_upd (o := .lst (rf [(a, v), (p1, (v.1, v.2.1, v.2.2 + 1)), (p2, (v.1, v.2.1 + 1, 0)), (p3, (v.1 + 1, 0, 0))] ++ [])) hD
          have tA := ((t1.trans t2).trans t3).trans t4
          exact q _ D [(a, v), (p1, (v.1, v.2.1, v.2.2 + 1)), (p2, (v.1, v.2.1 + 1, 0)), (p3, (v.1 + 1, 0, 0))] (sA.trans tA) upd_same (kA.same tA) (by simp)
end
end Kw
set_option maxHeartbeats 4000000
namespace Kw
open PySem PySem.Spec PyProof.Rows L2
theorem Room.u64 {k : Nat} {A : Around} (hr : Room k A) : A.units + 64 < cLine := by
  have := hr.un
  omega
/-- all ends of stretches, and the first version -/
def endsOf : List Str2 → List Ver
  | [] => [(0, 0, 0)]
  | s :: ss => s.1 :: (s.2.toList ++ endsOf ss)
theorem endsOf_snoc (v : Ver) : ∀ (ss : List Str2) (s : Str2), v ∈ endsOf (ss ++ [s]) ↔ v ∈ endsOf ss ∨ v = s.1 ∨ s.2 = some v
  | [], s => by
    obtain ⟨l, h⟩ := s
    cases h <;> simp [endsOf] <;> grind
  | t :: ss, s => by
    have ih := endsOf_snoc v ss s
    simp only [endsOf, List.cons_append, List.mem_cons, List.mem_append, ih]
    grind
def spPoints (K : PySem.W.Frag) : Sp := fun vs H Q _ => ∃ (a : Addr) (xs : List V) (ss : List Str2), vs = [.ref a] ∧ SqL K H a xs ∧ Strs K H xs ss ∧ (∀ s ∈ ss, okS s) ∧ ss.length ≤ 5 ∧
  ∀ H' p ks, Same H H' → H' p = some (.lst (rf ks)) → KsOk K H' ks → ks.length < 64 → Q (.ref p) H'
def spEnds (K : PySem.W.Frag) : Sp := fun vs H Q _ => ∃ (a : Addr) (xs : List V) (ss : List Str2), vs = [.ref a] ∧ SqL K H a xs ∧ Strs K H xs ss ∧ (∀ s ∈ ss, okS s) ∧ ss.length ≤ 5 ∧
  ∀ H' p ks, Same H H' → H' p = some (.lst (rf ks)) → KsOk K H' ks → ks.length < 64 → (ks.map (·.2)).Pairwise ltV → (∀ v, v ∈ ks.map (·.2) ↔ v ∈ endsOf ss) → Q (.ref p) H'
section
variable {P : Program} {w : World} {K : PySem.W.Frag} {mg : Str → Option Value} {base : Heap}
theorem scPoints : FnScope ["_law_stretches", "_law_found", "_law_low", "_law_high"] ["_law_stretches"] (defScope sPoints) := ⟨rfl, rfl, rfl, by decide +kernel, rfl, by decide +kernel, by decide +kernel⟩
theorem scEnds : FnScope ["_law_stretches", "_law_found", "_law_low", "_law_high"] ["_law_stretches"] (defScope sEnds) := ⟨rfl, rfl, rfl, by decide +kernel, rfl, by decide +kernel, by decide +kernel⟩
theorem ok_points {f : Addr} {fd : FuncData} {k : Nat} (F : Fun K "_law_points" "_law_points" sPoints f fd) (ms : mg "sorted" = none) (mt : mg "set" = none) (DA : Def P w K mg base "_law_around" CX0 k ["_law_version_here"] (spAround K)) : FnOk P w K mg base CX0 (k + 1) f fd ["_law_stretches"] (spPoints K) := by
  refine F.ok scPoints (fun vs H Q E h => ?_) (fun cdv A outer s H vs Q E hr h => ?_)
  · obtain ⟨a, xs, ss, rfl, _⟩ := h
    rfl
  · obtain ⟨a, xs, ss, rfl, hS, hss, oks, hlen, q⟩ := h
    have hu := hu_of hr
    refine ⟨_, pss_cons (ps_set (i := 1) scPoints.nd rfl (.inl rfl) (pe_lst (pa_cons (pe_tup (pa_cons pe_int (pa_cons pe_int (pa_cons pe_int pa_nil)))) pa_nil)))
      (pss_cons (ps_for PassesOwn.never rfl (pi_list (pv 0)) (pg_tup rfl (pgs_cons (pg_name (i := 2) scPoints.nd rfl (.inl rfl)) (pgs_cons (pg_name (i := 3) scPoints.nd rfl (.inl rfl)) pgs_nil)))
        (pss_one (ps_set (i := 1) scPoints.nd rfl (.inl rfl) (pe_op op_cat (pe_op op_cat (pv 1) (pe_d DA hr (pa_cons (pv 2) pa_nil))) (pe_ifExp (pt_cmpR op_notN (pv 3) pe_non (nomark _)) (pe_d DA hr (pa_cons (pv 3) pa_nil)) (pe_lst pa_nil))))))
      (pss_one (ps_ret (pe_callB (cr_sortedT rfl) (by rfl) ms (by decide +kernel) (pa_cons (pe_callTy (cr_setOfT rfl (Room.u64 hr)) (by rfl) mt (by decide +kernel) (pa_cons (pv 1) pa_nil)) pa_nil))))), ?_⟩
    refine ⟨by show 3 ≤ sizeLine; decide, fun p0 hp0 => ⟨by show 1 ≤ sizeLine; decide, fun l0 hl0 => ?_⟩⟩
    have s1 := same_upd (o := .tup (v3 (0, 0, 0))) hp0
    have s2 := same_upd (o := .lst (rf [(p0, (0, 0, 0))])) hl0
    refine ⟨_, rfl, a, rfl, ⟨_, (s1.trans s2).seq hS⟩, for_list (K := K) (a := a) (xs := xs) (fun i σ H' => ∃ (l : Addr) (y2 y3 : Option V) (ks : List (Addr × Ver)), σ = [some (.ref a), some (.ref l), y2, y3] ∧ Same H H' ∧ H' l = some (.lst (rf ks)) ∧ KsOk K H' ks ∧ ks.length ≤ 1 + 10 * i)
      ⟨l0, none, none, [(p0, (0, 0, 0))], rfl, s1.trans s2, upd_same, KsOk.one (.inl (.inl (s2 _ _ upd_same))) ⟨Int.le_refl _, Int.le_refl _, Int.le_refl _⟩, by simp⟩ (fun i σ H' _ ⟨_, _, _, _, _, e, _⟩ => e.seq hS) ?_ ?_⟩
    · rintro i y σ H' hi ⟨l, y2, y3, ks, rfl, sH, hl, hk, hn⟩
      have hxl := (List.getElem?_eq_some_iff.mp hi).1
      rw [hss.len] at hxl
      obtain ⟨st, hst, ist⟩ := (hss.same sH).get hi
      obtain ⟨p, lo, hh, rfl, g1, ⟨alo, rfl, g2⟩, g3⟩ := ist
      obtain ⟨okl, okh⟩ := oks st (List.mem_of_getElem? hst)
      refine ⟨p, [.ref alo, hh], rfl, g1, rfl, _, _, rfl, _, _, rfl, rfl, ?_⟩
      refine ⟨_, rfl, _, rfl, alo, st.1, rfl, g2, okl, fun H1 q1 k1 t1 e1 w1 n1 => ?_⟩
      refine ⟨l, q1, _, _, rfl, rfl, t1 _ _ hl, e1, by simp only [List.length_map]; exact Nat.le_of_lt (small1000 (by omega)), fun l1 hl1 => ?_⟩
      have t2 := same_upd (o := .lst (rf ks ++ rf k1)) hl1
      have kk : KsOk K (upd H1 l1 (.lst (rf ks ++ rf k1))) (ks ++ k1) := (hk.same (t1.trans t2)).app (w1.same t2)
      have ek : rf ks ++ rf k1 = rf (ks ++ k1) := by simp [rf]
      obtain ⟨s1', s2'⟩ := st
      cases s2' with
      | none =>
        obtain rfl : hh = .non := g3
        refine ⟨_, rfl, rfl, _, rfl, iteF ⟨Nat.zero_le _, fun l2 hl2 => ?_⟩⟩
        have t3 := same_upd (o := .lst []) hl2
        refine ⟨l1, l2, _, [], rfl, rfl, t3 _ _ upd_same, upd_same, by simp only [List.length_append, List.length_map, List.length_nil]; exact Nat.le_of_lt (small1000 (by omega)), fun l3 hl3 => ?_⟩
        have t4 := same_upd (o := .lst ((rf ks ++ rf k1) ++ [])) hl3
        exact ⟨l3, _, _, ks ++ k1, rfl, (((sH.trans t1).trans t2).trans t3).trans t4, by rw [upd_same, List.append_nil, ek], kk.same (t3.trans t4), by rw [List.length_append]; omega⟩
      | some u =>
        obtain ⟨ah, rfl, gh⟩ := g3
        obtain ⟨oku, _⟩ := okh u rfl
        refine ⟨_, rfl, rfl, _, rfl, iteT ⟨_, rfl, ah, u, rfl, Same.sqT (t1.trans t2) gh, oku, fun H2 q2 k2 t3 e2 w2 n2 => ?_⟩⟩
        refine ⟨l1, q2, _, _, rfl, rfl, t3 _ _ upd_same, e2, by simp only [List.length_append, List.length_map]; exact Nat.le_of_lt (small1000 (by omega)), fun l3 hl3 => ?_⟩
        have t4 := same_upd (o := .lst ((rf ks ++ rf k1) ++ rf k2)) hl3
        exact ⟨l3, _, _, (ks ++ k1) ++ k2, rfl, (((sH.trans t1).trans t2).trans t3).trans t4, by rw [upd_same, ek]; simp [rf], (kk.same (t3.trans t4)).app (w2.same t4), by rw [List.length_append, List.length_append]; omega⟩
    · rintro σ H' ⟨l, y2, y3, ks, rfl, sH, hl, hk, hn⟩
      have hl5 : xs.length ≤ 5 := by rw [hss.len]; exact hlen
      exact ⟨_, rfl, setsort (SqL.of hl) hk (by omega) fun H2 D ks' t e kk pw mm few _ => q H2 D ks' (sH.trans t) e kk few⟩
theorem ok_ends {f : Addr} {fd : FuncData} {k : Nat} (F : Fun K "_law_ends" "_law_ends" sEnds f fd) (ms : mg "sorted" = none) (mt : mg "set" = none) : FnOk P w K mg base CX0 (k + 1) f fd ["_law_stretches"] (spEnds K) := by
  refine F.ok scEnds (fun vs H Q E h => ?_) (fun cdv A outer s H vs Q E hr h => ?_)
  · obtain ⟨a, xs, ss, rfl, _⟩ := h
    rfl
  · obtain ⟨a, xs, ss, rfl, hS, hss, oks, hlen, q⟩ := h
    have hu := hu_of hr
    refine ⟨_, pss_cons (ps_set (i := 1) scEnds.nd rfl (.inl rfl) (pe_lst (pa_cons (pe_tup (pa_cons pe_int (pa_cons pe_int (pa_cons pe_int pa_nil)))) pa_nil)))
      (pss_cons (ps_for PassesOwn.never rfl (pi_list (pv 0)) (pg_tup rfl (pgs_cons (pg_name (i := 2) scEnds.nd rfl (.inl rfl)) (pgs_cons (pg_name (i := 3) scEnds.nd rfl (.inl rfl)) pgs_nil)))
        (pss_one (ps_set (i := 1) scEnds.nd rfl (.inl rfl) (pe_op op_cat (pe_op op_cat (pv 1) (pe_lst (pa_cons (pv 2) pa_nil))) (pe_ifExp (pt_cmpR op_notN (pv 3) pe_non (nomark _)) (pe_lst (pa_cons (pv 3) pa_nil)) (pe_lst pa_nil))))))
      (pss_one (ps_ret (pe_callB (cr_sortedT rfl) (by rfl) ms (by decide +kernel) (pa_cons (pe_callTy (cr_setOfT rfl (Room.u64 hr)) (by rfl) mt (by decide +kernel) (pa_cons (pv 1) pa_nil)) pa_nil))))), ?_⟩
    refine ⟨by show 3 ≤ sizeLine; decide, fun p0 hp0 => ⟨by show 1 ≤ sizeLine; decide, fun l0 hl0 => ?_⟩⟩
    have s1 := same_upd (o := .tup (v3 (0, 0, 0))) hp0
    have s2 := same_upd (o := .lst (rf [(p0, (0, 0, 0))])) hl0
    refine ⟨_, rfl, a, rfl, ⟨_, (s1.trans s2).seq hS⟩, for_list (K := K) (a := a) (xs := xs) (fun i σ H' => ∃ (l : Addr) (y2 y3 : Option V) (ks : List (Addr × Ver)), σ = [some (.ref a), some (.ref l), y2, y3] ∧ Same H H' ∧ H' l = some (.lst (rf ks)) ∧ KsOk K H' ks ∧ ks.length ≤ 1 + 10 * i ∧ ∀ v, v ∈ ks.map (·.2) ↔ v ∈ endsOf (ss.take i))
      ⟨l0, none, none, [(p0, (0, 0, 0))], rfl, s1.trans s2, upd_same, KsOk.one (.inl (.inl (s2 _ _ upd_same))) ⟨Int.le_refl _, Int.le_refl _, Int.le_refl _⟩, by simp, fun v => by simp [endsOf]⟩ (fun i σ H' _ ⟨_, _, _, _, _, e, _⟩ => e.seq hS) ?_ ?_⟩
    · rintro i y σ H' hi ⟨l, y2, y3, ks, rfl, sH, hl, hk, hn, hm⟩
      have hxl := (List.getElem?_eq_some_iff.mp hi).1
      rw [hss.len] at hxl
      obtain ⟨st, hst, ist⟩ := (hss.same sH).get hi
      obtain ⟨p, lo, hh, rfl, g1, ⟨alo, rfl, g2⟩, g3⟩ := ist
      obtain ⟨okl, okh⟩ := oks st (List.mem_of_getElem? hst)
      have tk : ss.take (i + 1) = ss.take i ++ [st] := take_snoc hst
      refine ⟨p, [.ref alo, hh], rfl, g1, rfl, _, _, rfl, _, _, rfl, rfl, ?_⟩
      refine ⟨_, rfl, _, rfl, by show 1 ≤ sizeLine; decide, fun q1 hq1 => ?_⟩
      have t1 := same_upd (o := .lst [.ref alo]) hq1
      refine ⟨l, q1, _, _, rfl, rfl, t1 _ _ hl, upd_same, by simp only [List.length_map]; exact Nat.le_of_lt (small1000 (by simp; omega)), fun l1 hl1 => ?_⟩
      have t2 := same_upd (o := .lst (rf ks ++ [.ref alo])) hl1
      have kk := (hk.same (t1.trans t2)).app (KsOk.one (Same.sqT (t1.trans t2) g2) okl)
      have ek : rf ks ++ [.ref alo] = rf (ks ++ [(alo, st.1)]) := by simp [rf]
      obtain ⟨s1', s2'⟩ := st
      cases s2' with
      | none =>
        obtain rfl : hh = .non := g3
        refine ⟨_, rfl, rfl, _, rfl, iteF ⟨Nat.zero_le _, fun l2 hl2 => ?_⟩⟩
        have t3 := same_upd (o := .lst []) hl2
        refine ⟨l1, l2, _, [], rfl, rfl, t3 _ _ upd_same, upd_same, by simp only [List.length_append, List.length_map, List.length_nil]; exact Nat.le_of_lt (small1000 (by simp; omega)), fun l3 hl3 => ?_⟩
        have t4 := same_upd (o := .lst ((rf ks ++ [.ref alo]) ++ [])) hl3
        refine ⟨l3, _, _, ks ++ [(alo, s1')], rfl, (((sH.trans t1).trans t2).trans t3).trans t4, by rw [upd_same, List.append_nil, ek], kk.same (t3.trans t4), by rw [List.length_append]; simp; omega, fun v => ?_⟩
        rw [tk, endsOf_snoc, List.map_append, List.mem_append, hm v]
        simp
      | some u =>
        obtain ⟨ah, rfl, gh⟩ := g3
        obtain ⟨oku, _⟩ := okh u rfl
        refine ⟨_, rfl, rfl, _, rfl, iteT ⟨_, rfl, by show 1 ≤ sizeLine; decide, fun q2 hq2 => ?_⟩⟩
        have t3 := same_upd (o := .lst [.ref ah]) hq2
        refine ⟨l1, q2, _, _, rfl, rfl, t3 _ _ upd_same, upd_same, by simp only [List.length_append, List.length_map]; exact Nat.le_of_lt (small1000 (by simp; omega)), fun l3 hl3 => ?_⟩
        have t4 := same_upd (o := .lst ((rf ks ++ [.ref alo]) ++ [.ref ah])) hl3
        refine ⟨l3, _, _, (ks ++ [(alo, s1')]) ++ [(ah, u)], rfl, (((sH.trans t1).trans t2).trans t3).trans t4, by rw [upd_same, ek]; simp [rf], (kk.same (t3.trans t4)).app (KsOk.one (Same.sqT (((t1.trans t2).trans t3).trans t4) gh) oku), by rw [List.length_append, List.length_append]; simp; omega, fun v => ?_⟩
        rw [tk, endsOf_snoc, List.map_append, List.mem_append, List.map_append, List.mem_append, hm v]
        simp
        grind
    · rintro σ H' ⟨l, y2, y3, ks, rfl, sH, hl, hk, hn, hm⟩
      have hl5 : xs.length ≤ 5 := by rw [hss.len]; exact hlen
      refine ⟨_, rfl, setsort (SqL.of hl) hk (by omega) fun H2 D ks' t e kk pw mm few _ => q H2 D ks' (sH.trans t) e kk few pw fun v => ?_⟩
      rw [mm v, hm v, List.take_of_length_le (by rw [hss.len]; exact Nat.le_refl _)]
end
end Kw
set_option maxHeartbeats 4000000
namespace Kw
open PySem PySem.Spec PyProof.Rows L2 LamX
abbrev sNormal : Stmt := top 42
/-! ### a comprehension over a range with a step -/
theorem lc_rangeC {lo c : Int} {n : Nat} {g : TG} {tt : TT} {te : TE} {vs : List Nat} {σ : L2.St} {H1 : Hp} {D : Addr} {Qd : Hp → Prop} (Pv : Nat → Hp → Prop) (start : Pv 0 (upd H1 D (.lst [])))
    (step : ∀ j H, j < n → Pv j H → g (.int (lo + (j : Nat) * c)) (wipe σ vs) H fun σ2 H2 => wipe σ2 vs = wipe σ vs ∧ tt σ2 H2 fun b H3 => if b = true then te σ2 H3 fun y H4 => ∃ acc, H4 D = some (.lst acc) ∧ acc.length < sizeLine ∧ Pv (j + 1) (upd H4 D (.lst (acc ++ [y]))) else Pv (j + 1) H3)
    (stop : ∀ H, Pv n H → Qd H) :
    ∃ W : Nat → Nat → Hp → Prop, (∃ m, W 0 m (upd H1 D (.lst []))) ∧ ∀ i m H, W i m H → ((Itc lo c n).stop i H ∧ Qd H) ∨ ((Itc lo c n).go i H ∧ ∃ Nx : Hp → Prop, (∀ H', Nx H' → ∃ m', m' < m ∧ W (i + 1) m' H') ∧ ∀ x H', (Itc lo c n).yld i H x H' → g x (wipe σ vs) H' fun σ2 H2 => wipe σ2 vs = wipe σ vs ∧ tt σ2 H2 fun b H3 => if b = true then te σ2 H3 fun y H4 => ∃ acc, H4 D = some (.lst acc) ∧ acc.length < sizeLine ∧ Nx (upd H4 D (.lst (acc ++ [y]))) else Nx H3) := by
  refine ⟨fun i m H => m = n - i ∧ i ≤ n ∧ Pv i H, ⟨n, by simp, Nat.zero_le _, start⟩, fun i m H hw => ?_⟩
  obtain ⟨em, hi, p⟩ := hw
  by_cases lt : i < n
  · exact .inr ⟨lt, Pv (i + 1), fun H' p' => ⟨n - (i + 1), by omega, rfl, lt, p'⟩, fun x H' y => by obtain ⟨rfl, rfl⟩ := y; exact step i _ lt p⟩
  · have ei : i = n := by omega
    rw [ei] at p ⊢
    exact .inl ⟨Nat.le_refl _, stop H p⟩
/-! ### normal form by ends -/
def pairsV : List Ver → List Str2
  | [] => []
  | [a] => [(a, none)]
  | a :: b :: r => (a, some b) :: pairsV r
def edgesOf (f : Ver → Bool) : Bool → List Ver → List Ver
  | _, [] => []
  | now, v :: vs => if (f v != now) = true then v :: edgesOf f (!now) vs else edgesOf f now vs
theorem pairsV_len : ∀ es : List Ver, (pairsV es).length = (es.length + 1) / 2
  | [] => rfl
  | [a] => by simp [pairsV]
  | a :: b :: r => by
    have := pairsV_len r
    simp only [pairsV, List.length_cons, this]
    omega
theorem pairsV_get : ∀ (es : List Ver) (i : Nat) (v : Ver), es[2 * i]? = some v → (pairsV es)[i]? = some (v, es[2 * i + 1]?)
  | [], i, v, h => by simp at h
  | [a], 0, v, h => by
    simp at h
    subst h
    rfl
  | [a], i + 1, v, h => by
    rw [show 2 * (i + 1) = 2 * i + 1 + 1 by omega] at h
    simp at h
  | a :: b :: r, 0, v, h => by
    simp at h
    subst h
    rfl
  | a :: b :: r, i + 1, v, h => by
    rw [show 2 * (i + 1) = 2 * i + 1 + 1 by omega] at h ⊢
    simp only [List.getElem?_cons_succ] at h
    have := pairsV_get r i v h
    simp only [pairsV, List.getElem?_cons_succ]
    exact this
theorem edges_len (f : Ver → Bool) : ∀ (now : Bool) (vs : List Ver), (edgesOf f now vs).length ≤ vs.length
  | _, [] => Nat.le_refl _
  | now, v :: vs => by
    unfold edgesOf
    split
    · have := edges_len f (!now) vs
      simp
      omega
    · have := edges_len f now vs
      simp
      omega
/-- what the law makes of the lambda's reading: the normal form of a property of versions, by ends -/
def TTn (K : PySem.W.Frag) : (V → Hp → VK → Prop) → V → Hp → VK → Prop := fun tl v1 H Q => ∃ (a : Addr) (ks : List (Addr × Ver)) (f : Ver → Bool), v1 = .ref a ∧ SqL K H a (rf ks) ∧ KsOk K H ks ∧ ks.length < 64 ∧
  (∀ H' p Q', Same H H' → p ∈ ks → (∀ H'', Same H' H'' → Q' (.bl (f p.2)) H'') → tl (.ref p.1) H' Q') ∧
  ∀ H' D zs, Same H H' → H' D = some (.tup zs) → Strs K H' zs (pairsV (edgesOf f false (ks.map (·.2)))) → Q (.ref D) H'
end Kw
set_option maxHeartbeats 4000000
namespace Kw
open PySem PySem.Spec PyProof.Rows L2 LamX
theorem scNormal : FnScope ["_law_ends_here", "_law_holds", "_law_edges", "_law_now", "_law_end", "_law_at"] ["_law_ends_here", "_law_holds"] (defScope sNormal) := ⟨rfl, rfl, rfl, by decide +kernel, rfl, by decide +kernel, by decide +kernel⟩
theorem rng2 (m : Nat) (h : m < 1000) : RgC 0 (m : Int) 2 ((m + 1) / 2) := by
  refine ⟨by decide, by decide, ?_, ?_⟩
  · have e : Builtin.Range.rangeSize 0 (m : Int) 2 = ((m + 1) / 2 : Nat) := by
      unfold Builtin.Range.rangeSize
      simp only [show (2 : Int) > 0 from by decide, if_true]
      split <;> omega
    unfold Builtin.Range.small
    rw [e]
    have ft : ∀ i : Int, -1000000 ≤ i → i ≤ 1000000 → Builtin.Range.rangeFitsLong i = true := fun i h1 h2 => by
      unfold Builtin.Range.rangeFitsLong
      rw [Bool.and_eq_true]
      exact ⟨decide_eq_true (by omega), decide_eq_true (by omega)⟩
    rw [ft 0 (by omega) (by omega), ft (m : Int) (by omega) (by omega), ft 2 (by omega) (by omega), ft _ (by omega) (by omega)]
    simp
    refine .inr (ft _ (by omega) (by omega))
  · unfold Builtin.Range.rangeSize
    simp only [show (2 : Int) > 0 from by decide, if_true]
    split <;> omega
theorem normal_gives {X : Cx} {g : Addr} {cdg : Value} {q : Str} (mr : X.mg "range" = none) (ml : X.mg "len" = none) (mt : X.mg "tuple" = none) :
    GivesP X ["_law_ends_here", "_law_holds", "_law_edges", "_law_now", "_law_end", "_law_at"] "_law_normal" (defScope sNormal) g cdg (defBody sNormal) "_law_holds" q (TTn X.K) := by
  intro f c' v1 s H Q tl hr act hc h
  obtain ⟨a, ks, pr, rfl, hS, hk, hlen, hpr, q⟩ := h
  let Y : Cx := gotCx X ["_law_ends_here", "_law_holds", "_law_edges", "_law_now", "_law_end", "_law_at"] "_law_normal" (defScope sNormal) g cdg s H
  refine ⟨_, pss_cons (X := Y) (ps_asg (pe_tup (pa_cons (pe_lst pa_nil) (pa_cons pe_bl pa_nil))) (pg_tup rfl (pgs_cons (pg_name (i := 2) scNormal.nd rfl (.inr rfl)) (pgs_cons (pg_name (i := 3) scNormal.nd rfl (.inl rfl)) pgs_nil))))
    (pss_cons (X := Y) (ps_for PassesOwn.never rfl (pi_list (pv 0)) (pg_name (i := 4) scNormal.nd rfl (Or.inl rfl))
      (pss_one (ps_if (pt_cmpR op_ne (act (.Name "_law_end" _) _ _ _ (pv 4) rfl) (pv 3) (nomark _))
        (pss_cons (ps_expr (pe_bm PySem.F.plainAttrs_list PySem.F.slot_list_append PySem.F.type_list_append mt_append (pv 2) (pa_cons (pv 4) pa_nil))) (pss_one (ps_set (i := 3) scNormal.nd rfl (.inl rfl) (pe_not (pv 3))))) pss_nil)))
    (pss_cons (X := Y) (ps_set (i := 2) scNormal.nd rfl (.inr rfl) (pe_op op_cat (pv 2) (pe_lst (pa_cons pe_non pa_nil))))
    (pss_one (ps_ret (pe_callTy call_tuple_of (by rfl) mt (by decide +kernel) (pa_cons (pe_lc (own := [("_law_at", 5)]) (g := gName 5) (tt := tYes) rfl scNormal.nd
      (pi_range3 rfl mr (pa_cons pe_int (pa_cons (pe_op op_sub (pe_callB call_len_seq (by rfl) ml PySem.boot_len (pa_cons (pv 2) pa_nil)) pe_int) (pa_cons pe_int pa_nil))))
      (blkOk_by (N := ["_law_ends_here", "_law_holds", "_law_edges", "_law_now", "_law_end", "_law_at"]) (sc := defScope sNormal) (by decide +kernel)) (fun _ _ _ _ _ => pg_name (i := 5) scNormal.nd rfl (Or.inl rfl)) (fun _ _ _ _ _ => pts_nil)
      (fun _ _ _ _ _ => pe_tup (pa_cons (pe_ix (r := rIxL X.K) ix_list (pv 2) (pv 5) (fun _ _ => rfl)) (pa_cons (pe_ix (r := rIxL X.K) ix_list (pv 2) (pe_op op_add (pv 5) pe_int) (fun _ _ => rfl)) pa_nil)))) pa_nil)))))), ?_⟩
  refine ⟨Nat.zero_le _, fun l0 hl0 => ?_⟩
  have s1 := same_upd (o := .lst []) hl0
  refine ⟨by show 2 ≤ sizeLine; decide, fun p0 hp0 => ?_⟩
  have s2 := same_upd (o := .tup [.ref l0, .bl false]) hp0
  refine ⟨p0, [.ref l0, .bl false], rfl, .inl (.inl upd_same), rfl, _, _, rfl, _, _, rfl, rfl, ?_⟩
  refine ⟨_, rfl, a, rfl, ⟨_, (s1.trans s2).seq hS⟩, for_list (K := X.K) (a := a) (xs := rf ks) (fun i σ H' => ∃ (y4 y5 : Option V) (now : Bool) (es : List (Addr × Ver)), σ = [some (.ref a), some (.ref f), some (.ref l0), some (.bl now), y4, y5] ∧ Same H H' ∧ H' l0 = some (.lst (rf es)) ∧
      (∀ p ∈ es, p ∈ ks) ∧ es.length ≤ i ∧ es.map (·.2) ++ edgesOf pr now ((ks.map (·.2)).drop i) = edgesOf pr false (ks.map (·.2)))
    ⟨none, none, false, [], rfl, s1.trans s2, s2 _ _ upd_same, fun p hp => (nomatch hp), Nat.le_refl _, rfl⟩ (fun i σ H' _ ⟨_, _, _, _, _, e, _⟩ => e.seq hS) ?_ ?_⟩
  · rintro i y σ H' hi ⟨y4, y5, now, es, rfl, sH, hl, hes, hel, he⟩
    have hi' : i < ks.length := by
      have := (List.getElem?_eq_some_iff.mp hi).1
      rw [List.length_map] at this
      exact this
    obtain ⟨p, hp, rfl⟩ : ∃ p, ks[i]? = some p ∧ y = .ref p.1 := by
      rw [List.getElem?_map] at hi
      cases e : ks[i]? with
      | none => rw [e] at hi; simp at hi
      | some p => rw [e] at hi; exact ⟨p, rfl, (Option.some.inj hi).symm⟩
    have hmem := List.mem_of_getElem? hp
    have hdrop : (ks.map (·.2)).drop i = p.2 :: (ks.map (·.2)).drop (i + 1) := by
      have hi2 : i < (ks.map (·.2)).length := by rw [List.length_map]; exact hi'
      rw [List.drop_eq_getElem_cons hi2]
      congr 1
      have := (List.getElem?_eq_some_iff.mp hp).2
      simp [this]
    refine ⟨rfl, _, rfl, sH _ _ hc, hpr H' p _ sH hmem fun H1 t1 => ?_⟩
    refine ⟨_, rfl, rfl, _, rfl, ite2 (fun e => ?_) (fun e => ?_)⟩
    · have e' : (pr p.2 != now) = true := by
        have : (!decide (V.bl (pr p.2) = V.bl now)) = true := e
        cases h1 : pr p.2 <;> cases h2 : now <;> simp_all
      refine ⟨_, rfl, .inl ⟨rfl, _, SqL.of (t1 _ _ hl)⟩, _, rfl, l0, _, _, rfl, rfl, t1 _ _ hl, by rw [List.length_map]; exact small1000 (by omega), ?_⟩
      refine ⟨_, rfl, now, rfl, ?_⟩
      have nl : H l0 = none := hl0
      refine ⟨_, y5, !now, es ++ [p], rfl, fun b o z => by rw [upd_ne (ne_of_none z nl)]; exact t1 _ _ (sH _ _ z), by rw [upd_same]; simp [rf], fun r hr => ?_, by rw [List.length_append]; simp; omega, ?_⟩
      · rcases List.mem_append.mp hr with hr | hr
        · exact hes r hr
        · rw [List.mem_singleton.mp hr]; exact hmem
      · rw [← he, hdrop]
        conv => rhs; unfold edgesOf
        rw [if_pos e']
        simp
    · have e' : ¬ (pr p.2 != now) = true := by
        intro z
        apply e
        show (!decide (V.bl (pr p.2) = V.bl now)) = true
        cases h1 : pr p.2 <;> cases h2 : now <;> simp_all
      refine ⟨_, y5, now, es, rfl, sH.trans t1, t1 _ _ hl, hes, by omega, ?_⟩
      rw [← he, hdrop]
      conv => rhs; unfold edgesOf
      rw [if_neg e']
  · rintro σ H' ⟨y4, y5, now, es, rfl, sH, hl, hes, hel, he⟩
    have hel2 : es.length ≤ 64 := by rw [List.length_map] at hel; omega
    have he' : es.map (·.2) = edgesOf pr false (ks.map (·.2)) := by
      rw [← he, List.drop_of_length_le (by simp)]
      simp [edgesOf]
    refine ⟨_, rfl, by show 1 ≤ sizeLine; decide, fun l1 hl1 => ?_⟩
    have t1 := same_upd (o := .lst [.non]) hl1
    refine ⟨l0, l1, _, [.non], rfl, rfl, t1 _ _ hl, upd_same, by simp only [List.length_map]; exact Nat.le_of_lt (small1000 (by simp; omega)), fun l2 hl2 => ?_⟩
    have t2 := same_upd (o := .lst (rf es ++ [.non])) hl2
    generalize hG : upd (upd H' l1 _) l2 _ = G
    have sG : Same H' G := by rw [← hG]; exact t1.trans t2
    have gl : G l2 = some (.lst (rf es ++ [.non])) := by rw [← hG]; exact upd_same
    refine ⟨_, rfl, l2, _, rfl, .inl (SqL.of gl), _, 1, rfl, rfl, ?_⟩
    refine ⟨0, _, 2, (es.length + 1) / 2, rfl, ?_, fun D hD => ?_⟩
    · have e1 : (((rf es ++ [V.non]).length : Nat) : Int) - 1 = (es.length : Int) := by simp
      show RgC 0 ((((rf es ++ [V.non]).length : Nat) : Int) - 1) 2 _
      rw [e1]
      exact rng2 es.length (by omega)
    have sD := same_upd (o := .lst []) hD
    refine lc_rangeC (fun i H1 => Same G H1 ∧ ∃ zs, H1 D = some (.lst zs) ∧ Strs X.K H1 zs ((pairsV (es.map (·.2))).take i)) ⟨sD, [], upd_same, rfl, fun i x s h => by simp at h⟩ ?_ ?_
    · rintro j H1 hj ⟨sJ, zs, hz, hst⟩
      have hj2 : 2 * j < es.length := by omega
      have ge : es[2 * j]? = some es[2 * j] := List.getElem?_eq_getElem hj2
      have gl1 := sJ _ _ gl
      refine ⟨rfl, yesI ?_⟩
      have i1 : atI (rf es ++ [V.non]) (0 + (j : Nat) * 2) = some (.ref es[2 * j].1) := by
        have ej : (0 + (j : Nat) * 2 : Int) = ((2 * j : Nat) : Int) := by omega
        rw [ej]
        refine atI_nat ?_
        rw [List.getElem?_append_left (by simpa using hj2), List.getElem?_map, ge]
        rfl
      obtain ⟨y, hy, i2⟩ : ∃ y, IsEnd X.K H1 y ((es.map (·.2))[2 * j + 1]?) ∧ atI (rf es ++ [V.non]) (0 + (j : Nat) * 2 + 1) = some y := by
        have ej : (0 + (j : Nat) * 2 + 1 : Int) = ((2 * j + 1 : Nat) : Int) := by omega
        rw [ej]
        by_cases h1 : 2 * j + 1 < es.length
        · refine ⟨.ref es[2 * j + 1].1, ?_, atI_nat ?_⟩
          · rw [List.getElem?_map, List.getElem?_eq_getElem h1]
            exact ⟨_, rfl, Same.sqT ((sH.trans sG).trans sJ) (hk _ (hes _ (List.getElem_mem h1))).1⟩
          · rw [List.getElem?_append_left (by simpa using h1), List.getElem?_map, List.getElem?_eq_getElem h1]
            rfl
        · refine ⟨.non, ?_, atI_nat ?_⟩
          · rw [List.getElem?_eq_none (by rw [List.length_map]; omega)]
            rfl
          · have h2 : 2 * j + 1 = es.length := by omega
            rw [List.getElem?_append_right (by rw [List.length_map]; omega), List.length_map, h2]
            simp
      refine ⟨_, rfl, _, rfl, l2, _, _, _, rfl, rfl, SqL.of gl1, i1, ?_⟩
      refine ⟨_, rfl, _, rfl, _, 1, rfl, rfl, l2, _, _, _, rfl, rfl, SqL.of gl1, i2, by show 2 ≤ sizeLine; decide, fun p hp => ?_⟩
      have t3 := same_upd (o := .tup [.ref es[2 * j].1, y]) hp
      have hz3 := t3 _ _ hz
      have hzl : zs.length ≤ 64 := by
        rw [hst.len, List.length_take]
        have := pairsV_len (es.map (·.2))
        rw [List.length_map] at this
        omega
      refine ⟨_, hz3, small1000 (by omega), ?_⟩
      have keepT : ∀ {b : Addr} {ys : List V}, SqT X.K (upd H1 p (.tup [.ref es[2 * j].1, y])) b ys → SqT X.K (upd (upd H1 p (.tup [.ref es[2 * j].1, y])) D (.lst (zs ++ [.ref p]))) b ys := fun {b ys} t => by
        rcases t with (t | ⟨o, t⟩) | t
        · exact .inl (.inl (by rw [upd_ne (ne_of t hz3 (by intro z; cases z))]; exact t))
        · exact .inl (.inr ⟨o, by rw [upd_ne (ne_of t hz3 (by intro z; cases z))]; exact t⟩)
        · exact .inr t
      have keepV : ∀ {x : V} {v : Ver}, IsVer X.K (upd H1 p (.tup [.ref es[2 * j].1, y])) x v → IsVer X.K (upd (upd H1 p (.tup [.ref es[2 * j].1, y])) D (.lst (zs ++ [.ref p]))) x v := fun {x v} ⟨a, e, t⟩ => ⟨a, e, keepT t⟩
      have keepE : ∀ {x : V} {e : Option Ver}, IsEnd X.K (upd H1 p (.tup [.ref es[2 * j].1, y])) x e → IsEnd X.K (upd (upd H1 p (.tup [.ref es[2 * j].1, y])) D (.lst (zs ++ [.ref p]))) x e := fun {x e} t => by
        cases e with
        | none => exact t
        | some u => exact keepV t
      have keepS : ∀ {x : V} {s : Str2}, IsStr X.K (upd H1 p (.tup [.ref es[2 * j].1, y])) x s → IsStr X.K (upd (upd H1 p (.tup [.ref es[2 * j].1, y])) D (.lst (zs ++ [.ref p]))) x s := fun {x s} ⟨a, l, hh, e, t, t1, t2⟩ => ⟨a, l, hh, e, keepT t, keepV t1, keepE t2⟩
      have ge2 : (es.map (·.2))[2 * j]? = some es[2 * j].2 := by rw [List.getElem?_map, ge]; rfl
      have tk := take_snoc (pairsV_get _ j _ ge2)
      refine ⟨fun b o z => by rw [upd_ne (ne_of_none z hD)]; exact t3 _ _ (sJ _ _ z), zs ++ [.ref p], upd_same, ?_⟩
      rw [tk]
      have hS2 := hst.same t3
      refine Strs.snoc ⟨hS2.len, fun i x s a b => keepS (hS2.at_ i x s a b)⟩ (keepS ⟨p, _, _, rfl, .inl (.inl upd_same), ⟨_, rfl, Same.sqT (((sH.trans sG).trans sJ).trans t3) (hk _ (hes _ (List.getElem_mem hj2))).1⟩, hy.same t3⟩)
    · rintro H1 ⟨sJ, zs, hz, hst⟩
      rw [List.take_of_length_le (by rw [pairsV_len, List.length_map]; exact Nat.le_refl _)] at hst
      refine ⟨_, _, rfl, .inl ⟨SqL.of hz, fun l hl => ?_⟩⟩
      have t3 := same_upd (o := .tup zs) hl
      rw [he'] at hst
      exact q _ l zs (((sH.trans sG).trans sJ).trans t3) upd_same (hst.same t3)
end Kw
set_option maxHeartbeats 4000000
namespace Kw
open PySem PySem.Spec PyProof.Rows L2
open PySem.W (dataLt alike alikeAll AlikeAll maxD cmpIn_gt iter_tupleW moved_old readsAll_len readsAll_atA argBest_fold reads_keeps)
/-! ### max of two versions -/
def maxV (v u : Ver) : Ver := if ltV v u then u else v
section
variable {prog : Program} {w : World} {A : Around} {E : Value → Shared → Prop} {s : Shared}
theorem max2_data {a b : Value} {x y : PyData} {as : List Addr} {Q : Value → Shared → Prop} (hh : A.handled = none) (hr : ReadsAll s.heap [a, b] [x, y] as) (ha : AlikeAll [x, y]) (hu : A.units + 1 + PyData.depthAll [x, y] < cLine)
    (q : ∀ v h' tk bs, (v = a ∨ v = b) → Reads h' v (maxD x [y]) bs → (∀ b o, s.heap.get? b = some o → h'.get? b = some o) → Q v { s with heap := h', toks := tk }) : wpAny (model prog w) A (call (.builtin "max") [a, b]) Q E s := by
  have hname : (toString "max" ++ toString ".loop" : String) = "max.loop" := by decide
  refine call_function_tree F.kind_max F.plain_max F.entry_max (F.args_max2 _ _) ?_
  show wpAny _ A.in1 (Builtin.Builtins.bindParams "max" ["key", "default"] 0 ⟨[], []⟩ >>= _) _ _ s
  refine wpAny_bind (wpAny_of_eq (show Builtin.Builtins.bindParams "max" ["key", "default"] 0 ⟨[], []⟩ = pure [none, none] from rfl) ?_)
  show wpAny _ A.in1 (newTuple [a, b] >>= _) _ _ s
  refine wpAny_bind (wpAny_newObj_type ?_)
  have k1 : ∀ c o, s.heap.get? c = some o → (s.heap.push { cls := .type "tuple", data := .seq #[a, b] }).get? c = some o := fun c o e => Heap.get?_push_of_some _ e
  have hT : (s.heap.push { cls := .type "tuple", data := .seq #[a, b] }).IsTuple s.heap.objs.size #[a, b] := ⟨_, Heap.get?_push_size _ rfl, rfl, 0, rfl⟩
  have hr1 : ReadsAll (s.heap.push { cls := .type "tuple", data := .seq #[a, b] }) (#[a, b] : Array Value).toList [x, y] as := ReadsAll.keeps k1 hr
  refine wpAny_bind (iter_tupleW (A := A.in1) (s := { s with heap := s.heap.push { cls := .type "tuple", data := .seq #[a, b] } }) hh hT fun s₂ e W st hfp hw hk => ?_)
  refine wpAny_bind (wpAny_newObj_type ?_)
  have hSf : s₂.heap.objs.size ∉ [(s.heap.push { cls := .type "tuple", data := .seq #[a, b] }).objs.size, s.heap.objs.size] := fun hm => Nat.lt_irrefl _ (hfp _ hm)
  rw [hname]
  refine wpAny_pure ⟨plainId_quiet F.plain_max_loop _, codeAny_max_loop_firstH W (s.heap.push { cls := .type "tuple", data := .seq #[a, b] }) hw _ (cmpIn_gt (A := A.in1) (s := { s with heap := s.heap.push { cls := .type "tuple", data := .seq #[a, b] } }) hr1 ha (by show A.units + 1 + _ < _; exact hu)) s₂.heap.objs.size hSf (fresh_in hk) _ (by simp) (fun b o e => Heap.get?_push_of_some _ (hk b o e)) (W.frame 0 s₂ _ s₂.toks st (Nat.le_refl _) fun b _ o e => Heap.get?_push_of_some _ e) (Heap.get?_push_size _ rfl) fun v s' hP hm => ?_⟩
  obtain ⟨h', tk, rfl, hk'⟩ := moved_old e rfl (Moved.drop_new (tk := s₂.toks) hm (Nat.le_refl _))
  obtain ⟨bs, r, _, _, _⟩ := readsAll_atA hr1 _ v hP
  have e2 := (argBest_fold (fun a b => dataLt b a) PyData.none x [y] 1 (Nat.le_refl _)).2
  have e3 : List.take 1 [y] = [y] := rfl
  rw [e3] at e2
  refine q v h' tk bs ?_ (reads_keeps hk' (by unfold maxD; rw [← e2]; exact r)) fun c o z => hk' _ _ (k1 _ _ z)
  have hm := Array.mem_of_getElem? hP
  simpa using hm
end
section
variable {X : Cx}
theorem ver_reads {pins : List (Addr × Obj)} {σ : L2.St} {H : Hp} {s : Shared} {x : V} {v : Ver} {u : Value} (I : Inv X pins σ H s) (h : IsVer X.K H x v) (r : RelV x u) : Reads s.heap u (keyD v) [] ∧ ∃ a, x = .ref a ∧ u = .ref a := by
  obtain ⟨a, rfl, ha⟩ := h
  obtain rfl : u = Value.ref a := r
  obtain ⟨itk, rvk, ⟨ok, hok, hck, nk, hdk⟩, _⟩ := I.tuple ha
  have k1 : IntsAre itk (vl v) := Vals.ints rvk
  exact ⟨.tuple hok hck hdk (by simpa using IntsAre.reads _ k1), a, rfl, rfl⟩
theorem keyD_inj {v u : Ver} (h : keyD v = keyD u) : v = u := by
  obtain ⟨a, b, c⟩ := v
  obtain ⟨d, e, f⟩ := u
  simp [keyD] at h
  obtain ⟨rfl, rfl, rfl⟩ := h
  rfl
theorem cr_max2V {k : Nat} (hc : X.calm = true) (hr : Room k X.A) : CallR X (.builtin "max") (fun vs H Q => ∃ x y v u, vs = [x, y] ∧ IsVer X.K H x v ∧ IsVer X.K H y u ∧ ∀ z, IsVer X.K H z (maxV v u) → Q z H) := by
  intro pins s σ H vs us Q I r h
  obtain ⟨x, y, v, u, rfl, hx, hy, q⟩ := h
  cases r with
  | cons r1 r =>
    cases r with
    | cons r2 r =>
      cases r
      rename_i vx vy
      obtain ⟨d1, ax, rfl, rfl⟩ := ver_reads I hx r1
      obtain ⟨d2, ay, rfl, rfl⟩ := ver_reads I hy r2
      have hm : maxD (keyD v) [keyD u] = keyD (maxV v u) := by
        show (if dataLt (keyD v) (keyD u) = true then keyD u else keyD v) = _
        rw [keyLt]
        unfold maxV
        by_cases e : ltV v u <;> simp [e]
      refine max2_data (I.ok.hd hc) (.cons d1 (.cons d2 .nil)) ⟨?_, ?_⟩ ?_ fun z h' tk bs hz hrd kp => ?_
      · intro x hx y hy
        simp at hx hy
        rcases hx with rfl | rfl <;> rcases hy with rfl | rfl <;> simp [keyD, alike, alikeAll]
      · intro x hx
        simp at hx
        rcases hx with rfl | rfl <;> simp [keyD]
      · have := hr.un
        have e : PyData.depthAll [keyD v, keyD u] = 1 := by simp [keyD, PyData.depth, PyData.depthAll]
        rw [e]
        omega
      · rw [hm] at hrd
        rcases hz with rfl | rfl
        · have e1 := ((Reads.keeps kp d1).unique _ _ hrd).1
          exact ⟨.ref ax, H, I.kept kp, rfl, q _ (by rw [← keyD_inj e1]; exact hx)⟩
        · have e1 := ((Reads.keeps kp d2).unique _ _ hrd).1
          exact ⟨.ref ay, H, I.kept kp, rfl, q _ (by rw [← keyD_inj e1]; exact hy)⟩
end
end Kw
set_option maxHeartbeats 4000000
namespace Kw
open PySem PySem.Spec PyProof.Rows L2 LamX
abbrev sLaterE : Stmt := top 8
abbrev sNF : Stmt := top 10
/-! ### a def whose code object is known -/
structure FunC (K : PySem.W.Frag) (x qual : Str) (st : Stmt) (f : Addr) (fd : FuncData) (cd : Addr) : Prop where
  ex : ∃ (oc : Value) (od : Option Addr) (kV doc pm : Value) (an : Option Addr) (ct : Value) (osl : Array (Option Value)),
    fd = PySem.W.fnOf x qual (defArgs st) (defBody st) (defScope st) .none kV doc pm an (.ref cd) ct ∧ K.lookup f = some ⟨oc, od, .func fd, osl⟩ ∧ PySem.W.codeIn K (.ref cd) qual = true
  kp : PySem.W.keepIn K (.ref f) = true
theorem FunC.fn {K : PySem.W.Frag} {x qual : Str} {st : Stmt} {f : Addr} {fd : FuncData} {cd : Addr} (F : FunC K x qual st f fd cd) : Fun K x qual st f fd := by
  obtain ⟨oc, od, kV, doc, pm, an, ct, osl, e, l, c⟩ := F.ex
  exact ⟨⟨oc, od, kV, doc, pm, an, .ref cd, ct, osl, e, l, c⟩, F.kp⟩
section
variable {P : Program} {w : World} {K : PySem.W.Frag} {mg : Str → Option Value} {base : Heap}
theorem FunC.ok {x qual : Str} {st : Stmt} {f : Addr} {fd : FuncData} {cd : Addr} {N ps : List Str} {k : Nat} {sp : Sp} (F : FunC K x qual st f fd cd) (S : FnScope N ps (defScope st)) (len : ∀ vs H Q E, sp vs H Q E → vs.length = ps.length)
    (body : ∀ (A : Around) (outer : List Env) (s : Shared) (H : Hp) (vs : List V) (Q : VK) (E : XK), Room k (A.deeper (envOfC qual (defScope st) s.heap.objs.size f (.ref cd))) → sp vs H Q E →
      ∃ t, PSs (cxOf CX0 P w K mg base N qual (defScope st) f (.ref cd) A outer s H E).nox (defBody st) t ∧ t { nx := fun _ H' => Q .non H', rt := Q } (L2.start N vs) H) : FnOk P w K mg base CX0 (k + 1) f fd ps sp := by
  obtain ⟨oc, od, kV, doc, pm, an, ct, osl, rfl, lk, hcd⟩ := F.ex
  refine fn_of lk hcd S len fun A outer s H vs Q E hr hsp => ?_
  obtain ⟨t, h, q⟩ := body A outer s H vs Q E hr hsp
  exact ⟨t, h.nox, q⟩
/-! ### the later one of two ends -/
def laterE : Option Ver → Option Ver → Option Ver
  | some v, some u => some (maxV v u)
  | _, _ => none
def spLaterE (K : PySem.W.Frag) : Sp := fun vs H Q _ => ∃ (x y : V) (a b : Option Ver), vs = [x, y] ∧ IsEnd K H x a ∧ IsEnd K H y b ∧ ∀ z, IsEnd K H z (laterE a b) → Q z H
theorem scLaterE : FnScope ["one", "other"] ["one", "other"] (defScope sLaterE) := ⟨rfl, rfl, rfl, by decide +kernel, rfl, by decide +kernel, by decide +kernel⟩
theorem ok_laterE {f : Addr} {fd : FuncData} {k : Nat} (F : Fun K "later_end" "later_end" sLaterE f fd) (mm : mg "max" = none) : FnOk P w K mg base CX0 (k + 1) f fd ["one", "other"] (spLaterE K) := by
  refine F.ok scLaterE (fun vs H Q E h => ?_) (fun cdv A outer s H vs Q E hr h => ?_)
  · obtain ⟨x, y, a, b, rfl, _⟩ := h
    rfl
  · obtain ⟨x, y, a, b, rfl, hx, hy, q⟩ := h
    refine ⟨_, pss_cons (ps_if (PW.pt (pw_or (pt_cmpR op_isN (pv 0) pe_non (nomark _)) (pw_or1 (pt_cmpR op_isN (pv 1) pe_non (nomark _))))) (pss_one (ps_ret pe_non)) pss_nil)
      (pss_one (ps_ret (pe_callB (cr_max2V rfl hr) (by rfl) mm (by decide +kernel) (pa_cons (pv 0) (pa_cons (pv 1) pa_nil))))), ?_⟩
    refine ⟨x, rfl, rfl, _, rfl, ?_⟩
    rw [isEnd_non hx]
    cases a with
    | none => exact iteT (iteT (q .non rfl))
    | some v =>
      refine iteF ⟨y, rfl, rfl, _, rfl, ?_⟩
      rw [isEnd_non hy]
      cases b with
      | none => exact iteT (q .non rfl)
      | some u => exact iteF ⟨_, rfl, _, rfl, x, y, v, u, rfl, hx, hy, fun z hz => q z hz⟩
end
end Kw
set_option maxHeartbeats 4000000
namespace Kw
open PySem PySem.Spec PyProof.Rows L2 LamX
/-! ### the normal form, step by step -/
def joinsE : Option Ver → Ver → Bool
  | none, _ => true
  | some u, v => decide (leV v u)
def joinB (fs : List Str2) (v : Ver) : Bool := match fs.getLast? with
  | none => false
  | some t => joinsE t.2 v
def nfAdd (fs : List Str2) (s : Str2) : List Str2 := match fs.getLast? with
  | none => fs ++ [s]
  | some t => if joinsE t.2 s.1 = true then fs.dropLast ++ [(t.1, laterE t.2 s.2)] else fs ++ [s]
theorem nfAdd_no {fs : List Str2} {s : Str2} (h : ¬ joinB fs s.1 = true) : nfAdd fs s = fs ++ [s] := by
  unfold nfAdd joinB at *
  cases e : fs.getLast? with
  | none => rfl
  | some t => rw [e] at h; simp only at h ⊢; rw [if_neg h]
theorem nfAdd_len {fs : List Str2} {s : Str2} : (nfAdd fs s).length ≤ fs.length + 1 := by
  unfold nfAdd
  split
  · simp
  · split <;> simp <;> omega
theorem nf_len : ∀ (ss fs : List Str2), (ss.foldl nfAdd fs).length ≤ fs.length + ss.length
  | [], fs => Nat.le_refl _
  | s :: ss, fs => by
    have h1 := nf_len ss (nfAdd fs s)
    have h2 := nfAdd_len (fs := fs) (s := s)
    simp only [List.foldl_cons, List.length_cons]
    omega
/-- found[-1] of a list in hand -/
abbrev tLast (K : PySem.W.Frag) (i : Nat) : TE := tOp (rIxL K) (tVar i) (tUn (rU fun i => .int (-i)) (tC (.int 1)))
def tJoin (K : PySem.W.Frag) (fi lo : Nat) : TT := tAnd (fun σ H Q => tVar fi σ H fun x H' => ∃ k, TruV K x H' k ∧ Q k H')
  (tOr (tTest (tOp (fun x y H Q => y = .non ∧ Q (.bl (decide (x = .non))) H) (tOp (rIxT K) (tLast K fi) (tC (.int 1))) (tC .non))) (tTest (tOp (rVer K .LtE) (tVar lo) (tOp (rIxT K) (tLast K fi) (tC (.int 1))))))
theorem Strs.last {K : PySem.W.Frag} {H : Hp} {zs : List V} {fs : List Str2} {t : Str2} (h : Strs K H zs fs) (e : fs.getLast? = some t) : ∃ zs' x, zs = zs' ++ [x] ∧ IsStr K H x t ∧ Strs K H zs' fs.dropLast := by
  obtain ⟨fs', rfl⟩ : ∃ fs', fs = fs' ++ [t] := by
    rw [List.getLast?_eq_some_iff] at e
    exact e
  have hl := h.len
  rw [List.length_append, List.length_singleton] at hl
  obtain ⟨zs', x, rfl⟩ : ∃ zs' x, zs = zs' ++ [x] := by
    rcases List.eq_nil_or_concat zs with rfl | ⟨a, b, e⟩
    · simp at hl
    · exact ⟨a, b, by rw [e]; simp⟩
  have hl' : zs'.length = fs'.length := by simpa using hl
  refine ⟨zs', x, rfl, h.at_ zs'.length x t (by simp) (by rw [hl']; simp), ?_⟩
  rw [List.dropLast_concat]
  refine ⟨hl', fun i y s a b => h.at_ i y s ?_ ?_⟩
  · rw [List.getElem?_append_left (List.getElem?_eq_some_iff.mp a).1]; exact a
  · rw [List.getElem?_append_left (List.getElem?_eq_some_iff.mp b).1]; exact b
theorem last_ix {K : PySem.W.Frag} {H : Hp} {σ : L2.St} {i : Nat} {l : Addr} {zs : List V} {x : V} {Q : VK} (hi : σ[i]? = some (some (.ref l))) (hl : SqL K H l (zs ++ [x])) (q : Q x H) : tLast K i σ H Q :=
  ⟨_, hi, 1, rfl, l, _, -1, x, rfl, rfl, hl, atI_last _ _, q⟩
theorem join_read {K : PySem.W.Frag} {H : Hp} {σ : L2.St} {fi lo : Nat} {l : Addr} {zs : List V} {fs : List Str2} {x : V} {v : Ver} {Q : Bool → Hp → Prop} (hf : σ[fi]? = some (some (.ref l))) (hlo : σ[lo]? = some (some x)) (hl : SqL K H l zs) (hz : Strs K H zs fs) (hx : IsVer K H x v)
    (q : Q (joinB fs v) H) : tJoin K fi lo σ H Q := by
  refine ⟨_, hf, !zs.isEmpty, .inl ⟨zs, hl, rfl⟩, ?_⟩
  unfold joinB at q
  cases e : fs.getLast? with
  | none =>
    rw [e] at q
    have : fs = [] := by simpa using e
    subst this
    have : zs = [] := List.length_eq_zero_iff.mp hz.len
    subst this
    exact iteF q
  | some t =>
    rw [e] at q
    obtain ⟨zs', y, rfl, ⟨p, lo', hh, rfl, g1, g2, g3⟩, _⟩ := hz.last e
    have ne : (!(zs' ++ [V.ref p]).isEmpty) = true := by simp
    rw [ne]
    refine iteT ?_
    refine last_ix hf hl ⟨p, [lo', hh], 1, hh, rfl, rfl, g1, atI_nat (j := 1) rfl, rfl, _, rfl, ?_⟩
    rw [isEnd_non g3]
    obtain ⟨t1, t2⟩ := t
    cases t2 with
    | none => exact iteT q
    | some u =>
      refine iteF ⟨_, hlo, last_ix hf hl ⟨p, [lo', hh], 1, hh, rfl, rfl, g1, atI_nat (j := 1) rfl, v, u, hx, g3, _, rfl, q⟩⟩
end Kw
set_option maxHeartbeats 4000000
namespace Kw
open PySem PySem.Spec PyProof.Rows L2 LamX
/-! ### what stays where only tables grow, or one list is written -/
theorem _root_.LamX.ExtN.sqT {K : PySem.W.Frag} {H H' : Hp} {a : Addr} {xs : List V} (e : ExtN H H') (h : SqT K H a xs) : SqT K H' a xs := by
  rcases h with (h | ⟨o, h⟩) | h
  · exact .inl (.inl (e _ _ h fun ps z => nomatch z))
  · exact .inl (.inr ⟨o, e _ _ h fun ps z => nomatch z⟩)
  · exact .inr h
theorem _root_.LamX.ExtN.sqL {K : PySem.W.Frag} {H H' : Hp} {a : Addr} {xs : List V} (e : ExtN H H') (h : SqL K H a xs) : SqL K H' a xs := by
  rcases h with (h | ⟨o, h⟩) | h
  · exact .inl (.inl (e _ _ h fun ps z => nomatch z))
  · exact .inl (.inr ⟨o, e _ _ h fun ps z => nomatch z⟩)
  · exact .inr h
theorem _root_.LamX.ExtN.ver {K : PySem.W.Frag} {H H' : Hp} {x : V} {v : Ver} (e : ExtN H H') (h : IsVer K H x v) : IsVer K H' x v := let ⟨a, q, t⟩ := h; ⟨a, q, e.sqT t⟩
theorem _root_.LamX.ExtN.end_ {K : PySem.W.Frag} {H H' : Hp} {x : V} {v : Option Ver} (e : ExtN H H') (h : IsEnd K H x v) : IsEnd K H' x v := by
  cases v with
  | none => exact h
  | some u => exact e.ver h
theorem _root_.LamX.ExtN.str {K : PySem.W.Frag} {H H' : Hp} {x : V} {s : Str2} (e : ExtN H H') (h : IsStr K H x s) : IsStr K H' x s := let ⟨p, l, hh, q, t, t1, t2⟩ := h; ⟨p, l, hh, q, e.sqT t, e.ver t1, e.end_ t2⟩
theorem _root_.LamX.ExtN.strs {K : PySem.W.Frag} {H H' : Hp} {xs : List V} {ss : List Str2} (e : ExtN H H') (h : Strs K H xs ss) : Strs K H' xs ss := ⟨h.len, fun i x s a b => e.str (h.at_ i x s a b)⟩
theorem _root_.LamX.ExtN.same {H H' : Hp} (s : Same H H') : ExtN H H' := fun b o h _ => s b o h
theorem ixN_last (zs : List V) (x : V) : ixN (zs ++ [x]).length (-1) = some zs.length := by
  unfold ixN
  rw [if_neg (by decide), if_pos (by simp; omega)]
  simp
  omega
/-- all but l stay -/
def Fr1 (l : Addr) (H H' : Hp) : Prop := ∀ c o, c ≠ l → H c = some o → H' c = some o
theorem Fr1.refl {l : Addr} {H : Hp} : Fr1 l H H := fun _ _ _ h => h
theorem Fr1.trans {l : Addr} {H H1 H2 : Hp} (x : Fr1 l H H1) (y : Fr1 l H1 H2) : Fr1 l H H2 := fun c o n h => y c o n (x c o n h)
theorem Fr1.same {l : Addr} {H H' : Hp} (s : Same H H') : Fr1 l H H' := fun c o _ h => s c o h
theorem Fr1.put {l : Addr} {H : Hp} {o : HO} : Fr1 l H (upd H l o) := fun c u n h => by rw [upd_ne n]; exact h
section
variable {K : PySem.W.Frag} {l : Addr} {H H' : Hp} {ys : List V}
theorem Fr1.sqT {a : Addr} {xs : List V} (e : Fr1 l H H') (hl : H l = some (.lst ys)) (h : SqT K H a xs) : SqT K H' a xs := by
  rcases h with (h | ⟨o, h⟩) | h
  · exact .inl (.inl (e _ _ (ne_of h hl (by intro z; cases z)) h))
  · exact .inl (.inr ⟨o, e _ _ (ne_of h hl (by intro z; cases z)) h⟩)
  · exact .inr h
theorem Fr1.ver {x : V} {v : Ver} (e : Fr1 l H H') (hl : H l = some (.lst ys)) (h : IsVer K H x v) : IsVer K H' x v := let ⟨a, q, t⟩ := h; ⟨a, q, e.sqT hl t⟩
theorem Fr1.end_ {x : V} {v : Option Ver} (e : Fr1 l H H') (hl : H l = some (.lst ys)) (h : IsEnd K H x v) : IsEnd K H' x v := by
  cases v with
  | none => exact h
  | some u => exact e.ver hl h
theorem Fr1.str {x : V} {s : Str2} (e : Fr1 l H H') (hl : H l = some (.lst ys)) (h : IsStr K H x s) : IsStr K H' x s := let ⟨p, lo, hh, q, t, t1, t2⟩ := h; ⟨p, lo, hh, q, e.sqT hl t, e.ver hl t1, e.end_ hl t2⟩
theorem Fr1.strs {xs : List V} {ss : List Str2} (e : Fr1 l H H') (hl : H l = some (.lst ys)) (h : Strs K H xs ss) : Strs K H' xs ss := ⟨h.len, fun i x s a b => e.str hl (h.at_ i x s a b)⟩
theorem Tabs.fr1 {T : List (Addr × Str)} (t : Tabs T H) (e : Fr1 l H H') (hl : H l = some (.lst ys)) : Tabs T H' := fun p hp => by
  obtain ⟨ps, h1, h2, h3⟩ := t p hp
  refine ⟨ps, e _ _ (ne_of h1 hl (by intro z; cases z)) h1, h2, fun pos cv hc => ?_⟩
  obtain ⟨c, e1, e2⟩ := h3 pos cv hc
  exact ⟨c, e1, e _ _ (ne_of e2 hl (by intro z; unfold CodeO at z; cases z)) e2⟩
theorem strs_zip : ∀ {xs : List V} {ss : List Str2}, Strs K H xs ss → ∃ bs : List VS, bs.map (·.1) = xs ∧ bs.map (·.2) = ss ∧ ∀ b ∈ bs, IsStr K H b.1 b.2 := fun {xs ss} h => by
  refine ⟨xs.zip ss, List.map_fst_zip (Nat.le_of_eq h.len), List.map_snd_zip (Nat.le_of_eq h.len.symm), fun b hb => ?_⟩
  obtain ⟨i, hi⟩ := List.getElem?_of_mem hb
  rw [List.getElem?_zip_eq_some] at hi
  exact h.at_ i _ _ hi.1 hi.2
theorem strs_of {bs : List VS} (h : ∀ b ∈ bs, IsStr K H b.1 b.2) : Strs K H (bs.map (·.1)) (bs.map (·.2)) := by
  refine ⟨by simp, fun i x s a b => ?_⟩
  rw [List.getElem?_map] at a b
  cases e : bs[i]? with
  | none => rw [e] at a; simp at a
  | some p =>
    rw [e] at a b
    obtain rfl := Option.some.inj a
    obtain rfl := Option.some.inj b
    exact h p (List.mem_of_getElem? e)
end
/-- the normal form of a list or tuple of stretches: of the same stretches by their lows -/
def spNF (K : PySem.W.Frag) (T : List (Addr × Str)) : Sp := fun vs H Q _ => ∃ (a : Addr) (xs : List V) (ss : List Str2), vs = [.ref a] ∧ Tabs T H ∧ SqLT K H a xs ∧ Strs K H xs ss ∧ ss.length ≤ 60 ∧
  ∀ (H' : Hp) (D : Addr) (zs : List V) (ss' : List Str2), ExtN H H' → Tabs T H' → H' D = some (.tup zs) → ss'.Perm ss → ss'.Pairwise (fun p q => ¬ ltV q.1 p.1) → Strs K H' zs (ss'.foldl nfAdd []) → Q (.ref D) H'
section
variable {P : Program} {w : World} {K : PySem.W.Frag} {mg : Str → Option Value} {base : Heap}
theorem scNF : FnScope ["stretches", "found", "low", "high"] ["stretches"] (defScope sNF) := ⟨rfl, rfl, rfl, by decide +kernel, rfl, by decide +kernel, by decide +kernel⟩
theorem ok_nf {f : Addr} {fd : FuncData} {k : Nat} {cd PT : Addr} {T : List (Addr × Str)} (F : FunC K "normal_form" "normal_form" sNF f fd cd) (ms : mg "sorted" = none) (mt : mg "tuple" = none) (TB : TabB base mg cd PT) (hmT : (PT, ("normal_form" : Str) ++ ".<locals>." ++ "<lambda>") ∈ T)
    (hu : ∀ p ∈ T, p.1 = PT → p.2 = ("normal_form" : Str) ++ ".<locals>." ++ "<lambda>") (DL : Def P w K mg base "later_end" CX0 (k + 3) ["one", "other"] (spLaterE K)) : FnOk P w K mg base CX0 (k + 4) f fd ["stretches"] (spNF K T) := by
  refine F.ok scNF (fun vs H Q E h => ?_) (fun A outer s H vs Q E hr h => ?_)
  · obtain ⟨a, xs, ss, rfl, _⟩ := h
    rfl
  · obtain ⟨a, xs, ss, rfl, hT, hS, hss, hlen, q⟩ := h
    have hu' := hu_of hr
    refine ⟨_, pss_cons (ps_set (i := 1) scNF.nd rfl (.inl rfl) (pe_lst pa_nil))
      (pss_cons (ps_for PassesOwn.never rfl (pi_list (pe_sortedKey (k := k) (T := T) (c := cd) (P := PT) rfl ms TB rfl hmT hu hr rfl rfl rfl (by rfl) (by decide) (by decide) rfl (fun _ _ _ _ _ _ => rfl) (pv 0)))
        (pg_tup rfl (pgs_cons (pg_name (i := 2) scNF.nd rfl (.inl rfl)) (pgs_cons (pg_name (i := 3) scNF.nd rfl (.inl rfl)) pgs_nil)))
        (pss_one (ps_if (PW.pt (pw_and (pt_truth (pv 1) (fun _ => rfl)) (pw_and1 (PW.pt (pw_or (pt_cmpR op_isN (pe_ix ix_tup (pe_ix ix_list (pv 1) (pe_un un_neg pe_int) (fun _ _ => rfl)) pe_int (fun _ _ => rfl)) pe_non (nomark _))
            (pw_or1 (pt_cmpR (op_ver (op := .LtE) (.inr (.inl rfl)) hr.units0) (pv 2) (pe_ix ix_tup (pe_ix ix_list (pv 1) (pe_un un_neg pe_int) (fun _ _ => rfl)) pe_int (fun _ _ => rfl)) (nomark _))))))))
          (pss_one (ps_asg (pe_tup (pa_cons (pe_ix ix_tup (pe_ix ix_list (pv 1) (pe_un un_neg pe_int) (fun _ _ => rfl)) pe_int (fun _ _ => rfl)) (pa_cons (pe_d DL hr (pa_cons (pe_ix ix_tup (pe_ix ix_list (pv 1) (pe_un un_neg pe_int) (fun _ _ => rfl)) pe_int (fun _ _ => rfl)) (pa_cons (pv 3) pa_nil))) pa_nil)))
            (pg_sub (pv 1) (pe_un un_neg pe_int) set_list)))
          (pss_one (ps_expr (pe_bm PySem.F.plainAttrs_list PySem.F.slot_list_append PySem.F.type_list_append mt_append (pv 1) (pa_cons (pe_tup (pa_cons (pv 2) (pa_cons (pv 3) pa_nil))) pa_nil)))))))
      (pss_one (ps_ret (pe_callTy call_tuple_of (by rfl) mt (by decide +kernel) (pa_cons (pv 1) pa_nil))))), ?_⟩
    refine ⟨Nat.zero_le _, fun l0 hl0 => ?_⟩
    have s1 := same_upd (o := .lst []) hl0
    refine ⟨_, rfl, hT.ext s1, fun H1 e1 T1 => ?_⟩
    obtain ⟨bs, rfl, rfl, hb⟩ := strs_zip (ExtN.strs ((ExtN.same s1).trans e1) hss)
    have hl1 : H1 l0 = some (.lst []) := e1 _ _ upd_same fun ps z => nomatch z
    refine ⟨a, bs, rfl, ?_, fun b hb' => ?_, fun D0 bs' hD0 pm pw => ?_⟩
    · rcases hS with h | h
      · exact .inl (((ExtN.same s1).trans e1).sqL h)
      · exact .inr (((ExtN.same s1).trans e1).sqT h)
    · obtain ⟨p, lo, hh, e, g1, ⟨al, rfl, g2⟩, g3⟩ := hb b hb'
      exact ⟨p, [hh], al, e, g1, g2⟩
    have s2 := same_upd (o := .lst (bs'.map (·.1))) hD0
    have n0 : D0 ≠ l0 := (ne_of_none hl1 hD0).symm
    have hb2 : ∀ b ∈ bs', IsStr K (upd H1 D0 (.lst (bs'.map (·.1)))) b.1 b.2 := fun b hb' => (hb b (pm.mem_iff.mp hb')).same s2
    have hst := strs_of hb2
    have g0 : upd H1 D0 (.lst (bs'.map (·.1))) l0 = some (.lst []) := s2 _ _ hl1
    have gD : upd H1 D0 (.lst (bs'.map (·.1))) D0 = some (.lst (bs'.map (·.1))) := upd_same
    have gT : Tabs T (upd H1 D0 (.lst (bs'.map (·.1)))) := T1.ext s2
    have gE : ExtN H (upd H1 D0 (.lst (bs'.map (·.1)))) := ((ExtN.same s1).trans e1).trans (ExtN.same s2)
    generalize upd H1 D0 (.lst (bs'.map (·.1))) = G at hst g0 gD gT gE
    have hlen' : bs'.length ≤ 60 := by
      rw [pm.length_eq]
      simpa using hlen
    refine ⟨D0, rfl, ⟨_, SqL.of gD⟩, for_list (K := K) (a := D0) (xs := bs'.map (·.1)) (fun i σ H' => ∃ (y2 y3 : Option V) (zs : List V), σ = [some (.ref a), some (.ref l0), y2, y3] ∧ Fr1 l0 G H' ∧ H' l0 = some (.lst zs) ∧ Strs K H' zs (((bs'.map (·.2)).take i).foldl nfAdd []) ∧ zs.length ≤ i)
      ⟨none, none, [], rfl, .refl, g0, ⟨rfl, fun i x s h => by simp at h⟩, Nat.le_refl _⟩ (fun i σ H' _ ⟨_, _, _, _, e, _⟩ => SqL.of (e _ _ n0 gD)) ?_ ?_⟩
    · rintro i y σ H' hi ⟨y2, y3, zs, rfl, fr, hl, hz, hzl⟩
      have hi' : i < bs'.length := by
        have := (List.getElem?_eq_some_iff.mp hi).1
        simpa using this
      obtain ⟨st, hst', p, lo, hh, rfl, g1, g2, g3⟩ := (Fr1.strs fr g0 hst).get hi
      have tk : (((bs'.map (·.2)).take (i + 1)).foldl nfAdd []) = nfAdd (((bs'.map (·.2)).take i).foldl nfAdd []) st := by
        rw [take_snoc hst', List.foldl_append]
        rfl
      generalize ((bs'.map (·.2)).take i).foldl nfAdd [] = fs at hz tk
      refine ⟨p, [lo, hh], rfl, g1, rfl, _, _, rfl, _, _, rfl, rfl, ?_⟩
      refine join_read rfl rfl (SqL.of hl) hz g2 (ite2 (fun e => ?_) (fun e => ?_))
      · -- it joins the last one
        unfold joinB at e
        cases e3 : fs.getLast? with
        | none => rw [e3] at e; cases e
        | some t =>
          rw [e3] at e
          obtain ⟨zs', x, rfl, ⟨px, lx, hx, rfl, q1, q2, q3⟩, hz'⟩ := hz.last e3
          refine last_ix rfl (SqL.of hl) ⟨px, [lx, hx], 0, lx, rfl, rfl, q1, atI_nat (j := 0) rfl, ?_⟩
          refine last_ix rfl (SqL.of hl) ⟨px, [lx, hx], 1, hx, rfl, rfl, q1, atI_nat (j := 1) rfl, ?_⟩
          refine ⟨_, rfl, hx, hh, t.2, st.2, rfl, q3, g3, fun z hz2 => ⟨by show 2 ≤ sizeLine; decide, fun p2 hp2 => ?_⟩⟩
          have t1 := same_upd (o := .tup [lx, z]) hp2
          refine ⟨_, rfl, 1, rfl, l0, zs' ++ [.ref px], -1, zs'.length, rfl, rfl, t1 _ _ hl, ?_, ?_⟩
          · exact ixN_last zs' _
          · have hset : (zs' ++ [V.ref px]).set zs'.length (.ref p2) = zs' ++ [.ref p2] := by simp
            rw [hset]
            have fA : Fr1 l0 H' (upd (upd H' p2 (.tup [lx, z])) l0 (.lst (zs' ++ [.ref p2]))) := (Fr1.same t1).trans Fr1.put
            refine ⟨_, _, zs' ++ [.ref p2], rfl, fr.trans fA, upd_same, ?_, by simp at hzl ⊢; omega⟩
            have en : nfAdd fs st = fs.dropLast ++ [(t.1, laterE t.2 st.2)] := by
              unfold nfAdd
              rw [e3]
              simp only
              rw [if_pos e]
            rw [tk, en]
            have np : p2 ≠ l0 := (ne_of_none hl hp2).symm
            refine (Fr1.strs fA hl hz').snoc ⟨p2, lx, z, rfl, .inl (.inl (by rw [upd_ne np]; exact upd_same)), fA.ver hl q2, fA.end_ hl hz2⟩
      · refine ⟨_, rfl, .inl ⟨rfl, _, SqL.of hl⟩, _, rfl, _, rfl, by show 2 ≤ sizeLine; decide, fun p2 hp2 => ?_⟩
        have t1 := same_upd (o := .tup [lo, hh]) hp2
        refine ⟨l0, zs, _, rfl, rfl, t1 _ _ hl, small1000 (by omega), ?_⟩
        have fA : Fr1 l0 H' (upd (upd H' p2 (.tup [lo, hh])) l0 (.lst (zs ++ [.ref p2]))) := (Fr1.same t1).trans Fr1.put
        refine ⟨_, _, zs ++ [.ref p2], rfl, fr.trans fA, upd_same, ?_, by simp; omega⟩
        rw [tk, nfAdd_no e]
        have np : p2 ≠ l0 := (ne_of_none hl hp2).symm
        exact (Fr1.strs fA hl hz).snoc ⟨p2, lo, hh, rfl, .inl (.inl (by rw [upd_ne np]; exact upd_same)), fA.ver hl g2, fA.end_ hl g3⟩
    · rintro σ H' ⟨y2, y3, zs, rfl, fr, hl, hz, hzl⟩
      rw [List.take_of_length_le (by simp)] at hz
      refine ⟨_, rfl, _, _, rfl, .inl ⟨SqL.of hl, fun D hD => ?_⟩⟩
      have t1 := same_upd (o := .tup zs) hD
      have eA : ExtN H (upd H' D (.tup zs)) := fun b o e n => t1 _ _ (fr b o (ne_of_none e hl0) (gE b o e n))
      refine q _ D zs (bs'.map (·.2)) eA ?_ upd_same (pm.map _) ?_ (hz.same t1)
      · exact (Tabs.fr1 gT fr g0).ext t1
      · rw [List.pairwise_map]
        exact pw
end
end Kw
set_option maxHeartbeats 4000000
namespace Kw
/-! ### the mathematics of stretches: one normal form -/
def hasL (fs : List Str2) (v : Ver) : Bool := fs.any fun s => hasS s v
structure NF (fs : List Str2) : Prop where
  ok : ∀ s ∈ fs, okS s
  pw : fs.Pairwise fun s t => ∃ u, s.2 = some u ∧ ltV u t.1
theorem hasS_iff {s : Str2} {v : Ver} : hasS s v = true ↔ leV s.1 v ∧ ∀ u, s.2 = some u → ltV v u := by
  obtain ⟨l, h⟩ := s
  unfold hasS
  cases h with
  | none => simp
  | some u => simp
theorem hasL_iff {fs : List Str2} {v : Ver} : hasL fs v = true ↔ ∃ s ∈ fs, hasS s v = true := by
  unfold hasL
  rw [List.any_eq_true]
theorem hasL_cons {s : Str2} {fs : List Str2} {v : Ver} : hasL (s :: fs) v = (hasS s v || hasL fs v) := rfl
theorem hasL_app {fs gs : List Str2} {v : Ver} : hasL (fs ++ gs) v = (hasL fs v || hasL gs v) := by simp [hasL]
theorem hasL_lt {fs : List Str2} {v : Ver} (h : ∀ t ∈ fs, ltV v t.1) : hasL fs v = false := by
  rw [Bool.eq_false_iff]
  intro c
  obtain ⟨s, hs, e⟩ := hasL_iff.mp c
  exact (hasS_iff.mp e).1 (h s hs)
theorem hasL_mem {fs gs : List Str2} (h : ∀ s, s ∈ fs ↔ s ∈ gs) (v : Ver) : hasL fs v = hasL gs v := by
  rw [Bool.eq_iff_iff, hasL_iff, hasL_iff]
  constructor
  · rintro ⟨s, hs, e⟩
    exact ⟨s, (h s).mp hs, e⟩
  · rintro ⟨s, hs, e⟩
    exact ⟨s, (h s).mpr hs, e⟩
theorem hasS_low {s : Str2} (h : okS s) : hasS s s.1 = true := hasS_iff.mpr ⟨ltV_irrefl _, fun u e => (h.2 u e).2⟩
theorem NF.tail {s : Str2} {r : List Str2} (h : NF (s :: r)) : NF r := ⟨fun t ht => h.ok t (List.mem_cons_of_mem _ ht), (List.pairwise_cons.mp h.pw).2⟩
theorem NF.head {s t : Str2} {r : List Str2} (h : NF (s :: r)) (ht : t ∈ r) : ∃ u, s.2 = some u ∧ ltV u t.1 := (List.pairwise_cons.mp h.pw).1 t ht
theorem NF.lows {s t : Str2} {r : List Str2} (h : NF (s :: r)) (ht : t ∈ r) : ltV s.1 t.1 := by
  obtain ⟨u, e, l⟩ := h.head ht
  exact ltV_trans ((h.ok s List.mem_cons_self).2 u e).2 l
theorem NF.first {s : Str2} {r : List Str2} (h : NF (s :: r)) {v : Ver} (l : ltV v s.1) : hasL (s :: r) v = false := hasL_lt fun t ht => by
  rcases List.mem_cons.mp ht with rfl | ht
  · exact l
  · exact ltV_trans l (h.lows ht)
theorem NF.end_ {s : Str2} {r : List Str2} (h : NF (s :: r)) {u : Ver} (e : s.2 = some u) : hasL (s :: r) u = false := by
  have h1 : hasS s u = false := by
    rw [Bool.eq_false_iff]
    intro c
    exact ltV_irrefl u ((hasS_iff.mp c).2 u e)
  have h2 : hasL r u = false := hasL_lt fun t ht => by
    obtain ⟨w, e', l⟩ := h.head ht
    rw [e] at e'
    obtain rfl := Option.some.inj e'
    exact l
  rw [hasL_cons, h1, h2]
  rfl
theorem NF.in_ {s : Str2} {r : List Str2} {v : Ver} (l : ¬ ltV v s.1) (hh : ∀ u, s.2 = some u → ltV v u) : hasL (s :: r) v = true := by
  rw [hasL_cons, hasS_iff.mpr ⟨l, hh⟩]
  rfl
theorem lt_asym {a b : Ver} (h : ltV a b) : ¬ ltV b a := by unfold ltV at *; omega
/-- two normal forms of the same versions are equal -/
theorem NF.unique : ∀ {fs gs : List Str2}, NF fs → NF gs → (∀ v, okV v → hasL fs v = hasL gs v) → fs = gs
  | [], [], _, _, _ => rfl
  | [], t :: q, _, hg, h => by
    have h1 := h t.1 (hg.ok t List.mem_cons_self).1
    rw [hasL_cons, hasS_low (hg.ok t List.mem_cons_self)] at h1
    cases h1
  | s :: r, [], hf, _, h => by
    have h1 := h s.1 (hf.ok s List.mem_cons_self).1
    rw [hasL_cons, hasS_low (hf.ok s List.mem_cons_self)] at h1
    cases h1
  | s :: r, t :: q, hf, hg, h => by
    have os := hf.ok s List.mem_cons_self
    have ot := hg.ok t List.mem_cons_self
    have e1 : s.1 = t.1 := by
      refine ltV_or (fun c => ?_) (fun c => ?_)
      · have h1 := h s.1 os.1
        rw [hg.first c, hasL_cons, hasS_low os] at h1
        cases h1
      · have h1 := h t.1 ot.1
        rw [hf.first c, hasL_cons, hasS_low ot] at h1
        cases h1
    have e2 : s.2 = t.2 := by
      cases c1 : s.2 with
      | none =>
        cases c2 : t.2 with
        | none => rfl
        | some w =>
          have h1 := h w (ot.2 w c2).1
          rw [hg.end_ c2, NF.in_ (s := s) (by rw [e1]; exact lt_asym (ot.2 w c2).2) (fun u e => by rw [c1] at e; cases e)] at h1
          cases h1
      | some u =>
        cases c2 : t.2 with
        | none =>
          have h1 := h u (os.2 u c1).1
          rw [hf.end_ c1, NF.in_ (s := t) (by rw [← e1]; exact lt_asym (os.2 u c1).2) (fun u e => by rw [c2] at e; cases e)] at h1
          cases h1
        | some w =>
          refine congrArg some (ltV_or (fun c => ?_) (fun c => ?_))
          · have h1 := h u (os.2 u c1).1
            rw [hf.end_ c1, NF.in_ (s := t) (by rw [← e1]; exact lt_asym (os.2 u c1).2) (fun x e => by rw [c2] at e; obtain rfl := Option.some.inj e; exact c)] at h1
            cases h1
          · have h1 := h w (ot.2 w c2).1
            rw [hg.end_ c2, NF.in_ (s := s) (by rw [e1]; exact lt_asym (ot.2 w c2).2) (fun x e => by rw [c1] at e; obtain rfl := Option.some.inj e; exact c)] at h1
            cases h1
    have e3 : s = t := Prod.ext e1 e2
    subst e3
    have e4 : r = q := NF.unique hf.tail hg.tail fun v hv => by
      have h1 := h v hv
      rw [hasL_cons, hasL_cons] at h1
      cases c : hasS s v with
      | false => rw [c] at h1; exact h1
      | true =>
        have hh := (hasS_iff.mp c).2
        rw [hasL_lt fun t ht => by obtain ⟨u, e, l⟩ := hf.head ht; exact ltV_trans (hh u e) l, hasL_lt fun t ht => by obtain ⟨u, e, l⟩ := hg.head ht; exact ltV_trans (hh u e) l]
    rw [e4]
/-! ### the ends' parity -/
def par : List Ver → Ver → Bool
  | [], _ => false
  | e :: es, v => (decide (leV e v)) != par es v
theorem par_lt : ∀ {es : List Ver} {v : Ver}, (∀ e ∈ es, ltV v e) → par es v = false
  | [], _, _ => rfl
  | e :: es, v, h => by
    have h1 : ¬ leV e v := fun c => c (h e List.mem_cons_self)
    simp [par, h1, par_lt fun x hx => h x (List.mem_cons_of_mem _ hx)]
theorem pairs_par : ∀ {es : List Ver} (v : Ver), es.Pairwise ltV → hasL (pairsV es) v = par es v
  | [], v, _ => rfl
  | [a], v, _ => by simp [pairsV, hasL, hasS, par]
  | a :: b :: r, v, h => by
    have ⟨h1, h'⟩ := List.pairwise_cons.mp h
    have ⟨h2, h3⟩ := List.pairwise_cons.mp h'
    have ih := pairs_par (es := r) v h3
    have hab := h1 b List.mem_cons_self
    show (hasS (a, some b) v || hasL (pairsV r) v) = ((decide (leV a v)) != ((decide (leV b v)) != par r v))
    rw [ih]
    by_cases c1 : ltV v b
    · have hr : par r v = false := par_lt fun e he => ltV_trans c1 (h2 e he)
      have n1 : ¬ leV b v := fun c => c c1
      simp [hasS, hr, c1, n1]
    · have hb : leV b v := c1
      have ha : leV a v := fun c => c1 (ltV_trans c hab)
      simp [hasS, ha, hb, c1]
theorem edges_mem (f : Ver → Bool) : ∀ (es : List Ver) (now : Bool) (e : Ver), e ∈ edgesOf f now es → e ∈ es
  | [], _, _, h => by simp [edgesOf] at h
  | x :: es, now, e, h => by
    unfold edgesOf at h
    split at h
    · rcases List.mem_cons.mp h with rfl | h
      · exact List.mem_cons_self
      · exact List.mem_cons_of_mem _ (edges_mem f es _ e h)
    · exact List.mem_cons_of_mem _ (edges_mem f es _ e h)
theorem edges_pw (f : Ver → Bool) : ∀ (es : List Ver) (now : Bool), es.Pairwise ltV → (edgesOf f now es).Pairwise ltV
  | [], _, _ => .nil
  | x :: es, now, h => by
    have ⟨h1, h2⟩ := List.pairwise_cons.mp h
    unfold edgesOf
    split
    · exact List.pairwise_cons.mpr ⟨fun e he => h1 e (edges_mem f es _ e he), edges_pw f es _ h2⟩
    · exact edges_pw f es _ h2
def lastf (f : Ver → Bool) : Bool → List Ver → Ver → Bool
  | now, [], _ => now
  | now, e :: es, v => if leV e v then lastf f (f e) es v else now
theorem edges_par (f : Ver → Bool) (v : Ver) : ∀ (es : List Ver) (now : Bool), es.Pairwise ltV → (now != par (edgesOf f now es) v) = lastf f now es v
  | [], now, _ => by simp [edgesOf, par, lastf]
  | e :: es, now, h => by
    have ⟨h1, h2⟩ := List.pairwise_cons.mp h
    by_cases c : leV e v
    · unfold edgesOf lastf
      rw [if_pos c]
      split
      · rename_i q
        have ih := edges_par f v es (!now) h2
        have ef : f e = !now := by cases x : f e <;> cases y : now <;> simp_all
        rw [ef, ← ih]
        simp [par, c]
      · rename_i q
        have ef : f e = now := by cases x : f e <;> cases y : now <;> simp_all
        rw [ef]
        exact edges_par f v es now h2
    · have lt : ltV v e := Classical.not_not.mp c
      have hr : ∀ b, par (edgesOf f b es) v = false := fun b => par_lt fun x hx => ltV_trans lt (h1 x (edges_mem f es b x hx))
      unfold edgesOf lastf
      rw [if_neg c]
      split <;> simp [par, c, hr]
theorem last_is (f : Ver → Bool) (v : Ver) : ∀ (es : List Ver) (now : Bool), es.Pairwise ltV → (∃ e ∈ es, leV e v) → ∃ e ∈ es, leV e v ∧ (∀ x ∈ es, leV x v → leV x e) ∧ lastf f now es v = f e
  | [], _, _, h => by obtain ⟨e, he, _⟩ := h; simp at he
  | e :: es, now, h, hx => by
    have ⟨h1, h2⟩ := List.pairwise_cons.mp h
    have c : leV e v := by
      obtain ⟨x, hx, l⟩ := hx
      rcases List.mem_cons.mp hx with rfl | hx
      · exact l
      · intro z
        exact l (ltV_trans z (h1 x hx))
    unfold lastf
    rw [if_pos c]
    by_cases d : ∃ x ∈ es, leV x v
    · obtain ⟨y, hy, ly, my, ey⟩ := last_is f v es (f e) h2 d
      refine ⟨y, List.mem_cons_of_mem _ hy, ly, fun x hx lx => ?_, ey⟩
      rcases List.mem_cons.mp hx with rfl | hx
      · exact lt_asym (h1 y hy)
      · exact my x hx lx
    · refine ⟨e, List.mem_cons_self, c, fun x hx lx => ?_, ?_⟩
      · rcases List.mem_cons.mp hx with rfl | hx
        · exact ltV_irrefl _
        · exact absurd ⟨x, hx, lx⟩ d
      · cases es with
        | nil => rfl
        | cons y es =>
          unfold lastf
          rw [if_neg fun z => d ⟨y, List.mem_cons_self, z⟩]
end Kw
set_option maxHeartbeats 4000000
namespace Kw
/-! ### the normal form of both sides -/
theorem nf_pairs : ∀ {es : List Ver}, es.Pairwise ltV → (∀ e ∈ es, okV e) → NF (pairsV es)
  | [], _, _ => ⟨fun s h => by simp [pairsV] at h, .nil⟩
  | [a], _, o => ⟨fun s h => by
      simp [pairsV] at h
      subst h
      exact ⟨o a List.mem_cons_self, fun u e => by cases e⟩, by simp [pairsV]⟩
  | a :: b :: r, h, o => by
    have ⟨h1, h'⟩ := List.pairwise_cons.mp h
    have ⟨h2, h3⟩ := List.pairwise_cons.mp h'
    have ih := nf_pairs (es := r) h3 fun e he => o e (List.mem_cons_of_mem _ (List.mem_cons_of_mem _ he))
    have low : ∀ (r : List Ver) (t : Str2), t ∈ pairsV r → t.1 ∈ r := fun r => by
      fun_induction pairsV r with
      | case1 => intro t ht; simp at ht
      | case2 a => intro t ht; simp at ht; subst ht; simp
      | case3 a b r ih =>
        intro t ht
        rcases List.mem_cons.mp ht with rfl | ht
        · exact List.mem_cons_self
        · exact List.mem_cons_of_mem _ (List.mem_cons_of_mem _ (ih t ht))
    refine ⟨fun s hs => ?_, List.pairwise_cons.mpr ⟨fun t ht => ⟨b, rfl, h2 _ (low r t ht)⟩, ih.pw⟩⟩
    rcases List.mem_cons.mp hs with rfl | hs
    · refine ⟨o a List.mem_cons_self, fun u e => ?_⟩
      obtain rfl := Option.some.inj e
      exact ⟨o b (by simp), h1 b List.mem_cons_self⟩
    · exact ih.ok s hs
theorem joins_iff {e : Option Ver} {v : Ver} : joinsE e v = true ↔ ∀ u, e = some u → leV v u := by
  cases e with
  | none => simp [joinsE]
  | some u => simp [joinsE]
theorem later_has {l : Ver} {h h' : Option Ver} {l' v : Ver} (ll : ¬ ltV l' l) (j : joinsE h l' = true) (hs : ∀ u, h = some u → ltV l u) : hasS (l, laterE h h') v = (hasS (l, h) v || hasS (l', h') v) := by
  rw [Bool.eq_iff_iff, Bool.or_eq_true, hasS_iff, hasS_iff, hasS_iff]
  have j' := joins_iff.mp j
  cases h with
  | none =>
    simp only [laterE]
    constructor
    · rintro ⟨a, _⟩; exact .inl ⟨a, fun u e => by cases e⟩
    · rintro (⟨a, _⟩ | ⟨a, _⟩)
      · exact ⟨a, fun u e => by cases e⟩
      · refine ⟨?_, fun u e => by cases e⟩
        skip
        unfold leV ltV at *
        omega
  | some u =>
    have ju := j' u rfl
    cases h' with
    | none =>
      simp only [laterE]
      constructor
      · rintro ⟨a, _⟩
        by_cases c : ltV v u
        · exact .inl ⟨a, fun x e => by obtain rfl := Option.some.inj e; exact c⟩
        · refine .inr ⟨?_, fun u e => by cases e⟩
          unfold leV ltV at *
          omega
      · rintro (⟨a, _⟩ | ⟨a, _⟩)
        · exact ⟨a, fun u e => by cases e⟩
        · refine ⟨?_, fun u e => by cases e⟩
          skip
          unfold leV ltV at *
          omega
    | some w =>
      simp only [laterE, Option.some.injEq, forall_eq']
      unfold maxV leV
      unfold leV at ju
      split
      · rename_i c
        constructor
        · rintro ⟨a, b⟩
          by_cases d : ltV v u
          · exact .inl ⟨a, d⟩
          · refine .inr ⟨?_, b⟩
            unfold ltV at *
            omega
        · rintro (⟨a, b⟩ | ⟨a, b⟩)
          · exact ⟨a, ltV_trans b c⟩
          · refine ⟨?_, b⟩
            unfold ltV at *
            omega
      · rename_i c
        constructor
        · rintro ⟨a, b⟩
          exact .inl ⟨a, b⟩
        · rintro (⟨a, b⟩ | ⟨a, b⟩)
          · exact ⟨a, b⟩
          · refine ⟨?_, ?_⟩ <;> (unfold ltV at *; omega)
theorem nf_step {fs : List Str2} {s : Str2} (h : NF fs) (os : okS s) (lo : ∀ t ∈ fs, ¬ ltV s.1 t.1) : NF (nfAdd fs s) ∧ (∀ v, hasL (nfAdd fs s) v = (hasL fs v || hasS s v)) ∧ ∀ t ∈ nfAdd fs s, ¬ ltV s.1 t.1 := by
  have one : ∀ v, hasL [s] v = hasS s v := fun v => by simp [hasL]
  by_cases j : joinB fs s.1 = true
  · unfold joinB at j
    cases e : fs.getLast? with
    | none => rw [e] at j; cases j
    | some t =>
      rw [e] at j
      have j : joinsE t.2 s.1 = true := j
      obtain ⟨fs', rfl⟩ := List.getLast?_eq_some_iff.mp e
      have en : nfAdd (fs' ++ [t]) s = fs' ++ [(t.1, laterE t.2 s.2)] := by
        unfold nfAdd
        rw [e]
        simp only
        rw [if_pos j, List.dropLast_concat]
      rw [en]
      have ⟨p1, _, p3⟩ := List.pairwise_append.mp h.pw
      have ot := h.ok t (by simp)
      have lt := lo t (by simp)
      have om : okS (t.1, laterE t.2 s.2) := by
        refine ⟨ot.1, fun u hu => ?_⟩
        cases c1 : t.2 with
        | none => rw [c1] at hu; cases hu
        | some a =>
          cases c2 : s.2 with
          | none => rw [c1, c2] at hu; cases hu
          | some b =>
            rw [c1, c2] at hu
            have hu : some (maxV a b) = some u := hu
            obtain rfl := Option.some.inj hu
            have ⟨q1, q2⟩ := ot.2 a c1
            have ⟨r1, r2⟩ := os.2 b c2
            unfold maxV
            split
            · rename_i c
              exact ⟨r1, ltV_trans q2 c⟩
            · exact ⟨q1, q2⟩
      refine ⟨⟨fun x hx => ?_, List.pairwise_append.mpr ⟨p1, List.pairwise_singleton _ _, fun x hx y hy => ?_⟩⟩, fun v => ?_, fun x hx => ?_⟩
      · rcases List.mem_append.mp hx with hx | hx
        · exact h.ok x (List.mem_append_left _ hx)
        · rw [List.mem_singleton.mp hx]; exact om
      · rw [List.mem_singleton.mp hy]
        exact p3 x hx t (by simp)
      · have z : hasS (t.1, laterE t.2 s.2) v = (hasS t v || hasS s v) := later_has lt j fun u e => (ot.2 u e).2
        rw [hasL_app, hasL_app, Bool.or_assoc]
        congr 1
        simp only [hasL, List.any_cons, List.any_nil, Bool.or_false]
        exact z
      · rcases List.mem_append.mp hx with hx | hx
        · exact lo x (List.mem_append_left _ hx)
        · rw [List.mem_singleton.mp hx]; exact lt
  · rw [nfAdd_no j]
    refine ⟨⟨fun x hx => ?_, List.pairwise_append.mpr ⟨h.pw, List.pairwise_singleton _ _, fun x hx y hy => ?_⟩⟩, fun v => by rw [hasL_app, one], fun x hx => ?_⟩
    · rcases List.mem_append.mp hx with hx | hx
      · exact h.ok x hx
      · rw [List.mem_singleton.mp hx]; exact os
    · rw [List.mem_singleton.mp hy]
      unfold joinB at j
      cases e : fs.getLast? with
      | none =>
        have : fs = [] := by simpa using e
        subst this
        simp at hx
      | some t =>
        rw [e] at j
        have j : ¬ joinsE t.2 s.1 = true := j
        obtain ⟨u, eu, lu⟩ : ∃ u, t.2 = some u ∧ ltV u s.1 := by
          cases c : t.2 with
          | none => rw [c] at j; exact absurd rfl j
          | some u =>
            refine ⟨u, rfl, ?_⟩
            rw [c] at j
            have j : ¬ decide (leV s.1 u) = true := j
            simp only [decide_eq_true_eq] at j
            exact Classical.not_not.mp j
        obtain ⟨fs', rfl⟩ := List.getLast?_eq_some_iff.mp e
        rcases List.mem_append.mp hx with hx | hx
        · have ⟨_, _, p3⟩ := List.pairwise_append.mp h.pw
          obtain ⟨a, ea, la⟩ := p3 x hx t (by simp)
          refine ⟨a, ea, ?_⟩
          have := lo t (by simp)
          unfold ltV at *
          omega
        · rw [List.mem_singleton.mp hx]
          exact ⟨u, eu, lu⟩
    · rcases List.mem_append.mp hx with hx | hx
      · exact lo x hx
      · rw [List.mem_singleton.mp hx]; exact ltV_irrefl _
theorem nf_fold : ∀ (ss fs : List Str2), NF fs → (∀ t ∈ fs, ∀ s ∈ ss, ¬ ltV s.1 t.1) → ss.Pairwise (fun p q => ¬ ltV q.1 p.1) → (∀ s ∈ ss, okS s) → NF (ss.foldl nfAdd fs) ∧ ∀ v, hasL (ss.foldl nfAdd fs) v = (hasL fs v || hasL ss v)
  | [], fs, h, _, _, _ => ⟨h, fun v => by simp [hasL]⟩
  | s :: ss, fs, h, lo, pw, ok => by
    have ⟨p1, p2⟩ := List.pairwise_cons.mp pw
    have os := ok s List.mem_cons_self
    obtain ⟨n1, n2, n3⟩ := nf_step h os fun t ht => lo t ht s List.mem_cons_self
    obtain ⟨m1, m2⟩ := nf_fold ss (nfAdd fs s) n1 (fun t ht x hx => by
      have a1 := n3 t ht
      have a2 := p1 x hx
      unfold ltV at *
      omega) p2 fun x hx => ok x (List.mem_cons_of_mem _ hx)
    refine ⟨m1, fun v => ?_⟩
    rw [List.foldl_cons, m2 v, n2 v, hasL_cons, Bool.or_assoc]
theorem ends_low : ∀ {ss : List Str2} {s : Str2}, s ∈ ss → s.1 ∈ endsOf ss ∧ ∀ u, s.2 = some u → u ∈ endsOf ss
  | t :: ss, s, h => by
    rcases List.mem_cons.mp h with rfl | h
    · exact ⟨by simp [endsOf], fun u e => by simp [endsOf, e]⟩
    · obtain ⟨a, b⟩ := ends_low h
      exact ⟨by simp [endsOf, a], fun u e => by simp [endsOf, b u e]⟩
theorem ends_zero : ∀ ss : List Str2, ((0, 0, 0) : Ver) ∈ endsOf ss
  | [] => by simp [endsOf]
  | s :: ss => by simp [endsOf, ends_zero ss]
theorem ends_ok : ∀ {ss : List Str2}, (∀ s ∈ ss, okS s) → ∀ v ∈ endsOf ss, okV v
  | [], _, v, h => by
    simp [endsOf] at h
    subst h
    exact ⟨Int.le_refl _, Int.le_refl _, Int.le_refl _⟩
  | s :: ss, ok, v, h => by
    have os := ok s List.mem_cons_self
    simp only [endsOf, List.mem_cons, List.mem_append, Option.mem_toList] at h
    rcases h with rfl | h | h
    · exact os.1
    · exact (os.2 v h).1
    · exact ends_ok (fun t ht => ok t (List.mem_cons_of_mem _ ht)) v h
/-- what the law reckons at the ends is the normal form -/
theorem nf_main {ss ss' : List Str2} {es : List Ver} (ok : ∀ s ∈ ss, okS s) (pw : es.Pairwise ltV) (hm : ∀ v, v ∈ es ↔ v ∈ endsOf ss) (same : ∀ s, s ∈ ss' ↔ s ∈ ss) (srt : ss'.Pairwise fun p q => ¬ ltV q.1 p.1) :
    ss'.foldl nfAdd [] = pairsV (edgesOf (hasL ss) false es) := by
  obtain ⟨n1, n2⟩ := nf_fold ss' [] ⟨fun s h => (nomatch h), List.Pairwise.nil⟩ (fun t ht => (nomatch ht)) srt fun s hs => ok s ((same s).mp hs)
  have e1 := edges_pw (hasL ss) es false pw
  refine n1.unique (nf_pairs e1 fun e he => ends_ok ok e ((hm e).mp (edges_mem _ _ _ e he))) fun v hv => ?_
  rw [n2 v, hasL_mem same v, pairs_par v e1]
  have z := edges_par (hasL ss) v es false pw
  have z2 : par (edgesOf (hasL ss) false es) v = lastf (hasL ss) false es v := by
    rw [← z]
    cases par (edgesOf (hasL ss) false es) v <;> rfl
  have hz : leV (0, 0, 0) v := by
    obtain ⟨a, b, c⟩ := hv
    unfold leV ltV
    simp only
    omega
  obtain ⟨e, he, le, mx, ef⟩ := last_is (hasL ss) v es false pw ⟨(0, 0, 0), (hm _).mpr (ends_zero ss), hz⟩
  rw [z2, ef]
  have key : ∀ s ∈ ss, hasS s v = hasS s e := fun s hs => by
    have ⟨m1, m2⟩ := ends_low hs
    rw [Bool.eq_iff_iff, hasS_iff, hasS_iff]
    constructor
    · rintro ⟨a, b⟩
      refine ⟨mx _ ((hm _).mpr m1) a, fun u eu => ?_⟩
      have := b u eu
      unfold leV ltV at *
      omega
    · rintro ⟨a, b⟩
      refine ⟨?_, fun u eu => ?_⟩
      · unfold leV ltV at *
        omega
      · have b1 := b u eu
        refine Classical.byContradiction fun c => ?_
        exact (mx u ((hm u).mpr (m2 u eu)) c) b1
  show (false || hasL ss v) = hasL ss e
  rw [Bool.false_or, Bool.eq_iff_iff, hasL_iff, hasL_iff]
  constructor
  · rintro ⟨s, hs, h⟩
    exact ⟨s, hs, by rw [← key s hs]; exact h⟩
  · rintro ⟨s, hs, h⟩
    exact ⟨s, hs, by rw [key s hs]; exact h⟩
end Kw
set_option maxHeartbeats 4000000
namespace Kw
open PySem PySem.Spec PyProof.Rows L2 LamX
abbrev sIsKitDue : Stmt := top 46
abbrev sIsVerDue : Stmt := top 47
abbrev sIsStrDue : Stmt := top 48
/-! ### comprehensions over a string -/
theorem lc_str {z : Str} {g : TG} {tt : TT} {te : TE} {vs : List Nat} {σ : L2.St} {H1 : Hp} {D : Addr} {Qd : Hp → Prop} (Pv : Nat → Hp → Prop) (start : Pv 0 (upd H1 D (.lst [])))
    (step : ∀ j c H, z.cps[j]? = some c → Pv j H → g (.str ⟨#[c]⟩) (wipe σ vs) H fun σ2 H2 => wipe σ2 vs = wipe σ vs ∧ tt σ2 H2 fun b H3 => if b = true then te σ2 H3 fun y H4 => ∃ acc, H4 D = some (.lst acc) ∧ acc.length < sizeLine ∧ Pv (j + 1) (upd H4 D (.lst (acc ++ [y]))) else Pv (j + 1) H3)
    (stop : ∀ H, Pv z.cps.size H → Qd H) :
    ∃ W : Nat → Nat → Hp → Prop, (∃ m, W 0 m (upd H1 D (.lst []))) ∧ ∀ i m H, W i m H → ((Its z).stop i H ∧ Qd H) ∨ ((Its z).go i H ∧ ∃ Nx : Hp → Prop, (∀ H', Nx H' → ∃ m', m' < m ∧ W (i + 1) m' H') ∧ ∀ x H', (Its z).yld i H x H' → g x (wipe σ vs) H' fun σ2 H2 => wipe σ2 vs = wipe σ vs ∧ tt σ2 H2 fun b H3 => if b = true then te σ2 H3 fun y H4 => ∃ acc, H4 D = some (.lst acc) ∧ acc.length < sizeLine ∧ Nx (upd H4 D (.lst (acc ++ [y]))) else Nx H3) := by
  refine ⟨fun i m H => m = z.cps.size - i ∧ i ≤ z.cps.size ∧ Pv i H, ⟨z.cps.size, by simp, Nat.zero_le _, start⟩, fun i m H hw => ?_⟩
  obtain ⟨em, hi, p⟩ := hw
  by_cases lt : i < z.cps.size
  · exact .inr ⟨lt, Pv (i + 1), fun H' p' => ⟨z.cps.size - (i + 1), by omega, rfl, lt, p'⟩, fun x H' y => by obtain ⟨rfl, c, hc, rfl⟩ := y; exact step i c _ hc p⟩
  · have ei : i = z.cps.size := by omega
    rw [ei] at p ⊢
    exact .inl ⟨Nat.le_refl _, stop H p⟩
/-! ### kits -/
abbrev LET : Str := "abcdefghijklmnopqrstuvwxyz"
def inLET (c : Nat) : Bool := decide (c ∈ LET.cps.toList)
def kitS (z : Str) : Bool := decide (1 ≤ z.length) && (decide (z.length ≤ 8) && z.cps.toList.all inLET)
def spIsKit (K : PySem.W.Frag) : Sp := fun vs H Q _ => ∃ (x : V), vs = [x] ∧ ((∃ z : Str, x = .str z ∧ z.length ≤ 1000 ∧ (∀ c ∈ z.cps.toList, PyData.strOk ⟨#[c]⟩ = true) ∧ ∀ H', Same H H' → Q (.bl (kitS z)) H') ∨ ∃ T, Ty K H x T ∧ kitB T "str" = some false ∧ Q (.bl false) H)
section
variable {P : Program} {w : World} {K : PySem.W.Frag} {mg : Str → Option Value} {base : Heap}
theorem scIsKit : FnScope ["value", "letter"] ["value"] (defScope sIsKit) := ⟨rfl, rfl, rfl, by decide +kernel, rfl, by decide +kernel, by decide +kernel⟩
theorem scIsKitDue : FnScope ["_law_value", "_law_sign"] ["_law_value"] (defScope sIsKitDue) := ⟨rfl, rfl, rfl, by decide +kernel, rfl, by decide +kernel, by decide +kernel⟩
theorem arr_take {z : Str} {j c : Nat} (h : z.cps[j]? = some c) : z.cps.toList.take (j + 1) = z.cps.toList.take j ++ [c] := take_snoc (by rw [Array.getElem?_toList]; exact h)
theorem ok_isKit {f : Addr} {fd : FuncData} {k : Nat} {tL : Tok} (F : Fun K "is_kit" "is_kit" sIsKit f fd) (mi : mg "isinstance" = none) (mst : mg "str" = none) (ml : mg "len" = none) (ma : mg "all" = none) (mL : mg "LETTERS" = some (.str LET tL)) :
    FnOk P w K mg base CX0 (k + 1) f fd ["value"] (spIsKit K) := by
  refine F.ok scIsKit (fun vs H Q E h => ?_) (fun cdv A outer s H vs Q E hr h => ?_)
  · obtain ⟨x, rfl, _⟩ := h
    rfl
  · obtain ⟨x, rfl, h⟩ := h
    refine ⟨_, pss_one (ps_ret (pe_and (pe_callB call_isi (by rfl) mi (by decide +kernel) (pa_cons (pv 0) (pa_cons (pe_bltn (v := .ty "str") (by rfl) mst (by decide +kernel) rfl) pa_nil)))
      (pe_and (pe_chain op_le op_le pe_int (pe_callB call_len_str (by rfl) ml PySem.boot_len (pa_cons (pv 0) pa_nil)) pe_int)
      (pe_one (pe_callB (cr_all rfl) (by rfl) ma (by decide +kernel) (pa_cons (pe_lc (own := [("letter", 1)]) (g := gName 1) (tt := tYes) rfl scIsKit.nd (pi_str (pv 0)) (blkOk_by (N := ["value", "letter"]) (sc := defScope sIsKit) (by decide +kernel))
        (fun _ _ _ _ _ => pg_name (i := 1) scIsKit.nd rfl (Or.inl rfl)) (fun _ _ _ _ _ => pts_nil) (fun _ _ _ _ _ => pe_cmpR op_in_sign (pv 1) (pe_glob (v := .str LET) (by rfl) mL ⟨tL, rfl⟩) (by rfl))) pa_nil)))))), ?_⟩
    rcases h with ⟨z, rfl, hz, _, q⟩ | ⟨T, ty, e, q⟩
    · refine ⟨_, rfl, .str z, .ty "str", .type "str", .type "str", true, rfl, .ty _, Flat.ty (.str z), kit_ty (by decide +kernel), true, rfl, iteT ?_⟩
      have hz2 : z.length ≤ sizeLine := Nat.le_trans hz (by decide)
      have q0 := q H (Same.refl H)
      unfold kitS at q0 q
      refine ⟨_, rfl, z, rfl, hz2, 1, (z.length : Int), rfl, rfl, _, rfl, ite2 (fun e1 => ?_) (fun e1 => ?_)⟩
      · have e1' : 1 ≤ z.length := by
          have : (1 : Int) ≤ (z.length : Int) := of_decide_eq_true e1
          omega
        refine ⟨(z.length : Int), 8, rfl, rfl, _, rfl, ite2 (fun e2 => ?_) (fun e2 => ?_)⟩
        · have e2' : z.length ≤ 8 := by
            have : (z.length : Int) ≤ 8 := of_decide_eq_true e2
            omega
          simp only [e1', e2', decide_true, Bool.true_and] at q
          refine ⟨_, rfl, z, rfl, fun D hD => ?_⟩
          refine lc_str (fun i H' => Same H H' ∧ H' D = some (.lst ((z.cps.toList.take i).map fun c => V.bl (inLET c)))) ⟨same_upd hD, upd_same⟩ ?_ ?_
          · rintro j c H' hj ⟨s1, h1⟩
            have hjl : j < z.cps.size := (Array.getElem?_eq_some_iff.mp hj).1
            have hjz : j < z.length := hjl
            refine ⟨rfl, yesI ⟨_, rfl, c, LET, rfl, rfl, _, h1, ?_, ?_, ?_⟩⟩
            · rw [List.length_map, List.length_take]
              exact Nat.lt_of_le_of_lt (Nat.min_le_left _ _) (small1000 (by omega))
            · exact fun b o y => by rw [upd_ne (ne_of_none y hD)]; exact s1 _ _ y
            · rw [upd_same, arr_take hj, List.map_append]
              rfl
          · rintro H' ⟨s1, h1⟩
            have hts : z.cps.toList.take z.cps.size = z.cps.toList := List.take_of_length_le (by simp)
            rw [hts] at h1
            refine ⟨D, z.cps.toList.map inLET, rfl, SqL.of (by rw [h1, List.map_map]; rfl), ?_⟩
            have := q H' s1
            simpa [List.all_map] using this
        · have e2' : ¬ z.length ≤ 8 := fun c => e2 (decide_eq_true (by omega))
          simp only [e1', e2', decide_true, decide_false, Bool.true_and, Bool.false_and] at q0
          exact q0
      · have e1' : ¬ 1 ≤ z.length := fun c => e1 (decide_eq_true (by omega))
        simp only [e1', decide_false, Bool.false_and] at q0
        exact ⟨_, rfl, iteF q0⟩
    · exact ⟨_, rfl, x, .ty "str", .type T, .type "str", false, rfl, .ty _, ty, kit_ty e, false, rfl, iteF q⟩
end
end Kw
set_option maxHeartbeats 4000000
namespace Kw
open PySem PySem.Spec PyProof.Rows L2 LamX
/-! ### values that are no tuples -/
inductive Oth (H : Hp) : V → String → Prop
  | flat {x : V} {T : String} : Flat x T → Oth H x T
  | lst {a : Addr} {xs : List V} : H a = some (.lst xs) → Oth H (.ref a) "list"
  | dct {a : Addr} {kvs : List (Key × V)} : H a = some (.dK kvs) → Oth H (.ref a) "dict"
theorem Oth.ty {K : PySem.W.Frag} {H : Hp} {x : V} {T : String} (h : Oth H x T) : Ty K H x T := by
  cases h with
  | flat f => exact f.ty
  | lst e => exact .base (.lst e)
  | dct e => exact .base (.dK e)
theorem Oth.no {H : Hp} {x : V} {T : String} (h : Oth H x T) : kitB T "tuple" = some false := by
  cases h with
  | flat f => cases f <;> decide +kernel
  | lst e => decide +kernel
  | dct e => decide +kernel
theorem Oth.ext {H H' : Hp} {x : V} {T : String} (h : Oth H x T) (e : ExtN H H') : Oth H' x T := by
  cases h with
  | flat f => exact .flat f
  | lst g => exact .lst (e _ _ g fun ps z => nomatch z)
  | dct g => exact .dct (e _ _ g fun ps z => nomatch z)
theorem Oth.fr {H H' : Hp} {x : V} {T : String} {d w : Addr} (h : Oth H x T) (F : Fr2 d w H H') (n1 : x ≠ .ref d) (n2 : x ≠ .ref w) : Oth H' x T := by
  cases h with
  | flat f => exact .flat f
  | lst g => exact .lst (F _ _ (fun z => n1 (by rw [z])) (fun z => n2 (by rw [z])) g)
  | dct g => exact .dct (F _ _ (fun z => n1 (by rw [z])) (fun z => n2 (by rw [z])) g)
/-! ### values that are versions or not -/
inductive VerB (K : PySem.W.Frag) (H : Hp) : V → Bool → Prop
  | tup {a : Addr} {xs : List V} {b : Bool} : SqT K H a xs → (∀ y ∈ xs, xs.length = 3 → ∃ T, Flat y T) → b = (decide (xs.length = 3) && xs.all numV) → VerB K H (.ref a) b
  | oth {x : V} {T : String} : Oth H x T → VerB K H x false
theorem VerB.ext {K : PySem.W.Frag} {H H' : Hp} {x : V} {b : Bool} (h : VerB K H x b) (e : ExtN H H') : VerB K H' x b := by
  cases h with
  | tup t f g => exact .tup (e.sqT t) f g
  | oth o => exact .oth (o.ext e)
theorem VerB.fr {K : PySem.W.Frag} {H H' : Hp} {x : V} {b : Bool} {d w c : Addr} {B : Int} (h : VerB K H x b) (S : StAt H d w c B) (F : Fr2 d w H H') (n1 : x ≠ .ref d) (n2 : x ≠ .ref w) : VerB K H' x b := by
  cases h with
  | tup t f g => exact .tup (F.sqT S t) f g
  | oth o => exact .oth (o.fr F n1 n2)
theorem VerB.of {K : PySem.W.Frag} {H : Hp} {x : V} {v : Ver} (h : IsVer K H x v) (o : okV v) : VerB K H x true := by
  obtain ⟨a, rfl, t⟩ := h
  obtain ⟨o1, o2, o3⟩ := o
  refine VerB.tup t (fun y hy _ => ?_) (by simp [numV, o1, o2, o3])
  simp at hy
  rcases hy with rfl | rfl | rfl <;> exact ⟨_, .int _⟩
def spVerB (K : PySem.W.Frag) : Sp := fun vs H Q _ => ∃ (x : V) (b : Bool), vs = [x] ∧ VerB K H x b ∧ ∀ H', Same H H' → Q (.bl b) H'
theorem verB_of {K : PySem.W.Frag} : ∀ vs H Q E, spVerB K vs H Q E → spIsVer K vs H Q E := by
  rintro vs H Q E ⟨x, b, rfl, h, q⟩
  cases h with
  | tup t f g => exact ⟨_, rfl, .inl ⟨_, _, rfl, t, f, by rw [← g]; exact q⟩⟩
  | oth o => exact ⟨x, rfl, .inr ⟨_, o.ty, o.no, q H (Same.refl H)⟩⟩
/-! ### values that are stretches or not -/
inductive StrB (K : PySem.W.Frag) (H : Hp) : V → Bool → Prop
  | oth {x : V} {T : String} : Oth H x T → StrB K H x false
  | len {a : Addr} {xs : List V} : SqT K H a xs → xs.length ≠ 2 → StrB K H (.ref a) false
  | fst {a : Addr} {x y : V} : SqT K H a [x, y] → VerB K H x false → StrB K H (.ref a) false
  | non {a : Addr} {x : V} {v : Ver} : SqT K H a [x, .non] → IsVer K H x v → okV v → StrB K H (.ref a) true
  | snd {a : Addr} {x y : V} {v : Ver} : SqT K H a [x, y] → IsVer K H x v → okV v → y ≠ .non → VerB K H y false → StrB K H (.ref a) false
  | both {a : Addr} {x y : V} {v u : Ver} : SqT K H a [x, y] → IsVer K H x v → okV v → IsVer K H y u → okV u → StrB K H (.ref a) (decide (ltV v u))
theorem StrB.of {K : PySem.W.Frag} {H : Hp} {x : V} {s : Str2} (h : IsStr K H x s) (o : okS s) : StrB K H x true := by
  obtain ⟨p, l, hh, rfl, t, t1, t2⟩ := h
  obtain ⟨s1, s2⟩ := s
  cases s2 with
  | none =>
    obtain rfl : hh = .non := t2
    exact .non t t1 o.1
  | some u =>
    have ⟨q1, q2⟩ := o.2 u rfl
    have e : decide (ltV s1 u) = true := decide_eq_true q2
    rw [← e]
    exact .both t t1 o.1 t2 q1
def spStrB (K : PySem.W.Frag) : Sp := fun vs H Q _ => ∃ (x : V) (b : Bool), vs = [x] ∧ StrB K H x b ∧ ∀ H', Same H H' → Q (.bl b) H'
theorem ver_ne {K : PySem.W.Frag} {H : Hp} {x : V} {v : Ver} (h : IsVer K H x v) : decide (x = V.non) = false := by
  obtain ⟨a, rfl, _⟩ := h
  rfl
section
variable {P : Program} {w : World} {K : PySem.W.Frag} {mg : Str → Option Value} {base : Heap}
theorem scIsStr : FnScope ["value"] ["value"] (defScope sIsStr) := ⟨rfl, rfl, rfl, by decide +kernel, rfl, by decide +kernel, by decide +kernel⟩
theorem scIsVerDue : FnScope ["_law_value", "_law_part"] ["_law_value"] (defScope sIsVerDue) := ⟨rfl, rfl, rfl, by decide +kernel, rfl, by decide +kernel, by decide +kernel⟩
theorem scIsStrDue : FnScope ["_law_value"] ["_law_value"] (defScope sIsStrDue) := ⟨rfl, rfl, rfl, by decide +kernel, rfl, by decide +kernel, by decide +kernel⟩
theorem kit_tup : kitB "tuple" "tuple" = some true := by decide +kernel
/-- the program's is_stretch -/
theorem ok_isStr {f : Addr} {fd : FuncData} {k : Nat} (F : Fun K "is_stretch" "is_stretch" sIsStr f fd) (DT : Def P w K mg base "is_tuple_of" CX0 k ["value", "many"] (spTupOf K)) (DV : Def P w K mg base "is_version" CX0 k ["value"] (spVerB K)) : FnOk P w K mg base CX0 (k + 1) f fd ["value"] (spStrB K) := by
  refine F.ok scIsStr (fun vs H Q E h => ?_) (fun cdv A outer s H vs Q E hr h => ?_)
  · obtain ⟨x, b, rfl, _⟩ := h
    rfl
  · obtain ⟨x, b, rfl, h, q⟩ := h
    refine ⟨_, pss_cons (ps_if (PW.pt (pw_or (pt_not (pt_val (pe_d DT hr (pa_cons (pv 0) (pa_cons pe_int pa_nil))))) (pw_or1 (pt_not (pt_val (pe_d DV hr (pa_cons (pe_ix ix_tup (pv 0) pe_int (fun _ _ => rfl)) pa_nil))))))) (pss_one (ps_ret pe_bl)) pss_nil)
      (pss_one (ps_ret (pe_or (pe_cmpR op_isN (pe_ix ix_tup (pv 0) pe_int (fun _ _ => rfl)) pe_non (nomark _)) (pe_one (pe_and (pe_d DV hr (pa_cons (pe_ix ix_tup (pv 0) pe_int (fun _ _ => rfl)) pa_nil)) (pe_one (pe_cmpR (op_ver (op := .Lt) (.inl rfl) hr.units0) (pe_ix ix_tup (pv 0) pe_int (fun _ _ => rfl)) (pe_ix ix_tup (pv 0) pe_int (fun _ _ => rfl)) (nomark _)))))))), ?_⟩
    cases h with
    | oth o => exact ⟨_, rfl, x, 2, rfl, .inr ⟨_, o.ty, o.no, _, rfl, iteT (iteT (q H (Same.refl H)))⟩⟩
    | @len a xs t n =>
      refine ⟨_, rfl, .ref a, 2, rfl, .inl ⟨a, xs, rfl, t, _, rfl, ?_⟩⟩
      have e : decide ((xs.length : Int) = 2) = false := decide_eq_false (by omega)
      rw [e]
      exact iteT (iteT (q H (Same.refl H)))
    | @fst a x y t b =>
      refine ⟨_, rfl, .ref a, 2, rfl, .inl ⟨a, [x, y], rfl, t, _, rfl, iteF ?_⟩⟩
      refine ⟨_, rfl, a, [x, y], 0, x, rfl, rfl, t, atI_nat (j := 0) rfl, x, false, rfl, b, fun H1 s1 => ⟨_, rfl, iteT ?_⟩⟩
      exact q H1 s1
    | @non a x v t iv ov =>
      refine ⟨_, rfl, .ref a, 2, rfl, .inl ⟨a, [x, .non], rfl, t, _, rfl, iteF ?_⟩⟩
      refine ⟨_, rfl, a, [x, .non], 0, x, rfl, rfl, t, atI_nat (j := 0) rfl, x, true, rfl, .of iv ov, fun H1 s1 => ⟨_, rfl, iteF ?_⟩⟩
      exact ⟨_, rfl, a, [x, .non], 1, .non, rfl, rfl, Same.sqT s1 t, atI_nat (j := 1) rfl, rfl, _, rfl, iteT (q H1 s1)⟩
    | @snd a x y v t iv ov n b =>
      refine ⟨_, rfl, .ref a, 2, rfl, .inl ⟨a, [x, y], rfl, t, _, rfl, iteF ?_⟩⟩
      refine ⟨_, rfl, a, [x, y], 0, x, rfl, rfl, t, atI_nat (j := 0) rfl, x, true, rfl, .of iv ov, fun H1 s1 => ⟨_, rfl, iteF ?_⟩⟩
      have e : decide (y = V.non) = false := decide_eq_false n
      refine ⟨_, rfl, a, [x, y], 1, y, rfl, rfl, Same.sqT s1 t, atI_nat (j := 1) rfl, rfl, _, rfl, ?_⟩
      rw [e]
      refine iteF ⟨_, rfl, a, [x, y], 1, y, rfl, rfl, Same.sqT s1 t, atI_nat (j := 1) rfl, y, false, rfl, b.ext (ExtN.same s1), fun H2 s2 => ⟨_, rfl, iteF (q H2 (s1.trans s2))⟩⟩
    | @both a x y v u t iv ov iu ou =>
      refine ⟨_, rfl, .ref a, 2, rfl, .inl ⟨a, [x, y], rfl, t, _, rfl, iteF ?_⟩⟩
      refine ⟨_, rfl, a, [x, y], 0, x, rfl, rfl, t, atI_nat (j := 0) rfl, x, true, rfl, .of iv ov, fun H1 s1 => ⟨_, rfl, iteF ?_⟩⟩
      refine ⟨_, rfl, a, [x, y], 1, y, rfl, rfl, Same.sqT s1 t, atI_nat (j := 1) rfl, rfl, _, rfl, ?_⟩
      rw [ver_ne iu]
      refine iteF ⟨_, rfl, a, [x, y], 1, y, rfl, rfl, Same.sqT s1 t, atI_nat (j := 1) rfl, y, true, rfl, .of (iu.same s1) ou, fun H2 s2 => ⟨_, rfl, iteT ?_⟩⟩
      refine ⟨_, rfl, a, [x, y], 0, x, rfl, rfl, Same.sqT (s1.trans s2) t, atI_nat (j := 0) rfl, _, rfl, a, [x, y], 1, y, rfl, rfl, Same.sqT (s1.trans s2) t, atI_nat (j := 1) rfl, v, u, iv.same (s1.trans s2), iu.same (s1.trans s2), q H2 (s1.trans s2)⟩
end
end Kw
set_option maxHeartbeats 4000000
namespace Kw
open PySem PySem.Spec PyProof.Rows L2 LamX
theorem ones_eq (n : Nat) : PyData.eqv (.list ((List.replicate n (1 : Int)).map PyData.int)) (.list []) = decide (n = 0) := by
  rw [eqv_nil]
  cases n <;> rfl
/-- a test in a comprehension that adds a 1 or not -/
theorem add1 {H H' : Hp} {D : Addr} {n i : Nat} {b c : Bool} {R : Hp → Prop} (s1 : Same H H') (hD : H D = none) (h1 : H' D = some (.lst ((List.replicate n (1 : Int)).map V.int))) (hn : n ≤ 1000)
    (yes : b = true → ∀ H2, Same H H2 → H2 D = some (.lst ((List.replicate (n + 1) (1 : Int)).map V.int)) → R H2) (no : b = false → R H') :
    if b = true then ∃ acc, H' D = some (.lst acc) ∧ acc.length < sizeLine ∧ R (upd H' D (.lst (acc ++ [V.int 1]))) else R H' := by
  cases b with
  | false => exact iteF (no rfl)
  | true =>
    refine iteT ⟨_, h1, by rw [List.length_map, List.length_replicate]; exact small1000 (by omega), yes rfl _ (fun b o z => by rw [upd_ne (ne_of_none z hD)]; exact s1 _ _ z) ?_⟩
    rw [upd_same, List.replicate_succ', List.map_append]
    rfl
section
variable {P : Program} {w : World} {K : PySem.W.Frag} {mg : Str → Option Value} {base : Heap}
theorem ok_verDue {f : Addr} {fd : FuncData} {k : Nat} (F : Fun K "_law_is_version_due" "_law_is_version_due" sIsVerDue f fd) (mi : mg "isinstance" = none) (mt : mg "tuple" = none) (ml : mg "len" = none) (mint : mg "int" = none) (mb : mg "bool" = none) : FnOk P w K mg base CX0 (k + 1) f fd ["_law_value"] (spVerB K) := by
  refine F.ok scIsVerDue (fun vs H Q E h => ?_) (fun cdv A outer s H vs Q E hr h => ?_)
  · obtain ⟨x, b, rfl, _⟩ := h
    rfl
  · obtain ⟨x, b, rfl, h, q⟩ := h
    refine ⟨_, pss_cons (ps_if (PW.pt (pw_or (pt_not (pt_val (pe_callB call_isi (by rfl) mi (by decide +kernel) (pa_cons (pv 0) (pa_cons (pe_bltn (v := .ty "tuple") (by rfl) mt (by decide +kernel) rfl) pa_nil)))))
        (pw_or1 (pt_cmpR op_ne (pe_callB call_len_seq (by rfl) ml PySem.boot_len (pa_cons (pv 0) pa_nil)) pe_int (nomark _))))) (pss_one (ps_ret pe_bl)) pss_nil)
      (pss_one (ps_ret (pe_cmpR (op_eqD hr.units) (pe_lc (own := [("_law_part", 1)]) (g := gName 1) rfl scIsVerDue.nd (pi_tup (pv 0)) (blkOk_by (N := ["_law_value", "_law_part"]) (sc := defScope sIsVerDue) (by decide +kernel))
        (fun _ _ _ _ _ => pg_name (i := 1) scIsVerDue.nd rfl (Or.inl rfl))
        (fun _ _ _ _ _ => pts_one (PW.pt (pw_or (pt_not (pt_val (pe_callB (r := rIsi K) call_isi (by rfl) mi (by decide +kernel) (pa_cons (pv 1) (pa_cons (pe_bltn (v := .ty "int") (by rfl) mint (by decide +kernel) rfl) pa_nil)))))
          (pw_or (pt_val (pe_callB (r := rIsi K) call_isi (by rfl) mi (by decide +kernel) (pa_cons (pv 1) (pa_cons (pe_bltn (v := .ty "bool") (by rfl) mb (by decide +kernel) rfl) pa_nil))))
          (pw_or1 (pt_cmpR op_lt (pv 1) pe_int (nomark _)))))))
        (fun _ _ _ _ _ => pe_int)) (pe_lst pa_nil) (nomark _)))), ?_⟩
    cases h with
    | oth o => exact ⟨_, rfl, x, .ty "tuple", .type _, .type "tuple", false, rfl, .ty _, o.ty, kit_ty o.no, _, rfl, iteT (iteT (q H (Same.refl H)))⟩
    | @tup a xs _ t fl e =>
      subst e
      refine ⟨_, rfl, .ref a, .ty "tuple", .type "tuple", .type "tuple", true, rfl, .ty _, ty_tup t, kit_ty kit_tup, _, rfl, iteF ?_⟩
      refine ⟨_, rfl, a, xs, rfl, .inr t, rfl, _, rfl, ?_⟩
      rw [dec_int]
      by_cases e3 : xs.length = 3
      · have e' : (!((xs.length : Int) == 3)) = false := by simp [e3]
        rw [e']
        refine iteF ⟨_, rfl, a, rfl, ⟨_, t⟩, fun D hD => ?_⟩
        refine lc_tup (K := K) (a := a) (xs := xs) (fun i H' => Same H H' ∧ ∃ n : Nat, H' D = some (.lst ((List.replicate n (1 : Int)).map V.int)) ∧ decide (n = 0) = (xs.take i).all numV ∧ n ≤ i) ⟨same_upd hD, 0, upd_same, rfl, Nat.le_refl _⟩ (fun i H' _ R => Same.sqT R.1 t) ?_ ?_
        · rintro i y H' hi ⟨s1, n, h1, h2, h3⟩
          refine ⟨rfl, ?_⟩
          obtain ⟨T, hy⟩ := fl y (List.mem_of_getElem? hi) e3
          have hil := (List.getElem?_eq_some_iff.mp hi).1
          have tk := take_snoc hi
          have yes : numV y = false → ∀ H2, Same H H2 → H2 D = some (.lst ((List.replicate (n + 1) (1 : Int)).map V.int)) → (fun H' => Same H H' ∧ ∃ n : Nat, H' D = some (.lst ((List.replicate n (1 : Int)).map V.int)) ∧ decide (n = 0) = (xs.take (i + 1)).all numV ∧ n ≤ i + 1) H2 := fun hy H2 s2 h4 => ⟨s2, n + 1, h4, by rw [tk, List.all_append]; simp [hy], by omega⟩
          have no : numV y = true → (fun H' => Same H H' ∧ ∃ n : Nat, H' D = some (.lst ((List.replicate n (1 : Int)).map V.int)) ∧ decide (n = 0) = (xs.take (i + 1)).all numV ∧ n ≤ i + 1) H' := fun hy => ⟨s1, n, h1, by rw [tk, List.all_append, ← h2]; simp [hy], by omega⟩
          cases hy with
          | non => exact ⟨_, rfl, .non, .ty "int", .type "NoneType", .type "int", false, rfl, .ty _, Flat.ty .non, kit_ty (by decide +kernel), _, rfl, iteT (add1 (c := true) (n := n) (i := i) s1 hD h1 (by omega) (fun _ => yes rfl) (fun z => nomatch z))⟩
          | str z => exact ⟨_, rfl, .str z, .ty "int", .type "str", .type "int", false, rfl, .ty _, Flat.ty (.str z), kit_ty (by decide +kernel), _, rfl, iteT (add1 (c := true) (n := n) (i := i) s1 hD h1 (by omega) (fun _ => yes rfl) (fun z => nomatch z))⟩
          | bl b => exact ⟨_, rfl, .bl b, .ty "int", .type "bool", .type "int", true, rfl, .ty _, Flat.ty (.bl b), kit_ty (by decide +kernel), _, rfl, iteF ⟨_, rfl, .bl b, .ty "bool", .type "bool", .type "bool", true, rfl, .ty _, Flat.ty (.bl b), kit_ty (by decide +kernel), _, rfl, iteT (add1 (c := true) (n := n) (i := i) s1 hD h1 (by omega) (fun _ => yes rfl) (fun z => nomatch z))⟩⟩
          | int u =>
            refine ⟨_, rfl, .int u, .ty "int", .type "int", .type "int", true, rfl, .ty _, Flat.ty (.int u), kit_ty (by decide +kernel), _, rfl, iteF ⟨_, rfl, .int u, .ty "bool", .type "int", .type "bool", false, rfl, .ty _, Flat.ty (.int u), kit_ty (by decide +kernel), _, rfl, iteF ⟨_, rfl, u, 0, rfl, rfl, _, rfl, ?_⟩⟩⟩
            refine add1 (c := true) (n := n) (i := i) s1 hD h1 (by omega) (fun e => yes ?_) (fun e => no ?_)
            · have : u < 0 := of_decide_eq_true e
              exact decide_eq_false (by omega)
            · have : ¬ u < 0 := of_decide_eq_false e
              exact decide_eq_true (by omega)
        · rintro H' ⟨s1, n, h1, h2, h3⟩
          rw [List.take_length] at h2
          refine ⟨Nat.zero_le _, fun l hl => ?_⟩
          have s2 := same_upd (o := .lst []) hl
          refine ⟨_, _, .lst (SqL.of (s2 _ _ h1)) (dp_ints _), .lst (SqL.of upd_same) .nil, shaped_ints _, shaped_nil, ?_⟩
          rw [ones_eq, h2]
          have := q _ (s1.trans s2)
          rw [decide_eq_true e3, Bool.true_and] at this
          exact this
      · have e' : (!((xs.length : Int) == 3)) = true := by simp; omega
        rw [e']
        have := q H (Same.refl H)
        rw [decide_eq_false e3, Bool.false_and] at this
        exact iteT this
end
end Kw
set_option maxHeartbeats 4000000
namespace Kw
open PySem PySem.Spec PyProof.Rows L2 LamX
/-! ### lists of strings, as data -/
theorem dp_strs {K : PySem.W.Frag} {H : Hp} : ∀ ns : List Str, DpAll K H (ns.map V.str) (ns.map PyData.str)
  | [] => .nil
  | n :: ns => .cons (.str n) (dp_strs ns)
theorem cl_strs : ∀ ns : List Str, (∀ n ∈ ns, PyData.strOk n = true) → PyData.canLayAll0 (ns.map PyData.str) = true
  | [], _ => by simp [PyData.canLayAll0]
  | n :: ns, h => by simp [PyData.canLayAll0, PyData.canLay0, cl_strs ns fun x hx => h x (List.mem_cons_of_mem _ hx), h n List.mem_cons_self]
theorem dep_strs : ∀ ns : List Str, PyData.depthAll (ns.map PyData.str) ≤ 1
  | [] => by simp [PyData.depthAll]
  | n :: ns => by
    have := dep_strs ns
    simp [PyData.depthAll, PyData.depth]
    try omega
theorem shaped_strs (ns : List Str) (hn : ∀ n ∈ ns, PyData.strOk n = true) : SeqAt.shaped (.list (ns.map PyData.str)) = true := by
  have h1 := cl_strs ns hn
  have h2 := dep_strs ns
  simp only [SeqAt.shaped, PyData.canLay0, PyData.depth, h1, Bool.true_and]
  exact decide_eq_true (by omega)
theorem eqv_strs (ns : List Str) : PyData.eqv (.list (ns.map PyData.str)) (.list []) = ns.isEmpty := by
  cases ns with
  | nil => simp [PyData.eqv, PyData.eqvAll]
  | cons n ns => simp [PyData.eqv, PyData.eqvAll]
def spIsList (K : PySem.W.Frag) : Sp := fun vs H Q _ => ∃ (x : V) (T : String) (b : Bool), vs = [x] ∧ Ty K H x T ∧ PySem.W.kitAny K (.type T) [.type "list", .type "tuple"] = some b ∧ ∀ H', Same H H' → Q (.bl b) H'
section
variable {P : Program} {w : World} {K : PySem.W.Frag} {mg : Str → Option Value} {base : Heap}
theorem scIsList : FnScope ["value"] ["value"] (defScope sIsList) := ⟨rfl, rfl, rfl, by decide +kernel, rfl, by decide +kernel, by decide +kernel⟩
theorem ok_isList {f : Addr} {fd : FuncData} {k : Nat} (F : Fun K "is_list" "is_list" sIsList f fd) (mi : mg "isinstance" = none) (ml : mg "list" = none) (mt : mg "tuple" = none) : FnOk P w K mg base CX0 (k + 1) f fd ["value"] (spIsList K) := by
  refine F.ok scIsList (fun vs H Q E h => ?_) (fun cdv A outer s H vs Q E hr h => ?_)
  · obtain ⟨x, T, b, rfl, _⟩ := h
    rfl
  · obtain ⟨x, T, b, rfl, ty, ek, q⟩ := h
    refine ⟨_, pss_one (ps_ret (pe_callB call_isiT (by rfl) mi (by decide +kernel) (pa_cons (pv 0) (pa_cons (pe_tup (pa_cons (pe_bltn (v := .ty "list") (by rfl) ml (by decide +kernel) rfl) (pa_cons (pe_bltn (v := .ty "tuple") (by rfl) mt (by decide +kernel) rfl) pa_nil))) pa_nil)))), ?_⟩
    refine ⟨_, rfl, by show 2 ≤ sizeLine; decide, fun tp htp => ?_⟩
    have s1 := same_upd (o := .tup [.ty "list", .ty "tuple"]) htp
    refine ⟨x, tp, _, .type T, [.type "list", .type "tuple"], b, rfl, upd_same, .cons (.ty _) (.cons (.ty _) .nil), ?_, ek, q _ s1⟩
    cases ty with
    | base h =>
      refine .base ?_
      cases h with
      | non => exact .non
      | bl b => exact .bl b
      | int i => exact .int i
      | str z => exact .str z
      | flt z => exact .flt z
      | lst e => exact .lst (s1 _ _ e)
      | frz e => exact .frz (s1 _ _ e)
      | tup e => exact .tup (s1 _ _ e)
      | dK e => exact .dK (s1 _ _ e)
      | dT e => exact .dT (s1 _ _ e)
    | byt b => exact .byt b
    | set e => exact .set (s1 _ _ e)
    | kList e c => exact .kList e c
    | kTuple e c => exact .kTuple e c
    | kDict e c => exact .kDict e c
    | fTuple e => exact .fTuple (s1 _ _ e)
    | fDict e => exact .fDict (s1 _ _ e)
theorem ok_strDue {f : Addr} {fd : FuncData} {k : Nat} (F : Fun K "_law_is_stretch" "_law_is_stretch" sIsStrDue f fd) (mi : mg "isinstance" = none) (mt : mg "tuple" = none) (ml : mg "len" = none) (DV : Def P w K mg base "_law_is_version_due" CX0 k ["_law_value"] (spVerB K)) : FnOk P w K mg base CX0 (k + 1) f fd ["_law_value"] (spStrB K) := by
  refine F.ok scIsStrDue (fun vs H Q E h => ?_) (fun cdv A outer s H vs Q E hr h => ?_)
  · obtain ⟨x, b, rfl, _⟩ := h
    rfl
  · obtain ⟨x, b, rfl, h, q⟩ := h
    refine ⟨_, pss_cons (ps_if (PW.pt (pw_or (pt_not (pt_val (pe_callB call_isi (by rfl) mi (by decide +kernel) (pa_cons (pv 0) (pa_cons (pe_bltn (v := .ty "tuple") (by rfl) mt (by decide +kernel) rfl) pa_nil)))))
        (pw_or (pt_cmpR op_ne (pe_callB call_len_seq (by rfl) ml PySem.boot_len (pa_cons (pv 0) pa_nil)) pe_int (nomark _)) (pw_or1 (pt_not (pt_val (pe_d DV hr (pa_cons (pe_ix ix_tup (pv 0) pe_int (fun _ _ => rfl)) pa_nil)))))))) (pss_one (ps_ret pe_bl)) pss_nil)
      (pss_one (ps_ret (pe_or (pe_cmpR op_isN (pe_ix ix_tup (pv 0) pe_int (fun _ _ => rfl)) pe_non (nomark _)) (pe_one (pe_and (pe_d DV hr (pa_cons (pe_ix ix_tup (pv 0) pe_int (fun _ _ => rfl)) pa_nil)) (pe_one (pe_cmpR (op_ver (op := .Lt) (.inl rfl) hr.units0) (pe_ix ix_tup (pv 0) pe_int (fun _ _ => rfl)) (pe_ix ix_tup (pv 0) pe_int (fun _ _ => rfl)) (nomark _)))))))), ?_⟩
    have two : ∀ {a : Addr} {x y : V}, (!decide (V.int ((([x, y] : List V).length : Nat) : Int) = V.int 2)) = false := fun {a x y} => by simp
    cases h with
    | oth o => exact ⟨_, rfl, x, .ty "tuple", .type _, .type "tuple", false, rfl, .ty _, o.ty, kit_ty o.no, _, rfl, iteT (iteT (q H (Same.refl H)))⟩
    | @len a xs t n =>
      refine ⟨_, rfl, .ref a, .ty "tuple", .type "tuple", .type "tuple", true, rfl, .ty _, ty_tup t, kit_ty kit_tup, _, rfl, iteF ?_⟩
      refine ⟨_, rfl, a, xs, rfl, .inr t, rfl, _, rfl, ?_⟩
      have e' : (!decide (V.int ((xs.length : Nat) : Int) = V.int 2)) = true := by simp; omega
      rw [e']
      exact iteT (iteT (q H (Same.refl H)))
    | @fst a x y t b =>
      refine ⟨_, rfl, .ref a, .ty "tuple", .type "tuple", .type "tuple", true, rfl, .ty _, ty_tup t, kit_ty kit_tup, _, rfl, iteF ⟨_, rfl, a, _, rfl, .inr t, rfl, _, rfl, ?_⟩⟩
      rw [two (a := a)]
      exact iteF ⟨_, rfl, a, [x, y], 0, x, rfl, rfl, t, atI_nat (j := 0) rfl, x, false, rfl, b, fun H1 s1 => ⟨_, rfl, iteT (q H1 s1)⟩⟩
    | @non a x v t iv ov =>
      refine ⟨_, rfl, .ref a, .ty "tuple", .type "tuple", .type "tuple", true, rfl, .ty _, ty_tup t, kit_ty kit_tup, _, rfl, iteF ⟨_, rfl, a, _, rfl, .inr t, rfl, _, rfl, ?_⟩⟩
      rw [two (a := a)]
      refine iteF ⟨_, rfl, a, [x, .non], 0, x, rfl, rfl, t, atI_nat (j := 0) rfl, x, true, rfl, .of iv ov, fun H1 s1 => ⟨_, rfl, iteF ?_⟩⟩
      exact ⟨_, rfl, a, [x, .non], 1, .non, rfl, rfl, Same.sqT s1 t, atI_nat (j := 1) rfl, rfl, _, rfl, iteT (q H1 s1)⟩
    | @snd a x y v t iv ov n b =>
      refine ⟨_, rfl, .ref a, .ty "tuple", .type "tuple", .type "tuple", true, rfl, .ty _, ty_tup t, kit_ty kit_tup, _, rfl, iteF ⟨_, rfl, a, _, rfl, .inr t, rfl, _, rfl, ?_⟩⟩
      rw [two (a := a)]
      refine iteF ⟨_, rfl, a, [x, y], 0, x, rfl, rfl, t, atI_nat (j := 0) rfl, x, true, rfl, .of iv ov, fun H1 s1 => ⟨_, rfl, iteF ?_⟩⟩
      have e : decide (y = V.non) = false := decide_eq_false n
      refine ⟨_, rfl, a, [x, y], 1, y, rfl, rfl, Same.sqT s1 t, atI_nat (j := 1) rfl, rfl, _, rfl, ?_⟩
      rw [e]
      exact iteF ⟨_, rfl, a, [x, y], 1, y, rfl, rfl, Same.sqT s1 t, atI_nat (j := 1) rfl, y, false, rfl, b.ext (ExtN.same s1), fun H2 s2 => ⟨_, rfl, iteF (q H2 (s1.trans s2))⟩⟩
    | @both a x y v u t iv ov iu ou =>
      refine ⟨_, rfl, .ref a, .ty "tuple", .type "tuple", .type "tuple", true, rfl, .ty _, ty_tup t, kit_ty kit_tup, _, rfl, iteF ⟨_, rfl, a, _, rfl, .inr t, rfl, _, rfl, ?_⟩⟩
      rw [two (a := a)]
      refine iteF ⟨_, rfl, a, [x, y], 0, x, rfl, rfl, t, atI_nat (j := 0) rfl, x, true, rfl, .of iv ov, fun H1 s1 => ⟨_, rfl, iteF ?_⟩⟩
      refine ⟨_, rfl, a, [x, y], 1, y, rfl, rfl, Same.sqT s1 t, atI_nat (j := 1) rfl, rfl, _, rfl, ?_⟩
      rw [ver_ne iu]
      refine iteF ⟨_, rfl, a, [x, y], 1, y, rfl, rfl, Same.sqT s1 t, atI_nat (j := 1) rfl, y, true, rfl, .of (iu.same s1) ou, fun H2 s2 => ⟨_, rfl, iteT ?_⟩⟩
      refine ⟨_, rfl, a, [x, y], 0, x, rfl, rfl, Same.sqT (s1.trans s2) t, atI_nat (j := 0) rfl, _, rfl, a, [x, y], 1, y, rfl, rfl, Same.sqT (s1.trans s2) t, atI_nat (j := 1) rfl, v, u, iv.same (s1.trans s2), iu.same (s1.trans s2), q H2 (s1.trans s2)⟩
theorem ok_kitDue {f : Addr} {fd : FuncData} {k : Nat} (F : Fun K "_law_is_kit_due" "_law_is_kit_due" sIsKitDue f fd) (mi : mg "isinstance" = none) (mst : mg "str" = none) (ml : mg "len" = none) : FnOk P w K mg base CX0 (k + 1) f fd ["_law_value"] (spIsKit K) := by
  refine F.ok scIsKitDue (fun vs H Q E h => ?_) (fun cdv A outer s H vs Q E hr h => ?_)
  · obtain ⟨x, rfl, _⟩ := h
    rfl
  · obtain ⟨x, rfl, h⟩ := h
    refine ⟨_, pss_cons (ps_if (PW.pt (pw_or (pt_not (pt_val (pe_callB call_isi (by rfl) mi (by decide +kernel) (pa_cons (pv 0) (pa_cons (pe_bltn (v := .ty "str") (by rfl) mst (by decide +kernel) rfl) pa_nil)))))
        (pw_or1 (pt_not (pt_chain op_lt op_lt pe_int (pe_callB call_len_str (by rfl) ml PySem.boot_len (pa_cons (pv 0) pa_nil)) pe_int))))) (pss_one (ps_ret pe_bl)) pss_nil)
      (pss_one (ps_ret (pe_cmpR (op_eqD hr.units) (pe_lc (own := [("_law_sign", 1)]) (g := gName 1) rfl scIsKitDue.nd (pi_str (pv 0)) (blkOk_by (N := ["_law_value", "_law_sign"]) (sc := defScope sIsKitDue) (by decide +kernel))
        (fun _ _ _ _ _ => pg_name (i := 1) scIsKitDue.nd rfl (Or.inl rfl)) (fun _ _ _ _ _ => pts_one (pt_cmpR op_notIn_sign (pv 1) pe_str (by rfl))) (fun _ _ _ _ _ => pv 1)) (pe_lst pa_nil) (nomark _)))), ?_⟩
    rcases h with ⟨z, rfl, hz, hok, q⟩ | ⟨T, ty, e, q⟩
    · refine ⟨_, rfl, .str z, .ty "str", .type "str", .type "str", true, rfl, .ty _, Flat.ty (.str z), kit_ty (by decide +kernel), _, rfl, iteF ?_⟩
      have hz2 : z.length ≤ sizeLine := Nat.le_trans hz (by decide)
      have q0 := q H (Same.refl H)
      unfold kitS at q0 q
      refine ⟨_, rfl, z, rfl, hz2, 0, (z.length : Int), rfl, rfl, _, rfl, ite2 (fun e1 => ?_) (fun e1 => ?_)⟩
      · have e1' : 1 ≤ z.length := by
          have : (0 : Int) < (z.length : Int) := of_decide_eq_true e1
          omega
        refine ⟨(z.length : Int), 9, rfl, rfl, _, rfl, ?_⟩
        by_cases e2 : z.length ≤ 8
        · have e2' : decide ((z.length : Int) < 9) = true := decide_eq_true (by omega)
          rw [e2']
          simp only [e1', e2, decide_true, Bool.true_and] at q
          refine iteF ⟨_, rfl, z, rfl, fun D hD => ?_⟩
          refine lc_str (fun i H' => Same H H' ∧ ∃ ns : List Str, H' D = some (.lst (ns.map V.str)) ∧ ns.isEmpty = (z.cps.toList.take i).all inLET ∧ ns.length ≤ i ∧ ∀ n ∈ ns, PyData.strOk n = true) ⟨same_upd hD, [], upd_same, rfl, Nat.le_refl _, fun n hn => nomatch hn⟩ ?_ ?_
          · rintro j c H' hj ⟨s1, ns, h1, h2, h3, h5⟩
            have hjl : j < z.cps.size := (Array.getElem?_eq_some_iff.mp hj).1
            have hjz : j < z.length := hjl
            have tk := arr_take hj
            refine ⟨rfl, _, rfl, c, LET, rfl, rfl, _, rfl, ?_⟩
            by_cases ec : inLET c = true
            · have : (!decide (c ∈ LET.cps.toList)) = false := by
                have ec' : decide (c ∈ LET.cps.toList) = true := ec
                rw [ec']; rfl
              rw [this]
              exact iteF ⟨s1, ns, h1, by rw [tk, List.all_append, ← h2]; simp [ec], by omega, h5⟩
            · have : (!decide (c ∈ LET.cps.toList)) = true := by
                have ec' : ¬ decide (c ∈ LET.cps.toList) = true := ec
                rw [Bool.not_eq_true] at ec'
                rw [ec']; rfl
              rw [this]
              refine iteT ⟨_, rfl, _, h1, ?_, ?_⟩
              · rw [List.length_map]; exact small1000 (by omega)
              · refine ⟨fun b o y => by rw [upd_ne (ne_of_none y hD)]; exact s1 _ _ y, ns ++ [⟨#[c]⟩], by rw [upd_same, List.map_append]; rfl, by rw [tk, List.all_append]; simp [ec], by rw [List.length_append]; simp; omega, fun n hn => ?_⟩
                rcases List.mem_append.mp hn with hn | hn
                · exact h5 n hn
                · rw [List.mem_singleton.mp hn]; exact hok c (List.mem_of_getElem? (by rw [Array.getElem?_toList]; exact hj))
          · rintro H' ⟨s1, ns, h1, h2, h3, h5⟩
            have hts : z.cps.toList.take z.cps.size = z.cps.toList := List.take_of_length_le (by simp)
            rw [hts] at h2
            refine ⟨Nat.zero_le _, fun l hl => ?_⟩
            have s2 := same_upd (o := .lst []) hl
            refine ⟨_, _, .lst (SqL.of (s2 _ _ h1)) (dp_strs _), .lst (SqL.of upd_same) .nil, shaped_strs _ h5, shaped_nil, ?_⟩
            rw [eqv_strs, h2]
            exact q _ (s1.trans s2)
        · have e2' : decide ((z.length : Int) < 9) = false := decide_eq_false (by omega)
          rw [e2']
          simp only [e1', e2, decide_true, decide_false, Bool.true_and, Bool.false_and] at q0
          exact iteT q0
      · have e1' : ¬ 1 ≤ z.length := fun c => e1 (decide_eq_true (by omega))
        simp only [e1', decide_false, Bool.false_and] at q0
        exact ⟨_, rfl, iteT q0⟩
    · exact ⟨_, rfl, x, .ty "str", .type T, .type "str", false, rfl, .ty _, ty, kit_ty e, _, rfl, iteT (iteT q)⟩
end
end Kw
set_option maxHeartbeats 4000000
namespace Kw
open PySem PySem.Spec PyProof.Rows L2 LamX
open AutoSeq1 (wpAny_loadPart')
/-! ### enumerate of a tuple -/
theorem meets_enumT (l : Addr) (items : Array Value) (n : Nat) (dct : Option Addr) (sl : Array (Option Value)) :
    Meets (Builtin.«enumerate.__new__» ⟨[.type "enumerate", .ref l], []⟩) (fun _ R s => s.heap.get? l = some { cls := .type "tuple", dict := dct, data := .seq items n, slots := sl } ∧
      R (.ok (.ret (.ref (s.heap.push { cls := .type "tuple_iterator", data := .fields #[.ref l, .int 0 0] }).objs.size))) { s with heap := (s.heap.push { cls := .type "tuple_iterator", data := .fields #[.ref l, .int 0 0] }).push { cls := .type "enumerate", data := .fields #[.none, .bool false, .ref s.heap.objs.size, rawInt 0, .none, .none] } }) :=
  .of_wp fun prog w A R s h => by
    obtain ⟨hp, g, d, tk, os⟩ := s
    obtain ⟨hl, h⟩ := h
    have hsub := sub_enumerate
    have hL : Heap.IsTuple (Shared.heap ⟨hp, g, d, tk, os⟩) l items := ⟨_, hl, rfl, n, rfl⟩
    wp_walk using wpAny_loadPart' hl
    refine wpAny_stack_any fun st => wpAny_pure ?_
    split
    · rename_i c _ _ _ _ _
      cases (c == Value.type "enumerate") <;> (wp_walk using wpAny_loadPart' hl, wpAny_pyIter_tuple hL; exact ⟨_, rfl, h⟩)
    · wp_walk using wpAny_loadPart' hl, wpAny_pyIter_tuple hL
      exact ⟨_, rfl, h⟩
section
variable {prog : Program} {w : World} {A : Around} {E : Value → Shared → Prop} {s : Shared}
theorem call_enumT {l : Addr} {items : Array Value} {Q : Value → Shared → Prop} (hL : s.heap.IsTuple l items)
    (h : ∀ h', IsEnum h' (s.heap.objs.size + 1) s.heap.objs.size 0 .none → h'.IsTupleIter s.heap.objs.size l 0 → h'.objs.size = s.heap.objs.size + 2 → (∀ b o, s.heap.get? b = some o → h'.get? b = some o) → Q (.ref (s.heap.objs.size + 1)) { s with heap := h' }) :
    wpAny (model prog w) A (call (.type "enumerate") [.ref l]) Q E s := by
  obtain ⟨⟨c, dct, dt, sl⟩, hl, hc, n, hd⟩ := hL
  replace hc : c = .type "tuple" := hc
  replace hd : dt = .seq items n := hd
  subst hc hd
  refine callType_new F.called_enumerate (by decide) (F.typeCall_enumerate_1 _) (F.newCall_enumerate_1 _) (fun obj => F.args_object_init_2 obj _) F.entry_enumerate_new (meets_enumT l items n dct sl) ⟨hl, ?_⟩
  have hz : (s.heap.push { cls := .type "tuple_iterator", data := .fields #[.ref l, .int 0 0] }).objs.size = s.heap.objs.size + 1 := Heap.size_push ..
  show _ ∧ _
  rw [hz]
  have he : IsEnum ((s.heap.push { cls := .type "tuple_iterator", data := .fields #[.ref l, .int 0 0] }).push { cls := .type "enumerate", data := .fields #[.none, .bool false, .ref s.heap.objs.size, rawInt 0, .none, .none] }) (s.heap.objs.size + 1) s.heap.objs.size 0 .none := by
    have q := Heap.get?_push_size (s.heap.push { cls := .type "tuple_iterator", data := .fields #[.ref l, .int 0 0] }) (o := { cls := .type "enumerate", data := .fields #[.none, .bool false, .ref s.heap.objs.size, rawInt 0, .none, .none] }) rfl
    rw [hz] at q
    exact q
  exact ⟨⟨_, he, rfl⟩, h _ he ⟨_, Heap.get?_push_of_some _ (Heap.get?_push_size _ rfl), rfl, rfl⟩ (by rw [Heap.size_push, hz]) fun b o x => Heap.get?_push_of_some _ (Heap.get?_push_of_some _ x)⟩
end
/-- the tuple at a, each item in a new pair -/
def IteT (K : PySem.W.Frag) (a : Addr) : It :=
  ⟨fun i H => ∃ (xs : List V) (x : V), SqT K H a xs ∧ xs[i]? = some x, fun i H v H' => ∃ T x, v = .ref T ∧ H T = none ∧ H' = upd H T (.tup [.int (i : Nat), x]) ∧ ∀ xs, SqT K H a xs → xs[i]? = some x, fun i H => ∃ xs : List V, SqT K H a xs ∧ xs.length = i⟩
theorem turn_enumT {P : Program} {w : World} {K : PySem.W.Frag} {elts : List Expr} {kk : Nat} {tpos : Pos} (a e it : Addr) (hai : a ≠ it) (hea : e ≠ a) :
    Turn P w K (.Tuple elts kk tpos) (IteT K a) [e, it] e (fun i h => (∃ old, IsEnum h e it ((i : Nat) : Int) old) ∧ h.IsTupleIter it a i ∧ e ≠ it) where
  mem := by simp
  obj := fun i h st b hb => by
    obtain ⟨⟨old, he⟩, ⟨o, ho, hc, hd⟩, _⟩ := st
    have e' : b = e ∨ b = it := by simpa using hb
    rcases e' with z | z
    · rw [z]; exact ⟨_, he, fun v q => nomatch q⟩
    · rw [z]; exact ⟨o, ho, fun v q => by rw [hd] at q; cases q⟩
  keep := fun i h h' st k => let ⟨⟨old, he⟩, hi, hne⟩ := st; ⟨⟨old, k e (by simp) _ he⟩, hi.at fun o q => k it (by simp) o q, hne⟩
  item := by
    intro X hP hw hK hc i pins s σ H E I hf st hg
    subst hP hw hK
    obtain ⟨⟨old, he⟩, hit, hne⟩ := st
    obtain ⟨xs, x, hq, hx⟩ := hg
    obtain ⟨its, rv, p, hz⟩ := I.tuple hq
    have hi' : i < its.toArray.size := by
      have := (List.getElem?_eq_some_iff.mp hx).1
      rw [rv.length] at this
      simpa using this
    have hel : e < s.heap.objs.size := Heap.lt_size he
    have hil : it < s.heap.objs.size := by obtain ⟨_, q, _⟩ := hit; exact Heap.lt_size q
    have D := Draws.tuple (prog := X.prog) (w := X.w) (A := X.A.in1) (I.ok.hd hc) it a hai its.toArray
    refine wpAny_pyNext_enum_itemD D he ⟨hit, p⟩ hi' hne (by simp [hne, hea]) fun u h' tk hu ho hst' hT hsz hk => ?_
    obtain ⟨u', hu', ru⟩ := rv.get hx
    have eu : u' = u := by
      have q : its[i]? = some u := by simpa using hu
      rw [hu'] at q
      exact Option.some.inj q
    subst eu
    refine ⟨_, rfl, wpAny_letOwnedTupleGo_enum (s := { s with heap := h', toks := tk + 1 }) ho fun h'' he' sb => ?_⟩
    have hT2 : h''.get? s.heap.objs.size = some { cls := .type "tuple", data := .seq #[.int i tk, u'] } := (sb.2 _ (Nat.ne_of_gt hel)).trans hT
    have new : ObjOk X.prog X.w (upd H s.heap.objs.size (.tup [.int (i : Nat), x])) h'' s.heap.objs.size (.tup [.int (i : Nat), x]) := ⟨by show 2 ≤ sizeLine; decide, [.int i tk, u'], .cons ⟨_, rfl⟩ (.cons ru .nil), ⟨_, hT2, rfl, _, rfl⟩⟩
    have I1 : Inv X pins σ (upd H s.heap.objs.size (.tup [.int (i : Nat), x])) { s with heap := h'', toks := tk + 1 } :=
      I.turnedNew (ch := [e, it]) (fun b ob hb q => (sb.2 b (fun z => hb (by simp [z]))).trans (hk b ob (fun z => hb (by simp [z])) (fun z => hb (by simp [z])) q)) hf (Nat.le_refl _) new
    refine ⟨.ref s.heap.objs.size, _, I1, rfl, ⟨_, x, rfl, I.hok.fresh (Nat.le_refl _), rfl, fun ys hy => by rw [I.tuple_inj hy hq]; exact hx⟩, ⟨⟨u', ?_⟩, hst'.1.at fun o q => (sb.2 it (Ne.symm hne)).trans q, hne⟩, fun b hb => ?_⟩
    · have e1 : ((i + 1 : Nat) : Int) = (i : Int) + 1 := by omega
      rw [e1]; exact he'
    · have hb' : b < s.heap.objs.size := by
        have e' : b = e ∨ b = it := by simpa using hb
        rcases e' with z | z
        · rw [z]; exact hel
        · rw [z]; exact hil
      rw [upd_ne (Nat.ne_of_lt hb')]
      exact (hf b hb).1
  done := by
    intro X hP hw hK hc i pins s σ H E I hf st hg
    subst hP hw hK
    obtain ⟨⟨old, he⟩, hit, hne⟩ := st
    obtain ⟨xs, hq, hx⟩ := hg
    obtain ⟨its, rv, p, hz⟩ := I.tuple hq
    obtain ⟨f0, f1, f2, f3, f4, f5⟩ := hf it (by simp)
    have en : its.toArray.size = i := by
      rw [List.size_toArray, ← rv.length, hx]
    have D := Draws.tuple (prog := X.prog) (w := X.w) (A := X.A.in1) (I.ok.hd hc) it a hai its.toArray
    refine wpAny_pyNext_enum_endD D he ⟨by rw [en]; exact hit, p⟩ fun h' eb => ⟨rfl, I.turned (t' := s.toks) (fun b o hb q => eb b o hb q) f0 f1 f3 f4 f5⟩
  self := fun A i s Q E st h => let ⟨⟨_, he⟩, _⟩ := st; wpAny_pyIter_enum he h
/-- enumerate(e), e a list or a tuple -/
def iEnumLT (K : PySem.W.Frag) (ta : TA) : TI := fun σ H R => ta σ H fun vs H1 => ∃ a xs, vs = [.ref a] ∧ ((SqL K H1 a xs ∧ R (Ite K a) H1) ∨ (SqT K H1 a xs ∧ R (IteT K a) H1))
theorem pi_enumLT {X : Cx} {e : Expr} {ta : TA} {p pos tpos : Pos} {elts : List Expr} {kk : Nat} (hg : Gl X "enumerate") (hm : X.mg "enumerate" = none) (ha : PA X [e] ta) (hs : starEach [e] X.env = [(false, eval e X.env)] := by rfl) :
    PI X (.Tuple elts kk tpos) (.Call (.Name "enumerate" p) [e] [] pos) (iEnumLT X.K ta) := by
  refine ⟨fun pins s σ H R I h => ?_⟩
  refine Call_ (ld_blt I hg hm boot_enumerate (PyProof.Rows.callWith_type1 (thn (ha.run pos pins s σ H _ I h) fun us s1 ⟨vs, H1, I1, r1, q1⟩ => ?_) hs rfl))
  obtain ⟨a, xs, rfl, q1⟩ := q1
  cases r1 with
  | cons r rr =>
    cases rr
    cases r
    have two : ∀ b, b ∈ [s1.heap.objs.size + 1, s1.heap.objs.size] → s1.heap.objs.size ≤ b := fun b hb => by
      simp at hb
      omega
    rcases q1 with ⟨hq, q⟩ | ⟨hq, q⟩
    · obtain ⟨its, rv, p', hz⟩ := I1.list hq
      refine call_enumerate_list p'.isList fun h' he hit hsz hk => wpAny_pyIter_enum he ?_
      refine ⟨s1.heap.objs.size + 1, [s1.heap.objs.size + 1, s1.heap.objs.size], _, _, H1, rfl, I1.kept (t' := s1.toks) hk, turn_enum a (s1.heap.objs.size + 1) s1.heap.objs.size, ⟨⟨.none, he⟩, hit, Nat.succ_ne_self _⟩, fun b hb => ?_, q⟩
      exact (I1.kept (t' := s1.toks) (fun _ _ z => z)).fpOk (two b hb) (I1.hok.fresh (two b hb))
    · obtain ⟨its, rv, p', hz⟩ := I1.tuple hq
      have hlt : a < s1.heap.objs.size := by obtain ⟨o, ho, _⟩ := p'; exact Heap.lt_size ho
      refine call_enumT (show s1.heap.IsTuple a its.toArray from p') fun h' he hit hsz hk => wpAny_pyIter_enum he ?_
      refine ⟨s1.heap.objs.size + 1, [s1.heap.objs.size + 1, s1.heap.objs.size], _, _, H1, rfl, I1.kept (t' := s1.toks) hk, turn_enumT a (s1.heap.objs.size + 1) s1.heap.objs.size (Nat.ne_of_lt hlt) (fun z => Nat.lt_irrefl _ (Nat.lt_of_lt_of_le (z ▸ hlt : s1.heap.objs.size + 1 < s1.heap.objs.size) (Nat.le_succ _))), ⟨⟨.none, he⟩, hit, Nat.succ_ne_self _⟩, fun b hb => ?_, q⟩
      exact (I1.kept (t' := s1.toks) (fun _ _ z => z)).fpOk (two b hb) (I1.hok.fresh (two b hb))
/-- the for loop over any iterator that goes n times -/
theorem for_any {J : It} {n : Nat} {g : TG} {tb : TS} {D : Ends} {σ : L2.St} {H : Hp} (Pv : Nat → L2.St → Hp → Prop) (h0 : Pv 0 σ H) (go : ∀ i σ H, i < n → Pv i σ H → J.go i H) (stp : ∀ σ H, Pv n σ H → J.stop n H)
    (step : ∀ i σ H x H', i < n → Pv i σ H → J.yld i H x H' → g x σ H' fun σ2 H2 => tb { D with nx := Pv (i + 1), ct := Pv (i + 1), bk := D.nx } σ2 H2) (done : ∀ σ H, Pv n σ H → D.nx σ H) :
    ∃ W : Nat → Nat → L2.St → Hp → Prop, (∃ m, W 0 m σ H) ∧ ∀ i m σ H, W i m σ H → (J.stop i H ∧ D.nx σ H) ∨ (J.go i H ∧ ∃ N : L2.St → Hp → Prop, (∀ σ' H', N σ' H' → ∃ m', m' < m ∧ W (i + 1) m' σ' H') ∧ ∀ x H', J.yld i H x H' → g x σ H' fun σ2 H2 => tb { D with nx := N, ct := N, bk := D.nx } σ2 H2) := by
  refine ⟨fun i m σ H => m = n - i ∧ i ≤ n ∧ Pv i σ H, ⟨n, by simp, Nat.zero_le _, h0⟩, fun i m σ H hw => ?_⟩
  obtain ⟨em, hi, p⟩ := hw
  by_cases lt : i < n
  · exact .inr ⟨go i σ H lt p, Pv (i + 1), fun σ' H' p' => ⟨n - (i + 1), by omega, rfl, lt, p'⟩, fun x H' y => step i σ H x H' lt p y⟩
  · have ei : i = n := by omega
    rw [ei] at p ⊢
    exact .inl ⟨stp σ H p, done σ H p⟩
end Kw
set_option maxHeartbeats 4000000
namespace Kw
open PySem PySem.Spec PyProof.Rows L2 LamX
abbrev sChkV : Stmt := top 22
abbrev sNextV : Stmt := top 24
abbrev sChkS : Stmt := top 26
/-- an own error without __init__, called x, at C -/
structure OwnErr (K : PySem.W.Frag) (mg : Str → Option Value) (x : Str) (C : Addr) : Prop where
  ex : ∃ (B newId initId : String) (bmB : List Value), ExcBaseFacts B newId initId bmB ∧ PySem.W.excIn K C bmB newId = true
  gC : mg x = some (.ref C)
  kC : PySem.W.keepIn K (.ref C) = true
  sub : PySem.W.subIn K (.ref C) (.type "BaseException") = some true
  ty : PySem.W.typeIn K (.ref C) = some (.type "type")
theorem pmk_o {X : Cx} {C : Addr} {x m : Str} {j : Nat} {p p2 pos : Pos} (O : OwnErr X.K X.mg x C) (hg : Gl X x := by rfl) (hdb : (x == ("__debug__" : Str)) = false := by decide) :
    PMk X (.Call (.Name x p) [.Constant (.str m) j p2] [] pos) (fun _ H Q => Q (.ref C) none H) := by
  obtain ⟨B, n, i, bm, F, q⟩ := O.ex
  exact pmk_own F q O.gC O.kC (raises_own O.sub O.ty) hg hdb
/-- an own error with super().__init__, called x, at C -/
structure SupErr (P : Program) (K : PySem.W.Frag) (mg : Str → Option Value) (x : Str) (C : Addr) : Prop where
  ex : ∃ (fI cc cd : Addr) (qual : Str), Ks.SupTxt P K mg C fI cc cd qual
  gC : mg x = some (.ref C)
  kC : PySem.W.keepIn K (.ref C) = true
  sub : PySem.W.subIn K (.ref C) (.type "BaseException") = some true
  ty : PySem.W.typeIn K (.ref C) = some (.type "type")
section
variable {X : Cx}
theorem ps_raiseS {x : Str} {a : Expr} {ta : TA} {W : WX} {p pos pos2 : Pos} {k : Nat} {C : Addr} (O : SupErr X.prog X.K X.mg x C) (hc : X.calm = true) (hr : Room k X.A) (tk : Takes X W) (ha : PA X [a] ta) (hg : Gl X x := by rfl)
    (hdb : (x == ("__debug__" : Str)) = false := by decide) (he : starEach (a :: []) X.env = (false, eval a X.env) :: starEach [] X.env := by rfl) (hpl : (backTo pos (starEach [] X.env)).any (·.1) = false := by rfl) :
    PS X (.Raise (some (.Call (.Name x p) [a] [] pos)) none pos2) (tRaiseSup C W ta) := by
  obtain ⟨fI, cc, cd, qual, T⟩ := O.ex
  exact ps_raiseSup hc T O.gC O.kC (raises_own O.sub O.ty) hr tk ha hg hdb he hpl
end
/-- a def that may raise, found by its name -/
structure DefX (P : Program) (w : World) (K : PySem.W.Frag) (mg : Str → Option Value) (base : Heap) (x : Str) (k : Nat) (ps : List Str) (sp : Sp) : Prop where
  ex : ∃ f fd, FnOk P w K mg base (L2.CX P w) k f fd ps sp ∧ mg x = some (.ref f) ∧ PySem.W.keepIn K (.ref f) = true ∧ Binds K fd ps []
theorem pe_dX {X : Cx} {x : Str} {k : Nat} {ps : List Str} {sp : Sp} {p pos : Pos} {e : Expr} {es : List Expr} {t : TA} {W : WX} (D : DefX X.prog X.w X.K X.mg X.base x k ps sp) (hr : Room k X.A) (tk : Takes X W) (ha : PA X (e :: es) t) (hg : Gl X x := by rfl)
    (hdb : (x == ("__debug__" : Str)) = false := by decide) (he : starEach (e :: es) X.env = (false, eval e X.env) :: starEach es X.env := by rfl) (hpl : (backTo pos (starEach es X.env)).any (·.1) = false := by rfl) :
    PE X (.Call (.Name x p) (e :: es) [] pos) (tCallS sp (fun σ => WE W σ) t) := by
  obtain ⟨f, fd, F, hm, hk, hb⟩ := D.ex
  exact pe_callS F hr hg hm hk hb (fun σ => passAt tk σ) ha hdb he hpl
def spChkV (K : PySem.W.Frag) (CV : Addr) : Sp := fun vs H Q E => ∃ (x : V) (b : Bool), vs = [x] ∧ VerB K H x b ∧ (b = true → ∀ H', Same H H' → Q .non H') ∧ (b = false → ∀ H', Same H H' → E (.ref CV) none H')
def spNextV (K : PySem.W.Frag) (CV : Addr) : Sp := fun vs H Q E => ∃ (x : V), vs = [x] ∧ ((∃ v, IsVer K H x v ∧ okV v ∧ ∀ H' p, Same H H' → H' p = some (.tup (v3 (v.1, v.2.1, v.2.2 + 1))) → Q (.ref p) H') ∨ (VerB K H x false ∧ ∀ H', Same H H' → E (.ref CV) none H'))
section
variable {P : Program} {w : World} {K : PySem.W.Frag} {mg : Str → Option Value} {base : Heap}
theorem scChkV : FnScope ["version"] ["version"] (defScope sChkV) := ⟨rfl, rfl, rfl, by decide +kernel, rfl, by decide +kernel, by decide +kernel⟩
theorem scNextV : FnScope ["version"] ["version"] (defScope sNextV) := ⟨rfl, rfl, rfl, by decide +kernel, rfl, by decide +kernel, by decide +kernel⟩
theorem ok_chkV {f CV : Addr} {fd : FuncData} {k : Nat} (F : Fun K "check_version" "check_version" sChkV f fd) (O : OwnErr K mg "BadVersion" CV) (DV : Def P w K mg base "is_version" CX0 k ["value"] (spVerB K)) : FnOk P w K mg base (L2.CX P w) (k + 1) f fd ["version"] (spChkV K CV) := by
  refine F.okX scChkV (fun vs H Q E h => ?_) (fun cdv A outer s H vs Q E hr h => ?_)
  · obtain ⟨x, b, rfl, _⟩ := h
    rfl
  · obtain ⟨x, b, rfl, hb, q1, q2⟩ := h
    refine ⟨_, pss_one (ps_if (pt_not (pt_val (pe_d DV hr (pa_cons (pv 0) pa_nil)))) (pss_one (ps_raise rfl (takes_of rfl rfl rfl rfl) (pmk_o O))) pss_nil), ?_⟩
    refine ⟨x, rfl, x, b, rfl, hb, fun H1 s1 => ⟨_, rfl, ?_⟩⟩
    cases b with
    | true => exact iteF (q1 rfl H1 s1)
    | false => exact iteT (q2 rfl H1 s1)
theorem ok_nextV {f CV : Addr} {fd : FuncData} {k : Nat} (F : Fun K "next_version" "next_version" sNextV f fd) (DC : DefX P w K mg base "check_version" k ["version"] (spChkV K CV)) : FnOk P w K mg base (L2.CX P w) (k + 1) f fd ["version"] (spNextV K CV) := by
  refine F.okX scNextV (fun vs H Q E h => ?_) (fun cdv A outer s H vs Q E hr h => ?_)
  · obtain ⟨x, rfl, _⟩ := h
    rfl
  · obtain ⟨x, rfl, h⟩ := h
    refine ⟨_, pss_cons (ps_expr (pe_dX DC hr (takes_of rfl rfl rfl rfl) (pa_cons (pv 0) pa_nil)))
      (pss_one (ps_ret (pe_tup (pa_cons (pe_ix ix_tup (pv 0) pe_int (fun _ _ => rfl)) (pa_cons (pe_ix ix_tup (pv 0) pe_int (fun _ _ => rfl)) (pa_cons (pe_op op_add (pe_ix ix_tup (pv 0) pe_int (fun _ _ => rfl)) pe_int) pa_nil)))))), ?_⟩
    rcases h with ⟨v, hv, ov, q⟩ | ⟨hb, q⟩
    · obtain ⟨a, rfl, ha⟩ := hv
      refine ⟨.ref a, rfl, .ref a, true, rfl, .of ⟨a, rfl, ha⟩ ov, fun _ H1 s1 => ?_, fun z => nomatch z⟩
      have ha1 := Same.sqT s1 ha
      refine ⟨_, rfl, a, v3 v, 0, .int v.1, rfl, rfl, ha1, atI_nat (j := 0) rfl, _, rfl, a, v3 v, 1, .int v.2.1, rfl, rfl, ha1, atI_nat (j := 1) rfl, _, rfl, a, v3 v, 2, .int v.2.2, rfl, rfl, ha1, atI_nat (j := 2) rfl, _, 1, rfl, rfl, by show 3 ≤ sizeLine; decide, fun p hp => ?_⟩
      exact q _ p (s1.trans (same_upd hp)) upd_same
    · exact ⟨x, rfl, x, false, rfl, hb, (fun z => nomatch z), fun _ H1 s1 => q H1 s1⟩
end
end Kw
set_option maxHeartbeats 4000000
namespace Kw
open PySem PySem.Spec PyProof.Rows L2 LamX
/-- the error BadRange(v) leaves, from H on -/
def XAt (E : XK) (CR : Addr) (v : V) (H : Hp) : Prop := ∀ H' d, Same H H' → H' d = some (.xd [(("at" : Str), v)]) → E (.ref CR) (some d) H'
theorem kl_lst {K : PySem.W.Frag} : PySem.W.kitAny K (.type "list") [.type "list", .type "tuple"] = some true := kitAny_cons (b := true) (kit_ty (by decide +kernel)) (fun z => nomatch z) fun _ => rfl
theorem kl_tup {K : PySem.W.Frag} : PySem.W.kitAny K (.type "tuple") [.type "list", .type "tuple"] = some true := kitAny_cons (b := false) (kit_ty (by decide +kernel)) (fun _ => kitAny_cons (b := true) (kit_ty (by decide +kernel)) (fun z => nomatch z) fun _ => rfl) fun z => nomatch z
/-- no list and no tuple -/
inductive NoLT (H : Hp) : V → String → Prop
  | flat {x : V} {T : String} : Flat x T → NoLT H x T
  | dct {a : Addr} {kvs : List (Key × V)} : H a = some (.dK kvs) → NoLT H (.ref a) "dict"
theorem NoLT.oth {H : Hp} {x : V} {T : String} (h : NoLT H x T) : Oth H x T := by
  cases h with
  | flat f => exact .flat f
  | dct e => exact .dct e
theorem NoLT.no {K : PySem.W.Frag} {H : Hp} {x : V} {T : String} (h : NoLT H x T) : PySem.W.kitAny K (.type T) [.type "list", .type "tuple"] = some false := by
  have go : ∀ {T : String}, kitB T "list" = some false → kitB T "tuple" = some false → PySem.W.kitAny K (.type T) [.type "list", .type "tuple"] = some false := fun h1 h2 => kitAny_cons (kit_ty h1) (fun _ => kitAny_cons (kit_ty h2) (fun _ => kitAny_nil) fun z => nomatch z) fun z => nomatch z
  cases h with
  | flat f => cases f <;> exact go (by decide +kernel) (by decide +kernel)
  | dct e => exact go (by decide +kernel) (by decide +kernel)
theorem ty_lst {K : PySem.W.Frag} {H : Hp} {a : Addr} {xs : List V} (h : SqL K H a xs) : Ty K H (.ref a) "list" := by
  rcases h with (h | ⟨o, h⟩) | ⟨o, its, n, h, c, _⟩
  · exact .base (.lst h)
  · exact .base (.frz h)
  · exact .kList h c
theorem SqLT.kit {K : PySem.W.Frag} {H : Hp} {a : Addr} {xs : List V} (h : SqLT K H a xs) : ∃ T, Ty K H (.ref a) T ∧ PySem.W.kitAny K (.type T) [.type "list", .type "tuple"] = some true := by
  rcases h with h | h
  · exact ⟨_, ty_lst h, kl_lst⟩
  · exact ⟨_, ty_tup h, kl_tup⟩
theorem SqLT.ext {K : PySem.W.Frag} {H H' : Hp} {a : Addr} {xs : List V} (h : SqLT K H a xs) (e : ExtN H H') : SqLT K H' a xs := h.elim (fun h => .inl (e.sqL h)) fun h => .inr (e.sqT h)
/-- each item is judged -/
structure Judged (K : PySem.W.Frag) (H : Hp) (xs : List V) (bs : List Bool) : Prop where
  len : xs.length = bs.length
  at_ : ∀ (i : Nat) (x : V) (b : Bool), xs[i]? = some x → bs[i]? = some b → StrB K H x b
theorem StrB.ext {K : PySem.W.Frag} {H H' : Hp} {x : V} {b : Bool} (h : StrB K H x b) (e : ExtN H H') : StrB K H' x b := by
  cases h with
  | oth o => exact .oth (o.ext e)
  | len t n => exact .len (e.sqT t) n
  | fst t v => exact .fst (e.sqT t) (v.ext e)
  | non t v o => exact .non (e.sqT t) (e.ver v) o
  | snd t v o n y => exact .snd (e.sqT t) (e.ver v) o n (y.ext e)
  | both t v o u p => exact .both (e.sqT t) (e.ver v) o (e.ver u) p
theorem Judged.ext {K : PySem.W.Frag} {H H' : Hp} {xs : List V} {bs : List Bool} (h : Judged K H xs bs) (e : ExtN H H') : Judged K H' xs bs := ⟨h.len, fun i x b p q => (h.at_ i x b p q).ext e⟩
theorem enum_pick {K : PySem.W.Frag} {H : Hp} {a : Addr} {xs : List V} {R : It → Hp → Prop} (h : SqLT K H a xs) (q : ∀ J, (J = Ite K a ∧ SqL K H a xs) ∨ (J = IteT K a ∧ SqT K H a xs) → R J H) : (SqL K H a xs ∧ R (Ite K a) H) ∨ (SqT K H a xs ∧ R (IteT K a) H) := by
  rcases h with h | h
  · exact .inl ⟨h, q _ (.inl ⟨rfl, h⟩)⟩
  · exact .inr ⟨h, q _ (.inr ⟨rfl, h⟩)⟩
def spChkS (K : PySem.W.Frag) (CR : Addr) : Sp := fun vs H Q E => ∃ (x : V), vs = [x] ∧ ((∃ T, NoLT H x T ∧ XAt E CR .non H) ∨ ∃ a xs, x = .ref a ∧ SqLT K H a xs ∧ xs.length ≤ 1000 ∧ ((40 < xs.length ∧ XAt E CR .non H) ∨
  (xs.length ≤ 40 ∧ ∃ bs, Judged K H xs bs ∧ (bs.all id = true → ∀ H', Same H H' → Q .non H') ∧ ∀ i : Nat, bs[i]? = some false → (∀ j, j < i → bs[j]? = some true) → XAt E CR (.int (i : Int)) H)))
section
variable {P : Program} {w : World} {K : PySem.W.Frag} {mg : Str → Option Value} {base : Heap}
theorem scChkS : FnScope ["stretches", "at", "stretch"] ["stretches"] (defScope sChkS) := ⟨rfl, rfl, rfl, by decide +kernel, rfl, by decide +kernel, by decide +kernel⟩
theorem log_small (i : Nat) (h : i < 1000) : ((i : Int).natAbs).log2 < 1920 := by
  have e : ((i : Int).natAbs) = i := by simp
  rw [e]
  by_cases z : i = 0
  · subst z
    decide
  · refine (Nat.log2_lt z).mpr (Nat.lt_of_lt_of_le h (Nat.le_trans (show 1000 ≤ 2 ^ 10 by decide) (Nat.pow_le_pow_right (by decide) (by decide))))
theorem ok_chkS {f CR : Addr} {fd : FuncData} {k : Nat} {tM : Tok} (F : Fun K "check_stretches" "check_stretches" sChkS f fd) (O : SupErr P K mg "BadRange" CR) (ml : mg "len" = none) (me : mg "enumerate" = none) (mM : mg "MOST_STRETCHES" = some (.int 40 tM))
    (DL : Def P w K mg base "is_list" CX0 k ["value"] (spIsList K)) (DS : Def P w K mg base "is_stretch" CX0 k ["value"] (spStrB K)) : FnOk P w K mg base (L2.CX P w) (k + 1) f fd ["stretches"] (spChkS K CR) := by
  refine F.okX scChkS (fun vs H Q E h => ?_) (fun cdv A outer s H vs Q E hr h => ?_)
  · obtain ⟨x, rfl, _⟩ := h
    rfl
  · obtain ⟨x, rfl, h⟩ := h
    refine ⟨_, pss_cons (ps_if (PW.pt (pw_or (pt_not (pt_val (pe_d DL hr (pa_cons (pv 0) pa_nil)))) (pw_or1 (pt_cmpR op_gt (pe_callB call_len_seq (by rfl) ml PySem.boot_len (pa_cons (pv 0) pa_nil)) (pe_glob (v := .int 40) (by rfl) mM ⟨tM, rfl⟩) (nomark _)))))
        (pss_one (ps_raiseS O rfl hr (takes_of rfl rfl rfl rfl) (pa_cons pe_non pa_nil))) pss_nil)
      (pss_one (ps_for (passes_of rfl) rfl (pi_enumLT (by rfl) me (pa_cons (pv 0) pa_nil)) (pg_tup rfl (pgs_cons (pg_name (i := 1) scChkS.nd rfl (.inl rfl)) (pgs_cons (pg_name (i := 2) scChkS.nd rfl (.inl rfl)) pgs_nil)))
        (pss_one (ps_if (pt_not (pt_val (pe_d DS hr (pa_cons (pv 2) pa_nil)))) (pss_one (ps_raiseS O rfl hr (takes_of rfl rfl rfl rfl) (pa_cons (pv 1) pa_nil))) pss_nil)))), ?_⟩
    rcases h with ⟨T, hx, q⟩ | ⟨a, xs, rfl, hS, hl, h⟩
    · refine ⟨x, rfl, x, T, false, rfl, hx.oth.ty, hx.no, fun H1 s1 => ⟨_, rfl, iteT (iteT ⟨.non, rfl, .inl rfl, fun d hd => ?_⟩)⟩⟩
      exact q _ d (s1.trans (same_upd hd)) upd_same
    · obtain ⟨T, ty, ek⟩ := hS.kit
      refine ⟨_, rfl, .ref a, T, true, rfl, ty, ek, fun H1 s1 => ⟨_, rfl, iteF ?_⟩⟩
      have hS1 := hS.ext (ExtN.same s1)
      refine ⟨_, rfl, a, xs, rfl, hS1, (xs.length : Int), 40, rfl, rfl, _, rfl, ?_⟩
      rcases h with ⟨hlt, q⟩ | ⟨hle, bs, hj, q1, q2⟩
      · have e : decide ((xs.length : Int) > 40) = true := decide_eq_true (by omega)
        rw [e]
        refine iteT ⟨.non, rfl, .inl rfl, fun d hd => ?_⟩
        exact q _ d (s1.trans (same_upd hd)) upd_same
      · have e : decide ((xs.length : Int) > 40) = false := decide_eq_false (by omega)
        rw [e]
        refine iteF ?_
        have body : ∀ (J : It), ((J = Ite K a ∧ SqL K H1 a xs) ∨ (J = IteT K a ∧ SqT K H1 a xs)) → ∀ {g : TG} {tb : TS} {D : Ends} {σ : L2.St}, (∀ i σ H2 x T H', i < xs.length → Same H1 H2 → xs[i]? = some x → H2 T = none → H' = upd H2 T (.tup [.int (i : Nat), x]) → (∀ j, j < i → bs[j]? = some true) → (∃ y1 y2, σ = [some (.ref a), y1, y2]) →
            g (.ref T) σ H' fun σ2 H2 => tb { D with nx := fun σ3 H3 => (∃ y1 y2, σ3 = [some (.ref a), y1, y2]) ∧ Same H1 H3 ∧ ∀ j, j < i + 1 → bs[j]? = some true, ct := fun σ3 H3 => (∃ y1 y2, σ3 = [some (.ref a), y1, y2]) ∧ Same H1 H3 ∧ ∀ j, j < i + 1 → bs[j]? = some true, bk := D.nx } σ2 H2) →
            (∀ σ H3, Same H1 H3 → (∀ j, j < xs.length → bs[j]? = some true) → D.nx σ H3) → (∃ y1 y2, σ = [some (.ref a), y1, y2]) →
            ∃ W : Nat → Nat → L2.St → Hp → Prop, (∃ m, W 0 m σ H1) ∧ ∀ i m σ H, W i m σ H → (J.stop i H ∧ D.nx σ H) ∨ (J.go i H ∧ ∃ N : L2.St → Hp → Prop, (∀ σ' H', N σ' H' → ∃ m', m' < m ∧ W (i + 1) m' σ' H') ∧ ∀ x H', J.yld i H x H' → g x σ H' fun σ2 H2 => tb { D with nx := N, ct := N, bk := D.nx } σ2 H2) := by
          intro J hJ g tb D σ step done hσ
          refine for_any (n := xs.length) (fun i σ H' => (∃ y1 y2, σ = [some (.ref a), y1, y2]) ∧ Same H1 H' ∧ ∀ j, j < i → bs[j]? = some true) ⟨hσ, Same.refl _, fun j hj => absurd hj (Nat.not_lt_zero _)⟩ ?_ ?_ ?_ (fun σ H2 p => done σ H2 p.2.1 p.2.2)
          · rintro i σ H2 hi ⟨_, sH, _⟩
            rcases hJ with ⟨rfl, z⟩ | ⟨rfl, z⟩
            · exact ⟨xs, xs[i], (ExtN.same sH).sqL z, List.getElem?_eq_getElem hi⟩
            · exact ⟨xs, xs[i], (ExtN.same sH).sqT z, List.getElem?_eq_getElem hi⟩
          · rintro σ H2 ⟨_, sH, _⟩
            rcases hJ with ⟨rfl, z⟩ | ⟨rfl, z⟩
            · exact ⟨xs, (ExtN.same sH).sqL z, Nat.le_refl _⟩
            · exact ⟨xs, (ExtN.same sH).sqT z, rfl⟩
          · rintro i σ H2 y H' hi ⟨hσ, sH, hb⟩ hy
            rcases hJ with ⟨rfl, z⟩ | ⟨rfl, z⟩
            · obtain ⟨T, x, rfl, hT, rfl, hx⟩ := hy
              exact step i σ H2 x T _ hi sH (hx xs ((ExtN.same sH).sqL z)) hT rfl hb hσ
            · obtain ⟨T, x, rfl, hT, rfl, hx⟩ := hy
              exact step i σ H2 x T _ hi sH (hx xs ((ExtN.same sH).sqT z)) hT rfl hb hσ
        rcases hS1 with z | z
        · refine ⟨_, rfl, a, xs, rfl, .inl ⟨z, body _ (.inl ⟨rfl, z⟩) ?_ ?_ ⟨none, none, rfl⟩⟩⟩
          · rintro i σ H2 x T H' hi s2 hx hT eH hb hσ
            obtain ⟨y1, y2, rfl⟩ := hσ
            subst eH
            have s3 := same_upd (o := .tup [.int (i : Nat), x]) hT
            have hbi : ∃ b, bs[i]? = some b := ⟨bs[i]'(by rw [← hj.len]; exact hi), List.getElem?_eq_getElem _⟩
            obtain ⟨b, hb'⟩ := hbi
            have jx := ((hj.ext (ExtN.same ((s1.trans s2).trans s3))).at_ i x b hx hb')
            refine ⟨T, [.int (i : Nat), x], rfl, .inl (.inl upd_same), rfl, _, _, rfl, _, _, rfl, rfl, ?_⟩
            refine ⟨_, rfl, x, b, rfl, jx, fun H4 s4 => ⟨_, rfl, ?_⟩⟩
            cases b with
            | true =>
              refine iteF ⟨⟨_, _, rfl⟩, (s2.trans s3).trans s4, fun j hj' => ?_⟩
              by_cases e : j < i
              · exact hb j e
              · have e : j = i := by omega
                rw [e]
                exact hb'
            | false =>
              refine iteT ⟨_, rfl, _, rfl, .inr ⟨_, rfl, log_small i (by omega)⟩, fun d hd => ?_⟩
              exact q2 i hb' hb _ d ((((s1.trans s2).trans s3).trans s4).trans (same_upd hd)) upd_same
          · intro σ H3 s3 all
            refine q1 ?_ H3 (s1.trans s3)
            rw [List.all_eq_true]
            intro b hb
            obtain ⟨j, hj'⟩ := List.getElem?_of_mem hb
            have := all j (by rw [hj.len]; exact (List.getElem?_eq_some_iff.mp hj').1)
            rw [hj'] at this
            obtain rfl := Option.some.inj this
            rfl
        · refine ⟨_, rfl, a, xs, rfl, .inr ⟨z, body _ (.inr ⟨rfl, z⟩) ?_ ?_ ⟨none, none, rfl⟩⟩⟩
          · rintro i σ H2 x T H' hi s2 hx hT eH hb hσ
            obtain ⟨y1, y2, rfl⟩ := hσ
            subst eH
            have s3 := same_upd (o := .tup [.int (i : Nat), x]) hT
            have hbi : ∃ b, bs[i]? = some b := ⟨bs[i]'(by rw [← hj.len]; exact hi), List.getElem?_eq_getElem _⟩
            obtain ⟨b, hb'⟩ := hbi
            have jx := ((hj.ext (ExtN.same ((s1.trans s2).trans s3))).at_ i x b hx hb')
            refine ⟨T, [.int (i : Nat), x], rfl, .inl (.inl upd_same), rfl, _, _, rfl, _, _, rfl, rfl, ?_⟩
            refine ⟨_, rfl, x, b, rfl, jx, fun H4 s4 => ⟨_, rfl, ?_⟩⟩
            cases b with
            | true =>
              refine iteF ⟨⟨_, _, rfl⟩, (s2.trans s3).trans s4, fun j hj' => ?_⟩
              by_cases e : j < i
              · exact hb j e
              · have e : j = i := by omega
                rw [e]
                exact hb'
            | false =>
              refine iteT ⟨_, rfl, _, rfl, .inr ⟨_, rfl, log_small i (by omega)⟩, fun d hd => ?_⟩
              exact q2 i hb' hb _ d ((((s1.trans s2).trans s3).trans s4).trans (same_upd hd)) upd_same
          · intro σ H3 s3 all
            refine q1 ?_ H3 (s1.trans s3)
            rw [List.all_eq_true]
            intro b hb
            obtain ⟨j, hj'⟩ := List.getElem?_of_mem hb
            have := all j (by rw [hj.len]; exact (List.getElem?_eq_some_iff.mp hj').1)
            rw [hj'] at this
            obtain rfl := Option.some.inj this
            rfl
end
end Kw
set_option maxHeartbeats 4000000
namespace Kw
open PySem PySem.Spec PyProof.Rows L2 LamX
/-! ### == and != of an own class that has __eq__ and no __ne__ -/
section
variable {prog : Program} {w : World} {A : Around} {E : Value → Shared → Prop} {s : Shared} {K : PySem.W.Frag} {x C f : Addr} {ox : Obj} {od : Option Obj} {b tb : Value}
theorem rc_one {op : CmpOp} {Q : Value → Shared → Prop} (hu : A.units < cLine) (X : K.In s.heap) (I : PySem.W.InstAt s.heap x ox C od) (hb : PySem.W.Looks (model prog w) s.heap (typeOf b) tb) (hn : PySem.W.notFirst K C tb = true)
    (one : wpAny (model prog w) A (tryCompare (.ref x) (cmpInfo op).2.1 b) (fun r s' => ∃ v, r = some v ∧ Q v s') E s) : wpAny (model prog w) A (richCompare op (.ref x) b) Q E s := by
  unfold richCompare
  simp only [oneThing_ref]
  refine wpAny_holding (wpAny_bind (wpAny_cRoomFor hu (wpAny_bind (I.type.here (wpAny_bind (hb.here ?_))))))
  split
  · rename_i q
    have e : PySem.W.subIn K tb (.ref C) = some false := by
      rcases Bool.or_eq_true_iff.mp hn with e | e
      · rw [beq_iff_eq.mp e] at q; simp at q
      · exact beq_iff_eq.mp e
    refine wpAny_bind ((PySem.W.looks_subIn X e).here ?_)
    simp only [Bool.false_eq_true, if_false]
    refine wpAny_bind (wpAny_mono one (fun r s' z => ?_) fun _ _ e => e)
    obtain ⟨v, rfl, hq⟩ := z
    exact wpAny_pure hq
  · refine wpAny_bind (wpAny_pure ?_)
    simp only [Bool.false_eq_true, if_false]
    refine wpAny_bind (wpAny_mono one (fun r s' z => ?_) fun _ _ e => e)
    obtain ⟨v, rfl, hq⟩ := z
    exact wpAny_pure hq
/-- x == b -/
theorem rc_eqOwn {Q : Value → Shared → Prop} (hu : A.units < cLine) (X : K.In s.heap) (I : PySem.W.InstAt s.heap x ox C od) (hb : PySem.W.Looks (model prog w) s.heap (typeOf b) tb) (hn : PySem.W.notFirst K C tb = true)
    (hs : PySem.W.findIn K (.ref C) "__eq__" = some (some (.ref f))) (hf : PySem.W.isFn K (.ref f) = true) (h : wpAny (model prog w) A (call (.ref f) [.ref x, b]) (fun v s' => ∃ r, v = .bool r ∧ Q (.bool r) s') E s) :
    wpAny (model prog w) A (richCompare .Eq (.ref x) b) Q E s := by
  refine rc_one (op := .Eq) hu X I hb hn ?_
  unfold tryCompare
  refine wpAny_bind (PySem.W.ifBound_K X I hs hf (wpAny_mono h (fun v s' hv => ?_) fun _ _ e => e))
  obtain ⟨r, rfl, q⟩ := hv
  exact wpAny_pure ⟨_, rfl, q⟩
theorem ifBound_ne {args : List Value} {Q : Option Value → Shared → Prop} (X : K.In s.heap) (I : PySem.W.InstAt s.heap x ox C od) (hne : PySem.W.findIn K (.ref C) "__ne__" = some (some (.builtin "object.__ne__")))
    (h : wpAny (model prog w) A (call (.builtin "object.__ne__") (.ref x :: args)) (fun v => Q (some v)) E s) : wpAny (model prog w) A (callSpecialIfBound? (.ref x) "__ne__" args) Q E s := by
  simp only [callSpecialIfBound?, bindSpecialIfBound?]
  refine wpAny_holding (wpAny_bind (wpAny_bind (wpAny_bind (I.type.here ((PySem.W.looks_findIn X hne).here ?_)))))
  have go : wpAny (model prog w) A (call (.builtin "object.__ne__") ([.ref x] ++ args) >>= fun v => pure (some v)) Q E s := wpAny_bind (wpAny_mono h (fun v s' q => wpAny_pure q) fun _ _ e => e)
  refine wpAny_bind (wpAny_askSetting (wpAny_ite ?_))
  split
  · exact wpAny_bind (wpAny_of_eq (F.cmp_object.ne.bind _) (wpAny_pure (by exact go)))
  · exact wpAny_tryCatch (wpAny_bind (wpAny_of_eq (F.cmp_object.ne.bind _) (wpAny_pure (by exact go))))
/-- x != b -/
theorem rc_neOwn {Q : Value → Shared → Prop} (hu : A.units + 1 < cLine) (X : K.In s.heap) (I : PySem.W.InstAt s.heap x ox C od) (hb : PySem.W.Looks (model prog w) s.heap (typeOf b) tb) (hn : PySem.W.notFirst K C tb = true)
    (hs : PySem.W.findIn K (.ref C) "__eq__" = some (some (.ref f))) (hf : PySem.W.isFn K (.ref f) = true) (hne : PySem.W.findIn K (.ref C) "__ne__" = some (some (.builtin "object.__ne__"))) (hm : PySem.W.mroIn K C (.type "object") = some true)
    (h : wpAny (model prog w) A.in1 (call (.ref f) [.ref x, b]) (fun v s' => ∃ r, v = .bool r ∧ Q (.bool (!r)) s') E s) : wpAny (model prog w) A (richCompare .NotEq (.ref x) b) Q E s := by
  refine rc_one (op := .NotEq) (by omega) X I hb hn ?_
  have entry : wpAny (model prog w) A.in1 (Builtin.«object.__ne__» ⟨[.ref x, b], []⟩) (fun fin s' => ∃ v, fin = .done (.ret v) ∧ ∃ r, v = .bool (!r) ∧ Q (.bool (!r)) s') E s := by
    unfold Builtin.«object.__ne__»
    refine wpAny_bind (wpAny_of_eq (show slotArgs "__ne__" 1 ⟨[.ref x, b], []⟩ = pure (.ref x, [b]) from rfl) ?_)
    refine wpAny_bind (wpAny_cRoomFor (show A.units + 1 < cLine from hu) ?_)
    refine wpAny_bind (PySem.W.ifBound_K X I hs hf (wpAny_mono h (fun v s' hv => ?_) fun _ _ e => e))
    obtain ⟨r, rfl, q⟩ := hv
    refine wpAny_bind (wpAny_truthy_bool ?_)
    exact wpAny_pure ⟨_, rfl, r, rfl, q⟩
  have callNe : wpAny (model prog w) A (call (.builtin "object.__ne__") [.ref x, b]) (fun v s' => ∃ r, v = .bool (!r) ∧ Q (.bool (!r)) s') E s :=
    wpAny_call (codeAny_call_builtin F.cmp_object.ne.plain F.cmpEntry_ne (PySem.W.check_slot F.cmpKind_ne F.cmpSplit_ne (I.type.andThen (PySem.W.looks_mroIn X hm)) (F.cmpArgs_ne _ _) (wpAny_mono entry (fun fin s' hv => by
      obtain ⟨v, rfl, q⟩ := hv
      exact q) fun _ _ e => e)))
  unfold tryCompare
  refine wpAny_bind (ifBound_ne X I hne (wpAny_mono callNe (fun v s' hv => ?_) fun _ _ e => e))
  obtain ⟨r, rfl, q⟩ := hv
  exact wpAny_pure ⟨_, rfl, q⟩
end
end Kw
set_option maxHeartbeats 4000000
namespace Kw
open PySem PySem.Spec PyProof.Rows L2 LamX
/-- the type of an instance, or of a tuple -/
inductive KO (K : PySem.W.Frag) (H : Hp) : V → Value → Prop
  | ins {b C dy : Addr} {gs : List (Str × V)} : H b = some (.ins C dy gs) → KO K H (.ref b) (.ref C)
  | tup {b : Addr} {xs : List V} : SqT K H b xs → KO K H (.ref b) (.type "tuple")
section
variable {X : Cx} {CX : CXT} {n : Nat} {C f : Addr} {fd : FuncData} {ps : List Str} {sp : Sp} {E : XK}
theorem looks_ko {pins : List (Addr × Obj)} {σ : L2.St} {H : Hp} {s : Shared} {y : V} {u tb : Value} (I : Inv X pins σ H s) (r : RelV y u) (h : KO X.K H y tb) : PySem.W.Looks (model X.prog X.w) s.heap (typeOf u) tb := by
  cases h with
  | ins e =>
    cases r
    obtain ⟨mB, J, _⟩ := ins_get I.hok e
    obtain ⟨od, J, _⟩ := J.look
    exact J.type
  | tup t =>
    cases r
    obtain ⟨its, rv, ⟨o, ho, hc, _⟩, _⟩ := I.tuple t
    exact fun A Q E s k q => wpAny_typeOf_ref (k _ _ ho) (hc.symm ▸ q)
/-- the own method at f called at the instance, from A -/
theorem run_at {A : Around} {pins : List (Addr × Obj)} {σ : L2.St} {H : Hp} {s : Shared} {x y : V} {u v : Value} {Q : V → Hp → Prop} (F : FnOk X.prog X.w X.K X.mg X.base CX n f fd ps sp) (hb : Binds X.K fd ps []) (hx : Passes CX X E) (hA : A.frames = X.A.frames) (hr : Room n A)
    (I : Inv X pins σ H s) (ru : RelV x u) (rv : RelV y v) (h : sp [x, y] H Q E) : wpAny (model X.prog X.w) A (call (.ref f) [u, v]) (EP X pins σ Q) X.xe s := by
  have e0 : Env0 X.prog X.w X.K X.mg X.base A X.stack s H := by
    have e := I.env0
    exact ⟨by rw [hA]; exact e.frames, e.mod, e.bs, e.bsz, e.funs, e.frf, e.hok, e.bare⟩
  have hl := F.len _ _ _ _ h
  refine wpAny_call (codeAny_mono (F.run A X.stack s H ⟨[u, v], []⟩ [u, v] [x, y] Q E hr e0 (by
    have q := hb s [u, v] I.kIn (by simpa using hl)
    simpa using q) (.cons ru (.cons rv .nil)) h) fun r s' hq => ?_)
  cases r with
  | error e => exact hx pins σ H s e s' I hq
  | ok fl =>
    cases fl with
    | ret w => exact I.after hq
    | next => exact False.elim hq
    | brk => exact False.elim hq
    | cont => exact False.elim hq
/-- x == y by the own __eq__ of x's class -/
def rOwn (K : PySem.W.Frag) (C : Addr) (sp : Sp) (E : XK) (g : Bool → Bool) : R2 := fun x y H Q => ∃ a dx fs tb, x = .ref a ∧ H a = some (.ins C dx fs) ∧ KO K H y tb ∧ PySem.W.notFirst K C tb = true ∧ sp [x, y] H (fun v H' => ∃ r, v = .bl r ∧ Q (.bl (g r)) H') E
theorem op_eqO (F : FnOk X.prog X.w X.K X.mg X.base CX n f fd ps sp) (hr : Room n X.A) (hs : PySem.W.findIn X.K (.ref C) "__eq__" = some (some (.ref f))) (hf : PySem.W.isFn X.K (.ref f) = true) (hb : Binds X.K fd ps []) (hx : Passes CX X E) :
    OpR X (compareOp .Eq) (rOwn X.K C sp E id) := by
  intro pins s σ H x y v u Q I rx ry h
  obtain ⟨a, dx, fs, tb, rfl, ha, ko, nf, hsp⟩ := h
  obtain rfl : v = Value.ref a := rx
  obtain ⟨mA, J, _⟩ := ins_get I.hok ha
  obtain ⟨od, J, _⟩ := J.look
  show wpAny _ _ (richCompare .Eq (.ref a) u) _ _ _
  refine rc_eqOwn hr.units0 I.kIn J (looks_ko I ry ko) nf hs hf (wpAny_mono (run_at (x := .ref a) F hb hx rfl hr I rfl ry hsp) (fun w s' q => ?_) fun _ _ z => z)
  obtain ⟨z, H', I', rz, r, rfl, q⟩ := q
  cases rz
  exact ⟨r, rfl, .bl r, H', I', rfl, q⟩
theorem op_neO (F : FnOk X.prog X.w X.K X.mg X.base CX n f fd ps sp) (hr : Room (n + 1) X.A) (hs : PySem.W.findIn X.K (.ref C) "__eq__" = some (some (.ref f))) (hf : PySem.W.isFn X.K (.ref f) = true) (hne : PySem.W.findIn X.K (.ref C) "__ne__" = some (some (.builtin "object.__ne__"))) (hm : PySem.W.mroIn X.K C (.type "object") = some true)
    (hb : Binds X.K fd ps []) (hx : Passes CX X E) : OpR X (compareOp .NotEq) (rOwn X.K C sp E not) := by
  intro pins s σ H x y v u Q I rx ry h
  obtain ⟨a, dx, fs, tb, rfl, ha, ko, nf, hsp⟩ := h
  obtain rfl : v = Value.ref a := rx
  obtain ⟨mA, J, _⟩ := ins_get I.hok ha
  obtain ⟨od, J, _⟩ := J.look
  show wpAny _ _ (richCompare .NotEq (.ref a) u) _ _ _
  refine rc_neOwn (by have := hr.un; omega) I.kIn J (looks_ko I ry ko) nf hs hf hne hm (wpAny_mono (run_at (x := .ref a) F hb hx rfl hr.in1 I rfl ry hsp) (fun w s' q => ?_) fun _ _ z => z)
  obtain ⟨z, H', I', rz, r, rfl, q⟩ := q
  cases rz
  exact ⟨r, rfl, .bl (!r), H', I', rfl, q⟩
/-- y in x by the own __contains__ of x's class -/
def rOwnIn (C : Addr) (sp : Sp) (E : XK) : R2 := fun y x H Q => ∃ a dx fs, x = .ref a ∧ H a = some (.ins C dx fs) ∧ sp [x, y] H (fun v H' => ∃ r, v = .bl r ∧ Q (.bl r) H') E
theorem op_inO (F : FnOk X.prog X.w X.K X.mg X.base CX n f fd ps sp) (hr : Room n X.A) (hs : PySem.W.findIn X.K (.ref C) "__contains__" = some (some (.ref f))) (hf : PySem.W.isFn X.K (.ref f) = true) (hb : Binds X.K fd ps []) (hx : Passes CX X E) :
    OpR X (compareOp .In) (rOwnIn C sp E) := by
  intro pins s σ H y x u v Q I ry rx h
  obtain ⟨a, dx, fs, rfl, ha, hsp⟩ := h
  obtain rfl : v = Value.ref a := rx
  obtain ⟨mA, J, _⟩ := ins_get I.hok ha
  obtain ⟨od, J, _⟩ := J.look
  obtain ⟨m, hF⟩ := I.fr
  refine PySem.W.in_K hF I.ok.mod.kin J hs hf (wpAny_mono (run_at (x := .ref a) F hb hx rfl hr I rfl ry hsp) (fun w s' q => ?_) fun _ _ z => z)
  obtain ⟨z, H', I', rz, r, rfl, q⟩ := q
  cases rz
  exact wpAny_truthy_bool ⟨.bl r, H', I', rfl, q⟩
end
end Kw
set_option maxHeartbeats 4000000
namespace Kw
open PySem PySem.Spec PyProof.Rows L2 LamX
abbrev sInit : Stmt := L2.inClass (top 27) 0
abbrev sGet : Stmt := L2.inClass (top 27) 1
abbrev sHasR : Stmt := L2.inClass (top 27) 2
abbrev sEqR : Stmt := L2.inClass (top 27) 3
/-- a def with any defaults -/
structure FunV (K : PySem.W.Frag) (x qual : Str) (st : Stmt) (f : Addr) (fd : FuncData) : Prop where
  ex : ∃ (oc : Value) (od : Option Addr) (dV kV doc pm : Value) (an : Option Addr) (cdv ct : Value) (osl : Array (Option Value)),
    fd = PySem.W.fnOf x qual (defArgs st) (defBody st) (defScope st) dV kV doc pm an cdv ct ∧ K.lookup f = some ⟨oc, od, .func fd, osl⟩ ∧ PySem.W.codeIn K cdv qual = true
section
variable {P : Program} {w : World} {K : PySem.W.Frag} {mg : Str → Option Value} {base : Heap}
theorem FunV.okX {x qual : Str} {st : Stmt} {f : Addr} {fd : FuncData} {N ps : List Str} {k : Nat} {sp : Sp} (F : FunV K x qual st f fd) (S : FnScope N ps (defScope st)) (len : ∀ vs H Q E, sp vs H Q E → vs.length = ps.length)
    (body : ∀ (cdv : Value) (A : Around) (outer : List Env) (s : Shared) (H : Hp) (vs : List V) (Q : VK) (E : XK), Room k (A.deeper (envOfC qual (defScope st) s.heap.objs.size f cdv)) → sp vs H Q E →
      ∃ t, PSs (cxOf (L2.CX P w) P w K mg base N qual (defScope st) f cdv A outer s H E) (defBody st) t ∧ t { nx := fun _ H' => Q .non H', rt := Q } (L2.start N vs) H) : FnOk P w K mg base (L2.CX P w) (k + 1) f fd ps sp := by
  obtain ⟨oc, od, dV, kV, doc, pm, an, cdv, ct, osl, rfl, lk, hcd⟩ := F.ex
  exact fn_of lk hcd S len fun A outer s H vs Q E hr hsp => body cdv A outer s H vs Q E hr hsp
/-- a Range with that normal form -/
def IsR (K : PySem.W.Frag) (CR : Addr) (H : Hp) (x : V) (nf : List Str2) : Prop := ∃ a dx t zs, x = .ref a ∧ H a = some (.ins CR dx [(("_stretches" : Str), .ref t)]) ∧ SqT K H t zs ∧ Strs K H zs nf
theorem IsR.ext {K : PySem.W.Frag} {CR : Addr} {H H' : Hp} {x : V} {nf : List Str2} (h : IsR K CR H x nf) (e : ExtN H H') : IsR K CR H' x nf := by
  obtain ⟨a, dx, t, zs, rfl, h1, h2, h3⟩ := h
  exact ⟨a, dx, t, zs, rfl, e _ _ h1 (fun ps z => nomatch z), e.sqT h2, e.strs h3⟩
/-- all but a stay, tables aside -/
def ExtA (a : Addr) (H H' : Hp) : Prop := ∀ b o, b ≠ a → H b = some o → (∀ ps, o ≠ .tbl ps) → H' b = some o
def spInit (K : PySem.W.Frag) (T : List (Addr × Str)) (CR CE : Addr) : Sp := fun vs H Q E => ∃ (a dx : Addr) (x : V), vs = [.ref a, x] ∧ H a = some (.ins CR dx []) ∧ Tabs T H ∧
  ((∃ T', NoLT H x T' ∧ XAt E CE .non H) ∨ ∃ l xs, x = .ref l ∧ SqLT K H l xs ∧ xs.length ≤ 1000 ∧ ((40 < xs.length ∧ XAt E CE .non H) ∨
    (xs.length ≤ 40 ∧ ∃ bs, Judged K H xs bs ∧ (∀ i : Nat, bs[i]? = some false → (∀ j, j < i → bs[j]? = some true) → XAt E CE (.int (i : Int)) H) ∧
      (bs.all id = true → ∃ ss, Strs K H xs ss ∧ ∀ (H' : Hp) (ss' : List Str2), ExtA a H H' → Tabs T H' → IsR K CR H' (.ref a) (ss'.foldl nfAdd []) → ss'.Perm ss → ss'.Pairwise (fun p q => ¬ ltV q.1 p.1) → Q .non H'))))
theorem scInit : FnScope ["self", "stretches"] ["self", "stretches"] (defScope sInit) := ⟨rfl, rfl, rfl, by decide +kernel, rfl, by decide +kernel, by decide +kernel⟩
theorem ok_init {f CR CE CN : Addr} {fd : FuncData} {k : Nat} {T : List (Addr × Str)} (F : FunV K "__init__" "Range.__init__" sInit f fd) (mi : mg "isinstance" = none) (gN : mg "Normal" = some (.ref CN)) (cR : Cls K CR) (nR : NoAttr K CR "_stretches")
    (no : ∀ T ∈ ["NoneType", "bool", "int", "str", "dict", "list", "tuple"], PySem.W.kitOne K (.type T) (.ref CN) = some false) (DC : DefX P w K mg base "check_stretches" k ["stretches"] (spChkS K CE)) (DN : Def P w K mg base "normal_form" CX0 k ["stretches"] (spNF K T)) :
    FnOk P w K mg base (L2.CX P w) (k + 1) f fd ["self", "stretches"] (spInit K T CR CE) := by
  refine F.okX scInit (fun vs H Q E h => ?_) (fun cdv A outer s H vs Q E hr h => ?_)
  · obtain ⟨a, dx, x, rfl, _⟩ := h
    rfl
  · obtain ⟨a, dx, x, rfl, ha, hT, h⟩ := h
    refine ⟨_, pss_one (ps_if (pt_val (pe_callB call_isi (by rfl) mi (by decide +kernel) (pa_cons (pv 1) (pa_cons (pe_glob (v := .ref CN) (by rfl) gN rfl) pa_nil)))) (pss_one (ps_fld (pv 0) (pe_fld (pv 1) rfl) rfl))
      (pss_cons (ps_expr (pe_dX DC hr (takes_of rfl rfl rfl rfl) (pa_cons (pv 1) pa_nil))) (pss_one (ps_fld (pv 0) (pe_d DN hr (pa_cons (pv 1) pa_nil)) rfl)))), ?_⟩
    rcases h with ⟨T', hx, q⟩ | ⟨l, xs, rfl, hS, hl, h⟩
    · have hk : PySem.W.kitOne K (.type T') (.ref CN) = some false := by
        cases hx with
        | flat f => cases f <;> exact no _ (by simp)
        | dct e => exact no _ (by simp)
      exact ⟨_, rfl, x, .ref CN, .type T', .ref CN, false, rfl, .own _, hx.oth.ty, hk, _, rfl, iteF ⟨_, rfl, x, rfl, .inl ⟨T', hx, q⟩⟩⟩
    · have hk : ∃ T', Ty K H (.ref l) T' ∧ PySem.W.kitOne K (.type T') (.ref CN) = some false := by
        rcases hS with h | h
        · exact ⟨_, ty_lst h, no _ (by simp)⟩
        · exact ⟨_, ty_tup h, no _ (by simp)⟩
      obtain ⟨T', ty, hk⟩ := hk
      refine ⟨_, rfl, .ref l, .ref CN, .type T', .ref CN, false, rfl, .own _, ty, hk, _, rfl, iteF ⟨_, rfl, .ref l, rfl, .inr ⟨l, xs, rfl, hS, hl, ?_⟩⟩⟩
      rcases h with ⟨h1, q⟩ | ⟨h1, bs, hj, q1, q2⟩
      · exact .inl ⟨h1, q⟩
      · refine .inr ⟨h1, bs, hj, fun all H1 s1 => ?_, q1⟩
        obtain ⟨ss, hss, q⟩ := q2 all
        refine ⟨_, rfl, l, xs, ss, rfl, hT.ext s1, hS.ext (ExtN.same s1), hss.same s1, by rw [← hss.len]; omega, fun H2 D zs ss' e2 T2 hD pm pw hz => ?_⟩
        have ha2 : H2 a = some (.ins CR dx []) := e2 _ _ (s1 _ _ ha) fun ps z => nomatch z
        refine ⟨_, rfl, a, CR, dx, [], rfl, ha2, cR, nR, by simp, ?_⟩
        have hFr : Fr1 a H2 (upd H2 a (.ins CR dx [(("_stretches" : Str), .ref D)])) := Fr1.put
        have nA : ∀ {b : Addr} {o : HO}, H2 b = some o → (∀ fs, o ≠ .ins CR dx fs) → b ≠ a := fun {b o} e n z => by
          rw [z, ha2] at e
          exact n _ (Option.some.inj e).symm
        have kT : ∀ {b : Addr} {ys : List V}, SqT K H2 b ys → SqT K (upd H2 a (.ins CR dx [(("_stretches" : Str), .ref D)])) b ys := fun {b ys} t => by
          rcases t with (t | ⟨o, t⟩) | t
          · exact .inl (.inl (hFr _ _ (nA t fun fs z => nomatch z) t))
          · exact .inl (.inr ⟨o, hFr _ _ (nA t fun fs z => nomatch z) t⟩)
          · exact .inr t
        have kV : ∀ {x : V} {v : Ver}, IsVer K H2 x v → IsVer K (upd H2 a (.ins CR dx [(("_stretches" : Str), .ref D)])) x v := fun {x v} ⟨b, e, t⟩ => ⟨b, e, kT t⟩
        have kE : ∀ {x : V} {v : Option Ver}, IsEnd K H2 x v → IsEnd K (upd H2 a (.ins CR dx [(("_stretches" : Str), .ref D)])) x v := fun {x v} t => by
          cases v with
          | none => exact t
          | some u => exact kV t
        refine q _ ss' (fun b o nb e n => ?_) (fun p hp => ?_) ⟨a, dx, D, zs, rfl, upd_same, kT (.inl (.inl hD)), ⟨hz.len, fun i x st p q => ?_⟩⟩ pm pw
        · exact hFr _ _ nb (e2 _ _ (s1 _ _ e) n)
        · obtain ⟨tb, h1, h2, h3⟩ := T2 p hp
          refine ⟨tb, hFr _ _ (nA h1 fun fs z => nomatch z) h1, h2, fun pos cv hc => ?_⟩
          obtain ⟨c, e1, e3⟩ := h3 pos cv hc
          exact ⟨c, e1, hFr _ _ (nA e3 fun fs z => by unfold CodeO at z; cases z) e3⟩
        · obtain ⟨p', lo, hh, e, t, t1, t2⟩ := hz.at_ i x st p q
          exact ⟨p', lo, hh, e, kT t, kV t1, kE t2⟩
end
end Kw
set_option maxHeartbeats 4000000
namespace Kw
open PySem PySem.Spec PyProof.Rows L2 LamX
/-! ### normal forms as data -/
def verD (v : Ver) : PyData := .tuple ((vl v).map PyData.int)
def endD : Option Ver → PyData
  | none => .none
  | some u => verD u
def strD (s : Str2) : PyData := .tuple [verD s.1, endD s.2]
def nfD (ss : List Str2) : PyData := .tuple (ss.map strD)
theorem dp_ver {K : PySem.W.Frag} {H : Hp} {x : V} {v : Ver} (h : IsVer K H x v) : Dp K H x (verD v) := by
  obtain ⟨a, rfl, t⟩ := h
  exact .tup t (dp_ints _)
theorem dp_end {K : PySem.W.Frag} {H : Hp} {x : V} {e : Option Ver} (h : IsEnd K H x e) : Dp K H x (endD e) := by
  cases e with
  | none =>
    obtain rfl : x = .non := h
    exact .non
  | some u => exact dp_ver h
theorem dp_str {K : PySem.W.Frag} {H : Hp} {x : V} {s : Str2} (h : IsStr K H x s) : Dp K H x (strD s) := by
  obtain ⟨p, l, hh, rfl, t, t1, t2⟩ := h
  exact .tup t (.cons (dp_ver t1) (.cons (dp_end t2) .nil))
theorem dp_strs' {K : PySem.W.Frag} {H : Hp} : ∀ {xs : List V} {ss : List Str2}, Strs K H xs ss → DpAll K H xs (ss.map strD)
  | [], [], _ => .nil
  | [], s :: ss, h => by have := h.len; simp at this
  | x :: xs, [], h => by have := h.len; simp at this
  | x :: xs, s :: ss, h => .cons (dp_str (h.at_ 0 x s rfl rfl)) (dp_strs' ⟨by have := h.len; simpa using this, fun i y t a b => h.at_ (i + 1) y t (by simpa using a) (by simpa using b)⟩)
theorem dp_nf {K : PySem.W.Frag} {H : Hp} {t : Addr} {zs : List V} {ss : List Str2} (h : SqT K H t zs) (hz : Strs K H zs ss) : Dp K H (.ref t) (nfD ss) := .tup h (dp_strs' hz)
theorem cl_ver (v : Ver) : (verD v).canLay0 = true ∧ (verD v).depth = 1 := by simp [verD, PyData.canLay0, PyData.canLayAll0, PyData.depth, PyData.depthAll]
theorem cl_end (e : Option Ver) : (endD e).canLay0 = true ∧ (endD e).depth ≤ 1 := by
  cases e with
  | none => simp [endD, PyData.canLay0, PyData.depth]
  | some u => exact ⟨(cl_ver u).1, Nat.le_of_eq (cl_ver u).2⟩
theorem cl_str (s : Str2) : (strD s).canLay0 = true ∧ (strD s).depth ≤ 2 := by
  have h1 := cl_ver s.1
  have h2 := cl_end s.2
  refine ⟨by simp [strD, PyData.canLay0, PyData.canLayAll0, h1.1, h2.1], ?_⟩
  simp only [strD, PyData.depth, PyData.depthAll, h1.2]
  omega
theorem cl_all : ∀ ss : List Str2, PyData.canLayAll0 (ss.map strD) = true ∧ PyData.depthAll (ss.map strD) ≤ 2
  | [] => by simp [PyData.canLayAll0, PyData.depthAll]
  | s :: ss => by
    have h1 := cl_str s
    have h2 := cl_all ss
    refine ⟨by simp [PyData.canLayAll0, h1.1, h2.1], ?_⟩
    simp only [List.map_cons, PyData.depthAll]
    omega
theorem cl_nf (ss : List Str2) : (nfD ss).canLay0 = true ∧ (nfD ss).depth ≤ 3 := by
  have h := cl_all ss
  refine ⟨by simp [nfD, PyData.canLay0, h.1], ?_⟩
  simp only [nfD, PyData.depth]
  omega
theorem shaped_nf (ss : List Str2) : SeqAt.shaped (nfD ss) = true := by
  have h := cl_nf ss
  simp only [SeqAt.shaped, h.1, Bool.true_and]
  exact decide_eq_true (by omega)
theorem eqv_nf (ss : List Str2) : PyData.eqv (nfD ss) (nfD ss) = true := PySem.SeqAt.eqv_refl _ (cl_nf ss).1
/-! ### the methods of Range -/
def spHasR (K : PySem.W.Frag) (CR : Addr) : Sp := fun vs H Q _ => ∃ (x y : V) (nf : List Str2), vs = [x, y] ∧ IsR K CR H x nf ∧ nf.length ≤ 100 ∧ ((∃ v, IsVer K H y v ∧ okV v ∧ ∀ H', Same H H' → Q (.bl (hasL nf v)) H') ∨ (VerB K H y false ∧ ∀ H', Same H H' → Q (.bl false) H'))
def spEqR (K : PySem.W.Frag) (CR : Addr) : Sp := fun vs H Q _ => ∃ (x y : V), vs = [x, y] ∧ ((∃ nf, IsR K CR H x nf ∧ IsR K CR H y nf ∧ Q (.bl true) H) ∨ (∃ a xs, y = .ref a ∧ SqT K H a xs ∧ Q (.bl false) H))
def spGetR (K : PySem.W.Frag) (CR : Addr) : Sp := fun vs H Q _ => ∃ (x : V) (nf : List Str2), vs = [x] ∧ IsR K CR H x nf ∧ ∀ t zs, SqT K H t zs → Strs K H zs nf → Q (.ref t) H
section
variable {P : Program} {w : World} {K : PySem.W.Frag} {mg : Str → Option Value} {base : Heap}
theorem scHasR : FnScope ["self", "x", "low", "high"] ["self", "x"] (defScope sHasR) := ⟨rfl, rfl, rfl, by decide +kernel, rfl, by decide +kernel, by decide +kernel⟩
theorem scEqR : FnScope ["self", "other"] ["self", "other"] (defScope sEqR) := ⟨rfl, rfl, rfl, by decide +kernel, rfl, by decide +kernel, by decide +kernel⟩
theorem scGetR : FnScope ["self"] ["self"] (defScope sGet) := ⟨rfl, rfl, rfl, by decide +kernel, rfl, by decide +kernel, by decide +kernel⟩
theorem ok_getR {f CR : Addr} {fd : FuncData} {k : Nat} (F : FunV K "stretches" "Range.stretches" sGet f fd) (cR : Cls K CR) (nR : NoAttr K CR "_stretches") : FnOk P w K mg base CX0 (k + 1) f fd ["self"] (spGetR K CR) := by
  obtain ⟨oc, od, dV, kV, doc, pm, an, cdv, ct, osl, rfl, lk, hcd⟩ := F.ex
  refine (fn_getter (C := CR) (f := "_stretches") lk hcd scGetR rfl rfl cR nR).imp fun vs H Q E h => ?_
  obtain ⟨x, nf, rfl, ⟨a, dx, t, zs, rfl, ha, ht, hz⟩, q⟩ := h
  exact ⟨a, dx, _, .ref t, rfl, ha, by simp [List.lookup], q t zs ht hz⟩
theorem ok_hasR {f CR : Addr} {fd : FuncData} {k : Nat} (F : Fun K "__contains__" "Range.__contains__" sHasR f fd) (ma : mg "any" = none) (cR : Cls K CR) (nR : NoAttr K CR "_stretches") (DV : Def P w K mg base "is_version" CX0 k ["value"] (spVerB K)) :
    FnOk P w K mg base CX0 (k + 1) f fd ["self", "x"] (spHasR K CR) := by
  refine F.ok scHasR (fun vs H Q E h => ?_) (fun cdv A outer s H vs Q E hr h => ?_)
  · obtain ⟨x, y, nf, rfl, _⟩ := h
    rfl
  · obtain ⟨x, y, nf, rfl, ⟨a, dx, t, zs, rfl, ha, ht, hz⟩, hlen, h⟩ := h
    refine ⟨_, pss_one (ps_ret (pe_and (pe_d DV hr (pa_cons (pv 1) pa_nil)) (pe_one (pe_callB (cr_any rfl) (by rfl) ma (by decide +kernel) (pa_cons (pe_lc (own := [("low", 2), ("high", 3)]) (g := gTup K 2 (gCons (gName 2) (gCons (gName 3) gNil))) (tt := tYes) (te := tAndV (tOp (rVer K .LtE) (tVar 2) (tVar 1)) (tOrV (tOp (fun x y H Q => y = .non ∧ Q (.bl (decide (x = .non))) H) (tVar 3) (tC .non)) (tOp (rVer K .Lt) (tVar 1) (tVar 3)))) rfl scHasR.nd (pi_tup (pe_fld (pv 0) rfl)) (blkOk_by (N := ["self", "x", "low", "high"]) (sc := defScope sHasR) (by decide +kernel))
        (fun _ _ _ _ _ => pg_tup rfl (pgs_cons (pg_name (i := 2) scHasR.nd rfl (.inl rfl)) (pgs_cons (pg_name (i := 3) scHasR.nd rfl (.inl rfl)) pgs_nil))) (fun _ _ _ _ _ => pts_nil)
        (fun _ _ _ _ _ => pe_and (pe_cmpR (op_ver (op := .LtE) (.inr (.inl rfl)) hr.units0) (pv 2) (pv 1) (nomark _)) (pe_one (pe_or (pe_cmpR op_isN (pv 3) pe_non (nomark _)) (pe_one (pe_cmpR (op_ver (op := .Lt) (.inl rfl) hr.units0) (pv 1) (pv 3) (nomark _))))))) pa_nil))))), ?_⟩
    rcases h with ⟨v, hv, ov, q⟩ | ⟨hb, q⟩
    · refine ⟨_, rfl, y, true, rfl, .of hv ov, fun H1 s1 => ⟨_, rfl, iteT ?_⟩⟩
      have ht1 := Same.sqT s1 ht
      refine ⟨_, rfl, a, CR, dx, _, .ref t, rfl, s1 _ _ ha, cR, nR, by simp [List.lookup], t, rfl, ⟨_, ht1⟩, fun D hD => ?_⟩
      refine lc_tup (K := K) (a := t) (xs := zs) (fun i H' => Same H1 H' ∧ H' D = some (.lst (((nf.take i).map fun s => hasS s v).map V.bl))) ⟨same_upd hD, upd_same⟩ (fun i H' _ R => Same.sqT R.1 ht1) ?_ ?_
      · rintro i z H' hi ⟨s2, h1⟩
        obtain ⟨st, hst, p, lo, hh, rfl, g1, g2, g3⟩ := (hz.same (s1.trans s2)).get hi
        have hil := (List.getElem?_eq_some_iff.mp hst).1
        have hv2 := hv.same (s1.trans s2)
        have fin : ∀ b : Bool, b = hasS st v → ∃ acc, H' D = some (.lst acc) ∧ acc.length < sizeLine ∧ Same H1 (upd H' D (.lst (acc ++ [V.bl b]))) ∧ (upd H' D (.lst (acc ++ [V.bl b]))) D = some (.lst (((nf.take (i + 1)).map fun s => hasS s v).map V.bl)) := fun b eb => by
          refine ⟨_, h1, ?_, fun b o y => by rw [upd_ne (ne_of_none y hD)]; exact s2 _ _ y, ?_⟩
          · rw [List.length_map, List.length_map, List.length_take]
            exact Nat.lt_of_le_of_lt (Nat.min_le_left _ _) (small1000 (by omega))
          · rw [upd_same, take_snoc hst, eb]
            simp
        refine ⟨p, [lo, hh], rfl, g1, rfl, lo, [hh], rfl, hh, [], rfl, rfl, rfl, yesI ?_⟩
        refine ⟨_, rfl, _, rfl, st.1, v, g2, hv2, _, rfl, ite2 (fun e => ?_) (fun e => ?_)⟩
        · have e1 : leV st.1 v := of_decide_eq_true e
          refine ⟨_, rfl, rfl, _, rfl, ?_⟩
          rw [isEnd_non g3]
          obtain ⟨s1', s2'⟩ := st
          cases s2' with
          | none => exact iteT (fin true (by simp [hasS, e1]))
          | some u => exact iteF ⟨_, rfl, _, rfl, v, u, hv2, g3, fin _ (by simp [hasS, e1, cmpV])⟩
        · have e1 : ¬ leV st.1 v := fun c => e (decide_eq_true c)
          exact fin false (by simp [hasS, e1])
      · rintro H' ⟨s2, h1⟩
        rw [List.take_of_length_le (by rw [hz.len]; exact Nat.le_refl _)] at h1
        refine ⟨D, nf.map fun s => hasS s v, rfl, SqL.of h1, ?_⟩
        have := q H' (s1.trans s2)
        simpa [hasL, List.any_map] using this
    · exact ⟨_, rfl, y, false, rfl, hb, fun H1 s1 => ⟨_, rfl, iteF (q H1 s1)⟩⟩
theorem ok_eqR {f CR : Addr} {fd : FuncData} {k : Nat} (F : Fun K "__eq__" "Range.__eq__" sEqR f fd) (mi : mg "isinstance" = none) (gR : mg "Range" = some (.ref CR)) (cR : Cls K CR) (nR : NoAttr K CR "_stretches")
    (tyR : ∀ (H : Hp) (a dx : Addr) (fs : List (Str × V)), H a = some (.ins CR dx fs) → TyX K H (.ref a) (.ref CR)) (kR : PySem.W.kitOne K (.ref CR) (.ref CR) = some true) (kT : PySem.W.kitOne K (.type "tuple") (.ref CR) = some false) :
    FnOk P w K mg base CX0 (k + 1) f fd ["self", "other"] (spEqR K CR) := by
  refine F.ok scEqR (fun vs H Q E h => ?_) (fun cdv A outer s H vs Q E hr h => ?_)
  · obtain ⟨x, y, rfl, _⟩ := h
    rfl
  · obtain ⟨x, y, rfl, h⟩ := h
    refine ⟨_, pss_one (ps_ret (pe_and (pe_callB call_isi (by rfl) mi (by decide +kernel) (pa_cons (pv 1) (pa_cons (pe_glob (v := .ref CR) (by rfl) gR rfl) pa_nil))) (pe_one (pe_cmpR (op_eqD hr.units) (pe_fld (pv 0) rfl) (pe_fld (pv 1) rfl) (nomark _))))), ?_⟩
    rcases h with ⟨nf, ⟨a, dx, t, zs, rfl, ha, ht, hz⟩, ⟨b, dy, u, ys, rfl, hb, hu, hy⟩, q⟩ | ⟨b, xs, rfl, t, q⟩
    · refine ⟨_, rfl, .ref b, .ref CR, .ref CR, .ref CR, true, rfl, .own _, tyR _ _ _ _ hb, kR, _, rfl, iteT ?_⟩
      refine ⟨_, rfl, a, CR, dx, _, .ref t, rfl, ha, cR, nR, by simp [List.lookup], _, rfl, b, CR, dy, _, .ref u, rfl, hb, cR, nR, by simp [List.lookup], ?_⟩
      refine ⟨_, _, dp_nf ht hz, dp_nf hu hy, shaped_nf _, shaped_nf _, ?_⟩
      rw [eqv_nf]
      exact q
    · exact ⟨_, rfl, .ref b, .ref CR, .type "tuple", .ref CR, false, rfl, .own _, ty_tup t, kT, _, rfl, iteF q⟩
end
end Kw
set_option maxHeartbeats 4000000
namespace Kw
open PySem PySem.Spec PyProof.Rows L2 LamX
abbrev sOdd : Stmt := top 45
abbrev sShuf : Stmt := top 33
abbrev sRefused : Stmt := top 49
abbrev sLaw : Stmt := top 50
/-! ### odd values -/
def okStr (z : Str) : Prop := z.length ≤ 1000 ∧ ∀ c ∈ z.cps.toList, PyData.strOk ⟨#[c]⟩ = true
inductive OddV (K : PySem.W.Frag) (H : Hp) : V → Prop
  | flat {x : V} {T : String} : Flat x T → (∀ z, x = .str z → okStr z) → OddV K H x
  | tup {a : Addr} {xs : List V} : SqT K H a xs → (∀ y ∈ xs, xs.length = 3 → ∃ T, Flat y T) → OddV K H (.ref a)
  | lst {a : Addr} {xs : List V} : H a = some (.lst xs) → OddV K H (.ref a)
  | dct {a : Addr} {kvs : List (Key × V)} : H a = some (.dK kvs) → OddV K H (.ref a)
theorem OddV.ver {K : PySem.W.Frag} {H : Hp} {x : V} (h : OddV K H x) : ∃ b, VerB K H x b := by
  cases h with
  | flat f _ => exact ⟨_, .oth (.flat f)⟩
  | tup t f => exact ⟨_, .tup t f rfl⟩
  | lst e => exact ⟨_, .oth (.lst e)⟩
  | dct e => exact ⟨_, .oth (.dct e)⟩
theorem OddV.ext {K : PySem.W.Frag} {H H' : Hp} {x : V} (h : OddV K H x) (e : ExtN H H') : OddV K H' x := by
  cases h with
  | flat f z => exact .flat f z
  | tup t f => exact .tup (e.sqT t) f
  | lst g => exact .lst (e _ _ g fun ps z => nomatch z)
  | dct g => exact .dct (e _ _ g fun ps z => nomatch z)
theorem OddV.fr {K : PySem.W.Frag} {H H' : Hp} {x : V} {d w c : Addr} {B : Int} (h : OddV K H x) (S : StAt H d w c B) (F : Fr2 d w H H') (n1 : x ≠ .ref d) (n2 : x ≠ .ref w) : OddV K H' x := by
  cases h with
  | flat f z => exact .flat f z
  | tup t f => exact .tup (F.sqT S t) f
  | lst g => exact .lst (F _ _ (fun z => n1 (by rw [z])) (fun z => n2 (by rw [z])) g)
  | dct g => exact .dct (F _ _ (fun z => n1 (by rw [z])) (fun z => n2 (by rw [z])) g)
/-- what is_kit says of it -/
def kitV : V → Bool
  | .str z => kitS z
  | _ => false
theorem OddV.kit {K : PySem.W.Frag} {H : Hp} {x : V} (h : OddV K H x) {Q : V → Hp → Prop} {E : XK} (q : ∀ H', Same H H' → Q (.bl (kitV x)) H') : spIsKit K [x] H Q E := by
  refine ⟨x, rfl, ?_⟩
  cases h with
  | flat f z =>
    cases f with
    | str y => exact .inl ⟨y, rfl, (z y rfl).1, (z y rfl).2, q⟩
    | non => exact .inr ⟨_, Flat.ty .non, by decide +kernel, q H (Same.refl H)⟩
    | bl b => exact .inr ⟨_, Flat.ty (.bl b), by decide +kernel, q H (Same.refl H)⟩
    | int i => exact .inr ⟨_, Flat.ty (.int i), by decide +kernel, q H (Same.refl H)⟩
  | tup t f => exact .inr ⟨_, ty_tup t, by decide +kernel, q H (Same.refl H)⟩
  | lst e => exact .inr ⟨_, (Oth.lst e).ty, by decide +kernel, q H (Same.refl H)⟩
  | dct e => exact .inr ⟨_, (Oth.dct e).ty, by decide +kernel, q H (Same.refl H)⟩
def spOdd (K : PySem.W.Frag) : Sp := fun vs H Q _ => ∃ (d w c : Addr) (B : Int), vs = [.ref d] ∧ StAt H d w c B ∧ B ≤ 1000000000000 ∧
  ∀ H' x, OddV K H' x → x ≠ .ref d → x ≠ .ref w → StAt H' d w c (B + 1) → Fr2 d w H H' → Q x H'
section
variable {P : Program} {w : World} {K : PySem.W.Frag} {mg : Str → Option Value} {base : Heap}
theorem scOdd : FnScope ["_law_state", "_law_some"] ["_law_state"] (defScope sOdd) := ⟨rfl, rfl, rfl, by decide +kernel, rfl, by decide +kernel, by decide +kernel⟩
theorem ok_odd {f : Addr} {fd : FuncData} {k : Nat} (F : Fun K "_law_odd" "_law_odd" sOdd f fd) (DP : Def P w K mg base "_law_pick" CX0 k ["_law_state", "_law_some"] spPick) : FnOk P w K mg base CX0 (k + 1) f fd ["_law_state"] (spOdd K) := by
  refine F.ok scOdd (fun vs H Q E h => ?_) (fun cdv A outer s H vs Q E hr h => ?_)
  · obtain ⟨d, w, c, B, rfl, _⟩ := h
    rfl
  · obtain ⟨d, w, c, B, rfl, hS, hB, q⟩ := h
    refine ⟨_, pss_cons (ps_set (i := 1) scOdd.nd rfl (.inl rfl) (pe_lst (pa_cons pe_non (pa_cons pe_bl (pa_cons pe_int (pa_cons pe_str (pa_cons pe_str (pa_cons pe_str (pa_cons pe_str (pa_cons pe_str (pa_cons pe_str (pa_cons (pe_tup pa_nil) (pa_cons (pe_tup (pa_cons pe_int (pa_cons pe_int pa_nil)))
        (pa_cons (pe_tup (pa_cons pe_int (pa_cons pe_int (pa_cons pe_int pa_nil)))) (pa_cons (pe_tup (pa_cons pe_int (pa_cons pe_int (pa_cons pe_int pa_nil)))) (pa_cons (pe_tup (pa_cons pe_int (pa_cons pe_int (pa_cons (pe_un un_neg pe_int) pa_nil)))) pa_nil))))))))))))))))
      (pss_cons (ps_set (i := 1) scOdd.nd rfl (.inl rfl) (pe_op op_cat (pv 1) (pe_lst (pa_cons (pe_tup (pa_cons pe_int (pa_cons pe_int (pa_cons pe_int (pa_cons pe_int pa_nil))))) (pa_cons (pe_tup (pa_cons pe_bl (pa_cons pe_int (pa_cons pe_int pa_nil)))) (pa_cons (pe_lst (pa_cons pe_int (pa_cons pe_int (pa_cons pe_int pa_nil))))
        (pa_cons (pe_tup (pa_cons pe_str (pa_cons pe_int (pa_cons pe_int pa_nil)))) (pa_cons pe_dnewK (pa_cons (pe_tup (pa_cons (pe_op op_pow pe_int pe_int) (pa_cons pe_int (pa_cons pe_int pa_nil)))) (pa_cons (pe_tup (pa_cons pe_non (pa_cons pe_int (pa_cons pe_int pa_nil)))) pa_nil))))))))))
      (pss_one (ps_ret (pe_d DP hr (pa_cons (pv 0) (pa_cons (pv 1) pa_nil)))))), ?_⟩
    refine ⟨Nat.zero_le _, fun p1 h1 => ⟨by show 2 ≤ sizeLine; decide, fun p2 h2 => ⟨by show 3 ≤ sizeLine; decide, fun p3 h3 => ⟨by show 3 ≤ sizeLine; decide, fun p4 h4 => ⟨1, rfl, by show 3 ≤ sizeLine; decide, fun p5 h5 => ⟨by show 14 ≤ sizeLine; decide, fun l1 hl1 => ?_⟩⟩⟩⟩⟩⟩
    have s1 := same_upd (o := .tup []) h1
    have s2 := same_upd (o := .tup [.int 1, .int 2]) h2
    have s3 := same_upd (o := .tup [.int 1, .int 2, .int 3]) h3
    have s4 := same_upd (o := .tup [.int 0, .int 0, .int 0]) h4
    have s5 := same_upd (o := .tup [.int 1, .int 2, .int (-1)]) h5
    generalize hG1 : upd (upd (upd (upd (upd (upd H p1 _) p2 _) p3 _) p4 _) p5 _) l1 _ = G1
    have t1 : Same (upd (upd (upd (upd (upd H p1 (.tup [])) p2 (.tup [.int 1, .int 2])) p3 (.tup [.int 1, .int 2, .int 3])) p4 (.tup [.int 0, .int 0, .int 0])) p5 (.tup [.int 1, .int 2, .int (-1)])) G1 := by rw [← hG1]; exact same_upd hl1
    have gl1 : G1 l1 = some (.lst [.non, .bl true, .int 0, .str "", .str "a", .str "abcdefgh", .str "abcdefghi", .str "Ab", .str "a1", .ref p1, .ref p2, .ref p3, .ref p4, .ref p5]) := by rw [← hG1]; exact upd_same
    have g1 : G1 p1 = some (.tup []) := t1 _ _ (s5 _ _ (s4 _ _ (s3 _ _ (s2 _ _ upd_same))))
    have g2 : G1 p2 = some (.tup [.int 1, .int 2]) := t1 _ _ (s5 _ _ (s4 _ _ (s3 _ _ upd_same)))
    have g3 : G1 p3 = some (.tup [.int 1, .int 2, .int 3]) := t1 _ _ (s5 _ _ (s4 _ _ upd_same))
    have g4 : G1 p4 = some (.tup [.int 0, .int 0, .int 0]) := t1 _ _ (s5 _ _ upd_same)
    have g5 : G1 p5 = some (.tup [.int 1, .int 2, .int (-1)]) := t1 _ _ upd_same
    have sA : Same H G1 := ((((s1.trans s2).trans s3).trans s4).trans s5).trans t1
    clear hG1
    refine ⟨_, rfl, by show 4 ≤ sizeLine; decide, fun r1 k1 => ⟨by show 3 ≤ sizeLine; decide, fun r2 k2 => ⟨by show 3 ≤ sizeLine; decide, fun r3 k3 => ⟨by show 3 ≤ sizeLine; decide, fun r4 k4 => fun r5 k5 => ⟨10, 20, rfl, rfl, ⟨by decide, by decide, by decide⟩, by show 3 ≤ sizeLine; decide, fun r6 k6 => ⟨by show 3 ≤ sizeLine; decide, fun r7 k7 => ⟨by show 7 ≤ sizeLine; decide, fun l2 hl2 => ?_⟩⟩⟩⟩⟩⟩⟩
    have u1 := same_upd (o := .tup [.int 1, .int 2, .int 3, .int 4]) k1
    have u2 := same_upd (o := .tup [.bl true, .int 0, .int 0]) k2
    have u3 := same_upd (o := .lst [.int 1, .int 2, .int 3]) k3
    have u4 := same_upd (o := .tup [.str "1", .int 0, .int 0]) k4
    have u5 := same_upd (o := .dK []) k5
    have u6 := same_upd (o := .tup [.int (10 ^ Int.toNat 20), .int 0, .int 0]) k6
    have u7 := same_upd (o := .tup [.non, .int 1, .int 1]) k7
    generalize hG2 : upd (upd (upd (upd (upd (upd (upd (upd G1 r1 _) r2 _) r3 _) r4 _) r5 _) r6 _) r7 _) l2 _ = G2
    have t2 : Same (upd (upd (upd (upd (upd (upd (upd G1 r1 (.tup [.int 1, .int 2, .int 3, .int 4])) r2 (.tup [.bl true, .int 0, .int 0])) r3 (.lst [.int 1, .int 2, .int 3])) r4 (.tup [.str "1", .int 0, .int 0])) r5 (.dK [])) r6 (.tup [.int (10 ^ Int.toNat 20), .int 0, .int 0])) r7 (.tup [.non, .int 1, .int 1])) G2 := by rw [← hG2]; exact same_upd hl2
    have gl2 : G2 l2 = some (.lst [.ref r1, .ref r2, .ref r3, .ref r4, .ref r5, .ref r6, .ref r7]) := by rw [← hG2]; exact upd_same
    have sB : Same G1 G2 := ((((((u1.trans u2).trans u3).trans u4).trans u5).trans u6).trans u7).trans t2
    have m1 : G2 r1 = some (.tup [.int 1, .int 2, .int 3, .int 4]) := t2 _ _ (u7 _ _ (u6 _ _ (u5 _ _ (u4 _ _ (u3 _ _ (u2 _ _ upd_same))))))
    have m2 : G2 r2 = some (.tup [.bl true, .int 0, .int 0]) := t2 _ _ (u7 _ _ (u6 _ _ (u5 _ _ (u4 _ _ (u3 _ _ upd_same)))))
    have m3 : G2 r3 = some (.lst [.int 1, .int 2, .int 3]) := t2 _ _ (u7 _ _ (u6 _ _ (u5 _ _ (u4 _ _ upd_same))))
    have m4 : G2 r4 = some (.tup [.str "1", .int 0, .int 0]) := t2 _ _ (u7 _ _ (u6 _ _ (u5 _ _ upd_same)))
    have m5 : G2 r5 = some (.dK []) := t2 _ _ (u7 _ _ (u6 _ _ upd_same))
    have m6 : G2 r6 = some (.tup [.int (10 ^ Int.toNat 20), .int 0, .int 0]) := t2 _ _ (u7 _ _ upd_same)
    have m7 : G2 r7 = some (.tup [.non, .int 1, .int 1]) := t2 _ _ upd_same
    have n3 : G1 r3 = none := u1.free (u2.free k3)
    have n5 : G1 r5 = none := u1.free (u2.free (u3.free (u4.free k5)))
    clear hG2
    have hS2 := (hS.same sA).same sB
    obtain ⟨kvs, hd⟩ := (hS.same sA).hd
    obtain ⟨ys, hw⟩ := (hS.same sA).hw
    refine ⟨l1, l2, _, _, rfl, rfl, sB _ _ gl1, gl2, by show 14 + 7 ≤ sizeLine; decide, fun l hl => ?_⟩
    have sC := same_upd (o := .lst ([.non, .bl true, .int 0, .str "", .str "a", .str "abcdefgh", .str "abcdefghi", .str "Ab", .str "a1", .ref p1, .ref p2, .ref p3, .ref p4, .ref p5] ++ [.ref r1, .ref r2, .ref r3, .ref r4, .ref r5, .ref r6, .ref r7])) hl
    have hS3 := hS2.same sC
    have nlw := (hS2.ne hl).2.1
    have fl : ∀ {xs : List V}, (∀ y ∈ xs, ∃ T, Flat y T) → (∀ y ∈ xs, xs.length = 3 → ∃ T, Flat y T) := fun h y hy _ => h y hy
    have i3 : ∀ (a b c : Int) (y : V), y ∈ [V.int a, V.int b, V.int c] → ∃ T, Flat y T := fun a b c y hy => by
      simp at hy
      rcases hy with rfl | rfl | rfl <;> exact ⟨_, .int _⟩
    have good : ∀ x ∈ ([.non, .bl true, .int 0, .str "", .str "a", .str "abcdefgh", .str "abcdefghi", .str "Ab", .str "a1", .ref p1, .ref p2, .ref p3, .ref p4, .ref p5] ++ [.ref r1, .ref r2, .ref r3, .ref r4, .ref r5, .ref r6, .ref r7] : List V), OddV K G2 x ∧ x ≠ .ref d ∧ x ≠ .ref w := fun x hx => by
      have neR : ∀ {p q : Addr}, p ≠ q → V.ref p ≠ .ref q := fun h z => h (by injection z)
      have nt : ∀ {p : Addr} {xs : List V}, G2 p = some (.tup xs) → V.ref p ≠ .ref d ∧ V.ref p ≠ .ref w := fun {p xs} e => ⟨neR (ne_of e (sB _ _ hd) (by intro z; cases z)), neR (ne_of e (sB _ _ hw) (by intro z; cases z))⟩
      have nf : ∀ {p : Addr}, G1 p = none → V.ref p ≠ .ref d ∧ V.ref p ≠ .ref w := fun {p} e => ⟨neR (ne_of_none hd e).symm, neR (ne_of_none hw e).symm⟩
      have os : ∀ z : Str, okStr z → OddV K G2 (.str z) ∧ V.str z ≠ .ref d ∧ V.str z ≠ .ref w := fun z o => ⟨.flat (.str z) (fun y e => by
        injection e with e
        rw [← e]
        exact o), (fun z => nomatch z), fun z => nomatch z⟩
      simp only [List.cons_append, List.nil_append, List.mem_cons, List.not_mem_nil, or_false] at hx
      rcases hx with rfl | rfl | rfl | rfl | rfl | rfl | rfl | rfl | rfl | rfl | rfl | rfl | rfl | rfl | rfl | rfl | rfl | rfl | rfl | rfl | rfl
      · exact ⟨.flat .non (fun z e => nomatch e), (fun z => nomatch z), fun z => nomatch z⟩
      · exact ⟨.flat (.bl _) (fun z e => nomatch e), (fun z => nomatch z), fun z => nomatch z⟩
      · exact ⟨.flat (.int _) (fun z e => nomatch e), (fun z => nomatch z), fun z => nomatch z⟩
      · exact os _ ⟨by decide +kernel, by decide +kernel⟩
      · exact os _ ⟨by decide +kernel, by decide +kernel⟩
      · exact os _ ⟨by decide +kernel, by decide +kernel⟩
      · exact os _ ⟨by decide +kernel, by decide +kernel⟩
      · exact os _ ⟨by decide +kernel, by decide +kernel⟩
      · exact os _ ⟨by decide +kernel, by decide +kernel⟩
      · exact ⟨.tup (.inl (.inl (sB _ _ g1))) (fun y hy => nomatch hy), nt (sB _ _ g1)⟩
      · exact ⟨.tup (.inl (.inl (sB _ _ g2))) (fun y hy e => by cases e), nt (sB _ _ g2)⟩
      · exact ⟨.tup (.inl (.inl (sB _ _ g3))) (fl (i3 _ _ _)), nt (sB _ _ g3)⟩
      · exact ⟨.tup (.inl (.inl (sB _ _ g4))) (fl (i3 _ _ _)), nt (sB _ _ g4)⟩
      · exact ⟨.tup (.inl (.inl (sB _ _ g5))) (fl (i3 _ _ _)), nt (sB _ _ g5)⟩
      · exact ⟨.tup (.inl (.inl m1)) (fun y hy e => by cases e), nt m1⟩
      · exact ⟨.tup (.inl (.inl m2)) (fun y hy _ => by
          simp at hy
          rcases hy with rfl | rfl
          · exact ⟨_, .bl _⟩
          · exact ⟨_, .int _⟩), nt m2⟩
      · exact ⟨.lst m3, nf n3⟩
      · exact ⟨.tup (.inl (.inl m4)) (fun y hy _ => by
          simp at hy
          rcases hy with rfl | rfl
          · exact ⟨_, .str _⟩
          · exact ⟨_, .int _⟩), nt m4⟩
      · exact ⟨.dct m5, nf n5⟩
      · exact ⟨.tup (.inl (.inl m6)) (fl (i3 _ _ _)), nt m6⟩
      · exact ⟨.tup (.inl (.inl m7)) (fun y hy _ => by
          simp at hy
          rcases hy with rfl | rfl
          · exact ⟨_, .non⟩
          · exact ⟨_, .int _⟩), nt m7⟩
    refine ⟨_, rfl, _, rfl, d, w, c, B, l, _, rfl, hS3, by omega, upd_same, nlw.symm, by simp, by simp, fun H' i x hx S' F' => ?_⟩
    obtain ⟨o, n1, n2⟩ := good x (List.mem_of_getElem? hx)
    exact q H' x ((o.ext (ExtN.same sC)).fr hS3 F' n1 n2) n1 n2 S' ((Fr2.ofSame ((sA.trans sB).trans sC)).trans F')
end
end Kw
set_option maxHeartbeats 4000000
namespace Kw
open PySem PySem.Spec PyProof.Rows L2 LamX
/-! ### the list shuffled -/
theorem shaped_strl (ss : List Str2) : SeqAt.shaped (.list (ss.map strD)) = true := by
  have h := cl_all ss
  simp only [SeqAt.shaped, PyData.canLay0, PyData.depth, h.1, Bool.true_and]
  exact decide_eq_true (by omega)
theorem eqv_strl (ss : List Str2) : PyData.eqv (.list (ss.map strD)) (.list []) = ss.isEmpty := by
  cases ss with
  | nil => simp [PyData.eqv, PyData.eqvAll]
  | cons n ns => simp [PyData.eqv, PyData.eqvAll]
theorem Strs.erase {K : PySem.W.Frag} {H : Hp} {xs : List V} {ss : List Str2} (h : Strs K H xs ss) (k : Nat) : Strs K H (xs.eraseIdx k) (ss.eraseIdx k) := by
  refine ⟨by simp [List.length_eraseIdx, h.len], fun i x s a b => ?_⟩
  rw [List.getElem?_eraseIdx] at a b
  split at a
  · rename_i q
    rw [if_pos q] at b
    exact h.at_ i x s a b
  · rename_i q
    rw [if_neg q] at b
    exact h.at_ (i + 1) x s a b
theorem mem_erase {α : Type} (L : List α) (j : Nat) (h : j < L.length) (s : α) : s ∈ L ↔ s = L[j] ∨ s ∈ L.eraseIdx j := by
  rw [List.eraseIdx_eq_take_drop_succ]
  have e : L = L.take j ++ L[j] :: L.drop (j + 1) := by rw [← List.drop_eq_getElem_cons h, List.take_append_drop]
  constructor
  · intro hs
    rw [e] at hs
    simp only [List.mem_append, List.mem_cons] at hs ⊢
    rcases hs with h | h | h
    · exact .inr (.inl h)
    · exact .inl h
    · exact .inr (.inr h)
  · rintro (rfl | hs)
    · exact List.getElem_mem h
    · rcases List.mem_append.mp hs with h | h
      · exact List.mem_of_mem_take h
      · exact List.mem_of_mem_drop h
def spShuf (K : PySem.W.Frag) : Sp := fun vs H Q _ => ∃ (d w c : Addr) (B : Int) (a : Addr) (xs : List V) (ss : List Str2), vs = [.ref d, .ref a] ∧ StAt H d w c B ∧ B + 10 ≤ 1000000000000 ∧ H a = some (.lst xs) ∧ a ≠ w ∧ Strs K H xs ss ∧ ss.length ≤ 10 ∧
  ∀ H' p ys ss', H p = none → H' p = some (.lst ys) → Strs K H' ys ss' → (∀ s, s ∈ ss' ↔ s ∈ ss) → ss'.length = ss.length → StAt H' d w c (B + 10) → Fr2 d w H H' → Q (.ref p) H'
section
variable {P : Program} {w : World} {K : PySem.W.Frag} {mg : Str → Option Value} {base : Heap}
theorem scShuf : FnScope ["_law_state", "_law_some", "_law_left", "_law_found"] ["_law_state", "_law_some"] (defScope sShuf) := ⟨rfl, rfl, rfl, by decide +kernel, rfl, by decide +kernel, by decide +kernel⟩
theorem ok_shuf {f : Addr} {fd : FuncData} {k : Nat} (F : Fun K "_law_shuffled" "_law_shuffled" sShuf f fd) (ml : mg "list" = none) (mn : mg "len" = none) (DD : Def P w K mg base "_law_draw" CX0 k ["_law_state", "_law_size"] spDraw) : FnOk P w K mg base CX0 (k + 1) f fd ["_law_state", "_law_some"] (spShuf K) := by
  refine F.ok scShuf (fun vs H Q E h => ?_) (fun cdv A outer s H vs Q E hr h => ?_)
  · obtain ⟨d, w, c, B, a, xs, ss, rfl, _⟩ := h
    rfl
  · obtain ⟨d, w, c, B, a, xs, ss, rfl, hS, hB, ha, naw, hss, hlen, q⟩ := h
    refine ⟨_, pss_cons (ps_par (i := 2) (j := 3) rfl scShuf.nd rfl rfl (by decide) rfl rfl (pa_cons (pe_callTy call_list_of (by rfl) ml (by decide +kernel) (pa_cons (pv 1) pa_nil)) (pa_cons (pe_lst pa_nil) pa_nil)) (by rfl))
      (pss_cons (ps_while PassesOwn.never (pt_cmpR (op_neD hr.units) (pv 2) (pe_lst pa_nil) (nomark _))
        (pss_one (ps_expr (pe_bm PySem.F.plainAttrs_list PySem.F.slot_list_append PySem.F.type_list_append mt_append (pv 3) (pa_cons (pe_bm PySem.F.plainAttrs_list PySem.F.slot_list_pop PySem.F.type_list_pop mt_popAt (pv 2) (pa_cons (pe_d DD hr (pa_cons (pv 0) (pa_cons (pe_callB call_len_seq (by rfl) mn PySem.boot_len (pa_cons (pv 2) pa_nil)) pa_nil))) pa_nil)) pa_nil)))))
      (pss_one (ps_ret (pv 3)))), ?_⟩
    refine ⟨_, rfl, a, xs, rfl, .inl (SqL.of ha), fun l hl => ⟨Nat.zero_le _, fun g hg => ?_⟩⟩
    have s1 := same_upd (o := .lst xs) hl
    have s2 := same_upd (o := .lst []) hg
    have nlw := (hS.ne hl).2.1
    have ngw := ((hS.same s1).ne hg).2.1
    have nlg : l ≠ g := ne_of_none upd_same hg
    have hlen0 : xs.length = ss.length := hss.len
    refine ⟨_, _, rfl, fun (m : Nat) (σ : L2.St) (H' : Hp) => ∃ (zs ys : List V) (us vs : List Str2), σ = [some (.ref d), some (.ref a), some (.ref l), some (.ref g)] ∧ H' l = some (.lst zs) ∧ H' g = some (.lst ys) ∧ Strs K H' zs us ∧ Strs K H' ys vs ∧ us.length = m ∧ m + vs.length = ss.length ∧ (∀ s, (s ∈ us ∨ s ∈ vs) ↔ s ∈ ss) ∧ StAt H' d w c (B + vs.length) ∧ Fr2 d w H H',
      ⟨ss.length, xs, [], ss, [], rfl, s2 _ _ upd_same, upd_same, (hss.same s1).same s2, ⟨rfl, fun i x s h => by simp at h⟩, rfl, by simp, fun s => by simp, ((hS.same s1).same s2).mono (by simp), .ofSame (s1.trans s2)⟩, ?_⟩
    rintro m σ H1 ⟨zs, ys, us, vs, rfl, h1, h2, h3, h4, h5, h6, h7, h8, h9⟩
    refine ⟨_, rfl, Nat.zero_le _, fun e he => ?_⟩
    have s3 := same_upd (o := .lst []) he
    refine ⟨_, _, .lst (SqL.of (s3 _ _ h1)) (dp_strs' (h3.same s3)), .lst (SqL.of upd_same) .nil, shaped_strl _, shaped_nil, _, rfl, ?_⟩
    rw [eqv_strl]
    cases us with
    | nil =>
      refine iteF ⟨_, rfl, ?_⟩
      refine q _ g ys vs (s1.free hg) (s3 _ _ h2) (h4.same s3) (fun s => by have := h7 s; simpa using this) (by simp at h5; omega) ((h8.same s3).mono (by simp at h5; omega)) (h9.trans (.ofSame s3))
    | cons u us =>
      refine iteT ⟨fun (σ' : L2.St) (H' : Hp) => ∃ (zs ys : List V) (us vs : List Str2), σ' = [some (.ref d), some (.ref a), some (.ref l), some (.ref g)] ∧ H' l = some (.lst zs) ∧ H' g = some (.lst ys) ∧ Strs K H' zs us ∧ Strs K H' ys vs ∧ us.length + 1 = m ∧ us.length + vs.length = ss.length ∧ (∀ s, (s ∈ us ∨ s ∈ vs) ↔ s ∈ ss) ∧ StAt H' d w c (B + vs.length) ∧ Fr2 d w H H',
        fun σ' H' ⟨zs, ys, us, vs, e1, e2, e3, e4, e5, e6, e7, e8, e9, e10⟩ => ⟨us.length, by omega, zs, ys, us, vs, e1, e2, e3, e4, e5, rfl, e7, e8, e9, e10⟩, ?_⟩
      have hzl : zs.length = m := by rw [h3.len, h5]
      have hm : 0 < m := by rw [← h5]; simp
      refine ⟨_, rfl, .inl ⟨rfl, _, SqL.of (s3 _ _ h2)⟩, _, rfl, .inl ⟨rfl, _, SqL.of (s3 _ _ h1)⟩, _, rfl, _, rfl, l, zs, rfl, .inl (SqL.of (s3 _ _ h1)), d, w, c, B + vs.length, zs.length, rfl, h8.same s3, by omega, by omega, by omega, fun H2 z hz0 hz1 S2 F2 => ?_⟩
      obtain ⟨j, rfl⟩ : ∃ j : Nat, z = (j : Int) := ⟨z.toNat, by omega⟩
      have hj : j < zs.length := by omega
      have hS3 := h8.same s3
      have z1 := F2.lst hS3 (s3 _ _ h1) nlw.symm
      have z2 := F2.lst hS3 (s3 _ _ h2) ngw.symm
      have z3 := (h3.same s3).fr hS3 F2
      have z4 := (h4.same s3).fr hS3 F2
      refine ⟨l, zs, _, j, zs[j], rfl, rfl, z1, by omega, by omega, (ixN_seq (j := j) (by unfold ixN; rw [if_pos (by omega), if_pos (by omega)]; simp)).1, List.getElem?_eq_getElem hj, ?_⟩
      obtain ⟨st, hst, ist⟩ := z3.get (List.getElem?_eq_getElem hj)
      have f1 : Fr1 l H2 (upd H2 l (.lst (zs.eraseIdx j))) := Fr1.put
      have w2 : upd H2 l (.lst (zs.eraseIdx j)) g = some (.lst ys) := f1 _ _ nlg.symm z2
      refine ⟨g, ys, _, rfl, rfl, w2, Nat.lt_of_le_of_lt (show ys.length ≤ 1000 by rw [h4.len]; omega) (by decide), ?_⟩
      have f2 : Fr1 g (upd H2 l (.lst (zs.eraseIdx j))) (upd (upd H2 l (.lst (zs.eraseIdx j))) g (.lst (ys ++ [zs[j]]))) := Fr1.put
      have ju : j < (u :: us).length := by rw [h5, ← hzl]; exact hj
      have es : (u :: us)[j] = st := by
        have := List.getElem?_eq_getElem ju
        rw [hst] at this
        exact (Option.some.inj this).symm
      have sub : Fr2 d w H2 (upd (upd H2 l (.lst (zs.eraseIdx j))) g (.lst (ys ++ [zs[j]]))) ∨ True := .inr trivial
      have fH : Fr2 d w H (upd (upd H2 l (.lst (zs.eraseIdx j))) g (.lst (ys ++ [zs[j]]))) := by
        have f0 : Fr2 d w H H2 := h9.trans ((Fr2.ofSame s3).trans F2)
        intro b o n1 n2 e0
        rw [upd_ne (ne_of_none (s1 _ _ e0) hg), upd_ne (ne_of_none e0 hl)]
        exact f0 b o n1 n2 e0
      refine ⟨zs.eraseIdx j, ys ++ [zs[j]], (u :: us).eraseIdx j, vs ++ [st], rfl, by rw [upd_ne nlg]; exact upd_same, upd_same, ?_, ?_, ?_, ?_, fun s => ?_, ?_, fH⟩
      · exact f2.strs w2 (f1.strs z1 (z3.erase j))
      · exact (f2.strs w2 (f1.strs z1 z4)).snoc (f2.str w2 (f1.str z1 ist))
      · rw [List.length_eraseIdx, if_pos ju]
        omega
      · rw [List.length_eraseIdx, if_pos ju, List.length_append, List.length_singleton]
        omega
      · rw [← h7 s, ← es]
        rw [mem_erase (u :: us) j ju s, List.mem_append, List.mem_singleton]
        grind
      · exact ((hS.same s1).put hg (hS.put hl S2)).mono (by rw [List.length_append]; simp; omega)
end
end Kw
set_option maxHeartbeats 4000000
namespace Kw
open PySem PySem.Spec PyProof.Rows L2 LamX
/-! ### Range(e) -/
structure RangeMk (P : Program) (w : World) (K : PySem.W.Frag) (mg : Str → Option Value) (base : Heap) (CR CE : Addr) (T : List (Addr × Str)) (k : Nat) : Prop where
  ex : ∃ f fd, FnOk P w K mg base (L2.CX P w) k f fd ["self", "stretches"] (spInit K T CR CE) ∧ Mk K CR f ∧ Binds K fd ["self", "stretches"] []
  gR : mg "Range" = some (.ref CR)
section
variable {X : Cx} {CR CE : Addr} {T : List (Addr × Str)} {k : Nat}
theorem pe_rng {p pos : Pos} {e : Expr} {t : TA} {E : XK} (M : RangeMk X.prog X.w X.K X.mg X.base CR CE T k) (hr : Room (k + 1) X.A) (hx : Passes (L2.CX X.prog X.w) X E) (ha : PA X [e] t) (hg : Gl X "Range" := by rfl)
    (he : starEach (e :: []) X.env = (false, eval e X.env) :: starEach [] X.env := by rfl) (hpl : (backTo pos (starEach [] X.env)).any (·.1) = false := by rfl) : PE X (.Call (.Name "Range" p) [e] [] pos) (tMake CR (spInit X.K T CR CE) [] E t) := by
  obtain ⟨f, fd, F, Mk, hb⟩ := M.ex
  exact pe_make Mk F hr hg M.gR hb .nil hx ha (by decide) he hpl
theorem pass_lam {X : Cx} {A : Around} {outer : List Env} {s : Shared} {H : Hp} {E : XK} {scope : Scope} {f c' : Addr} : Passes (L2.CX X.prog X.w) (lamCx X A outer s H E scope f c') E := passes_call (takes_of rfl rfl rfl rfl) fun _ _ _ _ h => h
end
section
variable {K : PySem.W.Frag} {H : Hp} {σ : L2.St} {i : Nat} {CR CE : Addr} {T : List (Addr × Str)} {E : XK} {Q : VK}
theorem two_upd {a dx : Addr} {o1 o2 : HO} (na : H a = none) (nd : H dx = none) (ne : dx ≠ a) : Same H (upd (upd H dx o1) a o2) := fun b o z => by rw [upd_ne (ne_of_none z na), upd_ne (ne_of_none z nd)]; exact z
/-- of a list or a tuple of at most forty judged items -/
theorem rng_read {l : Addr} {xs : List V} {bs : List Bool} (hi : σ[i]? = some (some (.ref l))) (hT : Tabs T H) (hS : SqLT K H l xs) (hl : xs.length ≤ 40) (hj : Judged K H xs bs)
    (bad : ∀ i : Nat, bs[i]? = some false → (∀ j, j < i → bs[j]? = some true) → ∀ H' d, ExtN H H' → Tabs T H' → H' d = some (.xd [(("at" : Str), .int (i : Int))]) → E (.ref CE) (some d) H')
    (good : bs.all id = true → ∃ ss, Strs K H xs ss ∧ ∀ (H' : Hp) (x : Addr) (ss' : List Str2), ExtN H H' → Tabs T H' → IsR K CR H' (.ref x) (ss'.foldl nfAdd []) → ss'.Perm ss → ss'.Pairwise (fun p q => ¬ ltV q.1 p.1) → H x = none → Q (.ref x) H') :
    tMake CR (spInit K T CR CE) [] E (tCons (tVar i) tNil) σ H Q := by
  refine ⟨_, hi, fun a dx na nd ne => ?_⟩
  have s0 : Same H (upd (upd H dx (.own a)) a (.ins CR dx [])) := two_upd na nd ne
  have e0 := ExtN.same s0
  refine ⟨a, dx, .ref l, rfl, upd_same, hT.ext s0, .inr ⟨l, xs, rfl, hS.ext e0, by omega, .inr ⟨hl, bs, hj.ext e0, fun i h1 h2 H' d s1 hd => bad i h1 h2 H' d (e0.trans (ExtN.same s1)) ((hT.ext s0).ext s1) hd, fun all => ?_⟩⟩⟩
  obtain ⟨ss, hss, q⟩ := good all
  refine ⟨ss, hss.same s0, fun H' ss' eA T' hR pm pw => ⟨rfl, q H' a ss' (fun b o z n => ?_) T' hR pm pw na⟩⟩
  exact eA b o (ne_of_none z na) (s0 _ _ z) n
/-- of a value that is no list, or too long a list -/
theorem rng_none {x : V} (hi : σ[i]? = some (some x)) (hT : Tabs T H) (hx : (∃ T', NoLT H x T') ∨ ∃ l xs, x = .ref l ∧ SqLT K H l xs ∧ xs.length ≤ 1000 ∧ 40 < xs.length) (bad : ∀ H' d, ExtN H H' → Tabs T H' → H' d = some (.xd [(("at" : Str), .non)]) → E (.ref CE) (some d) H') :
    tMake CR (spInit K T CR CE) [] E (tCons (tVar i) tNil) σ H Q := by
  refine ⟨_, hi, fun a dx na nd ne => ?_⟩
  have s0 : Same H (upd (upd H dx (.own a)) a (.ins CR dx [])) := two_upd na nd ne
  have e0 := ExtN.same s0
  have xat : XAt E CE .non (upd (upd H dx (.own a)) a (.ins CR dx [])) := fun H' d s1 hd => bad H' d (e0.trans (ExtN.same s1)) ((hT.ext s0).ext s1) hd
  refine ⟨a, dx, x, rfl, upd_same, hT.ext s0, ?_⟩
  rcases hx with ⟨T', h⟩ | ⟨l, xs, rfl, hS, h1, h2⟩
  · refine .inl ⟨T', ?_, xat⟩
    cases h with
    | flat f => exact .flat f
    | dct e => exact .dct (s0 _ _ e)
  · exact .inr ⟨l, xs, rfl, hS.ext e0, h1, .inl ⟨h2, xat⟩⟩
theorem judged_all {xs : List V} {ss : List Str2} (h : Strs K H xs ss) (ok : ∀ s ∈ ss, okS s) : Judged K H xs (xs.map fun _ => true) := by
  refine ⟨by simp, fun i x b p q => ?_⟩
  obtain ⟨s, hs, is⟩ := h.get p
  rw [List.getElem?_map, p] at q
  obtain rfl := Option.some.inj q
  exact .of is (ok s (List.mem_of_getElem? hs))
/-- of stretches: it is made -/
theorem rng_good {l : Addr} {xs : List V} {ss : List Str2} (hi : σ[i]? = some (some (.ref l))) (hT : Tabs T H) (hS : SqLT K H l xs) (hl : xs.length ≤ 40) (h : Strs K H xs ss) (ok : ∀ s ∈ ss, okS s)
    (q : ∀ (H' : Hp) (x : Addr) (ss' : List Str2), ExtN H H' → Tabs T H' → IsR K CR H' (.ref x) (ss'.foldl nfAdd []) → ss'.Perm ss → ss'.Pairwise (fun p q => ¬ ltV q.1 p.1) → H x = none → Q (.ref x) H') :
    tMake CR (spInit K T CR CE) [] E (tCons (tVar i) tNil) σ H Q := by
  refine rng_read hi hT hS hl (judged_all h ok) (fun i h1 _ => ?_) fun _ => ⟨ss, h, q⟩
  rw [List.getElem?_map] at h1
  cases e : xs[i]? with
  | none => rw [e] at h1; simp at h1
  | some x => rw [e] at h1; simp at h1
end
/-! ### _law_caught(lambda: Range(e)) -/
section
variable {K : PySem.W.Frag} {H : Hp} {σ : L2.St} {i : Nat} {CR CE CK : Addr} {T : List (Addr × Str)} {Q : VK}
abbrev tCaughtR (K : PySem.W.Frag) (T : List (Addr × Str)) (CR CE CK : Addr) (i : Nat) : TE := tLam T (TTc K CK) fun E => tMake CR (spInit K T CR CE) [] E (tCons (tVar i) tNil)
/-- nothing was caught, or the error that tells the first wrong item -/
theorem caught_read {l : Addr} {xs : List V} {bs : List Bool} (hsub : PySem.W.exmOne K (.ref CE) (.ref CK) = some true) (hi : σ[i]? = some (some (.ref l))) (hT : Tabs T H) (hS : SqLT K H l xs) (hl : xs.length ≤ 40) (hj : Judged K H xs bs)
    (bad : ∀ i : Nat, bs[i]? = some false → (∀ j, j < i → bs[j]? = some true) → ∀ (H' : Hp) (x : V), ExtN H H' → Tabs T H' → IsExc H' x CE (some (.int (i : Int))) → Q x H')
    (good : bs.all id = true → (∃ ss, Strs K H xs ss) ∧ ∀ H', ExtN H H' → Tabs T H' → Q .non H') : tCaughtR K T CR CE CK i σ H Q := by
  refine ⟨hT, fun H1 e1 T1 => ?_⟩
  show tMake CR (spInit K T CR CE) [] (fun cls d H' => PySem.W.exmOne K cls (.ref CK) = some true ∧ ∀ a, H' a = none → Q (.ref a) (upd H' a (exA cls d a))) (tCons (tVar i) tNil) σ H1 (fun _ H' => ∃ x, (some (some V.non) : Option (Option V)) = some (some x) ∧ Q x H')
  refine rng_read hi T1 (hS.ext e1) hl (hj.ext e1) (fun i h1 h2 H' d e2 T2 hd => ⟨hsub, fun a ha => ?_⟩) fun all => ?_
  · have s2 := same_upd (o := exA (.ref CE) (some d) a) ha
    exact bad i h1 h2 _ (.ref a) ((e1.trans e2).trans (ExtN.same s2)) (T2.ext s2) ⟨a, some d, rfl, upd_same, d, rfl, s2 _ _ hd⟩
  · obtain ⟨⟨ss, hss⟩, q⟩ := good all
    exact ⟨ss, e1.strs hss, fun H' x ss' e2 T2 _ _ _ _ => ⟨.non, rfl, q H' (e1.trans e2) T2⟩⟩
/-- BadRange(None) was caught -/
theorem caught_none {x : V} (hsub : PySem.W.exmOne K (.ref CE) (.ref CK) = some true) (hi : σ[i]? = some (some x)) (hT : Tabs T H) (hx : (∃ T', NoLT H x T') ∨ ∃ l xs, x = .ref l ∧ SqLT K H l xs ∧ xs.length ≤ 1000 ∧ 40 < xs.length)
    (q : ∀ (H' : Hp) (y : V), ExtN H H' → Tabs T H' → IsExc H' y CE (some .non) → Q y H') : tCaughtR K T CR CE CK i σ H Q := by
  refine ⟨hT, fun H1 e1 T1 => ?_⟩
  show tMake CR (spInit K T CR CE) [] (fun cls d H' => PySem.W.exmOne K cls (.ref CK) = some true ∧ ∀ a, H' a = none → Q (.ref a) (upd H' a (exA cls d a))) (tCons (tVar i) tNil) σ H1 (fun _ H' => ∃ x, (some (some V.non) : Option (Option V)) = some (some x) ∧ Q x H')
  refine rng_none hi T1 ?_ fun H' d e2 T2 hd => ⟨hsub, fun a ha => ?_⟩
  · rcases hx with ⟨T', h⟩ | ⟨l, xs, rfl, h, h1, h2⟩
    · refine .inl ⟨T', ?_⟩
      cases h with
      | flat f => exact .flat f
      | dct e => exact .dct (e1 _ _ e fun ps z => nomatch z)
    · exact .inr ⟨l, xs, rfl, h.ext e1, h1, h2⟩
  · have s2 := same_upd (o := exA (.ref CE) (some d) a) ha
    exact q _ (.ref a) ((e1.trans e2).trans (ExtN.same s2)) (T2.ext s2) ⟨a, some d, rfl, upd_same, d, rfl, s2 _ _ hd⟩
end
end Kw
set_option maxHeartbeats 4000000
namespace Kw
open PySem PySem.Spec PyProof.Rows L2 LamX
/-- the law's catcher, found by its name -/
structure CaughtD (K : PySem.W.Frag) (mg : Str → Option Value) (CK : Addr) : Prop where
  ex : ∃ g fd, Fun K "_law_caught" "_law_caught" sCaught g fd ∧ mg "_law_caught" = some (.ref g) ∧ PySem.W.keepIn K (.ref g) = true ∧ Binds K fd ["_law_task"] []
  gE : mg "KitError" = some (.ref CK)
section
variable {X : Cx} {CR CE CK : Addr} {T : List (Addr × Str)} {k i : Nat}
/-- _law_caught(lambda: Range(y)) -/
theorem pe_caughtR {c PT : Addr} {y : Str} {params : Arguments} {scope : Scope} {p p1 p2 p3 lpos pos : Pos} (C : CaughtD X.K X.mg CK) (M : RangeMk X.prog X.w X.K X.mg X.base CR CE T k) (TB : TabB X.base X.mg c PT) (hcode : X.env.code = .ref c) (hmT : (PT, X.env.qual ++ "<lambda>") ∈ T)
    (hu : ∀ p ∈ T, p.1 = PT → p.2 = X.env.qual ++ "<lambda>") (hr : Room (k + 3) X.A) (L : LamS X.env.scope scope) (hdef : defaultsOf params X.env = ([], []))
    (hbind : ∀ (q : Str) (cl : List (Str × Addr)) (pm cv ctv : Value), bindArgs (PySem.W.kla_fn "<lambda>" q params (.Call (.Name "Range" p1) [.Name y p2] [] p3) scope cl pm cv ctv) ⟨[], []⟩ = pure []) (hN : X.N[i]? = some y) (hv : Vis scope y)
    (hgl : ∀ (A : Around) (outer : List Env) (s : Shared) (H : Hp) (E : XK) (f c' : Addr), Gl (lamCx X A outer s H E scope f c') "Range") (hg : Gl X "_law_caught") (hd : (y == ("__debug__" : Str)) = false := by decide) (hcd : (y == ("__classdict__" : Str)) = false := by decide) :
    PE X (.Call (.Name "_law_caught" p) [.Lambda params (.Call (.Name "Range" p1) [.Name y p2] [] p3) scope lpos] [] pos) (tCaughtR X.K T CR CE CK i) := by
  obtain ⟨g, fd, F, hm, hk, hb⟩ := C.ex
  obtain ⟨oc, od, kV, doc, pm, an, cdv, ct, osl, rfl, lk, hcg⟩ := F.ex
  refine pe_lamcall (T := T) (c := c) (P := PT) (k := k + 1) (a := "_law_task") hg hm hk lk hcg hb scCaught rfl (.inl rfl) (caught_gives C.gE) TB hcode hmT hu hr L hdef hbind (fun A outer s H E f c' hr2 => ?_) (by decide) (by decide) (by decide)
  have hP : Passes (L2.CX X.prog X.w) (lamCx X A outer s H E scope f c') E := pass_lam (X := X) (A := A) (outer := outer) (s := s) (H := H) (E := E) (scope := scope) (f := f) (c' := c')
  exact pe_rng (X := lamCx X A outer s H E scope f c') M hr2 hP (pa_cons (pe_var (X := lamCx X A outer s H E scope f c') (i := i) hN hv hd hcd) pa_nil) (hgl A outer s H E f c') rfl rfl
end
end Kw
set_option maxHeartbeats 1000000
namespace Kw
open PySem PySem.Spec PyProof.Rows L2 LamX
/-! ### wrong lists are refused -/
/-- all but the draws' dict and list and the tables stay -/
def FrX (d w : Addr) (H H' : Hp) : Prop := ∀ c o, c ≠ d → c ≠ w → H c = some o → (∀ ps, o ≠ .tbl ps) → H' c = some o
theorem FrX.of2 {d w : Addr} {H H' : Hp} (x : Fr2 d w H H') : FrX d w H H' := fun c o a b h _ => x c o a b h
theorem FrX.ofN {d w : Addr} {H H' : Hp} (x : ExtN H H') : FrX d w H H' := fun c o _ _ h n => x c o h n
theorem FrX.trans {d w : Addr} {H H1 H2 : Hp} (x : FrX d w H H1) (y : FrX d w H1 H2) : FrX d w H H2 := fun c o a b h n => y c o a b (x c o a b h n) n
theorem StAt.ext {H H' : Hp} {d w c : Addr} {B : Int} (S : StAt H d w c B) (e : ExtN H H') : StAt H' d w c B := by
  obtain ⟨ws, cs, r, t, hd, hw, hc, pw, pc, hr0, ht0, htB, lw, lc, nwc⟩ := S.ex
  exact ⟨ws, cs, r, t, e _ _ hd (fun ps z => nomatch z), e _ _ hw (fun ps z => nomatch z), e _ _ hc (fun ps z => nomatch z), pw, pc, hr0, ht0, htB, lw, lc, nwc⟩
theorem Tabs.fr2 {T : List (Addr × Str)} {H H' : Hp} {d w c : Addr} {B : Int} (t : Tabs T H) (S : StAt H d w c B) (F : Fr2 d w H H') : Tabs T H' := fun p hp => by
  obtain ⟨ps, h1, h2, h3⟩ := t p hp
  obtain ⟨kvs, hd⟩ := S.hd
  obtain ⟨ys, hw⟩ := S.hw
  refine ⟨ps, F _ _ (ne_of h1 hd (by intro z; cases z)) (ne_of h1 hw (by intro z; cases z)) h1, h2, fun pos cv hc => ?_⟩
  obtain ⟨c, e1, e2⟩ := h3 pos cv hc
  exact ⟨c, e1, F _ _ (ne_of e2 hd (by intro z; unfold CodeO at z; cases z)) (ne_of e2 hw (by intro z; unfold CodeO at z; cases z)) e2⟩
def spRefused (K : PySem.W.Frag) (T : List (Addr × Str)) : Sp := fun vs H Q _ => ∃ (d w c : Addr) (B : Int) (a : Addr) (xs : List V) (ss : List Str2), vs = [.ref d, .ref a] ∧ StAt H d w c B ∧ B + 20 ≤ 1000000000000 ∧ Tabs T H ∧ H a = some (.lst xs) ∧ a ≠ w ∧ Strs K H xs ss ∧ (∀ s ∈ ss, okS s) ∧ ss.length ≤ 5 ∧
  ∀ H', Tabs T H' → StAt H' d w c (B + 20) → FrX d w H H' → Q (.bl true) H'
section
variable {P : Program} {w : World} {K : PySem.W.Frag} {mg : Str → Option Value} {base : Heap}
abbrev nRef : List Str := ["_law_state", "_law_some", "_law_at", "_law_low", "_law_odd_here", "_law_due", "_law_error", "_law_bent", "_law_whole", "_law_k"]
theorem scRefused : FnScope nRef ["_law_state", "_law_some"] (defScope sRefused) := ⟨rfl, rfl, rfl, by decide +kernel, rfl, by decide +kernel, by decide +kernel⟩
/-- what Range's own methods promise, found by the class -/
structure RangeEq (P : Program) (w : World) (K : PySem.W.Frag) (mg : Str → Option Value) (base : Heap) (CR : Addr) (k : Nat) : Prop where
  ex : ∃ f fd, FnOk P w K mg base CX0 k f fd ["self", "other"] (spEqR K CR) ∧ PySem.W.findIn K (.ref CR) "__eq__" = some (some (.ref f)) ∧ PySem.W.isFn K (.ref f) = true ∧ Binds K fd ["self", "other"] []
theorem IsExc.ext {H H' : Hp} {x : V} {C : Addr} {v : V} (h : IsExc H x C (some v)) (e : ExtN H H') : IsExc H' x C (some v) := by
  obtain ⟨a, d, rfl, h1, dd, rfl, h2⟩ := h
  exact ⟨a, _, rfl, e _ _ h1 (fun ps z => exA_ne (o := .tbl ps) (fun φ y => by cases y) z), dd, rfl, e _ _ h2 fun ps z => nomatch z⟩
theorem Judged.app {H : Hp} {xs ys : List V} {bs cs : List Bool} (h : Judged K H xs bs) (g : Judged K H ys cs) : Judged K H (xs ++ ys) (bs ++ cs) := by
  refine ⟨by simp [h.len, g.len], fun i x b p q => ?_⟩
  by_cases hi : i < xs.length
  · rw [List.getElem?_append_left hi] at p
    rw [List.getElem?_append_left (by rw [← h.len]; exact hi)] at q
    exact h.at_ i x b p q
  · rw [List.getElem?_append_right (by omega)] at p
    rw [List.getElem?_append_right (by rw [← h.len]; omega), ← h.len] at q
    exact g.at_ _ x b p q
theorem judged_mem {H : Hp} {xs : List V} (h : ∀ x ∈ xs, StrB K H x true) : Judged K H xs (xs.map fun _ => true) := by
  refine ⟨by simp, fun i x b p q => ?_⟩
  rw [List.getElem?_map, p] at q
  obtain rfl := Option.some.inj q
  exact h x (List.mem_of_getElem? p)
/-- the judgements of the bent list: one is false -/
theorem bent_get (c1 c2 : List V) (i : Nat) : ((c1.map fun _ => true) ++ [false] ++ (c2.map fun _ => true))[i]? = if i = c1.length then some false else if i < c1.length + 1 + c2.length then some true else none := by
  by_cases h1 : i < c1.length
  · rw [List.append_assoc, List.getElem?_append_left (by simpa using h1), List.getElem?_map, List.getElem?_eq_getElem h1, if_neg (by omega), if_pos (by omega)]
    rfl
  · by_cases h2 : i = c1.length
    · rw [if_pos h2, List.append_assoc, List.getElem?_append_right (by simp; omega), h2]
      simp
    · rw [if_neg h2, List.getElem?_append_right (by simp; omega), List.getElem?_map]
      have e : i - ((c1.map fun _ => true) ++ [false]).length = i - c1.length - 1 := by simp; omega
      rw [e]
      by_cases h3 : i < c1.length + 1 + c2.length
      · rw [if_pos h3, List.getElem?_eq_getElem (show i - c1.length - 1 < c2.length by omega)]
        rfl
      · rw [if_neg h3, List.getElem?_eq_none (by omega)]
        rfl
theorem rngA {CR CE l x dx : Addr} {T : List (Addr × Str)} {H : Hp} {E : XK} {xs : List V} {ss : List Str2} {R : Hp → Prop} (hT : Tabs T H) (hS : SqLT K H l xs) (hl : xs.length ≤ 40) (h : Strs K H xs ss) (ok : ∀ s ∈ ss, okS s) (na : H x = none) (nd : H dx = none)
    (q : ∀ (H' : Hp) (ss' : List Str2), ExtN H H' → Tabs T H' → IsR K CR H' (.ref x) (ss'.foldl nfAdd []) → ss'.Perm ss → ss'.Pairwise (fun p q => ¬ ltV q.1 p.1) → R H') :
    spInit K T CR CE (.ref x :: ([.ref l] ++ [])) (upd (upd H dx (.own x)) x (.ins CR dx [])) (fun v H2 => v = .non ∧ R H2) E := by
  have s0 : Same H (upd (upd H dx (.own x)) x (.ins CR dx [])) := fun b o z => by rw [upd_ne (ne_of_none z na), upd_ne (ne_of_none z nd)]; exact z
  have e0 := ExtN.same s0
  refine ⟨x, dx, .ref l, rfl, upd_same, hT.ext s0, .inr ⟨l, xs, rfl, hS.ext e0, by omega, .inr ⟨hl, _, (judged_all h ok).ext e0, fun i h1 _ => ?_, fun _ => ⟨ss, h.same s0, fun H' ss' eA T' hR pm pw => ⟨rfl, q H' ss' (fun b o z n => eA b o (ne_of_none z na) (s0 _ _ z) n) T' hR pm pw⟩⟩⟩⟩⟩
  rw [List.getElem?_map] at h1
  cases e : xs[i]? with
  | none => rw [e] at h1; simp at h1
  | some x => rw [e] at h1; simp at h1
abbrev s00 : Str2 := ((0, 0, 0), none)
theorem ok00 : okS s00 := ⟨⟨Int.le_refl _, Int.le_refl _, Int.le_refl _⟩, fun u e => nomatch e⟩
theorem nf_same {ss1 ss2 ss1' ss2' : List Str2} (h1 : ss1'.Perm ss1) (h2 : ss2'.Perm ss2) (o1 : ∀ s ∈ ss1, okS s) (o2 : ∀ s ∈ ss2, okS s) (p1 : ss1'.Pairwise fun p q => ¬ ltV q.1 p.1) (p2 : ss2'.Pairwise fun p q => ¬ ltV q.1 p.1) (e : ∀ s, s ∈ ss1 ↔ s ∈ ss2) : ss1'.foldl nfAdd [] = ss2'.foldl nfAdd [] := by
  obtain ⟨a1, a2⟩ := nf_fold ss1' [] ⟨fun s h => (nomatch h), List.Pairwise.nil⟩ (fun t ht => (nomatch ht)) p1 fun s hs => o1 s (h1.mem_iff.mp hs)
  obtain ⟨b1, b2⟩ := nf_fold ss2' [] ⟨fun s h => (nomatch h), List.Pairwise.nil⟩ (fun t ht => (nomatch ht)) p2 fun s hs => o2 s (h2.mem_iff.mp hs)
  refine a1.unique b1 fun v _ => ?_
  rw [a2, b2, hasL_mem (fs := ss1') (gs := ss2') fun s => by rw [h1.mem_iff, h2.mem_iff]; exact e s]
theorem strs_rep {H : Hp} {x : V} {s : Str2} (h : IsStr K H x s) (n : Nat) : Strs K H (List.replicate n x) (List.replicate n s) := by
  refine ⟨by simp, fun i y t a b => ?_⟩
  obtain rfl := List.eq_of_mem_replicate (List.mem_of_getElem? a)
  obtain rfl := List.eq_of_mem_replicate (List.mem_of_getElem? b)
  exact h
theorem flat_rep (n : Nat) (x : V) : (List.replicate n [x]).flatten = List.replicate n x := by
  induction n with
  | zero => rfl
  | succ n ih => rw [List.replicate_succ, List.flatten_cons, ih, List.replicate_succ]; rfl
theorem ok_refused {f cd PT CR CE CK : Addr} {fd : FuncData} {k : Nat} {T : List (Addr × Str)} (ml : mg "len" = none) (mr : mg "range" = none) (mi : mg "isinstance" = none) (mv : mg "ValueError" = none) (gBR : mg "BadRange" = some (.ref CE)) (TB : TabB base mg cd PT)
    (hmT : (PT, ("_law_refused_right" : Str) ++ ".<locals>." ++ "<lambda>") ∈ T) (hu : ∀ p ∈ T, p.1 = PT → p.2 = ("_law_refused_right" : Str) ++ ".<locals>." ++ "<lambda>") (EC : ExcC K CE) (XF : XfC K CE) (hno : PySem.W.findIn K (.ref CE) "at" = some none)
    (DD : Def P w K mg base "_law_draw" CX0 (k + 3) ["_law_state", "_law_size"] spDraw) (DV : Def P w K mg base "_law_version" CX0 (k + 3) ["_law_state"] (spVersion K)) (DP : Def P w K mg base "_law_pick" CX0 (k + 3) ["_law_state", "_law_some"] spPick)
    (DS : Def P w K mg base "_law_is_stretch" CX0 (k + 3) ["_law_value"] (spStrB K)) (hsub : PySem.W.exmOne K (.ref CE) (.ref CK) = some true) (kB : PySem.W.kitOne K (.ref CE) (.ref CE) = some true) (kV : PySem.W.kitOne K (.ref CE) (.type "ValueError") = some true) (C : CaughtD K mg CK) (M : RangeMk P w K mg base CR CE T k) {f1 : Addr} {fd1 : FuncData} (F1 : FnOk P w K mg base CX0 (k + 3) f1 fd1 ["self", "other"] (spEqR K CR)) (e1 : PySem.W.findIn K (.ref CR) "__eq__" = some (some (.ref f1))) (e2 : PySem.W.isFn K (.ref f1) = true) (e3 : Binds K fd1 ["self", "other"] []) (F : FunC K "_law_refused_right" "_law_refused_right" sRefused f fd cd) :
    FnOk P w K mg base CX0 (k + 4) f fd ["_law_state", "_law_some"] (spRefused K T) := by
  refine F.ok scRefused (fun vs H Q E h => ?_) (fun A outer s H vs Q E hr h => ?_)
  · obtain ⟨d, w, c, B, a, xs, ss, rfl, _⟩ := h
    rfl
  · obtain ⟨d, w, c, B, a, xs, ss, rfl, hS, hB, hT, ha, naw, hss, oks, hlen, q⟩ := h
    refine ⟨_, pss_cons (ps_set (i := 2) scRefused.nd rfl (.inl rfl) (pe_d DD hr (pa_cons (pv 0) (pa_cons (pe_op op_add (pe_callB call_len_seq (by rfl) ml PySem.boot_len (pa_cons (pv 1) pa_nil)) pe_int) pa_nil))))
    (pss_cons (ps_set (i := 3) scRefused.nd rfl (.inl rfl) (pe_d DV hr (pa_cons (pv 0) pa_nil)))
    (pss_cons (ps_set (i := 4) scRefused.nd rfl (.inl rfl) (pe_d DP hr (pa_cons (pv 0) (pa_cons (pe_lst (pa_cons pe_non (pa_cons (pe_tup pa_nil) (pa_cons (pe_tup (pa_cons (pv 3) pa_nil)) (pa_cons (pe_lst (pa_cons (pv 3) (pa_cons pe_non pa_nil))) (pa_cons (pe_tup (pa_cons (pv 3) (pa_cons (pv 3) pa_nil)))
      (pa_cons (pe_tup (pa_cons (pv 3) (pa_cons (pe_tup (pa_cons pe_int (pa_cons pe_int (pa_cons pe_int pa_nil)))) pa_nil))) (pa_cons (pe_tup (pa_cons (pv 3) (pa_cons pe_int pa_nil))) (pa_cons (pe_tup (pa_cons pe_non (pa_cons (pv 3) pa_nil))) (pa_cons (pv 3) pa_nil)))))))))) pa_nil))))
    (pss_cons (ps_set (i := 7) scRefused.nd rfl (.inr rfl) (pe_op op_cat (pe_op op_cat (pe_slice sl_list (pv 1) po_none (po_some (pv 2))) (pe_lst (pa_cons (pv 4) pa_nil))) (pe_slice sl_list (pv 1) (po_some (pv 2)) po_none)))
    (pss_cons (ps_setLc (i := 5) (own := [("_law_k", 9)]) (g := gName 9) rfl scRefused.nd rfl rfl (sw_true rfl rfl rfl (by decide +kernel)) (pi_range1 rfl mr (pa_cons (pe_callB call_len_seq (by rfl) ml PySem.boot_len (pa_cons (pv 7) pa_nil)) pa_nil)) (blkOk_by (N := nRef) (sc := defScope sRefused) (by decide +kernel))
      (fun _ _ _ _ _ => pg_name (i := 9) scRefused.nd rfl (Or.inl rfl)) (fun _ _ _ _ _ => pts_one (pt_not (pt_val (pe_d DS hr (pa_cons (pe_ix (r := rIxL K) ix_list (pv 7) (pv 9) (fun _ _ => rfl)) pa_nil))))) (fun _ _ _ _ _ => pv 9))
    (pss_cons (ps_set (i := 6) scRefused.nd rfl (.inl rfl) (pe_caughtR (i := 7) C M TB rfl hmT hu hr (lamS_by rfl) rfl (fun _ _ _ _ _ => rfl) rfl (.inr (.inr rfl)) (fun _ _ _ _ _ _ _ => rfl) rfl))
    (pss_cons (ps_if (PW.pt (pw_and (pt_cmpR (op_eqD hr.units) (pv 5) (pe_lst pa_nil) (nomark _)) (pw_and1 (pt_cmpR op_notN (pv 6) pe_non (nomark _))))) (pss_one (ps_ret pe_bl)) pss_nil)
    (pss_cons (ps_if (PW.pt (pw_and (pt_cmpR (op_neD hr.units) (pv 5) (pe_lst pa_nil) (nomark _)) (pw_and1 (pt_not (PW.pt (pw_and (pt_val (pe_callB (call_isX EC) (by rfl) mi (by decide +kernel) (pa_cons (pv 6) (pa_cons (pe_glob (v := .ref CE) (by rfl) gBR rfl) pa_nil)))) (pw_and1 (pt_val (pe_callB (call_isX EC) (by rfl) mi (by decide +kernel) (pa_cons (pv 6) (pa_cons (pe_bltn (v := .ty "ValueError") (by rfl) mv (by decide +kernel) rfl) pa_nil))))))))))) (pss_one (ps_ret pe_bl)) pss_nil)
    (pss_cons (ps_if (PW.pt (pw_and (pt_cmpR (op_neD hr.units) (pv 5) (pe_lst pa_nil) (nomark _)) (pw_and1 (pt_cmpR op_ne (pe_xat XF hno (pv 6)) (pe_ix ix_list (pv 5) pe_int (fun _ _ => rfl)) (nomark _))))) (pss_one (ps_ret pe_bl)) pss_nil)
    (pss_cons (ps_set (i := 8) scRefused.nd rfl (.inr rfl) (pe_d DP hr (pa_cons (pv 0) (pa_cons (pe_lst (pa_cons pe_non (pa_cons pe_int (pa_cons pe_str (pa_cons pe_dnewK (pa_cons (pe_op op_rep (pe_lst (pa_cons (pe_tup (pa_cons (pe_tup (pa_cons pe_int (pa_cons pe_int (pa_cons pe_int pa_nil)))) (pa_cons pe_non pa_nil))) pa_nil)) pe_int) pa_nil)))))) pa_nil))))
    (pss_cons (ps_set (i := 6) scRefused.nd rfl (.inl rfl) (pe_caughtR (i := 8) C M TB rfl hmT hu hr (lamS_by rfl) rfl (fun _ _ _ _ _ => rfl) rfl (.inr (.inr rfl)) (fun _ _ _ _ _ _ _ => rfl) rfl))
    (pss_cons (ps_if (PW.pt (pw_or (pt_not (pt_val (pe_callB (call_isX EC) (by rfl) mi (by decide +kernel) (pa_cons (pv 6) (pa_cons (pe_glob (v := .ref CE) (by rfl) gBR rfl) pa_nil))))) (pw_or1 (pt_cmpR op_notN (pe_xat XF hno (pv 6)) pe_non (nomark _))))) (pss_one (ps_ret pe_bl)) pss_nil)
    (pss_one (ps_ret (pe_cmpR (op_eqO F1 hr e1 e2 e3 pass0) (pe_rng M (hr.mono (by omega)) passL (pa_cons (pe_op op_rep (pe_lst (pa_cons (pe_tup (pa_cons (pe_tup (pa_cons pe_int (pa_cons pe_int (pa_cons pe_int pa_nil)))) (pa_cons pe_non pa_nil))) pa_nil)) pe_int) pa_nil))
      (pe_rng M (hr.mono (by omega)) passL (pa_cons (pe_lst (pa_cons (pe_tup (pa_cons (pe_tup (pa_cons pe_int (pa_cons pe_int (pa_cons pe_int pa_nil)))) (pa_cons pe_non pa_nil))) pa_nil)) pa_nil)) (nomark _))))))))))))))), ?_⟩
    have hlx : xs.length ≤ 5 := by rw [hss.len]; exact hlen
    refine ⟨_, rfl, _, rfl, a, xs, rfl, .inl (SqL.of ha), _, 1, rfl, rfl, d, w, c, B, xs.length + 1, rfl, hS, by omega, by omega, by omega, fun H1 z hz0 hz1 S1 F1 => ?_⟩
    obtain ⟨n, rfl⟩ : ∃ n : Nat, z = (n : Int) := ⟨z.toNat, by omega⟩
    refine ⟨_, rfl, d, w, c, B + 1, rfl, S1, by omega, fun H2 p v okv _ _ _ np hp S2 F2 => ?_⟩
    refine ⟨_, rfl, Nat.zero_le _, fun q1 m1 => ⟨_, rfl, by show 1 ≤ sizeLine; decide, fun q2 m2 => ⟨_, rfl, by show 2 ≤ sizeLine; decide, fun q3 m3 => ⟨_, rfl, _, rfl, by show 2 ≤ sizeLine; decide, fun q4 m4 => ⟨_, rfl, by show 3 ≤ sizeLine; decide, fun q5 m5 => ⟨by show 2 ≤ sizeLine; decide, fun q6 m6 => ⟨_, rfl, by show 2 ≤ sizeLine; decide, fun q7 m7 => ⟨_, rfl, by show 2 ≤ sizeLine; decide, fun q8 m8 => ⟨_, rfl, by show 9 ≤ sizeLine; decide, fun q9 m9 => ?_⟩⟩⟩⟩⟩⟩⟩⟩⟩
    have t1 := same_upd (o := .tup []) m1
    have t2 := same_upd (o := .tup [.ref p]) m2
    have t3 := same_upd (o := .lst [.ref p, .non]) m3
    have t4 := same_upd (o := .tup [.ref p, .ref p]) m4
    have t5 := same_upd (o := .tup (v3 (0, 0, 0))) m5
    have t6 := same_upd (o := .tup [.ref p, .ref q5]) m6
    have t7 := same_upd (o := .tup [.ref p, .int 5]) m7
    have t8 := same_upd (o := .tup [.non, .ref p]) m8
    generalize hG : upd (upd (upd (upd (upd (upd (upd (upd (upd H2 q1 _) q2 _) q3 _) q4 _) q5 _) q6 _) q7 _) q8 _) q9 _ = G
    have t9 : Same (upd (upd (upd (upd (upd (upd (upd (upd H2 q1 (.tup [])) q2 (.tup [.ref p])) q3 (.lst [.ref p, .non])) q4 (.tup [.ref p, .ref p])) q5 (.tup (v3 (0, 0, 0)))) q6 (.tup [.ref p, .ref q5])) q7 (.tup [.ref p, .int 5])) q8 (.tup [.non, .ref p])) G := by rw [← hG]; exact same_upd m9
    have g9 : G q9 = some (.lst [.non, .ref q1, .ref q2, .ref q3, .ref q4, .ref q6, .ref q7, .ref q8, .ref p]) := by rw [← hG]; exact upd_same
    have sG : Same H2 G := (((((((t1.trans t2).trans t3).trans t4).trans t5).trans t6).trans t7).trans t8).trans t9
    have g1 : G q1 = some (.tup []) := t9 _ _ (t8 _ _ (t7 _ _ (t6 _ _ (t5 _ _ (t4 _ _ (t3 _ _ (t2 _ _ upd_same)))))))
    have g2 : G q2 = some (.tup [.ref p]) := t9 _ _ (t8 _ _ (t7 _ _ (t6 _ _ (t5 _ _ (t4 _ _ (t3 _ _ upd_same))))))
    have g3 : G q3 = some (.lst [.ref p, .non]) := t9 _ _ (t8 _ _ (t7 _ _ (t6 _ _ (t5 _ _ (t4 _ _ upd_same)))))
    have g4 : G q4 = some (.tup [.ref p, .ref p]) := t9 _ _ (t8 _ _ (t7 _ _ (t6 _ _ (t5 _ _ upd_same))))
    have g5 : G q5 = some (.tup (v3 (0, 0, 0))) := t9 _ _ (t8 _ _ (t7 _ _ (t6 _ _ upd_same)))
    have g6 : G q6 = some (.tup [.ref p, .ref q5]) := t9 _ _ (t8 _ _ (t7 _ _ upd_same))
    have g7 : G q7 = some (.tup [.ref p, .int 5]) := t9 _ _ (t8 _ _ upd_same)
    have g8 : G q8 = some (.tup [.non, .ref p]) := t9 _ _ upd_same
    have gp : G p = some (.tup (v3 v)) := sG _ _ hp
    have f3 : H2 q3 = none := t1.free (t2.free m3)
    have f9 : H2 q9 = none := t1.free (t2.free (t3.free (t4.free (t5.free (t6.free (t7.free (t8.free m9)))))))
    clear hG
    have SG := S2.same sG
    obtain ⟨ys, hw2⟩ := S2.hw
    have n9 : q9 ≠ w := (ne_of_none hw2 f9).symm
    have n3 : q3 ≠ w := (ne_of_none hw2 f3).symm
    have F02 : Fr2 d w H G := (F1.trans F2).trans (.ofSame sG)
    refine ⟨d, w, c, B + 1 + 3, q9, _, rfl, SG, by omega, g9, n9, by simp, by simp, fun H3 i x hx S3 F3 => ?_⟩
    have F03 : Fr2 d w H H3 := F02.trans F3
    have hT3 : Tabs T H3 := Tabs.fr2 hT hS F03
    have ha3 : H3 a = some (.lst xs) := F03.lst hS ha naw
    have hss3 : Strs K H3 xs ss := hss.fr hS F03
    have iv : IsVer K H3 (.ref p) v := IsVer.of (F3.tup SG gp)
    have hb : StrB K H3 x false := by
      have hm := List.mem_of_getElem? hx
      simp only [List.mem_cons, List.not_mem_nil, or_false] at hm
      rcases hm with rfl | rfl | rfl | rfl | rfl | rfl | rfl | rfl | rfl
      · exact .oth (.flat .non)
      · exact .len (.inl (.inl (F3.tup SG g1))) (by simp)
      · exact .len (.inl (.inl (F3.tup SG g2))) (by simp)
      · exact .oth (.lst (F3.lst SG g3 n3))
      · have e : decide (ltV v v) = false := decide_eq_false (ltV_irrefl v)
        rw [← e]
        exact .both (.inl (.inl (F3.tup SG g4))) iv okv iv okv
      · have e : decide (ltV v (0, 0, 0)) = false := decide_eq_false (by
          obtain ⟨o1, o2, o3⟩ := okv
          unfold ltV
          simp only
          omega)
        rw [← e]
        exact .both (v := v) (u := (0, 0, 0)) (.inl (.inl (F3.tup SG g6))) iv okv (IsVer.of (F3.tup SG g5)) ⟨Int.le_refl _, Int.le_refl _, Int.le_refl _⟩
      · exact .snd (.inl (.inl (F3.tup SG g7))) iv okv (by intro z; cases z) (.oth (.flat (.int 5)))
      · exact .fst (.inl (.inl (F3.tup SG g8))) (.oth (.flat .non))
      · exact .len (.inl (.inl (F3.tup SG gp))) (by simp)
    -- the bent list
    refine ⟨_, rfl, _, rfl, _, rfl, a, xs, rfl, SqL.of ha3, fun r1 k1 => ⟨_, rfl, by show 1 ≤ sizeLine; decide, fun r2 k2 => ?_⟩⟩
    have hc1 : ∀ y ∈ cutV xs none (some (n : Int)), y ∈ xs := fun y hy => List.mem_of_mem_drop (List.mem_of_mem_take hy)
    have hc2 : ∀ y ∈ cutV xs (some (n : Int)) none, y ∈ xs := fun y hy => List.mem_of_mem_drop (List.mem_of_mem_take hy)
    have hl1 := cutV_length xs none (some (n : Int))
    have hl2 := cutV_length xs (some (n : Int)) none
    generalize cutV xs none (some (n : Int)) = c1 at hc1 hl1 k2
    have u1 := same_upd (o := .lst c1) k1
    have u2 := same_upd (o := .lst [x]) k2
    refine ⟨r1, r2, _, _, rfl, rfl, u2 _ _ upd_same, upd_same, Nat.le_of_lt (small1000 (by simp; omega)), fun r3 k3 => ?_⟩
    have u3 := same_upd (o := .lst (c1 ++ [x])) k3
    refine ⟨_, rfl, _, rfl, _, rfl, a, xs, rfl, SqL.of (u3 _ _ (u2 _ _ (u1 _ _ ha3))), fun r4 k4 => ?_⟩
    generalize cutV xs (some (n : Int)) none = c2 at hc2 hl2
    have u4 := same_upd (o := .lst c2) k4
    refine ⟨r3, r4, _, _, rfl, rfl, u4 _ _ upd_same, upd_same, Nat.le_of_lt (small1000 (by simp; omega)), fun r5 k5 => ?_⟩
    have u5 := same_upd (o := .lst ((c1 ++ [x]) ++ c2)) k5
    have uA : Same H3 _ := (((u1.trans u2).trans u3).trans u4).trans u5
    generalize hG4 : upd (upd (upd (upd (upd H3 r1 _) r2 _) r3 _) r4 _) r5 _ = G4
    have uG : Same H3 G4 := by rw [← hG4]; exact uA
    have g5' : G4 r5 = some (.lst ((c1 ++ [x]) ++ c2)) := by rw [← hG4]; exact upd_same
    clear hG4
    have hlb : ((c1 ++ [x]) ++ c2).length = c1.length + 1 + c2.length := by simp; omega
    have hok : ∀ y ∈ xs, StrB K G4 y true := fun y hy => by
      obtain ⟨i, hi⟩ := List.getElem?_of_mem hy
      obtain ⟨st, hst, ist⟩ := (hss3.same uG).get hi
      exact .of ist (oks st (List.mem_of_getElem? hst))
    have hj : Judged K G4 ((c1 ++ [x]) ++ c2) ((c1.map fun _ => true) ++ [false] ++ (c2.map fun _ => true)) := ((judged_mem fun y hy => hok y (hc1 y hy)).app ⟨rfl, fun i y b p q => by
      cases i with
      | zero =>
        simp at p q
        subst p q
        exact hb.ext (ExtN.same uG)
      | succ i => simp at p⟩).app (judged_mem fun y hy => hok y (hc2 y hy))
    refine ⟨_, rfl, r5, _, rfl, .inl (SqL.of g5'), ((((c1 ++ [x]) ++ c2).length : Nat) : Int), rfl, by omega, by omega, fun D hD => ?_⟩
    refine lc_range (lo := 0) (n := ((((c1 ++ [x]) ++ c2).length : Nat) : Int).toNat) (fun i H' => Same G4 H' ∧ H' D = some (.lst ((if i ≤ c1.length then [] else [(c1.length : Int)]).map V.int))) ⟨same_upd hD, by rw [if_pos (Nat.zero_le _)]; exact upd_same⟩ ?_ ?_
    · rintro i H4 hi ⟨s4, h4⟩
      rw [Int.toNat_natCast] at hi
      refine ⟨rfl, ?_⟩
      have ei : (0 + (i : Int)) = ((i : Nat) : Int) := by omega
      have gx := List.getElem?_eq_getElem hi
      have gb := bent_get c1 c2 i
      rw [hlb] at hi
      refine ⟨_, rfl, _, rfl, r5, _, _, _, rfl, rfl, SqL.of (s4 _ _ g5'), by rw [ei]; exact atI_nat gx, _, !decide (i = c1.length), rfl, ?_, fun H5 s5 => ⟨_, rfl, ?_⟩⟩
      · refine (hj.ext (ExtN.same s4)).at_ i _ _ gx ?_
        rw [gb]
        by_cases e : i = c1.length
        · rw [if_pos e]; simp [e]
        · rw [if_neg e, if_pos hi]; simp [e]
      · by_cases e : i = c1.length
        · have e1 : decide (i = c1.length) = true := decide_eq_true e
          rw [e1]
          refine iteT ⟨_, rfl, _, s5 _ _ h4, ?_, ?_⟩
          · rw [if_pos (by omega)]; decide
          · refine ⟨fun b o y => by rw [upd_ne (ne_of_none y hD)]; exact s5 _ _ (s4 _ _ y), ?_⟩
            rw [upd_same, if_pos (by omega), if_neg (by omega), ei, e]
            rfl
        · have e1 : decide (i = c1.length) = false := decide_eq_false e
          rw [e1]
          refine iteF ⟨s4.trans s5, ?_⟩
          rw [s5 _ _ h4]
          congr 3
          by_cases e2 : i ≤ c1.length
          · rw [if_pos e2, if_pos (by omega)]
          · rw [if_neg e2, if_neg (by omega)]
    · rintro H4 ⟨s4, h4⟩
      rw [Int.toNat_natCast, hlb, if_neg (by omega)] at h4
      refine caught_read hsub rfl ((hT3.ext uG).ext s4) (.inl (SqL.of (s4 _ _ g5'))) (by rw [hlb]; omega) (hj.ext (ExtN.same s4)) (fun i hb0 _ H5 y e5 T5 hx5 => ?_) (fun all => ?_)
      · have him : i = c1.length := by
          rw [bent_get] at hb0
          by_cases e : i = c1.length
          · exact e
          · rw [if_neg e] at hb0
            split at hb0 <;> cases hb0
        subst him
        have h5 := e5 _ _ h4 fun ps z => nomatch z
        -- due == [] is False
        refine ⟨_, rfl, Nat.zero_le _, fun l1 n1 => ?_⟩
        have w1 := same_upd (o := .lst []) n1
        refine ⟨_, _, .lst (SqL.of (w1 _ _ h5)) (dp_ints _), .lst (SqL.of upd_same) .nil, shaped_ints _, shaped_nil, _, rfl, iteF (iteF ?_)⟩
        -- due != [], the error is BadRange and ValueError
        refine ⟨_, rfl, Nat.zero_le _, fun l2 n2 => ?_⟩
        have w2 := same_upd (o := .lst []) n2
        have hx6 := hx5.ext (ExtN.same (w1.trans w2))
        refine ⟨_, _, .lst (SqL.of (w2 _ _ (w1 _ _ h5))) (dp_ints _), .lst (SqL.of upd_same) .nil, shaped_ints _, shaped_nil, _, rfl, iteT ?_⟩
        refine ⟨_, rfl, y, .ref CE, some (.int (c1.length : Int)), .ref CE, true, rfl, hx6, .own _, kB, _, rfl, iteT ⟨_, rfl, y, .ty "ValueError", some (.int (c1.length : Int)), .type "ValueError", true, rfl, hx6, .ty _, kV, _, rfl, iteF ?_⟩⟩
        -- error.at is due[0]
        refine ⟨_, rfl, Nat.zero_le _, fun l3 n3' => ?_⟩
        have w3 := same_upd (o := .lst []) n3'
        refine ⟨_, _, .lst (SqL.of (w3 _ _ (w2 _ _ (w1 _ _ h5)))) (dp_ints _), .lst (SqL.of upd_same) .nil, shaped_ints _, shaped_nil, _, rfl, iteT ?_⟩
        refine ⟨_, rfl, .int (c1.length : Int), hx6.ext (ExtN.same w3), _, rfl, D, _, 0, .int (c1.length : Int), rfl, rfl, SqL.of (w3 _ _ (w2 _ _ (w1 _ _ h5))), atI_nat (j := 0) rfl, rfl, _, rfl, ?_⟩
        have en : (!decide (V.int (c1.length : Int) = V.int (c1.length : Int))) = false := by simp
        rw [en]
        refine iteF ?_
        have S6 : StAt _ d w c (B + 1 + 3 + 1) := ((((((S3.same uG).same s4).ext e5).same w1).same w2).same w3)
        have T6 : Tabs T _ := ((T5.ext w1).ext w2).ext w3
        have X6 : FrX d w H _ := (FrX.of2 F03).trans (FrX.ofN ((((((ExtN.same uG).trans (ExtN.same s4)).trans e5).trans (ExtN.same w1)).trans (ExtN.same w2)).trans (ExtN.same w3)))
        generalize hJ : upd (upd (upd H5 l1 _) l2 _) l3 _ = J at S6 T6 X6
        clear hJ
        refine ⟨_, rfl, fun z1 y1 => ⟨by show 3 ≤ sizeLine; decide, fun z2 y2 => ⟨by show 2 ≤ sizeLine; decide, fun z3 y3 => ⟨by show 1 ≤ sizeLine; decide, fun z4 y4 => ⟨z4, 41, [.ref z3], rfl, rfl, upd_same, by decide, by decide, by show 1 * 41 ≤ sizeLine; decide, fun z5 y5 => ⟨by show 5 ≤ sizeLine; decide, fun z6 y6 => ?_⟩⟩⟩⟩⟩⟩
        have a1 := same_upd (o := .dK []) y1
        have a2 := same_upd (o := .tup (v3 (0, 0, 0))) y2
        have a3 := same_upd (o := .tup [.ref z2, .non]) y3
        have a4 := same_upd (o := .lst [.ref z3]) y4
        have a5 := same_upd (o := .lst (List.replicate (Int.toNat 41) [V.ref z3]).flatten) y5
        have a6 := same_upd (o := .lst [.non, .int 5, .str "all", .ref z1, .ref z5]) y6
        have aA : Same J _ := ((((a1.trans a2).trans a3).trans a4).trans a5).trans a6
        have b1 := a6 _ _ (a5 _ _ (a4 _ _ (a3 _ _ (a2 _ _ (upd_same (H := J) (a := z1) (o := .dK []))))))
        have b5 := a6 _ _ (upd_same (H := upd (upd (upd (upd J z1 (.dK [])) z2 (.tup (v3 (0, 0, 0)))) z3 (.tup [.ref z2, .non])) z4 (.lst [.ref z3])) (a := z5) (o := .lst (List.replicate (Int.toNat 41) [V.ref z3]).flatten))
        have f1 : J z1 = none := y1
        have f5 : J z5 = none := a1.free (a2.free (a3.free (a4.free y5)))
        have f6 : J z6 = none := a1.free (a2.free (a3.free (a4.free (a5.free y6))))
        obtain ⟨kvs, hdJ⟩ := S6.hd
        obtain ⟨ws7, hwJ⟩ := S6.hw
        refine ⟨d, w, c, B + 1 + 3 + 1, z6, _, rfl, S6.same aA, by omega, upd_same, (ne_of_none hwJ f6).symm, by simp, by simp, fun H7 i2 x2 hx2 S7 F7 => ?_⟩
        have T7 : Tabs T H7 := Tabs.fr2 (T6.ext aA) (S6.same aA) F7
        have hx7 : (∃ T', NoLT H7 x2 T') ∨ ∃ l xs, x2 = .ref l ∧ SqLT K H7 l xs ∧ xs.length ≤ 1000 ∧ 40 < xs.length := by
          have hm := List.mem_of_getElem? hx2
          simp only [List.mem_cons, List.not_mem_nil, or_false] at hm
          rcases hm with rfl | rfl | rfl | rfl | rfl
          · exact .inl ⟨_, .flat .non⟩
          · exact .inl ⟨_, .flat (.int 5)⟩
          · exact .inl ⟨_, .flat (.str _)⟩
          · exact .inl ⟨_, .dct (F7 _ _ (ne_of_none hdJ f1).symm (ne_of_none hwJ f1).symm b1)⟩
          · exact .inr ⟨z5, _, rfl, .inl (SqL.of (F7.lst (S6.same aA) b5 (ne_of_none hwJ f5).symm)), by rw [flat_rep]; simp, by rw [flat_rep]; simp⟩
        refine caught_none hsub rfl T7 hx7 fun H8 y8 e8 T8 hx8 => ?_
        refine ⟨_, rfl, y8, .ref CE, some .non, .ref CE, true, rfl, hx8, .own _, kB, _, rfl, iteF ⟨_, rfl, .non, hx8, rfl, _, rfl, iteF ?_⟩⟩
        have S8 := S7.ext e8
        have X8 : FrX d w H H8 := ((X6.trans (FrX.ofN (ExtN.same aA))).trans (FrX.of2 F7)).trans (FrX.ofN e8)
        refine ⟨by show 3 ≤ sizeLine; decide, fun r1' m1' => ⟨by show 2 ≤ sizeLine; decide, fun r2' m2' => ⟨by show 1 ≤ sizeLine; decide, fun r3' m3' => ⟨r3', 40, [.ref r2'], rfl, rfl, upd_same, by decide, by decide, by show 1 * 40 ≤ sizeLine; decide, fun r4' m4' => ?_⟩⟩⟩⟩
        have k1' := same_upd (o := .tup (v3 (0, 0, 0))) m1'
        have k2' := same_upd (o := .tup [.ref r1', .non]) m2'
        have k3' := same_upd (o := .lst [.ref r2']) m3'
        have k4' := same_upd (o := .lst (List.replicate (Int.toNat 40) [V.ref r2']).flatten) m4'
        have kA := ((k1'.trans k2').trans k3').trans k4'
        have is1 : IsStr K _ (.ref r2') s00 := ⟨r2', .ref r1', .non, rfl, .inl (.inl (k4' _ _ (k3' _ _ upd_same))), IsVer.of (k4' _ _ (k3' _ _ (k2' _ _ upd_same))), rfl⟩
        intro x9 dy9 na9 nd9 ne9
        refine rngA (T8.ext kA) (.inl (SqL.of upd_same)) (by rw [flat_rep]; simp) (by rw [flat_rep]; exact strs_rep is1 _) (fun s hs => by rw [List.eq_of_mem_replicate hs]; exact ok00) na9 nd9 fun H9 ss9 e9 T9 R9 pm9 pw9 => ?_
        refine ⟨by show 3 ≤ sizeLine; decide, fun r1 m1 => ⟨by show 2 ≤ sizeLine; decide, fun r2 m2 => ⟨by show 1 ≤ sizeLine; decide, fun r3 m3 => ?_⟩⟩⟩
        have j1 := same_upd (o := .tup (v3 (0, 0, 0))) m1
        have j2 := same_upd (o := .tup [.ref r1, .non]) m2
        have j3 := same_upd (o := .lst [.ref r2]) m3
        have jA := (j1.trans j2).trans j3
        have is2 : IsStr K _ (.ref r2) s00 := ⟨r2, .ref r1, .non, rfl, .inl (.inl (j3 _ _ upd_same)), IsVer.of (j3 _ _ (j2 _ _ upd_same)), rfl⟩
        intro x10 dy10 na10 nd10 ne10
        refine rngA (xs := [.ref r2]) (T9.ext jA) (.inl (SqL.of upd_same)) (by simp) (strs_rep is2 1) (fun s hs => by rw [List.eq_of_mem_replicate hs]; exact ok00) na10 nd10 fun H10 ss10 e10 T10 R10 pm10 pw10 => ?_
        have R9' := R9.ext ((ExtN.same jA).trans e10)
        have nfe : ss9.foldl nfAdd [] = ss10.foldl nfAdd [] := nf_same pm9 pm10 (fun s hs => by rw [List.eq_of_mem_replicate hs]; exact ok00) (fun s hs => by rw [List.eq_of_mem_replicate hs]; exact ok00) pw9 pw10 fun s => by simp [List.mem_replicate]
        rw [nfe] at R9'
        obtain ⟨a9, dx9, t9', zs9, e9', h9, h9a, h9b⟩ := id R9'
        obtain ⟨a10, dx10, t10', zs10, e10', h10, h10a, h10b⟩ := id R10
        cases e9'
        cases e10'
        refine ⟨x9, dx9, _, .ref CR, rfl, h9, .ins h10, by simp [PySem.W.notFirst], _, _, rfl, .inl ⟨_, R9', R10, true, rfl, ?_⟩⟩
        refine q H10 T10 (((((S8.same kA).ext e9).same jA).ext e10).mono (by omega)) (((((X8.trans (FrX.ofN (ExtN.same kA))).trans (FrX.ofN e9)).trans (FrX.ofN (ExtN.same jA))).trans (FrX.ofN e10)))
      · simp at all
end
end Kw
set_option maxHeartbeats 1000000
namespace Kw
open PySem PySem.Spec PyProof.Rows L2 LamX
/-! ### a def promised where no repr is under way -/
structure FnOkG (P : Program) (w : World) (K : PySem.W.Frag) (mg : Str → Option Value) (base : Heap) (CX : CXT) (k : Nat) (f : Addr) (fd : FuncData) (ps : List Str) (sp : Sp) : Prop where
  len : ∀ vs H Q E, sp vs H Q E → vs.length = ps.length
  run : ∀ (A : Around) (outer : List Env) (s : Shared) (H : Hp) (args : Args) (us : List Value) (vs : List V) (Q : VK) (E : XK), A.guards = some [] → Room k A → Env0 P w K mg base A outer s H → BindsTo s fd args (ps.zip us) → Vals vs us → sp vs H Q E → codeAny (model P w) A (.call (.ref f) args) (CR CX outer P w H s Q E) s
section
variable {P : Program} {w : World} {K : PySem.W.Frag} {mg : Str → Option Value} {base : Heap}
theorem FunC.okG {x qual : Str} {st : Stmt} {f : Addr} {fd : FuncData} {cd : Addr} {N ps : List Str} {k : Nat} {sp : Sp} (F : FunC K x qual st f fd cd) (S : FnScope N ps (defScope st)) (len : ∀ vs H Q E, sp vs H Q E → vs.length = ps.length)
    (body : ∀ (A : Around) (outer : List Env) (s : Shared) (H : Hp) (vs : List V) (Q : VK) (E : XK), (A.deeper (envOfC qual (defScope st) s.heap.objs.size f (.ref cd))).guards = some [] → Room k (A.deeper (envOfC qual (defScope st) s.heap.objs.size f (.ref cd))) → sp vs H Q E →
      ∃ t, PSs (cxOf CX0 P w K mg base N qual (defScope st) f (.ref cd) A outer s H E).nox (defBody st) t ∧ t { nx := fun _ H' => Q .non H', rt := Q } (L2.start N vs) H) : FnOkG P w K mg base CX0 (k + 1) f fd ps sp := by
  obtain ⟨oc, od, kV, doc, pm, an, ct, osl, rfl, lk, hcd⟩ := F.ex
  refine ⟨len, fun A outer s H args us vs Q E hgd hr e0 hb r hsp => ?_⟩
  have old : ∀ b o, base.get? b = some o → s.heap.get? b = some o := fun b o q => (e0.bs b o q).1
  have kin := e0.mod.kin.keeps old
  have nl := e0.mod.nolimit.keeps old
  have lens := len vs H Q E hsp
  have kinds : ∀ y ∈ ps.zip us, (defScope st).names.lookup y.1 = some .local ∨ ((defScope st).names.lookup y.1 = some .cell ∧ ((cellsFrom (s.heap.objs.size + 1) (defScope st).names []).lookup y.1).isSome = true) := fun ⟨n, v⟩ hy =>
    (S.par n (List.of_mem_zip hy).1).elim (fun q => .inl q) fun q => .inr ⟨q, PySem.W.cellsFrom_some _ _ _ (.inl q)⟩
  refine codeAny_call_function hr.depth (kin _ _ lk) rfl S.co S.gen rfl (PySem.W.codeRec_of kin hcd) (hb _ _ _ _ (wpAny_newFunctionEnv_cells S.kind kinds fun env he s1 x => ?_))
  subst he
  obtain ⟨t, ht, hq⟩ := body A outer s H vs Q E hgd (hr.deeper _) hsp
  refine ⟨nl.keeps x.toInCall.keep, codeAny_func (wpAny_mono (ht.nox.run [] s1 (L2.start N vs) H _ (inv_start S hr.hd e0 lens r x) hq) (fun fl s' hs => ?_) fun e s' hs => hs)⟩
  cases fl with
  | ret u =>
    obtain ⟨v, σ', H', J, rv, q⟩ := hs
    exact ⟨v, H', J.os, J.bare, J.base, J.hok, rv, q⟩
  | next =>
    obtain ⟨σ', H', J, q⟩ := hs
    exact ⟨V.non, H', J.os, J.bare, J.base, J.hok, rfl, q⟩
  | brk => obtain ⟨_, _, _, q⟩ := hs; exact False.elim q
  | cont => obtain ⟨_, _, _, q⟩ := hs; exact False.elim q
end
/-- the text of [b1, b2] -/
def twoB (b1 b2 : Bool) : Str := (PyData.list [.bool b1, .bool b2]).shown
theorem cr_repr2 {X : Cx} {k : Nat} (hg : X.A.guards = some []) (hr : Room k X.A) : CallR X (.builtin "repr") (fun xs H Q => ∃ a b1 b2, xs = [.ref a] ∧ SqL X.K H a [.bl b1, .bl b2] ∧ Q (.str (twoB b1 b2)) H) := by
  intro pins s σ H xs us Q I r h
  obtain ⟨a, b1, b2, rfl, hl, q⟩ := h
  have hd : Dp X.K H (.ref a) (.list [.bool b1, .bool b2]) := .lst hl (.cons (.bl b1) (.cons (.bl b2) .nil))
  rw [Vals.ref1 r]
  obtain ⟨as, rd⟩ := Dp.reads I _ _ _ hd (show RelV (.ref a) (.ref a) from rfl)
  refine repr_of_reads' rd ?_ ?_ hg ?_ (fun b o z => z) (fun h' u tk kp => ⟨.str (twoB b1 b2), H, I.kept kp, ⟨u, rfl⟩, q⟩) ?_
  · cases b1 <;> cases b2 <;> decide +kernel
  · intro z
    have e : (PyData.list [.bool b1, .bool b2]).hasDict = false := by cases b1 <;> cases b2 <;> decide +kernel
    rw [e] at z
    cases z
  · have := hr.un
    have e : (PyData.list [.bool b1, .bool b2]).depth = 1 := by cases b1 <;> cases b2 <;> decide +kernel
    rw [e]
    omega
  · cases b1 <;> cases b2 <;> decide +kernel
end Kw
set_option maxHeartbeats 1000000
namespace Kw
open PySem PySem.Spec PyProof.Rows L2 LamX
/-! ### _law_caught(lambda: next_version(y)) -/
abbrev tCaughtN (K : PySem.W.Frag) (T : List (Addr × Str)) (CV CK : Addr) (i : Nat) : TE := tLam T (TTc K CK) fun E => tCall (spNextV K CV) [] E (tCons (tVar i) tNil)
/-- of what is no version: BadVersion was caught -/
theorem caughtN_read {K : PySem.W.Frag} {H : Hp} {σ : L2.St} {i : Nat} {CV CK : Addr} {T : List (Addr × Str)} {Q : VK} {x : V} (hsub : PySem.W.exmOne K (.ref CV) (.ref CK) = some true) (hi : σ[i]? = some (some x)) (hT : Tabs T H) (hx : VerB K H x false)
    (q : ∀ (H' : Hp) (y : V), ExtN H H' → Tabs T H' → IsExc H' y CV none → Q y H') : tCaughtN K T CV CK i σ H Q := by
  refine ⟨hT, fun H1 e1 T1 => ?_⟩
  show tCall (spNextV K CV) [] (fun cls d H' => PySem.W.exmOne K cls (.ref CK) = some true ∧ ∀ a, H' a = none → Q (.ref a) (upd H' a (exA cls d a))) (tCons (tVar i) tNil) σ H1 (fun _ H' => ∃ x, (some (some V.non) : Option (Option V)) = some (some x) ∧ Q x H')
  refine ⟨x, hi, x, rfl, .inr ⟨hx.ext e1, fun H' s1 => ⟨hsub, fun a ha => ?_⟩⟩⟩
  have s2 := same_upd (o := exA (.ref CV) none a) ha
  exact q _ (.ref a) ((e1.trans (ExtN.same s1)).trans (ExtN.same s2)) ((T1.ext s1).ext s2) ⟨a, none, rfl, upd_same, rfl⟩
section
variable {X : Cx} {CV CK : Addr} {T : List (Addr × Str)} {k i : Nat}
theorem pe_caughtN {c PT : Addr} {y : Str} {params : Arguments} {scope : Scope} {p p1 p2 p3 lpos pos : Pos} (C : CaughtD X.K X.mg CK) (D : DefX X.prog X.w X.K X.mg X.base "next_version" k ["version"] (spNextV X.K CV)) (TB : TabB X.base X.mg c PT) (hcode : X.env.code = .ref c) (hmT : (PT, X.env.qual ++ "<lambda>") ∈ T)
    (hu : ∀ p ∈ T, p.1 = PT → p.2 = X.env.qual ++ "<lambda>") (hr : Room (k + 2) X.A) (L : LamS X.env.scope scope) (hdef : defaultsOf params X.env = ([], []))
    (hbind : ∀ (q : Str) (cl : List (Str × Addr)) (pm cv ctv : Value), bindArgs (PySem.W.kla_fn "<lambda>" q params (.Call (.Name "next_version" p1) [.Name y p2] [] p3) scope cl pm cv ctv) ⟨[], []⟩ = pure []) (hN : X.N[i]? = some y) (hv : Vis scope y)
    (hgl : ∀ (A : Around) (outer : List Env) (s : Shared) (H : Hp) (E : XK) (f c' : Addr), Gl (lamCx X A outer s H E scope f c') "next_version") (hg : Gl X "_law_caught") (hd : (y == ("__debug__" : Str)) = false := by decide) (hcd : (y == ("__classdict__" : Str)) = false := by decide) :
    PE X (.Call (.Name "_law_caught" p) [.Lambda params (.Call (.Name "next_version" p1) [.Name y p2] [] p3) scope lpos] [] pos) (tCaughtN X.K T CV CK i) := by
  obtain ⟨g, fd, F, hm, hk, hb⟩ := C.ex
  obtain ⟨oc, od, kV, doc, pm, an, cdv, ct, osl, rfl, lk, hcg⟩ := F.ex
  obtain ⟨f1, fd1, F1, m1, k1, b1⟩ := D.ex
  refine pe_lamcall (T := T) (c := c) (P := PT) (k := k) (a := "_law_task") hg hm hk lk hcg hb scCaught rfl (.inl rfl) (caught_gives C.gE) TB hcode hmT hu hr L hdef hbind (fun A outer s H E f c' hr2 => ?_) (by decide) (by decide) (by decide)
  have hP : Passes (L2.CX X.prog X.w) (lamCx X A outer s H E scope f c') E := pass_lam (X := X) (A := A) (outer := outer) (s := s) (H := H) (E := E) (scope := scope) (f := f) (c' := c')
  exact pe_call (X := lamCx X A outer s H E scope f c') F1 hr2 (hgl A outer s H E f c') m1 k1 b1 .nil hP (pa_cons (pe_var (X := lamCx X A outer s H E scope f c') (i := i) hN hv hd hcd) pa_nil) (by decide) rfl rfl
end
end Kw
set_option maxHeartbeats 1000000
namespace Kw
open PySem PySem.Spec PyProof.Rows L2 LamX
/-! ### f(nm=e) -/
theorem pe_callKw1 {X : Cx} {CX : CXT} {k : Nat} {f : Addr} {fd : FuncData} {sp : Sp} {E : XK} {x nm : Str} {e : Expr} {te : TE} {p pos kpos : Pos} (F : FnOk X.prog X.w X.K X.mg X.base CX k f fd [nm] sp) (hr : Room k X.A) (hm : X.mg x = some (.ref f)) (hk : PySem.W.keepIn X.K (.ref f) = true)
    (hb : ∀ (s : Shared) (u : Value), X.K.In s.heap → BindsTo s fd ⟨[], [(nm, u)]⟩ [(nm, u)]) (hx : Passes CX X E) (he : PE X e te) (hg : Gl X x := by rfl) (hdb : (x == ("__debug__" : Str)) = false := by decide) :
    PE X (.Call (.Name x p) [] [⟨some nm, e, kpos⟩] pos) (tCall sp [] E (tCons te tNil)) := by
  refine ⟨fun pins s σ H Q I h => ?_⟩
  refine wpAny_Call_Name_kw (ld_glob I hg hm (PySem.W.callWith_KW0 (h₀ := X.base) I.ok.mod.kin hk (by rfl) (thn ((pk_cons (nm := some nm) (kpos := kpos) he pk_nil).run pos pins s σ H (fun vs H1 => sp (vs ++ []) H1 Q E) I h) fun ws s2 ⟨zs, H2, I2, rz, q⟩ => ⟨I2.kIn, ?_⟩) (by rfl)) hdb)
  have q : sp (zs ++ []) H2 Q E := q
  rw [List.append_nil] at q
  have hl := F.len _ _ _ _ q
  obtain ⟨v, rfl⟩ : ∃ v, zs = [v] := List.length_eq_one_iff.mp hl
  obtain ⟨u, rfl, rv⟩ := vals1 rz
  show wpAny _ _ (call (.ref f) [] [(nm, u)]) _ _ _
  refine wpAny_call (codeAny_mono (F.run X.A X.stack s2 H2 ⟨[], [(nm, u)]⟩ [u] [v] Q E hr I2.env0 (hb s2 u I2.kIn) (.cons rv .nil) q) fun r s' hq => ?_)
  cases r with
  | error er => exact hx pins σ H2 s2 er s' I2 hq
  | ok fl =>
    cases fl with
    | ret w => exact I2.after hq
    | next => exact False.elim hq
    | brk => exact False.elim hq
    | cont => exact False.elim hq
end Kw
set_option maxHeartbeats 1000000
namespace Kw
open PySem PySem.Spec PyProof.Rows L2 LamX
/-! ### Range(stretches=e) -/
structure RangeMkK (P : Program) (w : World) (K : PySem.W.Frag) (mg : Str → Option Value) (base : Heap) (CR CE : Addr) (T : List (Addr × Str)) (k : Nat) : Prop where
  ex : ∃ f fd, FnOk P w K mg base (L2.CX P w) k f fd ["self", "stretches"] (spInit K T CR CE) ∧ Mk K CR f ∧ KBn K fd ["self", "stretches"] 1 ["stretches"] (fun us ws => us ++ ws) (fun vs zs => vs ++ zs)
  gR : mg "Range" = some (.ref CR)
theorem pe_rngK {X : Cx} {CR CE : Addr} {T : List (Addr × Str)} {k : Nat} {p pos kpos : Pos} {e : Expr} {te : TE} {E : XK} (M : RangeMkK X.prog X.w X.K X.mg X.base CR CE T k) (hr : Room (k + 1) X.A) (hx : Passes (L2.CX X.prog X.w) X E) (he : PE X e te) (hg : Gl X "Range" := by rfl) :
    PE X (.Call (.Name "Range" p) [] [⟨some "stretches", e, kpos⟩] pos) (tMakeK CR 0 1 (spInit X.K T CR CE) (fun vs zs => vs ++ zs) E tNil (tCons te tNil)) := by
  obtain ⟨f, fd, F, Mk, hb⟩ := M.ex
  exact pe_makeK0 Mk F hr hg M.gR hb hx (pk_cons he pk_nil) (by rfl) (by rfl) (by decide) (by rfl)
/-- its reading, of stretches that stand in a local -/
theorem rngK_good {K : PySem.W.Frag} {H : Hp} {σ : L2.St} {i : Nat} {CR CE l : Addr} {T : List (Addr × Str)} {E : XK} {Q : VK} {xs : List V} {ss : List Str2} (hi : σ[i]? = some (some (.ref l))) (hT : Tabs T H) (hS : SqLT K H l xs) (hl : xs.length ≤ 40) (h : Strs K H xs ss) (ok : ∀ s ∈ ss, okS s)
    (q : ∀ (H' : Hp) (x : Addr) (ss' : List Str2), ExtN H H' → Tabs T H' → IsR K CR H' (.ref x) (ss'.foldl nfAdd []) → ss'.Perm ss → ss'.Pairwise (fun p q => ¬ ltV q.1 p.1) → H x = none → Q (.ref x) H') :
    tMakeK CR 0 1 (spInit K T CR CE) (fun vs zs => vs ++ zs) E tNil (tCons (tVar i) tNil) σ H Q := by
  refine ⟨_, hi, rfl, rfl, fun x dx na nd ne => ?_⟩
  exact rngA (R := fun H2 => Q (.ref x) H2) hT hS hl h ok na nd fun H' ss' e T' hR pm pw => q H' x ss' e T' hR pm pw na
end Kw
set_option maxHeartbeats 1000000
namespace Kw
open PySem PySem.Spec PyProof.Rows L2 LamX
/-! ### r.stretches, y in r -/
structure RangeGet (P : Program) (w : World) (K : PySem.W.Frag) (mg : Str → Option Value) (base : Heap) (CR : Addr) (k : Nat) : Prop where
  ex : ∃ pp g fd, PropOf K CR "stretches" pp g ∧ FnOk P w K mg base CX0 k g fd ["self"] (spGetR K CR) ∧ Binds K fd ["self"] []
  cls : Cls K CR
structure RangeHas (P : Program) (w : World) (K : PySem.W.Frag) (mg : Str → Option Value) (base : Heap) (CR : Addr) (k : Nat) : Prop where
  ex : ∃ f fd, FnOk P w K mg base CX0 k f fd ["self", "x"] (spHasR K CR) ∧ PySem.W.findIn K (.ref CR) "__contains__" = some (some (.ref f)) ∧ PySem.W.isFn K (.ref f) = true ∧ Binds K fd ["self", "x"] []
section
variable {X : Cx} {CR : Addr} {k : Nat}
theorem pe_stretches {e : Expr} {te : TE} {pos : Pos} (G : RangeGet X.prog X.w X.K X.mg X.base CR k) (hr : Room (k + 1) X.A) (he : PE X e te) (hab : attributeBase e "stretches" X.env (eval e X.env) = eval e X.env := by rfl) : PE X (.Attribute e "stretches" pos) (tProp CR (spGetR X.K CR) [] E0 te) := by
  obtain ⟨pp, g, fd, hp, F, hb⟩ := G.ex
  exact pe_prop he G.cls hp F hr hb .nil pass0 hab
theorem op_inR (G : RangeHas X.prog X.w X.K X.mg X.base CR k) (hr : Room k X.A) : OpR X (compareOp .In) (rOwnIn CR (spHasR X.K CR) E0) := by
  obtain ⟨f, fd, F, h1, h2, hb⟩ := G.ex
  exact op_inO F hr h1 h2 hb pass0
end
section
variable {K : PySem.W.Frag} {H : Hp} {σ : L2.St} {i : Nat} {CR : Addr} {Q : VK} {x y : V} {nf : List Str2}
theorem get_read (hi : σ[i]? = some (some x)) (h : IsR K CR H x nf) (q : ∀ t zs, SqT K H t zs → Strs K H zs nf → Q (.ref t) H) : tProp CR (spGetR K CR) [] E0 (tVar i) σ H Q := by
  obtain ⟨a, dx, t, zs, rfl, h1, h2, h3⟩ := id h
  exact ⟨_, hi, a, dx, _, rfl, h1, _, nf, rfl, h, q⟩
theorem in_readR {v : Ver} (h : IsR K CR H x nf) (hn : nf.length ≤ 100) (hv : IsVer K H y v) (ov : okV v) (q : ∀ H', Same H H' → Q (.bl (hasL nf v)) H') : rOwnIn CR (spHasR K CR) E0 y x H Q := by
  obtain ⟨a, dx, t, zs, rfl, h1, _⟩ := id h
  exact ⟨a, dx, _, rfl, h1, _, y, nf, rfl, h, hn, .inl ⟨v, hv, ov, fun H' s => ⟨_, rfl, q H' s⟩⟩⟩
theorem in_readN (h : IsR K CR H x nf) (hn : nf.length ≤ 100) (hv : VerB K H y false) (q : ∀ H', Same H H' → Q (.bl false) H') : rOwnIn CR (spHasR K CR) E0 y x H Q := by
  obtain ⟨a, dx, t, zs, rfl, h1, _⟩ := id h
  exact ⟨a, dx, _, rfl, h1, _, y, nf, rfl, h, hn, .inr ⟨hv, fun H' s => ⟨_, rfl, q H' s⟩⟩⟩
end
end Kw
set_option maxHeartbeats 1000000
namespace Kw
open PySem PySem.Spec PyProof.Rows L2 LamX
/-! ### what the law itself asks -/
/-- a def of one parameter that is called by its name -/
structure DefN (P : Program) (w : World) (K : PySem.W.Frag) (mg : Str → Option Value) (base : Heap) (x : Str) (CX : CXT) (k : Nat) (nm : Str) (sp : Sp) : Prop where
  ex : ∃ f fd, FnOk P w K mg base CX k f fd [nm] sp ∧ mg x = some (.ref f) ∧ PySem.W.keepIn K (.ref f) = true ∧ ∀ (s : Shared) (u : Value), K.In s.heap → BindsTo s fd ⟨[], [(nm, u)]⟩ [(nm, u)]
theorem pe_dN {X : Cx} {CX : CXT} {k : Nat} {x nm : Str} {sp : Sp} {E : XK} {e : Expr} {te : TE} {p pos kpos : Pos} (D : DefN X.prog X.w X.K X.mg X.base x CX k nm sp) (hr : Room k X.A) (hx : Passes CX X E) (he : PE X e te) (hg : Gl X x := by rfl) (hdb : (x == ("__debug__" : Str)) = false := by decide) :
    PE X (.Call (.Name x p) [] [⟨some nm, e, kpos⟩] pos) (tCall sp [] E (tCons te tNil)) := by
  obtain ⟨f, fd, F, hm, hk, hb⟩ := D.ex
  exact pe_callKw1 F hr hm hk hb hx he hg hdb
section
variable {K : PySem.W.Frag} {H H' : Hp} {d w c : Addr} {B : Int} {CR : Addr}
theorem FrX.sqT {a : Addr} {xs : List V} (F : FrX d w H H') (S : StAt H d w c B) (h : SqT K H a xs) : SqT K H' a xs := by
  obtain ⟨kvs, hd⟩ := S.hd
  obtain ⟨ys, hw⟩ := S.hw
  rcases h with (h | ⟨o, h⟩) | h
  · exact .inl (.inl (F _ _ (ne_of h hd fun z => nomatch z) (ne_of h hw fun z => nomatch z) h fun ps z => nomatch z))
  · exact .inl (.inr ⟨o, F _ _ (ne_of h hd fun z => nomatch z) (ne_of h hw fun z => nomatch z) h fun ps z => nomatch z⟩)
  · exact .inr h
theorem FrX.lst {a : Addr} {xs : List V} (F : FrX d w H H') (S : StAt H d w c B) (h : H a = some (.lst xs)) (n : a ≠ w) : H' a = some (.lst xs) := by
  obtain ⟨kvs, hd⟩ := S.hd
  exact F _ _ (ne_of h hd fun z => nomatch z) n h fun ps z => nomatch z
/-- what keeps tuples keeps stretches -/
theorem strs_keep {zs : List V} {ss : List Str2} (k : ∀ a xs, SqT K H a xs → SqT K H' a xs) (h : Strs K H zs ss) : Strs K H' zs ss := by
  refine ⟨h.len, fun i x s p q => ?_⟩
  obtain ⟨a, l, u, rfl, t, tl, tu⟩ := h.at_ i x s p q
  have kv : ∀ {y : V} {v : Ver}, IsVer K H y v → IsVer K H' y v := fun {y v} ⟨b, e, r⟩ => ⟨b, e, k _ _ r⟩
  refine ⟨a, l, u, rfl, k _ _ t, kv tl, ?_⟩
  cases es : s.2 with
  | none => rw [es] at tu; exact tu
  | some z => rw [es] at tu; exact kv tu
theorem IsR.frX {x : V} {nf : List Str2} (h : IsR K CR H x nf) (S : StAt H d w c B) (F : FrX d w H H') : IsR K CR H' x nf := by
  obtain ⟨a, dx, t, zs, rfl, h1, h2, h3⟩ := h
  obtain ⟨kvs, hd⟩ := S.hd
  obtain ⟨ys, hw⟩ := S.hw
  exact ⟨a, dx, t, zs, rfl, F _ _ (ne_of h1 hd fun z => nomatch z) (ne_of h1 hw fun z => nomatch z) h1 (fun ps z => nomatch z), F.sqT S h2, strs_keep (fun a xs => F.sqT S) h3⟩
theorem IsR.fr1 {l : Addr} {ys : List V} {x : V} {nf : List Str2} (h : IsR K CR H x nf) (F : Fr1 l H H') (hl : H l = some (.lst ys)) : IsR K CR H' x nf := by
  obtain ⟨a, dx, t, zs, rfl, h1, h2, h3⟩ := h
  exact ⟨a, dx, t, zs, rfl, F _ _ (ne_of h1 hl fun z => nomatch z) h1, F.sqT hl h2, F.strs hl h3⟩
theorem IsR.same {x : V} {nf : List Str2} (h : IsR K CR H x nf) (s : Same H H') : IsR K CR H' x nf := h.ext (ExtN.same s)
theorem StAt.fr1 {l : Addr} (S : StAt H d w c B) (F : Fr1 l H H') (n1 : d ≠ l) (n2 : w ≠ l) (n3 : c ≠ l) : StAt H' d w c B := by
  obtain ⟨ws, cs, r, t, hd, hw, hc, rest⟩ := S.ex
  exact ⟨ws, cs, r, t, F _ _ n1 hd, F _ _ n2 hw, F _ _ n3 hc, rest⟩
theorem OddV.same {x : V} (h : OddV K H x) (s : Same H H') : OddV K H' x := h.ext (ExtN.same s)
theorem VerB.same {x : V} {b : Bool} (h : VerB K H x b) (s : Same H H') : VerB K H' x b := h.ext (ExtN.same s)
theorem shaped_ver (v : Ver) : SeqAt.shaped (verD v) = true := by
  have h := cl_ver v
  simp only [SeqAt.shaped, h.1, Bool.true_and]
  exact decide_eq_true (by rw [h.2]; decide)
theorem eqv_ver (v : Ver) : PyData.eqv (verD v) (verD v) = true := PySem.SeqAt.eqv_refl _ (cl_ver v).1
end
/-- lists of two bools that are equal read alike -/
theorem two_ne (b : Bool) : (!decide (V.str (twoB b b) = V.str (twoB b b))) = false := by simp
end Kw
set_option maxHeartbeats 1000000
namespace Kw
open PySem PySem.Spec PyProof.Rows L2 LamX
/-! ### _law_normal(e, lambda z: _law_has(y, z)) -/
structure NormalD (K : PySem.W.Frag) (mg : Str → Option Value) : Prop where
  ex : ∃ g fd, Fun K "_law_normal" "_law_normal" sNormal g fd ∧ mg "_law_normal" = some (.ref g) ∧ PySem.W.keepIn K (.ref g) = true ∧ Binds K fd ["_law_ends_here", "_law_holds"] []
/-- the reading: the normal form by the law's own look -/
abbrev tNormalR (K : PySem.W.Frag) (T : List (Addr × Str)) (t1 : TE) (i j : Nat) : TE := tLamP T (TTn K) t1 (tCall (spHas K) [] E0 (tCons (tVar i) (tCons (tVar j) tNil))) j
section
variable {X : Cx} {T : List (Addr × Str)} {k i j : Nat}
theorem pe_normal {c PT : Addr} {y z : Str} {e1 : Expr} {t1 : TE} {params : Arguments} {scope : Scope} {p p1 p2 p3 p4 lpos pos : Pos} (Nm : NormalD X.K X.mg) (mr : X.mg "range" = none) (ml : X.mg "len" = none) (mt : X.mg "tuple" = none)
    (DH : Def X.prog X.w X.K X.mg X.base "_law_has" CX0 k ["_law_stretches", "_law_version_here"] (spHas X.K)) (TB : TabB X.base X.mg c PT) (hcode : X.env.code = .ref c) (hmT : (PT, X.env.qual ++ "<lambda>") ∈ T) (hu : ∀ p ∈ T, p.1 = PT → p.2 = X.env.qual ++ "<lambda>") (hr : Room (k + 3) X.A)
    (L : LamP X.env.scope scope z) (hNX : X.N.Nodup) (hi : X.N[i]? = some y) (hvi : Vis scope y) (hj : X.N[j]? = some z) (hvj : Vis scope z) (hdef : defaultsOf params X.env = ([], []))
    (hbind : ∀ (q : Str) (cl : List (Str × Addr)) (pm cv ctv : Value) (u : Value), bindArgs (PySem.W.kla_fn "<lambda>" q params (.Call (.Name "_law_has" p1) [.Name y p2, .Name z p3] [] p4) scope cl pm cv ctv) ⟨[u], []⟩ = pure [(z, u)])
    (h1 : PE X e1 t1) (hgl : ∀ (A : Around) (outer : List Env) (s : Shared) (H : Hp) (E : XK) (f c' : Addr), Gl (lamCx X A outer s H E scope f c') "_law_has") (hg : Gl X "_law_normal")
    (hs : starEach [e1, .Lambda params (.Call (.Name "_law_has" p1) [.Name y p2, .Name z p3] [] p4) scope lpos] X.env = (false, eval e1 X.env) :: (false, eval (.Lambda params (.Call (.Name "_law_has" p1) [.Name y p2, .Name z p3] [] p4) scope lpos) X.env) :: [] := by rfl)
    (hy : (y == ("__debug__" : Str)) = false := by decide) (hy2 : (y == ("__classdict__" : Str)) = false := by decide) (hz : (z == ("__debug__" : Str)) = false := by decide) (hz2 : (z == ("__classdict__" : Str)) = false := by decide) :
    PE X (.Call (.Name "_law_normal" p) [e1, .Lambda params (.Call (.Name "_law_has" p1) [.Name y p2, .Name z p3] [] p4) scope lpos] [] pos) (tNormalR X.K T t1 i j) := by
  obtain ⟨g, fd, F, hm, hk, hb⟩ := Nm.ex
  obtain ⟨oc, od, kV, doc, pm, an, cdv, ct, osl, rfl, lk, hcg⟩ := F.ex
  refine pe_lamcallP (T := T) (c := c) (P := PT) (k := k) (b := "_law_ends_here") (a := "_law_holds") hg hm hk lk hcg hb scNormal rfl (.inl rfl) (normal_gives mr ml mt) TB hcode hmT hu hr L hNX hj hdef hbind h1 (fun A outer s H f c' hr2 => ?_) hs (by decide) (by decide) (by decide)
  exact pe_d (X := lamCx X A outer s H C8.E0 scope f c') DH hr2 (pa_cons (pe_var (X := lamCx X A outer s H C8.E0 scope f c') (i := i) hi hvi hy hy2) (pa_cons (pe_var (X := lamCx X A outer s H C8.E0 scope f c') (i := j) hj hvj hz hz2) pa_nil)) (hgl A outer s H C8.E0 f c') rfl rfl rfl
end
def lamPB (sc scope : Scope) (p : Str) : Bool :=
  decide (scope.kind = .function) && !scope.isCoroutine && !scope.isGenerator && decide (scope.names.lookup p = some .local) && (scope.names.all fun y => (!decide (y.2 = .local) || decide (y.1 = p)) && !decide (y.2 = .cell) && (!decide (y.2 = .free) || decide (sc.names.lookup y.1 = some .cell) || decide (sc.names.lookup y.1 = some .free)))
theorem lamP_by {sc scope : Scope} {p : Str} (h : lamPB sc scope p = true) : LamP sc scope p := by
  unfold lamPB at h
  simp only [Bool.and_eq_true, Bool.or_eq_true, Bool.not_eq_true', decide_eq_true_eq, decide_eq_false_iff_not, List.all_eq_true] at h
  obtain ⟨⟨⟨⟨h1, h2⟩, h3⟩, h4⟩, h5⟩ := h
  refine ⟨h1, h2, h3, h4, fun y hy => ?_, fun y hy => (h5 y hy).1.2, fun y hy e => ?_⟩
  · rcases (h5 _ (PySem.mem_of_lookup hy)).1.1 with z | z
    · exact absurd rfl z
    · exact z
  · rcases (h5 y hy).2 with (z | z) | z
    · exact absurd e z
    · exact .inl z
    · exact .inr z
end Kw
set_option maxHeartbeats 1000000
namespace Kw
open PySem PySem.Spec PyProof.Rows L2 LamX
/-! ### the law's tests, one by one -/
section
variable {K : PySem.W.Frag} {H : Hp} {σ : L2.St}
abbrev rRp (K : PySem.W.Frag) : List V → Hp → VK → Prop := fun xs H Q => ∃ a b1 b2, xs = [.ref a] ∧ SqL K H a [.bl b1, .bl b2] ∧ Q (.str (twoB b1 b2)) H
/-- the promise answers b for x, from any heap that keeps H -/
def Says (sp : Sp) (H : Hp) (x : V) (b : Bool) : Prop := ∀ (H1 : Hp) (Q1 : VK) (E : XK), Same H H1 → (∀ H2, Same H1 H2 → Q1 (.bl b) H2) → sp [x] H1 Q1 E
abbrev tAt (sp : Sp) (i : Nat) : TE := tCall sp [] E0 (tCons (tVar i) tNil)
/-- repr([f(x), f(v=x)]) != repr([g(x)] * 2) is False -/
theorem twice_read {x : V} {b : Bool} {s1 s2 s3 : Sp} {i : Nat} {Q : Bool → Hp → Prop} (hi : σ[i]? = some (some x)) (h1 : Says s1 H x b) (h2 : Says s2 H x b) (h3 : Says s3 H x b) (q : ∀ H', Same H H' → Q false H') :
    tTest (tOp rNe (tCB (rRp K) (tCons (tLst (tCons (tAt s1 i) (tCons (tAt s2 i) tNil))) tNil)) (tCB (rRp K) (tCons (tOp rRep (tLst (tCons (tAt s3 i) tNil)) (tC (.int 2))) tNil))) σ H Q := by
  refine ⟨x, hi, h1 H _ _ (Same.refl H) fun Ha sa => ⟨x, hi, h2 Ha _ _ sa fun Hb sb => ⟨by show 2 ≤ sizeLine; decide, fun l1 hl1 => ⟨l1, b, b, rfl, .inl (.inl upd_same), ?_⟩⟩⟩⟩
  have t1 := same_upd (o := .lst [.bl b, .bl b]) hl1
  refine ⟨x, hi, h3 _ _ _ ((sa.trans sb).trans t1) fun Hc sc => ⟨by show 1 ≤ sizeLine; decide, fun l2 hl2 => ?_⟩⟩
  have t2 := same_upd (o := .lst [.bl b]) hl2
  refine ⟨l2, 2, [.bl b], rfl, rfl, upd_same, by decide, by decide, by show 1 * 2 ≤ sizeLine; decide, fun l3 hl3 => ?_⟩
  have t3 := same_upd (o := .lst (List.replicate (Int.toNat 2) [V.bl b]).flatten) hl3
  refine ⟨l3, b, b, rfl, .inl (.inl upd_same), rfl, false, ?_, q _ (((((sa.trans sb).trans t1).trans sc).trans t2).trans t3)⟩
  simp
/-- next_version(version=v) != v[:2] + (v[2] + 1,) is False -/
theorem next_read {x : V} {v : Ver} {CV : Addr} {i : Nat} {Q : Bool → Hp → Prop} (hi : σ[i]? = some (some x)) (hv : IsVer K H x v) (ok : okV v) (q : ∀ H', Same H H' → Q false H') :
    tTest (tOp (rNeD K) (tCall (spNextV K CV) [] E0 (tCons (tVar i) tNil)) (tOp (rCatT K) (tSl (rSlT K) (tVar i) tNoPart (tPart (tC (.int 2)))) (tTup (tCons (tOp (rI0 fun i j => .int (i + j)) (tOp (rIxT K) (tVar i) (tC (.int 2))) (tC (.int 1))) tNil)))) σ H Q := by
  refine ⟨x, hi, x, rfl, .inl ⟨v, hv, ok, fun Ha n sa hn => ?_⟩⟩
  obtain ⟨a, rfl, ha⟩ := hv.same sa
  refine ⟨_, hi, 2, rfl, a, v3 v, rfl, ha, (by intro z; exact absurd z.2 (by show ¬ (2 = 3); decide)), fun p hp => ?_⟩
  have t1 := same_upd (o := .tup (cutV (v3 v) none (some 2))) hp
  refine ⟨_, hi, a, v3 v, 2, .int v.2.2, rfl, rfl, Same.sqT t1 ha, atI_nat (j := 2) rfl, _, 1, rfl, rfl, by show 1 ≤ sizeLine; decide, fun p2 hp2 => ?_⟩
  have t2 := same_upd (o := .tup [.int (v.2.2 + 1)]) hp2
  refine ⟨p, p2, _, _, rfl, rfl, .inl (.inl (t2 _ _ upd_same)), .inl (.inl upd_same), (by intro z; cases z), (by show 3 ≤ sizeLine; decide), (fun z => (nomatch z)), fun _ p3 hp3 => ?_⟩
  have t3 := same_upd (o := .tup (v3 (v.1, v.2.1, v.2.2 + 1))) hp3
  have tA := (t1.trans t2).trans t3
  refine ⟨_, _, dp_ver (IsVer.of (tA _ _ hn)), dp_ver (v := (v.1, v.2.1, v.2.2 + 1)) (IsVer.of upd_same), shaped_ver _, shaped_ver _, false, ?_, q _ (sa.trans tA)⟩
  rw [eqv_ver]
  rfl
/-- not due(x) and not isinstance(caught(lambda: next_version(x)), BadVersion) is False -/
theorem odd_read {x : V} {b : Bool} {CV CK : Addr} {T : List (Addr × Str)} {i : Nat} {Q : Bool → Hp → Prop} (hsub : PySem.W.exmOne K (.ref CV) (.ref CK) = some true) (kV : PySem.W.kitOne K (.ref CV) (.ref CV) = some true) (hi : σ[i]? = some (some x)) (hx : VerB K H x b) (hT : Tabs T H) (q : ∀ H', ExtN H H' → Tabs T H' → Q false H') :
    tAnd (tNot (tB (tAt (spVerB K) i))) (tNot (tB (tCB (fun xs H Q => ∃ (x c : V) (v : Option V) (cv : Value) (b : Bool), xs = [x, c] ∧ IsExc H x CV v ∧ ClsV c cv ∧ PySem.W.kitOne K (.ref CV) cv = some b ∧ Q (.bl b) H) (tCons (tCaughtN K T CV CK i) (tCons (tC (.ref CV)) tNil))))) σ H Q := by
  refine ⟨x, hi, x, b, rfl, hx, fun Ha sa => ⟨b, rfl, ?_⟩⟩
  cases b with
  | true => exact iteF (q _ (ExtN.same sa) (hT.ext sa))
  | false =>
    refine iteT ?_
    refine caughtN_read hsub hi (hT.ext sa) (hx.same sa) fun Hb y eb Tb hy => ?_
    exact ⟨y, .ref CV, none, .ref CV, true, rfl, hy, .own _, kV, true, rfl, q _ ((ExtN.same sa).trans eb) Tb⟩
end
end Kw
set_option maxHeartbeats 1000000
namespace Kw
open PySem PySem.Spec PyProof.Rows L2 LamX
section
variable {K : PySem.W.Frag} {H : Hp} {σ : L2.St}
theorem Strs.app {xs ys : List V} {ss ts : List Str2} (h : Strs K H xs ss) (g : Strs K H ys ts) : Strs K H (xs ++ ys) (ss ++ ts) := by
  have e := h.len
  refine ⟨by rw [List.length_append, List.length_append, e, g.len], fun i x s p q => ?_⟩
  by_cases hi : i < xs.length
  · rw [List.getElem?_append_left hi] at p
    rw [List.getElem?_append_left (e ▸ hi)] at q
    exact h.at_ i x s p q
  · rw [List.getElem?_append_right (Nat.le_of_not_lt hi)] at p
    rw [List.getElem?_append_right (by rw [← e]; exact Nat.le_of_not_lt hi), ← e] at q
    exact g.at_ _ x s p q
theorem Strs.part {xs : List V} {ss : List Str2} (h : Strs K H xs ss) (a b : Nat) : Strs K H ((xs.drop a).take b) ((ss.drop a).take b) := by
  refine ⟨by rw [List.length_take, List.length_take, List.length_drop, List.length_drop, h.len], fun i x s p q => ?_⟩
  rw [List.getElem?_take] at p q
  split at p
  · rename_i lt
    rw [if_pos lt, List.getElem?_drop] at q
    rw [List.getElem?_drop] at p
    exact h.at_ _ x s p q
  · cases p
/-- made, due = (Range(stretches=some), normal(ends(some), ..)) -/
theorem mk_read {T : List (Addr × Str)} {CR CE pS : Addr} {xs : List V} {ss : List Str2} {i j : Nat} {Q : VK} (hi : σ[i]? = some (some (.ref pS))) (hij : i ≠ j) (hj : j < σ.length) (hT : Tabs T H) (hS : H pS = some (.lst xs)) (hss : Strs K H xs ss) (oks : ∀ s ∈ ss, okS s) (hl : ss.length ≤ 5)
    (q : ∀ (H' : Hp) (x p D : Addr) (zs : List V) (ss' : List Str2), ExtN H H' → Tabs T H' → IsR K CR H' (.ref x) (ss'.foldl nfAdd []) → H' D = some (.tup zs) → Strs K H' zs (ss'.foldl nfAdd []) → ss'.Perm ss → ss'.Pairwise (fun p q => ¬ ltV q.1 p.1) → H' p = some (.tup [.ref x, .ref D]) → Q (.ref p) H') :
    tTup (tCons (tMakeK CR 0 1 (spInit K T CR CE) (fun vs zs => vs ++ zs) E0 tNil (tCons (tVar i) tNil)) (tCons (tNormalR K T (tCall (spEnds K) [] E0 (tCons (tVar i) tNil)) i j) tNil)) σ H Q := by
  have lx : xs.length ≤ 5 := by rw [hss.len]; exact hl
  show tMakeK CR 0 1 (spInit K T CR CE) (fun vs zs => vs ++ zs) E0 tNil (tCons (tVar i) tNil) σ H fun x H1 => tNormalR K T (tCall (spEnds K) [] E0 (tCons (tVar i) tNil)) i j σ H1 fun y H2 => [x, y].length ≤ sizeLine ∧ ∀ p, H2 p = none → Q (.ref p) (upd H2 p (.tup [x, y]))
  refine rngK_good hi hT (.inl (SqL.of hS)) (by omega) hss oks fun Ha x ss' ea Ta hR pm pw nx => ?_
  have hSa := ea _ _ hS fun ps z => nomatch z
  refine ⟨_, hi, pS, xs, ss, rfl, SqL.of hSa, ea.strs hss, oks, hl, fun Hb pe ks sb hpe kse kl pwk mk => ⟨Ta.ext sb, fun Hc ec Tc => ?_⟩⟩
  have eac : ExtN H Hc := (ea.trans (ExtN.same sb)).trans ec
  refine ⟨pe, ks, hasL ss, rfl, ec.sqL (SqL.of hpe), fun p hp => ⟨ec.sqT (kse p hp).1, (kse p hp).2⟩, kl, fun Hg pp Qg sg hpp qg => ?_, fun Hd D zs sd hD hz => ?_⟩
  · refine ⟨.ref pS, by rw [List.getElem?_set_ne (Ne.symm hij)]; exact hi, .ref pp.1, by rw [List.getElem?_set_self hj], pS, xs, ss, .ref pp.1, pp.2, rfl, SqL.of (sg _ _ (eac _ _ hS fun ps z => nomatch z)), (eac.strs hss).same sg, by omega, ⟨pp.1, rfl, Same.sqT sg (ec.sqT (kse pp hpp).1)⟩, fun H2 s2 => qg H2 s2⟩
  · rw [← nf_main oks pwk mk (fun s => pm.mem_iff) pw] at hz
    refine ⟨by show 2 ≤ sizeLine; decide, fun p hp => ?_⟩
    have sp := same_upd (o := .tup [.ref x, .ref D]) hp
    have eF : ExtN Ha _ := ((ExtN.same sb).trans ec).trans (ExtN.same (sd.trans sp))
    exact q _ x p D zs ss' (ea.trans eF) ((Tc.ext sd).ext sp) (hR.ext eF) (sp _ _ hD) (hz.same sp) pm pw upd_same
/-- what has is asked of the normal form -/
theorem nf_has {ss ss' : List Str2} (oks : ∀ s ∈ ss, okS s) (pm : ss'.Perm ss) (pw : ss'.Pairwise fun p q => ¬ ltV q.1 p.1) (v : Ver) : hasL (ss'.foldl nfAdd []) v = hasL ss v := by
  obtain ⟨_, b⟩ := nf_fold ss' [] ⟨fun s h => (nomatch h), List.Pairwise.nil⟩ (fun t ht => (nomatch ht)) pw fun s hs => oks s (pm.mem_iff.mp hs)
  rw [b v, hasL_mem (fs := ss') (gs := ss) fun s => pm.mem_iff]
  rfl
abbrev rTupOf (K : PySem.W.Frag) : List V → Hp → VK → Prop := fun xs H Q => ∃ p ys, xs = [.ref p] ∧ ((SqL K H p ys ∧ ∀ l, H l = none → Q (.ref l) (upd H l (.tup ys))) ∨ (SqT K H p ys ∧ Q (.ref p) H))
/-- made.stretches != due or made != Range(tuple(shuffled(..))) or made == due is False -/
theorem same_read {T : List (Addr × Str)} {CR CE pS x D d wl c : Addr} {B : Int} {xs zs : List V} {ss ss' : List Str2} {is i im ie : Nat} {Q : Bool → Hp → Prop} (his : σ[is]? = some (some (.ref d))) (hi : σ[i]? = some (some (.ref pS))) (him : σ[im]? = some (some (.ref x))) (hid : σ[ie]? = some (some (.ref D))) (S : StAt H d wl c B) (hB : B + 10 ≤ 1000000000000) (hT : Tabs T H)
    (hS : H pS = some (.lst xs)) (hn : pS ≠ wl) (hss : Strs K H xs ss) (oks : ∀ s ∈ ss, okS s) (hl : ss.length ≤ 5) (hR : IsR K CR H (.ref x) (ss'.foldl nfAdd [])) (hD : H D = some (.tup zs)) (hz : Strs K H zs (ss'.foldl nfAdd [])) (pm : ss'.Perm ss) (pw : ss'.Pairwise fun p q => ¬ ltV q.1 p.1) (nT : PySem.W.notFirst K CR (.type "tuple") = true)
    (q : ∀ H', StAt H' d wl c (B + 10) → Tabs T H' → FrX d wl H H' → Q false H') :
    tOr (tTest (tOp (rNeD K) (tProp CR (spGetR K CR) [] E0 (tVar im)) (tVar ie))) (tOr (tTest (tOp (rOwn K CR (spEqR K CR) E0 not) (tVar im) (tMake CR (spInit K T CR CE) [] E0 (tCons (tCB (rTupOf K) (tCons (tCall (spShuf K) [] E0 (tCons (tVar is) (tCons (tOp rCat (tVar i) (tSl (rSlL K) (tVar i) tNoPart (tPart (tC (.int 1))))) tNil))) tNil)) tNil)))) (tTest (tOp (rOwn K CR (spEqR K CR) E0 id) (tVar im) (tVar ie)))) σ H Q := by
  have lx : xs.length ≤ 5 := by rw [hss.len]; exact hl
  have hDt : SqT K H D zs := .inl (.inl hD)
  obtain ⟨kvs, hd⟩ := S.hd
  obtain ⟨ws, hw⟩ := S.hw
  show tProp CR (spGetR K CR) [] E0 (tVar im) σ H _
  refine get_read him hR fun t zs' ht hz' => ⟨.ref D, hid, _, _, dp_nf ht hz', dp_nf hDt hz, shaped_nf _, shaped_nf _, false, by rw [eqv_nf]; rfl, iteF ?_⟩
  refine ⟨.ref x, him, .ref d, his, .ref pS, hi, .ref pS, hi, 1, rfl, pS, xs, rfl, SqL.of hS, fun r1 k1 => ?_⟩
  have t1 := same_upd (o := .lst (cutV xs none (some 1))) k1
  have lc := cutV_length xs none (some 1)
  refine ⟨pS, r1, xs, cutV xs none (some 1), rfl, rfl, t1 _ _ hS, upd_same, Nat.le_of_lt (small1000 (by omega)), fun r2 k2 => ?_⟩
  have t2 := same_upd (o := .lst (xs ++ cutV xs none (some 1))) k2
  have tA := t1.trans t2
  have n2 : r2 ≠ wl := (ne_of_none hw (t1.free k2)).symm
  have hcut : Strs K H (cutV xs none (some 1)) ((ss.drop (HT.sIx xs.length 0 none)).take (HT.sIx xs.length xs.length (some 1) - HT.sIx xs.length 0 none)) := hss.part _ _
  generalize hss2 : (ss.drop (HT.sIx xs.length 0 none)).take (HT.sIx xs.length xs.length (some 1) - HT.sIx xs.length 0 none) = s2 at hcut
  have ms2 : ∀ s ∈ s2, s ∈ ss := fun s hs => by rw [← hss2] at hs; exact List.mem_of_mem_drop (List.mem_of_mem_take hs)
  have l2 : s2.length ≤ 5 := by rw [← hcut.len]; omega
  refine ⟨d, wl, c, B, r2, _, ss ++ s2, rfl, S.same tA, hB, upd_same, n2, (hss.app hcut).same tA, by rw [List.length_append]; omega, fun H3 p ys ss3 np hp hys mem len S3 F3 => ?_⟩
  have T3 : Tabs T H3 := Tabs.fr2 (hT.ext tA) (S.same tA) F3
  have X3 : FrX d wl H H3 := (FrX.ofN (ExtN.same tA)).trans (FrX.of2 F3)
  refine ⟨_, _, rfl, .inl ⟨SqL.of hp, fun l hl3 => ?_⟩⟩
  have t3 := same_upd (o := .tup ys) hl3
  intro x9 dx9 na9 nd9 ne9
  have len3 : ss3.length ≤ 10 := by rw [len, List.length_append]; omega
  have ok3 : ∀ s ∈ ss3, okS s := fun s hs => ((List.mem_append.mp ((mem s).mp hs)).elim (oks s) fun h => oks s (ms2 s h))
  refine rngA (T3.ext t3) (.inr (.inl (.inl upd_same))) (by rw [hys.len]; omega) (hys.same t3) ok3 na9 nd9 fun H9 ss9 e9 T9 R9 pm9 pw9 => ?_
  have X9 : FrX d wl H H9 := (X3.trans (FrX.ofN (ExtN.same t3))).trans (FrX.ofN e9)
  have Rx : IsR K CR H9 (.ref x) (ss'.foldl nfAdd []) := hR.frX S X9
  have nfe : ss9.foldl nfAdd [] = ss'.foldl nfAdd [] := nf_same pm9 pm ok3 oks pw9 pw fun s => by
    rw [mem s, List.mem_append]
    exact ⟨fun h => h.elim (fun h => h) (ms2 s), .inl⟩
  rw [nfe] at R9
  obtain ⟨a1, dx1, u1, w1, q1, h1, g1, z1⟩ := id Rx
  obtain ⟨a2, dx2, u2, w2, q2, h2, g2, z2⟩ := id R9
  cases q1
  cases q2
  refine ⟨x, dx1, _, .ref CR, rfl, h1, .ins h2, by simp [PySem.W.notFirst], _, _, rfl, .inl ⟨_, Rx, R9, true, rfl, false, rfl, iteF ?_⟩⟩
  have hD9 : SqT K H9 D zs := X9.sqT S hDt
  exact ⟨.ref x, him, .ref D, hid, x, dx1, _, .type "tuple", rfl, h1, .tup hD9, nT, _, _, rfl, .inr ⟨D, zs, rfl, hD9, false, rfl, false, rfl, q H9 (((S3.same t3).ext e9)) T9 X9⟩⟩
/-- [p for p in points(some) if (p in made) != has(some, p)] != [] is False -/
theorem points_read {CR pS x : Addr} {xs : List V} {ss ss' : List Str2} {i im j : Nat} {Q : Bool → Hp → Prop} (hi : (wipe σ [j])[i]? = some (some (.ref pS))) (him : (wipe σ [j])[im]? = some (some (.ref x))) (hi0 : σ[i]? = some (some (.ref pS))) (nij : j ≠ i) (nmj : j ≠ im) (hj : j < (wipe σ [j]).length) (hwp : ∀ y, wipe ((wipe σ [j]).set j y) [j] = wipe σ [j])
    (hS : H pS = some (.lst xs)) (hss : Strs K H xs ss) (oks : ∀ s ∈ ss, okS s) (hl : ss.length ≤ 5) (hR : IsR K CR H (.ref x) (ss'.foldl nfAdd [])) (pm : ss'.Perm ss) (pw : ss'.Pairwise fun p q => ¬ ltV q.1 p.1) (q : ∀ H', Same H H' → Q false H') :
    tTest (tOp (rNeD K) (tLc (iList K (tCall (spPoints K) [] E0 (tCons (tVar i) tNil))) (gName j) (tTest (tOp rNe (tOp (rOwnIn CR (spHasR K CR) E0) (tVar j) (tVar im)) (tCall (spHas K) [] E0 (tCons (tVar i) (tCons (tVar j) tNil))))) (tVar j) [j]) (tLst tNil)) σ H Q := by
  have ln : (ss'.foldl nfAdd []).length ≤ 5 := by
    have := nf_len ss' []
    have e := pm.length_eq
    simp only [List.length_nil, Nat.zero_add] at this
    omega
  refine ⟨.ref pS, hi0, pS, xs, ss, rfl, SqL.of hS, hss, oks, hl, fun Hp pp ks sp hpp kok kl => ⟨pp, rfl, ⟨_, SqL.of hpp⟩, fun D hD => ?_⟩⟩
  refine lc_list (K := K) (a := pp) (xs := rf ks) (fun i H' => Same Hp H' ∧ H' D = some (.lst [])) ⟨same_upd hD, upd_same⟩ (fun i H' _ R => SqL.of (R.1 _ _ hpp)) ?_ ?_
  · rintro n y H' hy ⟨s1, hD1⟩
    obtain ⟨e, he, rfl⟩ := List.mem_map.mp (List.mem_of_getElem? hy)
    refine ⟨hwp _, ?_⟩
    have sA := sp.trans s1
    have hv : IsVer K H' (.ref e.1) e.2 := ⟨e.1, rfl, Same.sqT s1 (kok e he).1⟩
    have gi : ((wipe σ [j]).set j (some (V.ref e.1)))[i]? = some (some (.ref pS)) := by rw [List.getElem?_set_ne nij]; exact hi
    have gm : ((wipe σ [j]).set j (some (V.ref e.1)))[im]? = some (some (.ref x)) := by rw [List.getElem?_set_ne nmj]; exact him
    have gj : ((wipe σ [j]).set j (some (V.ref e.1)))[j]? = some (some (.ref e.1)) := by rw [List.getElem?_set_self hj]
    refine ⟨_, gj, _, gm, in_readR (hR.same sA) (by omega) hv (kok e he).2 fun Ha sa => ?_⟩
    refine ⟨_, gi, _, gj, pS, xs, ss, _, e.2, rfl, SqL.of (sa _ _ (sA _ _ hS)), (hss.same sA).same sa, by omega, hv.same sa, fun Hb sb => ⟨rfl, false, ?_, iteF ⟨s1.trans (sa.trans sb), sb _ _ (sa _ _ hD1)⟩⟩⟩
    rw [nf_has oks pm pw]
    simp [hasL]
  · rintro H' ⟨s1, hD1⟩
    refine ⟨Nat.zero_le _, fun l hl => ?_⟩
    have t1 := same_upd (o := .lst []) hl
    refine ⟨.list [], .list [], .lst (SqL.of (t1 _ _ hD1)) .nil, .lst (SqL.of upd_same) .nil, shaped_nil, shaped_nil, false, ?_, q _ ((sp.trans s1).trans t1)⟩
    rw [show PyData.eqv (.list []) (.list []) = true from eqv_nil []]
    rfl
theorem VerB.frX {H' : Hp} {x : V} {b : Bool} {d w c : Addr} {B : Int} (h : VerB K H x b) (S : StAt H d w c B) (F : FrX d w H H') (n1 : x ≠ .ref d) (n2 : x ≠ .ref w) : VerB K H' x b := by
  cases h with
  | tup t f e => exact .tup (F.sqT S t) f e
  | oth o =>
    cases o with
    | flat f => exact .oth (.flat f)
    | lst e => exact .oth (.lst (F _ _ (fun z => n1 (by rw [z])) (fun z => n2 (by rw [z])) e fun ps z => nomatch z))
    | dct e => exact .oth (.dct (F _ _ (fun z => n1 (by rw [z])) (fun z => n2 (by rw [z])) e fun ps z => nomatch z))
/-- not due(x) and x in made or not refused_right(state, some) is False -/
theorem last_read {T : List (Addr × Str)} {CR pS mx d wl c : Addr} {B : Int} {x : V} {b : Bool} {xs : List V} {ss nf : List Str2} {is i im ip : Nat} {Q : Bool → Hp → Prop} (his : σ[is]? = some (some (.ref d))) (hi : σ[i]? = some (some x)) (him : σ[im]? = some (some (.ref mx))) (hip : σ[ip]? = some (some (.ref pS)))
    (S : StAt H d wl c B) (hB : B + 20 ≤ 1000000000000) (hT : Tabs T H) (hx : VerB K H x b) (hR : IsR K CR H (.ref mx) nf) (ln : nf.length ≤ 100) (hS : H pS = some (.lst xs)) (hn : pS ≠ wl) (hss : Strs K H xs ss) (oks : ∀ s ∈ ss, okS s) (hl : ss.length ≤ 5)
    (q : ∀ H', Tabs T H' → StAt H' d wl c (B + 20) → FrX d wl H H' → Q false H') :
    tOr (tAnd (tNot (tB (tAt (spVerB K) i))) (tTest (tOp (rOwnIn CR (spHasR K CR) E0) (tVar i) (tVar im)))) (tNot (tB (tCall (spRefused K T) [] E0 (tCons (tVar is) (tCons (tVar ip) tNil))))) σ H Q := by
  have rest : ∀ Ha, Same H Ha → tNot (tB (tCall (spRefused K T) [] E0 (tCons (tVar is) (tCons (tVar ip) tNil)))) σ Ha Q := fun Ha sa =>
    ⟨.ref d, his, .ref pS, hip, d, wl, c, B, pS, xs, ss, rfl, S.same sa, hB, hT.ext sa, sa _ _ hS, hn, hss.same sa, oks, hl, fun Hb Tb Sb Fb => ⟨true, rfl, q Hb Tb Sb ((FrX.ofN (ExtN.same sa)).trans Fb)⟩⟩
  refine ⟨x, hi, x, b, rfl, hx, fun Ha sa => ⟨b, rfl, ?_⟩⟩
  cases b with
  | true => exact iteF (iteF (rest Ha sa))
  | false => exact iteT ⟨x, hi, .ref mx, him, in_readN (hR.same sa) ln (hx.same sa) fun Hb sb => ⟨false, rfl, iteF (rest Hb (sa.trans sb))⟩⟩
end
end Kw
set_option maxHeartbeats 4000000
namespace Kw
open PySem PySem.Spec PyProof.Rows L2 LamX
/-! ### the law -/
abbrev nLaw : List Str := ["_law_script", "_law_state", "_law_turn", "_law_version_here", "_law_made", "_law_due", "_law_before", "_law_odd_here", "_law_some", "_law_point"]
theorem scLaw : FnScope nLaw ["_law_script"] (defScope sLaw) := ⟨rfl, rfl, rfl, by decide +kernel, rfl, by decide +kernel, by decide +kernel⟩
def spLaw (K : PySem.W.Frag) (T : List (Addr × Str)) : Sp := fun vs H Q _ => ∃ (a : Addr) (ns : List Int), vs = [.ref a] ∧ SqL K H a (ns.map V.int) ∧ ns.length ≤ 63 ∧ Tabs T H ∧ ∀ H', Q (.bl true) H'
section
variable {P : Program} {w : World} {K : PySem.W.Frag} {mg : Str → Option Value} {base : Heap}
theorem ok_law {f cd PT CV CR CE CK f1 : Addr} {fd fd1 : FuncData} {k : Nat} {T : List (Addr × Str)} (ml : mg "len" = none) (mr : mg "range" = none) (mm : mg "min" = none) (mp : mg "repr" = none) (mi : mg "isinstance" = none) (mt : mg "tuple" = none) (gV : mg "BadVersion" = some (.ref CV)) (TB : TabB base mg cd PT)
    (hmT : (PT, ("law" : Str) ++ ".<locals>." ++ "<lambda>") ∈ T) (hu : ∀ p ∈ T, p.1 = PT → p.2 = ("law" : Str) ++ ".<locals>." ++ "<lambda>")
    (DB : Def P w K mg base "_law_begun" CX0 k ["_law_script"] (spBegun K)) (DO : Def P w K mg base "_law_odd" CX0 k ["_law_state"] (spOdd K)) (DA : Def P w K mg base "_law_version" CX0 k ["_law_state"] (spVersion K))
    (DK : Def P w K mg base "is_kit" CX0 k ["value"] (spIsKit K)) (DKn : DefN P w K mg base "is_kit" CX0 k "value" (spIsKit K)) (DKd : Def P w K mg base "_law_is_kit_due" CX0 k ["_law_value"] (spIsKit K))
    (DI : Def P w K mg base "is_version" CX0 k ["value"] (spVerB K)) (DIn : DefN P w K mg base "is_version" CX0 k "value" (spVerB K)) (DId : Def P w K mg base "_law_is_version_due" CX0 k ["_law_value"] (spVerB K))
    (DNn : DefN P w K mg base "next_version" (L2.CX P w) k "version" (spNextV K CV)) (DNx : DefX P w K mg base "next_version" k ["version"] (spNextV K CV)) (C : CaughtD K mg CK) (EV : ExcC K CV) (hsub : PySem.W.exmOne K (.ref CV) (.ref CK) = some true) (kV : PySem.W.kitOne K (.ref CV) (.ref CV) = some true)
    (DS : Def P w K mg base "_law_some_stretches" CX0 k ["_law_state", "_law_most"] (spSomeS K)) (MK : RangeMkK P w K mg base CR CE T k) (M : RangeMk P w K mg base CR CE T k) (DE : Def P w K mg base "_law_ends" CX0 k ["_law_stretches"] (spEnds K)) (DP : Def P w K mg base "_law_points" CX0 k ["_law_stretches"] (spPoints K))
    (DH : Def P w K mg base "_law_has" CX0 k ["_law_stretches", "_law_version_here"] (spHas K)) (Nm : NormalD K mg) (DSh : Def P w K mg base "_law_shuffled" CX0 k ["_law_state", "_law_some"] (spShuf K)) (G : RangeGet P w K mg base CR k) (HA : RangeHas P w K mg base CR k)
    (F1 : FnOk P w K mg base CX0 k f1 fd1 ["self", "other"] (spEqR K CR)) (e1 : PySem.W.findIn K (.ref CR) "__eq__" = some (some (.ref f1))) (e2 : PySem.W.isFn K (.ref f1) = true) (e3 : Binds K fd1 ["self", "other"] []) (e4 : PySem.W.findIn K (.ref CR) "__ne__" = some (some (.builtin "object.__ne__"))) (e5 : PySem.W.mroIn K CR (.type "object") = some true)
    (nT : PySem.W.notFirst K CR (.type "tuple") = true) (DR : Def P w K mg base "_law_refused_right" CX0 k ["_law_state", "_law_some"] (spRefused K T)) (F : FunC K "law" "law" sLaw f fd cd) :
    FnOkG P w K mg base CX0 (k + 4) f fd ["_law_script"] (spLaw K T) := by
  refine F.okG scLaw (fun vs H Q E h => ?_) (fun A outer s H vs Q E hg hr h => ?_)
  · obtain ⟨a, ns, rfl, _⟩ := h
    rfl
  · obtain ⟨a, ns, rfl, hA, hlen, hT, q⟩ := h
    have hk := hr.mono (show k ≤ k + 3 by omega)
    have hk1 := hr.mono (show k + 1 ≤ k + 3 by omega)
    have hk2 := hr.mono (show k + 2 ≤ k + 3 by omega)
    refine ⟨_, pss_cons (ps_set (i := 1) scLaw.nd rfl (.inl rfl) (pe_d DB hk (pa_cons (pv 0) pa_nil)))
    (pss_cons (ps_for PassesOwn.never rfl (pi_range1 rfl mr (pa_cons (pe_op op_add pe_int (pe_callB (call_min2 rfl) (by rfl) mm boot_min (pa_cons (pe_callB call_len_seq (by rfl) ml PySem.boot_len (pa_cons (pv 0) pa_nil)) (pa_cons pe_int pa_nil)))) pa_nil)) (pg_name (i := 2) scLaw.nd rfl (.inl rfl))
      (pss_cons (ps_asg (pe_tup (pa_cons (pe_d DO hk (pa_cons (pv 1) pa_nil)) (pa_cons (pe_d DA hk (pa_cons (pv 1) pa_nil)) pa_nil))) (pg_tup rfl (pgs_cons (pg_name (i := 7) scLaw.nd rfl (.inr rfl)) (pgs_cons (pg_name (i := 3) scLaw.nd rfl (.inl rfl)) pgs_nil))))
      (pss_cons (ps_if (pt_cmpR op_ne (pe_callB (cr_repr2 hg hr) (by rfl) mp boot_repr (pa_cons (pe_lst (pa_cons (pe_d DK hk (pa_cons (pv 7) pa_nil)) (pa_cons (pe_dN DKn hk pass0 (pv 7)) pa_nil))) pa_nil)) (pe_callB (cr_repr2 hg hr) (by rfl) mp boot_repr (pa_cons (pe_op op_rep (pe_lst (pa_cons (pe_d DKd hk (pa_cons (pv 7) pa_nil)) pa_nil)) pe_int) pa_nil)) (nomark _)) (pss_one (ps_ret pe_bl)) pss_nil)
      (pss_cons (ps_if (pt_cmpR op_ne (pe_callB (cr_repr2 hg hr) (by rfl) mp boot_repr (pa_cons (pe_lst (pa_cons (pe_d DI hk (pa_cons (pv 7) pa_nil)) (pa_cons (pe_dN DIn hk pass0 (pv 7)) pa_nil))) pa_nil)) (pe_callB (cr_repr2 hg hr) (by rfl) mp boot_repr (pa_cons (pe_op op_rep (pe_lst (pa_cons (pe_d DId hk (pa_cons (pv 7) pa_nil)) pa_nil)) pe_int) pa_nil)) (nomark _)) (pss_one (ps_ret pe_bl)) pss_nil)
      (pss_cons (ps_if (pt_cmpR (op_neD hr.units) (pe_dN DNn hk passL (pv 3)) (pe_op op_catT (pe_slice sl_tup (pv 3) po_none (po_some pe_int)) (pe_tup (pa_cons (pe_op op_add (pe_ix ix_tup (pv 3) pe_int (fun _ _ => rfl)) pe_int) pa_nil))) (nomark _)) (pss_one (ps_ret pe_bl)) pss_nil)
      (pss_cons (ps_if (PW.pt (pw_and (pt_not (pt_val (pe_d DId hk (pa_cons (pv 7) pa_nil)))) (pw_and1 (pt_not (pt_val (pe_callB (call_isX EV) (by rfl) mi (by decide +kernel) (pa_cons (pe_caughtN (i := 7) C DNx TB rfl hmT hu hk2 (lamS_by rfl) rfl (fun _ _ _ _ _ => rfl) rfl (.inr (.inr rfl)) (fun _ _ _ _ _ _ _ => rfl) rfl) (pa_cons (pe_glob (v := .ref CV) (by rfl) gV rfl) pa_nil)))))))) (pss_one (ps_ret pe_bl)) pss_nil)
      (pss_cons (ps_set (i := 8) scLaw.nd rfl (.inr rfl) (pe_d DS hk (pa_cons (pv 1) (pa_cons pe_int pa_nil))))
      (pss_cons (ps_asg (pe_tup (pa_cons (pe_rngK MK hk1 passL (pv 8)) (pa_cons (pe_normal (i := 8) (j := 9) Nm mr ml mt DH TB rfl hmT hu hr (lamP_by rfl) scLaw.nd rfl (.inr (.inr rfl)) rfl (.inl rfl) rfl (fun _ _ _ _ _ _ => rfl) (pe_d DE hk (pa_cons (pv 8) pa_nil)) (fun _ _ _ _ _ _ _ => rfl) rfl) pa_nil))) (pg_tup rfl (pgs_cons (pg_name (i := 4) scLaw.nd rfl (.inr rfl)) (pgs_cons (pg_name (i := 5) scLaw.nd rfl (.inl rfl)) pgs_nil))))
      (pss_cons (ps_if (PW.pt (pw_or (pt_cmpR (op_neD hr.units) (pe_stretches G hk1 (pv 4)) (pv 5) (nomark _)) (pw_or (pt_cmpR (op_neO F1 hk1 e1 e2 e4 e5 e3 pass0) (pv 4) (pe_rng M hk1 passL (pa_cons (pe_callTy call_tuple_of (by rfl) mt (by decide +kernel) (pa_cons (pe_d DSh hk (pa_cons (pv 1) (pa_cons (pe_op op_cat (pv 8) (pe_slice sl_list (pv 8) po_none (po_some pe_int))) pa_nil))) pa_nil)) pa_nil)) (nomark _)) (pw_or1 (pt_cmpR (op_eqO F1 hk e1 e2 e3 pass0) (pv 4) (pv 5) (nomark _)))))) (pss_one (ps_ret pe_bl)) pss_nil)
      (pss_cons (ps_if (pt_cmpR (op_neD hr.units) (pe_lc (own := [("_law_point", 9)]) (g := gName 9) rfl scLaw.nd (pi_list (pe_d DP hk (pa_cons (pv 8) pa_nil))) (blkOk_by (N := nLaw) (sc := defScope sLaw) (by decide +kernel))
          (fun _ _ _ _ _ => pg_name (i := 9) scLaw.nd rfl (Or.inl rfl)) (fun _ _ _ _ _ => pts_one (pt_cmpR op_ne (pe_cmpR (r := rOwnIn CR (spHasR K CR) E0) (op_inR HA hk) (pv 9) (pv 4) rfl) (pe_d DH hk (pa_cons (pv 8) (pa_cons (pv 9) pa_nil))) (nomark _))) (fun _ _ _ _ _ => pv 9)) (pe_lst pa_nil) (nomark _)) (pss_one (ps_ret pe_bl)) pss_nil)
      (pss_cons (ps_if (PW.pt (pw_or (PW.pt (pw_and (pt_not (pt_val (pe_d DId hk (pa_cons (pv 7) pa_nil)))) (pw_and1 (pt_cmpR (op_inR HA hk) (pv 7) (pv 4) rfl)))) (pw_or1 (pt_not (pt_val (pe_d DR hk (pa_cons (pv 1) (pa_cons (pv 8) pa_nil)))))))) (pss_one (ps_ret pe_bl)) pss_nil)
      (pss_cons (ps_set (i := 6) scLaw.nd rfl (.inl rfl) (pe_stretches G hk1 (pv 4)))
      (pss_cons (ps_expr (pe_bm PySem.F.plainAttrs_list PySem.F.slot_list_append PySem.F.type_list_append mt_append (pv 8) (pa_cons pe_non pa_nil)))
      (pss_one (ps_if (pt_cmpR (op_neD hr.units) (pe_stretches G hk1 (pv 4)) (pv 6) (nomark _)) (pss_one (ps_ret pe_bl)) pss_nil)))))))))))))))
    (pss_one (ps_ret pe_bl))), ?_⟩
    refine ⟨_, rfl, a, ns, rfl, hA, hlen, fun H1 d wl c S0 s1 nd nw nc => ?_⟩
    have hm : ∃ m : Nat, m ≤ 10 ∧ (2 : Int) + (if (8 : Int) < ((ns.map V.int).length : Int) then (8 : Int) else ((ns.map V.int).length : Int)) = (m : Int) := by
      rw [List.length_map]
      by_cases h8 : (8 : Int) < (ns.length : Int)
      · exact ⟨10, by omega, by rw [if_pos h8]; rfl⟩
      · exact ⟨2 + ns.length, by omega, by rw [if_neg h8]; omega⟩
    obtain ⟨m, hm10, em⟩ := hm
    refine ⟨_, rfl, a, _, rfl, .inl (s1.seq hA), _, _, rfl, _, _, rfl, rfl, (m : Int), congrArg (fun z => [V.int z]) em, by omega, by omega, ?_⟩
    refine for_range (lo := 0) (n := (m : Int).toNat) (fun i σ H' => ∃ y2 y3 y4 y5 y6 y7 y8 y9 : Option V, σ = [some (.ref a), some (.ref d), y2, y3, y4, y5, y6, y7, y8, y9] ∧ StAt H' d wl c (250 * i) ∧ Tabs T H')
      ⟨none, none, none, none, none, none, none, none, rfl, S0.mono (by simp), hT.ext s1⟩ ?_ ?_
    · rintro i σ H2 hi ⟨y2, y3, y4, y5, y6, y7, y8, y9, rfl, S2, T2⟩
      rw [Int.toNat_natCast] at hi
      refine ⟨_, rfl, d, wl, c, 250 * i, rfl, S2, by omega, fun H3 x ox xd xw S3 F3 => ?_⟩
      refine ⟨_, rfl, d, wl, c, 250 * i + 1, rfl, S3, by omega, fun H4 vp v okv _ _ _ npv hpv S4 F4 => ⟨by show 2 ≤ sizeLine; decide, fun qt hqt => ?_⟩⟩
      have t5 := same_upd (o := .tup [x, .ref vp]) hqt
      have S5 := S4.same t5
      have T5 := Tabs.fr2 T2 S2 ((F3.trans F4).trans (.ofSame t5))
      have ox5 := (ox.fr S3 F4 xd xw).same t5
      have hv5 : IsVer K _ (.ref vp) v := IsVer.of (t5 _ _ hpv)
      have g5 : upd H4 qt (.tup [x, .ref vp]) qt = some (.tup [x, .ref vp]) := upd_same
      generalize upd H4 qt (.tup [x, .ref vp]) = G at S5 T5 ox5 hv5 g5
      refine ⟨qt, _, rfl, .inl (.inl g5), rfl, _, _, rfl, _, _, rfl, rfl, ?_⟩
      obtain ⟨vb, hvb⟩ := ox5.ver
      refine twice_read (K := K) (b := kitV x) (x := x) rfl (fun _ _ _ s qq => (ox5.same s).kit qq) (fun _ _ _ s qq => (ox5.same s).kit qq) (fun _ _ _ s qq => (ox5.same s).kit qq) fun G1 u1 => iteF ?_
      refine twice_read (K := K) (b := vb) (x := x) rfl (fun _ _ _ s qq => ⟨x, vb, rfl, hvb.same (u1.trans s), qq⟩) (fun _ _ _ s qq => ⟨x, vb, rfl, hvb.same (u1.trans s), qq⟩) (fun _ _ _ s qq => ⟨x, vb, rfl, hvb.same (u1.trans s), qq⟩) fun G2 u2 => iteF ?_
      refine next_read (K := K) (CV := CV) (x := .ref vp) (v := v) rfl (hv5.same (u1.trans u2)) okv fun G3 u3 => iteF ?_
      have uA := (u1.trans u2).trans u3
      refine odd_read (K := K) (x := x) (b := vb) hsub kV rfl (hvb.same uA) (T5.ext uA) fun G4 e4 T4 => iteF ?_
      have S6 := (S5.same uA).ext e4
      have hvb4 := (hvb.same uA).ext e4
      refine ⟨_, rfl, d, wl, c, 250 * i + 1 + 3, 4, rfl, S6, by omega, by decide, by decide, fun H5 pS xs ss npS hS hss oks hl S7 F7 => ?_⟩
      have T7 := Tabs.fr2 T4 S6 F7
      have hvb7 := hvb4.fr S6 F7 xd xw
      obtain ⟨n1, n2, n3⟩ := S6.ne npS
      have ls : ss.length ≤ 4 := hl
      dsimp only [gName, tSeq, tAsg]
      refine mk_read (K := K) (σ := [some (.ref a), some (.ref d), some (.int (0 + (i : Int))), some (.ref vp), y4, y5, y6, some x, some (.ref pS), y9]) (i := 8) (j := 9) rfl (by decide) (by simp) T7 hS hss oks (by omega) fun H6 mx mp D zs ss' e6 T6 hR hD hz pm pw hmp => ?_
      refine ⟨mp, _, rfl, .inl (.inl hmp), rfl, _, _, rfl, _, _, rfl, rfl, ?_⟩
      have S8 := S7.ext e6
      have hS6 := e6 _ _ hS fun ps z => nomatch z
      have hss6 := e6.strs hss
      refine same_read (K := K) (is := 1) (i := 8) (im := 4) (ie := 5) rfl rfl rfl rfl S8 (by omega) T6 hS6 n2.symm hss6 oks (by omega) hR hD hz pm pw nT fun H7 S9 T9 X9 => iteF ?_
      have hS7 := X9.lst S8 hS6 n2.symm
      have hss7 := strs_keep (fun a xs => X9.sqT S8) hss6
      have hR7 := hR.frX S8 X9
      have hvb9 := (hvb7.ext e6).frX S8 X9 xd xw
      have ln : (ss'.foldl nfAdd []).length ≤ 100 := by
        have := nf_len ss' []
        have e := pm.length_eq
        simp only [List.length_nil, Nat.zero_add] at this
        omega
      refine points_read (K := K) (i := 8) (im := 4) (j := 9) rfl rfl rfl (by decide) (by decide) (by simp [wipe]) (fun y => rfl) hS7 hss7 oks (by omega) hR7 pm pw fun H8 u8 => iteF ?_
      refine last_read (K := K) (is := 1) (i := 7) (im := 4) (ip := 8) rfl rfl rfl rfl (S9.same u8) (by omega) (T9.ext u8) (hvb9.same u8) (hR7.same u8) ln (u8 _ _ hS7) n2.symm (hss7.same u8) oks (by omega) fun H9 T10 S10 X10 => iteF ?_
      have hS9 := X10.lst (S9.same u8) (u8 _ _ hS7) n2.symm
      have hR9 := (hR7.same u8).frX (S9.same u8) X10
      show tProp CR (spGetR K CR) [] E0 (tVar 4) _ H9 _
      refine get_read rfl hR9 fun t1 zs1 ht1 hz1 => ?_
      refine ⟨_, rfl, .inl ⟨rfl, _, SqL.of hS9⟩, pS, xs, _, rfl, rfl, hS9, small1000 (by rw [hss.len]; omega), ?_⟩
      have f1 : Fr1 pS H9 (upd H9 pS (.lst (xs ++ [.non]))) := Fr1.put
      show tProp CR (spGetR K CR) [] E0 (tVar 4) _ (upd H9 pS (.lst (xs ++ [.non]))) _
      refine get_read rfl (hR9.fr1 f1 hS9) fun t2 zs2 ht2 hz2 => ⟨_, rfl, _, _, dp_nf ht2 hz2, dp_nf (f1.sqT hS9 ht1) (f1.strs hS9 hz1), shaped_nf _, shaped_nf _, false, by rw [eqv_nf]; rfl, iteF ?_⟩
      exact ⟨_, _, _, _, _, _, _, _, rfl, (S10.fr1 f1 n1 n2 n3).mono (by omega), Tabs.fr1 T10 f1 hS9⟩
    · rintro σ H2 ⟨y2, y3, y4, y5, y6, y7, y8, y9, rfl, S2, T2⟩
      exact q _
end
end Kw
set_option maxHeartbeats 2000000
namespace Kw
open PySem PySem.Spec PyProof.Rows L2 LamX
/-! ### the end: the law's def is called where no repr is under way -/
section
variable {P : Program} {w : World} {K : PySem.W.Frag} {mg : Str → Option Value}
/-- the script's object -/
abbrev scrO (us : List Value) : Obj := { cls := .type "list", data := .seq us.toArray }
abbrev tabO : Obj := { cls := .none, data := .fields #[] }
/-- what is tracked when the law is called: the tables tb, and the script at a if the top has not written it down -/
def first (tb : List Addr) (fresh : Bool) (a : Addr) (us : List Value) (xs : List V) : Hp := fun b =>
  if b ∈ tb then some (.tbl #[]) else if (decide (b = a) && fresh) = true then some (.frz (scrO us) (.lst xs)) else none
section
variable {tb : List Addr} {fresh : Bool} {a b : Addr} {us : List Value} {xs : List V} {u : HO}
theorem first_tab (h : b ∈ tb) : first tb fresh a us xs b = some (.tbl #[]) := if_pos h
theorem first_of (h : first tb fresh a us xs b = some u) : (b ∈ tb ∧ u = .tbl #[]) ∨ (b = a ∧ fresh = true ∧ b ∉ tb ∧ u = .frz (scrO us) (.lst xs)) := by
  unfold first at h
  by_cases m : b ∈ tb
  · rw [if_pos m] at h
    exact .inl ⟨m, (Option.some.inj h).symm⟩
  · rw [if_neg m] at h
    split at h
    · rename_i c
      rw [Bool.and_eq_true, decide_eq_true_eq] at c
      exact .inr ⟨c.1, c.2, m, (Option.some.inj h).symm⟩
    · cases h
theorem first_out (h1 : b ∉ tb) (h2 : b ≠ a) : first tb fresh a us xs b = none := by
  cases e : first tb fresh a us xs b with
  | none => rfl
  | some u =>
    rcases first_of e with z | z
    · exact absurd z.1 h1
    · exact absurd z.1 h2
theorem first_scr (h1 : a ∉ tb) : first tb true a us xs a = some (.frz (scrO us) (.lst xs)) := by
  unfold first
  rw [if_neg h1, if_pos (by simp)]
end
/-- the heap at the law's call -/
structure AtCall (P : Program) (w : World) (K : PySem.W.Frag) (mg : Str → Option Value) (s : Shared) (tb : List Addr) (a : Addr) (us : List Value) (ns : List Int) : Prop where
  kin : K.In s.heap
  glob : s.heap.Ns mainGlobals mg
  blt : ∃ mb, s.heap.Ns builtinsNs mb ∧ ∀ x : Str, x ≠ "__name__" → mb x = bootBuiltins x
  lim : s.heap.NoLimit
  gens : s.gens = #[]
  tabs : ∀ b ∈ tb, s.heap.get? b = some tabO
  notK : ∀ b ∈ tb, K.lookup b = none
  scr : s.heap.get? a = some (scrO us)
  isI : IntsAre us ns
  len : ns.length ≤ sizeLine
section
variable {s : Shared} {tb : List Addr} {a : Addr} {us : List Value} {ns : List Int} (Z : AtCall P w K mg s tb a us ns)
include Z
theorem AtCall.out : a ∉ tb := fun m => by
  have e := Z.tabs a m
  rw [Z.scr] at e
  cases congrArg Obj.data (Option.some.inj e)
abbrev trk0 (K : PySem.W.Frag) (tb : List Addr) (a : Addr) (us : List Value) (ns : List Int) : Hp := first tb (K.lookup a).isNone a us (ns.map V.int)
theorem AtCall.lenV : us.length = ns.length := Z.isI.length.symm.symm
/-- a dict of the module, or an object that is neither a list nor a table, is not tracked -/
theorem AtCall.free {b : Addr} {o : Obj} (e : s.heap.get? b = some o) (n1 : o ≠ scrO us) (n2 : o ≠ tabO) : trk0 K tb a us ns b = none := by
  cases q : trk0 K tb a us ns b with
  | none => rfl
  | some u =>
    rcases first_of q with ⟨m, _⟩ | ⟨rfl, _, _, _⟩
    · rw [Z.tabs b m] at e
      exact absurd (Option.some.inj e).symm n2
    · rw [Z.scr] at e
      exact absurd (Option.some.inj e).symm n1
theorem AtCall.keepD {b : Addr} {o : Obj} (e : s.heap.get? b = some o) (n1 : o ≠ scrO us) (n2 : o ≠ tabO) : (hidT s.heap (trk0 K tb a us ns)).get? b = some o := hidT_get e (Z.free e n1 n2)
theorem AtCall.nsB {b : Addr} {m : Str → Option Value} (h : s.heap.Ns b m) : (hidT s.heap (trk0 K tb a us ns)).Ns b m := by
  obtain ⟨o, es, ep, e, d, r⟩ := h
  exact ⟨o, es, ep, Z.keepD e (fun z => by rw [z] at d; cases d) (fun z => by rw [z] at d; cases d), d, r⟩
theorem AtCall.kinB : K.In (hidT s.heap (trk0 K tb a us ns)) := fun b o e => by
  refine hidT_get (Z.kin b o e) ?_
  cases q : trk0 K tb a us ns b with
  | none => rfl
  | some u =>
    rcases first_of q with ⟨m, _⟩ | ⟨rfl, f, _, _⟩
    · rw [Z.notK b m] at e
      cases e
    · rw [e] at f
      cases f
theorem AtCall.ok : HOk P w (trk0 K tb a us ns) s.heap := fun b u e => by
  rcases first_of e with ⟨m, rfl⟩ | ⟨rfl, _, _, rfl⟩
  · exact Z.tabs b m
  · exact ⟨Z.scr, by rw [List.length_map]; exact Z.len, us, _, vals_ints Z.isI, Z.scr⟩
theorem AtCall.mod : L2.Mod K mg (hidT s.heap (trk0 K tb a us ns)) := by
  obtain ⟨mb, h1, h2⟩ := Z.blt
  obtain ⟨mc, h3, h4⟩ := Z.lim
  exact ⟨Z.kinB, Z.nsB Z.glob, ⟨mb, Z.nsB h1, h2⟩, mc, Z.nsB h3, h4⟩
theorem AtCall.env : Env0 P w K mg (hidT s.heap (trk0 K tb a us ns)) callerA [] s (trk0 K tb a us ns) where
  frames := rfl
  mod := Z.mod
  bs b o e := of_hidT e
  bsz := Nat.le_of_eq (hidT_size _ _)
  funs := trivial
  frf b hb := nomatch hb
  hok := Z.ok
  bare := .of_eq Z.gens
theorem AtCall.sq : SqL K (trk0 K tb a us ns) a (ns.map V.int) := by
  cases e : K.lookup a with
  | none => exact .inl (.inr ⟨scrO us, by show first tb (K.lookup a).isNone a us (ns.map V.int) a = _; rw [e]; exact first_scr Z.out⟩)
  | some o =>
    have q := Z.kin a o e
    rw [Z.scr] at q
    cases q
    exact .inr ⟨_, us.toArray, _, e, rfl, rfl, rfl, by rw [List.size_toArray, Z.lenV]; exact Z.len, by simpa using vals_ints Z.isI⟩
end
end
end Kw
set_option maxHeartbeats 2000000
namespace Kw
open PySem PySem.Spec PyProof.Rows L2 LamX
section
variable {P : Program} {w : World} {K : PySem.W.Frag} {mg : Str → Option Value} {s : Shared} {cs : List (Addr × Addr)} {a : Addr} {us : List Value} {ns : List Int}
abbrev BmAt (mg : Str → Option Value) (h : Heap) : Prop := ∃ (bm : Addr) (ob : Obj), mg "__builtins__" = some (.ref bm) ∧ bm ≠ builtinsNs ∧ h.get? bm = some ob ∧ ob.cls = .type "module" ∧ ob.dict = some builtinsNs ∧ ob.data = .plain
theorem AtCall.tabB (Z : AtCall P w K mg s (cs.map (·.2)) a us ns) (C : ∀ p ∈ cs, PySem.W.CodeHd s.heap p.1 p.2) (hbm : BmAt mg s.heap) : ∀ p ∈ cs, TabB (hidT s.heap (trk0 K (cs.map (·.2)) a us ns)) mg p.1 p.2 := by
  intro p hp
  have hm : p.2 ∈ cs.map (·.2) := List.mem_map.mpr ⟨p, hp, rfl⟩
  have ht := Z.tabs _ hm
  have hd := C p hp
  obtain ⟨bm, ob, b1, b2, b3, b4, b5, b6⟩ := hbm
  obtain ⟨og, es, ep, g1, g2, g3⟩ := id Z.glob
  have neG : mainGlobals ≠ p.2 := fun z => by
    rw [← z, g1] at ht
    cases ht
    cases g2
  constructor
  · obtain ⟨o, vs, file, tf, flags, tg, inF, text, tt, q1, q2, q3, q4, q5⟩ := hd
    refine ⟨o, vs, file, tf, flags, tg, inF, text, tt, Z.keepD q1 (fun z => ?_) (fun z => ?_), q2, q3, q4, q5⟩
    · rw [z] at q3
      cases q3
    · rw [z] at q2
      cases q2
  · refine ⟨bm, ob, b1, b2, fun z => ?_, fun z => ?_, Z.keepD b3 (fun z => ?_) (fun z => ?_), b4, b5, b6⟩
    · rw [z, g1] at b3
      cases b3
      rw [g2] at b6
      cases b6
    · rw [z, ht] at b3
      cases b3
      cases b5
    · rw [z] at b6
      cases b6
    · rw [z] at b6
      cases b6
  · exact neG
/-- what the caller asks of the law's end -/
abbrev EndOk (s : Shared) (r : Result) (s' : Shared) : Prop := r = .ok (.ret (.bool true)) ∧ OldK s.heap s'.heap ∧ s'.os = s.os ∧ AllBare s'.gens
theorem AtCall.end_ (Z : AtCall P w K mg s (cs.map (·.2)) a us ns) (C : ∀ p ∈ cs, PySem.W.CodeHd s.heap p.1 p.2) {H' : Hp} {s' : Shared} (un : Un (frs []) [] (trk0 K (cs.map (·.2)) a us ns) H' s.heap s'.heap) (ok : HOk P w H' s'.heap) : OldK s.heap s'.heap := by
  have nil : ∀ b : Addr, b ∉ ([] : List Addr) := fun b z => nomatch z
  have tabs : ∀ p ∈ cs, ∃ more : Array Value, s'.heap.get? p.2 = some { cls := .none, data := .fields more } := fun p hp => by
    obtain ⟨more, z⟩ := un.tbls p.2 #[] (first_tab (List.mem_map.mpr ⟨p, hp, rfl⟩))
    exact ⟨_, ok _ _ z⟩
  have keep : ∀ b o, b ∉ cs.map (·.2) → s.heap.get? b = some o → s'.heap.get? b = some o := fun b o nb e => by
    cases q : trk0 K (cs.map (·.2)) a us ns b with
    | none => exact un.keep b o e q (nil b) (nil b)
    | some u =>
      rcases first_of q with ⟨m, _⟩ | ⟨ha, _, _, hu⟩
      · exact absurd m nb
      · rw [hu] at q
        rw [ha, Z.scr] at e
        rw [ha]
        cases e
        exact (ok _ _ (un.frzs b _ _ q)).1 |> fun z => by rw [ha] at z; exact z
  refine ⟨fun b o e => ?_, fun b o e => ?_⟩
  · by_cases m : b ∈ cs.map (·.2)
    · obtain ⟨p, hp, rfl⟩ := List.mem_map.mp m
      have ht := Z.tabs _ m
      obtain ⟨more, hmore⟩ := tabs p hp
      rw [ht] at e
      cases e
      exact .inr (.inl ⟨((C p hp).tab ht).isCodeTable, rfl, #[], more, rfl, by rw [Array.empty_append]; exact hmore⟩)
    · exact .inl (keep b o m e)
  · by_cases m : b ∈ cs.map (·.2)
    · obtain ⟨p, hp, rfl⟩ := List.mem_map.mp m
      obtain ⟨more, hmore⟩ := tabs p hp
      exact ⟨_, hmore⟩
    · exact ⟨o, keep b o m e⟩
/-- the law's def, called by the claim's caller -/
theorem law_callG {fa : Addr} {fd : FuncData} {x : Str} {k : Nat} {sp : Sp} (Z : AtCall P w K mg s (cs.map (·.2)) a us ns) (C : ∀ p ∈ cs, PySem.W.CodeHd s.heap p.1 p.2) (hbm : BmAt mg s.heap) (hr : Room k callerA)
    (F : ∀ base : Heap, K.In base → base.Ns mainGlobals mg → (∀ p ∈ cs, TabB base mg p.1 p.2) → FnOkG P w K mg base CX0 k fa fd [x] sp) (hb : ∀ (s : Shared) (u : Value), BindsTo s fd ⟨[u], []⟩ [(x, u)])
    (hsp : ∀ H : Hp, (∀ p ∈ cs, H p.2 = some (.tbl #[])) → SqL K H a (ns.map V.int) → sp [.ref a] H (fun v _ => v = .bl true) fun _ _ _ => False) : codeAny (model P w) callerA (.call (.ref fa) ⟨[.ref a], []⟩) (EndOk s) s := by
  have promise := hsp (trk0 K (cs.map (·.2)) a us ns) (fun p hp => first_tab (List.mem_map.mpr ⟨p, hp, rfl⟩)) Z.sq
  have G := F _ Z.kinB (Z.nsB Z.glob) (Z.tabB C hbm)
  refine codeAny_mono (G.run callerA [] s _ ⟨[.ref a], []⟩ [.ref a] [.ref a] _ _ rfl hr Z.env (hb s (.ref a)) (.cons rfl .nil) promise) fun r s' h => ?_
  cases r with
  | error e => exact False.elim h
  | ok fl =>
    cases fl with
    | ret u =>
      obtain ⟨v, H', h1, h2, h3, h4, h5, h6⟩ := h
      cases (show v = .bl true from h6)
      cases (show u = Value.bool true from h5)
      exact ⟨rfl, Z.end_ C h3 h4, h1, h2⟩
    | next => exact False.elim h
    | brk => exact False.elim h
    | cont => exact False.elim h
end
/-- what has to be known of the law's def at the heap behind the top -/
def LawG (l : PySem.W.OpenLaw) (w : World) (K : PySem.W.Frag) (k : Nat) (mg : Str → Option Value) (fa : Addr) (h : Heap) : Prop :=
  ∃ (fd : FuncData) (cs : List (Addr × Addr)) (T : List (Addr × Str)), (∀ b ∈ cs.map (·.2), h.get? b = some tabO) ∧ (∀ b ∈ cs.map (·.2), K.lookup b = none) ∧ (∀ p ∈ cs, PySem.W.CodeHd h p.1 p.2) ∧ (∀ p ∈ T, p.1 ∈ cs.map (·.2)) ∧ (∀ (s : Shared) (u : Value), BindsTo s fd ⟨[u], []⟩ [("_law_script", u)]) ∧
    ∀ base : Heap, K.In base → base.Ns mainGlobals mg → (∀ p ∈ cs, TabB base mg p.1 p.2) → FnOkG l.prog w K mg base CX0 k fa fd ["_law_script"] (spLaw K T)
theorem walkG {l : PySem.W.OpenLaw} {k : Nat} {q : Program} {loose : List Str} {XP : (Str → Option Value) → Heap → Prop} {YP : World → Heap → Prop} {d : DefRec} {K : Params → PySem.W.Frag} (hn : l.most = some 63) (hdf : d.params.defaults = []) (hr : Room k callerA) (hY : ∀ (w : World) (h : Heap), YP w h → (K w.params).In h)
    (F : ∀ (w : World) (mg : Str → Option Value) (fa : Addr) (h : Heap), YP w h → (K w.params).In h → h.Ns mainGlobals mg → mg d.name = some (.ref fa) → LawG l w (K w.params) k mg fa h) : PySem.W.WalkO q loose XP YP l.row.toRowW d [] (fun f vs => PySem.call f vs) := by
  apply Att.attach_callB hn hdf
  intro w s0 s mg mb fa o pm cd doc a us ns G Y ho hd hcd hmg hobj hisI hlen hbits hgens
  have kin := hY w _ Y
  obtain ⟨fd, cs, T, t1, t2, t3, t4, t5, t6⟩ := F w mg fa _ Y kin G.T.g hmg
  have Z : AtCall l.prog w (K w.params) mg s (cs.map (·.2)) a us ns := ⟨kin, G.T.g, ⟨mb, G.T.b, G.T.builtins⟩, G.T.nolimit, hgens, t1, t2, hobj, hisI, Nat.le_trans hlen (by decide)⟩
  refine law_callG Z t3 G.T.bmain hr t6 t5 fun H hH hS => ⟨a, ns, rfl, hS, hlen, fun p hp => ?_, fun _ => rfl⟩
  obtain ⟨c, hc, ec⟩ := List.mem_map.mp (t4 p hp)
  refine ⟨#[], ?_, ?_, fun pos cv z => ?_⟩
  · rw [← ec]; exact hH c hc
  · exact trivial
  · have z2 : (none : Option Value) = some cv := z
    cases z2
end Kw
set_option maxHeartbeats 2000000
namespace Kw
open PySem PySem.Spec PyProof.Rows L2 LamX
/-! ### what the top has left, def by def -/
section
variable {K : PySem.W.Frag} {P : Program} {w : World} {mg : Str → Option Value} {base : Heap}
/-- the def x stands at the top; its function is at f, its code object at cd -/
structure TD (K : PySem.W.Frag) (x : Str) (st : Stmt) (f cd : Addr) : Prop where
  gl : PySem.W.nsIn K mainGlobals x = some (some (.ref f))
  ex : ∃ fd, FunC K x x st f fd cd
theorem td_mk {x : Str} {st : Stmt} {f cd : Addr} {oc kV doc pm ct : Value} {od an : Option Addr} {osl : Array (Option Value)} (a : PySem.W.nsIn K mainGlobals x = some (some (.ref f)))
    (l : K.lookup f = some ⟨oc, od, .func (PySem.W.fnOf x x (defArgs st) (defBody st) (defScope st) .none kV doc pm an (.ref cd) ct), osl⟩) (c : PySem.W.codeIn K (.ref cd) x = true) (k : PySem.W.keepIn K (.ref f) = true) : TD K x st f cd := ⟨a, _, ⟨oc, od, kV, doc, pm, an, ct, osl, rfl, l, c⟩, k⟩
/-- a method of Range -/
theorem fm_mk {x qual : Str} {st : Stmt} {f cd : Addr} {oc kV doc pm ct : Value} {od an : Option Addr} {osl : Array (Option Value)}
    (l : K.lookup f = some ⟨oc, od, .func (PySem.W.fnOf x qual (defArgs st) (defBody st) (defScope st) .none kV doc pm an (.ref cd) ct), osl⟩) (c : PySem.W.codeIn K (.ref cd) qual = true) (k : PySem.W.keepIn K (.ref f) = true) : ∃ fd, Fun K x qual st f fd := ⟨_, ⟨oc, od, kV, doc, pm, an, _, ct, osl, rfl, l, c⟩, k⟩
/-- the names of the module, read -/
structure Glo (K : PySem.W.Frag) (mg : Str → Option Value) : Prop where
  some_ : ∀ n v, PySem.W.nsIn K mainGlobals n = some (some v) → mg n = some v
  none_ : ∀ n, PySem.W.nsIn K mainGlobals n = some none → mg n = none
theorem Binds1 {x qual : Str} {st : Stmt} {f : Addr} {fd : FuncData} {p : Str} (F : Fun K x qual st f fd) (h : ∀ (kV doc pm : Value) (an : Option Addr) (cdv ct u : Value), bindArgs (PySem.W.fnOf x qual (defArgs st) (defBody st) (defScope st) .none kV doc pm an cdv ct) ⟨[u], []⟩ = pure [(p, u)]) : Binds K fd [p] [] :=
  F.binds fun kV doc pm an cdv ct us hl => match us, hl with | [u], _ => h kV doc pm an cdv ct u
theorem Binds2 {x qual : Str} {st : Stmt} {f : Addr} {fd : FuncData} {p q : Str} (F : Fun K x qual st f fd) (h : ∀ (kV doc pm : Value) (an : Option Addr) (cdv ct u v : Value), bindArgs (PySem.W.fnOf x qual (defArgs st) (defBody st) (defScope st) .none kV doc pm an cdv ct) ⟨[u, v], []⟩ = pure [(p, u), (q, v)]) : Binds K fd [p, q] [] :=
  F.binds fun kV doc pm an cdv ct us hl => match us, hl with | [u, v], _ => h kV doc pm an cdv ct u v
theorem TD.def1 {x p : Str} {st : Stmt} {f cd : Addr} {CX : CXT} {k : Nat} {sp : Sp} (t : TD K x st f cd) (g : Glo K mg) (ok : ∀ fd, Fun K x x st f fd → FnOk P w K mg base CX k f fd [p] sp) (j : Nat) (hj : k ≤ j)
    (h : ∀ (kV doc pm : Value) (an : Option Addr) (cdv ct u : Value), bindArgs (PySem.W.fnOf x x (defArgs st) (defBody st) (defScope st) .none kV doc pm an cdv ct) ⟨[u], []⟩ = pure [(p, u)]) : Def P w K mg base x CX j [p] sp := by
  obtain ⟨fd, F⟩ := t.ex
  exact ⟨f, fd, (ok fd F.fn).mono hj, g.some_ _ _ t.gl, F.kp, Binds1 F.fn h⟩
theorem TD.def2 {x p q : Str} {st : Stmt} {f cd : Addr} {CX : CXT} {k : Nat} {sp : Sp} (t : TD K x st f cd) (g : Glo K mg) (ok : ∀ fd, Fun K x x st f fd → FnOk P w K mg base CX k f fd [p, q] sp) (j : Nat) (hj : k ≤ j)
    (h : ∀ (kV doc pm : Value) (an : Option Addr) (cdv ct u v : Value), bindArgs (PySem.W.fnOf x x (defArgs st) (defBody st) (defScope st) .none kV doc pm an cdv ct) ⟨[u, v], []⟩ = pure [(p, u), (q, v)]) : Def P w K mg base x CX j [p, q] sp := by
  obtain ⟨fd, F⟩ := t.ex
  exact ⟨f, fd, (ok fd F.fn).mono hj, g.some_ _ _ t.gl, F.kp, Binds2 F.fn h⟩
theorem TD.defN {x p : Str} {st : Stmt} {f cd : Addr} {CX : CXT} {k : Nat} {sp : Sp} (t : TD K x st f cd) (g : Glo K mg) (ok : ∀ fd, Fun K x x st f fd → FnOk P w K mg base CX k f fd [p] sp) (j : Nat) (hj : k ≤ j)
    (h : ∀ (kV doc pm : Value) (an : Option Addr) (cdv ct u : Value), bindArgs (PySem.W.fnOf x x (defArgs st) (defBody st) (defScope st) .none kV doc pm an cdv ct) ⟨[], [(p, u)]⟩ = pure [(p, u)]) : DefN P w K mg base x CX j p sp := by
  obtain ⟨fd, F⟩ := t.ex
  refine ⟨f, fd, (ok fd F.fn).mono hj, g.some_ _ _ t.gl, F.kp, fun s u _ => ?_⟩
  obtain ⟨oc, od, kV, doc, pm, an, ct, osl, rfl, lk, hcd⟩ := F.ex
  exact .of_eq (h kV doc pm an _ ct u)
theorem Def.x {x : Str} {k : Nat} {ps : List Str} {sp : Sp} (D : Def P w K mg base x (L2.CX P w) k ps sp) : DefX P w K mg base x k ps sp := ⟨D.ex⟩
theorem Def.up {x : Str} {CX : CXT} {k j : Nat} {ps : List Str} {sp : Sp} (D : Def P w K mg base x CX k ps sp) (h : k ≤ j) : Def P w K mg base x CX j ps sp := by
  obtain ⟨f, fd, F, r⟩ := D.ex
  exact ⟨f, fd, F.mono h, r⟩
/-! ### Range.__init__ with its default -/
theorem init_binds {T : Addr} {fd : FuncData} {o : Obj} {its : Array Value} {n : Nat} {kV doc pm cdv ct : Value} {an : Option Addr} (e : fd = PySem.W.fnOf "__init__" "Range.__init__" (defArgs sInit) (defBody sInit) (defScope sInit) (.ref T) kV doc pm an cdv ct)
    (lT : K.lookup T = some o) (oT : o.data = .seq its n) (h1 : its.size = 1) : Binds K fd ["self", "stretches"] [] := by
  subst e
  obtain ⟨d, rfl⟩ : ∃ d, its = #[d] := Array.size_eq_one_iff.mp h1
  intro s us X hl
  obtain ⟨u, v, rfl⟩ : ∃ u v, us = [u, v] := by
    match us, hl with
    | [u, v], _ => exact ⟨u, v, rfl⟩
  refine BindsTo.of_looks fun M => ?_
  have hk : ∃ k, bindArgs (PySem.W.fnOf "__init__" "Range.__init__" (defArgs sInit) (defBody sInit) (defScope sInit) (.ref T) kV doc pm an cdv ct) ⟨[u, v] ++ [], []⟩ = seqItems? (.ref T) >>= k ∧ k (some #[d]) = pure [(("self" : Str), u), (("stretches" : Str), v)] := ⟨_, rfl, rfl⟩
  obtain ⟨k, e1, e2⟩ := hk
  exact e1 ▸ looks_items X lT oT (.of_pure e2)
theorem init_kbinds {T : Addr} {fd : FuncData} {o : Obj} {its : Array Value} {n : Nat} {kV doc pm cdv ct : Value} {an : Option Addr} (e : fd = PySem.W.fnOf "__init__" "Range.__init__" (defArgs sInit) (defBody sInit) (defScope sInit) (.ref T) kV doc pm an cdv ct)
    (lT : K.lookup T = some o) (oT : o.data = .seq its n) (h1 : its.size = 1) : KBn K fd ["self", "stretches"] 1 ["stretches"] (fun us ws => us ++ ws) (fun vs zs => vs ++ zs) := by
  subst e
  obtain ⟨d, rfl⟩ : ∃ d, its = #[d] := Array.size_eq_one_iff.mp h1
  refine ⟨fun s us ws X h2 h3 => ?_, fun r q => r.append q⟩
  obtain ⟨u, rfl⟩ := List.length_eq_one_iff.mp h2
  obtain ⟨v, rfl⟩ := List.length_eq_one_iff.mp h3
  refine BindsTo.of_looks fun M => ?_
  have hk : ∃ k, bindArgs (PySem.W.fnOf "__init__" "Range.__init__" (defArgs sInit) (defBody sInit) (defScope sInit) (.ref T) kV doc pm an cdv ct) ⟨[u], [(("stretches" : Str), v)]⟩ = seqItems? (.ref T) >>= k ∧ k (some #[d]) = pure [(("self" : Str), u), (("stretches" : Str), v)] := ⟨_, rfl, rfl⟩
  obtain ⟨k, e1, e2⟩ := hk
  exact e1 ▸ looks_items X lT oT (.of_pure e2)
end
end Kw
set_option maxHeartbeats 4000000
namespace Kw
open PySem PySem.Spec PyProof.Rows L2 LamX
/-! ### all together -/
/-- what Range's class has -/
structure RngF (K : PySem.W.Frag) (CR f0 f1 f2 f3 pp : Addr) : Prop where
  gR : PySem.W.nsIn K mainGlobals "Range" = some (some (.ref CR))
  pg : PySem.W.plainGet K CR Str.empty = true
  hd : PySem.W.hasDictIn K CR = true
  po : PySem.W.plainOver K CR = true
  sa : PySem.W.findIn K (.ref CR) "__setattr__" = some (some (.builtin "object.__setattr__"))
  nA : PySem.W.findIn K (.ref CR) "_stretches" = some none
  mkk : PySem.W.makesIn K CR = true
  a0 : PySem.W.findIn K (.ref CR) "__init__" = some (some (.ref f0))
  i0 : PySem.W.isFn K (.ref f0) = true
  kp : PySem.W.keepIn K (.ref CR) = true
  a1 : PySem.W.findIn K (.ref CR) "stretches" = some (some (.ref pp))
  a2 : PySem.W.findIn K (.ref CR) "__contains__" = some (some (.ref f2))
  i2 : PySem.W.isFn K (.ref f2) = true
  a3 : PySem.W.findIn K (.ref CR) "__eq__" = some (some (.ref f3))
  i3 : PySem.W.isFn K (.ref f3) = true
  ne : PySem.W.findIn K (.ref CR) "__ne__" = some (some (.builtin "object.__ne__"))
  ob : PySem.W.mroIn K CR (.type "object") = some true
  nT : PySem.W.notFirst K CR (.type "tuple") = true
  sp : PySem.W.specialIn K (.ref pp) "__get__" = some (some (.builtin "property.__get__"))
  tk : PySem.W.takesIn K (.ref pp) = some true
  kR : PySem.W.kitOne K (.ref CR) (.ref CR) = some true
  kT : PySem.W.kitOne K (.type "tuple") (.ref CR) = some false
  ha : PySem.W.findIn K (.ref CR) "__class__" = some (some (.builtin "object.__class__"))
/-- what an own error's class has -/
structure ErrF (K : PySem.W.Frag) (x : Str) (C CK : Addr) : Prop where
  gC : PySem.W.nsIn K mainGlobals x = some (some (.ref C))
  kC : PySem.W.keepIn K (.ref C) = true
  sub : PySem.W.subIn K (.ref C) (.type "BaseException") = some true
  ty : PySem.W.typeIn K (.ref C) = some (.type "type")
  hg : PySem.W.findIn K (.ref C) "__getattribute__" = some (some (.builtin "BaseException.__getattribute__"))
  hk : PySem.W.findIn K (.ref C) "__getattr__" = some none
  hd : PySem.W.hasDictIn K C = true
  ha : PySem.W.findIn K (.ref C) "__class__" = some (some (.builtin "object.__class__"))
  hn : PySem.W.specialIn K (.builtin "object.__class__") "__get__" = some (some (.builtin "getset_descriptor.__get__"))
  ht : PySem.W.takesIn K (.builtin "object.__class__") = some true
  hm : PySem.W.mroIn K C (.type "object") = some true
  kk : PySem.W.kitOne K (.ref C) (.ref C) = some true
  ex : PySem.W.exmOne K (.ref C) (.ref CK) = some true
theorem ErrF.c {K : PySem.W.Frag} {x : Str} {C CK : Addr} (e : ErrF K x C CK) : ExcC K C := ⟨e.hg, e.hk, e.sub, e.hd, e.ha, e.hn, e.ht, e.hm⟩
theorem ErrF.f {K : PySem.W.Frag} {x : Str} {C CK : Addr} (e : ErrF K x C CK) : XfC K C := ⟨e.hg, e.hk, e.sub, e.hd⟩
/-- a def that makes functions: its code object at c, the table at T -/
structure TabF (K : PySem.W.Frag) (h : Heap) (c T : Addr) : Prop where
  hd : PySem.W.codeHdIn K c T = true
  tab : h.get? T = some (PySem.W.tabObj #[])
  no : K.lookup T = none
theorem all_law {K : PySem.W.Frag} {l : PySem.W.OpenLaw} {w : World} {h : Heap} {mg : Str → Option Value} {fa : Addr} (X : K.In h) (G : h.Ns mainGlobals mg) (hfa : mg "law" = some (.ref fa))
    {aBegun cBegun aStir cStir aDraw cDraw aPick cPick aShuf cShuf aVers cVers aLater cLater aStre cStre aHas cHas aCaug cCaug aArou cArou aPoin cPoin aEnds cEnds aNorm cNorm aWide cWide aSome cSome aOdd cOdd aKitD cKitD aVerD cVerD aStrD cStrD aRefu cRefu aLaw cLaw aLatE cLatE aNF cNF aIsNu cIsNu aIsLi cIsLi aTupO cTupO aIsKi cIsKi aIsVe cIsVe aChkV cChkV aNext cNext aIsSt cIsSt aChkS cChkS CR f0 f1 f2 f3 pp TI CE CV CK CN PN PF PL : Addr}
    (dBegun : TD K "_law_begun" sBegun aBegun cBegun) (dStir : TD K "_law_stirred" sStirred aStir cStir) (dDraw : TD K "_law_draw" sDraw aDraw cDraw) (dPick : TD K "_law_pick" sPick aPick cPick) 
    (dShuf : TD K "_law_shuffled" sShuf aShuf cShuf) (dVers : TD K "_law_version" sVersion aVers cVers) (dLater : TD K "_law_later" sLater aLater cLater) 
    (dStre : TD K "_law_stretch" sStretch aStre cStre) (dHas : TD K "_law_has" sHas aHas cHas) (dCaug : TD K "_law_caught" sCaught aCaug cCaug) (dArou : TD K "_law_around" sAround aArou cArou) 
    (dPoin : TD K "_law_points" sPoints aPoin cPoin) (dEnds : TD K "_law_ends" sEnds aEnds cEnds) (dNorm : TD K "_law_normal" sNormal aNorm cNorm) (dWide : TD K "_law_wide_version" sWideV aWide cWide) 
    (dSome : TD K "_law_some_stretches" sSomeS aSome cSome) (dOdd : TD K "_law_odd" sOdd aOdd cOdd) (dKitD : TD K "_law_is_kit_due" sIsKitDue aKitD cKitD) 
    (dVerD : TD K "_law_is_version_due" sIsVerDue aVerD cVerD) (dStrD : TD K "_law_is_stretch" sIsStrDue aStrD cStrD) (dRefu : TD K "_law_refused_right" sRefused aRefu cRefu) 
    (dLaw : TD K "law" sLaw aLaw cLaw) (dLatE : TD K "later_end" sLaterE aLatE cLatE) (dNF : TD K "normal_form" sNF aNF cNF) (dIsNu : TD K "is_number" sIsNum aIsNu cIsNu) 
    (dIsLi : TD K "is_list" sIsList aIsLi cIsLi) (dTupO : TD K "is_tuple_of" sTupOf aTupO cTupO) (dIsKi : TD K "is_kit" sIsKit aIsKi cIsKi) (dIsVe : TD K "is_version" sIsVer aIsVe cIsVe) 
    (dChkV : TD K "check_version" sChkV aChkV cChkV) (dNext : TD K "next_version" sNextV aNext cNext) (dIsSt : TD K "is_stretch" sIsStr aIsSt cIsSt) (dChkS : TD K "check_stretches" sChkS aChkS cChkS) 
    (z_len : PySem.W.nsIn K mainGlobals "len" = some none) (z_range : PySem.W.nsIn K mainGlobals "range" = some none) (z_min : PySem.W.nsIn K mainGlobals "min" = some none) 
    (z_max : PySem.W.nsIn K mainGlobals "max" = some none) (z_repr : PySem.W.nsIn K mainGlobals "repr" = some none) (z_isinstance : PySem.W.nsIn K mainGlobals "isinstance" = some none) 
    (z_tuple : PySem.W.nsIn K mainGlobals "tuple" = some none) (z_list : PySem.W.nsIn K mainGlobals "list" = some none) (z_set : PySem.W.nsIn K mainGlobals "set" = some none) 
    (z_sorted : PySem.W.nsIn K mainGlobals "sorted" = some none) (z_enumerate : PySem.W.nsIn K mainGlobals "enumerate" = some none) (z_int : PySem.W.nsIn K mainGlobals "int" = some none) 
    (z_bool : PySem.W.nsIn K mainGlobals "bool" = some none) (z_str : PySem.W.nsIn K mainGlobals "str" = some none) (z_abs : PySem.W.nsIn K mainGlobals "abs" = some none) 
    (z_all : PySem.W.nsIn K mainGlobals "all" = some none) (z_any : PySem.W.nsIn K mainGlobals "any" = some none) (z_ValueError : PySem.W.nsIn K mainGlobals "ValueError" = some none) 
    (z_super : PySem.W.nsIn K mainGlobals "super" = some none) 
    {tL tM : Tok} {zL : Str} (mL : PySem.W.nsIn K mainGlobals "LETTERS" = some (some (.str zL tL))) (eL : zL = LET) (mM : PySem.W.nsIn K mainGlobals "MOST_STRETCHES" = some (some (.int 40 tM)))
    (R : RngF K CR f0 f1 f2 f3 pp) {rest : List Value} (rc : PySem.W.recIn K pp "property" = some (.ref f1 :: rest))
    {oc0 kV0 doc0 pm0 cdv0 ct0 : Value} {od0 an0 : Option Addr} {osl0 : Array (Option Value)} (l0 : K.lookup f0 = some ⟨oc0, od0, .func (PySem.W.fnOf "__init__" "Range.__init__" (defArgs sInit) (defBody sInit) (defScope sInit) (.ref TI) kV0 doc0 pm0 an0 cdv0 ct0), osl0⟩) (c0 : PySem.W.codeIn K cdv0 "Range.__init__" = true)
    {oT : Obj} {its : Array Value} {nI : Nat} (lT : K.lookup TI = some oT) (sT : oT.data = .seq its nI) (s1 : its.size = 1)
    (m1 : ∃ fd, Fun K "stretches" "Range.stretches" sGet f1 fd) (m2 : ∃ fd, Fun K "__contains__" "Range.__contains__" sHasR f2 fd) (m3 : ∃ fd, Fun K "__eq__" "Range.__eq__" sEqR f3 fd)
    (gN : PySem.W.nsIn K mainGlobals "Normal" = some (some (.ref CN))) (noN : ∀ T ∈ ["NoneType", "bool", "int", "str", "dict", "list", "tuple"], PySem.W.kitOne K (.type T) (.ref CN) = some false)
    (gK : PySem.W.nsIn K mainGlobals "KitError" = some (some (.ref CK))) (eE : ErrF K "BadRange" CE CK) (eV : ErrF K "BadVersion" CV CK) (xV : PySem.W.excIn K CV [.type "ValueError", .type "Exception", .type "BaseException", .type "object"] "ValueError.__new__" = true) (kEV : PySem.W.kitOne K (.ref CE) (.type "ValueError") = some true)
    (sup : ∃ (fI cc cd : Addr) (qual : Str), Ks.SupTxt l.prog K mg CE fI cc cd qual) (hno : PySem.W.findIn K (.ref CE) "at" = some none)
    (tN : TabF K h cNF PN) (tF : TabF K h cRefu PF) (tL' : TabF K h cLaw PL) (n1 : PN ≠ PF) (n2 : PN ≠ PL) (n3 : PF ≠ PL) : LawG l w K 13 mg fa h := by
  have g : Glo K mg := ⟨fun n v e => PySem.W.mg_of X G e, fun n e => PySem.W.mg_none_of X G e⟩
  have efa := hfa.symm.trans (g.some_ _ _ dLaw.gl)
  cases efa
  obtain ⟨fdL, FL⟩ := dLaw.ex
  obtain ⟨fdF, FF⟩ := dRefu.ex
  obtain ⟨fdN, FN⟩ := dNF.ex
  obtain ⟨fd1, F1⟩ := m1
  obtain ⟨fd2, F2⟩ := m2
  obtain ⟨fd3, F3⟩ := m3
  have cR : Cls K CR := ⟨R.pg, R.hd, R.po, R.sa⟩
  have mK := g.some_ _ _ gK
  have mE := g.some_ _ _ eE.gC
  have mV := g.some_ _ _ eV.gC
  have mR := g.some_ _ _ R.gR
  have mem : ∀ {p : Addr × Addr}, p ∈ [(cNF, PN), (cRefu, PF), (cLaw, PL)] → p = (cNF, PN) ∨ p = (cRefu, PF) ∨ p = (cLaw, PL) := fun hp => by simpa using hp
  have memB : ∀ {b : Addr}, b ∈ [(cNF, PN), (cRefu, PF), (cLaw, PL)].map (·.2) → b = PN ∨ b = PF ∨ b = PL := fun hp => by simpa using hp
  refine ⟨fdL, [(cNF, PN), (cRefu, PF), (cLaw, PL)], [(PN, ("normal_form" : Str) ++ ".<locals>." ++ "<lambda>"), (PF, ("_law_refused_right" : Str) ++ ".<locals>." ++ "<lambda>"), (PL, ("law" : Str) ++ ".<locals>." ++ "<lambda>")], fun b hb => ?_, fun b hb => ?_, fun p hp => ?_, fun p hp => ?_, fun s u => ?_, fun base X' G' TB => ?_⟩
  · rcases memB hb with rfl | rfl | rfl
    · exact tN.tab
    · exact tF.tab
    · exact tL'.tab
  · rcases memB hb with rfl | rfl | rfl
    · exact tN.no
    · exact tF.no
    · exact tL'.no
  · rcases mem hp with rfl | rfl | rfl
    · exact PySem.W.codeHd_of_K X tN.hd
    · exact PySem.W.codeHd_of_K X tF.hd
    · exact PySem.W.codeHd_of_K X tL'.hd
  · simp only [List.mem_cons, List.not_mem_nil, or_false] at hp
    rcases hp with rfl | rfl | rfl <;> simp
  · obtain ⟨oc, od, kV, doc, pm, an, ct, osl, rfl, lk, hcd⟩ := FL.ex
    exact .of_eq rfl
  have bN := TB _ (List.mem_cons_self)
  have bF := TB (cRefu, PF) (by simp)
  have bL := TB (cLaw, PL) (by simp)
  have d1 : Def l.prog w K mg base "_law_stirred" CX0 1 ["_law_state"] spStirred := dStir.def1 g (fun fd F => ok_stirred (k := 0) F (g.none_ _ z_int)) 1 (by decide) fun _ _ _ _ _ _ _ => rfl
  have d2 : Def l.prog w K mg base "_law_draw" CX0 2 ["_law_state", "_law_size"] spDraw := dDraw.def2 g (fun fd F => ok_draw F (g.none_ _ z_int) d1) 2 (by decide) fun _ _ _ _ _ _ _ _ => rfl
  have d3 : Def l.prog w K mg base "_law_pick" CX0 3 ["_law_state", "_law_some"] spPick := dPick.def2 g (fun fd F => ok_pick F (g.none_ _ z_len) d2) 3 (by decide) fun _ _ _ _ _ _ _ _ => rfl
  have d4 : Def l.prog w K mg base "_law_version" CX0 4 ["_law_state"] (spVersion K) := dVers.def1 g (fun fd F => ok_version F (g.none_ _ z_tuple) (g.none_ _ z_range) d3) 4 (by decide) fun _ _ _ _ _ _ _ => rfl
  have d5 : Def l.prog w K mg base "_law_later" CX0 3 ["_law_state", "_law_version_here"] (spLater K) := dLater.def2 g (fun fd F => ok_later F d2) 3 (by decide) fun _ _ _ _ _ _ _ _ => rfl
  have d6 : Def l.prog w K mg base "_law_stretch" CX0 5 ["_law_state", "_law_some"] (spStretch K) := dStre.def2 g (fun fd F => ok_stretch F (d3.up (by decide)) d4 (d2.up (by decide)) (d5.up (by decide))) 5 (by decide) fun _ _ _ _ _ _ _ _ => rfl
  have d7 : Def l.prog w K mg base "_law_wide_version" CX0 5 ["_law_state"] (spWideV K) := dWide.def1 g (fun fd F => ok_wideV F (g.none_ _ z_tuple) (g.none_ _ z_range) (d3.up (by decide)) (d2.up (by decide)) d4) 5 (by decide) fun _ _ _ _ _ _ _ => rfl
  have d8 : Def l.prog w K mg base "_law_some_stretches" CX0 6 ["_law_state", "_law_most"] (spSomeS K) := dSome.def2 g (fun fd F => ok_someS F (g.none_ _ z_range) d7 (d2.up (by decide)) d6) 6 (by decide) fun _ _ _ _ _ _ _ _ => rfl
  have d9 : Def l.prog w K mg base "_law_has" CX0 1 ["_law_stretches", "_law_version_here"] (spHas K) := dHas.def2 g (fun fd F => ok_has (k := 0) F) 1 (by decide) fun _ _ _ _ _ _ _ _ => rfl
  have d10 : Def l.prog w K mg base "_law_around" CX0 1 ["_law_version_here"] (spAround K) := dArou.def1 g (fun fd F => ok_around (k := 0) F (g.none_ _ z_int)) 1 (by decide) fun _ _ _ _ _ _ _ => rfl
  have d11 : Def l.prog w K mg base "_law_points" CX0 2 ["_law_stretches"] (spPoints K) := dPoin.def1 g (fun fd F => ok_points F (g.none_ _ z_sorted) (g.none_ _ z_set) d10) 2 (by decide) fun _ _ _ _ _ _ _ => rfl
  have d12 : Def l.prog w K mg base "_law_ends" CX0 1 ["_law_stretches"] (spEnds K) := dEnds.def1 g (fun fd F => ok_ends (k := 0) F (g.none_ _ z_sorted) (g.none_ _ z_set)) 1 (by decide) fun _ _ _ _ _ _ _ => rfl
  have d13 : Def l.prog w K mg base "_law_odd" CX0 4 ["_law_state"] (spOdd K) := dOdd.def1 g (fun fd F => ok_odd F d3) 4 (by decide) fun _ _ _ _ _ _ _ => rfl
  have d14 : Def l.prog w K mg base "_law_shuffled" CX0 3 ["_law_state", "_law_some"] (spShuf K) := dShuf.def2 g (fun fd F => ok_shuf F (g.none_ _ z_list) (g.none_ _ z_len) d2) 3 (by decide) fun _ _ _ _ _ _ _ _ => rfl
  have d15 : Def l.prog w K mg base "_law_is_version_due" CX0 1 ["_law_value"] (spVerB K) := dVerD.def1 g (fun fd F => ok_verDue (k := 0) F (g.none_ _ z_isinstance) (g.none_ _ z_tuple) (g.none_ _ z_len) (g.none_ _ z_int) (g.none_ _ z_bool)) 1 (by decide) fun _ _ _ _ _ _ _ => rfl
  have d16 : Def l.prog w K mg base "_law_is_stretch" CX0 2 ["_law_value"] (spStrB K) := dStrD.def1 g (fun fd F => ok_strDue F (g.none_ _ z_isinstance) (g.none_ _ z_tuple) (g.none_ _ z_len) d15) 2 (by decide) fun _ _ _ _ _ _ _ => rfl
  have d17 : Def l.prog w K mg base "_law_is_kit_due" CX0 1 ["_law_value"] (spIsKit K) := dKitD.def1 g (fun fd F => ok_kitDue (k := 0) F (g.none_ _ z_isinstance) (g.none_ _ z_str) (g.none_ _ z_len)) 1 (by decide) fun _ _ _ _ _ _ _ => rfl
  have d18 : Def l.prog w K mg base "_law_begun" CX0 1 ["_law_script"] (spBegun K) := dBegun.def1 g (fun fd F => ok_begun (k := 0) F (g.none_ _ z_abs)) 1 (by decide) fun _ _ _ _ _ _ _ => rfl
  have e1 : Def l.prog w K mg base "is_number" CX0 1 ["value"] (spIsNum K) := dIsNu.def1 g (fun fd F => ok_isNum (k := 0) F (g.none_ _ z_isinstance) (g.none_ _ z_int) (g.none_ _ z_bool)) 1 (by decide) fun _ _ _ _ _ _ _ => rfl
  have e2 : Def l.prog w K mg base "is_tuple_of" CX0 1 ["value", "many"] (spTupOf K) := dTupO.def2 g (fun fd F => ok_tupOf (k := 0) F (g.none_ _ z_isinstance) (g.none_ _ z_tuple) (g.none_ _ z_len)) 1 (by decide) fun _ _ _ _ _ _ _ _ => rfl
  have oV : ∀ fd, Fun K "is_version" "is_version" sIsVer aIsVe fd → FnOk l.prog w K mg base CX0 2 aIsVe fd ["value"] (spVerB K) := fun fd F => (ok_isVer F (g.none_ _ z_all) e2 e1).imp verB_of
  have e3 : Def l.prog w K mg base "is_version" CX0 2 ["value"] (spVerB K) := dIsVe.def1 g oV 2 (by decide) fun _ _ _ _ _ _ _ => rfl
  have e3N : DefN l.prog w K mg base "is_version" CX0 9 "value" (spVerB K) := dIsVe.defN g oV 9 (by decide) fun _ _ _ _ _ _ _ => rfl
  have mL' : mg "LETTERS" = some (.str LET tL) := by
    have q := g.some_ _ _ mL
    rw [eL] at q
    exact q
  have oK : ∀ fd, Fun K "is_kit" "is_kit" sIsKit aIsKi fd → FnOk l.prog w K mg base CX0 1 aIsKi fd ["value"] (spIsKit K) := fun fd F => ok_isKit (k := 0) F (g.none_ _ z_isinstance) (g.none_ _ z_str) (g.none_ _ z_len) (g.none_ _ z_all) mL'
  have e4 : Def l.prog w K mg base "is_kit" CX0 1 ["value"] (spIsKit K) := dIsKi.def1 g oK 1 (by decide) fun _ _ _ _ _ _ _ => rfl
  have e4N : DefN l.prog w K mg base "is_kit" CX0 9 "value" (spIsKit K) := dIsKi.defN g oK 9 (by decide) fun _ _ _ _ _ _ _ => rfl
  have e5 : Def l.prog w K mg base "is_list" CX0 1 ["value"] (spIsList K) := dIsLi.def1 g (fun fd F => ok_isList (k := 0) F (g.none_ _ z_isinstance) (g.none_ _ z_list) (g.none_ _ z_tuple)) 1 (by decide) fun _ _ _ _ _ _ _ => rfl
  have e6 : Def l.prog w K mg base "is_stretch" CX0 3 ["value"] (spStrB K) := dIsSt.def1 g (fun fd F => ok_isStr F (e2.up (by decide)) e3) 3 (by decide) fun _ _ _ _ _ _ _ => rfl
  have e7 : Def l.prog w K mg base "later_end" CX0 1 ["one", "other"] (spLaterE K) := dLatE.def2 g (fun fd F => ok_laterE (k := 0) F (g.none_ _ z_max)) 1 (by decide) fun _ _ _ _ _ _ _ _ => rfl
  have own : OwnErr K mg "BadVersion" CV := ⟨⟨_, _, _, _, PySem.F.excBase_ValueError, xV⟩, mV, eV.kC, eV.sub, eV.ty⟩
  have e8 : Def l.prog w K mg base "check_version" (L2.CX l.prog w) 3 ["version"] (spChkV K CV) := dChkV.def1 g (fun fd F => ok_chkV F own e3) 3 (by decide) fun _ _ _ _ _ _ _ => rfl
  have oX : ∀ fd, Fun K "next_version" "next_version" sNextV aNext fd → FnOk l.prog w K mg base (L2.CX l.prog w) 4 aNext fd ["version"] (spNextV K CV) := fun fd F => ok_nextV F e8.x
  have e9 : Def l.prog w K mg base "next_version" (L2.CX l.prog w) 9 ["version"] (spNextV K CV) := dNext.def1 g oX 9 (by decide) fun _ _ _ _ _ _ _ => rfl
  have e9N : DefN l.prog w K mg base "next_version" (L2.CX l.prog w) 9 "version" (spNextV K CV) := dNext.defN g oX 9 (by decide) fun _ _ _ _ _ _ _ => rfl
  have supE : SupErr l.prog K mg "BadRange" CE := ⟨sup, mE, eE.kC, eE.sub, eE.ty⟩
  have e10 : Def l.prog w K mg base "check_stretches" (L2.CX l.prog w) 4 ["stretches"] (spChkS K CE) := dChkS.def1 g (fun fd F => ok_chkS F supE (g.none_ _ z_len) (g.none_ _ z_enumerate) (g.some_ _ _ mM) (e5.up (by decide)) e6) 4 (by decide) fun _ _ _ _ _ _ _ => rfl
  generalize hTT : [(PN, ("normal_form" : Str) ++ ".<locals>." ++ "<lambda>"), (PF, ("_law_refused_right" : Str) ++ ".<locals>." ++ "<lambda>"), (PL, ("law" : Str) ++ ".<locals>." ++ "<lambda>")] = TT
  have memT : ∀ p ∈ TT, p = (PN, ("normal_form" : Str) ++ ".<locals>." ++ "<lambda>") ∨ p = (PF, ("_law_refused_right" : Str) ++ ".<locals>." ++ "<lambda>") ∨ p = (PL, ("law" : Str) ++ ".<locals>." ++ "<lambda>") := fun p hp => by
    rw [← hTT] at hp
    simpa only [List.mem_cons, List.not_mem_nil, or_false] using hp
  have inN : (PN, ("normal_form" : Str) ++ ".<locals>." ++ "<lambda>") ∈ TT := by rw [← hTT]; exact List.mem_cons_self
  have inF : (PF, ("_law_refused_right" : Str) ++ ".<locals>." ++ "<lambda>") ∈ TT := by rw [← hTT]; exact List.mem_cons_of_mem _ List.mem_cons_self
  have inL : (PL, ("law" : Str) ++ ".<locals>." ++ "<lambda>") ∈ TT := by rw [← hTT]; exact List.mem_cons_of_mem _ (List.mem_cons_of_mem _ List.mem_cons_self)
  have huN : ∀ p ∈ TT, p.1 = PN → p.2 = ("normal_form" : Str) ++ ".<locals>." ++ "<lambda>" := fun p hp e => by
    rcases memT p hp with rfl | rfl | rfl
    · rfl
    · exact absurd e.symm n1
    · exact absurd e.symm n2
  have huF : ∀ p ∈ TT, p.1 = PF → p.2 = ("_law_refused_right" : Str) ++ ".<locals>." ++ "<lambda>" := fun p hp e => by
    rcases memT p hp with rfl | rfl | rfl
    · exact absurd e n1
    · rfl
    · exact absurd e.symm n3
  have huL : ∀ p ∈ TT, p.1 = PL → p.2 = ("law" : Str) ++ ".<locals>." ++ "<lambda>" := fun p hp e => by
    rcases memT p hp with rfl | rfl | rfl
    · exact absurd e n2
    · exact absurd e n3
    · rfl
  clear hTT memT
  have nf : Def l.prog w K mg base "normal_form" CX0 4 ["stretches"] (spNF K TT) := ⟨aNF, fdN, ok_nf (k := 0) FN (g.none_ _ z_sorted) (g.none_ _ z_tuple) bN inN huN (e7.up (by decide)), g.some_ _ _ dNF.gl, FN.kp, Binds1 FN.fn fun _ _ _ _ _ _ _ => rfl⟩
  have iOk := ok_init (k := 4) (T := TT) (CR := CR) (CE := CE) (P := l.prog) (w := w) (base := base) (mg := mg) ⟨⟨oc0, od0, .ref TI, kV0, doc0, pm0, an0, cdv0, ct0, osl0, rfl, l0, c0⟩⟩ (g.none_ _ z_isinstance) (g.some_ _ _ gN) cR R.nA noN e10.x nf
  have mk0 : Mk K CR f0 := ⟨R.mkk, R.a0, R.i0, R.kp⟩
  have M5 : RangeMk l.prog w K mg base CR CE TT 5 := ⟨⟨f0, _, iOk, mk0, init_binds rfl lT sT s1⟩, mR⟩
  have M9 : RangeMk l.prog w K mg base CR CE TT 9 := ⟨⟨f0, _, iOk.mono (by decide), mk0, init_binds rfl lT sT s1⟩, mR⟩
  have MK9 : RangeMkK l.prog w K mg base CR CE TT 9 := ⟨⟨f0, _, iOk.mono (by decide), mk0, init_kbinds rfl lT sT s1⟩, mR⟩
  have v1 : FunV K "stretches" "Range.stretches" sGet f1 fd1 := by
    obtain ⟨oc, od, kV, doc, pm, an, cdv, ct, osl, q1, q2, q3⟩ := F1.ex
    exact ⟨⟨oc, od, .none, kV, doc, pm, an, cdv, ct, osl, q1, q2, q3⟩⟩
  have G9 : RangeGet l.prog w K mg base CR 9 := ⟨⟨pp, f1, fd1, ⟨R.a1, R.sp, R.tk, ⟨rest, rc⟩⟩, (ok_getR (k := 0) v1 cR R.nA).mono (by decide), Binds1 F1 fun _ _ _ _ _ _ _ => rfl⟩, cR⟩
  have H9 : RangeHas l.prog w K mg base CR 9 := ⟨⟨f2, fd2, (ok_hasR (k := 2) F2 (g.none_ _ z_any) cR R.nA e3).mono (by decide), R.a2, R.i2, Binds2 F2 fun _ _ _ _ _ _ _ _ => rfl⟩⟩
  have q3 : FnOk l.prog w K mg base CX0 1 f3 fd3 ["self", "other"] (spEqR K CR) := ok_eqR (k := 0) F3 (g.none_ _ z_isinstance) mR cR R.nA (fun H a dx fs e => .base (.ins e cR R.ha eE.hn eE.ht R.ob)) R.kR R.kT
  have b3 : Binds K fd3 ["self", "other"] [] := Binds2 F3 fun _ _ _ _ _ _ _ _ => rfl
  obtain ⟨fdC, FC⟩ := dCaug.ex
  obtain ⟨fdO, FO⟩ := dNorm.ex
  have C : CaughtD K mg CK := ⟨⟨aCaug, fdC, FC.fn, g.some_ _ _ dCaug.gl, FC.kp, Binds1 FC.fn fun _ _ _ _ _ _ _ => rfl⟩, mK⟩
  have Nm : NormalD K mg := ⟨⟨aNorm, fdO, FO.fn, g.some_ _ _ dNorm.gl, FO.kp, Binds2 FO.fn fun _ _ _ _ _ _ _ _ => rfl⟩⟩
  have rf := ok_refused (k := 5) (g.none_ _ z_len) (g.none_ _ z_range) (g.none_ _ z_isinstance) (g.none_ _ z_ValueError) mE bF inF huF eE.c eE.f hno (d2.up (by decide)) (d4.up (by decide)) (d3.up (by decide)) (d16.up (by decide)) eE.ex eE.kk kEV C M5 (q3.mono (by decide)) R.a3 R.i3 b3 FF
  have dR : Def l.prog w K mg base "_law_refused_right" CX0 9 ["_law_state", "_law_some"] (spRefused K TT) := ⟨aRefu, fdF, rf, g.some_ _ _ dRefu.gl, FF.kp, Binds2 FF.fn fun _ _ _ _ _ _ _ _ => rfl⟩
  exact ok_law (k := 9) (g.none_ _ z_len) (g.none_ _ z_range) (g.none_ _ z_min) (g.none_ _ z_repr) (g.none_ _ z_isinstance) (g.none_ _ z_tuple) mV bL inL huL (d18.up (by decide)) (d13.up (by decide)) (d4.up (by decide)) (e4.up (by decide)) e4N (d17.up (by decide)) (e3.up (by decide)) e3N (d15.up (by decide)) e9N e9.x C eV.c eV.ex eV.kk (d8.up (by decide)) MK9 M9 (d12.up (by decide)) (d11.up (by decide))
    (d9.up (by decide)) Nm (d14.up (by decide)) G9 H9 (q3.mono (by decide)) R.a3 R.i3 b3 R.ne R.ob R.nT dR FL
end Kw
set_option maxHeartbeats 2000000
namespace Kw
open PySem PySem.Spec PyProof.Rows L2 LamX PySem.HandSPX
theorem sup_mk {prog : Program} {K : PySem.W.Frag} {mg : Str → Option Value} {C fI cc cd N : Addr} {nm q qual : Str} {bs bm sub : List Value} {sn : List Str} {ab : Bool} {col : Option Bool} {dd : Option Addr} {k0 k1 k2 k3 k5 : Option Value}
    (h1 : K.lookup C = some (excClassObj nm q C N bs bm true sn sub ab col dd k0 k1 k2 k3 k5 "ValueError.__new__")) (h2 : refsVE bm = true) (sa : PySem.W.findIn K (.ref C) "__setattr__" = some (some (.builtin "object.__setattr__"))) (noA : PySem.W.findIn K (.ref C) "at" = some none)
    (iC : PySem.W.findIn K (.ref C) "__init__" = some (some (.ref fI))) (tI : PySem.W.typeIn K (.ref fI) = some (.type "function")) (subV : PySem.W.subIn K (.ref C) (.type "ValueError") = some true) (subC : PySem.W.mroIn K C (.ref C) = some true) (opq : PySem.W.nsIn K cStatics "thirdparty.any" = some none)
    (sp : PySem.W.ks_superIn K C C "__init__" = some (some (.builtin "ValueError.__init__"))) {oc doc pm ct : Value} {od an : Option Addr} {osl : Array (Option Value)} (fn : K.lookup fI = some ⟨oc, od, .func (PySem.W.ksFn "__init__" qual Ks.iP Ks.iBody Ks.iScope .none .none doc pm an (.ref cd) ct cc), osl⟩) (fc : PySem.W.codeIn K (.ref cd) qual = true)
    {ccl : Value} {cdd : Option Addr} {vs : Array Value} {ccs : Array (Option Value)} {file : Str} {tf : Tok} (co : K.lookup cd = some ⟨ccl, cdd, .fields vs, ccs⟩) (v2 : vs[2]? = some (.str file tf)) (fe : ((prog.main.file : Str) == file) = true)
    {cl : Value} {cld : Option Addr} {csl : Array (Option Value)} (ce : K.lookup cc = some ⟨cl, cld, .cell (some (.ref C)), csl⟩) (ms : mg "super" = none) (tp : (prog.main.scope.names.lookup ("super" : Str)).isSome = false) : ∃ (fI cc cd : Addr) (qual : Str), Ks.SupTxt prog K mg C fI cc cd qual :=
  ⟨fI, cc, cd, qual, ⟨_, _, _, _, _, _, _, _, _, _, _, _, _, _, _, h1, h2⟩, sa, noA, iC, tI, subV, subC, opq, sp, ⟨_, _, _, _, _, _, _, fn, fc⟩, ⟨_, _, _, _, _, _, co, v2, fe⟩, ⟨_, _, _, ce⟩, ms, tp⟩
theorem tab_mk {K : PySem.W.Frag} {h : Heap} {c T : Addr} {a1 : Value} {a2 : Option Addr} {vs : Array Value} {a4 : Array (Option Value)} (lc : K.lookup c = some ⟨a1, a2, .fields vs, a4⟩) (v : vs[11]? = some (.ref T)) (hd : PySem.W.codeHdIn K c T = true) (tab : h.get? T = some (PySem.W.tabObj #[])) (no : K.lookup T = none) : TabF K h c T := ⟨hd, tab, no⟩
end Kw
open PySem PySem.W PyProof.Rows
set_option maxHeartbeats 0
open_top k01_head for PySem.Challenge.rw_kitwright_k01_kits_versions_ranges_made
open PySem PySem.W PyProof.Rows
set_option maxRecDepth 100000 in
set_option maxHeartbeats 0 in
theorem PySem.Challenge.cw_kitwright_k01_kits_versions_ranges_made_holds : PySem.Challenge.rw_kitwright_k01_kits_versions_ranges_made.Holds :=
  k01_head (by
  k_fill
  refine Kw.walkG (l := PySem.Challenge.rw_kitwright_k01_kits_versions_ranges_made) (k := 13) rfl rfl ⟨rfl, by decide, by decide⟩ (fun w h Y => PySem.W.km_in_of Y) ?F
  case F =>
    intro w mg fa h Y KX G hmg
    have hT8 := PySem.W.km_tabs_of Y
    refine' Kw.all_law KX G hmg ?dBegun ?dStir ?dDraw ?dPick ?dShuf ?dVers ?dLater ?dStre ?dHas ?dCaug ?dArou ?dPoin ?dEnds ?dNorm ?dWide ?dSome ?dOdd ?dKitD ?dVerD ?dStrD ?dRefu ?dLaw ?dLatE ?dNF ?dIsNu ?dIsLi ?dTupO ?dIsKi ?dIsVe ?dChkV ?dNext ?dIsSt ?dChkS ?z_len ?z_range ?z_min ?z_max ?z_repr ?z_isinstance ?z_tuple ?z_list ?z_set ?z_sorted ?z_enumerate ?z_int ?z_bool ?z_str ?z_abs ?z_all ?z_any ?z_ValueError ?z_super ?mL ?eL ?mM ?R ?rc ?l0 ?c0 ?lT ?sT ?s1 ?m1 ?m2 ?m3 ?gN ?noN ?gK ?eE ?eV ?xV ?kEV ?sup ?hno ?tN ?tF ?tL ?n1 ?n2 ?n3
    (case dBegun => refine' Kw.td_mk ?a ?l ?c ?k; (case a => k_is); (case l => k_is); (case c => k_is); (case k => k_is))
    (case dStir => refine' Kw.td_mk ?a ?l ?c ?k; (case a => k_is); (case l => k_is); (case c => k_is); (case k => k_is))
    (case dDraw => refine' Kw.td_mk ?a ?l ?c ?k; (case a => k_is); (case l => k_is); (case c => k_is); (case k => k_is))
    (case dPick => refine' Kw.td_mk ?a ?l ?c ?k; (case a => k_is); (case l => k_is); (case c => k_is); (case k => k_is))
    (case dShuf => refine' Kw.td_mk ?a ?l ?c ?k; (case a => k_is); (case l => k_is); (case c => k_is); (case k => k_is))
    (case dVers => refine' Kw.td_mk ?a ?l ?c ?k; (case a => k_is); (case l => k_is); (case c => k_is); (case k => k_is))
    (case dLater => refine' Kw.td_mk ?a ?l ?c ?k; (case a => k_is); (case l => k_is); (case c => k_is); (case k => k_is))
    (case dStre => refine' Kw.td_mk ?a ?l ?c ?k; (case a => k_is); (case l => k_is); (case c => k_is); (case k => k_is))
    (case dHas => refine' Kw.td_mk ?a ?l ?c ?k; (case a => k_is); (case l => k_is); (case c => k_is); (case k => k_is))
    (case dCaug => refine' Kw.td_mk ?a ?l ?c ?k; (case a => k_is); (case l => k_is); (case c => k_is); (case k => k_is))
    (case dArou => refine' Kw.td_mk ?a ?l ?c ?k; (case a => k_is); (case l => k_is); (case c => k_is); (case k => k_is))
    (case dPoin => refine' Kw.td_mk ?a ?l ?c ?k; (case a => k_is); (case l => k_is); (case c => k_is); (case k => k_is))
    (case dEnds => refine' Kw.td_mk ?a ?l ?c ?k; (case a => k_is); (case l => k_is); (case c => k_is); (case k => k_is))
    (case dNorm => refine' Kw.td_mk ?a ?l ?c ?k; (case a => k_is); (case l => k_is); (case c => k_is); (case k => k_is))
    (case dWide => refine' Kw.td_mk ?a ?l ?c ?k; (case a => k_is); (case l => k_is); (case c => k_is); (case k => k_is))
    (case dSome => refine' Kw.td_mk ?a ?l ?c ?k; (case a => k_is); (case l => k_is); (case c => k_is); (case k => k_is))
    (case dOdd => refine' Kw.td_mk ?a ?l ?c ?k; (case a => k_is); (case l => k_is); (case c => k_is); (case k => k_is))
    (case dKitD => refine' Kw.td_mk ?a ?l ?c ?k; (case a => k_is); (case l => k_is); (case c => k_is); (case k => k_is))
    (case dVerD => refine' Kw.td_mk ?a ?l ?c ?k; (case a => k_is); (case l => k_is); (case c => k_is); (case k => k_is))
    (case dStrD => refine' Kw.td_mk ?a ?l ?c ?k; (case a => k_is); (case l => k_is); (case c => k_is); (case k => k_is))
    (case dRefu => refine' Kw.td_mk ?a ?l ?c ?k; (case a => k_is); (case l => k_is); (case c => k_is); (case k => k_is))
    (case dLaw => refine' Kw.td_mk ?a ?l ?c ?k; (case a => k_is); (case l => k_is); (case c => k_is); (case k => k_is))
    (case dLatE => refine' Kw.td_mk ?a ?l ?c ?k; (case a => k_is); (case l => k_is); (case c => k_is); (case k => k_is))
    (case dNF => refine' Kw.td_mk ?a ?l ?c ?k; (case a => k_is); (case l => k_is); (case c => k_is); (case k => k_is))
    (case dIsNu => refine' Kw.td_mk ?a ?l ?c ?k; (case a => k_is); (case l => k_is); (case c => k_is); (case k => k_is))
    (case dIsLi => refine' Kw.td_mk ?a ?l ?c ?k; (case a => k_is); (case l => k_is); (case c => k_is); (case k => k_is))
    (case dTupO => refine' Kw.td_mk ?a ?l ?c ?k; (case a => k_is); (case l => k_is); (case c => k_is); (case k => k_is))
    (case dIsKi => refine' Kw.td_mk ?a ?l ?c ?k; (case a => k_is); (case l => k_is); (case c => k_is); (case k => k_is))
    (case dIsVe => refine' Kw.td_mk ?a ?l ?c ?k; (case a => k_is); (case l => k_is); (case c => k_is); (case k => k_is))
    (case dChkV => refine' Kw.td_mk ?a ?l ?c ?k; (case a => k_is); (case l => k_is); (case c => k_is); (case k => k_is))
    (case dNext => refine' Kw.td_mk ?a ?l ?c ?k; (case a => k_is); (case l => k_is); (case c => k_is); (case k => k_is))
    (case dIsSt => refine' Kw.td_mk ?a ?l ?c ?k; (case a => k_is); (case l => k_is); (case c => k_is); (case k => k_is))
    (case dChkS => refine' Kw.td_mk ?a ?l ?c ?k; (case a => k_is); (case l => k_is); (case c => k_is); (case k => k_is))
    (case z_len => k_is)
    (case z_range => k_is)
    (case z_min => k_is)
    (case z_max => k_is)
    (case z_repr => k_is)
    (case z_isinstance => k_is)
    (case z_tuple => k_is)
    (case z_list => k_is)
    (case z_set => k_is)
    (case z_sorted => k_is)
    (case z_enumerate => k_is)
    (case z_int => k_is)
    (case z_bool => k_is)
    (case z_str => k_is)
    (case z_abs => k_is)
    (case z_all => k_is)
    (case z_any => k_is)
    (case z_ValueError => k_is)
    (case z_super => k_is)
    (case mL => k_is)
    (case eL => first | rfl | kernel_rfl | decide +kernel)
    (case mM => k_is)
    (case R => constructor; (case gR => k_is); (case pg => k_is); (case hd => k_is); (case po => k_is); (case sa => k_is); (case nA => k_is); (case mkk => k_is); (case a0 => k_is); (case i0 => k_is); (case kp => k_is); (case a1 => k_is); (case a2 => k_is); (case i2 => k_is); (case a3 => k_is); (case i3 => k_is); (case ne => k_is); (case ob => k_is); (case nT => k_is); (case sp => k_is); (case tk => k_is); (case kR => kit_is); (case kT => kit_is); (case ha => k_is))
    (case rc => k_is)
    (case l0 => k_is)
    (case c0 => k_is)
    (case lT => k_is)
    (case sT => rfl)
    (case s1 => rfl)
    (case m1 => refine' Kw.fm_mk ?l ?c ?k; (case l => k_is); (case c => k_is); (case k => k_is))
    (case m2 => refine' Kw.fm_mk ?l ?c ?k; (case l => k_is); (case c => k_is); (case k => k_is))
    (case m3 => refine' Kw.fm_mk ?l ?c ?k; (case l => k_is); (case c => k_is); (case k => k_is))
    (case gN => k_is)
    (case gK => k_is)
    (case noN => intro T hT; simp only [List.mem_cons, List.not_mem_nil, or_false] at hT; rcases hT with rfl | rfl | rfl | rfl | rfl | rfl | rfl <;> kit_is)
    (case eE => constructor; (case gC => k_is); (case kC => k_is); (case sub => k_is); (case ty => k_is); (case hg => k_is); (case hk => k_is); (case hd => k_is); (case ha => k_is); (case hn => k_is); (case ht => k_is); (case hm => k_is); (case kk => kit_is); (case ex => kernel_rfl))
    (case eV => constructor; (case gC => k_is); (case kC => k_is); (case sub => k_is); (case ty => k_is); (case hg => k_is); (case hk => k_is); (case hd => k_is); (case ha => k_is); (case hn => k_is); (case ht => k_is); (case hm => k_is); (case kk => kit_is); (case ex => kernel_rfl))
    (case xV => kernel_rfl)
    (case kEV => kit_is)
    (case sup => refine' Kw.sup_mk ?h1 ?h2 ?sa ?noA ?iC ?tI ?subV ?subC ?opq ?sp ?fn ?fc ?co ?v2 ?fe ?ce ?ms ?tp; (case h1 => k_is); (case h2 => first | rfl | kernel_rfl); (case sa => k_is); (case noA => k_is); (case iC => k_is); (case tI => k_is); (case subV => k_is); (case subC => k_is); (case opq => k_is); (case sp => kernel_rfl); (case fn => k_is); (case fc => k_is); (case co => k_is); (case v2 => rfl); (case fe => first | rfl | kernel_rfl); (case ce => k_is); (case ms => exact PySem.W.mg_none_of KX G (by k_is)); (case tp => first | rfl | kernel_rfl))
    (case hno => k_is)
    (case tN => refine' Kw.tab_mk ?lc ?v ?hd ?tab ?no; (case lc => k_is); (case v => rfl); (case hd => kernel_rfl); (case tab => exact hT8 _ (by decide)); (case no => kernel_rfl))
    (case tF => refine' Kw.tab_mk ?lc ?v ?hd ?tab ?no; (case lc => k_is); (case v => rfl); (case hd => kernel_rfl); (case tab => exact hT8 _ (by decide)); (case no => kernel_rfl))
    (case tL => refine' Kw.tab_mk ?lc ?v ?hd ?tab ?no; (case lc => k_is); (case v => rfl); (case hd => kernel_rfl); (case tab => exact hT8 _ (by decide)); (case no => kernel_rfl))
    (case n1 => decide)
    (case n2 => decide)
    (case n3 => decide))
