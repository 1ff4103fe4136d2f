import PyProof.Rows.All
import Wide.All
import OpenK.AllK
import Wide.FinOn
import HandS.ForMost
import HandS.Wide
import HandS.TupLe
import HandS.IsInst
import PyProof.EqAt
import PyProof.EqKinds
import PyProof.TupleCall
import KE.KExcSuper
import HandS.Exc
import HandS.ExcOwn
import HandS.TryOnly
import HandS.WordsExc
import HandS.Lambda
import HandS.ExcValue
import KE.KExcIs
import HandS.ExcIs
import HandS.ExcField
import KE.SortKeyHeap
import HandS.TupSets
import KE.DataMinMax
import KE.GoesMore
import HandS.Iter
import HandS.OwnEq
import HandS.Property
import HandS.More
import HandS.MakeKwOnly
import OpenK.KMeth
import PyProof.P3Eq
import PyProof.ReprRoads
import HandS.Flow
import KE.KOpsOwn
import HandS.EndTab
import HandS.Defaults
import KE.SortData
import HandS.Style
import PyProof.P3In
import HandS.Walk
import HandS.TupAny
import HandS.Zip
import HandS.Text
import PyProof.ReprLen
import PyProof.NeKinds
import PySem.Challenge.RW_kitwright_k07_versions_parted
set_option Elab.async false
set_option linter.all false
set_option maxRecDepth 100000
set_option maxHeartbeats 4000000
namespace Kw
open PySem PySem.Spec PyProof.Rows L2
/-! ### the text by places -/
def top (i : Nat) : Stmt := PySem.Challenge.pw_kitwright_k07_versions_parted.main.body.getD i (.Pass ⟨0, 0, 0, 0⟩)
abbrev sBegun : Stmt := top 37
abbrev sStirred : Stmt := top 38
abbrev sDraw : Stmt := top 39
abbrev sPick : Stmt := top 40
abbrev sVersion : Stmt := top 42

/-! ### a def of the text that keeps a promise, found by its name -/
structure Def (P : Program) (w : World) (K : PySem.W.Frag) (mg : Str → Option Value) (base : Heap) (x : Str) (CX : CXT) (k : Nat) (ps : List Str) (sp : Sp) : Prop where
  ex : ∃ f fd, FnOk P w K mg base CX k f fd ps sp ∧ mg x = some (.ref f) ∧ PySem.W.keepIn K (.ref f) = true ∧ Binds K fd ps []
section
variable {X : Cx}
theorem pe_d {x : Str} {k : Nat} {ps : List Str} {sp : Sp} {p pos : Pos} {e : Expr} {es : List Expr} {t : TA} (D : Def X.prog X.w X.K X.mg X.base x CX0 k ps sp) (hr : Room k X.A) (ha : PA X (e :: es) t) (hg : Gl X x := by rfl)
    (hdb : (x == ("__debug__" : Str)) = false := by decide) (he : starEach (e :: es) X.env = (false, eval e X.env) :: starEach es X.env := by rfl) (hpl : (backTo pos (starEach es X.env)).any (·.1) = false := by rfl) :
    PE X (.Call (.Name x p) (e :: es) [] pos) (tCall sp [] E0 t) := by
  obtain ⟨f, fd, F, hm, hk, hb⟩ := D.ex
  exact pe_call F hr hg hm hk hb .nil pass0 ha hdb he hpl
end
/-! ### frames -/
/-- all but a and b stay -/
def Fr2 (a b : Addr) (H H' : Hp) : Prop := ∀ c o, c ≠ a → c ≠ b → H c = some o → H' c = some o
theorem Fr2.refl {a b : Addr} {H : Hp} : Fr2 a b H H := fun _ _ _ _ h => h
theorem Fr2.trans {a b : Addr} {H H1 H2 : Hp} (x : Fr2 a b H H1) (y : Fr2 a b H1 H2) : Fr2 a b H H2 := fun c o h1 h2 h => y c o h1 h2 (x c o h1 h2 h)
theorem Fr2.ofSame {a b : Addr} {H H' : Hp} (x : Same H H') : Fr2 a b H H' := fun c o _ _ h => x c o h
theorem same_upd {H : Hp} {p : Addr} {o : HO} (h : H p = none) : Same H (upd H p o) := fun b x e => by
  rw [upd_ne (ne_of_none e h)]
  exact e
theorem Fr2.new {a b p : Addr} {H : Hp} {o : HO} (h : H p = none) : Fr2 a b H (upd H p o) := .ofSame (same_upd h)
theorem Fr2.at1 {a b : Addr} {H : Hp} {o : HO} : Fr2 a b H (upd H a o) := fun c u h1 _ h => by rw [upd_ne h1]; exact h
theorem Fr2.at2 {a b : Addr} {H : Hp} {o : HO} : Fr2 a b H (upd H b o) := fun c u _ h2 h => by rw [upd_ne h2]; exact h
/-! ### the state of the draws -/
abbrev kW : Key := Sum.inr "wide"
abbrev kC : Key := Sum.inr "cells"
abbrev kR : Key := Sum.inr "rest"
abbrev kT : Key := Sum.inr "turn"
def stD (w c : Addr) (r t : Int) : List (Key × V) := [(kW, .ref w), (kC, .ref c), (kR, .int r), (kT, .int t)]
/-- at d the state of the draws: what is wide at w, the cells at c; at most B stirs so far -/
structure StAt (H : Hp) (d w c : Addr) (B : Int) : Prop where
  ex : ∃ (ws cs : List Int) (r t : Int), H d = some (.dK (stD w c r t)) ∧ H w = some (.lst (ws.map V.int)) ∧ H c = some (.lst (cs.map V.int)) ∧
    (∀ x ∈ ws, 0 ≤ x) ∧ (∀ x ∈ cs, 0 ≤ x) ∧ 0 ≤ r ∧ 0 ≤ t ∧ t ≤ B ∧ ws.length ≤ 63 ∧ cs.length ≤ 63 ∧ w ≠ c
end Kw
set_option maxHeartbeats 4000000
namespace Kw
open PySem PySem.Spec PyProof.Rows L2
theorem wR : valV (stD w c r t) kR = some (.int r) := by
  simp [stD, valV, List.find?_cons, kR, kW, kC, kT, show ¬ (("wide" : Str) = "rest") by decide +kernel, show ¬ (("cells" : Str) = "rest") by decide +kernel]
theorem wW : valV (stD w c r t) kW = some (.ref w) := by
  simp [stD, valV, List.find?_cons, kR, kW, kC, kT]
theorem wC : valV (stD w c r t) kC = some (.ref c) := by
  simp [stD, valV, List.find?_cons, kR, kW, kC, kT, show ¬ (("wide" : Str) = "cells") by decide +kernel]
theorem wT : valV (stD w c r t) kT = some (.int t) := by
  simp [stD, valV, List.find?_cons, kR, kW, kC, kT, show ¬ (("wide" : Str) = "turn") by decide +kernel, show ¬ (("cells" : Str) = "turn") by decide +kernel, show ¬ (("rest" : Str) = "turn") by decide +kernel]
theorem pR {u : Int} : putK (stD w c r t) kR (.int u) = stD w c u t := by
  simp [stD, putK, kR, kW, kC, kT, show ¬ (("wide" : Str) = "rest") by decide +kernel, show ¬ (("cells" : Str) = "rest") by decide +kernel, show ¬ (("turn" : Str) = "rest") by decide +kernel]
theorem pT {u : Int} : putK (stD w c r t) kT (.int u) = stD w c r u := by
  simp [stD, putK, kR, kW, kC, kT, show ¬ (("wide" : Str) = "turn") by decide +kernel, show ¬ (("cells" : Str) = "turn") by decide +kernel, show ¬ (("rest" : Str) = "turn") by decide +kernel]
theorem gR {H : Hp} {d w c : Addr} {r t : Int} (h : H d = some (.dK (stD w c r t))) : DGet H d (.str "rest") (some (.int r)) := by
  have q := DGet.k (k := kR) h
  rw [wR] at q
  exact q
theorem gW {H : Hp} {d w c : Addr} {r t : Int} (h : H d = some (.dK (stD w c r t))) : DGet H d (.str "wide") (some (.ref w)) := by
  have q := DGet.k (k := kW) h
  rw [wW] at q
  exact q
theorem gC {H : Hp} {d w c : Addr} {r t : Int} (h : H d = some (.dK (stD w c r t))) : DGet H d (.str "cells") (some (.ref c)) := by
  have q := DGet.k (k := kC) h
  rw [wC] at q
  exact q
theorem gT {H : Hp} {d w c : Addr} {r t : Int} (h : H d = some (.dK (stD w c r t))) : DGet H d (.str "turn") (some (.int t)) := by
  have q := DGet.k (k := kT) h
  rw [wT] at q
  exact q
theorem dR {H : Hp} {d w c : Addr} {r t u : Int} (h : H d = some (.dK (stD w c r t))) : DPut H d (.str "rest") (.int u) (upd H d (.dK (stD w c u t))) := by
  have q := DPut.k (k := kR) (v := .int u) h (by show 4 < sizeLine; decide)
  rw [pR] at q
  exact q
theorem dT {H : Hp} {d w c : Addr} {r t u : Int} (h : H d = some (.dK (stD w c r t))) : DPut H d (.str "turn") (.int u) (upd H d (.dK (stD w c r u))) := by
  have q := DPut.k (k := kT) (v := .int u) h (by show 4 < sizeLine; decide)
  rw [pT] at q
  exact q
/-! ### data: lists of ints -/
theorem dp_ints {K : PySem.W.Frag} {H : Hp} : ∀ ns : List Int, DpAll K H (ns.map V.int) (ns.map PyData.int)
  | [] => .nil
  | n :: ns => .cons (.int n) (dp_ints ns)
theorem cl_ints : ∀ ns : List Int, PyData.canLayAll0 (ns.map PyData.int) = true
  | [] => by simp [PyData.canLayAll0]
  | n :: ns => by simp [PyData.canLayAll0, PyData.canLay0, cl_ints ns]
theorem dep_ints : ∀ ns : List Int, PyData.depthAll (ns.map PyData.int) ≤ 1
  | [] => by simp [PyData.depthAll]
  | n :: ns => by
    have := dep_ints ns
    simp [PyData.depthAll, PyData.depth]
    try omega
theorem shaped_ints (ns : List Int) : SeqAt.shaped (.list (ns.map PyData.int)) = true := by
  have h1 := cl_ints ns
  have h2 := dep_ints ns
  simp only [SeqAt.shaped, PyData.canLay0, PyData.depth, h1, Bool.true_and]
  exact decide_eq_true (by omega)
theorem shaped_nil : SeqAt.shaped (.list []) = true := shaped_ints []
theorem eqv_nil (ns : List Int) : PyData.eqv (.list (ns.map PyData.int)) (.list []) = ns.isEmpty := by
  cases ns with
  | nil => simp [PyData.eqv, PyData.eqvAll]
  | cons n ns => simp [PyData.eqv, PyData.eqvAll]
/-! ### promises -/
/-- a stir: a number from 0 on -/
def spStirred : Sp := fun vs H Q _ => ∃ (d w c : Addr) (B : Int), vs = [.ref d] ∧ StAt H d w c B ∧ B ≤ 1000000000000 ∧
  ∀ H' z, 0 ≤ z → StAt H' d w c (B + 1) → Fr2 d w H H' → Q (.int z) H'
/-- a draw below n -/
def spDraw : Sp := fun vs H Q _ => ∃ (d w c : Addr) (B n : Int), vs = [.ref d, .int n] ∧ StAt H d w c B ∧ B ≤ 1000000000000 ∧ 0 < n ∧ n < 1073741824 ∧
  ∀ H' z, 0 ≤ z → z < n → StAt H' d w c (B + 1) → Fr2 d w H H' → Q (.int z) H'
section
variable {P : Program} {w : World} {K : PySem.W.Frag} {mg : Str → Option Value} {base : Heap}
theorem scStirred : FnScope ["_law_state", "_law_turn", "_law_found", "_law_prime", "_law_blend", "_law_cell"] ["_law_state"] (defScope sStirred) := ⟨rfl, rfl, rfl, by decide +kernel, rfl, by decide +kernel, by decide +kernel⟩
theorem scDraw : FnScope ["_law_state", "_law_size", "_law_found"] ["_law_state", "_law_size"] (defScope sDraw) := ⟨rfl, rfl, rfl, by decide +kernel, rfl, by decide +kernel, by decide +kernel⟩
theorem ok_draw {f : Addr} {fd : FuncData} {k : Nat} (F : Fun K "_law_draw" "_law_draw" sDraw f fd) (mi : mg "int" = none) (DS : Def P w K mg base "_law_stirred" CX0 k ["_law_state"] spStirred) : FnOk P w K mg base CX0 (k + 1) f fd ["_law_state", "_law_size"] spDraw := by
  refine F.ok scDraw (fun vs H Q E h => ?_) (fun cdv A outer s H vs Q E hr h => ?_)
  · obtain ⟨d, w, c, B, n, rfl, _⟩ := h
    rfl
  · obtain ⟨d, w, c, B, n, rfl, hS, hB, hn, hn2, q⟩ := h
    have hu := hu_of hr
    refine ⟨_, pss_cons (ps_if (pt_cmpR op_eq (pe_dget hu (pv 0) pe_str (fun _ _ => rfl)) pe_int (nomark _))
        (pss_one (ps_dput hu (pv 0) pe_str (pe_ifExp (pt_cmpR (op_neD hr.units) (pe_dget hu (pv 0) pe_str (fun _ _ => rfl)) (pe_lst pa_nil) (nomark _))
          (pe_bm PySem.F.plainAttrs_list PySem.F.slot_list_pop PySem.F.type_list_pop mt_popAt (pe_dget hu (pv 0) pe_str (fun _ _ => rfl)) (pa_cons pe_int pa_nil))
          (pe_d DS hr (pa_cons (pv 0) pa_nil))) rfl)) pss_nil)
      (pss_cons (ps_set (i := 2) scDraw.nd rfl (.inl rfl) (pe_op op_mod (pe_callTy call_int1 (by rfl) mi (by decide +kernel) (pa_cons (pe_dget hu (pv 0) pe_str (fun _ _ => rfl)) pa_nil)) (pv 1)))
      (pss_cons (ps_dput hu (pv 0) pe_str (pe_op op_fdiv (pe_dget hu (pv 0) pe_str (fun _ _ => rfl)) (pv 1)) rfl)
      (pss_one (ps_ret (pv 2))))), ?_⟩
    -- what follows the if, from any state
    have rest : ∀ (H1 : Hp), StAt H1 d w c (B + 1) → Fr2 d w H H1 → ∀ v2 : Option V,
        (tSeq (tAsg (tOp (rI (fun _ j => 0 < j) fun i j => .int (i % j)) (tCB (fun xs H Q => (∃ i, xs = [V.int i] ∧ Q (.int i) H) ∨ ∃ k, xs = [V.bl k] ∧ Q (.int (if k then 1 else 0)) H) (tCons (tDGet (tVar 0) (tC (.str "rest"))) tNil)) (tVar 1)) (gName 2))
          (tSeq (sDPut (tVar 0) (tC (.str "rest")) (tOp (rI CDiv fun i j => .int (i / j)) (tDGet (tVar 0) (tC (.str "rest"))) (tVar 1))) (tRet (tVar 2))))
          { nx := fun _ H' => Q .non H', rt := Q } [some (.ref d), some (.int n), v2] H1 := by
      intro H1 S1 F1 v2
      obtain ⟨ws, cs, r, t, hd, hw, hc, pw, pc, hr0, ht0, htB, lw, lc, nwc⟩ := S1.ex
      refine ⟨_, rfl, d, _, rfl, gR hd, .inl ⟨r, rfl, ?_⟩⟩
      refine ⟨_, rfl, r, n, rfl, rfl, hn, ?_⟩
      refine ⟨_, rfl, d, _, rfl, gR hd, _, rfl, r, n, rfl, rfl, ⟨hn, hn2⟩, ?_⟩
      refine ⟨_, rfl, d, _, rfl, dR hd, _, rfl, ?_⟩
      have ndw : d ≠ w := ne_of hd hw (by intro z; cases z)
      have ndc : d ≠ c := ne_of hd hc (by intro z; cases z)
      refine q _ (r % n) (Int.emod_nonneg _ (by omega)) (Int.emod_lt_of_pos _ hn) ⟨ws, cs, r / n, t, upd_same, ?_, ?_, pw, pc, Int.ediv_nonneg hr0 (by omega), ht0, htB, lw, lc, nwc⟩ (F1.trans Fr2.at1)
      · rw [upd_ne ndw.symm]; exact hw
      · rw [upd_ne ndc.symm]; exact hc
    obtain ⟨ws, cs, r, t, hd, hw, hc, pw, pc, hr0, ht0, htB, lw, lc, nwc⟩ := hS.ex
    have ndw : d ≠ w := ne_of hd hw (by intro z; cases z)
    have ndc : d ≠ c := ne_of hd hc (by intro z; cases z)
    refine ⟨_, rfl, d, _, rfl, gR hd, rfl, _, rfl, ?_⟩
    refine ite2 (fun e0 => ?_) (fun e0 => ?_)
    · -- rest == 0: wide's first, or a stir
      refine ⟨_, rfl, d, _, rfl, gW hd, ⟨Nat.zero_le _, fun l hl => ?_⟩⟩
      have s1 : Same H (upd H l (.lst [])) := same_upd hl
      refine ⟨_, _, .lst (SqL.of (s1 _ _ hw)) (dp_ints ws), .lst (SqL.of upd_same) .nil, shaped_ints ws, shaped_nil, _, rfl, ?_⟩
      rw [eqv_nil]
      cases ws with
      | cons x ws =>
        refine iteT ?_
        refine ⟨_, rfl, d, _, rfl, gW (s1 _ _ hd), .inl ⟨rfl, _, SqL.of (s1 _ _ hw)⟩, w, (x :: ws).map V.int, 0, 0, .int x, rfl, rfl, s1 _ _ hw, by decide, by decide, by simp [seqIndex?], rfl, ?_⟩
        have hd2 : upd (upd H l (.lst [])) w (.lst (((x :: ws).map V.int).eraseIdx 0)) d = some (.dK (stD w c r t)) := by
          rw [upd_ne ndw]; exact s1 _ _ hd
        refine ⟨_, rfl, d, _, rfl, dR hd2, ?_⟩
        refine rest _ ⟨ws, cs, x, t, upd_same, ?_, ?_, fun y hy => pw y (List.mem_cons_of_mem _ hy), pc, pw x List.mem_cons_self, ht0, by omega, by simp at lw; omega, lc, nwc⟩ ((Fr2.new hl).trans (Fr2.at2.trans Fr2.at1)) _
        · rw [upd_ne ndw.symm, upd_same]; rfl
        · rw [upd_ne ndc.symm, upd_ne nwc.symm]; exact s1 _ _ hc
      | nil =>
        refine iteF ?_
        refine ⟨_, rfl, d, w, c, B, rfl, ⟨[], cs, r, t, s1 _ _ hd, s1 _ _ hw, s1 _ _ hc, pw, pc, hr0, ht0, htB, lw, lc, nwc⟩, hB, fun H2 z hz S2 F2 => ?_⟩
        obtain ⟨ws', cs', r', t', hd', hw', hc', pw', pc', hr', ht', htB', lw', lc', nwc'⟩ := S2.ex
        refine ⟨_, rfl, d, _, rfl, dR hd', ?_⟩
        have ndw' : d ≠ w := ndw
        refine rest _ ⟨ws', cs', z, t', upd_same, ?_, ?_, pw', pc', hz, ht', htB', lw', lc', nwc⟩ ((Fr2.new hl).trans (F2.trans Fr2.at1)) _
        · rw [upd_ne ndw.symm]; exact hw'
        · rw [upd_ne ndc.symm]; exact hc'
    · exact rest H ⟨ws, cs, r, t, hd, hw, hc, pw, pc, hr0, ht0, by omega, lw, lc, nwc⟩ .refl _
theorem ok_stirred {f : Addr} {fd : FuncData} {k : Nat} (F : Fun K "_law_stirred" "_law_stirred" sStirred f fd) (mi : mg "int" = none) : FnOk P w K mg base CX0 (k + 1) f fd ["_law_state"] spStirred := by
  refine F.ok scStirred (fun vs H Q E h => ?_) (fun cdv A outer s H vs Q E hr h => ?_)
  · obtain ⟨d, w, c, B, rfl, _⟩ := h
    rfl
  · obtain ⟨d, w, c, B, rfl, hS, hB, q⟩ := h
    have hu := hu_of hr
    refine ⟨_, pss_cons (ps_par (i := 1) (j := 2) rfl scStirred.nd rfl rfl (by decide) rfl rfl (pa_cons (pe_op op_add (pe_dget hu (pv 0) pe_str (fun _ _ => rfl)) pe_int) (pa_cons pe_int pa_nil)) (by rfl))
      (pss_cons (ps_dput hu (pv 0) pe_str (pv 1) rfl)
      (pss_cons (ps_for PassesOwn.never rfl (pi_list (pe_lst (pa_cons pe_int (pa_cons pe_int (pa_cons pe_int (pa_cons pe_int pa_nil)))))) (pg_name (i := 3) scStirred.nd rfl (Or.inl rfl))
        (pss_cons (ps_set (i := 4) scStirred.nd rfl (.inl rfl) (pe_op op_add (pe_op op_mul pe_int (pv 1)) (pe_op op_fdiv (pv 3) pe_int)))
        (pss_cons (ps_for PassesOwn.never rfl (pi_list (pe_dget hu (pv 0) pe_str (fun _ _ => rfl))) (pg_name (i := 5) scStirred.nd rfl (Or.inl rfl))
          (pss_one (ps_set (i := 4) scStirred.nd rfl (.inl rfl) (pe_op op_mod (pe_callTy call_int1 (by rfl) mi (by decide +kernel) (pa_cons (pe_op op_add (pe_op op_add (pe_op op_mul (pv 4) pe_int) (pv 5)) (pv 1)) pa_nil)) (pv 3)))))
        (pss_one (ps_set (i := 2) scStirred.nd rfl (.inl rfl) (pe_op op_add (pe_op op_mul (pv 2) pe_int) (pe_op op_mod (pe_callTy call_int1 (by rfl) mi (by decide +kernel) (pa_cons (pe_op op_pow (pv 4) pe_int) pa_nil)) (pv 3))))))))
      (pss_one (ps_ret (pv 2))))), ?_⟩
    obtain ⟨ws, cs, r, t, hd, hw, hc, pw, pc, hr0, ht0, htB, lw, lc, nwc⟩ := hS.ex
    have ndw : d ≠ w := ne_of hd hw (by intro z; cases z)
    have ndc : d ≠ c := ne_of hd hc (by intro z; cases z)
    refine ⟨_, rfl, d, _, rfl, gT hd, t, 1, rfl, rfl, _, _, rfl, ?_⟩
    refine ⟨_, rfl, _, rfl, d, _, rfl, dT hd, ?_⟩
    refine ⟨by show 4 ≤ sizeLine; decide, fun l hl => ?_⟩
    have e1 : Fr2 d w H (upd (upd H d (.dK (stD w c r (t + 1)))) l (.lst ([2147483647, 2147483629, 2147483587, 2147483579].map V.int))) := Fr2.at1.trans (Fr2.new hl)
    have s1 : Same (upd H d (.dK (stD w c r (t + 1)))) (upd (upd H d (.dK (stD w c r (t + 1)))) l (.lst ([2147483647, 2147483629, 2147483587, 2147483579].map V.int))) := same_upd hl
    generalize hG : upd (upd H d (.dK (stD w c r (t + 1)))) l (.lst ([2147483647, 2147483629, 2147483587, 2147483579].map V.int)) = G at e1 s1
    have gl : G l = some (.lst ([2147483647, 2147483629, 2147483587, 2147483579].map V.int)) := by rw [← hG]; exact upd_same
    have gd : G d = some (.dK (stD w c r (t + 1))) := s1 _ _ upd_same
    have gw : G w = some (.lst (ws.map V.int)) := s1 _ _ (by rw [upd_ne ndw.symm]; exact hw)
    have gc : G c = some (.lst (cs.map V.int)) := s1 _ _ (by rw [upd_ne ndc.symm]; exact hc)
    refine ⟨l, rfl, ⟨_, SqL.of (by first | exact upd_same | (rw [← hG]; exact upd_same))⟩, for_list (K := K) (a := l) (xs := [2147483647, 2147483629, 2147483587, 2147483579].map V.int) (fun i σ H' => ∃ (z : Int) (y3 y4 y5 : Option V), σ = [some (.ref d), some (.int (t + 1)), some (.int z), y3, y4, y5] ∧ 0 ≤ z ∧ H' = G)
      ⟨0, none, none, none, rfl, Int.le_refl _, by first | rfl | exact hG⟩ (fun i σ H' _ ⟨_, _, _, _, _, _, e⟩ => by rw [e]; exact SqL.of gl) ?_ ?_⟩
    · rintro i y σ H' hi ⟨z, y3, y4, y5, rfl, hz, rfl⟩
      obtain ⟨p, hp, hp2, rfl⟩ : ∃ p : Int, 0 < p ∧ p < 2147483648 ∧ y = V.int p := by
        have hm := List.mem_of_getElem? hi
        simp at hm
        rcases hm with rfl | rfl | rfl | rfl
        · exact ⟨_, by decide, by decide, rfl⟩
        · exact ⟨_, by decide, by decide, rfl⟩
        · exact ⟨_, by decide, by decide, rfl⟩
        · exact ⟨_, by decide, by decide, rfl⟩
      have b0 : (0 : Int) ≤ 48271 * (t + 1) + p / 37 := by omega
      have b1 : (48271 * (t + 1) + p / 37 : Int) < 18446744073709551616 := by omega
      refine ⟨_, rfl, 48271, _, rfl, rfl, .inl ⟨by decide, by decide⟩, _, rfl, p, 37, rfl, rfl, ⟨by decide, by decide⟩, _, _, rfl, rfl, ?_⟩
      refine ⟨_, rfl, d, _, rfl, gC gd, c, rfl, ⟨_, SqL.of gc⟩, for_list (K := K) (a := c) (xs := cs.map V.int) (fun i σ H2 => ∃ (b : Int) (y5 : Option V), σ = [some (.ref d), some (.int (t + 1)), some (.int z), some (.int p), some (.int b), y5] ∧ 0 ≤ b ∧ b < 18446744073709551616 ∧ H2 = H')
        ⟨_, y5, rfl, b0, b1, rfl⟩ (fun i σ H2 _ ⟨_, _, _, _, _, e⟩ => by rw [e]; exact SqL.of gc) ?_ ?_⟩
      · rintro i y σ H2 hi ⟨b, y5', rfl, hb0, hb1, rfl⟩
        obtain ⟨u, rfl⟩ : ∃ u, y = V.int u := by
          have hm := List.mem_of_getElem? hi
          obtain ⟨u, _, e⟩ := List.mem_map.mp hm
          exact ⟨u, e.symm⟩
        refine ⟨_, rfl, b, 69621, rfl, rfl, .inr ⟨by decide, by decide⟩, _, rfl, _, _, rfl, rfl, _, rfl, _, _, rfl, rfl, .inl ⟨_, rfl, ?_⟩⟩
        refine ⟨_, rfl, _, _, rfl, rfl, hp, ?_⟩
        exact ⟨_, some (.int u), rfl, Int.emod_nonneg _ (by omega), by have := Int.emod_lt_of_pos (b * 69621 + u + (t + 1)) hp; omega, rfl⟩
      · rintro σ H2 ⟨b, y5', rfl, hb0, hb1, rfl⟩
        refine ⟨_, rfl, z, 2147483563, rfl, rfl, .inr ⟨by decide, by decide⟩, _, rfl, b, 5, rfl, rfl, ⟨by decide, by decide, by omega⟩, .inl ⟨_, rfl, ?_⟩⟩
        refine ⟨_, rfl, _, _, rfl, rfl, hp, _, _, rfl, rfl, ?_⟩
        refine ⟨_, some (.int p), some (.int b), y5', rfl, ?_, rfl⟩
        have := Int.emod_nonneg (b ^ Int.toNat 5) (show p ≠ 0 by omega)
        omega
    · rintro σ H' ⟨z, y3, y4, y5, rfl, hz, rfl⟩
      refine ⟨_, rfl, q _ z hz ⟨ws, cs, r, t + 1, gd, gw, gc, pw, pc, hr0, by omega, by omega, lw, lc, nwc⟩ e1⟩
end
end Kw
set_option maxHeartbeats 4000000
namespace Kw
open PySem PySem.Spec PyProof.Rows L2
theorem merge_st (w c : Addr) (r t : Int) : mergeK [] (stD w c r t) = stD w c r t := by
  simp [mergeK, stD, putK, kR, kW, kC, kT, show ¬ (("wide" : Str) = "turn") by decide +kernel, show ¬ (("cells" : Str) = "turn") by decide +kernel, show ¬ (("rest" : Str) = "turn") by decide +kernel,
    show ¬ (("wide" : Str) = "cells") by decide +kernel, show ¬ (("wide" : Str) = "rest") by decide +kernel, show ¬ (("cells" : Str) = "rest") by decide +kernel]
theorem StAt.hd {H : Hp} {d w c : Addr} {B : Int} (S : StAt H d w c B) : ∃ kvs, H d = some (.dK kvs) := let ⟨_, _, _, _, h, _⟩ := S.ex; ⟨_, h⟩
theorem StAt.hw {H : Hp} {d w c : Addr} {B : Int} (S : StAt H d w c B) : ∃ xs, H w = some (.lst xs) := let ⟨_, _, _, _, _, h, _⟩ := S.ex; ⟨_, h⟩
theorem StAt.mono {H : Hp} {d w c : Addr} {B B' : Int} (S : StAt H d w c B) (h : B ≤ B') : StAt H d w c B' := by
  obtain ⟨ws, cs, r, t, hd, hw, hc, pw, pc, hr0, ht0, htB, lw, lc, nwc⟩ := S.ex
  exact ⟨ws, cs, r, t, hd, hw, hc, pw, pc, hr0, ht0, by omega, lw, lc, nwc⟩
theorem StAt.same {H H' : Hp} {d w c : Addr} {B : Int} (S : StAt H d w c B) (s : Same H H') : StAt H' d w c B := by
  obtain ⟨ws, cs, r, t, hd, hw, hc, pw, pc, hr0, ht0, htB, lw, lc, nwc⟩ := S.ex
  exact ⟨ws, cs, r, t, s _ _ hd, s _ _ hw, s _ _ hc, pw, pc, hr0, ht0, htB, lw, lc, nwc⟩
/-- a list that is not the wide one stays -/
theorem Fr2.lst {H H' : Hp} {d w c a : Addr} {B : Int} {xs : List V} (F : Fr2 d w H H') (S : StAt H d w c B) (h : H a = some (.lst xs)) (n : a ≠ w) : H' a = some (.lst xs) := by
  obtain ⟨kvs, hd⟩ := S.hd
  exact F a _ (ne_of h hd (by intro z; cases z)) n h
theorem Fr2.tup {H H' : Hp} {d w c a : Addr} {B : Int} {xs : List V} (F : Fr2 d w H H') (S : StAt H d w c B) (h : H a = some (.tup xs)) : H' a = some (.tup xs) := by
  obtain ⟨kvs, hd⟩ := S.hd
  obtain ⟨ys, hw⟩ := S.hw
  exact F a _ (ne_of h hd (by intro z; cases z)) (ne_of h hw (by intro z; cases z)) h
theorem Fr2.sqT {K : PySem.W.Frag} {H H' : Hp} {d w c a : Addr} {B : Int} {xs : List V} (F : Fr2 d w H H') (S : StAt H d w c B) (h : SqT K H a xs) : SqT K H' a xs := by
  obtain ⟨kvs, hd⟩ := S.hd
  obtain ⟨ys, hw⟩ := S.hw
  rcases h with (h | ⟨o, h⟩) | h
  · exact .inl (.inl (F.tup S h))
  · exact .inl (.inr ⟨o, F a _ (ne_of h hd (by intro z; cases z)) (ne_of h hw (by intro z; cases z)) h⟩)
  · exact .inr h
theorem Same.sqT {K : PySem.W.Frag} {H H' : Hp} {a : Addr} {xs : List V} (s : Same H H') (h : SqT K H a xs) : SqT K H' a xs := by
  rcases h with (h | ⟨o, h⟩) | h
  · exact .inl (.inl (s _ _ h))
  · exact .inl (.inr ⟨o, s _ _ h⟩)
  · exact .inr h
/-- no test in a comprehension -/
theorem yesI {σ : L2.St} {H : Hp} {A B : Hp → Prop} (h : A H) : tYes σ H fun b H3 => if b = true then A H3 else B H3 := by
  show if true = true then A H else B H
  rw [if_pos rfl]
  exact h
/-- the beginning: a new state -/
def spBegun (K : PySem.W.Frag) : Sp := fun vs H Q _ => ∃ (a : Addr) (ns : List Int), vs = [.ref a] ∧ SqL K H a (ns.map V.int) ∧ ns.length ≤ 63 ∧
  ∀ H' d w c, StAt H' d w c 0 → Same H H' → H d = none → H w = none → H c = none → Q (.ref d) H'
/-- one of a list -/
def spPick : Sp := fun vs H Q _ => ∃ (d w c : Addr) (B : Int) (a : Addr) (xs : List V), vs = [.ref d, .ref a] ∧ StAt H d w c B ∧ B ≤ 1000000000000 ∧ H a = some (.lst xs) ∧ a ≠ w ∧ 0 < xs.length ∧ xs.length < 1073741824 ∧
  ∀ H' (i : Nat) v, xs[i]? = some v → StAt H' d w c (B + 1) → Fr2 d w H H' → Q v H'
section
variable {P : Program} {w : World} {K : PySem.W.Frag} {mg : Str → Option Value} {base : Heap}
theorem scBegun : FnScope ["_law_script", "_law_wide", "_law_cell"] ["_law_script"] (defScope sBegun) := ⟨rfl, rfl, rfl, by decide +kernel, rfl, by decide +kernel, by decide +kernel⟩
theorem scPick : FnScope ["_law_state", "_law_some"] ["_law_state", "_law_some"] (defScope sPick) := ⟨rfl, rfl, rfl, by decide +kernel, rfl, by decide +kernel, by decide +kernel⟩
theorem ok_pick {f : Addr} {fd : FuncData} {k : Nat} (F : Fun K "_law_pick" "_law_pick" sPick f fd) (ml : mg "len" = none) (DD : Def P w K mg base "_law_draw" CX0 k ["_law_state", "_law_size"] spDraw) : FnOk P w K mg base CX0 (k + 1) f fd ["_law_state", "_law_some"] spPick := by
  refine F.ok scPick (fun vs H Q E h => ?_) (fun cdv A outer s H vs Q E hr h => ?_)
  · obtain ⟨d, w, c, B, a, xs, rfl, _⟩ := h
    rfl
  · obtain ⟨d, w, c, B, a, xs, rfl, hS, hB, ha, naw, hl, hl2, q⟩ := h
    refine ⟨_, pss_one (ps_ret (pe_ix ix_list (pv 1) (pe_d DD hr (pa_cons (pv 0) (pa_cons (pe_callB call_len_seq (by rfl) ml PySem.boot_len (pa_cons (pv 1) pa_nil)) pa_nil))) (fun _ _ => rfl))), ?_⟩
    refine ⟨_, rfl, _, rfl, _, rfl, a, xs, rfl, .inl (SqL.of ha), d, w, c, B, xs.length, rfl, hS, hB, by omega, by omega, fun H' z h0 h1 S' F' => ?_⟩
    obtain ⟨i, rfl⟩ : ∃ i : Nat, z = (i : Int) := ⟨z.toNat, by omega⟩
    have hi : i < xs.length := by omega
    have ha' := F'.lst hS ha naw
    refine ⟨a, xs, i, xs[i], rfl, rfl, SqL.of ha', atI_nat (List.getElem?_eq_getElem hi), q H' i _ (List.getElem?_eq_getElem hi) S' F'⟩
theorem ok_begun {f : Addr} {fd : FuncData} {k : Nat} (F : Fun K "_law_begun" "_law_begun" sBegun f fd) (ma : mg "abs" = none) : FnOk P w K mg base CX0 (k + 1) f fd ["_law_script"] (spBegun K) := by
  refine F.ok scBegun (fun vs H Q E h => ?_) (fun cdv A outer s H vs Q E hr h => ?_)
  · obtain ⟨a, ns, rfl, _⟩ := h
    rfl
  · obtain ⟨a, ns, rfl, hS, hlen, q⟩ := h
    refine ⟨_, pss_cons (ps_setLc (i := 1) (own := [("_law_cell", 2)]) (g := gName 2) rfl scBegun.nd rfl rfl (sw_true rfl rfl rfl (by decide +kernel)) (pi_list (pv 0)) (blkOk_by (N := ["_law_script", "_law_wide", "_law_cell"]) (sc := defScope sBegun) (by decide +kernel))
        (fun _ _ _ _ _ => pg_name (i := 2) scBegun.nd rfl (Or.inl rfl)) (fun _ _ _ _ _ => pts_one (pt_cmpR op_ge (pe_callB call_abs (by rfl) ma (by decide +kernel) (pa_cons (pv 2) pa_nil)) (pe_op op_pow pe_int pe_int) (nomark _)))
        (fun _ _ _ _ _ => pe_op op_sub (pe_callB call_abs (by rfl) ma (by decide +kernel) (pa_cons (pv 2) pa_nil)) (pe_op op_pow pe_int pe_int)))
      (pss_one (ps_ret (pe_disp (pps_cons pe_str (pv 1) (pps_cons pe_str (pe_lc (own := [("_law_cell", 2)]) (g := gName 2) (tt := tYes) rfl scBegun.nd (pi_list (pv 0)) (blkOk_by (N := ["_law_script", "_law_wide", "_law_cell"]) (sc := defScope sBegun) (by decide +kernel))
        (fun _ _ _ _ _ => pg_name (i := 2) scBegun.nd rfl (Or.inl rfl)) (fun _ _ _ _ _ => pts_nil) (fun _ _ _ _ _ => pe_callB call_abs (by rfl) ma (by decide +kernel) (pa_cons (pv 2) pa_nil)))
        (pps_cons pe_str pe_int (pps_cons pe_str pe_int pps_nil)))) (by rfl) (by rfl) (fun z => by cases z) (by decide)))), ?_⟩
    have hint : ∀ (i : Nat) (x : V), (ns.map V.int)[i]? = some x → i < ns.length ∧ ∃ u, x = V.int u := fun i x hi => by
      have h1 := (List.getElem?_eq_some_iff.mp hi).1
      rw [List.length_map] at h1
      obtain ⟨u, _, e⟩ := List.mem_map.mp (List.mem_of_getElem? hi)
      exact ⟨h1, u, e.symm⟩
    -- wide
    refine ⟨_, rfl, a, rfl, ⟨_, hS⟩, fun D hD => ?_⟩
    refine lc_list (K := K) (a := a) (xs := ns.map V.int) (fun i H' => Same H H' ∧ ∃ ws : List Int, H' D = some (.lst (ws.map V.int)) ∧ (∀ x ∈ ws, 0 ≤ x) ∧ ws.length ≤ i)
      ⟨same_upd hD, [], upd_same, fun x h => (nomatch h), Nat.le_refl _⟩ (fun i H' _ R => R.1.seq hS) ?_ ?_
    · rintro i x H' hi ⟨s1, ws, h1, h2, h3⟩
      obtain ⟨hi', u, rfl⟩ := hint i x hi
      refine ⟨rfl, ?_⟩
      refine ⟨_, rfl, u, rfl, 10, 18, rfl, rfl, ⟨by decide, by decide, by decide⟩, _, _, rfl, rfl, _, rfl, ?_⟩
      refine ite2 (fun e => ?_) (fun e => ⟨s1, ws, h1, h2, by omega⟩)
      have e' : (10 : Int) ^ (Int.toNat 18) ≤ (if u < 0 then -u else u) := of_decide_eq_true e
      refine ⟨_, rfl, u, rfl, 10, 18, rfl, rfl, ⟨by decide, by decide, by decide⟩, _, _, rfl, rfl, _, h1, by rw [List.length_map]; exact small1000 (by omega), ?_⟩
      refine ⟨fun b o e => by rw [upd_ne (ne_of_none e hD)]; exact s1 _ _ e, ws ++ [(if u < 0 then -u else u) - 10 ^ (Int.toNat 18)], by rw [upd_same, List.map_append]; rfl, fun y hy => ?_, by rw [List.length_append, List.length_singleton]; omega⟩
      rcases List.mem_append.mp hy with hy | hy
      · exact h2 y hy
      · rw [List.mem_singleton.mp hy]
        omega
    · rintro H' ⟨s1, ws, h1, h2, h3⟩
      rw [List.length_map] at h3
      -- the dict
      refine fun p hp => ?_
      have sp := same_upd (o := .dK []) hp
      refine ⟨_, rfl, _, rfl, a, rfl, ⟨_, sp.seq (s1.seq hS)⟩, fun D2 hD2 => ?_⟩
      have sp2 := same_upd (o := .lst []) hD2
      refine lc_list (K := K) (a := a) (xs := ns.map V.int) (fun i H2 => Same (upd H' p (.dK [])) H2 ∧ ∃ cs : List Int, H2 D2 = some (.lst (cs.map V.int)) ∧ (∀ x ∈ cs, 0 ≤ x) ∧ cs.length ≤ i)
        ⟨sp2, [], upd_same, fun x h => (nomatch h), Nat.le_refl _⟩ (fun i H2 _ R => R.1.seq (sp.seq (s1.seq hS))) ?_ ?_
      · rintro i x H2 hi ⟨s3, cs, g1, g2, g3⟩
        obtain ⟨hi', u, rfl⟩ := hint i x hi
        refine ⟨rfl, yesI ?_⟩
        refine ⟨_, rfl, u, rfl, _, g1, by rw [List.length_map]; exact small1000 (by omega), ?_⟩
        refine ⟨fun b o e => by rw [upd_ne (ne_of_none e hD2)]; exact s3 _ _ e, cs ++ [if u < 0 then -u else u], by rw [upd_same, List.map_append]; rfl, fun y hy => ?_, by rw [List.length_append, List.length_singleton]; omega⟩
        rcases List.mem_append.mp hy with hy | hy
        · exact g2 y hy
        · rw [List.mem_singleton.mp hy]
          split <;> omega
      · rintro H2 ⟨s3, cs, g1, g2, g3⟩
        rw [List.length_map] at g3
        have hp2 : H2 p = some (.dK []) := s3 _ _ upd_same
        refine ⟨hp2, stD D D2 0 0, rfl, by show 4 ≤ 15; decide, ?_⟩
        rw [merge_st]
        have npD : p ≠ D := (ne_of_none h1 hp).symm
        have sH : Same H H2 := fun b o e => s3 _ _ (sp _ _ (s1 _ _ e))
        have nD2 : D ≠ D2 := ne_of_none (sp _ _ h1) hD2
        have hH2 : H D2 = none := s1.free (sp.free hD2)
        refine q _ p D D2 ⟨ws, cs, 0, 0, upd_same, ?_, ?_, h2, g2, Int.le_refl _, Int.le_refl _, Int.le_refl _, by omega, by omega, nD2⟩ ?_ (s1.free hp) hD hH2
        · rw [upd_ne npD.symm]; exact s3 _ _ (sp _ _ h1)
        · rw [upd_ne (ne_of g1 hp2 (by intro z; cases z))]; exact g1
        · exact fun b o e => by rw [upd_ne (ne_of_none (s1 _ _ e) hp)]; exact sH _ _ e
end
end Kw
set_option maxHeartbeats 4000000
namespace Kw
open PySem PySem.Spec PyProof.Rows L2
abbrev sLater : Stmt := top 43
/-! ### versions -/
abbrev Ver := Int × Int × Int
abbrev vl (v : Ver) : List Int := [v.1, v.2.1, v.2.2]
abbrev v3 (v : Ver) : List V := (vl v).map V.int
def okV (v : Ver) : Prop := 0 ≤ v.1 ∧ 0 ≤ v.2.1 ∧ 0 ≤ v.2.2
def ltV (v u : Ver) : Prop := v.1 < u.1 ∨ v.1 = u.1 ∧ (v.2.1 < u.2.1 ∨ v.2.1 = u.2.1 ∧ v.2.2 < u.2.2)
instance (v u : Ver) : Decidable (ltV v u) := by unfold ltV; infer_instance
def leV (v u : Ver) : Prop := ¬ ltV u v
instance (v u : Ver) : Decidable (leV v u) := by unfold leV; infer_instance
theorem ltV_irrefl (v : Ver) : ¬ ltV v v := by unfold ltV; omega
theorem ltV_trans {a b c : Ver} (h : ltV a b) (k : ltV b c) : ltV a c := by unfold ltV at *; omega
theorem ltV_or {a b : Ver} (h : ¬ ltV a b) (k : ¬ ltV b a) : a = b := by
  obtain ⟨a1, a2, a3⟩ := a
  obtain ⟨b1, b2, b3⟩ := b
  unfold ltV at *
  simp only at h k
  simp only [Prod.mk.injEq]
  omega
/-- x is the version v -/
def IsVer (K : PySem.W.Frag) (H : Hp) (x : V) (v : Ver) : Prop := ∃ a, x = .ref a ∧ SqT K H a (v3 v)
theorem IsVer.of {K : PySem.W.Frag} {H : Hp} {a : Addr} {v : Ver} (h : H a = some (.tup (v3 v))) : IsVer K H (.ref a) v := ⟨a, rfl, .inl (.inl h)⟩
theorem IsVer.same {K : PySem.W.Frag} {H H' : Hp} {x : V} {v : Ver} (h : IsVer K H x v) (s : Same H H') : IsVer K H' x v := let ⟨a, e, q⟩ := h; ⟨a, e, Same.sqT s q⟩
theorem IsVer.fr {K : PySem.W.Frag} {H H' : Hp} {x : V} {v : Ver} {d w c : Addr} {B : Int} (h : IsVer K H x v) (S : StAt H d w c B) (F : Fr2 d w H H') : IsVer K H' x v := let ⟨a, e, q⟩ := h; ⟨a, e, F.sqT S q⟩
/-! ### comparisons of versions -/
theorem lexAt3 (e r : Nat → Bool) (z : Bool) : Ob.lexAt e r z 0 3 = if e 0 = true then (if e 1 = true then (if e 2 = true then z else r 2) else r 1) else r 0 := rfl
def cmpV (op : CmpOp) (v u : Ver) : Bool := match op with
  | .Lt => decide (ltV v u)
  | .LtE => decide (leV v u)
  | .Gt => decide (ltV u v)
  | .GtE => decide (leV u v)
  | _ => false
def cmpI (op : CmpOp) (i j : Int) : Bool := match op with
  | .Lt => decide (i < j)
  | .LtE => decide (i ≤ j)
  | .Gt => decide (j < i)
  | .GtE => decide (j ≤ i)
  | _ => false
def rVer (K : PySem.W.Frag) (op : CmpOp) : R2 := fun x y H Q => ∃ v u, IsVer K H x v ∧ IsVer K H y u ∧ Q (.bl (cmpV op v u)) H
section
variable {X : Cx}
theorem int_places {ns : List Int} {its : List Value} (i : IntsAre its ns) (j : Nat) (h : j < its.toArray.size) : ∃ t, its.toArray[j] = Value.int (ns.getD j 0) t :=
  PyProof.Rows.IntsAre.int_at i _ _ (by simp at h; simp [h])
theorem op_ver {op : CmpOp} (hop : op = .Lt ∨ op = .LtE ∨ op = .Gt ∨ op = .GtE) (hu : X.A.units < cLine) : OpR X (compareOp op) (rVer X.K op) := by
  intro pins s σ H x y p q Q I rx ry ⟨v, u, ⟨a, ea, ha⟩, ⟨b, eb, hb⟩, fin⟩
  subst ea eb
  cases rx
  cases ry
  obtain ⟨m1, r1, t1, _⟩ := I.tuple ha
  obtain ⟨m2, r2, t2, _⟩ := I.tuple hb
  have k1 : IntsAre m1 (vl v) := Vals.ints r1
  have k2 : IntsAre m2 (vl u) := Vals.ints r2
  have z1 : m1.toArray.size = 3 := by rw [List.size_toArray]; exact k1.length
  have z2 : m2.toArray.size = 3 := by rw [List.size_toArray]; exact k2.length
  have eqs : ∀ j (h1 : j < m1.toArray.size) (h2 : j < m2.toArray.size), SeqAt.EqAt X.A.in1 s m1.toArray[j] m2.toArray[j] ((vl v).getD j 0 == (vl u).getD j 0) := fun j h1 h2 => by
    obtain ⟨t, et⟩ := int_places k1 j h1
    obtain ⟨t', et'⟩ := int_places k2 j h2
    rw [et, et']
    exact SeqAt.EqAt.int_int _ _ _ _
  have goal : ∀ {bb : Bool}, Ob.RcOp op X.A s (.ref a) (.ref b) bb → bb = cmpV op v u → wpAny (model X.prog X.w) X.A (compareOp op (.ref a) (.ref b)) (EP X pins σ Q) X.xe s := fun {bb} R e => by
    subst e
    rcases hop with rfl | rfl | rfl | rfl <;> exact R X.prog X.w X.xe (EP X pins σ Q) ⟨.bl _, H, I, rfl, fin⟩
  rcases hop with rfl | rfl | rfl | rfl
  · refine goal (Ob.RcOp.tuples_lt (r := fun j => decide ((vl v).getD j 0 < (vl u).getD j 0)) t1 t2 hu eqs fun j h1 h2 _ => ?_) ?_
    · obtain ⟨t, et⟩ := int_places k1 j h1
      obtain ⟨t', et'⟩ := int_places k2 j h2
      rw [et, et']
      exact Ob.RcOp.lt_int _ _ _ _
    · rw [z1, z2, show min 3 3 = 3 from rfl, lexAt3]
      simp only [cmpV, vl, List.getD_cons_zero, List.getD_cons_succ, beq_iff_eq]
      rw [Bool.eq_iff_iff]
      repeat' split
      all_goals (simp only [decide_eq_true_eq]; unfold ltV; omega)
  · refine goal (Ob.RcOp.tuples_le (r := fun j => decide ((vl v).getD j 0 ≤ (vl u).getD j 0)) t1 t2 hu eqs fun j h1 h2 _ => ?_) ?_
    · obtain ⟨t, et⟩ := int_places k1 j h1
      obtain ⟨t', et'⟩ := int_places k2 j h2
      rw [et, et']
      exact Ob.RcOp.le_int _ _ _ _
    · rw [z1, z2, show min 3 3 = 3 from rfl, lexAt3]
      simp only [cmpV, vl, List.getD_cons_zero, List.getD_cons_succ, beq_iff_eq]
      rw [Bool.eq_iff_iff]
      repeat' split
      all_goals (simp only [decide_eq_true_eq]; unfold leV ltV; omega)
  · refine goal (Ob.RcOp.tuples_gt (r := fun j => decide ((vl u).getD j 0 < (vl v).getD j 0)) t1 t2 hu eqs fun j h1 h2 _ => ?_) ?_
    · obtain ⟨t, et⟩ := int_places k1 j h1
      obtain ⟨t', et'⟩ := int_places k2 j h2
      rw [et, et']
      exact Ob.RcOp.gt_int _ _ _ _
    · rw [z1, z2, show min 3 3 = 3 from rfl, lexAt3]
      simp only [cmpV, vl, List.getD_cons_zero, List.getD_cons_succ, beq_iff_eq]
      rw [Bool.eq_iff_iff]
      repeat' split
      all_goals (simp only [decide_eq_true_eq]; unfold ltV; omega)
  · refine goal (Ob.RcOp.tuples_ge (r := fun j => decide ((vl u).getD j 0 ≤ (vl v).getD j 0)) t1 t2 hu eqs fun j h1 h2 _ => ?_) ?_
    · obtain ⟨t, et⟩ := int_places k1 j h1
      obtain ⟨t', et'⟩ := int_places k2 j h2
      rw [et, et']
      exact Ob.RcOp.ge_int _ _ _ _
    · rw [z1, z2, show min 3 3 = 3 from rfl, lexAt3]
      simp only [cmpV, vl, List.getD_cons_zero, List.getD_cons_succ, beq_iff_eq]
      rw [Bool.eq_iff_iff]
      repeat' split
      all_goals (simp only [decide_eq_true_eq]; unfold leV ltV; omega)
end
end Kw
set_option maxHeartbeats 4000000
namespace Kw
open PySem PySem.Spec PyProof.Rows L2
theorem Fr2.put {H H2 : Hp} {d w D : Addr} {o : HO} (F : Fr2 d w H H2) (hD : H D = none) : Fr2 d w H (upd H2 D o) := fun b u n1 n2 e => by
  rw [upd_ne (ne_of_none e hD)]
  exact F b u n1 n2 e
theorem StAt.ne {H : Hp} {d w c D : Addr} {B : Int} (S : StAt H d w c B) (hD : H D = none) : d ≠ D ∧ w ≠ D ∧ c ≠ D := by
  obtain ⟨ws, cs, r, t, hd, hw, hc, _⟩ := S.ex
  exact ⟨ne_of_none hd hD, ne_of_none hw hD, ne_of_none hc hD⟩
theorem StAt.put {H H2 : Hp} {d w c D : Addr} {B B2 : Int} {o : HO} (S0 : StAt H d w c B) (hD : H D = none) (S : StAt H2 d w c B2) : StAt (upd H2 D o) d w c B2 := by
  obtain ⟨n1, n2, n3⟩ := S0.ne hD
  obtain ⟨ws, cs, r, t, hd, hw, hc, pw, pc, hr0, ht0, htB, lw, lc, nwc⟩ := S.ex
  exact ⟨ws, cs, r, t, by rw [upd_ne n1]; exact hd, by rw [upd_ne n2]; exact hw, by rw [upd_ne n3]; exact hc, pw, pc, hr0, ht0, htB, lw, lc, nwc⟩
theorem Fr2.free {H H2 : Hp} {d w c p : Addr} {B B2 : Int} (F : Fr2 d w H H2) (S : StAt H d w c B) (S2 : StAt H2 d w c B2) (h : H2 p = none) : H p = none := by
  obtain ⟨n1, n2, n3⟩ := S2.ne h
  cases q : H p with
  | none => rfl
  | some o =>
    rw [F p o n1.symm n2.symm q] at h
    cases h
theorem ltA {v : Ver} {a b c : Int} (h : v.1 < a) : ltV v (a, b, c) := .inl h
theorem ltB {v : Ver} {b c : Int} (h : v.2.1 < b) : ltV v (v.1, b, c) := .inr ⟨rfl, .inl h⟩
theorem ltC {v : Ver} {c : Int} (h : v.2.2 < c) : ltV v (v.1, v.2.1, c) := .inr ⟨rfl, .inr ⟨rfl, h⟩⟩
/-- a version, drawn from a menu of numbers from 0 on -/
def spVersion (K : PySem.W.Frag) : Sp := fun vs H Q _ => ∃ (d w c : Addr) (B : Int), vs = [.ref d] ∧ StAt H d w c B ∧ B + 3 ≤ 1000000000000 ∧
  ∀ H' p v, okV v → v.1 ≤ 10 → v.2.1 ≤ 10 → v.2.2 ≤ 10 → H p = none → H' p = some (.tup (v3 v)) → StAt H' d w c (B + 3) → Fr2 d w H H' → Q (.ref p) H'
/-- a later version -/
def spLater (K : PySem.W.Frag) : Sp := fun vs H Q _ => ∃ (d w c : Addr) (B : Int) (x : V) (v : Ver), vs = [.ref d, x] ∧ StAt H d w c B ∧ B + 3 ≤ 1000000000000 ∧ IsVer K H x v ∧ okV v ∧
  ∀ H' p u, okV u → ltV v u → H p = none → H' p = some (.tup (v3 u)) → StAt H' d w c (B + 3) → Fr2 d w H H' → Q (.ref p) H'
section
variable {P : Program} {w : World} {K : PySem.W.Frag} {mg : Str → Option Value} {base : Heap}
theorem scVersion : FnScope ["_law_state", "_law_spot"] ["_law_state"] (defScope sVersion) := ⟨rfl, rfl, rfl, by decide +kernel, rfl, by decide +kernel, by decide +kernel⟩
theorem scLater : FnScope ["_law_state", "_law_version_here", "_law_way"] ["_law_state", "_law_version_here"] (defScope sLater) := ⟨rfl, rfl, rfl, by decide +kernel, rfl, by decide +kernel, by decide +kernel⟩
theorem ok_version {f : Addr} {fd : FuncData} {k : Nat} (F : Fun K "_law_version" "_law_version" sVersion f fd) (mt : mg "tuple" = none) (mr : mg "range" = none) (DP : Def P w K mg base "_law_pick" CX0 k ["_law_state", "_law_some"] spPick) : FnOk P w K mg base CX0 (k + 1) f fd ["_law_state"] (spVersion K) := by
  refine F.ok scVersion (fun vs H Q E h => ?_) (fun cdv A outer s H vs Q E hr h => ?_)
  · obtain ⟨d, w, c, B, rfl, _⟩ := h
    rfl
  · obtain ⟨d, w, c, B, rfl, hS, hB, q⟩ := h
    refine ⟨_, pss_one (ps_ret (pe_callTy call_tuple_of (by rfl) mt (by decide +kernel) (pa_cons (pe_lc (own := [("_law_spot", 1)]) (g := gName 1) (tt := tYes) rfl scVersion.nd (pi_range1 rfl mr (pa_cons pe_int pa_nil)) (blkOk_by (N := ["_law_state", "_law_spot"]) (sc := defScope sVersion) (by decide +kernel))
      (fun _ _ _ _ _ => pg_name (i := 1) scVersion.nd rfl (Or.inl rfl)) (fun _ _ _ _ _ => pts_nil) (fun _ _ _ _ _ => pe_d DP hr (pa_cons (pv 0) (pa_cons (pe_lst (pa_cons pe_int (pa_cons pe_int (pa_cons pe_int (pa_cons pe_int (pa_cons pe_int (pa_cons pe_int (pa_cons pe_int pa_nil)))))))) pa_nil)))) pa_nil))), ?_⟩
    obtain ⟨ys, hw⟩ := hS.hw
    refine ⟨3, rfl, by decide, by decide, fun D hD => ?_⟩
    have nDw : D ≠ w := (ne_of_none hw hD).symm
    refine lc_range (lo := 0) (n := 3) (fun i H' => Fr2 d w H H' ∧ StAt H' d w c (B + i) ∧ ∃ ns : List Int, H' D = some (.lst (ns.map V.int)) ∧ ns.length = i ∧ ∀ x ∈ ns, 0 ≤ x ∧ x ≤ 10)
      ⟨.new hD, (hS.same (same_upd hD)).mono (by simp), [], upd_same, rfl, fun x h => (nomatch h)⟩ ?_ ?_
    · rintro i H1 hi ⟨F1, S1, ns, h1, h2, h3⟩
      refine ⟨rfl, yesI ?_⟩
      refine ⟨_, rfl, by show 7 ≤ sizeLine; decide, fun l hl => ?_⟩
      have sl := same_upd (o := .lst ([0, 0, 1, 1, 2, 3, 10].map V.int)) hl
      obtain ⟨ys1, hw1⟩ := S1.hw
      refine ⟨d, w, c, B + i, l, [0, 0, 1, 1, 2, 3, 10].map V.int, rfl, S1.same sl, by omega, upd_same, (ne_of_none hw1 hl).symm, by decide, by decide, fun H2 j v hv S2 F2 => ?_⟩
      obtain ⟨z, hz, rfl⟩ : ∃ z : Int, (0 ≤ z ∧ z ≤ 10) ∧ v = .int z := by
        have hm := List.mem_of_getElem? hv
        simp at hm
        rcases hm with rfl | rfl | rfl | rfl | rfl <;> exact ⟨_, by decide, rfl⟩
      have hD2 := F2.lst (S1.same sl) (sl _ _ h1) nDw
      refine ⟨_, hD2, by rw [List.length_map]; exact small1000 (by omega), ?_⟩
      refine ⟨(F1.trans ((Fr2.ofSame sl).trans F2)).put hD, (hS.put hD S2).mono (by omega), ns ++ [z], by rw [upd_same, List.map_append]; rfl, by rw [List.length_append, h2]; rfl, fun x hx => ?_⟩
      rcases List.mem_append.mp hx with hx | hx
      · exact h3 x hx
      · rw [List.mem_singleton.mp hx]; exact hz
    · rintro H1 ⟨F1, S1, ns, h1, h2, h3⟩
      obtain ⟨x, y, z, rfl⟩ : ∃ x y z, ns = [x, y, z] := by
        match ns, h2 with
        | [x, y, z], _ => exact ⟨x, y, z, rfl⟩
      refine ⟨_, _, rfl, .inl ⟨SqL.of h1, fun l hl => ?_⟩⟩
      have sl := same_upd (o := .tup (v3 (x, y, z))) hl
      exact q _ l (x, y, z) ⟨(h3 x (by simp)).1, (h3 y (by simp)).1, (h3 z (by simp)).1⟩ (h3 x (by simp)).2 (h3 y (by simp)).2 (h3 z (by simp)).2 (F1.free hS S1 hl) upd_same (S1.same sl) (F1.trans (.ofSame sl))
theorem ok_later {f : Addr} {fd : FuncData} {k : Nat} (F : Fun K "_law_later" "_law_later" sLater f fd) (DD : Def P w K mg base "_law_draw" CX0 k ["_law_state", "_law_size"] spDraw) : FnOk P w K mg base CX0 (k + 1) f fd ["_law_state", "_law_version_here"] (spLater K) := by
  refine F.ok scLater (fun vs H Q E h => ?_) (fun cdv A outer s H vs Q E hr h => ?_)
  · obtain ⟨d, w, c, B, x, v, rfl, _⟩ := h
    rfl
  · obtain ⟨d, w, c, B, x, v, rfl, hS, hB, ⟨a, rfl, ha⟩, hv, q⟩ := h
    refine ⟨_, pss_cons (ps_set (i := 2) scLater.nd rfl (.inl rfl) (pe_d DD hr (pa_cons (pv 0) (pa_cons pe_int pa_nil))))
      (pss_cons (ps_if (pt_cmpR op_eq (pv 2) pe_int (nomark _)) (pss_one (ps_ret (pe_op op_catT (pe_slice sl_tup (pv 1) po_none (po_some pe_int)) (pe_tup (pa_cons (pe_op op_add (pe_ix ix_tup (pv 1) pe_int (fun _ _ => rfl)) pe_int) pa_nil))))) pss_nil)
      (pss_cons (ps_if (pt_cmpR op_eq (pv 2) pe_int (nomark _)) (pss_one (ps_ret (pe_tup (pa_cons (pe_ix ix_tup (pv 1) pe_int (fun _ _ => rfl)) (pa_cons (pe_op op_add (pe_op op_add (pe_ix ix_tup (pv 1) pe_int (fun _ _ => rfl)) pe_int) (pe_d DD hr (pa_cons (pv 0) (pa_cons pe_int pa_nil)))) (pa_cons (pe_d DD hr (pa_cons (pv 0) (pa_cons pe_int pa_nil))) pa_nil)))))) pss_nil)
      (pss_one (ps_ret (pe_ifExp (pt_cmpR op_eq (pv 2) pe_int (nomark _)) (pe_tup (pa_cons (pe_op op_add (pe_op op_add (pe_ix ix_tup (pv 1) pe_int (fun _ _ => rfl)) pe_int) (pe_d DD hr (pa_cons (pv 0) (pa_cons pe_int pa_nil)))) (pa_cons pe_int (pa_cons (pe_d DD hr (pa_cons (pv 0) (pa_cons pe_int pa_nil))) pa_nil))))
        (pe_tup (pa_cons (pe_op op_add (pe_ix ix_tup (pv 1) pe_int (fun _ _ => rfl)) pe_int) (pa_cons pe_int (pa_cons pe_int pa_nil))))))))), ?_⟩
    refine ⟨_, rfl, d, w, c, B, 4, rfl, hS, by omega, by decide, by decide, fun H1 z hz0 hz1 S1 F1 => ?_⟩
    have ha1 := F1.sqT hS ha
    refine ⟨_, rfl, rfl, _, rfl, ite2 (fun e => ?_) (fun e => ?_)⟩
    · -- the next one
      refine ⟨_, rfl, 2, rfl, a, v3 v, rfl, ha1, (by intro z; exact absurd z.2 (by show ¬ (2 = 3); decide)), fun p hp => ?_⟩
      have s1 := same_upd (o := .tup (cutV (v3 v) none (some 2))) hp
      refine ⟨_, rfl, a, v3 v, 2, .int v.2.2, rfl, rfl, Same.sqT s1 ha1, atI_nat (j := 2) rfl, _, 1, rfl, rfl, by show 1 ≤ sizeLine; decide, fun p2 hp2 => ?_⟩
      have s2 := same_upd (o := .tup [.int (v.2.2 + 1)]) hp2
      refine ⟨p, p2, _, _, rfl, rfl, .inl (.inl (s2 _ _ upd_same)), .inl (.inl upd_same), (by intro z; cases z), (by show 3 ≤ sizeLine; decide), (fun z => (nomatch z)), fun _ p3 hp3 => ?_⟩
      have s3 := same_upd (o := .tup (v3 (v.1, v.2.1, v.2.2 + 1))) hp3
      have sA := (s1.trans s2).trans s3
      refine q _ p3 (v.1, v.2.1, v.2.2 + 1) ⟨hv.1, hv.2.1, by have := hv.2.2; show 0 ≤ v.2.2 + 1; omega⟩ (ltC (by omega)) (F1.free hS S1 (s1.free (s2.free hp3))) upd_same ((S1.same sA).mono (by omega)) (F1.trans (.ofSame sA))
    · refine ⟨_, rfl, rfl, _, rfl, ite2 (fun e2 => ?_) (fun e2 => ?_)⟩
      · refine ⟨_, rfl, a, v3 v, 0, .int v.1, rfl, rfl, ha1, atI_nat (j := 0) rfl, ?_⟩
        refine ⟨_, rfl, a, v3 v, 1, .int v.2.1, rfl, rfl, ha1, atI_nat (j := 1) rfl, _, 1, rfl, rfl, ?_⟩
        refine ⟨_, rfl, d, w, c, B + 1, 2, rfl, S1, by omega, by decide, by decide, fun H2 z2 hz2 hz2' S2 F2 => ?_⟩
        refine ⟨_, z2, rfl, rfl, ?_⟩
        refine ⟨_, rfl, d, w, c, B + 1 + 1, 2, rfl, S2, by omega, by decide, by decide, fun H3 z3 hz3 hz3' S3 F3 => ?_⟩
        refine ⟨by show 3 ≤ sizeLine; decide, fun p hp => ?_⟩
        have s1 := same_upd (o := .tup (v3 (v.1, v.2.1 + 1 + z2, z3))) hp
        have FA := F1.trans (F2.trans F3)
        refine q _ p (v.1, v.2.1 + 1 + z2, z3) ⟨hv.1, by have := hv.2.1; show 0 ≤ v.2.1 + 1 + z2; omega, hz3⟩ (ltB (by omega)) (FA.free hS S3 hp) upd_same ((S3.same s1).mono (by omega)) (FA.trans (.ofSame s1))
      · refine ⟨_, rfl, rfl, _, rfl, ite2 (fun e3 => ?_) (fun e3 => ?_)⟩
        · refine ⟨_, rfl, a, v3 v, 0, .int v.1, rfl, rfl, ha1, atI_nat (j := 0) rfl, _, 1, rfl, rfl, ?_⟩
          refine ⟨_, rfl, d, w, c, B + 1, 2, rfl, S1, by omega, by decide, by decide, fun H2 z2 hz2 hz2' S2 F2 => ?_⟩
          refine ⟨_, z2, rfl, rfl, ?_⟩
          refine ⟨_, rfl, d, w, c, B + 1 + 1, 2, rfl, S2, by omega, by decide, by decide, fun H3 z3 hz3 hz3' S3 F3 => ?_⟩
          refine ⟨by show 3 ≤ sizeLine; decide, fun p hp => ?_⟩
          have s1 := same_upd (o := .tup (v3 (v.1 + 1 + z2, 0, z3))) hp
          have FA := F1.trans (F2.trans F3)
          refine q _ p (v.1 + 1 + z2, 0, z3) ⟨by have := hv.1; show 0 ≤ v.1 + 1 + z2; omega, Int.le_refl _, hz3⟩ (ltA (by omega)) (FA.free hS S3 hp) upd_same ((S3.same s1).mono (by omega)) (FA.trans (.ofSame s1))
        · refine ⟨_, rfl, a, v3 v, 0, .int v.1, rfl, rfl, ha1, atI_nat (j := 0) rfl, _, 1, rfl, rfl, ?_⟩
          refine ⟨by show 3 ≤ sizeLine; decide, fun p hp => ?_⟩
          have s1 := same_upd (o := .tup (v3 (v.1 + 1, 0, 0))) hp
          refine q _ p (v.1 + 1, 0, 0) ⟨by have := hv.1; show 0 ≤ v.1 + 1; omega, Int.le_refl _, Int.le_refl _⟩ (ltA (by omega)) (F1.free hS S1 hp) upd_same ((S1.same s1).mono (by omega)) (F1.trans (.ofSame s1))
end
end Kw
set_option maxHeartbeats 4000000
namespace Kw
open PySem PySem.Spec PyProof.Rows L2
/-! ### stretches -/
abbrev Str2 := Ver × Option Ver
def IsEnd (K : PySem.W.Frag) (H : Hp) (x : V) : Option Ver → Prop
  | none => x = .non
  | some u => IsVer K H x u
def IsStr (K : PySem.W.Frag) (H : Hp) (x : V) (s : Str2) : Prop := ∃ p l h, x = .ref p ∧ SqT K H p [l, h] ∧ IsVer K H l s.1 ∧ IsEnd K H h s.2
def okS (s : Str2) : Prop := okV s.1 ∧ ∀ u, s.2 = some u → okV u ∧ ltV s.1 u
theorem IsEnd.same {K : PySem.W.Frag} {H H' : Hp} {x : V} {e : Option Ver} (h : IsEnd K H x e) (s : Same H H') : IsEnd K H' x e := by
  cases e with
  | none => exact h
  | some u => exact IsVer.same h s
theorem IsEnd.fr {K : PySem.W.Frag} {H H' : Hp} {x : V} {e : Option Ver} {d w c : Addr} {B : Int} (h : IsEnd K H x e) (S : StAt H d w c B) (F : Fr2 d w H H') : IsEnd K H' x e := by
  cases e with
  | none => exact h
  | some u => exact IsVer.fr h S F
theorem IsStr.same {K : PySem.W.Frag} {H H' : Hp} {x : V} {s : Str2} (h : IsStr K H x s) (e : Same H H') : IsStr K H' x s := by
  obtain ⟨p, l, hh, rfl, h1, h2, h3⟩ := h
  exact ⟨p, l, hh, rfl, Same.sqT e h1, h2.same e, h3.same e⟩
theorem IsStr.fr {K : PySem.W.Frag} {H H' : Hp} {x : V} {s : Str2} {d w c : Addr} {B : Int} (h : IsStr K H x s) (S : StAt H d w c B) (F : Fr2 d w H H') : IsStr K H' x s := by
  obtain ⟨p, l, hh, rfl, h1, h2, h3⟩ := h
  exact ⟨p, l, hh, rfl, F.sqT S h1, h2.fr S F, h3.fr S F⟩
/-- all are versions from 0 on -/
def Vers (K : PySem.W.Frag) (H : Hp) (xs : List V) : Prop := ∀ x ∈ xs, ∃ v, IsVer K H x v ∧ okV v
theorem Vers.same {K : PySem.W.Frag} {H H' : Hp} {xs : List V} (h : Vers K H xs) (s : Same H H') : Vers K H' xs := fun x hx => let ⟨v, a, b⟩ := h x hx; ⟨v, a.same s, b⟩
theorem Vers.fr {K : PySem.W.Frag} {H H' : Hp} {xs : List V} {d w c : Addr} {B : Int} (h : Vers K H xs) (S : StAt H d w c B) (F : Fr2 d w H H') : Vers K H' xs := fun x hx => let ⟨v, a, b⟩ := h x hx; ⟨v, a.fr S F, b⟩
/-- a stretch -/
def spStretch (K : PySem.W.Frag) : Sp := fun vs H Q _ => ∃ (d w c : Addr) (B : Int) (al : Addr) (xs : List V), vs = [.ref d, .ref al] ∧ StAt H d w c B ∧ B + 12 ≤ 1000000000000 ∧ H al = some (.lst xs) ∧ al ≠ w ∧ xs.length ≤ 10 ∧ Vers K H xs ∧
  ∀ H' p s, okS s → H p = none → IsStr K H' (.ref p) s → StAt H' d w c (B + 12) → Fr2 d w H H' → Q (.ref p) H'
section
variable {P : Program} {w : World} {K : PySem.W.Frag} {mg : Str → Option Value} {base : Heap}
end
end Kw
set_option maxHeartbeats 4000000
namespace Kw
open PySem PySem.Spec PyProof.Rows L2
/-- the stretch has the version -/
def hasS (s : Str2) (v : Ver) : Bool := decide (leV s.1 v) && (match s.2 with | none => true | some u => decide (ltV v u))
/-- xs are the stretches ss -/
structure Strs (K : PySem.W.Frag) (H : Hp) (xs : List V) (ss : List Str2) : Prop where
  len : xs.length = ss.length
  at_ : ∀ (i : Nat) (x : V) (s : Str2), xs[i]? = some x → ss[i]? = some s → IsStr K H x s
theorem Strs.same {K : PySem.W.Frag} {H H' : Hp} {xs : List V} {ss : List Str2} (h : Strs K H xs ss) (e : Same H H') : Strs K H' xs ss := ⟨h.len, fun i x s a b => (h.at_ i x s a b).same e⟩
theorem Strs.fr {K : PySem.W.Frag} {H H' : Hp} {xs : List V} {ss : List Str2} {d w c : Addr} {B : Int} (h : Strs K H xs ss) (S : StAt H d w c B) (F : Fr2 d w H H') : Strs K H' xs ss := ⟨h.len, fun i x s a b => (h.at_ i x s a b).fr S F⟩
theorem Strs.snoc {K : PySem.W.Frag} {H : Hp} {xs : List V} {ss : List Str2} {x : V} {s : Str2} (h : Strs K H xs ss) (q : IsStr K H x s) : Strs K H (xs ++ [x]) (ss ++ [s]) := by
  refine ⟨by simp [h.len], fun i y t a b => ?_⟩
  by_cases hi : i < xs.length
  · rw [List.getElem?_append_left hi] at a
    rw [List.getElem?_append_left (by rw [← h.len]; exact hi)] at b
    exact h.at_ i y t a b
  · rw [List.getElem?_append_right (by omega)] at a
    rw [List.getElem?_append_right (by rw [← h.len]; omega), ← h.len] at b
    have h0 : i - xs.length = 0 := by
      have := (List.getElem?_eq_some_iff.mp a).1
      simp at this
      omega
    rw [h0] at a b
    obtain rfl := Option.some.inj a
    obtain rfl := Option.some.inj b
    exact q
theorem Strs.get {K : PySem.W.Frag} {H : Hp} {xs : List V} {ss : List Str2} {i : Nat} {x : V} (h : Strs K H xs ss) (a : xs[i]? = some x) : ∃ s, ss[i]? = some s ∧ IsStr K H x s := by
  have hi := (List.getElem?_eq_some_iff.mp a).1
  have hi2 : i < ss.length := by rw [← h.len]; exact hi
  exact ⟨ss[i], List.getElem?_eq_getElem hi2, h.at_ i x _ a (List.getElem?_eq_getElem hi2)⟩
theorem take_snoc {α : Type} {l : List α} {i : Nat} {x : α} (h : l[i]? = some x) : l.take (i + 1) = l.take i ++ [x] := by
  rw [List.take_add_one, h]
  rfl
/-- low <= v and (high is None or v < high), of a low and a high in hand -/
def tIn (K : PySem.W.Frag) (l h v : Nat) : TT := tAnd (tTest (tOp (rVer K .LtE) (tVar l) (tVar v))) (tOr (tTest (tOp (fun x y H Q => y = .non ∧ Q (.bl (decide (x = .non))) H) (tVar h) (tC .non))) (tTest (tOp (rVer K .Lt) (tVar v) (tVar h))))
theorem isEnd_non {K : PySem.W.Frag} {H : Hp} {x : V} {e : Option Ver} (h : IsEnd K H x e) : decide (x = .non) = e.isNone := by
  cases e with
  | none =>
    have e1 : x = .non := h
    rw [e1]
    rfl
  | some u =>
    obtain ⟨a, rfl, _⟩ := h
    rfl
theorem in_read {K : PySem.W.Frag} {H : Hp} {σ : L2.St} {l h v : Nat} {x y z : V} {s : Str2} {u : Ver} {Q : Bool → Hp → Prop} (hl : σ[l]? = some (some x)) (hh : σ[h]? = some (some y)) (hv : σ[v]? = some (some z)) (q1 : IsVer K H x s.1) (q2 : IsEnd K H y s.2) (q3 : IsVer K H z u)
    (q : Q (hasS s u) H) : tIn K l h v σ H Q := by
  refine ⟨x, hl, z, hv, s.1, u, q1, q3, _, rfl, ?_⟩
  unfold hasS at q
  refine ite2 (fun e => ?_) (fun e => ?_)
  · have e' : leV s.1 u := of_decide_eq_true e
    rw [decide_eq_true e', Bool.true_and] at q
    refine ⟨y, hh, rfl, _, rfl, ?_⟩
    rw [isEnd_non q2]
    obtain ⟨s1, s2⟩ := s
    cases s2 with
    | none => exact iteT q
    | some t => exact iteF ⟨z, hv, y, hh, u, t, q3, q2, _, rfl, q⟩
  · have e' : ¬ leV s.1 u := fun c => e (decide_eq_true c)
    rw [decide_eq_false e', Bool.false_and] at q
    exact q
def spHas (K : PySem.W.Frag) : Sp := fun vs H Q _ => ∃ (a : Addr) (xs : List V) (ss : List Str2) (x : V) (v : Ver), vs = [.ref a, x] ∧ SqL K H a xs ∧ Strs K H xs ss ∧ ss.length ≤ 100 ∧ IsVer K H x v ∧
  ∀ H', Same H H' → Q (.bl (ss.any fun s => hasS s v)) H'
section
variable {P : Program} {w : World} {K : PySem.W.Frag} {mg : Str → Option Value} {base : Heap}
theorem ones_ne (n : Nat) : (!PyData.eqv (.list ((List.replicate n (1 : Int)).map PyData.int)) (.list [])) = decide (n ≠ 0) := by
  rw [eqv_nil]
  cases n <;> rfl
end
end Kw
set_option maxHeartbeats 4000000
namespace Kw
open PySem PySem.Spec PyProof.Rows L2
def spWideV (K : PySem.W.Frag) : Sp := fun vs H Q _ => ∃ (d w c : Addr) (B : Int), vs = [.ref d] ∧ StAt H d w c B ∧ B + 4 ≤ 1000000000000 ∧
  ∀ H' p v, okV v → H p = none → H' p = some (.tup (v3 v)) → StAt H' d w c (B + 4) → Fr2 d w H H' → Q (.ref p) H'
def spSomeS (K : PySem.W.Frag) : Sp := fun vs H Q _ => ∃ (d w c : Addr) (B m : Int), vs = [.ref d, .int m] ∧ StAt H d w c B ∧ B + 200 ≤ 1000000000000 ∧ 0 ≤ m ∧ m ≤ 10 ∧
  ∀ H' p xs ss, H p = none → H' p = some (.lst xs) → Strs K H' xs ss → (∀ s ∈ ss, okS s) → ss.length ≤ m.toNat → StAt H' d w c (B + 200) → Fr2 d w H H' → Q (.ref p) H'
section
variable {P : Program} {w : World} {K : PySem.W.Frag} {mg : Str → Option Value} {base : Heap}
end
end Kw
set_option maxHeartbeats 4000000
namespace Kw
open PySem PySem.Spec PyProof.Rows L2
abbrev sIsNum : Stmt := top 15
abbrev sIsList : Stmt := top 16
abbrev sTupOf : Stmt := top 17
abbrev sIsVer : Stmt := top 22
abbrev sIsStr : Stmt := top 26
/-- the value's type is the built-in one called T -/
def Ty (K : PySem.W.Frag) (H : Hp) (x : V) (T : String) : Prop := TyX K H x (.type T)
/-- a value without parts -/
inductive Flat : V → String → Prop
  | non : Flat .non "NoneType"
  | bl (b : Bool) : Flat (.bl b) "bool"
  | int (i : Int) : Flat (.int i) "int"
  | str (z : Str) : Flat (.str z) "str"
theorem Flat.ty {K : PySem.W.Frag} {H : Hp} {x : V} {T : String} (f : Flat x T) : Ty K H x T := by
  cases f with
  | non => exact .base .non
  | bl b => exact .base (.bl b)
  | int i => exact .base (.int i)
  | str z => exact .base (.str z)
/-- a number from 0 on -/
def numV : V → Bool
  | .int i => decide (0 ≤ i)
  | _ => false
def spIsNum (K : PySem.W.Frag) : Sp := fun vs H Q _ => ∃ (x : V) (T : String) (b1 b2 : Bool), vs = [x] ∧ Ty K H x T ∧ kitB T "int" = some b1 ∧ kitB T "bool" = some b2 ∧ Q (.bl (b1 && !b2)) H
def spTupOf (K : PySem.W.Frag) : Sp := fun vs H Q _ => ∃ (x : V) (n : Int), vs = [x, .int n] ∧
  ((∃ a xs, x = .ref a ∧ SqT K H a xs ∧ Q (.bl (decide ((xs.length : Int) = n))) H) ∨ ∃ T, Ty K H x T ∧ kitB T "tuple" = some false ∧ Q (.bl false) H)
/-- whether a value is a version; of a tuple of flat things, or of no tuple -/
def spIsVer (K : PySem.W.Frag) : Sp := fun vs H Q _ => ∃ (x : V), vs = [x] ∧
  ((∃ a xs, x = .ref a ∧ SqT K H a xs ∧ (∀ y ∈ xs, xs.length = 3 → ∃ T, Flat y T) ∧ ∀ H', Same H H' → Q (.bl (decide (xs.length = 3) && xs.all numV)) H') ∨ ∃ T, Ty K H x T ∧ kitB T "tuple" = some false ∧ Q (.bl false) H)
section
variable {P : Program} {w : World} {K : PySem.W.Frag} {mg : Str → Option Value} {base : Heap}
theorem scIsNum : FnScope ["value"] ["value"] (defScope sIsNum) := ⟨rfl, rfl, rfl, by decide +kernel, rfl, by decide +kernel, by decide +kernel⟩
theorem scTupOf : FnScope ["value", "many"] ["value", "many"] (defScope sTupOf) := ⟨rfl, rfl, rfl, by decide +kernel, rfl, by decide +kernel, by decide +kernel⟩
theorem scIsVer : FnScope ["value", "number"] ["value"] (defScope sIsVer) := ⟨rfl, rfl, rfl, by decide +kernel, rfl, by decide +kernel, by decide +kernel⟩
theorem ty_tup {H : Hp} {a : Addr} {xs : List V} (h : SqT K H a xs) : Ty K H (.ref a) "tuple" := by
  rcases h with (h | ⟨o, h⟩) | ⟨o, its, n, h, c, _⟩
  · exact .base (.tup h)
  · exact .fTuple h
  · exact .kTuple h c
theorem ok_isNum {f : Addr} {fd : FuncData} {k : Nat} (F : Fun K "is_number" "is_number" sIsNum f fd) (mi : mg "isinstance" = none) (mint : mg "int" = none) (mb : mg "bool" = none) : FnOk P w K mg base CX0 (k + 1) f fd ["value"] (spIsNum K) := by
  refine F.ok scIsNum (fun vs H Q E h => ?_) (fun cdv A outer s H vs Q E hr h => ?_)
  · obtain ⟨x, T, b1, b2, rfl, _⟩ := h
    rfl
  · obtain ⟨x, T, b1, b2, rfl, ty, e1, e2, q⟩ := h
    refine ⟨_, pss_one (ps_ret (pe_and (pe_callB call_isi (by rfl) mi (by decide +kernel) (pa_cons (pv 0) (pa_cons (pe_bltn (v := .ty "int") (by rfl) mint (by decide +kernel) rfl) pa_nil)))
      (pe_one (pe_not (pe_callB call_isi (by rfl) mi (by decide +kernel) (pa_cons (pv 0) (pa_cons (pe_bltn (v := .ty "bool") (by rfl) mb (by decide +kernel) rfl) pa_nil))))))), ?_⟩
    refine ⟨_, rfl, x, .ty "int", .type T, .type "int", b1, rfl, .ty _, ty, kit_ty e1, b1, rfl, ?_⟩
    cases b1 with
    | false => exact iteF q
    | true => exact iteT ⟨_, rfl, x, .ty "bool", .type T, .type "bool", b2, rfl, .ty _, ty, kit_ty e2, b2, rfl, q⟩
theorem ok_tupOf {f : Addr} {fd : FuncData} {k : Nat} (F : Fun K "is_tuple_of" "is_tuple_of" sTupOf f fd) (mi : mg "isinstance" = none) (mt : mg "tuple" = none) (ml : mg "len" = none) : FnOk P w K mg base CX0 (k + 1) f fd ["value", "many"] (spTupOf K) := by
  refine F.ok scTupOf (fun vs H Q E h => ?_) (fun cdv A outer s H vs Q E hr h => ?_)
  · obtain ⟨x, n, rfl, _⟩ := h
    rfl
  · obtain ⟨x, n, rfl, h⟩ := h
    refine ⟨_, pss_one (ps_ret (pe_and (pe_callB call_isi (by rfl) mi (by decide +kernel) (pa_cons (pv 0) (pa_cons (pe_bltn (v := .ty "tuple") (by rfl) mt (by decide +kernel) rfl) pa_nil)))
      (pe_one (pe_cmpR op_eq (pe_callB call_len_seq (by rfl) ml PySem.boot_len (pa_cons (pv 0) pa_nil)) (pv 1) (nomark _))))), ?_⟩
    rcases h with ⟨a, xs, rfl, hx, q⟩ | ⟨T, ty, e, q⟩
    · refine ⟨_, rfl, .ref a, .ty "tuple", .type "tuple", .type "tuple", true, rfl, .ty _, ty_tup hx, kit_ty (by decide +kernel), true, rfl, iteT ?_⟩
      refine ⟨_, rfl, a, xs, rfl, .inr hx, _, rfl, rfl, ?_⟩
      rw [dec_int, ← show decide ((xs.length : Int) = n) = ((xs.length : Int) == n) from by rw [Bool.eq_iff_iff]; simp]
      exact q
    · exact ⟨_, rfl, x, .ty "tuple", .type T, .type "tuple", false, rfl, .ty _, ty, kit_ty e, false, rfl, iteF q⟩
theorem ok_isVer {f : Addr} {fd : FuncData} {k : Nat} (F : Fun K "is_version" "is_version" sIsVer f fd) (ma : mg "all" = none) (DT : Def P w K mg base "is_tuple_of" CX0 k ["value", "many"] (spTupOf K)) (DN : Def P w K mg base "is_number" CX0 k ["value"] (spIsNum K)) : FnOk P w K mg base CX0 (k + 1) f fd ["value"] (spIsVer K) := by
  refine F.ok scIsVer (fun vs H Q E h => ?_) (fun cdv A outer s H vs Q E hr h => ?_)
  · obtain ⟨x, rfl, _⟩ := h
    rfl
  · obtain ⟨x, rfl, h⟩ := h
    refine ⟨_, pss_one (ps_ret (pe_and (pe_d DT hr (pa_cons (pv 0) (pa_cons pe_int pa_nil)))
      (pe_one (pe_callB (cr_all rfl) (by rfl) ma (by decide +kernel) (pa_cons (pe_lc (own := [("number", 1)]) (g := gName 1) (tt := tYes) rfl scIsVer.nd (pi_tup (pv 0)) (blkOk_by (N := ["value", "number"]) (sc := defScope sIsVer) (by decide +kernel))
        (fun _ _ _ _ _ => pg_name (i := 1) scIsVer.nd rfl (Or.inl rfl)) (fun _ _ _ _ _ => pts_nil) (fun _ _ _ _ _ => pe_and (pe_d DN hr (pa_cons (pv 1) pa_nil)) (pe_one (pe_cmpR op_ge (pv 1) pe_int (nomark _))))) pa_nil))))), ?_⟩
    rcases h with ⟨a, xs, rfl, hx, hf, q⟩ | ⟨T, ty, e, q⟩
    · refine ⟨_, rfl, .ref a, 3, rfl, .inl ⟨a, xs, rfl, hx, _, rfl, ?_⟩⟩
      refine ite2 (fun e => ?_) (fun e => ?_)
      · have e3 : xs.length = 3 := by
          have e' : (xs.length : Int) = 3 := of_decide_eq_true e
          omega
        refine ⟨_, rfl, a, rfl, ⟨_, hx⟩, fun D hD => ?_⟩
        refine lc_tup (K := K) (a := a) (xs := xs) (fun i H' => Same H H' ∧ H' D = some (.lst ((xs.take i).map fun v => V.bl (numV v)))) ⟨same_upd hD, upd_same⟩ (fun i H' _ R => Same.sqT R.1 hx) ?_ ?_
        · rintro i y H' hi ⟨s1, h1⟩
          refine ⟨rfl, yesI ?_⟩
          obtain ⟨T, hy⟩ := hf y (List.mem_of_getElem? hi) e3
          have hil := (List.getElem?_eq_some_iff.mp hi).1
          have fin : ∃ acc, H' D = some (.lst acc) ∧ acc.length < sizeLine ∧ Same H (upd H' D (.lst (acc ++ [V.bl (numV y)]))) ∧ (upd H' D (.lst (acc ++ [V.bl (numV y)]))) D = some (.lst ((xs.take (i + 1)).map fun v => V.bl (numV v))) := by
            refine ⟨_, h1, ?_, ?_, ?_⟩
            · rw [List.length_map, List.length_take]
              exact Nat.lt_of_le_of_lt (Nat.min_le_left _ _) (small1000 (by omega))
            · exact fun b o z => by rw [upd_ne (ne_of_none z hD)]; exact s1 _ _ z
            · rw [upd_same, take_snoc hi, List.map_append]
              rfl
          cases hy with
          | non => exact ⟨_, rfl, .non, "NoneType", false, false, rfl, Flat.ty .non, by decide +kernel, by decide +kernel, _, rfl, iteF fin⟩
          | bl b => exact ⟨_, rfl, .bl b, "bool", true, true, rfl, Flat.ty (.bl b), by decide +kernel, by decide +kernel, _, rfl, iteF fin⟩
          | int i => exact ⟨_, rfl, .int i, "int", true, false, rfl, Flat.ty (.int i), by decide +kernel, by decide +kernel, _, rfl, iteT ⟨_, rfl, i, 0, rfl, rfl, fin⟩⟩
          | str z => exact ⟨_, rfl, .str z, "str", false, false, rfl, Flat.ty (.str z), by decide +kernel, by decide +kernel, _, rfl, iteF fin⟩
        · rintro H' ⟨s1, h1⟩
          rw [List.take_length] at h1
          refine ⟨D, xs.map numV, rfl, SqL.of (by rw [h1, List.map_map]; rfl), ?_⟩
          have := q H' s1
          rw [e3] at this
          simpa [List.all_map] using this
      · have e3 : ¬ xs.length = 3 := fun z => e (decide_eq_true (by omega))
        have := q H (Same.refl H)
        rw [decide_eq_false e3] at this
        exact this
    · exact ⟨_, rfl, x, 3, rfl, .inr ⟨T, ty, e, _, rfl, iteF q⟩⟩
end
end Kw
set_option maxHeartbeats 4000000
/-! own errors whose __init__ is: super().__init__(f'.. {x!r}'); self.x = x -/
namespace Ks
open PySem PySem.W PySem.Calls PyProof.Rows PySem.HandSPX
abbrev sBR : Stmt := L2.inClass (Kw.top 4) 0
abbrev iP : Arguments := L2.defArgs sBR
abbrev iBody : List Stmt := L2.defBody sBR
abbrev iScope : Scope := L2.defScope sBR
/-- what the written part says of such a class, at C; its __init__ at fI, the cell of __class__ at cc, the code at cd -/
structure SupTxt (prog : Program) (K : Frag) (mg : Str → Option Value) (C fI cc cd : Addr) (qual : Str) : Prop where
  cls : ∃ nm q N bs bm sn sub ab col dd k0 k1 k2 k3 k5, K.lookup C = some (excClassObj nm q C N bs bm true sn sub ab col dd k0 k1 k2 k3 k5 "ValueError.__new__") ∧ refsVE bm = true
  sa : findIn K (.ref C) "__setattr__" = some (some (.builtin "object.__setattr__"))
  noA : findIn K (.ref C) "at" = some none
  iC : findIn K (.ref C) "__init__" = some (some (.ref fI))
  tI : typeIn K (.ref fI) = some (.type "function")
  subV : subIn K (.ref C) (.type "ValueError") = some true
  subC : mroIn K C (.ref C) = some true
  opq : nsIn K cStatics "thirdparty.any" = some none
  sup : ks_superIn K C C "__init__" = some (some (.builtin "ValueError.__init__"))
  fn : ∃ (oc : Value) (od : Option Addr) (doc pm : Value) (an : Option Addr) (ct : Value) (osl : Array (Option Value)),
    K.lookup fI = some ⟨oc, od, .func (ksFn "__init__" qual iP iBody iScope .none .none doc pm an (.ref cd) ct cc), osl⟩ ∧ codeIn K (.ref cd) qual = true
  code : ∃ ccl cdd vs ccs file tf, K.lookup cd = some ⟨ccl, cdd, .fields vs, ccs⟩ ∧ vs[2]? = some (.str file tf) ∧ ((prog.main.file : Str) == file) = true
  cell : ∃ cl cld csl, K.lookup cc = some ⟨cl, cld, .cell (some (.ref C)), csl⟩
  msup : mg "super" = none
  top : (prog.main.scope.names.lookup ("super" : Str)).isSome = false
/-- values whose repr is short -/
def Shown (v : Value) : Prop := v = .none ∨ ∃ i t, v = .int i t ∧ i.natAbs.log2 < 1920
/-- what __init__ leaves of a fresh exception at x -/
structure InitEnd (h h' : Heap) (x C dx t1 : Addr) (v : Value) : Prop where
  keep : ∀ b o, b ≠ x → h.get? b = some o → h'.get? b = some o
  obj : h'.get? x = some { cls := .ref C, dict := some dx, data := .fields #[.ref t1, .none, .none, .none, .bool false, .none] }
  dbig : h.objs.size ≤ dx
  dne : dx ≠ x
  ns : h'.Ns1 dx (fun y => if y = "at" then some v else none)
section
variable {prog : Program} {w : World} {A : Around} {E : Value → Shared → Prop} {h : Heap} {g : Array GenState} {d : Drawn} {t : Nat} {os : OsState}
variable {nm q : Str} {C N : Addr} {bs bm : List Value} {hdct : Bool} {sn : List Str} {sub : List Value} {ab : Bool} {col : Option Bool} {dd : Option Addr} {k0 k1 k2 k3 k5 : Option Value}
theorem mw_call {u x t0 : Addr} {rest : List Value} {Q : Value → Shared → Prop} (hC : h.get? C = some (excClassObj nm q C N bs bm hdct sn sub ab col dd k0 k1 k2 k3 k5 "ValueError.__new__")) (he : h.get? x = some (excO C t0)) (hu : h.get? u = some (kxs_mw "ValueError.__init__" x)) (hz : rest.length ≤ sizeLine)
    (fin : ∀ h', (∀ b o, b ≠ x → h.get? b = some o → h'.get? b = some o) → h'.get? x = some (excO C h.objs.size) → Q .none ⟨h', g, d, t, os⟩) : wpAny (model prog w) A (call (.ref u) rest) Q E ⟨h, g, d, t, os⟩ := by
  have FB := F.excBase_ValueError
  refine wpAny_call (codeAny_of_tree ?_)
  show wpAny (model prog w) A.in1 (callAny (.ref u) { pos := rest, kw := [] }) _ _ _
  unfold callAny
  refine wpAny_bind (wpAny_load hu ?_)
  have e1 : (Value.type "method-wrapper" == Value.type "method" || Value.type "method-wrapper" == Value.type "builtin_function_or_method" || Value.type "method-wrapper" == Value.type "method-wrapper") = true := by decide
  simp only [kxs_mw, e1, if_true]
  refine KFB.if_so (by decide) ?_
  refine wpAny_bind (check_bound_init FB.toExcCallFacts hC he rfl (wpAny_bind (wpAny_pure (wpAny_pure ?_))))
  refine ⟨plainId_quiet FB.init.plain _, codeAny_builtin FB.initEntry (exc_init_tree (cls := .ref C) (t0 := t0) (dv := none) (c2 := .none) (c3 := .none) (b4 := .bool false) he hz fun h' k e' _ => ?_)⟩
  exact fin h' k e'
end
section
variable {prog : Program} {w : World} {A : Around} {R : Result → Shared → Prop} {s : Shared} {K : Frag} {mg : Str → Option Value} {base : Heap} {C fI cc cd : Addr} {qual : Str}
theorem sup_init (T : SupTxt prog K mg C fI cc cd qual) {x t0 : Addr} {v : Value} (X : K.In s.heap) (M : L2.Mod K mg base) (kb : ∀ b o, base.get? b = some o → s.heap.get? b = some o) (hx : s.heap.get? x = some (excO C t0)) (hnx : ∀ t, K.lookup x ≠ some (excO C t))
    (hv : Shown v) (hroom : A.depth + 3 < recursionLimit) (hq : ∀ h' tk dx t1, InitEnd s.heap h' x C dx t1 v → R (.ok (.ret .none)) { s with heap := h', toks := tk }) :
    codeAny (model prog w) A (.call (.ref fI) ⟨[.ref x, v], []⟩) R s := by
  obtain ⟨oc, od, doc, pm, an, ct, osl, ho, hcd⟩ := T.fn
  obtain ⟨nm, qq, N, bs, bm, sn, sub, ab, col, dd, k0, k1, k2, k3, k5, hC, hbm⟩ := T.cls
  obtain ⟨ccl, cdd, vs, ccs, file, tf, hcode, hvs, hfile⟩ := T.code
  obtain ⟨cl, cld, csl, hcell⟩ := T.cell
  have hcl : clsIn K C = some { name := nm, bases := bs, mro := .ref C :: bm, ns := N, qualname := qq, hasDict := true, slotNames := sn, subclasses := sub, abstract := ab, collection := col, hasDel := false } := by unfold clsIn; rw [hC] <;> rfl
  have hlim : s.heap.NoLimit := M.nolimit.keeps kb
  refine ks_codeAny_call_defAt (fd := ksFn "__init__" qual iP iBody iScope .none .none doc pm an (.ref cd) ct cc) (body := iBody) (binds := [("self", .ref x), ("at", v)]) (by omega) (X _ _ ho) rfl hlim (codeRec_of X hcd) rfl
    (BindsTo.of_eq (by first | rfl | with_unfolding_all rfl)) (by show ∀ x ∈ iScope.names, x.2 ≠ .cell; decide) (by intro y hy; simp at hy; rcases hy with rfl | rfl <;> rfl) (fun h₁ hns hk₁ => ?_) rfl rfl rfl
  have X₁ : K.In h₁ := X.keeps hk₁
  have kb₁ : ∀ b o, base.get? b = some o → h₁.get? b = some o := fun b o e => hk₁ _ _ (kb b o e)
  have hx₁ := hk₁ _ _ hx
  have hC₁ := X₁ _ _ hC
  have hns1 : (fun y => [(PySem.Str.ofString "self", Value.ref x), (PySem.Str.ofString "at", v)].reverse.lookup y) "self" = some (.ref x) := by rfl
  obtain ⟨mb, hmb, hbb⟩ := M.blt
  have rest : ∀ (h' : Heap) (tk : Nat) (t1 : Addr), (∀ b o, b ≠ x → h₁.get? b = some o → h'.get? b = some o) → h'.get? x = some (excO C t1) →
      _root_.PySem.wpAt (model prog w) (A.deeper (ksEnv qual iScope s.heap.objs.size fI (.ref cd) cc)) (.func iBody (ksEnv qual iScope s.heap.objs.size fI (.ref cd) cc)) (execs iBody.tail (ksEnv qual iScope s.heap.objs.size fI (.ref cd) cc))
        (fun f s' => R (.ok (.ret (match f with | .ret v => v | _ => .none))) s')
        (fun e s' => wpAny (model prog w) (A.deeper (ksEnv qual iScope s.heap.objs.size fI (.ref cd) cc)) (leaving (ksEnv qual iScope s.heap.objs.size fI (.ref cd) cc) e) (fun _ s'' => R (.error e) s'') (fun e' s'' => R (.error e') s'') s') { s with heap := h', toks := tk } := fun h' tk t1 k e => by
    have hxL : s.heap.objs.size ≠ x := Nat.ne_of_gt (Heap.lt_size hx)
    have hns' : h'.Ns s.heap.objs.size (fun y => [(PySem.Str.ofString "self", Value.ref x), (PySem.Str.ofString "at", v)].reverse.lookup y) := hns.at fun o q => k _ o hxL q
    have X' : K.In h' := fun a o q => k a o (fun z => by
      subst z
      have e1 := X _ _ q
      rw [hx] at e1
      have e2 : o = excO C t0 := (Option.some.inj e1).symm
      exact absurd q (by rw [e2]; exact hnx t0)) (X₁ a o q)
    refine ks_wpAt_execs_cons (wpAt_of_wpAny (plainObj_wpAny_Assign_Attribute ?_))
    refine wpAny_Name (wpAny_loadName_local rfl rfl hns' (by rfl) (wpAny_Name (wpAny_loadName_local rfl rfl hns' (by rfl) ?_) rfl)) rfl
    refine set_plain X' (ox := excO C t1) (od := none) ⟨e, rfl, rfl, trivial⟩ T.sa ?_
    refine exc_osa X' e hcl (show refsVE (.ref C :: bm) = true from hbm) rfl T.noA (fun h₃ tk₃ dx k₃ dn dne hx₃ hn₃ => ?_)
    refine wpAt_of_wpAny (wpAny_execs_nil (hq h₃ tk₃ dx t1 ⟨fun b o hb q => k₃ b o hb (k b o hb (hk₁ b o q)), hx₃, ?_, dne, hn₃⟩))
    exact Nat.le_of_lt (Nat.lt_of_lt_of_le hns'.lt dn)
  refine ks_wpAt_execs_cons (ks_wpAt_Expr_any (ks_wpAt_MethodCall (pl := ?_) ?_))
  rotate_left
  · refine ks_wpAt_super_base (env := ksEnv qual iScope s.heap.objs.size fI (.ref cd) cc) rfl rfl rfl rfl (X₁ _ _ ho) rfl rfl rfl (X₁ _ _ hcode) rfl hvs hfile T.top ?_
    refine ks_loadName_global rfl rfl (loadGlobal_builtin (env := ksEnv qual iScope s.heap.objs.size fI (.ref cd) cc) (M.glob.keeps kb₁) T.msup (hmb.keeps kb₁) ((hbb "super" (by decide)).trans (by first | rfl | kernel_rfl)) ⟨rfl, ?_⟩)
    refine wpAny_loadName_free rfl rfl rfl ⟨_, X₁ _ _ hcell, rfl⟩ ?_
    refine wpAny_loadName_local rfl rfl hns (by rfl) ?_
    refine ks_wpAny_isType_cls hC₁ rfl ⟨rfl, ?_⟩
    refine ks_wpAny_call_super hC₁ rfl hx₁ rfl (fun c e => by cases e) (looks_mroIn X₁ T.subC) (fun h₂ hso hk₂ => ?_)
    have X₂ : K.In h₂ := X₁.keeps hk₂
    have hx₂ := hk₂ _ _ hx₁
    have I : InstAt h₂ x (excO C t0) C none := ⟨hx₂, rfl, rfl, trivial⟩
    have hI : Looks (model prog w) h₂ (isInstance (.ref x) (.type "ValueError")) true := I.type.andThen (looks_subIn X₂ T.subV)
    have hsup := T.sup
    unfold ks_superIn at hsup
    rw [hcl] at hsup
    refine kxs_getMethod kxs_ValueError hso (looks_opaque X₂ T.opq) (l₀ := .ref C :: bm) (fun A Q E s k q => wpAny_bind ((looks_clsIn X₂ hcl) A _ E s k (wpAny_pure q))) rfl X₂ hsup hI (ks_ne X₂ I hcl) rfl ?_
    have hu : (h₂.push (kxs_mw "ValueError.__init__" x)).get? h₂.objs.size = some (kxs_mw "ValueError.__init__" x) := Heap.get?_push_size _ rfl
    have hk₃ : ∀ b o, h₂.get? b = some o → (h₂.push (kxs_mw "ValueError.__init__" x)).get? b = some o := fun b o e => Heap.get?_push_of_some _ e
    have N1 : News h₂ x (h₂.push (kxs_mw "ValueError.__init__" x)) [(h₂.objs.size, kxs_mw "ValueError.__init__" x)] := fun p hp => by
      obtain rfl := List.mem_singleton.mp hp
      exact ⟨hu, Nat.ne_of_gt (Heap.lt_size hx₂), Heap.get?_none_of_le (Nat.le_refl _)⟩
    refine kxs_callWith1 N1 List.mem_cons_self ?_
    refine Calls.spliced_cons (wpAny_JoinedStr (pos := ⟨11, 25, 11, 48⟩) ?_)
    have hns₃ := (hns.keeps hk₂).keeps hk₃
    refine Calls.Constant_str ⟨_, _, rfl, by decide, ?_⟩
    refine wpAny_FormattedValue_repr (wpAny_Name (wpAny_loadName_local rfl rfl hns₃ (by rfl) ?_) rfl)
    have hC₃ := (X₂.keeps hk₃) _ _ hC
    have hx₃ := hk₃ _ _ hx₂
    rcases hv with rfl | ⟨i, ti, rfl, hi⟩
    · refine pyReprObj_none (wpAny_formatField_str ?_ ?_ (by decide))
      · refine ⟨_, _, rfl, by decide, by decide, Calls.spliced_nil ⟨hu, mw_call hC₃ hx₃ hu (by show 1 ≤ sizeLine; decide) fun h' k e' => ?_⟩⟩
        exact rest h' _ _ (fun b o hb q => k b o hb (hk₃ _ _ (hk₂ _ _ q))) e'
      · refine ⟨_, _, rfl, by decide, by decide, Calls.spliced_nil ⟨hu, mw_call hC₃ hx₃ hu (by show 1 ≤ sizeLine; decide) fun h' k e' => ?_⟩⟩
        exact rest h' _ _ (fun b o hb q => k b o hb (hk₃ _ _ (hk₂ _ _ q))) e'
    · have hz : (Str.ofString (toString i)).length ≤ sizeLine := int_text_fits hi
      have hz2 : ((Str.empty ++ Str.ofString "no stretches: ") ++ Str.ofString (toString i)).length ≤ sizeLine := by
        have h1 := int_text_len_1921 hi
        rw [Str.length_append, sizeLine_eq]
        have h2 : (Str.empty ++ Str.ofString "no stretches: ").length = 14 := by decide
        omega
      refine pyReprObj_int hi (wpAny_formatField_str ?_ ?_ hz)
      · refine ⟨_, _, rfl, hz2, hz2, Calls.spliced_nil ⟨hu, mw_call hC₃ hx₃ hu (by show 1 ≤ sizeLine; decide) fun h' k e' => ?_⟩⟩
        exact rest h' _ _ (fun b o hb q => k b o hb (hk₃ _ _ (hk₂ _ _ q))) e'
      · refine ⟨_, _, rfl, hz2, hz2, Calls.spliced_nil ⟨hu, mw_call hC₃ hx₃ hu (by show 1 ≤ sizeLine; decide) fun h' k e' => ?_⟩⟩
        exact rest h' _ _ (fun b o hb q => k b o hb (hk₃ _ _ (hk₂ _ _ q))) e'
/-- a made error -/
structure OwnMade (h h' : Heap) (e C d : Addr) (v : Value) : Prop where
  keep : ∀ b o, h.get? b = some o → h'.get? b = some o
  new : h.objs.size ≤ e
  obj : ∃ oe vs, h'.get? e = some oe ∧ oe.cls = .ref C ∧ oe.dict = some d ∧ oe.data = .fields vs ∧ vs[1]? = some .none
  dbig : h.objs.size ≤ d
  dne : d ≠ e
  ns : h'.Ns1 d (fun y => if y = "at" then some v else none)
theorem sup_made (T : SupTxt prog K mg C fI cc cd qual) {v : Value} (X : K.In s.heap) (M : L2.Mod K mg base) (kb : ∀ b o, base.get? b = some o → s.heap.get? b = some o) (hv : Shown v) (hroom : A.depth + 4 < recursionLimit)
    (hq : ∀ h' tk e d, OwnMade s.heap h' e C d v → R (.ok (.ret (.ref e))) { s with heap := h', toks := tk }) : codeAny (model prog w) A (.call (.ref C) ⟨[v], []⟩) R s := by
  obtain ⟨nm, qq, N, bs, bm, sn, sub, ab, col, dd, k0, k1, k2, k3, k5, hC, hbm⟩ := T.cls
  obtain ⟨hp, g, dr, tk, os⟩ := s
  have k : ∀ b o, hp.get? b = some o → ((hp.push (kdv_tup [v])).push (excO C hp.objs.size)).get? b = some o := fun b o e => Heap.get?_push_of_some _ (Heap.get?_push_of_some _ e)
  have hget : ((hp.push (kdv_tup [v])).push (excO C hp.objs.size)).get? (hp.objs.size + 1) = some (excO C hp.objs.size) := by heap_get
  have hnx : ∀ t, K.lookup (hp.objs.size + 1) ≠ some (excO C t) := fun t e => by
    have z : hp.get? (hp.objs.size + 1) = some (excO C t) := X _ _ e
    exact absurd (Nat.lt_of_succ_lt (Heap.lt_size z)) (Nat.lt_irrefl _)
  refine call_own F.excBase_ValueError (fun X => refsVE_contains X bm hbm) (X _ _ hC) (looks_findIn X T.iC) (fun self => bind_fn X self T.tI) (by show 1 ≤ sizeLine; decide) ?_
  refine sup_init (s := ⟨(hp.push (kdv_tup [v])).push (excO C hp.objs.size), g, dr, tk, os⟩) T (X.keeps k) M (fun b o e => k b o (kb b o e)) hget hnx hv ?_ fun h' tk' dx t1 ⟨k', hx, dn, dne, hns⟩ => ?_
  · show A.depth + 1 + 3 < recursionLimit
    omega
  · have old : ∀ b o, hp.get? b = some o → h'.get? b = some o := fun b o e => k' b o (Nat.ne_of_lt (Nat.lt_succ_of_lt (Heap.lt_size e))) (k b o e)
    have z : hp.objs.size + 1 + 1 ≤ dx := by
      first
        | exact dn
        | (simpa only [Heap.size_push] using dn)
        | (have q := dn; rw [Heap.size_push, Heap.size_push] at q; exact q)
    exact ⟨rfl, hq h' tk' (hp.objs.size + 1) dx ⟨old, Nat.le_succ _, ⟨_, _, hx, rfl, rfl, rfl, rfl⟩, Nat.le_trans (Nat.le_trans (Nat.le_succ _) (Nat.le_succ _)) z, dne, hns⟩⟩
end
end Ks
set_option maxHeartbeats 4000000
namespace Kw
open PySem PySem.Spec PyProof.Rows L2
theorem relO_at {v : V} {v' : Value} (r : RelV v v') (f : Str) : RelO (List.lookup f [(("at" : Str), v)]) (if f = "at" then some v' else none) := by
  by_cases hw : f = "at"
  · subst hw
    rw [if_pos rfl, show List.lookup ("at" : Str) [(("at" : Str), v)] = some v by simp [List.lookup]]
    exact r
  · rw [if_neg hw]
    have qw : (f == ("at" : Str)) = false := by simpa using hw
    rw [show List.lookup f [(("at" : Str), v)] = none by simp [List.lookup, qw]]
    trivial
/-- None, or an int of few digits -/
def ShownV (v : V) : Prop := v = .non ∨ ∃ i, v = .int i ∧ i.natAbs.log2 < 1920
theorem ShownV.val {v : V} {u : Value} (h : ShownV v) (r : RelV v u) : Ks.Shown u := by
  rcases h with rfl | ⟨i, rfl, hi⟩
  · exact .inl r
  · obtain ⟨t, rfl⟩ := r
    exact .inr ⟨i, t, rfl, hi⟩
section
variable {X : Cx} {C fI cc cd : Addr} {qual : Str}
/-- BadX(e) made -/
def tMkSup (C : Addr) (ta : TA) : L2.St → Hp → XK → Prop := fun σ H Q => ta σ H fun vs H1 => ∃ v, vs = [v] ∧ ShownV v ∧ ∀ d, H1 d = none → Q (.ref C) (some d) (upd H1 d (.xd [(("at" : Str), v)]))
theorem pmk_sup {x : Str} {a : Expr} {ta : TA} {p pos : Pos} {k : Nat} (T : Ks.SupTxt X.prog X.K X.mg C fI cc cd qual) (gC : X.mg x = some (.ref C)) (kC : PySem.W.keepIn X.K (.ref C) = true) (rC : Raises X (.ref C)) (hr : Room k X.A) (ha : PA X [a] ta) (hg : Gl X x := by rfl)
    (hdb : (x == ("__debug__" : Str)) = false := by decide) (he : starEach (a :: []) X.env = (false, eval a X.env) :: starEach [] X.env := by rfl) (hpl : (backTo pos (starEach [] X.env)).any (·.1) = false := by rfl) :
    PMk X (.Call (.Name x p) [a] [] pos) (tMkSup C ta) := by
  intro pins s σ H Q I h
  refine wpAny_Call_Name_kw (ld_glob I hg gC ?_ hdb)
  refine PySem.W.callWith_K (h₀ := X.base) I.ok.mod.kin kC (thn (ha.run pos pins s σ H _ I h) fun us s1 hh => ?_) he hpl
  obtain ⟨vs, H1, I1, r1, v, ev, sv, q1⟩ := hh
  subst ev
  refine ⟨I1.kIn, ?_⟩
  obtain ⟨u, rfl, rv⟩ := vals1 r1
  show wpAny _ _ (call (.ref C) [u]) _ _ _
  have kb := I1.bk
  have kin := I1.kIn
  obtain ⟨hp, g, dr, tk, os⟩ := s1
  refine wpAny_call (Ks.sup_made T kin I1.mod kb (sv.val rv) (by have := hr.dp; omega) fun h' tk' e d M => ?_)
  show MkP X pins σ Q (.ref e) ⟨h', g, dr, tk', os⟩
  obtain ⟨oe, fv, hoe, hc, hd, hdat, h1⟩ := M.obj
  obtain ⟨G', g1, g2⟩ := restrict h' fun b => decide (b ≠ e)
  have gk : ∀ b, b ≠ e → G'.get? b = h'.get? b := fun b hb => g1 b (decide_eq_true hb)
  have ge : G'.get? e = none := g2 e (by simp)
  have old : ∀ b o, hp.get? b = some o → G'.get? b = some o := fun b o q => (gk b (Nat.ne_of_lt (Nat.lt_of_lt_of_le (Heap.lt_size q) M.new))).trans (M.keep b o q)
  have ob : ObjOk X.prog X.w (upd H1 d (.xd [(("at" : Str), v)])) G' d (.xd [(("at" : Str), v)]) := ⟨_, M.ns.at (fun o q => (gk d M.dne).trans q), fun f => relO_at rv f⟩
  have J : Inv X pins σ (upd H1 d (.xd [(("at" : Str), v)])) ⟨G', g, dr, tk', os⟩ := I1.laid (t' := tk') old M.dbig ob
  refine ⟨e, oe, fv, ⟨G', g, dr, tk', os⟩, _, .ref C, some d, rfl, J, fun b o q => ?_, ge, hoe, ⟨hc, hd⟩, hdat, h1, ?_, rfl, I1.bare, rC, q1 d (I1.hok.fresh M.dbig)⟩
  · by_cases hb : b = e
    · have q' : G'.get? b = some o := q
      rw [hb, ge] at q'; cases q'
    · exact (gk b hb).symm.trans q
  · rw [upd_ne (Ne.symm M.dne)]
    exact I1.hok.fresh M.new
/-- raise BadX(e) -/
def tRaiseSup (C : Addr) (W : WX) (ta : TA) : TS := fun _ σ H => tMkSup C ta σ H fun cls d H' => W cls d σ H'
theorem ps_raiseSup {x : Str} {a : Expr} {ta : TA} {W : WX} {p pos pos2 : Pos} {k : Nat} (hc : X.calm = true) (T : Ks.SupTxt X.prog X.K X.mg C fI cc cd qual) (gC : X.mg x = some (.ref C)) (kC : PySem.W.keepIn X.K (.ref C) = true) (rC : Raises X (.ref C)) (hr : Room k X.A) (tk : Takes X W) (ha : PA X [a] ta) (hg : Gl X x := by rfl)
    (hdb : (x == ("__debug__" : Str)) = false := by decide) (he : starEach (a :: []) X.env = (false, eval a X.env) :: starEach [] X.env := by rfl) (hpl : (backTo pos (starEach [] X.env)).any (·.1) = false := by rfl) :
    PS X (.Raise (some (.Call (.Name x p) [a] [] pos)) none pos2) (tRaiseSup C W ta) := ps_raise hc tk (pmk_sup T gC kC rC hr ha hg hdb he hpl)
end
end Kw
set_option maxHeartbeats 4000000
namespace Kw
open PySem PySem.Spec PyProof.Rows L2
/-! ### a caught error kept as a value -/
/-- at a: an error of the class cls, its own dict d -/
def exA (cls : Value) (d : Option Addr) (a : Addr) : HO := .ext fun h => ∃ (oe : Obj) (vs : Array Value), h.get? a = some oe ∧ Zc cls d oe ∧ oe.data = .fields vs
theorem exA_ok {P : Program} {w : World} {H : Hp} {h : Heap} {a : Addr} {cls : Value} {d : Option Addr} {oe : Obj} {vs : Array Value} (e : h.get? a = some oe) (z : Zc cls d oe) (dd : oe.data = .fields vs) : ObjOk P w H h a (exA cls d a) :=
  ⟨⟨oe, vs, e, z, dd⟩, ⟨oe, e⟩, fun h1 h2 ⟨o1, v1, e1, z1, d1⟩ k => ⟨o1, v1, k _ e1, z1, d1⟩⟩
theorem exA_ne {cls : Value} {d : Option Addr} {a : Addr} {o : HO} (h : ∀ φ, o ≠ .ext φ) : exA cls d a ≠ o := fun z => h _ (by rw [← z]; rfl)
section
variable {X : Cx} {pins : List (Addr × Obj)} {σ : L2.St} {H : Hp} {s : Shared}
/-- an object that came while this def ran is tracked from here on -/
theorem track {a : Addr} {o : HO} {oe : Obj} {vs : Array Value} (I : Inv X pins σ H s) (he : s.heap.get? a = some oe) (hd : oe.data = .fields vs) (hn : H a = none) (h0 : X.s_0.heap.get? a = none) (hL : a ≠ X.env.locals) (hp : ∀ p ∈ X.pn ++ pins, p.1 ≠ a)
    (new : ObjOk X.prog X.w (upd H a o) s.heap a o) : Inv X pins σ (upd H a o) s where
  ok := I.ok
  os := I.os
  bare := I.bare
  base := {
    keep := fun b u q n hb hx => I.base.keep b u q n hb hx
    slot := fun b u q n hb hx => I.base.slot b u q n hb hx
    free := fun b u q n hx => by
      rw [upd_ne (fun z => by rw [z, h0] at q; cases q)]
      exact I.base.free b u q n hx
    there := fun b u q hx => I.base.there b u q hx
    tups := fun b xs q => by
      have q' := I.base.tups b xs q
      rw [upd_ne (ne_of_none q' hn)]
      exact q'
    frzs := fun b u xs q => by
      have q' := I.base.frzs b u xs q
      rw [upd_ne (ne_of_none q' hn)]
      exact q'
    tbls := fun b ps q => by
      obtain ⟨m, q'⟩ := I.base.tbls b ps q
      exact ⟨m, by rw [upd_ne (ne_of_none q' hn)]; exact q'⟩ }
  loc := I.loc
  cell := I.cell
  free := by
    rw [upd_ne hL.symm]
    exact I.free
  freeC := fun x c e => by
    obtain ⟨v, oc, ho, hdc⟩ := I.cell x c e
    rw [upd_ne (fun z => by rw [z, he] at ho; cases ho; rw [hd] at hdc; cases hdc)]
    exact I.freeC x c e
  pin := fun p hm => by
    obtain ⟨p1, p2, p3⟩ := I.pin p hm
    exact ⟨p1, by rw [upd_ne (hp p hm)]; exact p2, p3⟩
  hok := I.hok.laidN (fun _ _ q => q) hn new
  len := I.len
end
/-- except x as n: y = n; slots i of n, j of y -/
def wKeep (K : PySem.W.Frag) (c : Value) (i j : Nat) (Wout : WX) (D : Ends) : WX := fun cls d σ H =>
  ∃ b, PySem.W.exmOne K cls c = some b ∧ (b = true → ∀ a, H a = none → D.nx (((σ.set i (some (.ref a))).set j (some (.ref a))).set i none) (upd H a (exA cls d a))) ∧ (b = false → Wout cls d σ H)
section
variable {X : Cx} {x n y : Str} {c : Value} {i j : Nat} {body : List Stmt} {np n2 py pa pos pos' : Pos} {tb : WX → TS} {Wout : WX}
theorem ps_try_keep (hex : X.ex = []) (hstk : X.stack = X.env :: X.outer) (hfm : X.env.frame = some X.env.locals) (hN : X.N.Nodup) (hi : X.N[i]? = some n) (hj : X.N[j]? = some y) (hln : X.env.kindOf n = some .local) (hly : X.env.scope.names.lookup y = some .local) (hij : i < X.N.length) (hc : Names X x c) (tk : Takes X Wout)
    (hb : ∀ (W : WX) (pn : List (Addr × Obj)) (xe : Value → Shared → Prop), Takes (X.tr pn xe) W → PassesOwn (model X.prog X.w) X.A X.env xe → PSs (X.tr pn xe) body (tb W))
    (hsw : ∀ Y : Cx, Y.env = X.env → swapsWith (.Name n n2) (some (.Name y py)) pa.line Y.env = pure false) (hnd : (n == ("__debug__" : Str)) = false := by decide) (hnc : (n == ("__classdict__" : Str)) = false := by decide) :
    PS X (.Try body [.ExceptHandler (some (.Name x np)) (some n) [.Assign [.Name y py] (.Name n n2) pa] pos'] [] [] pos) (fun D σ H => tb (wKeep X.K c i j Wout D) D σ H) := by
  refine ⟨fun pins s σ H D I hyp => ?_⟩
  have okX := I.ok
  have frs' : X.A.frames = some (X.env :: X.outer) := okX.frames.trans (by rw [hstk])
  refine wpAny_Try_except ?_
  let hs1 : List ExceptHandler := [.ExceptHandler (some (.Name x np)) (some n) [.Assign [.Name y py] (.Name n n2) pa] pos']
  refine wpAny_mono ((hb (wKeep X.K c i j Wout D) (X.pn ++ pins) (fun e s₁ => wpAny (model X.prog X.w) X.A (noteFrame e X.env) (fun _ s₂ => wpAny (model X.prog X.w) X.A (setFlight e none)
    (fun _ s₃ => wpAny (model X.prog X.w) X.A (handleBy e X.env hs1) (SP X pins D) X.xe s₃) X.xe s₂) X.xe s₁) (fun u s' air => ?_) PassesOwn.looking).run [] s σ H D (I.toTry _) hyp) (fun fl s1 hsp => ?_) (fun e s1 he => he)
  · obtain ⟨a, B, sI, pins', σ', H', cls, d, rfl, J', nb, up, sky, na, os, ag, b, hb1, hyes, hno⟩ := air
    have J : Inv X pins σ' H' sI := J'.ofTry okX
    have sky2 : Sky B (X.env :: X.outer) a (Zc cls d) X.env.locals s'.heap := hstk ▸ sky
    show wpAny _ X.A (noteFrame (.ref a) X.env) _ _ _
    refine Sky.land Zc.steady frs' hfm sky2 fun h3 fl3 up3 => ?_
    have J3 : Inv X pins σ' H' { s' with heap := h3 } := J.landed nb fl3.1 (up.trans up3) os ag
    obtain ⟨oe3, vs3, he3, hz3, hd3⟩ := fl3.there
    have outF : ∀ {h : Heap} {o : Obj} {vs : Array Value}, h.FunFrames B (X.env :: X.outer) → h.get? a = some o → o.data = .fields vs → a ∉ L2.frs (X.env :: X.outer) := fun {h o vs} ff e dd hm => by
      obtain ⟨_, o', e', hnf⟩ := ff.mem hm
      cases e.symm.trans e'
      exact hnf _ dd
    have nfr := outF fl3.2.2.1 he3 hd3
    have nL : a ≠ X.env.locals := fun z => nfr (List.mem_filterMap.mpr ⟨X.env, .head _, hfm.trans (by rw [z])⟩)
    have nF : a ∉ X.fs := fun hm => by
      obtain ⟨e, he, q⟩ := List.mem_filterMap.mp hm
      exact nfr (List.mem_filterMap.mpr ⟨e, .tail _ he, q⟩)
    have sIn : sI.heap.get? a = none := by
      cases z : sI.heap.get? a with
      | none => rfl
      | some o => exact absurd (nb a o z (by rw [hstk]; exact nfr)) (by rw [fl3.2.1]; intro q; cases q)
    have s0n : X.s_0.heap.get? a = none := by
      cases z : X.s_0.heap.get? a with
      | none => rfl
      | some o =>
        obtain ⟨o', q⟩ := J.base.there a o z (by rw [hex]; simp)
        rw [sIn] at q
        cases q
    have pinn : ∀ p ∈ X.pn ++ pins, p.1 ≠ a := fun p hp z => by
      have q := (J.pin p hp).1
      rw [z, sIn] at q
      cases q
    have S3 := J3.suite he3 hd3 na nL nF
    refine wpAny_handleBy_cons (codeAny_handlers_test ?_) (fun q => by cases q)
    have LT : PySem.W.Looks (model X.prog X.w) h3 (typeOf (.ref a)) cls := fun A Q E s k q => wpAny_typeOf_ref (k _ _ he3) (hz3.1.symm ▸ q)
    have LM := PySem.W.exm_one (M := model X.prog X.w) (J3.kIn) LT hb1
    have test : ∀ {Q : Value → Shared → Prop} {E : Value → Shared → Prop}, Q c { s' with heap := h3 } → wpAny (model X.prog X.w) (X.A.mark (some (.ref a))) (eval (.Name x np) X.env) Q E { s' with heap := h3 } := by
      intro Q E q
      rcases hc with ⟨hg, hdbg, hm | ⟨hm, hv, hnn⟩⟩
      · exact ld_glob (X := X.suite a ((a, oe3) :: (X.pn ++ pins))) S3 hg hm q hdbg
      · exact ld_blt (X := X.suite a ((a, oe3) :: (X.pn ++ pins))) S3 hg hm hv q hnn hdbg
    refine test (LM.here ?_)
    cases b with
    | true =>
      refine codeAny_handlers_suite_as (HandSPX.lands_againZ fl3 fun h4 fl4 up4 => ?_)
      have J4 : Inv X pins σ' H' { s' with heap := h4 } := J.landed nb fl4.1 ((up.trans up3).trans up4) os ag
      obtain ⟨oe4, vs4, he4, hz4, hd4⟩ := fl4.there
      have S4 := J4.suite he4 hd4 na nL nF
      refine store_ok (X := X.suite a ((a, oe4) :: (X.pn ++ pins))) (v := .ref a) S4 hN hi (.inl hln) rfl (fun s5 S5 => ?_) (.inr hln)
      have bodyP : PSs (X.suite a ((a, oe4) :: (X.pn ++ pins))) [.Assign [.Name y py] (.Name n n2) pa] (tAsg (tVar i) (gName j)) :=
        pss_one (ps_set (i := j) hN hj (.inl hly) (pe_var (i := i) hi (.inl hln) hnd hnc) (hsw _ rfl) (.inr hly))
      have ilen : i < σ'.length := by rw [J.len]; exact hij
      refine wpAny_mono (bodyP.run [] s5 _ H' { nx := fun σ6 H6 => D.nx (σ6.set i none) (upd H6 a (exA cls d a)), rt := fun _ _ => False, bk := fun _ _ => False, ct := fun _ _ => False } S5 ⟨.ref a, by rw [List.getElem?_set_self ilen], hyes rfl a na⟩) (fun f s6 hsp => ?_) (fun _ _ z => False.elim z)
      cases f with
      | next =>
        obtain ⟨σ6, H6, S6, q6⟩ := hsp
        have pa6 := S6.pin (a, oe4) (by simp)
        have J6 := track (o := exA cls d a) (S6.unsuite okX) pa6.1 hd4 pa6.2.1 s0n nL pinn (exA_ok pa6.1 hz4 hd4)
        exact gone_ok J6 hN hi hln fun s7 J7 => ⟨_, _, J7, q6⟩
      | brk => obtain ⟨σ6, H6, S6, q6⟩ := hsp; exact q6.elim
      | cont => obtain ⟨σ6, H6, S6, q6⟩ := hsp; exact q6.elim
      | ret u => obtain ⟨v6, σ6, H6, S6, r6, q6⟩ := hsp; exact q6.elim
    | false =>
      show wpAny _ X.A (handleBy (.ref a) X.env []) _ _ _
      refine wpAny_handleBy_nil ?_
      obtain ⟨k1, k2, k3, oe, vs, T, oT, ts', he, hz, hd, h1, hr⟩ := id fl3
      unfold PySem.passOn
      refine wpAny_bind (wpAny_field he hd h1 ?_)
      rw [if_neg (show ¬ ((Value.ref T == Value.none) = true) by simp)]
      have fin : wpAny (model X.prog X.w) X.A (setFlight (.ref a) X.env.frame) (fun _ s4 => wpAny (model X.prog X.w) X.A (throw (.ref a) : Sem Flow) (SP X pins D) X.xe s4) X.xe { s' with heap := h3 } := by
        rw [hfm]
        exact HandSPX.setFlight_upZ fl3 fun h4 hh4 up4 => wpAny_throw (tk _ _ ⟨a, B, sI, pins, σ', H', cls, d, rfl, J, nb, (up.trans up3).trans up4, .inr (.inr (by rw [hstk]; exact hh4)), na, os, ag, hno rfl⟩)
      first
        | exact wpAny_bind fin
        | exact wpAny_bind (wpAny_pure (wpAny_bind fin))
  · cases fl with
    | next => exact let ⟨τ, G, K1, z⟩ := hsp; wpAny_execs_nil ⟨τ, G, K1.ofTry okX, z⟩
    | brk => exact let ⟨τ, G, K1, z⟩ := hsp; ⟨τ, G, K1.ofTry okX, z⟩
    | cont => exact let ⟨τ, G, K1, z⟩ := hsp; ⟨τ, G, K1.ofTry okX, z⟩
    | ret u => exact let ⟨v, τ, G, K1, rr, z⟩ := hsp; ⟨v, τ, G, K1.ofTry okX, rr, z⟩
end
end Kw
set_option maxHeartbeats 4000000
namespace Kw
open PySem PySem.Spec PyProof.Rows L2
/-- a kept error of the class at C; v: its one field, if it has a dict -/
def IsExc (H : Hp) (x : V) (C : Addr) (v : Option V) : Prop := ∃ (a : Addr) (d : Option Addr), x = .ref a ∧ H a = some (exA (.ref C) d a) ∧
  match v with
  | none => d = none
  | some v => ∃ dd, d = some dd ∧ H dd = some (.xd [(("at" : Str), v)])
section
variable {X : Cx} {pins : List (Addr × Obj)} {σ : L2.St} {H : Hp} {s : Shared}
theorem exc_inst {a C : Addr} {d : Option Addr} (I : Inv X pins σ H s) (ha : H a = some (exA (.ref C) d a)) (hd : ∀ dd, d = some dd → ∃ fs, H dd = some (.xd fs)) : ∃ ox od, PySem.W.InstAt s.heap a ox C od ∧ ∀ dd, d = some dd → ∃ o, od = some o ∧ s.heap.get? dd = some o := by
  obtain ⟨⟨oe, vs, he, hz, hdt⟩, _⟩ := I.hok a _ ha
  have nc : PySem.W.notCls oe = true := by unfold PySem.W.notCls; rw [hdt] <;> rfl
  cases d with
  | none => exact ⟨oe, none, ⟨he, hz.1, nc, by rw [hz.2]; trivial⟩, fun dd e => by cases e⟩
  | some dd =>
    obtain ⟨fs, hdd⟩ := hd dd rfl
    obtain ⟨mA, hns, hr⟩ : ObjOk X.prog X.w H s.heap dd (.xd fs) := I.hok dd _ hdd
    obtain ⟨o, es, ep, ho, _⟩ := id hns
    exact ⟨oe, some o, ⟨he, hz.1, nc, by rw [hz.2]; exact ho⟩, fun d' e => by cases e; exact ⟨o, rfl, ho⟩⟩
/-- isinstance(e, c) of a kept error -/
theorem call_isX {C : Addr} (T : ExcC X.K C) : CallR X (.builtin "isinstance") (fun xs H Q => ∃ (x c : V) (v : Option V) (cv : Value) (b : Bool), xs = [x, c] ∧ IsExc H x C v ∧ ClsV c cv ∧ PySem.W.kitOne X.K (.ref C) cv = some b ∧ Q (.bl b) H) := by
  intro pins s σ H xs us Q I r h
  obtain ⟨x, c, v, cv, b, rfl, ⟨a, d, rfl, ha, hv⟩, hc, e, q⟩ := h
  obtain ⟨u1, u2, rfl, r1, r2⟩ := vals2 r
  cases (show u1 = Value.ref a from r1)
  have ec := hc.eq r2
  subst ec
  obtain ⟨ox, od, J, _⟩ := exc_inst I ha fun dd ed => by
    cases v with
    | none => rw [show d = none from hv] at ed; cases ed
    | some v =>
      obtain ⟨d2, e2, h2⟩ := hv
      rw [e2] at ed
      cases ed
      exact ⟨_, h2⟩
  have hcl : (PySem.W.clsIn X.K C).isSome = true := by
    obtain ⟨cd, hcd, _⟩ := PySem.W.any_some T.hd
    rw [hcd]
    rfl
  exact PySem.W.kia_one (PySem.W.kitx_exc hcl T.hg T.hk T.hs T.ha T.hn T.ht T.hm) I.kIn J e (fun z => nomatch z) fun tk => ⟨.bl b, H, I.kept (t' := tk) fun _ _ z => z, rfl, q⟩
/-- e.at of a kept error -/
def tXat (C : Addr) (te : TE) : TE := fun σ H Q => te σ H fun x H1 => ∃ v, IsExc H1 x C (some v) ∧ Q v H1
theorem pe_xat {C : Addr} {e : Expr} {te : TE} {pos : Pos} (T : XfC X.K C) (hno : PySem.W.findIn X.K (.ref C) "at" = some none) (he : PE X e te) (hb : attributeBase e "at" X.env (eval e X.env) = eval e X.env := by rfl) : PE X (.Attribute e "at" pos) (tXat C te) := by
  refine ⟨fun pins s σ H Q I h => ?_⟩
  refine attr_of hb (thn (he.run pins s σ H _ I h) fun u s1 hh => ?_)
  obtain ⟨x, H1, I1, rx, v, ⟨a, d, rfl, ha, dd, rfl, hdd⟩, q⟩ := hh
  cases (show u = Value.ref a from rx)
  obtain ⟨mA, hns, hr⟩ : ObjOk X.prog X.w H1 s1.heap dd (.xd [(("at" : Str), v)]) := I1.hok dd _ hdd
  obtain ⟨od, ho, hl⟩ := lookIn_ns hns
  have l : List.lookup ("at" : Str) [(("at" : Str), v)] = some v := by simp [List.lookup]
  obtain ⟨u, hu, ru⟩ := RelO.some_of (v := v) (o := mA "at") (by rw [← l]; exact hr "at")
  obtain ⟨⟨oe, vs, he, hz, hdt⟩, _⟩ := I1.hok a _ ha
  have J : PySem.W.InstAt s1.heap a oe C (some od) := ⟨he, hz.1, by unfold PySem.W.notCls; rw [hdt] <;> rfl, by rw [hz.2]; exact ho⟩
  exact HandSPX.exc_get I1.kIn J T.ga T.gg T.exC (PySem.W.findObj_own T.hdC hno rfl (by rw [hl, hu])) (handed_of ru) ⟨v, H1, I1.tok _, ru, q⟩
end
end Kw
set_option maxHeartbeats 4000000
namespace Kw
open PySem PySem.Spec PyProof.Rows L2 LamX
abbrev sCaught : Stmt := top 45
theorem scCaught : FnScope ["_law_task", "_law_caught_here", "_law_error"] ["_law_task"] (defScope sCaught) := ⟨rfl, rfl, rfl, by decide +kernel, rfl, by decide +kernel, by decide +kernel⟩
/-- an exception's slots are as many as the names -/
theorem Takes.len {X : Cx} {W : WX} (tk : Takes X W) : Takes X (fun cls d σ H => σ.length = X.N.length → W cls d σ H) := fun u s' ⟨a, B, sI, pins, σ, H, cls, d, e, I, nb, up, sky, na, os, ag, wi⟩ =>
  tk u s' ⟨a, B, sI, pins, σ, H, cls, d, e, I, nb, up, sky, na, os, ag, wi I.len⟩
/-- what the catcher makes of its task: None, or the error, kept -/
def TTc (K : PySem.W.Frag) (CE : Addr) : (XK → Hp → VK → Prop) → Hp → VK → Prop := fun tl H Q =>
  tl (fun cls d H' => PySem.W.exmOne K cls (.ref CE) = some true ∧ ∀ a, H' a = none → Q (.ref a) (upd H' a (exA cls d a))) H (fun _ H' => ∃ x, (some (some V.non) : Option (Option V)) = some (some x) ∧ Q x H')
theorem caught_gives {X : Cx} {g CE : Addr} {cdg : Value} {q : Str} (gE : X.mg "KitError" = some (.ref CE)) :
    GivesTo X ["_law_task", "_law_caught_here", "_law_error"] "_law_caught" (defScope sCaught) g cdg (defBody sCaught) "_law_task" q (TTc X.K CE) := by
  intro f c' s H Q tl act hc h
  let Y : Cx := (cxOf C8.CX0 X.prog X.w X.K X.mg X.base ["_law_task", "_law_caught_here", "_law_error"] "_law_caught" (defScope sCaught) g cdg X.A X.stack s H C8.E0).nox
  refine ⟨_, pss_cons (X := Y) (ps_set (i := 1) scCaught.nd rfl (.inl rfl) pe_non)
    (pss_cons (ps_try_keep (X := Y) (i := 2) (j := 1) (c := .ref CE) (tb := fun W D σ H => ∃ Ech : XK, (∀ cls d σ' H', σ'.length = 3 → Ech cls d H' → W cls d σ' H') ∧ σ[0]? = some (some (.ref f)) ∧ H c' = some (CodeO c' q) ∧ tl Ech H (fun _ H' => D.nx σ H'))
      rfl rfl rfl scCaught.nd rfl rfl rfl rfl (by show 2 < 3; decide) ⟨rfl, by decide, .inl gE⟩ L2.takes0 (fun W pn xe tk _ => ?_) (fun Z e => by rw [e]; rfl)) (pss_one (ps_ret (pv 1)))), ?_⟩
  · refine ⟨fun pins s' σ H D I h' => ?_⟩
    obtain ⟨Ech, hW, h1, h2, h3⟩ := h'
    exact (pss_one (ps_expr (act (fun cls d σ H => σ.length = 3 → W cls d σ H) pn xe Ech _ _ (Takes.len tk) (fun cls d σ' H' e hl => hW cls d σ' H' hl e)))).run pins s' σ H D I ⟨h1, h2, h3⟩
  · refine ⟨fun cls d H' => PySem.W.exmOne X.K cls (.ref CE) = some true ∧ ∀ a, H' a = none → Q (.ref a) (upd H' a (exA cls d a)), fun cls d σ' H' hl e => ⟨true, e.1, fun _ a ha => ?_, fun z => Bool.noConfusion z⟩, rfl, hc, ?_⟩
    · refine ⟨.ref a, ?_, e.2 a ha⟩
      match σ', hl with
      | [x, y, z], _ => rfl
    · exact h
end Kw
set_option maxHeartbeats 4000000
/-! a lambda of one parameter, handed to a def as its second argument and called there -/
namespace Kw
open PySem PySem.Spec PyProof.Rows L2 LamX
/-- the lambda's names: its parameter p, captured ones, globals -/
structure LamP (sc scope : Scope) (p : Str) : Prop where
  kind : scope.kind = .function
  co : scope.isCoroutine = false
  gen : scope.isGenerator = false
  par : scope.names.lookup p = some .local
  one : ∀ y, scope.names.lookup y = some .local → y = p
  nocell : ∀ y ∈ scope.names, y.2 ≠ .cell
  free : ∀ y ∈ scope.names, y.2 = .free → sc.names.lookup y.1 = some .cell ∨ sc.names.lookup y.1 = some .free
section
variable {X : Cx} {pins : List (Addr × Obj)} {σ : L2.St} {H HZ : Hp} {s s1 : Shared}
theorem LamP.has {scope : Scope} {p : Str} (L : LamP X.env.scope scope p) (ok : X.Ok) : ∀ y ∈ scope.names, y.2 = .free → ∃ c, X.env.cells.lookup y.1 = some c := fun y hy e => (L.free y hy e).elim (fun k => ok.has _ (.inl k)) fun k => ok.has _ (.inr k)
theorem lam_startP {A : Around} {outer : List Env} {E : XK} {scope : Scope} {p : Str} {j : Nat} {v : V} {u : Value} {f c' : Addr} {h₁ : Heap} {tk : Nat} (I : Inv X pins σ H s) (L : LamP X.env.scope scope p) (hN : X.N.Nodup) (hj : X.N[j]? = some p) (rv : RelV v u)
    (e0 : Env0 X.prog X.w X.K X.mg X.base A outer s1 HZ) (hd : A.handled = none) (un : Un (frs X.stack) [] H HZ s.heap s1.heap) (hns : h₁.Ns s1.heap.objs.size fun y => [(p, u)].reverse.lookup y) (kp : ∀ b o, s1.heap.get? b = some o → h₁.get? b = some o) :
    Inv (lamCx X A outer s1 HZ E scope f c') [] (σ.set j (some v)) HZ { s1 with heap := h₁, toks := tk } := by
  have hasC := L.has I.ok
  have cm : ∀ {y c}, (cloFrom X.env.cells scope.names []).lookup y = some c → X.env.cells.lookup y = some c := fun {y c} e => by
    rcases cloFrom_mem (PySem.mem_of_lookup e) with hm | ⟨h1, h2⟩
    · cases hm
    · obtain ⟨c1, hc⟩ := hasC _ h1 rfl
      have hc' : X.env.cells.lookup y = some c1 := hc
      rw [hc'] at h2 ⊢
      rw [h2]
      rfl
  have look : ∀ {y}, scope.names.lookup y = some .free → ∃ c, (cloFrom X.env.cells scope.names []).lookup y = some c := fun {y} hl =>
    mem_lookup (cloFrom_has (cells := X.env.cells) (acc := []) (show (y, NameKind.free) ∈ scope.names from PySem.mem_of_lookup hl))
  have cellK : ∀ {c : Addr} {v : Option Value}, H c = none → s.heap.IsCell c v → h₁.IsCell c v := fun {c v} n ⟨o, ho, hd⟩ => by
    obtain ⟨sl, q⟩ := un.any ho n (by simp)
    exact ⟨_, kp _ _ q, hd⟩
  have noA : ∀ b : Addr, b ∉ (lamCx X A outer s1 HZ E scope f c').ex := fun b z => absurd (show b ∈ ([] : List Addr) from z) (by simp)
  have noCell : ∀ y, scope.names.lookup y ≠ some .cell := fun y h => L.nocell _ (PySem.mem_of_lookup h) rfl
  refine ⟨⟨e0.mod, L.kind, rfl, rfl, Nat.le_refl _, fun y z c e1 e2 => I.ok.inj y z c (cm e1) (cm e2), fun y hy => ?_, fun y c z _ => (Bool.noConfusion (show false = true from z)), fun _ => hd, Around.frames_deeper e0.frames, .inr ⟨rfl, rfl⟩, fun b z => absurd z (noA b), e0.bs, e0.bsz, fun b _ _ => noA b,
      fun b z => absurd z (noA b), e0.funs, e0.frf⟩,
    rfl, e0.bare, Un.kept kp, ⟨_, hns, fun i y v' e1 e2 e3 => ?_⟩, fun y c e => ?_, e0.hok.fresh (Nat.le_refl _), fun y c e => ?_, fun q hq => absurd (show q ∈ ([] : List (Addr × Obj)) ++ [] from hq) (by simp), e0.hok.kept kp, by rw [List.length_set]; exact I.len⟩
  · have hy : scope.names.lookup y = some .cell ∨ scope.names.lookup y = some .free := hy
    exact hy.elim (fun h => absurd h (noCell y)) look
  · have e3 : Vis scope y := e3
    have e1 : X.N[i]? = some y := e1
    rcases e3 with k | k | k
    · obtain rfl := L.one y k
      obtain rfl : i = j := by
        obtain ⟨i1, i2⟩ := List.getElem?_eq_some_iff.mp e1
        obtain ⟨j1, j2⟩ := List.getElem?_eq_some_iff.mp hj
        exact (List.getElem_inj hN).mp (i2.trans j2.symm)
      have hi : i < σ.length := by rw [I.len]; exact (List.getElem?_eq_some_iff.mp e1).1
      rw [List.getElem?_set_self hi] at e2
      obtain rfl := Option.some.inj (Option.some.inj e2)
      exact ⟨u, rv, .inl ⟨k, by simp⟩⟩
    · exact absurd k (noCell y)
    · have hij : j ≠ i := fun z => by
        subst z
        rw [hj] at e1
        obtain rfl := Option.some.inj e1
        rw [L.par] at k
        cases k
      rw [List.getElem?_set_ne hij] at e2
      obtain ⟨m, hn, hl⟩ := I.loc
      have hvis : Vis X.env.scope y := (L.free _ (PySem.mem_of_lookup k) rfl).elim (fun k => .inr (.inl k)) (fun k => .inr (.inr k))
      obtain ⟨w', r, q⟩ := hl i y v' e1 e2 hvis
      obtain ⟨c2, h2⟩ := look k
      refine ⟨w', r, .inr ⟨.inr k, c2, h2, ?_⟩⟩
      have c1 := cm h2
      rcases q with ⟨k', _⟩ | ⟨_, c3, e', z⟩
      · have k' : X.env.scope.names.lookup y = some .local := k'
        rcases L.free _ (PySem.mem_of_lookup k) rfl with k2 | k2 <;> (rw [show X.env.scope.names.lookup y = _ from k2] at k'; cases k')
      · rw [c1] at e'
        cases e'
        exact cellK (I.freeC y _ c1) z
  · obtain ⟨w', z⟩ := I.cell y c (cm e)
    exact ⟨w', cellK (I.freeC y c (cm e)) z⟩
  · obtain ⟨v', o, ho, hd'⟩ := I.cell y c (cm e)
    exact un.free c o ho (I.freeC y c (cm e)) (by simp)
end
end Kw
set_option maxHeartbeats 4000000
namespace Kw
open PySem PySem.Spec PyProof.Rows L2 LamX
/-- the context of the def that got the lambda -/
abbrev gotCx (X : Cx) (Ng : List Str) (x : Str) (sg : Scope) (g : Addr) (cdg : Value) (s : Shared) (H : Hp) : Cx := (cxOf C8.CX0 X.prog X.w X.K X.mg X.base Ng x sg g cdg X.A X.stack s H C8.E0).nox
section
variable {X : Cx} {pins : List (Addr × Obj)} {σ : L2.St} {H : Hp} {s : Shared}
/-- a(e), in the def that got the lambda as a -/
theorem pe_actP {Ng : List Str} {qg : Str} {sg : Scope} {g f c' : Addr} {cdg pm ctv : Value} {params : Arguments} {body : Expr} {scope : Scope} {k i j : Nat} {a p : Str} {tb : TE} {e : Expr} {te : TE} {p1 p2 : Pos}
    (I : Inv X pins σ H s) (L : LamP X.env.scope scope p) (hNX : X.N.Nodup) (hj : X.N[j]? = some p) (hf : s.heap.get? f = some (PySem.W.kla_obj "<lambda>" (X.env.qual ++ "<lambda>") params body scope (cloFrom X.env.cells scope.names []) pm c' ctv)) (hfn : H f = none) (hfr : f ∉ frs X.stack)
    (hbind : ∀ u : Value, bindArgs (PySem.W.kla_fn "<lambda>" (X.env.qual ++ "<lambda>") params body scope (cloFrom X.env.cells scope.names []) pm (.ref c') ctv) ⟨[u], []⟩ = pure [(p, u)]) (hr : Room (k + 1) (X.A.deeper (envOfC qg sg s.heap.objs.size g cdg)))
    (hbody : ∀ (A : Around) (outer : List Env) (s : Shared) (H : Hp), Room k (A.deeper (lamEnv X scope s.heap.objs.size f c')) → PE (lamCx X A outer s H C8.E0 scope f c') body tb)
    (hN : Ng[i]? = some a) (hv : Vis sg a) (he : PE (gotCx X Ng qg sg g cdg s H) e te) (hs : starEach [e] (gotCx X Ng qg sg g cdg s H).env = (false, eval e (gotCx X Ng qg sg g cdg s H).env) :: starEach [] (gotCx X Ng qg sg g cdg s H).env)
    (hd : (a == ("__debug__" : Str)) = false := by decide) (hcd : (a == ("__classdict__" : Str)) = false := by decide) :
    PE (gotCx X Ng qg sg g cdg s H) (.Call (.Name a p1) [e] [] p2)
      (fun σZ HZ Q => σZ[i]? = some (some (.ref f)) ∧ te σZ HZ fun v H1 => H1 c' = some (CodeO c' (X.env.qual ++ "<lambda>")) ∧ tb (σ.set j (some v)) H1 Q) := by
  refine ⟨fun pinsZ sZ σZ HZ Q IZ h => ?_⟩
  obtain ⟨hs0, ht⟩ := h
  refine wpAny_Call_Name_kw (thn ((pe_var (pos := p1) (i := i) hN hv hd hcd).run pinsZ sZ σZ HZ (fun v H1 => v = .ref f ∧ H1 = HZ) IZ ⟨.ref f, hs0, rfl, rfl⟩) fun u s0 ⟨v, H0, I0, r0, q0⟩ => ?_)
  obtain ⟨ev, eH⟩ := q0
  subst ev
  rw [eH] at I0
  obtain rfl : u = Value.ref f := r0
  have ofAt : ∀ {s1 : Shared} {H1 : Hp}, Inv (gotCx X Ng qg sg g cdg s H) pinsZ σZ H1 s1 → s1.heap.get? f = some (PySem.W.kla_obj "<lambda>" (X.env.qual ++ "<lambda>") params body scope (cloFrom X.env.cells scope.names []) pm c' ctv) :=
    fun I1 => I1.base.keep f _ hf hfn hfr (fun z => nomatch (show f ∈ ([] : List Addr) from z))
  refine PySem.W.callWith_F ⟨_, _, _, _, ofAt I0⟩ ?_ hs (by rfl)
  rw [hs]
  show wpAny _ _ (spliced ((false, eval e (gotCx X Ng qg sg g cdg s H).env) :: [])) _ _ s0
  refine Calls.spliced_cons (thn (he.run pinsZ s0 σZ HZ _ I0 ht) fun u s1 ⟨v, H1, I1, rv, hc, q1⟩ => Calls.spliced_nil ⟨⟨_, _, _, _, ofAt I1⟩, ?_⟩)
  have of1 := ofAt I1
  have un : Un (frs X.stack) [] H H1 s.heap s1.heap := I1.base
  obtain ⟨⟨oc, vs, t, hoc, hdc, hvc⟩, _, _⟩ := I1.hok c' _ hc
  have rc : codeAny (model X.prog X.w) (X.A.deeper (envOfC qg sg s.heap.objs.size g cdg)) (.call (.ref f) ⟨[u], []⟩) (CR (L2.CX X.prog X.w) (envOfC qg sg s.heap.objs.size g cdg :: X.stack) X.prog X.w H1 s1 Q C8.E0) s1 := by
    refine PySem.W.kla_callFunE hr.depth of1 rfl L.co L.gen rfl ⟨c', oc, vs, t, rfl, hoc, hdc, hvc⟩ ?_
    rw [hbind]
    refine wpAny_pure (wpAny_newFunctionEnv (fun y hy => L.nocell y hy) (fun y hy => by
      obtain rfl := List.mem_singleton.mp hy
      exact L.par) (fun h₁ hns hsb => ⟨I1.nolimit.fresh _ hsb, ?_⟩) L.kind)
    show codeAny _ _ (.expr body (lamEnv X scope s1.heap.objs.size f c')) _ _
    have kp : ∀ b o, s1.heap.get? b = some o → h₁.get? b = some o := fun b o q => hsb.extBut b o (Nat.ne_of_lt (Heap.lt_size q)) (Heap.get?_push_of_some _ q)
    have J := lam_startP (A := X.A.deeper (envOfC qg sg s.heap.objs.size g cdg)) (outer := envOfC qg sg s.heap.objs.size g cdg :: X.stack) (E := C8.E0) (f := f) (c' := c') (tk := s1.toks + 1) I L hNX hj rv I1.env0 hr.hd un hns kp
    refine PySem.W.kla_codeExpr (wpAny_mono ((hbody _ _ s1 H1 (hr.deeper _)).run [] _ _ H1 Q J q1) (fun v' s' hq => ?_) fun e' s' hq => hq)
    obtain ⟨w', H', J', rv', q'⟩ := hq
    exact ⟨w', H', J'.os, J'.bare, J'.base, J'.hok, rv', q'⟩
  refine wpAny_call (codeAny_mono rc fun r s' hq => ?_)
  cases r with
  | error e' =>
    obtain ⟨_, _, _, _, _, _, _, _, _, _, _, _, z⟩ := hq
    exact z.elim
  | ok fl =>
    cases fl with
    | ret u => exact I1.after hq
    | next => exact False.elim hq
    | brk => exact False.elim hq
    | cont => exact False.elim hq
end
end Kw
set_option maxHeartbeats 4000000
namespace Kw
open PySem PySem.Spec PyProof.Rows L2 LamX
/-- the def x (its second parameter a) that calls what it got with one argument; TT: what it makes of the lambda's reading -/
def GivesP (X : Cx) (Ng : List Str) (x : Str) (sg : Scope) (g : Addr) (cdg : Value) (bg : List Stmt) (a : Str) (q : Str) (TT : (V → Hp → VK → Prop) → V → Hp → VK → Prop) : Prop :=
  ∀ (f c' : Addr) (v1 : V) (s : Shared) (H : Hp) (Q : VK) (tl : V → Hp → VK → Prop), Room 1 (gotCx X Ng x sg g cdg s H).A →
    (∀ (e : Expr) (te : TE) (p1 p2 : Pos), PE (gotCx X Ng x sg g cdg s H) e te → starEach [e] (gotCx X Ng x sg g cdg s H).env = (false, eval e (gotCx X Ng x sg g cdg s H).env) :: starEach [] (gotCx X Ng x sg g cdg s H).env →
      PE (gotCx X Ng x sg g cdg s H) (.Call (.Name a p1) [e] [] p2) (fun σZ HZ Q => σZ[1]? = some (some (.ref f)) ∧ te σZ HZ fun v H1 => H1 c' = some (CodeO c' q) ∧ tl v H1 Q)) →
    H c' = some (CodeO c' q) → TT tl v1 H Q →
    ∃ t, PSs (gotCx X Ng x sg g cdg s H) bg t ∧ t { nx := fun _ H' => Q .non H', rt := Q } (L2.start Ng [v1, .ref f]) H
def tLamP (T : List (Addr × Str)) (TT : (V → Hp → VK → Prop) → V → Hp → VK → Prop) (t1 tb : TE) (j : Nat) : TE := fun σ H Q => t1 σ H fun v1 H0 => Tabs T H0 ∧ ∀ H1, ExtN H0 H1 → Tabs T H1 → TT (fun v H' Q' => tb (σ.set j (some v)) H' Q') v1 H1 Q
section
variable {X : Cx}
/-- x(e1, lambda p: body) -/
theorem pe_lamcallP {T : List (Addr × Str)} {TT : (V → Hp → VK → Prop) → V → Hp → VK → Prop} {x a b lp : Str} {g c P : Addr} {k j : Nat} {pg : Arguments} {bg : List Stmt} {sg : Scope} {dV kV doc pm cdv ct oc : Value} {an od : Option Addr} {osl : Array (Option Value)} {Ng : List Str}
    {params : Arguments} {body e1 : Expr} {scope : Scope} {t1 tb : TE} {p lpos pos : Pos} (hg : Gl X x) (hm : X.mg x = some (.ref g)) (hk : PySem.W.keepIn X.K (.ref g) = true)
    (lk : X.K.lookup g = some ⟨oc, od, .func (PySem.W.fnOf x x pg bg sg dV kV doc pm an cdv ct), osl⟩) (hcg : PySem.W.codeIn X.K cdv x = true) (hb : L2.Binds X.K (PySem.W.fnOf x x pg bg sg dV kV doc pm an cdv ct) [b, a] []) (Sg : FnScope Ng [b, a] sg) (hNg : Ng[1]? = some a) (hva : Vis sg a)
    (hG : GivesP X Ng x sg g cdv bg a (X.env.qual ++ "<lambda>") TT)
    (TB : TabB X.base X.mg c P) (hcode : X.env.code = .ref c) (hmT : (P, X.env.qual ++ "<lambda>") ∈ T) (hu : ∀ p ∈ T, p.1 = P → p.2 = X.env.qual ++ "<lambda>") (hr : Room (k + 3) X.A) (L : LamP X.env.scope scope lp) (hNX : X.N.Nodup) (hj : X.N[j]? = some lp) (hdef : defaultsOf params X.env = ([], []))
    (hbind : ∀ (q : Str) (cl : List (Str × Addr)) (pm cv ctv : Value) (u : Value), bindArgs (PySem.W.kla_fn "<lambda>" q params body scope cl pm cv ctv) ⟨[u], []⟩ = pure [(lp, u)])
    (h1 : PE X e1 t1) (hbody : ∀ (A : Around) (outer : List Env) (s : Shared) (H : Hp) (f c' : Addr), Room k (A.deeper (lamEnv X scope s.heap.objs.size f c')) → PE (lamCx X A outer s H C8.E0 scope f c') body tb)
    (hs : starEach [e1, .Lambda params body scope lpos] X.env = (false, eval e1 X.env) :: (false, eval (.Lambda params body scope lpos) X.env) :: [] := by rfl)
    (hdb : (x == ("__debug__" : Str)) = false := by decide) (hd : (a == ("__debug__" : Str)) = false := by decide) (hcd : (a == ("__classdict__" : Str)) = false := by decide) :
    PE X (.Call (.Name x p) [e1, .Lambda params body scope lpos] [] pos) (tLamP T TT t1 tb j) := by
  refine ⟨fun pins s σ H Q I h => ?_⟩
  refine wpAny_Call_Name_kw (ld_glob I hg hm ?_ hdb)
  have hs2 : starEach [e1, .Lambda params body scope lpos] X.env = (false, eval e1 X.env) :: starEach [.Lambda params body scope lpos] X.env := by rw [hs]; rfl
  refine PySem.W.callWith_K (h₀ := X.base) I.ok.mod.kin hk ?_ hs2 (by rfl)
  rw [hs]
  show wpAny _ _ (spliced ((false, eval e1 X.env) :: (false, eval (.Lambda params body scope lpos) X.env) :: [])) _ _ s
  refine Calls.spliced_cons (thn (h1.run pins s σ H _ I h) fun u1 s0 ⟨v1, H0, I0, rv1, hT, hq0⟩ => ?_)
  refine Calls.spliced_cons (lam_make2 I0 TB hcode hmT hu hT hdef (L.has I0.ok) fun f c' pm' ctv H1 s' I1 eN T1 hf hfn hfr hco => Calls.spliced_nil ⟨I1.kIn, ?_⟩)
  have rc : codeAny (model X.prog X.w) X.A (.call (.ref g) ⟨[u1, .ref f], []⟩) (CR C8.CX0 X.stack X.prog X.w H1 s' Q C8.E0) s' := by
    refine run_ofS (N := Ng) (ps := [b, a]) (us := [u1, .ref f]) (vs := [v1, .ref f]) (hr.mono (j := (k + 1) + 1) (by omega) |> fun r => lk) hcg Sg (hr.mono (j := (k + 1) + 1) (by omega)) I1.env0 (hb s' [u1, .ref f] I1.kIn rfl) (.cons rv1 (.cons rfl .nil)) rfl fun hr' => ?_
    obtain ⟨t', ht', hq'⟩ := hG f c' v1 s' H1 Q (fun v H' Q' => tb (σ.set j (some v)) H' Q') (hr'.mono (by omega))
      (fun e te p1 p2 he hse => pe_actP I1 L hNX hj hf hfn hfr (hbind _ _ _ _ _) hr' (fun A outer s H hr2 => hbody A outer s H f c' hr2) hNg hva he hse hd hcd) hco (hq0 H1 eN T1)
    exact ⟨t', ht'.nox, hq'⟩
  refine wpAny_call (codeAny_mono rc fun r s2 hq => ?_)
  cases r with
  | error e => exact (show False from hq).elim
  | ok fl =>
    cases fl with
    | ret u => exact I1.after hq
    | next => exact False.elim hq
    | brk => exact False.elim hq
    | cont => exact False.elim hq
end
end Kw
set_option maxHeartbeats 4000000
namespace Kw
open PySem PySem.Spec PyProof.Rows L2 LamX
open PySem.W (AllAlike Sortable EachIs KeyPure KeepsBut dataLe alike alikeAll)
/-! ### sorted(xs, key=f), xs a list or a tuple -/
def IsSeqAt (h : Heap) (a : Addr) (items : Array Value) : Prop := ∃ o n T, h.get? a = some o ∧ (T = "list" ∨ T = "tuple") ∧ o.cls = .type T ∧ o.data = .seq items n
section
variable {prog : Program} {w : World} {A : Around} {E : Value → Shared → Prop} {s : Shared} {β : Type} {R : Value → β → Prop} {vs : List Value} {bs : List β}
theorem sorted_key_seq {l : Addr} {f : Value} {kw : List (Str × Value)} {b : Bool} {Q : Value → Shared → Prop} (k : β → PyData) (hl : IsSeqAt s.heap l vs.toArray) (e : EachIs R vs bs) (hal : AllAlike (bs.map k)) (hk : Sortable (bs.map k)) (hL : bs.length ≤ sizeLine)
    (hu : ∀ x, x ∈ bs → A.units + 2 + (k x).depth < cLine) (ha1 : argsOk "sorted" ⟨[.ref l], kw⟩) (ha2 : ∀ x, argsOk "list.sort" ⟨[.ref x], kw⟩) (ht : ∀ x, Builtin.«list.sort» ⟨[.ref x], kw⟩ = ksk_tree x f b)
    (turn : ∀ (v : Value) (x : β), R v x → x ∈ bs → ∀ (h : Heap) (tk : Nat), (∀ b o, s.heap.get? b = some o → h.get? b = some o) → wpAny (model prog w) A.in1.in1 (call f [v]) (KeyPure (k x) { s with heap := h, toks := tk }) (fun _ _ => False) { s with heap := h, toks := tk })
    (h : ∀ D out c h' tk, (∀ b o, s.heap.get? b = some o → h'.get? b = some o) → s.heap.get? D = none → h'.get? D = some (seqObj "list" (List.toArray out) c) → out.length = bs.length → EachIs R out (bs.mergeSort (dataLe b k)) → Q (.ref D) { s with heap := h', toks := tk }) :
    wpAny (model prog w) A (call (.builtin "sorted") [.ref l] kw) Q E s := by
  obtain ⟨o, n, T, ho, hT, hc, hd⟩ := hl
  have hz : vs.length ≤ sizeLine := by rw [e.length]; exact hL
  refine call_function_entry_kw kind_sorted plain_sorted entry_sorted ha1 ?_
  unfold Builtin.«sorted»
  refine wpAny_bind (m := checkCount "sorted" 1 1 _) (wpAny_pure ?_)
  refine wpAny_bind (wpAny_collect_seq l hT ho hc hd (fun h1 k1 => ?_) (by rw [List.size_toArray]; exact hz))
  refine wpAny_bind (wpAny_newList ?_ hz)
  have hget : (h1.push (seqObj "list" vs.toArray 0)).get? h1.objs.size = some (seqObj "list" vs.toArray 0) := Heap.get?_push_size _ rfl
  have hfree : s.heap.get? h1.objs.size = none := by
    cases q : s.heap.get? h1.objs.size with
    | none => rfl
    | some o' => exact absurd (Heap.lt_size (k1 _ _ q)) (Nat.lt_irrefl _)
  have up : ∀ {g : Heap}, KeepsBut h1.objs.size (h1.push (seqObj "list" vs.toArray 0)) g → ∀ b o, s.heap.get? b = some o → g.get? b = some o := fun {g} kp b o q =>
    kp b o (fun z => by rw [z, hfree] at q; cases q) (Heap.get?_push_of_some _ (k1 _ _ q))
  refine wpAny_bind (wpAny_holding (wpAny_call_entry_kw slot_list_sort ⟨_, hget, rfl⟩ entry_list_sort ?body (ha2 _)))
  case body =>
    show wpAny (model prog w) A.in1.in1 (Builtin.«list.sort» ⟨[.ref h1.objs.size], kw⟩) _ _ _
    rw [ht]
    refine PySem.W.keyH_tree (kz := bs.map k) (s := { s with heap := h1.push (seqObj "list" vs.toArray 0) }) hget (by rw [List.length_map]; exact e.length.symm) hz hal hk (PySem.W.bound_map (A := A.in1.in1) hu)
      (PySem.W.keyH_turns (s := { s with heap := h1.push (seqObj "list" vs.toArray 0) }) e fun v x hR hx h tk kp => turn v x hR hx h tk (up kp)) fun h' tk out c kp hD ko => ?_
    refine ⟨_, rfl, wpAny_pure ⟨_, rfl, ?_⟩⟩
    exact h _ out c h' tk (up kp) hfree hD ((ko.length (by rw [List.length_map]; exact e.length.symm)).trans e.length) (PySem.W.keyedOut_each k ko e)
/-- lambda p: p[0], of a tuple -/
theorem call_fst {q : Str} {params : Arguments} {p : Str} {q1 q2 q3 : Pos} {kk : Nat} {scope : Scope} {cl : List (Str × Addr)} {pm ctv : Value} {f c' t : Addr} {l : List Value} {x : Value} {Q : Value → Shared → Prop}
    (hf : s.heap.get? f = some (PySem.W.kla_obj "<lambda>" q params (.Subscript (.Name p q1) (.Constant (.int 0) kk q2) q3) scope cl pm c' ctv)) (hcr : s.heap.CodeRec (.ref c') q) (nl : s.heap.NoLimit) (hroom : A.depth < recursionLimit)
    (hk : scope.kind = .function) (hco : scope.isCoroutine = false) (hgen : scope.isGenerator = false) (hp : scope.names.lookup p = some .local) (hnc : ∀ y ∈ scope.names, y.2 ≠ .cell)
    (hbind : ∀ u : Value, bindArgs (PySem.W.kla_fn "<lambda>" q params (.Subscript (.Name p q1) (.Constant (.int 0) kk q2) q3) scope cl pm (.ref c') ctv) ⟨[u], []⟩ = pure [(p, u)])
    (ht : IsTup s.heap t l.toArray) (h0 : l[0]? = some x) (hd : (p == ("__debug__" : Str)) = false) (hq : ∀ h' tk, (∀ b o, s.heap.get? b = some o → h'.get? b = some o) → Q x { s with heap := h', toks := tk }) :
    wpAny (model prog w) A (call (.ref f) [.ref t]) Q E s := by
  refine wpAny_call (codeAny_mono (R := fun r s' => ∃ u, r = .ok (.ret u) ∧ Q u s') ?_ fun r s' hr => ?_)
  · refine PySem.W.kla_callFunE hroom hf rfl hco hgen rfl hcr ?_
    rw [hbind]
    refine wpAny_pure (wpAny_newFunctionEnv hnc (fun y hy => by
      obtain rfl := List.mem_singleton.mp hy
      exact hp) (fun h₁ hns hsb => ⟨nl.fresh _ hsb, ?_⟩) hk)
    have kp : ∀ b o, s.heap.get? b = some o → h₁.get? b = some o := fun b o q => hsb.extBut b o (Nat.ne_of_lt (Heap.lt_size q)) (Heap.get?_push_of_some _ q)
    refine PySem.W.kla_codeExpr (Subscript_ (wpAny_Name (wpAny_loadName_local (v := .ref t) hk hp hns (by simp) ?_) hd))
    refine wpAny_Constant_int ?_
    obtain ⟨o, ho, hc, n, hdd⟩ := ht
    have h0' : 0 < l.length := by
      cases l with
      | nil => simp at h0
      | cons _ _ => simp
    refine item_tupleL (l := l) (j := 0) ⟨o, kp _ _ ho, hc, n, hdd⟩ (by decide) (by decide) ?_ h0 ⟨_, rfl, hq _ _ kp⟩
    simp [seqIndex?, h0']
  · obtain ⟨u, rfl, hu⟩ := hr
    exact hu
end
end Kw
set_option maxHeartbeats 4000000
namespace Kw
open PySem PySem.Spec PyProof.Rows L2 LamX
open PySem.W (AllAlike Sortable EachIs KeyPure KeepsBut dataLe dataLt alike alikeAll)
/-- a version's key as data -/
def keyD (v : Ver) : PyData := .tuple ((vl v).map PyData.int)
theorem keyLt (v u : Ver) : dataLt (keyD v) (keyD u) = decide (ltV v u) := by
  unfold keyD
  rw [PySem.W.dataLt_tuple]
  have e := PySem.W.dataLt_ints (vl v) (vl u)
  unfold PySem.W.rowLt at e
  rw [e]
  refine decide_eq_decide.mpr ?_
  unfold ltV
  show ([v.1, v.2.1, v.2.2] : List Int) < [u.1, u.2.1, u.2.2] ↔ _
  rw [List.cons_lt_cons_iff, List.cons_lt_cons_iff, List.cons_lt_cons_iff]
  simp
abbrev VS := V × (Ver × Option Ver)
abbrev keyS (b : VS) : PyData := keyD b.2.1
theorem keyLe : dataLe false keyS = fun (p q : VS) => !decide (ltV q.2.1 p.2.1) := by
  funext p q
  show (!dataLt (keyD q.2.1) (keyD p.2.1)) = _
  rw [keyLt]
theorem sorted_pw (bs : List VS) : (bs.mergeSort (dataLe false keyS)).Pairwise fun p q => ¬ ltV q.2.1 p.2.1 := by
  rw [keyLe]
  have h := List.pairwise_mergeSort (le := fun (p q : VS) => !decide (ltV q.2.1 p.2.1)) (fun a b c h1 h2 => by
    simp only [Bool.not_eq_true', decide_eq_false_iff_not] at h1 h2 ⊢
    unfold ltV at *
    omega) (fun a b => by
    simp only [Bool.or_eq_true, Bool.not_eq_true', decide_eq_false_iff_not]
    unfold ltV
    omega) bs
  refine h.imp fun {p q} h => ?_
  simpa using h
theorem eachV : ∀ {bs : List VS} {us : List Value}, Vals (bs.map (·.1)) us → ∀ ys : List VS, (∀ x ∈ bs, x ∈ ys) → EachIs (fun (u : Value) (x : VS) => RelV x.1 u ∧ x ∈ ys) us bs
  | [], _, .nil, _, _ => .nil
  | x :: xs, _, .cons r t, ys, h => .cons ⟨r, h x List.mem_cons_self⟩ (eachV t ys fun z hz => h z (List.mem_cons_of_mem _ hz))
theorem valsE : ∀ {bs ys : List VS} {us : List Value}, EachIs (fun (u : Value) (x : VS) => RelV x.1 u ∧ x ∈ ys) us bs → Vals (bs.map (·.1)) us
  | _, _, _, .nil => .nil
  | _, _, _, .cons r t => .cons r.1 (valsE t)
/-- xs stands at l, as a list or a tuple -/
def SqLT (K : PySem.W.Frag) (H : Hp) (l : Addr) (xs : List V) : Prop := SqL K H l xs ∨ SqT K H l xs
def tSortK (K : PySem.W.Frag) (T : List (Addr × Str)) (t1 : TE) : TE := fun σ H Q => t1 σ H fun v1 H0 => Tabs T H0 ∧ ∀ H1, ExtN H0 H1 → Tabs T H1 → ∃ (l : Addr) (bs : List VS), v1 = .ref l ∧ SqLT K H1 l (bs.map (·.1)) ∧
  (∀ b ∈ bs, ∃ t r a, b.1 = .ref t ∧ SqT K H1 t (.ref a :: r) ∧ SqT K H1 a (v3 b.2.1)) ∧
  ∀ (D : Addr) (bs' : List VS), H1 D = none → bs'.Perm bs → bs'.Pairwise (fun p q => ¬ ltV q.2.1 p.2.1) → Q (.ref D) (upd H1 D (.lst (bs'.map (·.1))))
section
variable {X : Cx}
theorem seqLT {pins : List (Addr × Obj)} {σ : L2.St} {H : Hp} {s : Shared} {l : Addr} {xs : List V} (I : Inv X pins σ H s) (h : SqLT X.K H l xs) : ∃ its : List Value, Vals xs its ∧ IsSeqAt s.heap l its.toArray ∧ xs.length ≤ sizeLine := by
  rcases h with h | h
  · obtain ⟨its, r, ⟨o, n, ho, hc, _, hd⟩, z⟩ := I.list h
    exact ⟨its, r, ⟨o, n, "list", ho, .inl rfl, hc, hd⟩, z⟩
  · obtain ⟨its, r, ⟨o, ho, hc, n, hd⟩, z⟩ := I.tuple h
    exact ⟨its, r, ⟨o, n, "tuple", ho, .inr rfl, hc, hd⟩, z⟩
/-- sorted(e1, key=lambda p: p[0]), of a list or a tuple of tuples whose first items are versions -/
theorem pe_sortedKey {T : List (Addr × Str)} {c P : Addr} {k kk : Nat} {params : Arguments} {lp : Str} {e1 : Expr} {scope : Scope} {t1 : TE} {p q1 q2 q3 lpos kpos pos : Pos} (hg : Gl X "sorted") (hm : X.mg "sorted" = none)
    (TB : TabB X.base X.mg c P) (hcode : X.env.code = .ref c) (hmT : (P, X.env.qual ++ "<lambda>") ∈ T) (hu : ∀ p ∈ T, p.1 = P → p.2 = X.env.qual ++ "<lambda>") (hr : Room (k + 3) X.A)
    (hk : scope.kind = .function) (hco : scope.isCoroutine = false) (hgen : scope.isGenerator = false) (hp : scope.names.lookup lp = some .local) (hnc : ∀ y ∈ scope.names, y.2 ≠ .cell) (hfr : ∀ y ∈ scope.names, y.2 ≠ .free) (hdef : defaultsOf params X.env = ([], []))
    (hbind : ∀ (q : Str) (cl : List (Str × Addr)) (pm cv ctv : Value) (u : Value), bindArgs (PySem.W.kla_fn "<lambda>" q params (.Subscript (.Name lp q1) (.Constant (.int 0) kk q2) q3) scope cl pm cv ctv) ⟨[u], []⟩ = pure [(lp, u)])
    (h1 : PE X e1 t1) (hd : (lp == ("__debug__" : Str)) = false := by decide) (he : backTo pos (starEach [e1] X.env) = (false, eval e1 X.env) :: backTo pos (starEach [] X.env) := by rfl) (hpl : (backTo pos (starEach [e1] X.env)).any (·.1) = false := by rfl) :
    PE X (.Call (.Name "sorted" p) [e1] [⟨some "key", .Lambda params (.Subscript (.Name lp q1) (.Constant (.int 0) kk q2) q3) scope lpos, kpos⟩] pos) (tSortK X.K T t1) := by
  refine ⟨fun pins s σ H Q I h => ?_⟩
  refine wpAny_Call_Name_kw (ld_blt (u := .builtin "sorted") I hg hm (by first | rfl | kernel_rfl) ?_ (by decide) (by decide))
  refine PyProof.Rows.callWith_kw ?_ he hpl (by rfl) (by rfl)
  rw [he]
  refine Calls.spliced_cons (thn (h1.run pins s σ H _ I h) fun u1 s0 ⟨v1, H0, I0, rv1, hT, hq0⟩ => Calls.spliced_nil ?_)
  refine kwAll_cons (lam_make2 I0 TB hcode hmT hu hT hdef (fun y hy e => absurd e (hfr y hy)) fun f c' pm' ctv H1 s' I1 eN T1 hf hfn hfrs hco' => kwAll_nil ?_)
  obtain ⟨l, bs, rfl, hl, hx, q⟩ := hq0 H1 eN T1
  rw [show u1 = Value.ref l from rv1]
  obtain ⟨its, rv, hseq, hz⟩ := seqLT I1 hl
  obtain ⟨⟨oc, vs, t, hoc, hdc, hvc⟩, _, _⟩ := I1.hok c' _ hco'
  have hlen := rv.length
  show wpAny _ _ (call (.builtin "sorted") [.ref l] [(Str.ofString "key", .ref f)]) _ _ s'
  rw [List.length_map] at hz
  refine sorted_key_seq (b := false) (k := keyS) hseq (eachV rv bs fun _ h => h) ?_ ?_ hz ?_ (ksk_s1 _ _) (fun _ => ksk_l1 _ _) (fun _ => ksk_t1 _ _) ?_ ?_
  · intro d hd d' hd'
    obtain ⟨x, _, rfl⟩ := List.mem_map.mp hd
    obtain ⟨y, _, rfl⟩ := List.mem_map.mp hd'
    simp [keyS, keyD, alike, alikeAll]
  · refine .inl fun d hd => ?_
    obtain ⟨x, _, rfl⟩ := List.mem_map.mp hd
    exact ⟨_, _, rfl⟩
  · intro x _
    have := hr.un
    have e : (keyS x).depth = 1 := by simp [keyS, keyD, PyData.depth, PyData.depthAll]
    rw [e]
    omega
  · rintro v x ⟨rx, _⟩ hm' h tk kp
    obtain ⟨t', r, a, ex, ht, ha⟩ := hx x hm'
    rw [ex] at rx
    rw [show v = Value.ref t' from rx]
    obtain ⟨its', rv', tp', _⟩ := I1.tuple ht
    obtain ⟨itk, rvk, ⟨ok, hok, hck, nk, hdk⟩, _⟩ := I1.tuple ha
    cases rv' with
    | cons r1 t1' =>
      rename_i w0 ws0
      obtain rfl : w0 = Value.ref a := r1
      obtain ⟨o, ho, hc, n, hdd⟩ := tp'
      refine call_fst (s := { s' with heap := h, toks := tk }) (kp _ _ hf) ⟨c', oc, vs, t, rfl, kp _ _ hoc, hdc, hvc⟩ (I1.nolimit.keeps kp) ?_ hk hco hgen hp hnc (fun u => hbind _ _ _ _ _ u) ⟨o, kp _ _ ho, hc, n, hdd⟩ rfl hd fun h' tk' k' => ?_
      · have := hr.dp
        show X.A.depth < recursionLimit
        omega
      · refine ⟨h', tk', rfl, k', ?_⟩
        refine .tuple (k' _ _ (kp _ _ hok)) hck hdk ?_
        have k1 : IntsAre itk (vl x.2.1) := Vals.ints rvk
        simpa using IntsAre.reads _ k1
  · intro D out c2 h' tk kp hD0 hD hlen' hout
    have hn : H1 D = none := I1.hok.gone hD0
    have hv := valsE hout
    have hlx : ((bs.mergeSort (dataLe false keyS)).map (·.1)).length ≤ sizeLine := by rw [List.length_map, List.length_mergeSort]; exact hz
    refine ⟨.ref D, _, I1.laidN (o := .lst ((bs.mergeSort (dataLe false keyS)).map (·.1))) kp hD0 hn ⟨hlx, out, c2, hv, hD⟩, rfl, q D _ hn (List.mergeSort_perm _ _) (sorted_pw bs)⟩
end
end Kw
set_option maxHeartbeats 4000000
namespace Kw
open PySem PySem.Spec PyProof.Rows L2
/-! ### lists of versions with their places -/
abbrev rf (ks : List (Addr × Ver)) : List V := ks.map fun p => V.ref p.1
def KsOk (K : PySem.W.Frag) (H : Hp) (ks : List (Addr × Ver)) : Prop := ∀ p ∈ ks, SqT K H p.1 (v3 p.2) ∧ okV p.2
theorem KsOk.same {K : PySem.W.Frag} {H H' : Hp} {ks : List (Addr × Ver)} (h : KsOk K H ks) (s : Same H H') : KsOk K H' ks := fun p hp => ⟨Same.sqT s (h p hp).1, (h p hp).2⟩
theorem KsOk.app {K : PySem.W.Frag} {H : Hp} {ks js : List (Addr × Ver)} (h : KsOk K H ks) (h' : KsOk K H js) : KsOk K H (ks ++ js) := fun p hp => (List.mem_append.mp hp).elim (h p) (h' p)
theorem KsOk.one {K : PySem.W.Frag} {H : Hp} {a : Addr} {v : Ver} (h : SqT K H a (v3 v)) (o : okV v) : KsOk K H [(a, v)] := fun p hp => by
  rw [List.mem_singleton.mp hp]
  exact ⟨h, o⟩
theorem KsOk.nil {K : PySem.W.Frag} {H : Hp} : KsOk K H [] := fun p hp => nomatch hp
theorem vl_inj {v u : Ver} (h : vl v = vl u) : v = u := by
  obtain ⟨a, b, c⟩ := v
  obtain ⟨d, e, f⟩ := u
  simp at h
  obtain ⟨rfl, rfl, rfl⟩ := h
  rfl
theorem bd_all : ∀ ks : List (Addr × Ver), (∀ p ∈ ks, okV p.2) → ∃ B : Int, ∀ p ∈ ks, _root_.TS.Bd B (vl p.2)
  | [], _ => ⟨0, fun p hp => nomatch hp⟩
  | q :: ks, h => by
    obtain ⟨B, hB⟩ := bd_all ks fun p hp => h p (List.mem_cons_of_mem _ hp)
    have ⟨h1, h2, h3⟩ := h q List.mem_cons_self
    refine ⟨B + q.2.1 + q.2.2.1 + q.2.2.2 + 1 + (if B < 0 then -B else 0), fun p hp => ?_⟩
    rcases List.mem_cons.mp hp with rfl | hp
    · intro m hm
      simp at hm
      split <;> rcases hm with rfl | rfl | rfl <;> omega
    · intro m hm
      have := hB p hp m hm
      split <;> omega
theorem code_ltV {B : Int} {v u : Ver} (hv : _root_.TS.Bd B (vl v)) (hu : _root_.TS.Bd B (vl u)) (h : ltV v u) : _root_.TS.code B (vl v) < _root_.TS.code B (vl u) := by
  obtain ⟨a, b, c⟩ := v
  obtain ⟨d, e, f⟩ := u
  have hv1 := hv.tail
  have hu1 := hu.tail
  rcases h with h | ⟨h, h⟩
  · exact _root_.TS.code_lt rfl hv1 hu1 h
  · have e1 : a = d := by assumption
    subst e1
    show _root_.TS.code B (a :: [b, c]) < _root_.TS.code B (a :: [e, f])
    refine (_root_.TS.code_same (r := [b, c]) (q := [e, f]) rfl).mpr ?_
    rcases h with h | ⟨e2, h⟩
    · exact _root_.TS.code_lt rfl hv1.tail hu1.tail h
    · have e2 : b = e := e2
      subst e2
      show _root_.TS.code B (b :: [c]) < _root_.TS.code B (b :: [f])
      refine (_root_.TS.code_same (r := [c]) (q := [f]) rfl).mpr (_root_.TS.code_lt rfl hv1.tail.tail hu1.tail.tail h)
/-- what sorted(set(xs)) gives -/
theorem setsort {K : PySem.W.Frag} {P : Program} {w : World} {H : Hp} {l : Addr} {ks : List (Addr × Ver)} {Q : VK} (h : SqL K H l (rf ks)) (hk : KsOk K H ks) (hl : ks.length < 64)
    (q : ∀ H2 D ks', Same H H2 → H2 D = some (.lst (rf ks')) → KsOk K H2 ks' → (ks'.map (·.2)).Pairwise ltV → (∀ v, v ∈ ks'.map (·.2) ↔ v ∈ ks.map (·.2)) → ks'.length < 64 → H D = none → Q (.ref D) H2) :
    rSetOfT K P w [.ref l] H (fun v H1 => rSortedT K P w [v] H1 Q) := by
  obtain ⟨B, hB⟩ := bd_all ks fun p hp => (hk p hp).2
  refine ⟨l, ks.map fun p => (p.1, vl p.2), rfl, ?_, ?_, by rw [List.length_map]; exact hl, fun a L ha hsub hall => ?_⟩
  · rw [List.map_map]
    exact h
  · intro p hp
    obtain ⟨r, hr, rfl⟩ := List.mem_map.mp hp
    exact (hk r hr).1
  · have s1 : Same H (upd H a (SetTO P w a L)) := same_upd ha
    have hL : ∀ p ∈ L, ∃ r ∈ ks, p = (r.1, vl r.2) := fun p hp => by
      obtain ⟨r, hr, e⟩ := List.mem_map.mp (hsub p hp)
      exact ⟨r, hr, e.symm⟩
    refine ⟨a, L, 3, B, rfl, upd_same, fun p hp => ?_, by decide, fun p hp => ?_, fun L' D pm nd few pw hD => ?_⟩
    · obtain ⟨r, hr, rfl⟩ := hL p hp
      exact Same.sqT s1 (hk r hr).1
    · obtain ⟨r, hr, rfl⟩ := hL p hp
      exact ⟨rfl, hB r hr⟩
    · have hL' : ∀ p ∈ L', ∃ r ∈ ks, p = (r.1, vl r.2) := fun p hp => hL p (pm.mem_iff.mp hp)
      -- the versions back
      obtain ⟨ks', e1, h1⟩ : ∃ ks' : List (Addr × Ver), L' = ks'.map (fun p => (p.1, vl p.2)) ∧ ∀ p ∈ ks', p ∈ ks := by
        clear pm nd few pw
        induction L' with
        | nil => exact ⟨[], rfl, fun p hp => nomatch hp⟩
        | cons x L' ih =>
          obtain ⟨ks', e, h⟩ := ih fun p hp => hL' p (List.mem_cons_of_mem _ hp)
          obtain ⟨r, hr, rfl⟩ := hL' x List.mem_cons_self
          refine ⟨r :: ks', by rw [e]; rfl, fun p hp => ?_⟩
          rcases List.mem_cons.mp hp with rfl | hp
          · exact hr
          · exact h p hp
      subst e1
      have s2 : Same (upd H a (SetTO P w a L)) (upd (upd H a (SetTO P w a L)) D (.lst ((ks'.map fun p => (p.1, vl p.2)).map fun q => V.ref q.1))) := same_upd hD
      refine q _ D ks' (s1.trans s2) (by rw [upd_same, List.map_map]; rfl) (KsOk.same (fun p hp => hk p (h1 p hp)) (s1.trans s2)) ?_ (fun v => ?_) (by rw [List.length_map] at few; exact few) (s1.free hD)
      · rw [List.map_map] at nd
        have nd' : (ks'.map fun p => vl p.2).Nodup := nd
        have pw' : ks'.Pairwise fun q r => _root_.TS.code B (vl q.2) ≤ _root_.TS.code B (vl r.2) := by
          rw [List.pairwise_map] at pw
          exact pw
        rw [List.pairwise_map]
        refine List.Pairwise.imp_of_mem (fun {p r} hp hr h => ?_) (pw'.and (List.pairwise_map.mp nd'))
        by_cases c1 : ltV p.2 r.2
        · exact c1
        · by_cases c2 : ltV r.2 p.2
          · have := code_ltV (hB r (h1 r hr)) (hB p (h1 p hp)) c2
            omega
          · exact absurd (congrArg vl (ltV_or c1 c2)) h.2
      · constructor
        · intro hv
          obtain ⟨p, hp, rfl⟩ := List.mem_map.mp hv
          exact List.mem_map.mpr ⟨p, h1 p hp, rfl⟩
        · intro hv
          obtain ⟨p, hp, rfl⟩ := List.mem_map.mp hv
          have m1 := hall (p.1, vl p.2) (List.mem_map.mpr ⟨p, hp, rfl⟩)
          obtain ⟨x, hx, e⟩ := List.mem_map.mp m1
          have hx' := pm.mem_iff.mpr hx
          obtain ⟨y, hy, rfl⟩ := List.mem_map.mp hx'
          exact List.mem_map.mpr ⟨y, hy, vl_inj e⟩
end Kw
set_option maxHeartbeats 4000000
namespace Kw
open PySem PySem.Spec PyProof.Rows L2
def spAround (K : PySem.W.Frag) : Sp := fun vs H Q _ => ∃ (a : Addr) (v : Ver), vs = [.ref a] ∧ SqT K H a (v3 v) ∧ okV v ∧
  ∀ H' p ks, Same H H' → H' p = some (.lst (rf ks)) → KsOk K H' ks → ks.length ≤ 5 → Q (.ref p) H'
section
variable {P : Program} {w : World} {K : PySem.W.Frag} {mg : Str → Option Value} {base : Heap}
end
end Kw
set_option maxHeartbeats 4000000
namespace Kw
open PySem PySem.Spec PyProof.Rows L2
theorem Room.u64 {k : Nat} {A : Around} (hr : Room k A) : A.units + 64 < cLine := by
  have := hr.un
  omega
/-- all ends of stretches, and the first version -/
def endsOf : List Str2 → List Ver
  | [] => [(0, 0, 0)]
  | s :: ss => s.1 :: (s.2.toList ++ endsOf ss)
theorem endsOf_snoc (v : Ver) : ∀ (ss : List Str2) (s : Str2), v ∈ endsOf (ss ++ [s]) ↔ v ∈ endsOf ss ∨ v = s.1 ∨ s.2 = some v
  | [], s => by
    obtain ⟨l, h⟩ := s
    cases h <;> simp [endsOf] <;> grind
  | t :: ss, s => by
    have ih := endsOf_snoc v ss s
    simp only [endsOf, List.cons_append, List.mem_cons, List.mem_append, ih]
    grind
def spPoints (K : PySem.W.Frag) : Sp := fun vs H Q _ => ∃ (a : Addr) (xs : List V) (ss : List Str2), vs = [.ref a] ∧ SqL K H a xs ∧ Strs K H xs ss ∧ (∀ s ∈ ss, okS s) ∧ ss.length ≤ 5 ∧
  ∀ H' p ks, Same H H' → H' p = some (.lst (rf ks)) → KsOk K H' ks → ks.length < 64 → Q (.ref p) H'
def spEnds (K : PySem.W.Frag) : Sp := fun vs H Q _ => ∃ (a : Addr) (xs : List V) (ss : List Str2), vs = [.ref a] ∧ SqL K H a xs ∧ Strs K H xs ss ∧ (∀ s ∈ ss, okS s) ∧ ss.length ≤ 5 ∧
  ∀ H' p ks, Same H H' → H' p = some (.lst (rf ks)) → KsOk K H' ks → ks.length < 64 → (ks.map (·.2)).Pairwise ltV → (∀ v, v ∈ ks.map (·.2) ↔ v ∈ endsOf ss) → Q (.ref p) H'
section
variable {P : Program} {w : World} {K : PySem.W.Frag} {mg : Str → Option Value} {base : Heap}
end
end Kw
set_option maxHeartbeats 4000000
namespace Kw
open PySem PySem.Spec PyProof.Rows L2 LamX
/-! ### a comprehension over a range with a step -/
theorem lc_rangeC {lo c : Int} {n : Nat} {g : TG} {tt : TT} {te : TE} {vs : List Nat} {σ : L2.St} {H1 : Hp} {D : Addr} {Qd : Hp → Prop} (Pv : Nat → Hp → Prop) (start : Pv 0 (upd H1 D (.lst [])))
    (step : ∀ j H, j < n → Pv j H → g (.int (lo + (j : Nat) * c)) (wipe σ vs) H fun σ2 H2 => wipe σ2 vs = wipe σ vs ∧ tt σ2 H2 fun b H3 => if b = true then te σ2 H3 fun y H4 => ∃ acc, H4 D = some (.lst acc) ∧ acc.length < sizeLine ∧ Pv (j + 1) (upd H4 D (.lst (acc ++ [y]))) else Pv (j + 1) H3)
    (stop : ∀ H, Pv n H → Qd H) :
    ∃ W : Nat → Nat → Hp → Prop, (∃ m, W 0 m (upd H1 D (.lst []))) ∧ ∀ i m H, W i m H → ((Itc lo c n).stop i H ∧ Qd H) ∨ ((Itc lo c n).go i H ∧ ∃ Nx : Hp → Prop, (∀ H', Nx H' → ∃ m', m' < m ∧ W (i + 1) m' H') ∧ ∀ x H', (Itc lo c n).yld i H x H' → g x (wipe σ vs) H' fun σ2 H2 => wipe σ2 vs = wipe σ vs ∧ tt σ2 H2 fun b H3 => if b = true then te σ2 H3 fun y H4 => ∃ acc, H4 D = some (.lst acc) ∧ acc.length < sizeLine ∧ Nx (upd H4 D (.lst (acc ++ [y]))) else Nx H3) := by
  refine ⟨fun i m H => m = n - i ∧ i ≤ n ∧ Pv i H, ⟨n, by simp, Nat.zero_le _, start⟩, fun i m H hw => ?_⟩
  obtain ⟨em, hi, p⟩ := hw
  by_cases lt : i < n
  · exact .inr ⟨lt, Pv (i + 1), fun H' p' => ⟨n - (i + 1), by omega, rfl, lt, p'⟩, fun x H' y => by obtain ⟨rfl, rfl⟩ := y; exact step i _ lt p⟩
  · have ei : i = n := by omega
    rw [ei] at p ⊢
    exact .inl ⟨Nat.le_refl _, stop H p⟩
/-! ### normal form by ends -/
def pairsV : List Ver → List Str2
  | [] => []
  | [a] => [(a, none)]
  | a :: b :: r => (a, some b) :: pairsV r
def edgesOf (f : Ver → Bool) : Bool → List Ver → List Ver
  | _, [] => []
  | now, v :: vs => if (f v != now) = true then v :: edgesOf f (!now) vs else edgesOf f now vs
theorem pairsV_len : ∀ es : List Ver, (pairsV es).length = (es.length + 1) / 2
  | [] => rfl
  | [a] => by simp [pairsV]
  | a :: b :: r => by
    have := pairsV_len r
    simp only [pairsV, List.length_cons, this]
    omega
theorem pairsV_get : ∀ (es : List Ver) (i : Nat) (v : Ver), es[2 * i]? = some v → (pairsV es)[i]? = some (v, es[2 * i + 1]?)
  | [], i, v, h => by simp at h
  | [a], 0, v, h => by
    simp at h
    subst h
    rfl
  | [a], i + 1, v, h => by
    rw [show 2 * (i + 1) = 2 * i + 1 + 1 by omega] at h
    simp at h
  | a :: b :: r, 0, v, h => by
    simp at h
    subst h
    rfl
  | a :: b :: r, i + 1, v, h => by
    rw [show 2 * (i + 1) = 2 * i + 1 + 1 by omega] at h ⊢
    simp only [List.getElem?_cons_succ] at h
    have := pairsV_get r i v h
    simp only [pairsV, List.getElem?_cons_succ]
    exact this
theorem edges_len (f : Ver → Bool) : ∀ (now : Bool) (vs : List Ver), (edgesOf f now vs).length ≤ vs.length
  | _, [] => Nat.le_refl _
  | now, v :: vs => by
    unfold edgesOf
    split
    · have := edges_len f (!now) vs
      simp
      omega
    · have := edges_len f now vs
      simp
      omega
/-- what the law makes of the lambda's reading: the normal form of a property of versions, by ends -/
def TTn (K : PySem.W.Frag) : (V → Hp → VK → Prop) → V → Hp → VK → Prop := fun tl v1 H Q => ∃ (a : Addr) (ks : List (Addr × Ver)) (f : Ver → Bool), v1 = .ref a ∧ SqL K H a (rf ks) ∧ KsOk K H ks ∧ ks.length < 64 ∧
  (∀ H' p Q', Same H H' → p ∈ ks → (∀ H'', Same H' H'' → Q' (.bl (f p.2)) H'') → tl (.ref p.1) H' Q') ∧
  ∀ H' D zs, Same H H' → H' D = some (.tup zs) → Strs K H' zs (pairsV (edgesOf f false (ks.map (·.2)))) → Q (.ref D) H'
end Kw
set_option maxHeartbeats 4000000
namespace Kw
open PySem PySem.Spec PyProof.Rows L2 LamX
theorem rng2 (m : Nat) (h : m < 1000) : RgC 0 (m : Int) 2 ((m + 1) / 2) := by
  refine ⟨by decide, by decide, ?_, ?_⟩
  · have e : Builtin.Range.rangeSize 0 (m : Int) 2 = ((m + 1) / 2 : Nat) := by
      unfold Builtin.Range.rangeSize
      simp only [show (2 : Int) > 0 from by decide, if_true]
      split <;> omega
    unfold Builtin.Range.small
    rw [e]
    have ft : ∀ i : Int, -1000000 ≤ i → i ≤ 1000000 → Builtin.Range.rangeFitsLong i = true := fun i h1 h2 => by
      unfold Builtin.Range.rangeFitsLong
      rw [Bool.and_eq_true]
      exact ⟨decide_eq_true (by omega), decide_eq_true (by omega)⟩
    rw [ft 0 (by omega) (by omega), ft (m : Int) (by omega) (by omega), ft 2 (by omega) (by omega), ft _ (by omega) (by omega)]
    simp
    refine .inr (ft _ (by omega) (by omega))
  · unfold Builtin.Range.rangeSize
    simp only [show (2 : Int) > 0 from by decide, if_true]
    split <;> omega
end Kw
set_option maxHeartbeats 4000000
namespace Kw
open PySem PySem.Spec PyProof.Rows L2
open PySem.W (dataLt alike alikeAll AlikeAll maxD cmpIn_gt iter_tupleW moved_old readsAll_len readsAll_atA argBest_fold reads_keeps)
/-! ### max of two versions -/
def maxV (v u : Ver) : Ver := if ltV v u then u else v
section
variable {prog : Program} {w : World} {A : Around} {E : Value → Shared → Prop} {s : Shared}
theorem max2_data {a b : Value} {x y : PyData} {as : List Addr} {Q : Value → Shared → Prop} (hh : A.handled = none) (hr : ReadsAll s.heap [a, b] [x, y] as) (ha : AlikeAll [x, y]) (hu : A.units + 1 + PyData.depthAll [x, y] < cLine)
    (q : ∀ v h' tk bs, (v = a ∨ v = b) → Reads h' v (maxD x [y]) bs → (∀ b o, s.heap.get? b = some o → h'.get? b = some o) → Q v { s with heap := h', toks := tk }) : wpAny (model prog w) A (call (.builtin "max") [a, b]) Q E s := by
  have hname : (toString "max" ++ toString ".loop" : String) = "max.loop" := by decide
  refine call_function_tree F.kind_max F.plain_max F.entry_max (F.args_max2 _ _) ?_
  show wpAny _ A.in1 (Builtin.Builtins.bindParams "max" ["key", "default"] 0 ⟨[], []⟩ >>= _) _ _ s
  refine wpAny_bind (wpAny_of_eq (show Builtin.Builtins.bindParams "max" ["key", "default"] 0 ⟨[], []⟩ = pure [none, none] from rfl) ?_)
  show wpAny _ A.in1 (newTuple [a, b] >>= _) _ _ s
  refine wpAny_bind (wpAny_newObj_type ?_)
  have k1 : ∀ c o, s.heap.get? c = some o → (s.heap.push { cls := .type "tuple", data := .seq #[a, b] }).get? c = some o := fun c o e => Heap.get?_push_of_some _ e
  have hT : (s.heap.push { cls := .type "tuple", data := .seq #[a, b] }).IsTuple s.heap.objs.size #[a, b] := ⟨_, Heap.get?_push_size _ rfl, rfl, 0, rfl⟩
  have hr1 : ReadsAll (s.heap.push { cls := .type "tuple", data := .seq #[a, b] }) (#[a, b] : Array Value).toList [x, y] as := ReadsAll.keeps k1 hr
  refine wpAny_bind (iter_tupleW (A := A.in1) (s := { s with heap := s.heap.push { cls := .type "tuple", data := .seq #[a, b] } }) hh hT fun s₂ e W st hfp hw hk => ?_)
  refine wpAny_bind (wpAny_newObj_type ?_)
  have hSf : s₂.heap.objs.size ∉ [(s.heap.push { cls := .type "tuple", data := .seq #[a, b] }).objs.size, s.heap.objs.size] := fun hm => Nat.lt_irrefl _ (hfp _ hm)
  rw [hname]
  refine wpAny_pure ⟨plainId_quiet F.plain_max_loop _, codeAny_max_loop_firstH W (s.heap.push { cls := .type "tuple", data := .seq #[a, b] }) hw _ (cmpIn_gt (A := A.in1) (s := { s with heap := s.heap.push { cls := .type "tuple", data := .seq #[a, b] } }) hr1 ha (by show A.units + 1 + _ < _; exact hu)) s₂.heap.objs.size hSf (fresh_in hk) _ (by simp) (fun b o e => Heap.get?_push_of_some _ (hk b o e)) (W.frame 0 s₂ _ s₂.toks st (Nat.le_refl _) fun b _ o e => Heap.get?_push_of_some _ e) (Heap.get?_push_size _ rfl) fun v s' hP hm => ?_⟩
  obtain ⟨h', tk, rfl, hk'⟩ := moved_old e rfl (Moved.drop_new (tk := s₂.toks) hm (Nat.le_refl _))
  obtain ⟨bs, r, _, _, _⟩ := readsAll_atA hr1 _ v hP
  have e2 := (argBest_fold (fun a b => dataLt b a) PyData.none x [y] 1 (Nat.le_refl _)).2
  have e3 : List.take 1 [y] = [y] := rfl
  rw [e3] at e2
  refine q v h' tk bs ?_ (reads_keeps hk' (by unfold maxD; rw [← e2]; exact r)) fun c o z => hk' _ _ (k1 _ _ z)
  have hm := Array.mem_of_getElem? hP
  simpa using hm
end
section
variable {X : Cx}
theorem ver_reads {pins : List (Addr × Obj)} {σ : L2.St} {H : Hp} {s : Shared} {x : V} {v : Ver} {u : Value} (I : Inv X pins σ H s) (h : IsVer X.K H x v) (r : RelV x u) : Reads s.heap u (keyD v) [] ∧ ∃ a, x = .ref a ∧ u = .ref a := by
  obtain ⟨a, rfl, ha⟩ := h
  obtain rfl : u = Value.ref a := r
  obtain ⟨itk, rvk, ⟨ok, hok, hck, nk, hdk⟩, _⟩ := I.tuple ha
  have k1 : IntsAre itk (vl v) := Vals.ints rvk
  exact ⟨.tuple hok hck hdk (by simpa using IntsAre.reads _ k1), a, rfl, rfl⟩
theorem keyD_inj {v u : Ver} (h : keyD v = keyD u) : v = u := by
  obtain ⟨a, b, c⟩ := v
  obtain ⟨d, e, f⟩ := u
  simp [keyD] at h
  obtain ⟨rfl, rfl, rfl⟩ := h
  rfl
theorem cr_max2V {k : Nat} (hc : X.calm = true) (hr : Room k X.A) : CallR X (.builtin "max") (fun vs H Q => ∃ x y v u, vs = [x, y] ∧ IsVer X.K H x v ∧ IsVer X.K H y u ∧ ∀ z, IsVer X.K H z (maxV v u) → Q z H) := by
  intro pins s σ H vs us Q I r h
  obtain ⟨x, y, v, u, rfl, hx, hy, q⟩ := h
  cases r with
  | cons r1 r =>
    cases r with
    | cons r2 r =>
      cases r
      rename_i vx vy
      obtain ⟨d1, ax, rfl, rfl⟩ := ver_reads I hx r1
      obtain ⟨d2, ay, rfl, rfl⟩ := ver_reads I hy r2
      have hm : maxD (keyD v) [keyD u] = keyD (maxV v u) := by
        show (if dataLt (keyD v) (keyD u) = true then keyD u else keyD v) = _
        rw [keyLt]
        unfold maxV
        by_cases e : ltV v u <;> simp [e]
      refine max2_data (I.ok.hd hc) (.cons d1 (.cons d2 .nil)) ⟨?_, ?_⟩ ?_ fun z h' tk bs hz hrd kp => ?_
      · intro x hx y hy
        simp at hx hy
        rcases hx with rfl | rfl <;> rcases hy with rfl | rfl <;> simp [keyD, alike, alikeAll]
      · intro x hx
        simp at hx
        rcases hx with rfl | rfl <;> simp [keyD]
      · have := hr.un
        have e : PyData.depthAll [keyD v, keyD u] = 1 := by simp [keyD, PyData.depth, PyData.depthAll]
        rw [e]
        omega
      · rw [hm] at hrd
        rcases hz with rfl | rfl
        · have e1 := ((Reads.keeps kp d1).unique _ _ hrd).1
          exact ⟨.ref ax, H, I.kept kp, rfl, q _ (by rw [← keyD_inj e1]; exact hx)⟩
        · have e1 := ((Reads.keeps kp d2).unique _ _ hrd).1
          exact ⟨.ref ay, H, I.kept kp, rfl, q _ (by rw [← keyD_inj e1]; exact hy)⟩
end
end Kw
set_option maxHeartbeats 4000000
namespace Kw
open PySem PySem.Spec PyProof.Rows L2 LamX
abbrev sLaterE : Stmt := top 9
abbrev sNF : Stmt := top 11
/-! ### a def whose code object is known -/
structure FunC (K : PySem.W.Frag) (x qual : Str) (st : Stmt) (f : Addr) (fd : FuncData) (cd : Addr) : Prop where
  ex : ∃ (oc : Value) (od : Option Addr) (kV doc pm : Value) (an : Option Addr) (ct : Value) (osl : Array (Option Value)),
    fd = PySem.W.fnOf x qual (defArgs st) (defBody st) (defScope st) .none kV doc pm an (.ref cd) ct ∧ K.lookup f = some ⟨oc, od, .func fd, osl⟩ ∧ PySem.W.codeIn K (.ref cd) qual = true
  kp : PySem.W.keepIn K (.ref f) = true
theorem FunC.fn {K : PySem.W.Frag} {x qual : Str} {st : Stmt} {f : Addr} {fd : FuncData} {cd : Addr} (F : FunC K x qual st f fd cd) : Fun K x qual st f fd := by
  obtain ⟨oc, od, kV, doc, pm, an, ct, osl, e, l, c⟩ := F.ex
  exact ⟨⟨oc, od, kV, doc, pm, an, .ref cd, ct, osl, e, l, c⟩, F.kp⟩
section
variable {P : Program} {w : World} {K : PySem.W.Frag} {mg : Str → Option Value} {base : Heap}
theorem FunC.ok {x qual : Str} {st : Stmt} {f : Addr} {fd : FuncData} {cd : Addr} {N ps : List Str} {k : Nat} {sp : Sp} (F : FunC K x qual st f fd cd) (S : FnScope N ps (defScope st)) (len : ∀ vs H Q E, sp vs H Q E → vs.length = ps.length)
    (body : ∀ (A : Around) (outer : List Env) (s : Shared) (H : Hp) (vs : List V) (Q : VK) (E : XK), Room k (A.deeper (envOfC qual (defScope st) s.heap.objs.size f (.ref cd))) → sp vs H Q E →
      ∃ t, PSs (cxOf CX0 P w K mg base N qual (defScope st) f (.ref cd) A outer s H E).nox (defBody st) t ∧ t { nx := fun _ H' => Q .non H', rt := Q } (L2.start N vs) H) : FnOk P w K mg base CX0 (k + 1) f fd ps sp := by
  obtain ⟨oc, od, kV, doc, pm, an, ct, osl, rfl, lk, hcd⟩ := F.ex
  refine fn_of lk hcd S len fun A outer s H vs Q E hr hsp => ?_
  obtain ⟨t, h, q⟩ := body A outer s H vs Q E hr hsp
  exact ⟨t, h.nox, q⟩
/-! ### the later one of two ends -/
def laterE : Option Ver → Option Ver → Option Ver
  | some v, some u => some (maxV v u)
  | _, _ => none
def spLaterE (K : PySem.W.Frag) : Sp := fun vs H Q _ => ∃ (x y : V) (a b : Option Ver), vs = [x, y] ∧ IsEnd K H x a ∧ IsEnd K H y b ∧ ∀ z, IsEnd K H z (laterE a b) → Q z H
theorem scLaterE : FnScope ["one", "other"] ["one", "other"] (defScope sLaterE) := ⟨rfl, rfl, rfl, by decide +kernel, rfl, by decide +kernel, by decide +kernel⟩
theorem ok_laterE {f : Addr} {fd : FuncData} {k : Nat} (F : Fun K "later_end" "later_end" sLaterE f fd) (mm : mg "max" = none) : FnOk P w K mg base CX0 (k + 1) f fd ["one", "other"] (spLaterE K) := by
  refine F.ok scLaterE (fun vs H Q E h => ?_) (fun cdv A outer s H vs Q E hr h => ?_)
  · obtain ⟨x, y, a, b, rfl, _⟩ := h
    rfl
  · obtain ⟨x, y, a, b, rfl, hx, hy, q⟩ := h
    refine ⟨_, pss_cons (ps_if (PW.pt (pw_or (pt_cmpR op_isN (pv 0) pe_non (nomark _)) (pw_or1 (pt_cmpR op_isN (pv 1) pe_non (nomark _))))) (pss_one (ps_ret pe_non)) pss_nil)
      (pss_one (ps_ret (pe_callB (cr_max2V rfl hr) (by rfl) mm (by decide +kernel) (pa_cons (pv 0) (pa_cons (pv 1) pa_nil))))), ?_⟩
    refine ⟨x, rfl, rfl, _, rfl, ?_⟩
    rw [isEnd_non hx]
    cases a with
    | none => exact iteT (iteT (q .non rfl))
    | some v =>
      refine iteF ⟨y, rfl, rfl, _, rfl, ?_⟩
      rw [isEnd_non hy]
      cases b with
      | none => exact iteT (q .non rfl)
      | some u => exact iteF ⟨_, rfl, _, rfl, x, y, v, u, rfl, hx, hy, fun z hz => q z hz⟩
end
end Kw
set_option maxHeartbeats 4000000
namespace Kw
open PySem PySem.Spec PyProof.Rows L2 LamX
/-! ### the normal form, step by step -/
def joinsE : Option Ver → Ver → Bool
  | none, _ => true
  | some u, v => decide (leV v u)
def joinB (fs : List Str2) (v : Ver) : Bool := match fs.getLast? with
  | none => false
  | some t => joinsE t.2 v
def nfAdd (fs : List Str2) (s : Str2) : List Str2 := match fs.getLast? with
  | none => fs ++ [s]
  | some t => if joinsE t.2 s.1 = true then fs.dropLast ++ [(t.1, laterE t.2 s.2)] else fs ++ [s]
theorem nfAdd_no {fs : List Str2} {s : Str2} (h : ¬ joinB fs s.1 = true) : nfAdd fs s = fs ++ [s] := by
  unfold nfAdd joinB at *
  cases e : fs.getLast? with
  | none => rfl
  | some t => rw [e] at h; simp only at h ⊢; rw [if_neg h]
theorem nfAdd_len {fs : List Str2} {s : Str2} : (nfAdd fs s).length ≤ fs.length + 1 := by
  unfold nfAdd
  split
  · simp
  · split <;> simp <;> omega
theorem nf_len : ∀ (ss fs : List Str2), (ss.foldl nfAdd fs).length ≤ fs.length + ss.length
  | [], fs => Nat.le_refl _
  | s :: ss, fs => by
    have h1 := nf_len ss (nfAdd fs s)
    have h2 := nfAdd_len (fs := fs) (s := s)
    simp only [List.foldl_cons, List.length_cons]
    omega
/-- found[-1] of a list in hand -/
abbrev tLast (K : PySem.W.Frag) (i : Nat) : TE := tOp (rIxL K) (tVar i) (tUn (rU fun i => .int (-i)) (tC (.int 1)))
def tJoin (K : PySem.W.Frag) (fi lo : Nat) : TT := tAnd (fun σ H Q => tVar fi σ H fun x H' => ∃ k, TruV K x H' k ∧ Q k H')
  (tOr (tTest (tOp (fun x y H Q => y = .non ∧ Q (.bl (decide (x = .non))) H) (tOp (rIxT K) (tLast K fi) (tC (.int 1))) (tC .non))) (tTest (tOp (rVer K .LtE) (tVar lo) (tOp (rIxT K) (tLast K fi) (tC (.int 1))))))
theorem Strs.last {K : PySem.W.Frag} {H : Hp} {zs : List V} {fs : List Str2} {t : Str2} (h : Strs K H zs fs) (e : fs.getLast? = some t) : ∃ zs' x, zs = zs' ++ [x] ∧ IsStr K H x t ∧ Strs K H zs' fs.dropLast := by
  obtain ⟨fs', rfl⟩ : ∃ fs', fs = fs' ++ [t] := by
    rw [List.getLast?_eq_some_iff] at e
    exact e
  have hl := h.len
  rw [List.length_append, List.length_singleton] at hl
  obtain ⟨zs', x, rfl⟩ : ∃ zs' x, zs = zs' ++ [x] := by
    rcases List.eq_nil_or_concat zs with rfl | ⟨a, b, e⟩
    · simp at hl
    · exact ⟨a, b, by rw [e]; simp⟩
  have hl' : zs'.length = fs'.length := by simpa using hl
  refine ⟨zs', x, rfl, h.at_ zs'.length x t (by simp) (by rw [hl']; simp), ?_⟩
  rw [List.dropLast_concat]
  refine ⟨hl', fun i y s a b => h.at_ i y s ?_ ?_⟩
  · rw [List.getElem?_append_left (List.getElem?_eq_some_iff.mp a).1]; exact a
  · rw [List.getElem?_append_left (List.getElem?_eq_some_iff.mp b).1]; exact b
theorem last_ix {K : PySem.W.Frag} {H : Hp} {σ : L2.St} {i : Nat} {l : Addr} {zs : List V} {x : V} {Q : VK} (hi : σ[i]? = some (some (.ref l))) (hl : SqL K H l (zs ++ [x])) (q : Q x H) : tLast K i σ H Q :=
  ⟨_, hi, 1, rfl, l, _, -1, x, rfl, rfl, hl, atI_last _ _, q⟩
theorem join_read {K : PySem.W.Frag} {H : Hp} {σ : L2.St} {fi lo : Nat} {l : Addr} {zs : List V} {fs : List Str2} {x : V} {v : Ver} {Q : Bool → Hp → Prop} (hf : σ[fi]? = some (some (.ref l))) (hlo : σ[lo]? = some (some x)) (hl : SqL K H l zs) (hz : Strs K H zs fs) (hx : IsVer K H x v)
    (q : Q (joinB fs v) H) : tJoin K fi lo σ H Q := by
  refine ⟨_, hf, !zs.isEmpty, .inl ⟨zs, hl, rfl⟩, ?_⟩
  unfold joinB at q
  cases e : fs.getLast? with
  | none =>
    rw [e] at q
    have : fs = [] := by simpa using e
    subst this
    have : zs = [] := List.length_eq_zero_iff.mp hz.len
    subst this
    exact iteF q
  | some t =>
    rw [e] at q
    obtain ⟨zs', y, rfl, ⟨p, lo', hh, rfl, g1, g2, g3⟩, _⟩ := hz.last e
    have ne : (!(zs' ++ [V.ref p]).isEmpty) = true := by simp
    rw [ne]
    refine iteT ?_
    refine last_ix hf hl ⟨p, [lo', hh], 1, hh, rfl, rfl, g1, atI_nat (j := 1) rfl, rfl, _, rfl, ?_⟩
    rw [isEnd_non g3]
    obtain ⟨t1, t2⟩ := t
    cases t2 with
    | none => exact iteT q
    | some u =>
      refine iteF ⟨_, hlo, last_ix hf hl ⟨p, [lo', hh], 1, hh, rfl, rfl, g1, atI_nat (j := 1) rfl, v, u, hx, g3, _, rfl, q⟩⟩
end Kw
set_option maxHeartbeats 4000000
namespace Kw
open PySem PySem.Spec PyProof.Rows L2 LamX
/-! ### what stays where only tables grow, or one list is written -/
theorem _root_.LamX.ExtN.sqT {K : PySem.W.Frag} {H H' : Hp} {a : Addr} {xs : List V} (e : ExtN H H') (h : SqT K H a xs) : SqT K H' a xs := by
  rcases h with (h | ⟨o, h⟩) | h
  · exact .inl (.inl (e _ _ h fun ps z => nomatch z))
  · exact .inl (.inr ⟨o, e _ _ h fun ps z => nomatch z⟩)
  · exact .inr h
theorem _root_.LamX.ExtN.sqL {K : PySem.W.Frag} {H H' : Hp} {a : Addr} {xs : List V} (e : ExtN H H') (h : SqL K H a xs) : SqL K H' a xs := by
  rcases h with (h | ⟨o, h⟩) | h
  · exact .inl (.inl (e _ _ h fun ps z => nomatch z))
  · exact .inl (.inr ⟨o, e _ _ h fun ps z => nomatch z⟩)
  · exact .inr h
theorem _root_.LamX.ExtN.ver {K : PySem.W.Frag} {H H' : Hp} {x : V} {v : Ver} (e : ExtN H H') (h : IsVer K H x v) : IsVer K H' x v := let ⟨a, q, t⟩ := h; ⟨a, q, e.sqT t⟩
theorem _root_.LamX.ExtN.end_ {K : PySem.W.Frag} {H H' : Hp} {x : V} {v : Option Ver} (e : ExtN H H') (h : IsEnd K H x v) : IsEnd K H' x v := by
  cases v with
  | none => exact h
  | some u => exact e.ver h
theorem _root_.LamX.ExtN.str {K : PySem.W.Frag} {H H' : Hp} {x : V} {s : Str2} (e : ExtN H H') (h : IsStr K H x s) : IsStr K H' x s := let ⟨p, l, hh, q, t, t1, t2⟩ := h; ⟨p, l, hh, q, e.sqT t, e.ver t1, e.end_ t2⟩
theorem _root_.LamX.ExtN.strs {K : PySem.W.Frag} {H H' : Hp} {xs : List V} {ss : List Str2} (e : ExtN H H') (h : Strs K H xs ss) : Strs K H' xs ss := ⟨h.len, fun i x s a b => e.str (h.at_ i x s a b)⟩
theorem _root_.LamX.ExtN.same {H H' : Hp} (s : Same H H') : ExtN H H' := fun b o h _ => s b o h
theorem ixN_last (zs : List V) (x : V) : ixN (zs ++ [x]).length (-1) = some zs.length := by
  unfold ixN
  rw [if_neg (by decide), if_pos (by simp; omega)]
  simp
  omega
/-- all but l stay -/
def Fr1 (l : Addr) (H H' : Hp) : Prop := ∀ c o, c ≠ l → H c = some o → H' c = some o
theorem Fr1.refl {l : Addr} {H : Hp} : Fr1 l H H := fun _ _ _ h => h
theorem Fr1.trans {l : Addr} {H H1 H2 : Hp} (x : Fr1 l H H1) (y : Fr1 l H1 H2) : Fr1 l H H2 := fun c o n h => y c o n (x c o n h)
theorem Fr1.same {l : Addr} {H H' : Hp} (s : Same H H') : Fr1 l H H' := fun c o _ h => s c o h
theorem Fr1.put {l : Addr} {H : Hp} {o : HO} : Fr1 l H (upd H l o) := fun c u n h => by rw [upd_ne n]; exact h
section
variable {K : PySem.W.Frag} {l : Addr} {H H' : Hp} {ys : List V}
theorem Fr1.sqT {a : Addr} {xs : List V} (e : Fr1 l H H') (hl : H l = some (.lst ys)) (h : SqT K H a xs) : SqT K H' a xs := by
  rcases h with (h | ⟨o, h⟩) | h
  · exact .inl (.inl (e _ _ (ne_of h hl (by intro z; cases z)) h))
  · exact .inl (.inr ⟨o, e _ _ (ne_of h hl (by intro z; cases z)) h⟩)
  · exact .inr h
theorem Fr1.ver {x : V} {v : Ver} (e : Fr1 l H H') (hl : H l = some (.lst ys)) (h : IsVer K H x v) : IsVer K H' x v := let ⟨a, q, t⟩ := h; ⟨a, q, e.sqT hl t⟩
theorem Fr1.end_ {x : V} {v : Option Ver} (e : Fr1 l H H') (hl : H l = some (.lst ys)) (h : IsEnd K H x v) : IsEnd K H' x v := by
  cases v with
  | none => exact h
  | some u => exact e.ver hl h
theorem Fr1.str {x : V} {s : Str2} (e : Fr1 l H H') (hl : H l = some (.lst ys)) (h : IsStr K H x s) : IsStr K H' x s := let ⟨p, lo, hh, q, t, t1, t2⟩ := h; ⟨p, lo, hh, q, e.sqT hl t, e.ver hl t1, e.end_ hl t2⟩
theorem Fr1.strs {xs : List V} {ss : List Str2} (e : Fr1 l H H') (hl : H l = some (.lst ys)) (h : Strs K H xs ss) : Strs K H' xs ss := ⟨h.len, fun i x s a b => e.str hl (h.at_ i x s a b)⟩
theorem Tabs.fr1 {T : List (Addr × Str)} (t : Tabs T H) (e : Fr1 l H H') (hl : H l = some (.lst ys)) : Tabs T H' := fun p hp => by
  obtain ⟨ps, h1, h2, h3⟩ := t p hp
  refine ⟨ps, e _ _ (ne_of h1 hl (by intro z; cases z)) h1, h2, fun pos cv hc => ?_⟩
  obtain ⟨c, e1, e2⟩ := h3 pos cv hc
  exact ⟨c, e1, e _ _ (ne_of e2 hl (by intro z; unfold CodeO at z; cases z)) e2⟩
theorem strs_zip : ∀ {xs : List V} {ss : List Str2}, Strs K H xs ss → ∃ bs : List VS, bs.map (·.1) = xs ∧ bs.map (·.2) = ss ∧ ∀ b ∈ bs, IsStr K H b.1 b.2 := fun {xs ss} h => by
  refine ⟨xs.zip ss, List.map_fst_zip (Nat.le_of_eq h.len), List.map_snd_zip (Nat.le_of_eq h.len.symm), fun b hb => ?_⟩
  obtain ⟨i, hi⟩ := List.getElem?_of_mem hb
  rw [List.getElem?_zip_eq_some] at hi
  exact h.at_ i _ _ hi.1 hi.2
theorem strs_of {bs : List VS} (h : ∀ b ∈ bs, IsStr K H b.1 b.2) : Strs K H (bs.map (·.1)) (bs.map (·.2)) := by
  refine ⟨by simp, fun i x s a b => ?_⟩
  rw [List.getElem?_map] at a b
  cases e : bs[i]? with
  | none => rw [e] at a; simp at a
  | some p =>
    rw [e] at a b
    obtain rfl := Option.some.inj a
    obtain rfl := Option.some.inj b
    exact h p (List.mem_of_getElem? e)
end
/-- the normal form of a list or tuple of stretches: of the same stretches by their lows -/
def spNF (K : PySem.W.Frag) (T : List (Addr × Str)) : Sp := fun vs H Q _ => ∃ (a : Addr) (xs : List V) (ss : List Str2), vs = [.ref a] ∧ Tabs T H ∧ SqLT K H a xs ∧ Strs K H xs ss ∧ ss.length ≤ 60 ∧
  ∀ (H' : Hp) (D : Addr) (zs : List V) (ss' : List Str2), ExtN H H' → Tabs T H' → H' D = some (.tup zs) → ss'.Perm ss → ss'.Pairwise (fun p q => ¬ ltV q.1 p.1) → Strs K H' zs (ss'.foldl nfAdd []) → Q (.ref D) H'
section
variable {P : Program} {w : World} {K : PySem.W.Frag} {mg : Str → Option Value} {base : Heap}
theorem scNF : FnScope ["stretches", "found", "low", "high"] ["stretches"] (defScope sNF) := ⟨rfl, rfl, rfl, by decide +kernel, rfl, by decide +kernel, by decide +kernel⟩
theorem ok_nf {f : Addr} {fd : FuncData} {k : Nat} {cd PT : Addr} {T : List (Addr × Str)} (F : FunC K "normal_form" "normal_form" sNF f fd cd) (ms : mg "sorted" = none) (mt : mg "tuple" = none) (TB : TabB base mg cd PT) (hmT : (PT, ("normal_form" : Str) ++ ".<locals>." ++ "<lambda>") ∈ T)
    (hu : ∀ p ∈ T, p.1 = PT → p.2 = ("normal_form" : Str) ++ ".<locals>." ++ "<lambda>") (DL : Def P w K mg base "later_end" CX0 (k + 3) ["one", "other"] (spLaterE K)) : FnOk P w K mg base CX0 (k + 4) f fd ["stretches"] (spNF K T) := by
  refine F.ok scNF (fun vs H Q E h => ?_) (fun A outer s H vs Q E hr h => ?_)
  · obtain ⟨a, xs, ss, rfl, _⟩ := h
    rfl
  · obtain ⟨a, xs, ss, rfl, hT, hS, hss, hlen, q⟩ := h
    have hu' := hu_of hr
    refine ⟨_, pss_cons (ps_set (i := 1) scNF.nd rfl (.inl rfl) (pe_lst pa_nil))
      (pss_cons (ps_for PassesOwn.never rfl (pi_list (pe_sortedKey (k := k) (T := T) (c := cd) (P := PT) rfl ms TB rfl hmT hu hr rfl rfl rfl (by rfl) (by decide) (by decide) rfl (fun _ _ _ _ _ _ => rfl) (pv 0)))
        (pg_tup rfl (pgs_cons (pg_name (i := 2) scNF.nd rfl (.inl rfl)) (pgs_cons (pg_name (i := 3) scNF.nd rfl (.inl rfl)) pgs_nil)))
        (pss_one (ps_if (PW.pt (pw_and (pt_truth (pv 1) (fun _ => rfl)) (pw_and1 (PW.pt (pw_or (pt_cmpR op_isN (pe_ix ix_tup (pe_ix ix_list (pv 1) (pe_un un_neg pe_int) (fun _ _ => rfl)) pe_int (fun _ _ => rfl)) pe_non (nomark _))
            (pw_or1 (pt_cmpR (op_ver (op := .LtE) (.inr (.inl rfl)) hr.units0) (pv 2) (pe_ix ix_tup (pe_ix ix_list (pv 1) (pe_un un_neg pe_int) (fun _ _ => rfl)) pe_int (fun _ _ => rfl)) (nomark _))))))))
          (pss_one (ps_asg (pe_tup (pa_cons (pe_ix ix_tup (pe_ix ix_list (pv 1) (pe_un un_neg pe_int) (fun _ _ => rfl)) pe_int (fun _ _ => rfl)) (pa_cons (pe_d DL hr (pa_cons (pe_ix ix_tup (pe_ix ix_list (pv 1) (pe_un un_neg pe_int) (fun _ _ => rfl)) pe_int (fun _ _ => rfl)) (pa_cons (pv 3) pa_nil))) pa_nil)))
            (pg_sub (pv 1) (pe_un un_neg pe_int) set_list)))
          (pss_one (ps_expr (pe_bm PySem.F.plainAttrs_list PySem.F.slot_list_append PySem.F.type_list_append mt_append (pv 1) (pa_cons (pe_tup (pa_cons (pv 2) (pa_cons (pv 3) pa_nil))) pa_nil)))))))
      (pss_one (ps_ret (pe_callTy call_tuple_of (by rfl) mt (by decide +kernel) (pa_cons (pv 1) pa_nil))))), ?_⟩
    refine ⟨Nat.zero_le _, fun l0 hl0 => ?_⟩
    have s1 := same_upd (o := .lst []) hl0
    refine ⟨_, rfl, hT.ext s1, fun H1 e1 T1 => ?_⟩
    obtain ⟨bs, rfl, rfl, hb⟩ := strs_zip (ExtN.strs ((ExtN.same s1).trans e1) hss)
    have hl1 : H1 l0 = some (.lst []) := e1 _ _ upd_same fun ps z => nomatch z
    refine ⟨a, bs, rfl, ?_, fun b hb' => ?_, fun D0 bs' hD0 pm pw => ?_⟩
    · rcases hS with h | h
      · exact .inl (((ExtN.same s1).trans e1).sqL h)
      · exact .inr (((ExtN.same s1).trans e1).sqT h)
    · obtain ⟨p, lo, hh, e, g1, ⟨al, rfl, g2⟩, g3⟩ := hb b hb'
      exact ⟨p, [hh], al, e, g1, g2⟩
    have s2 := same_upd (o := .lst (bs'.map (·.1))) hD0
    have n0 : D0 ≠ l0 := (ne_of_none hl1 hD0).symm
    have hb2 : ∀ b ∈ bs', IsStr K (upd H1 D0 (.lst (bs'.map (·.1)))) b.1 b.2 := fun b hb' => (hb b (pm.mem_iff.mp hb')).same s2
    have hst := strs_of hb2
    have g0 : upd H1 D0 (.lst (bs'.map (·.1))) l0 = some (.lst []) := s2 _ _ hl1
    have gD : upd H1 D0 (.lst (bs'.map (·.1))) D0 = some (.lst (bs'.map (·.1))) := upd_same
    have gT : Tabs T (upd H1 D0 (.lst (bs'.map (·.1)))) := T1.ext s2
    have gE : ExtN H (upd H1 D0 (.lst (bs'.map (·.1)))) := ((ExtN.same s1).trans e1).trans (ExtN.same s2)
    generalize upd H1 D0 (.lst (bs'.map (·.1))) = G at hst g0 gD gT gE
    have hlen' : bs'.length ≤ 60 := by
      rw [pm.length_eq]
      simpa using hlen
    refine ⟨D0, rfl, ⟨_, SqL.of gD⟩, for_list (K := K) (a := D0) (xs := bs'.map (·.1)) (fun i σ H' => ∃ (y2 y3 : Option V) (zs : List V), σ = [some (.ref a), some (.ref l0), y2, y3] ∧ Fr1 l0 G H' ∧ H' l0 = some (.lst zs) ∧ Strs K H' zs (((bs'.map (·.2)).take i).foldl nfAdd []) ∧ zs.length ≤ i)
      ⟨none, none, [], rfl, .refl, g0, ⟨rfl, fun i x s h => by simp at h⟩, Nat.le_refl _⟩ (fun i σ H' _ ⟨_, _, _, _, e, _⟩ => SqL.of (e _ _ n0 gD)) ?_ ?_⟩
    · rintro i y σ H' hi ⟨y2, y3, zs, rfl, fr, hl, hz, hzl⟩
      have hi' : i < bs'.length := by
        have := (List.getElem?_eq_some_iff.mp hi).1
        simpa using this
      obtain ⟨st, hst', p, lo, hh, rfl, g1, g2, g3⟩ := (Fr1.strs fr g0 hst).get hi
      have tk : (((bs'.map (·.2)).take (i + 1)).foldl nfAdd []) = nfAdd (((bs'.map (·.2)).take i).foldl nfAdd []) st := by
        rw [take_snoc hst', List.foldl_append]
        rfl
      generalize ((bs'.map (·.2)).take i).foldl nfAdd [] = fs at hz tk
      refine ⟨p, [lo, hh], rfl, g1, rfl, _, _, rfl, _, _, rfl, rfl, ?_⟩
      refine join_read rfl rfl (SqL.of hl) hz g2 (ite2 (fun e => ?_) (fun e => ?_))
      · -- it joins the last one
        unfold joinB at e
        cases e3 : fs.getLast? with
        | none => rw [e3] at e; cases e
        | some t =>
          rw [e3] at e
          obtain ⟨zs', x, rfl, ⟨px, lx, hx, rfl, q1, q2, q3⟩, hz'⟩ := hz.last e3
          refine last_ix rfl (SqL.of hl) ⟨px, [lx, hx], 0, lx, rfl, rfl, q1, atI_nat (j := 0) rfl, ?_⟩
          refine last_ix rfl (SqL.of hl) ⟨px, [lx, hx], 1, hx, rfl, rfl, q1, atI_nat (j := 1) rfl, ?_⟩
          refine ⟨_, rfl, hx, hh, t.2, st.2, rfl, q3, g3, fun z hz2 => ⟨by show 2 ≤ sizeLine; decide, fun p2 hp2 => ?_⟩⟩
          have t1 := same_upd (o := .tup [lx, z]) hp2
          refine ⟨_, rfl, 1, rfl, l0, zs' ++ [.ref px], -1, zs'.length, rfl, rfl, t1 _ _ hl, ?_, ?_⟩
          · exact ixN_last zs' _
          · have hset : (zs' ++ [V.ref px]).set zs'.length (.ref p2) = zs' ++ [.ref p2] := by simp
            rw [hset]
            have fA : Fr1 l0 H' (upd (upd H' p2 (.tup [lx, z])) l0 (.lst (zs' ++ [.ref p2]))) := (Fr1.same t1).trans Fr1.put
            refine ⟨_, _, zs' ++ [.ref p2], rfl, fr.trans fA, upd_same, ?_, by simp at hzl ⊢; omega⟩
            have en : nfAdd fs st = fs.dropLast ++ [(t.1, laterE t.2 st.2)] := by
              unfold nfAdd
              rw [e3]
              simp only
              rw [if_pos e]
            rw [tk, en]
            have np : p2 ≠ l0 := (ne_of_none hl hp2).symm
            refine (Fr1.strs fA hl hz').snoc ⟨p2, lx, z, rfl, .inl (.inl (by rw [upd_ne np]; exact upd_same)), fA.ver hl q2, fA.end_ hl hz2⟩
      · refine ⟨_, rfl, .inl ⟨rfl, _, SqL.of hl⟩, _, rfl, _, rfl, by show 2 ≤ sizeLine; decide, fun p2 hp2 => ?_⟩
        have t1 := same_upd (o := .tup [lo, hh]) hp2
        refine ⟨l0, zs, _, rfl, rfl, t1 _ _ hl, small1000 (by omega), ?_⟩
        have fA : Fr1 l0 H' (upd (upd H' p2 (.tup [lo, hh])) l0 (.lst (zs ++ [.ref p2]))) := (Fr1.same t1).trans Fr1.put
        refine ⟨_, _, zs ++ [.ref p2], rfl, fr.trans fA, upd_same, ?_, by simp; omega⟩
        rw [tk, nfAdd_no e]
        have np : p2 ≠ l0 := (ne_of_none hl hp2).symm
        exact (Fr1.strs fA hl hz).snoc ⟨p2, lo, hh, rfl, .inl (.inl (by rw [upd_ne np]; exact upd_same)), fA.ver hl g2, fA.end_ hl g3⟩
    · rintro σ H' ⟨y2, y3, zs, rfl, fr, hl, hz, hzl⟩
      rw [List.take_of_length_le (by simp)] at hz
      refine ⟨_, rfl, _, _, rfl, .inl ⟨SqL.of hl, fun D hD => ?_⟩⟩
      have t1 := same_upd (o := .tup zs) hD
      have eA : ExtN H (upd H' D (.tup zs)) := fun b o e n => t1 _ _ (fr b o (ne_of_none e hl0) (gE b o e n))
      refine q _ D zs (bs'.map (·.2)) eA ?_ upd_same (pm.map _) ?_ (hz.same t1)
      · exact (Tabs.fr1 gT fr g0).ext t1
      · rw [List.pairwise_map]
        exact pw
end
end Kw
set_option maxHeartbeats 4000000
namespace Kw
/-! ### the mathematics of stretches: one normal form -/
def hasL (fs : List Str2) (v : Ver) : Bool := fs.any fun s => hasS s v
structure NF (fs : List Str2) : Prop where
  ok : ∀ s ∈ fs, okS s
  pw : fs.Pairwise fun s t => ∃ u, s.2 = some u ∧ ltV u t.1
theorem hasS_iff {s : Str2} {v : Ver} : hasS s v = true ↔ leV s.1 v ∧ ∀ u, s.2 = some u → ltV v u := by
  obtain ⟨l, h⟩ := s
  unfold hasS
  cases h with
  | none => simp
  | some u => simp
theorem hasL_iff {fs : List Str2} {v : Ver} : hasL fs v = true ↔ ∃ s ∈ fs, hasS s v = true := by
  unfold hasL
  rw [List.any_eq_true]
theorem hasL_cons {s : Str2} {fs : List Str2} {v : Ver} : hasL (s :: fs) v = (hasS s v || hasL fs v) := rfl
theorem hasL_app {fs gs : List Str2} {v : Ver} : hasL (fs ++ gs) v = (hasL fs v || hasL gs v) := by simp [hasL]
theorem hasL_lt {fs : List Str2} {v : Ver} (h : ∀ t ∈ fs, ltV v t.1) : hasL fs v = false := by
  rw [Bool.eq_false_iff]
  intro c
  obtain ⟨s, hs, e⟩ := hasL_iff.mp c
  exact (hasS_iff.mp e).1 (h s hs)
theorem hasL_mem {fs gs : List Str2} (h : ∀ s, s ∈ fs ↔ s ∈ gs) (v : Ver) : hasL fs v = hasL gs v := by
  rw [Bool.eq_iff_iff, hasL_iff, hasL_iff]
  constructor
  · rintro ⟨s, hs, e⟩
    exact ⟨s, (h s).mp hs, e⟩
  · rintro ⟨s, hs, e⟩
    exact ⟨s, (h s).mpr hs, e⟩
theorem hasS_low {s : Str2} (h : okS s) : hasS s s.1 = true := hasS_iff.mpr ⟨ltV_irrefl _, fun u e => (h.2 u e).2⟩
theorem NF.tail {s : Str2} {r : List Str2} (h : NF (s :: r)) : NF r := ⟨fun t ht => h.ok t (List.mem_cons_of_mem _ ht), (List.pairwise_cons.mp h.pw).2⟩
theorem NF.head {s t : Str2} {r : List Str2} (h : NF (s :: r)) (ht : t ∈ r) : ∃ u, s.2 = some u ∧ ltV u t.1 := (List.pairwise_cons.mp h.pw).1 t ht
theorem NF.lows {s t : Str2} {r : List Str2} (h : NF (s :: r)) (ht : t ∈ r) : ltV s.1 t.1 := by
  obtain ⟨u, e, l⟩ := h.head ht
  exact ltV_trans ((h.ok s List.mem_cons_self).2 u e).2 l
theorem NF.first {s : Str2} {r : List Str2} (h : NF (s :: r)) {v : Ver} (l : ltV v s.1) : hasL (s :: r) v = false := hasL_lt fun t ht => by
  rcases List.mem_cons.mp ht with rfl | ht
  · exact l
  · exact ltV_trans l (h.lows ht)
theorem NF.end_ {s : Str2} {r : List Str2} (h : NF (s :: r)) {u : Ver} (e : s.2 = some u) : hasL (s :: r) u = false := by
  have h1 : hasS s u = false := by
    rw [Bool.eq_false_iff]
    intro c
    exact ltV_irrefl u ((hasS_iff.mp c).2 u e)
  have h2 : hasL r u = false := hasL_lt fun t ht => by
    obtain ⟨w, e', l⟩ := h.head ht
    rw [e] at e'
    obtain rfl := Option.some.inj e'
    exact l
  rw [hasL_cons, h1, h2]
  rfl
theorem NF.in_ {s : Str2} {r : List Str2} {v : Ver} (l : ¬ ltV v s.1) (hh : ∀ u, s.2 = some u → ltV v u) : hasL (s :: r) v = true := by
  rw [hasL_cons, hasS_iff.mpr ⟨l, hh⟩]
  rfl
theorem lt_asym {a b : Ver} (h : ltV a b) : ¬ ltV b a := by unfold ltV at *; omega
/-- two normal forms of the same versions are equal -/
theorem NF.unique : ∀ {fs gs : List Str2}, NF fs → NF gs → (∀ v, okV v → hasL fs v = hasL gs v) → fs = gs
  | [], [], _, _, _ => rfl
  | [], t :: q, _, hg, h => by
    have h1 := h t.1 (hg.ok t List.mem_cons_self).1
    rw [hasL_cons, hasS_low (hg.ok t List.mem_cons_self)] at h1
    cases h1
  | s :: r, [], hf, _, h => by
    have h1 := h s.1 (hf.ok s List.mem_cons_self).1
    rw [hasL_cons, hasS_low (hf.ok s List.mem_cons_self)] at h1
    cases h1
  | s :: r, t :: q, hf, hg, h => by
    have os := hf.ok s List.mem_cons_self
    have ot := hg.ok t List.mem_cons_self
    have e1 : s.1 = t.1 := by
      refine ltV_or (fun c => ?_) (fun c => ?_)
      · have h1 := h s.1 os.1
        rw [hg.first c, hasL_cons, hasS_low os] at h1
        cases h1
      · have h1 := h t.1 ot.1
        rw [hf.first c, hasL_cons, hasS_low ot] at h1
        cases h1
    have e2 : s.2 = t.2 := by
      cases c1 : s.2 with
      | none =>
        cases c2 : t.2 with
        | none => rfl
        | some w =>
          have h1 := h w (ot.2 w c2).1
          rw [hg.end_ c2, NF.in_ (s := s) (by rw [e1]; exact lt_asym (ot.2 w c2).2) (fun u e => by rw [c1] at e; cases e)] at h1
          cases h1
      | some u =>
        cases c2 : t.2 with
        | none =>
          have h1 := h u (os.2 u c1).1
          rw [hf.end_ c1, NF.in_ (s := t) (by rw [← e1]; exact lt_asym (os.2 u c1).2) (fun u e => by rw [c2] at e; cases e)] at h1
          cases h1
        | some w =>
          refine congrArg some (ltV_or (fun c => ?_) (fun c => ?_))
          · have h1 := h u (os.2 u c1).1
            rw [hf.end_ c1, NF.in_ (s := t) (by rw [← e1]; exact lt_asym (os.2 u c1).2) (fun x e => by rw [c2] at e; obtain rfl := Option.some.inj e; exact c)] at h1
            cases h1
          · have h1 := h w (ot.2 w c2).1
            rw [hg.end_ c2, NF.in_ (s := s) (by rw [e1]; exact lt_asym (ot.2 w c2).2) (fun x e => by rw [c1] at e; obtain rfl := Option.some.inj e; exact c)] at h1
            cases h1
    have e3 : s = t := Prod.ext e1 e2
    subst e3
    have e4 : r = q := NF.unique hf.tail hg.tail fun v hv => by
      have h1 := h v hv
      rw [hasL_cons, hasL_cons] at h1
      cases c : hasS s v with
      | false => rw [c] at h1; exact h1
      | true =>
        have hh := (hasS_iff.mp c).2
        rw [hasL_lt fun t ht => by obtain ⟨u, e, l⟩ := hf.head ht; exact ltV_trans (hh u e) l, hasL_lt fun t ht => by obtain ⟨u, e, l⟩ := hg.head ht; exact ltV_trans (hh u e) l]
    rw [e4]
/-! ### the ends' parity -/
def par : List Ver → Ver → Bool
  | [], _ => false
  | e :: es, v => (decide (leV e v)) != par es v
theorem par_lt : ∀ {es : List Ver} {v : Ver}, (∀ e ∈ es, ltV v e) → par es v = false
  | [], _, _ => rfl
  | e :: es, v, h => by
    have h1 : ¬ leV e v := fun c => c (h e List.mem_cons_self)
    simp [par, h1, par_lt fun x hx => h x (List.mem_cons_of_mem _ hx)]
theorem pairs_par : ∀ {es : List Ver} (v : Ver), es.Pairwise ltV → hasL (pairsV es) v = par es v
  | [], v, _ => rfl
  | [a], v, _ => by simp [pairsV, hasL, hasS, par]
  | a :: b :: r, v, h => by
    have ⟨h1, h'⟩ := List.pairwise_cons.mp h
    have ⟨h2, h3⟩ := List.pairwise_cons.mp h'
    have ih := pairs_par (es := r) v h3
    have hab := h1 b List.mem_cons_self
    show (hasS (a, some b) v || hasL (pairsV r) v) = ((decide (leV a v)) != ((decide (leV b v)) != par r v))
    rw [ih]
    by_cases c1 : ltV v b
    · have hr : par r v = false := par_lt fun e he => ltV_trans c1 (h2 e he)
      have n1 : ¬ leV b v := fun c => c c1
      simp [hasS, hr, c1, n1]
    · have hb : leV b v := c1
      have ha : leV a v := fun c => c1 (ltV_trans c hab)
      simp [hasS, ha, hb, c1]
theorem edges_mem (f : Ver → Bool) : ∀ (es : List Ver) (now : Bool) (e : Ver), e ∈ edgesOf f now es → e ∈ es
  | [], _, _, h => by simp [edgesOf] at h
  | x :: es, now, e, h => by
    unfold edgesOf at h
    split at h
    · rcases List.mem_cons.mp h with rfl | h
      · exact List.mem_cons_self
      · exact List.mem_cons_of_mem _ (edges_mem f es _ e h)
    · exact List.mem_cons_of_mem _ (edges_mem f es _ e h)
theorem edges_pw (f : Ver → Bool) : ∀ (es : List Ver) (now : Bool), es.Pairwise ltV → (edgesOf f now es).Pairwise ltV
  | [], _, _ => .nil
  | x :: es, now, h => by
    have ⟨h1, h2⟩ := List.pairwise_cons.mp h
    unfold edgesOf
    split
    · exact List.pairwise_cons.mpr ⟨fun e he => h1 e (edges_mem f es _ e he), edges_pw f es _ h2⟩
    · exact edges_pw f es _ h2
def lastf (f : Ver → Bool) : Bool → List Ver → Ver → Bool
  | now, [], _ => now
  | now, e :: es, v => if leV e v then lastf f (f e) es v else now
theorem edges_par (f : Ver → Bool) (v : Ver) : ∀ (es : List Ver) (now : Bool), es.Pairwise ltV → (now != par (edgesOf f now es) v) = lastf f now es v
  | [], now, _ => by simp [edgesOf, par, lastf]
  | e :: es, now, h => by
    have ⟨h1, h2⟩ := List.pairwise_cons.mp h
    by_cases c : leV e v
    · unfold edgesOf lastf
      rw [if_pos c]
      split
      · rename_i q
        have ih := edges_par f v es (!now) h2
        have ef : f e = !now := by cases x : f e <;> cases y : now <;> simp_all
        rw [ef, ← ih]
        simp [par, c]
      · rename_i q
        have ef : f e = now := by cases x : f e <;> cases y : now <;> simp_all
        rw [ef]
        exact edges_par f v es now h2
    · have lt : ltV v e := Classical.not_not.mp c
      have hr : ∀ b, par (edgesOf f b es) v = false := fun b => par_lt fun x hx => ltV_trans lt (h1 x (edges_mem f es b x hx))
      unfold edgesOf lastf
      rw [if_neg c]
      split <;> simp [par, c, hr]
theorem last_is (f : Ver → Bool) (v : Ver) : ∀ (es : List Ver) (now : Bool), es.Pairwise ltV → (∃ e ∈ es, leV e v) → ∃ e ∈ es, leV e v ∧ (∀ x ∈ es, leV x v → leV x e) ∧ lastf f now es v = f e
  | [], _, _, h => by obtain ⟨e, he, _⟩ := h; simp at he
  | e :: es, now, h, hx => by
    have ⟨h1, h2⟩ := List.pairwise_cons.mp h
    have c : leV e v := by
      obtain ⟨x, hx, l⟩ := hx
      rcases List.mem_cons.mp hx with rfl | hx
      · exact l
      · intro z
        exact l (ltV_trans z (h1 x hx))
    unfold lastf
    rw [if_pos c]
    by_cases d : ∃ x ∈ es, leV x v
    · obtain ⟨y, hy, ly, my, ey⟩ := last_is f v es (f e) h2 d
      refine ⟨y, List.mem_cons_of_mem _ hy, ly, fun x hx lx => ?_, ey⟩
      rcases List.mem_cons.mp hx with rfl | hx
      · exact lt_asym (h1 y hy)
      · exact my x hx lx
    · refine ⟨e, List.mem_cons_self, c, fun x hx lx => ?_, ?_⟩
      · rcases List.mem_cons.mp hx with rfl | hx
        · exact ltV_irrefl _
        · exact absurd ⟨x, hx, lx⟩ d
      · cases es with
        | nil => rfl
        | cons y es =>
          unfold lastf
          rw [if_neg fun z => d ⟨y, List.mem_cons_self, z⟩]
end Kw
set_option maxHeartbeats 4000000
namespace Kw
/-! ### the normal form of both sides -/
theorem nf_pairs : ∀ {es : List Ver}, es.Pairwise ltV → (∀ e ∈ es, okV e) → NF (pairsV es)
  | [], _, _ => ⟨fun s h => by simp [pairsV] at h, .nil⟩
  | [a], _, o => ⟨fun s h => by
      simp [pairsV] at h
      subst h
      exact ⟨o a List.mem_cons_self, fun u e => by cases e⟩, by simp [pairsV]⟩
  | a :: b :: r, h, o => by
    have ⟨h1, h'⟩ := List.pairwise_cons.mp h
    have ⟨h2, h3⟩ := List.pairwise_cons.mp h'
    have ih := nf_pairs (es := r) h3 fun e he => o e (List.mem_cons_of_mem _ (List.mem_cons_of_mem _ he))
    have low : ∀ (r : List Ver) (t : Str2), t ∈ pairsV r → t.1 ∈ r := fun r => by
      fun_induction pairsV r with
      | case1 => intro t ht; simp at ht
      | case2 a => intro t ht; simp at ht; subst ht; simp
      | case3 a b r ih =>
        intro t ht
        rcases List.mem_cons.mp ht with rfl | ht
        · exact List.mem_cons_self
        · exact List.mem_cons_of_mem _ (List.mem_cons_of_mem _ (ih t ht))
    refine ⟨fun s hs => ?_, List.pairwise_cons.mpr ⟨fun t ht => ⟨b, rfl, h2 _ (low r t ht)⟩, ih.pw⟩⟩
    rcases List.mem_cons.mp hs with rfl | hs
    · refine ⟨o a List.mem_cons_self, fun u e => ?_⟩
      obtain rfl := Option.some.inj e
      exact ⟨o b (by simp), h1 b List.mem_cons_self⟩
    · exact ih.ok s hs
theorem joins_iff {e : Option Ver} {v : Ver} : joinsE e v = true ↔ ∀ u, e = some u → leV v u := by
  cases e with
  | none => simp [joinsE]
  | some u => simp [joinsE]
theorem later_has {l : Ver} {h h' : Option Ver} {l' v : Ver} (ll : ¬ ltV l' l) (j : joinsE h l' = true) (hs : ∀ u, h = some u → ltV l u) : hasS (l, laterE h h') v = (hasS (l, h) v || hasS (l', h') v) := by
  rw [Bool.eq_iff_iff, Bool.or_eq_true, hasS_iff, hasS_iff, hasS_iff]
  have j' := joins_iff.mp j
  cases h with
  | none =>
    simp only [laterE]
    constructor
    · rintro ⟨a, _⟩; exact .inl ⟨a, fun u e => by cases e⟩
    · rintro (⟨a, _⟩ | ⟨a, _⟩)
      · exact ⟨a, fun u e => by cases e⟩
      · refine ⟨?_, fun u e => by cases e⟩
        skip
        unfold leV ltV at *
        omega
  | some u =>
    have ju := j' u rfl
    cases h' with
    | none =>
      simp only [laterE]
      constructor
      · rintro ⟨a, _⟩
        by_cases c : ltV v u
        · exact .inl ⟨a, fun x e => by obtain rfl := Option.some.inj e; exact c⟩
        · refine .inr ⟨?_, fun u e => by cases e⟩
          unfold leV ltV at *
          omega
      · rintro (⟨a, _⟩ | ⟨a, _⟩)
        · exact ⟨a, fun u e => by cases e⟩
        · refine ⟨?_, fun u e => by cases e⟩
          skip
          unfold leV ltV at *
          omega
    | some w =>
      simp only [laterE, Option.some.injEq, forall_eq']
      unfold maxV leV
      unfold leV at ju
      split
      · rename_i c
        constructor
        · rintro ⟨a, b⟩
          by_cases d : ltV v u
          · exact .inl ⟨a, d⟩
          · refine .inr ⟨?_, b⟩
            unfold ltV at *
            omega
        · rintro (⟨a, b⟩ | ⟨a, b⟩)
          · exact ⟨a, ltV_trans b c⟩
          · refine ⟨?_, b⟩
            unfold ltV at *
            omega
      · rename_i c
        constructor
        · rintro ⟨a, b⟩
          exact .inl ⟨a, b⟩
        · rintro (⟨a, b⟩ | ⟨a, b⟩)
          · exact ⟨a, b⟩
          · refine ⟨?_, ?_⟩ <;> (unfold ltV at *; omega)
theorem nf_step {fs : List Str2} {s : Str2} (h : NF fs) (os : okS s) (lo : ∀ t ∈ fs, ¬ ltV s.1 t.1) : NF (nfAdd fs s) ∧ (∀ v, hasL (nfAdd fs s) v = (hasL fs v || hasS s v)) ∧ ∀ t ∈ nfAdd fs s, ¬ ltV s.1 t.1 := by
  have one : ∀ v, hasL [s] v = hasS s v := fun v => by simp [hasL]
  by_cases j : joinB fs s.1 = true
  · unfold joinB at j
    cases e : fs.getLast? with
    | none => rw [e] at j; cases j
    | some t =>
      rw [e] at j
      have j : joinsE t.2 s.1 = true := j
      obtain ⟨fs', rfl⟩ := List.getLast?_eq_some_iff.mp e
      have en : nfAdd (fs' ++ [t]) s = fs' ++ [(t.1, laterE t.2 s.2)] := by
        unfold nfAdd
        rw [e]
        simp only
        rw [if_pos j, List.dropLast_concat]
      rw [en]
      have ⟨p1, _, p3⟩ := List.pairwise_append.mp h.pw
      have ot := h.ok t (by simp)
      have lt := lo t (by simp)
      have om : okS (t.1, laterE t.2 s.2) := by
        refine ⟨ot.1, fun u hu => ?_⟩
        cases c1 : t.2 with
        | none => rw [c1] at hu; cases hu
        | some a =>
          cases c2 : s.2 with
          | none => rw [c1, c2] at hu; cases hu
          | some b =>
            rw [c1, c2] at hu
            have hu : some (maxV a b) = some u := hu
            obtain rfl := Option.some.inj hu
            have ⟨q1, q2⟩ := ot.2 a c1
            have ⟨r1, r2⟩ := os.2 b c2
            unfold maxV
            split
            · rename_i c
              exact ⟨r1, ltV_trans q2 c⟩
            · exact ⟨q1, q2⟩
      refine ⟨⟨fun x hx => ?_, List.pairwise_append.mpr ⟨p1, List.pairwise_singleton _ _, fun x hx y hy => ?_⟩⟩, fun v => ?_, fun x hx => ?_⟩
      · rcases List.mem_append.mp hx with hx | hx
        · exact h.ok x (List.mem_append_left _ hx)
        · rw [List.mem_singleton.mp hx]; exact om
      · rw [List.mem_singleton.mp hy]
        exact p3 x hx t (by simp)
      · have z : hasS (t.1, laterE t.2 s.2) v = (hasS t v || hasS s v) := later_has lt j fun u e => (ot.2 u e).2
        rw [hasL_app, hasL_app, Bool.or_assoc]
        congr 1
        simp only [hasL, List.any_cons, List.any_nil, Bool.or_false]
        exact z
      · rcases List.mem_append.mp hx with hx | hx
        · exact lo x (List.mem_append_left _ hx)
        · rw [List.mem_singleton.mp hx]; exact lt
  · rw [nfAdd_no j]
    refine ⟨⟨fun x hx => ?_, List.pairwise_append.mpr ⟨h.pw, List.pairwise_singleton _ _, fun x hx y hy => ?_⟩⟩, fun v => by rw [hasL_app, one], fun x hx => ?_⟩
    · rcases List.mem_append.mp hx with hx | hx
      · exact h.ok x hx
      · rw [List.mem_singleton.mp hx]; exact os
    · rw [List.mem_singleton.mp hy]
      unfold joinB at j
      cases e : fs.getLast? with
      | none =>
        have : fs = [] := by simpa using e
        subst this
        simp at hx
      | some t =>
        rw [e] at j
        have j : ¬ joinsE t.2 s.1 = true := j
        obtain ⟨u, eu, lu⟩ : ∃ u, t.2 = some u ∧ ltV u s.1 := by
          cases c : t.2 with
          | none => rw [c] at j; exact absurd rfl j
          | some u =>
            refine ⟨u, rfl, ?_⟩
            rw [c] at j
            have j : ¬ decide (leV s.1 u) = true := j
            simp only [decide_eq_true_eq] at j
            exact Classical.not_not.mp j
        obtain ⟨fs', rfl⟩ := List.getLast?_eq_some_iff.mp e
        rcases List.mem_append.mp hx with hx | hx
        · have ⟨_, _, p3⟩ := List.pairwise_append.mp h.pw
          obtain ⟨a, ea, la⟩ := p3 x hx t (by simp)
          refine ⟨a, ea, ?_⟩
          have := lo t (by simp)
          unfold ltV at *
          omega
        · rw [List.mem_singleton.mp hx]
          exact ⟨u, eu, lu⟩
    · rcases List.mem_append.mp hx with hx | hx
      · exact lo x hx
      · rw [List.mem_singleton.mp hx]; exact ltV_irrefl _
theorem nf_fold : ∀ (ss fs : List Str2), NF fs → (∀ t ∈ fs, ∀ s ∈ ss, ¬ ltV s.1 t.1) → ss.Pairwise (fun p q => ¬ ltV q.1 p.1) → (∀ s ∈ ss, okS s) → NF (ss.foldl nfAdd fs) ∧ ∀ v, hasL (ss.foldl nfAdd fs) v = (hasL fs v || hasL ss v)
  | [], fs, h, _, _, _ => ⟨h, fun v => by simp [hasL]⟩
  | s :: ss, fs, h, lo, pw, ok => by
    have ⟨p1, p2⟩ := List.pairwise_cons.mp pw
    have os := ok s List.mem_cons_self
    obtain ⟨n1, n2, n3⟩ := nf_step h os fun t ht => lo t ht s List.mem_cons_self
    obtain ⟨m1, m2⟩ := nf_fold ss (nfAdd fs s) n1 (fun t ht x hx => by
      have a1 := n3 t ht
      have a2 := p1 x hx
      unfold ltV at *
      omega) p2 fun x hx => ok x (List.mem_cons_of_mem _ hx)
    refine ⟨m1, fun v => ?_⟩
    rw [List.foldl_cons, m2 v, n2 v, hasL_cons, Bool.or_assoc]
theorem ends_low : ∀ {ss : List Str2} {s : Str2}, s ∈ ss → s.1 ∈ endsOf ss ∧ ∀ u, s.2 = some u → u ∈ endsOf ss
  | t :: ss, s, h => by
    rcases List.mem_cons.mp h with rfl | h
    · exact ⟨by simp [endsOf], fun u e => by simp [endsOf, e]⟩
    · obtain ⟨a, b⟩ := ends_low h
      exact ⟨by simp [endsOf, a], fun u e => by simp [endsOf, b u e]⟩
theorem ends_zero : ∀ ss : List Str2, ((0, 0, 0) : Ver) ∈ endsOf ss
  | [] => by simp [endsOf]
  | s :: ss => by simp [endsOf, ends_zero ss]
theorem ends_ok : ∀ {ss : List Str2}, (∀ s ∈ ss, okS s) → ∀ v ∈ endsOf ss, okV v
  | [], _, v, h => by
    simp [endsOf] at h
    subst h
    exact ⟨Int.le_refl _, Int.le_refl _, Int.le_refl _⟩
  | s :: ss, ok, v, h => by
    have os := ok s List.mem_cons_self
    simp only [endsOf, List.mem_cons, List.mem_append, Option.mem_toList] at h
    rcases h with rfl | h | h
    · exact os.1
    · exact (os.2 v h).1
    · exact ends_ok (fun t ht => ok t (List.mem_cons_of_mem _ ht)) v h
/-- what the law reckons at the ends is the normal form -/
theorem nf_main {ss ss' : List Str2} {es : List Ver} (ok : ∀ s ∈ ss, okS s) (pw : es.Pairwise ltV) (hm : ∀ v, v ∈ es ↔ v ∈ endsOf ss) (same : ∀ s, s ∈ ss' ↔ s ∈ ss) (srt : ss'.Pairwise fun p q => ¬ ltV q.1 p.1) :
    ss'.foldl nfAdd [] = pairsV (edgesOf (hasL ss) false es) := by
  obtain ⟨n1, n2⟩ := nf_fold ss' [] ⟨fun s h => (nomatch h), List.Pairwise.nil⟩ (fun t ht => (nomatch ht)) srt fun s hs => ok s ((same s).mp hs)
  have e1 := edges_pw (hasL ss) es false pw
  refine n1.unique (nf_pairs e1 fun e he => ends_ok ok e ((hm e).mp (edges_mem _ _ _ e he))) fun v hv => ?_
  rw [n2 v, hasL_mem same v, pairs_par v e1]
  have z := edges_par (hasL ss) v es false pw
  have z2 : par (edgesOf (hasL ss) false es) v = lastf (hasL ss) false es v := by
    rw [← z]
    cases par (edgesOf (hasL ss) false es) v <;> rfl
  have hz : leV (0, 0, 0) v := by
    obtain ⟨a, b, c⟩ := hv
    unfold leV ltV
    simp only
    omega
  obtain ⟨e, he, le, mx, ef⟩ := last_is (hasL ss) v es false pw ⟨(0, 0, 0), (hm _).mpr (ends_zero ss), hz⟩
  rw [z2, ef]
  have key : ∀ s ∈ ss, hasS s v = hasS s e := fun s hs => by
    have ⟨m1, m2⟩ := ends_low hs
    rw [Bool.eq_iff_iff, hasS_iff, hasS_iff]
    constructor
    · rintro ⟨a, b⟩
      refine ⟨mx _ ((hm _).mpr m1) a, fun u eu => ?_⟩
      have := b u eu
      unfold leV ltV at *
      omega
    · rintro ⟨a, b⟩
      refine ⟨?_, fun u eu => ?_⟩
      · unfold leV ltV at *
        omega
      · have b1 := b u eu
        refine Classical.byContradiction fun c => ?_
        exact (mx u ((hm u).mpr (m2 u eu)) c) b1
  show (false || hasL ss v) = hasL ss e
  rw [Bool.false_or, Bool.eq_iff_iff, hasL_iff, hasL_iff]
  constructor
  · rintro ⟨s, hs, h⟩
    exact ⟨s, hs, by rw [← key s hs]; exact h⟩
  · rintro ⟨s, hs, h⟩
    exact ⟨s, hs, by rw [key s hs]; exact h⟩
end Kw
set_option maxHeartbeats 4000000
namespace Kw
/-! ### the mathematics of common versions and of all others -/
def earlyE : Option Ver → Option Ver → Option Ver
  | none, o => o
  | some a, none => some a
  | some a, some b => some (if ltV b a then b else a)
/-- whether a stretch from low to high has versions -/
def someIn (low : Ver) (high : Option Ver) : Bool := match high with
  | none => true
  | some u => decide (ltV low u)
def comF : Nat → List Str2 → List Str2 → List Str2
  | 0, _, _ => []
  | _ + 1, [], _ => []
  | _ + 1, _ :: _, [] => []
  | n + 1, a :: as, b :: bs => (if someIn (maxV a.1 b.1) (earlyE a.2 b.2) = true then [(maxV a.1 b.1, earlyE a.2 b.2)] else []) ++ (if earlyE a.2 b.2 = a.2 then comF n as (b :: bs) else comF n (a :: as) bs)
def comV (as bs : List Str2) : List Str2 := comF (as.length + bs.length) as bs
theorem comV_nil (bs : List Str2) : comV [] bs = [] := by
  unfold comV
  cases (([] : List Str2).length + bs.length) <;> rfl
theorem comV_nil2 : ∀ as : List Str2, comV as [] = []
  | [] => rfl
  | a :: as => rfl
theorem comV_cons (a : Str2) (as : List Str2) (b : Str2) (bs : List Str2) : comV (a :: as) (b :: bs) =
    (if someIn (maxV a.1 b.1) (earlyE a.2 b.2) = true then [(maxV a.1 b.1, earlyE a.2 b.2)] else []) ++ (if earlyE a.2 b.2 = a.2 then comV as (b :: bs) else comV (a :: as) bs) := by
  have e : (a :: as).length + (b :: bs).length = (as.length + (b :: bs).length) + 1 := by simp only [List.length_cons]; omega
  have e2 : as.length + (b :: bs).length = (a :: as).length + bs.length := by simp only [List.length_cons]; omega
  unfold comV
  rw [e, ← e2]
  rfl
theorem max_le {v a b : Ver} : leV (maxV a b) v ↔ leV a v ∧ leV b v := by
  unfold maxV
  by_cases h : ltV a b
  · rw [if_pos h]
    unfold leV ltV at *
    omega
  · rw [if_neg h]
    unfold leV ltV at *
    omega
theorem early_lt {v : Ver} {x y : Option Ver} : (∀ u, earlyE x y = some u → ltV v u) ↔ (∀ u, x = some u → ltV v u) ∧ ∀ u, y = some u → ltV v u := by
  cases x with
  | none => simp [earlyE]
  | some a =>
    cases y with
    | none => simp [earlyE]
    | some b =>
      simp only [earlyE, Option.some.injEq, forall_eq']
      by_cases h : ltV b a
      · rw [if_pos h]
        unfold ltV at *
        omega
      · rw [if_neg h]
        unfold ltV at *
        omega
theorem has_both {a b : Str2} {v : Ver} : hasS (maxV a.1 b.1, earlyE a.2 b.2) v = (hasS a v && hasS b v) := by
  rw [Bool.eq_iff_iff, Bool.and_eq_true, hasS_iff, hasS_iff, hasS_iff]
  show leV (maxV a.1 b.1) v ∧ (∀ u, earlyE a.2 b.2 = some u → ltV v u) ↔ _
  rw [max_le, early_lt]
  constructor
  · rintro ⟨⟨a1, a2⟩, a3, a4⟩
    exact ⟨⟨a1, a3⟩, a2, a4⟩
  · rintro ⟨⟨a1, a3⟩, a2, a4⟩
    exact ⟨⟨a1, a2⟩, a3, a4⟩
theorem none_in {low v : Ver} {high : Option Ver} (h : ¬ someIn low high = true) : hasS (low, high) v = false := by
  rw [Bool.eq_false_iff, ne_eq, hasS_iff]
  rintro ⟨h1, h2⟩
  cases high with
  | none => exact h rfl
  | some u =>
    have h3 := h2 u rfl
    have h4 : ¬ ltV low u := fun z => h (decide_eq_true z)
    simp only at h1
    unfold leV ltV at *
    omega
theorem one_has {low v : Ver} {high : Option Ver} : hasL (if someIn low high = true then [(low, high)] else []) v = hasS (low, high) v := by
  by_cases h : someIn low high = true
  · rw [if_pos h]
    simp [hasL]
  · rw [if_neg h, none_in h]
    rfl
/-- a stretch that ends first has nothing of what stands behind the other one -/
theorem apart_has {a : Str2} {b : Str2} {bs : List Str2} (h : NF (b :: bs)) (e : earlyE a.2 b.2 = a.2) (v : Ver) : (hasS a v && hasL bs v) = false := by
  rw [Bool.eq_false_iff, ne_eq, Bool.and_eq_true]
  rintro ⟨h1, h2⟩
  obtain ⟨t, ht, h3⟩ := hasL_iff.mp h2
  obtain ⟨u, eu, lu⟩ := h.head ht
  have h4 := (hasS_iff.mp h3).1
  have h5 := (hasS_iff.mp h1).2
  rw [← e] at h5
  have h6 := (early_lt.mp h5).2 u eu
  unfold leV ltV at *
  omega
theorem early_other {x y : Option Ver} (e : ¬ earlyE x y = x) : earlyE y x = y := by
  cases x with
  | none =>
    cases y with
    | none => exact absurd rfl e
    | some b => rfl
  | some a =>
    cases y with
    | none => exact absurd rfl e
    | some b =>
      simp only [earlyE, Option.some.injEq] at e ⊢
      by_cases h : ltV b a
      · rw [if_neg]
        unfold ltV at *
        omega
      · rw [if_neg h] at e
        exact absurd rfl e
theorem com_has : ∀ (as bs : List Str2), NF as → NF bs → ∀ v, hasL (comV as bs) v = (hasL as v && hasL bs v)
  | [], bs, _, _, v => by rw [comV_nil]; rfl
  | a :: as, [], _, _, v => by rw [comV_nil2]; simp [hasL]
  | a :: as, b :: bs, ha, hb, v => by
    rw [comV_cons, hasL_app, one_has, has_both, hasL_cons, hasL_cons]
    by_cases e : earlyE a.2 b.2 = a.2
    · rw [if_pos e, com_has as (b :: bs) ha.tail hb v, hasL_cons]
      have z := apart_has hb e v
      revert z
      cases hasS a v <;> cases hasS b v <;> cases hasL as v <;> cases hasL bs v <;> simp
    · rw [if_neg e, com_has (a :: as) bs ha hb.tail v, hasL_cons]
      have z := apart_has ha (early_other e) v
      revert z
      cases hasS a v <;> cases hasS b v <;> cases hasL as v <;> cases hasL bs v <;> simp
termination_by as bs => as.length + bs.length
theorem com_from : ∀ (as bs : List Str2) (t : Str2), t ∈ comV as bs → (∃ a ∈ as, leV a.1 t.1) ∧ ∃ b ∈ bs, leV b.1 t.1
  | [], bs, t, h => by rw [comV_nil] at h; cases h
  | a :: as, [], t, h => by rw [comV_nil2] at h; cases h
  | a :: as, b :: bs, t, h => by
    rw [comV_cons] at h
    rcases List.mem_append.mp h with h | h
    · split at h
      · obtain rfl := List.mem_singleton.mp h
        have ⟨h1, h2⟩ := max_le.mp (show leV (maxV a.1 b.1) (maxV a.1 b.1) from ltV_irrefl _)
        exact ⟨⟨a, List.mem_cons_self, h1⟩, b, List.mem_cons_self, h2⟩
      · cases h
    · split at h
      · obtain ⟨⟨x, hx, lx⟩, y⟩ := com_from as (b :: bs) t h
        exact ⟨⟨x, List.mem_cons_of_mem _ hx, lx⟩, y⟩
      · obtain ⟨y, x, hx, lx⟩ := com_from (a :: as) bs t h
        exact ⟨y, x, List.mem_cons_of_mem _ hx, lx⟩
termination_by as bs => as.length + bs.length
theorem early_ok {x y : Option Ver} (h1 : ∀ u, x = some u → okV u) (h2 : ∀ u, y = some u → okV u) : ∀ u, earlyE x y = some u → okV u := by
  cases x with
  | none => exact h2
  | some a =>
    cases y with
    | none => exact h1
    | some b =>
      intro u e
      simp only [earlyE, Option.some.injEq] at e
      by_cases h : ltV b a
      · rw [if_pos h] at e
        exact h2 u (by rw [e])
      · rw [if_neg h] at e
        exact h1 u (by rw [e])
theorem com_nf : ∀ (as bs : List Str2), NF as → NF bs → NF (comV as bs)
  | [], bs, _, _ => by rw [comV_nil]; exact ⟨fun s h => (nomatch h), List.Pairwise.nil⟩
  | a :: as, [], _, _ => by rw [comV_nil2]; exact ⟨fun s h => (nomatch h), List.Pairwise.nil⟩
  | a :: as, b :: bs, ha, hb => by
    have oa := ha.ok a List.mem_cons_self
    have ob := hb.ok b List.mem_cons_self
    have rest : NF (if earlyE a.2 b.2 = a.2 then comV as (b :: bs) else comV (a :: as) bs) ∧ ∀ t ∈ (if earlyE a.2 b.2 = a.2 then comV as (b :: bs) else comV (a :: as) bs), ∃ u, earlyE a.2 b.2 = some u ∧ ltV u t.1 := by
      by_cases e : earlyE a.2 b.2 = a.2
      · rw [if_pos e]
        refine ⟨com_nf as (b :: bs) ha.tail hb, fun t ht => ?_⟩
        obtain ⟨⟨x, hx, lx⟩, _⟩ := com_from _ _ t ht
        obtain ⟨u, eu, lu⟩ := ha.head hx
        refine ⟨u, e.trans eu, ?_⟩
        unfold leV ltV at *
        omega
      · rw [if_neg e]
        refine ⟨com_nf (a :: as) bs ha hb.tail, fun t ht => ?_⟩
        obtain ⟨_, x, hx, lx⟩ := com_from _ _ t ht
        obtain ⟨u, eu, lu⟩ := hb.head hx
        have e2 := early_other e
        have e3 : earlyE a.2 b.2 = b.2 := by
          cases h1 : a.2 with
          | none => rfl
          | some p =>
            cases h2 : b.2 with
            | none => rw [h1, h2] at e; exact absurd rfl e
            | some q =>
              rw [h1, h2] at e
              simp only [earlyE, Option.some.injEq] at e ⊢
              by_cases h : ltV q p
              · rw [if_pos h]
              · rw [if_neg h] at e; exact absurd rfl e
        refine ⟨u, e3.trans eu, ?_⟩
        unfold leV ltV at *
        omega
    rw [comV_cons]
    by_cases h : someIn (maxV a.1 b.1) (earlyE a.2 b.2) = true
    · rw [if_pos h]
      refine ⟨fun s hs => ?_, List.pairwise_append.mpr ⟨List.pairwise_singleton _ _, rest.1.pw, fun x hx t ht => ?_⟩⟩
      · rcases List.mem_append.mp hs with hs | hs
        · obtain rfl := List.mem_singleton.mp hs
          refine ⟨?_, fun u eu => ⟨early_ok (fun u e => (oa.2 u e).1) (fun u e => (ob.2 u e).1) u eu, ?_⟩⟩
          · show okV (maxV a.1 b.1)
            unfold maxV
            split
            · exact ob.1
            · exact oa.1
          · have eu : earlyE a.2 b.2 = some u := eu
            rw [eu] at h
            exact of_decide_eq_true h
        · exact rest.1.ok s hs
      · obtain rfl := List.mem_singleton.mp hx
        exact rest.2 t ht
    · rw [if_neg h]
      exact rest.1
termination_by as bs => as.length + bs.length
theorem com_len : ∀ (as bs : List Str2), (comV as bs).length ≤ as.length + bs.length
  | [], bs => by rw [comV_nil]; exact Nat.zero_le _
  | a :: as, [] => by rw [comV_nil2]; exact Nat.zero_le _
  | a :: as, b :: bs => by
    rw [comV_cons, List.length_append]
    have h1 := com_len as (b :: bs)
    have h2 := com_len (a :: as) bs
    simp only [List.length_cons] at *
    split <;> split <;> simp only [List.length_cons, List.length_nil] <;> omega
termination_by as bs => as.length + bs.length
/-- all that is not in stretches, from a version on (none: nothing) -/
def butV : Option Ver → List Str2 → List Str2
  | none, [] => []
  | some v, [] => [(v, none)]
  | none, s :: r => butV s.2 r
  | some v, s :: r => (if ltV v s.1 then [(v, some s.1)] else []) ++ butV s.2 r
abbrev v000 : Ver := (0, 0, 0)
theorem but_main : ∀ (fs : List Str2) (st : Ver), okV st → NF fs → (∀ t ∈ fs, leV st t.1) → NF (butV (some st) fs) ∧ (∀ t ∈ butV (some st) fs, leV st t.1) ∧ (∀ v, hasL (butV (some st) fs) v = (decide (leV st v) && !hasL fs v)) ∧ (butV (some st) fs).length ≤ fs.length + 1
  | [], st, os, _, _ => by
    refine ⟨⟨fun s hs => ?_, List.pairwise_singleton _ _⟩, fun t ht => ?_, fun v => ?_, Nat.le_refl _⟩
    · obtain rfl := List.mem_singleton.mp hs
      exact ⟨os, fun u e => nomatch e⟩
    · obtain rfl := List.mem_singleton.mp ht
      exact ltV_irrefl _
    · simp [butV, hasL, hasS]
  | s :: r, st, os, h, lo => by
    have l0 := lo s List.mem_cons_self
    have ok := h.ok s List.mem_cons_self
    have hsv : ∀ v, leV st v → ltV v s.1 → hasL (s :: r) v = false := fun v _ b => h.first b
    show NF ((if ltV st s.1 then [(st, some s.1)] else []) ++ butV s.2 r) ∧ (∀ t ∈ (if ltV st s.1 then [(st, some s.1)] else []) ++ butV s.2 r, leV st t.1) ∧ (∀ v, hasL ((if ltV st s.1 then [(st, some s.1)] else []) ++ butV s.2 r) v = (decide (leV st v) && !hasL (s :: r) v)) ∧ ((if ltV st s.1 then [(st, some s.1)] else []) ++ butV s.2 r).length ≤ (s :: r).length + 1
    have hone : ∀ v, hasL (if ltV st s.1 then [((st, some s.1) : Str2)] else []) v = (decide (leV st v) && decide (ltV v s.1)) := fun v => by
      by_cases c : ltV st s.1
      · rw [if_pos c]
        simp [hasL, hasS]
      · rw [if_neg c]
        symm
        show (decide (leV st v) && decide (ltV v s.1)) = false
        rw [Bool.and_eq_false_iff, decide_eq_false_iff_not, decide_eq_false_iff_not]
        unfold leV ltV at *
        omega
    cases e : s.2 with
    | none =>
      have rn : r = [] := by
        cases r with
        | nil => rfl
        | cons t r =>
          obtain ⟨u, eu, _⟩ := h.head (t := t) List.mem_cons_self
          rw [e] at eu
          cases eu
      subst rn
      rw [show butV none [] = [] from rfl, List.append_nil]
      refine ⟨?_, ?_, fun v => ?_, ?_⟩
      · by_cases c : ltV st s.1
        · rw [if_pos c]
          exact ⟨fun x hx => by obtain rfl := List.mem_singleton.mp hx; exact ⟨os, fun u eu => by cases eu; exact ⟨ok.1, c⟩⟩, List.pairwise_singleton _ _⟩
        · rw [if_neg c]
          exact ⟨fun x hx => (nomatch hx), List.Pairwise.nil⟩
      · intro t ht
        split at ht
        · obtain rfl := List.mem_singleton.mp ht
          exact ltV_irrefl _
        · cases ht
      · rw [hone v]
        have hs : hasL [s] v = decide (leV s.1 v) := by simp [hasL, hasS, e]
        rw [hs]
        congr 1
        rw [Bool.eq_iff_iff, Bool.not_eq_true', decide_eq_true_eq, decide_eq_false_iff_not]
        unfold leV ltV
        omega
      · split <;> simp
    | some u =>
      obtain ⟨ou, lu⟩ := ok.2 u e
      obtain ⟨m1, m2, m3, m4⟩ := but_main r u ou h.tail fun t ht => by
        obtain ⟨w, ew, lw⟩ := h.head ht
        rw [e] at ew
        cases ew
        unfold leV ltV at *
        omega
      have hr : ∀ v, leV u v → hasS s v = false := fun v hv => by
        rw [Bool.eq_false_iff, ne_eq, hasS_iff]
        rintro ⟨_, b⟩
        exact hv (b u e)
      refine ⟨?_, ?_, fun v => ?_, ?_⟩
      · by_cases c : ltV st s.1
        · rw [if_pos c]
          refine ⟨fun x hx => ?_, List.pairwise_append.mpr ⟨List.pairwise_singleton _ _, m1.pw, fun x hx t ht => ?_⟩⟩
          · rcases List.mem_append.mp hx with hx | hx
            · obtain rfl := List.mem_singleton.mp hx
              exact ⟨os, fun u eu => by cases eu; exact ⟨ok.1, c⟩⟩
            · exact m1.ok x hx
          · obtain rfl := List.mem_singleton.mp hx
            refine ⟨s.1, rfl, ?_⟩
            have := m2 t ht
            unfold leV ltV at *
            omega
        · rw [if_neg c]
          exact m1
      · intro t ht
        rcases List.mem_append.mp ht with ht | ht
        · split at ht
          · obtain rfl := List.mem_singleton.mp ht
            exact ltV_irrefl _
          · cases ht
        · have := m2 t ht
          unfold leV ltV at *
          omega
      · rw [hasL_app, hone v, m3 v, hasL_cons]
        have hs : hasS s v = (decide (leV s.1 v) && decide (ltV v u)) := by unfold hasS; rw [e]
        have hz : leV u v ∨ hasL r v = false := by
          by_cases c : leV u v
          · exact .inl c
          · refine .inr (hasL_lt fun t ht => ?_)
            obtain ⟨w, ew, lw⟩ := h.head ht
            rw [e] at ew
            cases ew
            unfold leV ltV at *
            omega
        rw [hs]
        have a1 : leV st s.1 := l0
        by_cases c1 : ltV v s.1
        · have c2 : ltV v u := by unfold ltV at *; omega
          have c3 : hasL r v = false := by
            rcases hz with hz | hz
            · exact absurd c2 hz
            · exact hz
          have c4 : ¬ leV s.1 v := fun z => z c1
          have c5 : ¬ leV u v := fun z => z c2
          rw [c3, decide_eq_true c1, decide_eq_false c4, decide_eq_false c5]
          simp
        · have c4 : leV s.1 v := c1
          have c6 : leV st v := by unfold leV ltV at *; omega
          rw [decide_eq_false c1, decide_eq_true c4, decide_eq_true c6]
          by_cases c2 : ltV v u
          · have c5 : ¬ leV u v := fun z => z c2
            rw [decide_eq_true c2, decide_eq_false c5]
            simp
          · have c5 : leV u v := c2
            rw [decide_eq_false c2, decide_eq_true c5]
            simp
      · rw [List.length_append, List.length_cons]
        have : (if ltV st s.1 then [((st, some s.1) : Str2)] else []).length ≤ 1 := by split <;> simp
        omega
theorem ok0 : okV v000 := ⟨Int.le_refl _, Int.le_refl _, Int.le_refl _⟩
theorem le0 {v : Ver} (h : okV v) : leV v000 v := by
  obtain ⟨a, b, c⟩ := h
  unfold leV ltV
  simp only
  omega
abbrev notV (fs : List Str2) : List Str2 := butV (some v000) fs
theorem not_nf {fs : List Str2} (h : NF fs) : NF (notV fs) := (but_main fs v000 ok0 h fun t ht => le0 (h.ok t ht).1).1
theorem not_has {fs : List Str2} (h : NF fs) {v : Ver} (o : okV v) : hasL (notV fs) v = !hasL fs v := by
  rw [(but_main fs v000 ok0 h fun t ht => le0 (h.ok t ht).1).2.2.1 v, decide_eq_true (le0 o), Bool.true_and]
theorem not_len {fs : List Str2} (h : NF fs) : (notV fs).length ≤ fs.length + 1 := (but_main fs v000 ok0 h fun t ht => le0 (h.ok t ht).1).2.2.2
abbrev orV (as bs : List Str2) : List Str2 := notV (comV (notV as) (notV bs))
theorem or_nf {as bs : List Str2} (h : NF as) (g : NF bs) : NF (orV as bs) := not_nf (com_nf _ _ (not_nf h) (not_nf g))
theorem or_has {as bs : List Str2} (h : NF as) (g : NF bs) {v : Ver} (o : okV v) : hasL (orV as bs) v = (hasL as v || hasL bs v) := by
  rw [not_has (com_nf _ _ (not_nf h) (not_nf g)) o, com_has _ _ (not_nf h) (not_nf g), not_has h o, not_has g o]
  cases hasL as v <;> cases hasL bs v <;> rfl
abbrev subV (as bs : List Str2) : List Str2 := comV as (notV bs)
theorem sub_nf {as bs : List Str2} (h : NF as) (g : NF bs) : NF (subV as bs) := com_nf _ _ h (not_nf g)
theorem sub_has {as bs : List Str2} (h : NF as) (g : NF bs) {v : Ver} (o : okV v) : hasL (subV as bs) v = (hasL as v && !hasL bs v) := by
  rw [com_has _ _ h (not_nf g), not_has g o]
/-- the normal form that a fold over sorted stretches leaves -/
theorem fold_nf {ss ss' : List Str2} (ok : ∀ s ∈ ss, okS s) (pm : ss'.Perm ss) (pw : ss'.Pairwise fun p q => ¬ ltV q.1 p.1) : NF (ss'.foldl nfAdd []) ∧ ∀ v, hasL (ss'.foldl nfAdd []) v = hasL ss v := by
  obtain ⟨a, b⟩ := nf_fold ss' [] ⟨fun s h => (nomatch h), List.Pairwise.nil⟩ (fun t ht => (nomatch ht)) pw fun s hs => ok s (pm.mem_iff.mp hs)
  refine ⟨a, fun v => ?_⟩
  rw [b v, hasL_mem (fs := ss') (gs := ss) fun s => pm.mem_iff]
  rfl
/-- a property of versions that changes at ends alone -/
def AtEnds (f : Ver → Bool) (es : List Ver) : Prop := ∀ v e, okV v → e ∈ es → leV e v → (∀ x ∈ es, leV x v → leV x e) → f v = f e
theorem hasL_ends {ss : List Str2} {es : List Ver} (h : ∀ v ∈ endsOf ss, v ∈ es) : AtEnds (hasL ss) es := by
  intro v e _ he le mx
  have key : ∀ s ∈ ss, hasS s v = hasS s e := fun s hs => by
    have ⟨m1, m2⟩ := ends_low hs
    rw [Bool.eq_iff_iff, hasS_iff, hasS_iff]
    constructor
    · rintro ⟨p, q⟩
      refine ⟨mx _ (h _ m1) p, fun u eu => ?_⟩
      have := q u eu
      unfold leV ltV at *
      omega
    · rintro ⟨p, q⟩
      refine ⟨?_, fun u eu => ?_⟩
      · unfold leV ltV at *
        omega
      · have q1 := q u eu
        exact Classical.byContradiction fun c => (mx u (h u (m2 u eu)) c) q1
  rw [Bool.eq_iff_iff, hasL_iff, hasL_iff]
  exact ⟨fun ⟨s, hs, x⟩ => ⟨s, hs, by rw [← key s hs]; exact x⟩, fun ⟨s, hs, x⟩ => ⟨s, hs, by rw [key s hs]; exact x⟩⟩
/-- what the law reckons at ends is the normal form of the versions with f -/
theorem ends_main {f : Ver → Bool} {es : List Ver} {fs : List Str2} (pw : es.Pairwise ltV) (ok : ∀ e ∈ es, okV e) (h0 : v000 ∈ es) (at_ : AtEnds f es) (nf : NF fs) (hf : ∀ v, okV v → hasL fs v = f v) : fs = pairsV (edgesOf f false es) := by
  have e1 := edges_pw f es false pw
  refine nf.unique (nf_pairs e1 fun e he => ok e (edges_mem _ _ _ e he)) fun v hv => ?_
  rw [hf v hv, pairs_par v e1]
  have z := edges_par f v es false pw
  have z2 : par (edgesOf f false es) v = lastf f false es v := by
    rw [← z]
    cases par (edgesOf f false es) v <;> rfl
  obtain ⟨e, he, le, mx, ef⟩ := last_is f v es false pw ⟨v000, h0, le0 hv⟩
  rw [z2, ef]
  exact at_ v e hv he le mx
def okVB (v : Ver) : Bool := decide (0 ≤ v.1) && decide (0 ≤ v.2.1) && decide (0 ≤ v.2.2)
theorem okVB_ok {v : Ver} (h : okVB v = true) : okV v := by
  unfold okVB at h
  simp only [Bool.and_eq_true, decide_eq_true_eq] at h
  exact ⟨h.1.1, h.1.2, h.2⟩
/-- whether a written list is a normal form -/
def nfB : List Str2 → Bool
  | [] => true
  | s :: r => okVB s.1 && (match s.2 with
      | none => r.isEmpty
      | some u => okVB u && decide (ltV s.1 u) && (match r with
        | [] => true
        | t :: _ => decide (ltV u t.1))) && nfB r
theorem nfB_ok : ∀ {fs : List Str2}, nfB fs = true → NF fs
  | [], _ => ⟨fun s h => (nomatch h), List.Pairwise.nil⟩
  | s :: r, h => by
    unfold nfB at h
    simp only [Bool.and_eq_true] at h
    obtain ⟨⟨h1, h2⟩, h3⟩ := h
    have n := nfB_ok h3
    have o := okVB_ok h1
    cases e : s.2 with
    | none =>
      rw [e] at h2
      obtain rfl : r = [] := by simpa using h2
      refine ⟨fun t ht => ?_, List.pairwise_singleton _ _⟩
      obtain rfl := List.mem_singleton.mp ht
      exact ⟨o, fun u eu => by rw [e] at eu; cases eu⟩
    | some u =>
      rw [e] at h2
      simp only [Bool.and_eq_true, decide_eq_true_eq] at h2
      obtain ⟨⟨h4, h5⟩, h6⟩ := h2
      refine ⟨fun t ht => ?_, List.pairwise_cons.mpr ⟨fun t ht => ⟨u, e, ?_⟩, n.pw⟩⟩
      · rcases List.mem_cons.mp ht with rfl | ht
        · exact ⟨o, fun x ex => by rw [e] at ex; cases ex; exact ⟨okVB_ok h4, h5⟩⟩
        · exact n.ok t ht
      · cases r with
        | nil => cases ht
        | cons p r =>
          have h6 : ltV u p.1 := of_decide_eq_true h6
          rcases List.mem_cons.mp ht with rfl | ht
          · exact h6
          · exact ltV_trans h6 (n.lows ht)
/-- a written normal form is what a fold over its stretches leaves -/
theorem fold_is {ss ss' : List Str2} (h : nfB ss = true) (pm : ss'.Perm ss) (pw : ss'.Pairwise fun p q => ¬ ltV q.1 p.1) : ss'.foldl nfAdd [] = ss := by
  have n := nfB_ok h
  obtain ⟨a, b⟩ := fold_nf n.ok pm pw
  exact a.unique n fun v _ => b v
end Kw
set_option maxHeartbeats 4000000
namespace Kw
open PySem PySem.Spec PyProof.Rows L2 LamX
/-! ### comprehensions over a string -/
theorem lc_str {z : Str} {g : TG} {tt : TT} {te : TE} {vs : List Nat} {σ : L2.St} {H1 : Hp} {D : Addr} {Qd : Hp → Prop} (Pv : Nat → Hp → Prop) (start : Pv 0 (upd H1 D (.lst [])))
    (step : ∀ j c H, z.cps[j]? = some c → Pv j H → g (.str ⟨#[c]⟩) (wipe σ vs) H fun σ2 H2 => wipe σ2 vs = wipe σ vs ∧ tt σ2 H2 fun b H3 => if b = true then te σ2 H3 fun y H4 => ∃ acc, H4 D = some (.lst acc) ∧ acc.length < sizeLine ∧ Pv (j + 1) (upd H4 D (.lst (acc ++ [y]))) else Pv (j + 1) H3)
    (stop : ∀ H, Pv z.cps.size H → Qd H) :
    ∃ W : Nat → Nat → Hp → Prop, (∃ m, W 0 m (upd H1 D (.lst []))) ∧ ∀ i m H, W i m H → ((Its z).stop i H ∧ Qd H) ∨ ((Its z).go i H ∧ ∃ Nx : Hp → Prop, (∀ H', Nx H' → ∃ m', m' < m ∧ W (i + 1) m' H') ∧ ∀ x H', (Its z).yld i H x H' → g x (wipe σ vs) H' fun σ2 H2 => wipe σ2 vs = wipe σ vs ∧ tt σ2 H2 fun b H3 => if b = true then te σ2 H3 fun y H4 => ∃ acc, H4 D = some (.lst acc) ∧ acc.length < sizeLine ∧ Nx (upd H4 D (.lst (acc ++ [y]))) else Nx H3) := by
  refine ⟨fun i m H => m = z.cps.size - i ∧ i ≤ z.cps.size ∧ Pv i H, ⟨z.cps.size, by simp, Nat.zero_le _, start⟩, fun i m H hw => ?_⟩
  obtain ⟨em, hi, p⟩ := hw
  by_cases lt : i < z.cps.size
  · exact .inr ⟨lt, Pv (i + 1), fun H' p' => ⟨z.cps.size - (i + 1), by omega, rfl, lt, p'⟩, fun x H' y => by obtain ⟨rfl, c, hc, rfl⟩ := y; exact step i c _ hc p⟩
  · have ei : i = z.cps.size := by omega
    rw [ei] at p ⊢
    exact .inl ⟨Nat.le_refl _, stop H p⟩
/-! ### kits -/
abbrev LET : Str := "abcdefghijklmnopqrstuvwxyz"
def inLET (c : Nat) : Bool := decide (c ∈ LET.cps.toList)
def kitS (z : Str) : Bool := decide (1 ≤ z.length) && (decide (z.length ≤ 8) && z.cps.toList.all inLET)
def spIsKit (K : PySem.W.Frag) : Sp := fun vs H Q _ => ∃ (x : V), vs = [x] ∧ ((∃ z : Str, x = .str z ∧ z.length ≤ 1000 ∧ (∀ c ∈ z.cps.toList, PyData.strOk ⟨#[c]⟩ = true) ∧ ∀ H', Same H H' → Q (.bl (kitS z)) H') ∨ ∃ T, Ty K H x T ∧ kitB T "str" = some false ∧ Q (.bl false) H)
section
variable {P : Program} {w : World} {K : PySem.W.Frag} {mg : Str → Option Value} {base : Heap}
theorem arr_take {z : Str} {j c : Nat} (h : z.cps[j]? = some c) : z.cps.toList.take (j + 1) = z.cps.toList.take j ++ [c] := take_snoc (by rw [Array.getElem?_toList]; exact h)
end
end Kw
set_option maxHeartbeats 4000000
namespace Kw
open PySem PySem.Spec PyProof.Rows L2 LamX
/-! ### values that are no tuples -/
inductive Oth (H : Hp) : V → String → Prop
  | flat {x : V} {T : String} : Flat x T → Oth H x T
  | lst {a : Addr} {xs : List V} : H a = some (.lst xs) → Oth H (.ref a) "list"
  | dct {a : Addr} {kvs : List (Key × V)} : H a = some (.dK kvs) → Oth H (.ref a) "dict"
theorem Oth.ty {K : PySem.W.Frag} {H : Hp} {x : V} {T : String} (h : Oth H x T) : Ty K H x T := by
  cases h with
  | flat f => exact f.ty
  | lst e => exact .base (.lst e)
  | dct e => exact .base (.dK e)
theorem Oth.no {H : Hp} {x : V} {T : String} (h : Oth H x T) : kitB T "tuple" = some false := by
  cases h with
  | flat f => cases f <;> decide +kernel
  | lst e => decide +kernel
  | dct e => decide +kernel
theorem Oth.ext {H H' : Hp} {x : V} {T : String} (h : Oth H x T) (e : ExtN H H') : Oth H' x T := by
  cases h with
  | flat f => exact .flat f
  | lst g => exact .lst (e _ _ g fun ps z => nomatch z)
  | dct g => exact .dct (e _ _ g fun ps z => nomatch z)
theorem Oth.fr {H H' : Hp} {x : V} {T : String} {d w : Addr} (h : Oth H x T) (F : Fr2 d w H H') (n1 : x ≠ .ref d) (n2 : x ≠ .ref w) : Oth H' x T := by
  cases h with
  | flat f => exact .flat f
  | lst g => exact .lst (F _ _ (fun z => n1 (by rw [z])) (fun z => n2 (by rw [z])) g)
  | dct g => exact .dct (F _ _ (fun z => n1 (by rw [z])) (fun z => n2 (by rw [z])) g)
/-! ### values that are versions or not -/
inductive VerB (K : PySem.W.Frag) (H : Hp) : V → Bool → Prop
  | tup {a : Addr} {xs : List V} {b : Bool} : SqT K H a xs → (∀ y ∈ xs, xs.length = 3 → ∃ T, Flat y T) → b = (decide (xs.length = 3) && xs.all numV) → VerB K H (.ref a) b
  | oth {x : V} {T : String} : Oth H x T → VerB K H x false
theorem VerB.ext {K : PySem.W.Frag} {H H' : Hp} {x : V} {b : Bool} (h : VerB K H x b) (e : ExtN H H') : VerB K H' x b := by
  cases h with
  | tup t f g => exact .tup (e.sqT t) f g
  | oth o => exact .oth (o.ext e)
theorem VerB.fr {K : PySem.W.Frag} {H H' : Hp} {x : V} {b : Bool} {d w c : Addr} {B : Int} (h : VerB K H x b) (S : StAt H d w c B) (F : Fr2 d w H H') (n1 : x ≠ .ref d) (n2 : x ≠ .ref w) : VerB K H' x b := by
  cases h with
  | tup t f g => exact .tup (F.sqT S t) f g
  | oth o => exact .oth (o.fr F n1 n2)
theorem VerB.of {K : PySem.W.Frag} {H : Hp} {x : V} {v : Ver} (h : IsVer K H x v) (o : okV v) : VerB K H x true := by
  obtain ⟨a, rfl, t⟩ := h
  obtain ⟨o1, o2, o3⟩ := o
  refine VerB.tup t (fun y hy _ => ?_) (by simp [numV, o1, o2, o3])
  simp at hy
  rcases hy with rfl | rfl | rfl <;> exact ⟨_, .int _⟩
def spVerB (K : PySem.W.Frag) : Sp := fun vs H Q _ => ∃ (x : V) (b : Bool), vs = [x] ∧ VerB K H x b ∧ ∀ H', Same H H' → Q (.bl b) H'
theorem verB_of {K : PySem.W.Frag} : ∀ vs H Q E, spVerB K vs H Q E → spIsVer K vs H Q E := by
  rintro vs H Q E ⟨x, b, rfl, h, q⟩
  cases h with
  | tup t f g => exact ⟨_, rfl, .inl ⟨_, _, rfl, t, f, by rw [← g]; exact q⟩⟩
  | oth o => exact ⟨x, rfl, .inr ⟨_, o.ty, o.no, q H (Same.refl H)⟩⟩
/-! ### values that are stretches or not -/
inductive StrB (K : PySem.W.Frag) (H : Hp) : V → Bool → Prop
  | oth {x : V} {T : String} : Oth H x T → StrB K H x false
  | len {a : Addr} {xs : List V} : SqT K H a xs → xs.length ≠ 2 → StrB K H (.ref a) false
  | fst {a : Addr} {x y : V} : SqT K H a [x, y] → VerB K H x false → StrB K H (.ref a) false
  | non {a : Addr} {x : V} {v : Ver} : SqT K H a [x, .non] → IsVer K H x v → okV v → StrB K H (.ref a) true
  | snd {a : Addr} {x y : V} {v : Ver} : SqT K H a [x, y] → IsVer K H x v → okV v → y ≠ .non → VerB K H y false → StrB K H (.ref a) false
  | both {a : Addr} {x y : V} {v u : Ver} : SqT K H a [x, y] → IsVer K H x v → okV v → IsVer K H y u → okV u → StrB K H (.ref a) (decide (ltV v u))
theorem StrB.of {K : PySem.W.Frag} {H : Hp} {x : V} {s : Str2} (h : IsStr K H x s) (o : okS s) : StrB K H x true := by
  obtain ⟨p, l, hh, rfl, t, t1, t2⟩ := h
  obtain ⟨s1, s2⟩ := s
  cases s2 with
  | none =>
    obtain rfl : hh = .non := t2
    exact .non t t1 o.1
  | some u =>
    have ⟨q1, q2⟩ := o.2 u rfl
    have e : decide (ltV s1 u) = true := decide_eq_true q2
    rw [← e]
    exact .both t t1 o.1 t2 q1
def spStrB (K : PySem.W.Frag) : Sp := fun vs H Q _ => ∃ (x : V) (b : Bool), vs = [x] ∧ StrB K H x b ∧ ∀ H', Same H H' → Q (.bl b) H'
theorem ver_ne {K : PySem.W.Frag} {H : Hp} {x : V} {v : Ver} (h : IsVer K H x v) : decide (x = V.non) = false := by
  obtain ⟨a, rfl, _⟩ := h
  rfl
section
variable {P : Program} {w : World} {K : PySem.W.Frag} {mg : Str → Option Value} {base : Heap}
theorem scIsStr : FnScope ["value"] ["value"] (defScope sIsStr) := ⟨rfl, rfl, rfl, by decide +kernel, rfl, by decide +kernel, by decide +kernel⟩
theorem kit_tup : kitB "tuple" "tuple" = some true := by decide +kernel
/-- the program's is_stretch -/
theorem ok_isStr {f : Addr} {fd : FuncData} {k : Nat} (F : Fun K "is_stretch" "is_stretch" sIsStr f fd) (DT : Def P w K mg base "is_tuple_of" CX0 k ["value", "many"] (spTupOf K)) (DV : Def P w K mg base "is_version" CX0 k ["value"] (spVerB K)) : FnOk P w K mg base CX0 (k + 1) f fd ["value"] (spStrB K) := by
  refine F.ok scIsStr (fun vs H Q E h => ?_) (fun cdv A outer s H vs Q E hr h => ?_)
  · obtain ⟨x, b, rfl, _⟩ := h
    rfl
  · obtain ⟨x, b, rfl, h, q⟩ := h
    refine ⟨_, pss_cons (ps_if (PW.pt (pw_or (pt_not (pt_val (pe_d DT hr (pa_cons (pv 0) (pa_cons pe_int pa_nil))))) (pw_or1 (pt_not (pt_val (pe_d DV hr (pa_cons (pe_ix ix_tup (pv 0) pe_int (fun _ _ => rfl)) pa_nil))))))) (pss_one (ps_ret pe_bl)) pss_nil)
      (pss_one (ps_ret (pe_or (pe_cmpR op_isN (pe_ix ix_tup (pv 0) pe_int (fun _ _ => rfl)) pe_non (nomark _)) (pe_one (pe_and (pe_d DV hr (pa_cons (pe_ix ix_tup (pv 0) pe_int (fun _ _ => rfl)) pa_nil)) (pe_one (pe_cmpR (op_ver (op := .Lt) (.inl rfl) hr.units0) (pe_ix ix_tup (pv 0) pe_int (fun _ _ => rfl)) (pe_ix ix_tup (pv 0) pe_int (fun _ _ => rfl)) (nomark _)))))))), ?_⟩
    cases h with
    | oth o => exact ⟨_, rfl, x, 2, rfl, .inr ⟨_, o.ty, o.no, _, rfl, iteT (iteT (q H (Same.refl H)))⟩⟩
    | @len a xs t n =>
      refine ⟨_, rfl, .ref a, 2, rfl, .inl ⟨a, xs, rfl, t, _, rfl, ?_⟩⟩
      have e : decide ((xs.length : Int) = 2) = false := decide_eq_false (by omega)
      rw [e]
      exact iteT (iteT (q H (Same.refl H)))
    | @fst a x y t b =>
      refine ⟨_, rfl, .ref a, 2, rfl, .inl ⟨a, [x, y], rfl, t, _, rfl, iteF ?_⟩⟩
      refine ⟨_, rfl, a, [x, y], 0, x, rfl, rfl, t, atI_nat (j := 0) rfl, x, false, rfl, b, fun H1 s1 => ⟨_, rfl, iteT ?_⟩⟩
      exact q H1 s1
    | @non a x v t iv ov =>
      refine ⟨_, rfl, .ref a, 2, rfl, .inl ⟨a, [x, .non], rfl, t, _, rfl, iteF ?_⟩⟩
      refine ⟨_, rfl, a, [x, .non], 0, x, rfl, rfl, t, atI_nat (j := 0) rfl, x, true, rfl, .of iv ov, fun H1 s1 => ⟨_, rfl, iteF ?_⟩⟩
      exact ⟨_, rfl, a, [x, .non], 1, .non, rfl, rfl, Same.sqT s1 t, atI_nat (j := 1) rfl, rfl, _, rfl, iteT (q H1 s1)⟩
    | @snd a x y v t iv ov n b =>
      refine ⟨_, rfl, .ref a, 2, rfl, .inl ⟨a, [x, y], rfl, t, _, rfl, iteF ?_⟩⟩
      refine ⟨_, rfl, a, [x, y], 0, x, rfl, rfl, t, atI_nat (j := 0) rfl, x, true, rfl, .of iv ov, fun H1 s1 => ⟨_, rfl, iteF ?_⟩⟩
      have e : decide (y = V.non) = false := decide_eq_false n
      refine ⟨_, rfl, a, [x, y], 1, y, rfl, rfl, Same.sqT s1 t, atI_nat (j := 1) rfl, rfl, _, rfl, ?_⟩
      rw [e]
      refine iteF ⟨_, rfl, a, [x, y], 1, y, rfl, rfl, Same.sqT s1 t, atI_nat (j := 1) rfl, y, false, rfl, b.ext (ExtN.same s1), fun H2 s2 => ⟨_, rfl, iteF (q H2 (s1.trans s2))⟩⟩
    | @both a x y v u t iv ov iu ou =>
      refine ⟨_, rfl, .ref a, 2, rfl, .inl ⟨a, [x, y], rfl, t, _, rfl, iteF ?_⟩⟩
      refine ⟨_, rfl, a, [x, y], 0, x, rfl, rfl, t, atI_nat (j := 0) rfl, x, true, rfl, .of iv ov, fun H1 s1 => ⟨_, rfl, iteF ?_⟩⟩
      refine ⟨_, rfl, a, [x, y], 1, y, rfl, rfl, Same.sqT s1 t, atI_nat (j := 1) rfl, rfl, _, rfl, ?_⟩
      rw [ver_ne iu]
      refine iteF ⟨_, rfl, a, [x, y], 1, y, rfl, rfl, Same.sqT s1 t, atI_nat (j := 1) rfl, y, true, rfl, .of (iu.same s1) ou, fun H2 s2 => ⟨_, rfl, iteT ?_⟩⟩
      refine ⟨_, rfl, a, [x, y], 0, x, rfl, rfl, Same.sqT (s1.trans s2) t, atI_nat (j := 0) rfl, _, rfl, a, [x, y], 1, y, rfl, rfl, Same.sqT (s1.trans s2) t, atI_nat (j := 1) rfl, v, u, iv.same (s1.trans s2), iu.same (s1.trans s2), q H2 (s1.trans s2)⟩
end
end Kw
set_option maxHeartbeats 4000000
namespace Kw
open PySem PySem.Spec PyProof.Rows L2 LamX
theorem ones_eq (n : Nat) : PyData.eqv (.list ((List.replicate n (1 : Int)).map PyData.int)) (.list []) = decide (n = 0) := by
  rw [eqv_nil]
  cases n <;> rfl
/-- a test in a comprehension that adds a 1 or not -/
theorem add1 {H H' : Hp} {D : Addr} {n i : Nat} {b c : Bool} {R : Hp → Prop} (s1 : Same H H') (hD : H D = none) (h1 : H' D = some (.lst ((List.replicate n (1 : Int)).map V.int))) (hn : n ≤ 1000)
    (yes : b = true → ∀ H2, Same H H2 → H2 D = some (.lst ((List.replicate (n + 1) (1 : Int)).map V.int)) → R H2) (no : b = false → R H') :
    if b = true then ∃ acc, H' D = some (.lst acc) ∧ acc.length < sizeLine ∧ R (upd H' D (.lst (acc ++ [V.int 1]))) else R H' := by
  cases b with
  | false => exact iteF (no rfl)
  | true =>
    refine iteT ⟨_, h1, by rw [List.length_map, List.length_replicate]; exact small1000 (by omega), yes rfl _ (fun b o z => by rw [upd_ne (ne_of_none z hD)]; exact s1 _ _ z) ?_⟩
    rw [upd_same, List.replicate_succ', List.map_append]
    rfl
section
variable {P : Program} {w : World} {K : PySem.W.Frag} {mg : Str → Option Value} {base : Heap}
end
end Kw
set_option maxHeartbeats 4000000
namespace Kw
open PySem PySem.Spec PyProof.Rows L2 LamX
/-! ### lists of strings, as data -/
theorem dp_strs {K : PySem.W.Frag} {H : Hp} : ∀ ns : List Str, DpAll K H (ns.map V.str) (ns.map PyData.str)
  | [] => .nil
  | n :: ns => .cons (.str n) (dp_strs ns)
theorem cl_strs : ∀ ns : List Str, (∀ n ∈ ns, PyData.strOk n = true) → PyData.canLayAll0 (ns.map PyData.str) = true
  | [], _ => by simp [PyData.canLayAll0]
  | n :: ns, h => by simp [PyData.canLayAll0, PyData.canLay0, cl_strs ns fun x hx => h x (List.mem_cons_of_mem _ hx), h n List.mem_cons_self]
theorem dep_strs : ∀ ns : List Str, PyData.depthAll (ns.map PyData.str) ≤ 1
  | [] => by simp [PyData.depthAll]
  | n :: ns => by
    have := dep_strs ns
    simp [PyData.depthAll, PyData.depth]
    try omega
theorem shaped_strs (ns : List Str) (hn : ∀ n ∈ ns, PyData.strOk n = true) : SeqAt.shaped (.list (ns.map PyData.str)) = true := by
  have h1 := cl_strs ns hn
  have h2 := dep_strs ns
  simp only [SeqAt.shaped, PyData.canLay0, PyData.depth, h1, Bool.true_and]
  exact decide_eq_true (by omega)
theorem eqv_strs (ns : List Str) : PyData.eqv (.list (ns.map PyData.str)) (.list []) = ns.isEmpty := by
  cases ns with
  | nil => simp [PyData.eqv, PyData.eqvAll]
  | cons n ns => simp [PyData.eqv, PyData.eqvAll]
def spIsList (K : PySem.W.Frag) : Sp := fun vs H Q _ => ∃ (x : V) (T : String) (b : Bool), vs = [x] ∧ Ty K H x T ∧ PySem.W.kitAny K (.type T) [.type "list", .type "tuple"] = some b ∧ ∀ H', Same H H' → Q (.bl b) H'
section
variable {P : Program} {w : World} {K : PySem.W.Frag} {mg : Str → Option Value} {base : Heap}
theorem scIsList : FnScope ["value"] ["value"] (defScope sIsList) := ⟨rfl, rfl, rfl, by decide +kernel, rfl, by decide +kernel, by decide +kernel⟩
theorem ok_isList {f : Addr} {fd : FuncData} {k : Nat} (F : Fun K "is_list" "is_list" sIsList f fd) (mi : mg "isinstance" = none) (ml : mg "list" = none) (mt : mg "tuple" = none) : FnOk P w K mg base CX0 (k + 1) f fd ["value"] (spIsList K) := by
  refine F.ok scIsList (fun vs H Q E h => ?_) (fun cdv A outer s H vs Q E hr h => ?_)
  · obtain ⟨x, T, b, rfl, _⟩ := h
    rfl
  · obtain ⟨x, T, b, rfl, ty, ek, q⟩ := h
    refine ⟨_, pss_one (ps_ret (pe_callB call_isiT (by rfl) mi (by decide +kernel) (pa_cons (pv 0) (pa_cons (pe_tup (pa_cons (pe_bltn (v := .ty "list") (by rfl) ml (by decide +kernel) rfl) (pa_cons (pe_bltn (v := .ty "tuple") (by rfl) mt (by decide +kernel) rfl) pa_nil))) pa_nil)))), ?_⟩
    refine ⟨_, rfl, by show 2 ≤ sizeLine; decide, fun tp htp => ?_⟩
    have s1 := same_upd (o := .tup [.ty "list", .ty "tuple"]) htp
    refine ⟨x, tp, _, .type T, [.type "list", .type "tuple"], b, rfl, upd_same, .cons (.ty _) (.cons (.ty _) .nil), ?_, ek, q _ s1⟩
    cases ty with
    | base h =>
      refine .base ?_
      cases h with
      | non => exact .non
      | bl b => exact .bl b
      | int i => exact .int i
      | str z => exact .str z
      | flt z => exact .flt z
      | lst e => exact .lst (s1 _ _ e)
      | frz e => exact .frz (s1 _ _ e)
      | tup e => exact .tup (s1 _ _ e)
      | dK e => exact .dK (s1 _ _ e)
      | dT e => exact .dT (s1 _ _ e)
    | byt b => exact .byt b
    | set e => exact .set (s1 _ _ e)
    | kList e c => exact .kList e c
    | kTuple e c => exact .kTuple e c
    | kDict e c => exact .kDict e c
    | fTuple e => exact .fTuple (s1 _ _ e)
    | fDict e => exact .fDict (s1 _ _ e)
end
end Kw
set_option maxHeartbeats 4000000
namespace Kw
open PySem PySem.Spec PyProof.Rows L2 LamX
open AutoSeq1 (wpAny_loadPart')
/-! ### enumerate of a tuple -/
theorem meets_enumT (l : Addr) (items : Array Value) (n : Nat) (dct : Option Addr) (sl : Array (Option Value)) :
    Meets (Builtin.«enumerate.__new__» ⟨[.type "enumerate", .ref l], []⟩) (fun _ R s => s.heap.get? l = some { cls := .type "tuple", dict := dct, data := .seq items n, slots := sl } ∧
      R (.ok (.ret (.ref (s.heap.push { cls := .type "tuple_iterator", data := .fields #[.ref l, .int 0 0] }).objs.size))) { s with heap := (s.heap.push { cls := .type "tuple_iterator", data := .fields #[.ref l, .int 0 0] }).push { cls := .type "enumerate", data := .fields #[.none, .bool false, .ref s.heap.objs.size, rawInt 0, .none, .none] } }) :=
  .of_wp fun prog w A R s h => by
    obtain ⟨hp, g, d, tk, os⟩ := s
    obtain ⟨hl, h⟩ := h
    have hsub := sub_enumerate
    have hL : Heap.IsTuple (Shared.heap ⟨hp, g, d, tk, os⟩) l items := ⟨_, hl, rfl, n, rfl⟩
    wp_walk using wpAny_loadPart' hl
    refine wpAny_stack_any fun st => wpAny_pure ?_
    split
    · rename_i c _ _ _ _ _
      cases (c == Value.type "enumerate") <;> (wp_walk using wpAny_loadPart' hl, wpAny_pyIter_tuple hL; exact ⟨_, rfl, h⟩)
    · wp_walk using wpAny_loadPart' hl, wpAny_pyIter_tuple hL
      exact ⟨_, rfl, h⟩
section
variable {prog : Program} {w : World} {A : Around} {E : Value → Shared → Prop} {s : Shared}
theorem call_enumT {l : Addr} {items : Array Value} {Q : Value → Shared → Prop} (hL : s.heap.IsTuple l items)
    (h : ∀ h', IsEnum h' (s.heap.objs.size + 1) s.heap.objs.size 0 .none → h'.IsTupleIter s.heap.objs.size l 0 → h'.objs.size = s.heap.objs.size + 2 → (∀ b o, s.heap.get? b = some o → h'.get? b = some o) → Q (.ref (s.heap.objs.size + 1)) { s with heap := h' }) :
    wpAny (model prog w) A (call (.type "enumerate") [.ref l]) Q E s := by
  obtain ⟨⟨c, dct, dt, sl⟩, hl, hc, n, hd⟩ := hL
  replace hc : c = .type "tuple" := hc
  replace hd : dt = .seq items n := hd
  subst hc hd
  refine callType_new F.called_enumerate (by decide) (F.typeCall_enumerate_1 _) (F.newCall_enumerate_1 _) (fun obj => F.args_object_init_2 obj _) F.entry_enumerate_new (meets_enumT l items n dct sl) ⟨hl, ?_⟩
  have hz : (s.heap.push { cls := .type "tuple_iterator", data := .fields #[.ref l, .int 0 0] }).objs.size = s.heap.objs.size + 1 := Heap.size_push ..
  show _ ∧ _
  rw [hz]
  have he : IsEnum ((s.heap.push { cls := .type "tuple_iterator", data := .fields #[.ref l, .int 0 0] }).push { cls := .type "enumerate", data := .fields #[.none, .bool false, .ref s.heap.objs.size, rawInt 0, .none, .none] }) (s.heap.objs.size + 1) s.heap.objs.size 0 .none := by
    have q := Heap.get?_push_size (s.heap.push { cls := .type "tuple_iterator", data := .fields #[.ref l, .int 0 0] }) (o := { cls := .type "enumerate", data := .fields #[.none, .bool false, .ref s.heap.objs.size, rawInt 0, .none, .none] }) rfl
    rw [hz] at q
    exact q
  exact ⟨⟨_, he, rfl⟩, h _ he ⟨_, Heap.get?_push_of_some _ (Heap.get?_push_size _ rfl), rfl, rfl⟩ (by rw [Heap.size_push, hz]) fun b o x => Heap.get?_push_of_some _ (Heap.get?_push_of_some _ x)⟩
end
/-- the tuple at a, each item in a new pair -/
def IteT (K : PySem.W.Frag) (a : Addr) : It :=
  ⟨fun i H => ∃ (xs : List V) (x : V), SqT K H a xs ∧ xs[i]? = some x, fun i H v H' => ∃ T x, v = .ref T ∧ H T = none ∧ H' = upd H T (.tup [.int (i : Nat), x]) ∧ ∀ xs, SqT K H a xs → xs[i]? = some x, fun i H => ∃ xs : List V, SqT K H a xs ∧ xs.length = i⟩
theorem turn_enumT {P : Program} {w : World} {K : PySem.W.Frag} {elts : List Expr} {kk : Nat} {tpos : Pos} (a e it : Addr) (hai : a ≠ it) (hea : e ≠ a) :
    Turn P w K (.Tuple elts kk tpos) (IteT K a) [e, it] e (fun i h => (∃ old, IsEnum h e it ((i : Nat) : Int) old) ∧ h.IsTupleIter it a i ∧ e ≠ it) where
  mem := by simp
  obj := fun i h st b hb => by
    obtain ⟨⟨old, he⟩, ⟨o, ho, hc, hd⟩, _⟩ := st
    have e' : b = e ∨ b = it := by simpa using hb
    rcases e' with z | z
    · rw [z]; exact ⟨_, he, fun v q => nomatch q⟩
    · rw [z]; exact ⟨o, ho, fun v q => by rw [hd] at q; cases q⟩
  keep := fun i h h' st k => let ⟨⟨old, he⟩, hi, hne⟩ := st; ⟨⟨old, k e (by simp) _ he⟩, hi.at fun o q => k it (by simp) o q, hne⟩
  item := by
    intro X hP hw hK hc i pins s σ H E I hf st hg
    subst hP hw hK
    obtain ⟨⟨old, he⟩, hit, hne⟩ := st
    obtain ⟨xs, x, hq, hx⟩ := hg
    obtain ⟨its, rv, p, hz⟩ := I.tuple hq
    have hi' : i < its.toArray.size := by
      have := (List.getElem?_eq_some_iff.mp hx).1
      rw [rv.length] at this
      simpa using this
    have hel : e < s.heap.objs.size := Heap.lt_size he
    have hil : it < s.heap.objs.size := by obtain ⟨_, q, _⟩ := hit; exact Heap.lt_size q
    have D := Draws.tuple (prog := X.prog) (w := X.w) (A := X.A.in1) (I.ok.hd hc) it a hai its.toArray
    refine wpAny_pyNext_enum_itemD D he ⟨hit, p⟩ hi' hne (by simp [hne, hea]) fun u h' tk hu ho hst' hT hsz hk => ?_
    obtain ⟨u', hu', ru⟩ := rv.get hx
    have eu : u' = u := by
      have q : its[i]? = some u := by simpa using hu
      rw [hu'] at q
      exact Option.some.inj q
    subst eu
    refine ⟨_, rfl, wpAny_letOwnedTupleGo_enum (s := { s with heap := h', toks := tk + 1 }) ho fun h'' he' sb => ?_⟩
    have hT2 : h''.get? s.heap.objs.size = some { cls := .type "tuple", data := .seq #[.int i tk, u'] } := (sb.2 _ (Nat.ne_of_gt hel)).trans hT
    have new : ObjOk X.prog X.w (upd H s.heap.objs.size (.tup [.int (i : Nat), x])) h'' s.heap.objs.size (.tup [.int (i : Nat), x]) := ⟨by show 2 ≤ sizeLine; decide, [.int i tk, u'], .cons ⟨_, rfl⟩ (.cons ru .nil), ⟨_, hT2, rfl, _, rfl⟩⟩
    have I1 : Inv X pins σ (upd H s.heap.objs.size (.tup [.int (i : Nat), x])) { s with heap := h'', toks := tk + 1 } :=
      I.turnedNew (ch := [e, it]) (fun b ob hb q => (sb.2 b (fun z => hb (by simp [z]))).trans (hk b ob (fun z => hb (by simp [z])) (fun z => hb (by simp [z])) q)) hf (Nat.le_refl _) new
    refine ⟨.ref s.heap.objs.size, _, I1, rfl, ⟨_, x, rfl, I.hok.fresh (Nat.le_refl _), rfl, fun ys hy => by rw [I.tuple_inj hy hq]; exact hx⟩, ⟨⟨u', ?_⟩, hst'.1.at fun o q => (sb.2 it (Ne.symm hne)).trans q, hne⟩, fun b hb => ?_⟩
    · have e1 : ((i + 1 : Nat) : Int) = (i : Int) + 1 := by omega
      rw [e1]; exact he'
    · have hb' : b < s.heap.objs.size := by
        have e' : b = e ∨ b = it := by simpa using hb
        rcases e' with z | z
        · rw [z]; exact hel
        · rw [z]; exact hil
      rw [upd_ne (Nat.ne_of_lt hb')]
      exact (hf b hb).1
  done := by
    intro X hP hw hK hc i pins s σ H E I hf st hg
    subst hP hw hK
    obtain ⟨⟨old, he⟩, hit, hne⟩ := st
    obtain ⟨xs, hq, hx⟩ := hg
    obtain ⟨its, rv, p, hz⟩ := I.tuple hq
    obtain ⟨f0, f1, f2, f3, f4, f5⟩ := hf it (by simp)
    have en : its.toArray.size = i := by
      rw [List.size_toArray, ← rv.length, hx]
    have D := Draws.tuple (prog := X.prog) (w := X.w) (A := X.A.in1) (I.ok.hd hc) it a hai its.toArray
    refine wpAny_pyNext_enum_endD D he ⟨by rw [en]; exact hit, p⟩ fun h' eb => ⟨rfl, I.turned (t' := s.toks) (fun b o hb q => eb b o hb q) f0 f1 f3 f4 f5⟩
  self := fun A i s Q E st h => let ⟨⟨_, he⟩, _⟩ := st; wpAny_pyIter_enum he h
/-- enumerate(e), e a list or a tuple -/
def iEnumLT (K : PySem.W.Frag) (ta : TA) : TI := fun σ H R => ta σ H fun vs H1 => ∃ a xs, vs = [.ref a] ∧ ((SqL K H1 a xs ∧ R (Ite K a) H1) ∨ (SqT K H1 a xs ∧ R (IteT K a) H1))
theorem pi_enumLT {X : Cx} {e : Expr} {ta : TA} {p pos tpos : Pos} {elts : List Expr} {kk : Nat} (hg : Gl X "enumerate") (hm : X.mg "enumerate" = none) (ha : PA X [e] ta) (hs : starEach [e] X.env = [(false, eval e X.env)] := by rfl) :
    PI X (.Tuple elts kk tpos) (.Call (.Name "enumerate" p) [e] [] pos) (iEnumLT X.K ta) := by
  refine ⟨fun pins s σ H R I h => ?_⟩
  refine Call_ (ld_blt I hg hm boot_enumerate (PyProof.Rows.callWith_type1 (thn (ha.run pos pins s σ H _ I h) fun us s1 ⟨vs, H1, I1, r1, q1⟩ => ?_) hs rfl))
  obtain ⟨a, xs, rfl, q1⟩ := q1
  cases r1 with
  | cons r rr =>
    cases rr
    cases r
    have two : ∀ b, b ∈ [s1.heap.objs.size + 1, s1.heap.objs.size] → s1.heap.objs.size ≤ b := fun b hb => by
      simp at hb
      omega
    rcases q1 with ⟨hq, q⟩ | ⟨hq, q⟩
    · obtain ⟨its, rv, p', hz⟩ := I1.list hq
      refine call_enumerate_list p'.isList fun h' he hit hsz hk => wpAny_pyIter_enum he ?_
      refine ⟨s1.heap.objs.size + 1, [s1.heap.objs.size + 1, s1.heap.objs.size], _, _, H1, rfl, I1.kept (t' := s1.toks) hk, turn_enum a (s1.heap.objs.size + 1) s1.heap.objs.size, ⟨⟨.none, he⟩, hit, Nat.succ_ne_self _⟩, fun b hb => ?_, q⟩
      exact (I1.kept (t' := s1.toks) (fun _ _ z => z)).fpOk (two b hb) (I1.hok.fresh (two b hb))
    · obtain ⟨its, rv, p', hz⟩ := I1.tuple hq
      have hlt : a < s1.heap.objs.size := by obtain ⟨o, ho, _⟩ := p'; exact Heap.lt_size ho
      refine call_enumT (show s1.heap.IsTuple a its.toArray from p') fun h' he hit hsz hk => wpAny_pyIter_enum he ?_
      refine ⟨s1.heap.objs.size + 1, [s1.heap.objs.size + 1, s1.heap.objs.size], _, _, H1, rfl, I1.kept (t' := s1.toks) hk, turn_enumT a (s1.heap.objs.size + 1) s1.heap.objs.size (Nat.ne_of_lt hlt) (fun z => Nat.lt_irrefl _ (Nat.lt_of_lt_of_le (z ▸ hlt : s1.heap.objs.size + 1 < s1.heap.objs.size) (Nat.le_succ _))), ⟨⟨.none, he⟩, hit, Nat.succ_ne_self _⟩, fun b hb => ?_, q⟩
      exact (I1.kept (t' := s1.toks) (fun _ _ z => z)).fpOk (two b hb) (I1.hok.fresh (two b hb))
/-- the for loop over any iterator that goes n times -/
theorem for_any {J : It} {n : Nat} {g : TG} {tb : TS} {D : Ends} {σ : L2.St} {H : Hp} (Pv : Nat → L2.St → Hp → Prop) (h0 : Pv 0 σ H) (go : ∀ i σ H, i < n → Pv i σ H → J.go i H) (stp : ∀ σ H, Pv n σ H → J.stop n H)
    (step : ∀ i σ H x H', i < n → Pv i σ H → J.yld i H x H' → g x σ H' fun σ2 H2 => tb { D with nx := Pv (i + 1), ct := Pv (i + 1), bk := D.nx } σ2 H2) (done : ∀ σ H, Pv n σ H → D.nx σ H) :
    ∃ W : Nat → Nat → L2.St → Hp → Prop, (∃ m, W 0 m σ H) ∧ ∀ i m σ H, W i m σ H → (J.stop i H ∧ D.nx σ H) ∨ (J.go i H ∧ ∃ N : L2.St → Hp → Prop, (∀ σ' H', N σ' H' → ∃ m', m' < m ∧ W (i + 1) m' σ' H') ∧ ∀ x H', J.yld i H x H' → g x σ H' fun σ2 H2 => tb { D with nx := N, ct := N, bk := D.nx } σ2 H2) := by
  refine ⟨fun i m σ H => m = n - i ∧ i ≤ n ∧ Pv i σ H, ⟨n, by simp, Nat.zero_le _, h0⟩, fun i m σ H hw => ?_⟩
  obtain ⟨em, hi, p⟩ := hw
  by_cases lt : i < n
  · exact .inr ⟨go i σ H lt p, Pv (i + 1), fun σ' H' p' => ⟨n - (i + 1), by omega, rfl, lt, p'⟩, fun x H' y => step i σ H x H' lt p y⟩
  · have ei : i = n := by omega
    rw [ei] at p ⊢
    exact .inl ⟨stp σ H p, done σ H p⟩
end Kw
set_option maxHeartbeats 4000000
namespace Kw
open PySem PySem.Spec PyProof.Rows L2 LamX
abbrev sChkV : Stmt := top 23
abbrev sNextV : Stmt := top 25
abbrev sChkS : Stmt := top 27
/-- an own error without __init__, called x, at C -/
structure OwnErr (K : PySem.W.Frag) (mg : Str → Option Value) (x : Str) (C : Addr) : Prop where
  ex : ∃ (B newId initId : String) (bmB : List Value), ExcBaseFacts B newId initId bmB ∧ PySem.W.excIn K C bmB newId = true
  gC : mg x = some (.ref C)
  kC : PySem.W.keepIn K (.ref C) = true
  sub : PySem.W.subIn K (.ref C) (.type "BaseException") = some true
  ty : PySem.W.typeIn K (.ref C) = some (.type "type")
theorem pmk_o {X : Cx} {C : Addr} {x m : Str} {j : Nat} {p p2 pos : Pos} (O : OwnErr X.K X.mg x C) (hg : Gl X x := by rfl) (hdb : (x == ("__debug__" : Str)) = false := by decide) :
    PMk X (.Call (.Name x p) [.Constant (.str m) j p2] [] pos) (fun _ H Q => Q (.ref C) none H) := by
  obtain ⟨B, n, i, bm, F, q⟩ := O.ex
  exact pmk_own F q O.gC O.kC (raises_own O.sub O.ty) hg hdb
/-- an own error with super().__init__, called x, at C -/
structure SupErr (P : Program) (K : PySem.W.Frag) (mg : Str → Option Value) (x : Str) (C : Addr) : Prop where
  ex : ∃ (fI cc cd : Addr) (qual : Str), Ks.SupTxt P K mg C fI cc cd qual
  gC : mg x = some (.ref C)
  kC : PySem.W.keepIn K (.ref C) = true
  sub : PySem.W.subIn K (.ref C) (.type "BaseException") = some true
  ty : PySem.W.typeIn K (.ref C) = some (.type "type")
section
variable {X : Cx}
theorem ps_raiseS {x : Str} {a : Expr} {ta : TA} {W : WX} {p pos pos2 : Pos} {k : Nat} {C : Addr} (O : SupErr X.prog X.K X.mg x C) (hc : X.calm = true) (hr : Room k X.A) (tk : Takes X W) (ha : PA X [a] ta) (hg : Gl X x := by rfl)
    (hdb : (x == ("__debug__" : Str)) = false := by decide) (he : starEach (a :: []) X.env = (false, eval a X.env) :: starEach [] X.env := by rfl) (hpl : (backTo pos (starEach [] X.env)).any (·.1) = false := by rfl) :
    PS X (.Raise (some (.Call (.Name x p) [a] [] pos)) none pos2) (tRaiseSup C W ta) := by
  obtain ⟨fI, cc, cd, qual, T⟩ := O.ex
  exact ps_raiseSup hc T O.gC O.kC (raises_own O.sub O.ty) hr tk ha hg hdb he hpl
end
/-- a def that may raise, found by its name -/
structure DefX (P : Program) (w : World) (K : PySem.W.Frag) (mg : Str → Option Value) (base : Heap) (x : Str) (k : Nat) (ps : List Str) (sp : Sp) : Prop where
  ex : ∃ f fd, FnOk P w K mg base (L2.CX P w) k f fd ps sp ∧ mg x = some (.ref f) ∧ PySem.W.keepIn K (.ref f) = true ∧ Binds K fd ps []
theorem pe_dX {X : Cx} {x : Str} {k : Nat} {ps : List Str} {sp : Sp} {p pos : Pos} {e : Expr} {es : List Expr} {t : TA} {W : WX} (D : DefX X.prog X.w X.K X.mg X.base x k ps sp) (hr : Room k X.A) (tk : Takes X W) (ha : PA X (e :: es) t) (hg : Gl X x := by rfl)
    (hdb : (x == ("__debug__" : Str)) = false := by decide) (he : starEach (e :: es) X.env = (false, eval e X.env) :: starEach es X.env := by rfl) (hpl : (backTo pos (starEach es X.env)).any (·.1) = false := by rfl) :
    PE X (.Call (.Name x p) (e :: es) [] pos) (tCallS sp (fun σ => WE W σ) t) := by
  obtain ⟨f, fd, F, hm, hk, hb⟩ := D.ex
  exact pe_callS F hr hg hm hk hb (fun σ => passAt tk σ) ha hdb he hpl
def spChkV (K : PySem.W.Frag) (CV : Addr) : Sp := fun vs H Q E => ∃ (x : V) (b : Bool), vs = [x] ∧ VerB K H x b ∧ (b = true → ∀ H', Same H H' → Q .non H') ∧ (b = false → ∀ H', Same H H' → E (.ref CV) none H')
def spNextV (K : PySem.W.Frag) (CV : Addr) : Sp := fun vs H Q E => ∃ (x : V), vs = [x] ∧ ((∃ v, IsVer K H x v ∧ okV v ∧ ∀ H' p, Same H H' → H' p = some (.tup (v3 (v.1, v.2.1, v.2.2 + 1))) → Q (.ref p) H') ∨ (VerB K H x false ∧ ∀ H', Same H H' → E (.ref CV) none H'))
section
variable {P : Program} {w : World} {K : PySem.W.Frag} {mg : Str → Option Value} {base : Heap}
theorem scChkV : FnScope ["version"] ["version"] (defScope sChkV) := ⟨rfl, rfl, rfl, by decide +kernel, rfl, by decide +kernel, by decide +kernel⟩
theorem scNextV : FnScope ["version"] ["version"] (defScope sNextV) := ⟨rfl, rfl, rfl, by decide +kernel, rfl, by decide +kernel, by decide +kernel⟩
theorem ok_chkV {f CV : Addr} {fd : FuncData} {k : Nat} (F : Fun K "check_version" "check_version" sChkV f fd) (O : OwnErr K mg "BadVersion" CV) (DV : Def P w K mg base "is_version" CX0 k ["value"] (spVerB K)) : FnOk P w K mg base (L2.CX P w) (k + 1) f fd ["version"] (spChkV K CV) := by
  refine F.okX scChkV (fun vs H Q E h => ?_) (fun cdv A outer s H vs Q E hr h => ?_)
  · obtain ⟨x, b, rfl, _⟩ := h
    rfl
  · obtain ⟨x, b, rfl, hb, q1, q2⟩ := h
    refine ⟨_, pss_one (ps_if (pt_not (pt_val (pe_d DV hr (pa_cons (pv 0) pa_nil)))) (pss_one (ps_raise rfl (takes_of rfl rfl rfl rfl) (pmk_o O))) pss_nil), ?_⟩
    refine ⟨x, rfl, x, b, rfl, hb, fun H1 s1 => ⟨_, rfl, ?_⟩⟩
    cases b with
    | true => exact iteF (q1 rfl H1 s1)
    | false => exact iteT (q2 rfl H1 s1)
theorem ok_nextV {f CV : Addr} {fd : FuncData} {k : Nat} (F : Fun K "next_version" "next_version" sNextV f fd) (DC : DefX P w K mg base "check_version" k ["version"] (spChkV K CV)) : FnOk P w K mg base (L2.CX P w) (k + 1) f fd ["version"] (spNextV K CV) := by
  refine F.okX scNextV (fun vs H Q E h => ?_) (fun cdv A outer s H vs Q E hr h => ?_)
  · obtain ⟨x, rfl, _⟩ := h
    rfl
  · obtain ⟨x, rfl, h⟩ := h
    refine ⟨_, pss_cons (ps_expr (pe_dX DC hr (takes_of rfl rfl rfl rfl) (pa_cons (pv 0) pa_nil)))
      (pss_one (ps_ret (pe_tup (pa_cons (pe_ix ix_tup (pv 0) pe_int (fun _ _ => rfl)) (pa_cons (pe_ix ix_tup (pv 0) pe_int (fun _ _ => rfl)) (pa_cons (pe_op op_add (pe_ix ix_tup (pv 0) pe_int (fun _ _ => rfl)) pe_int) pa_nil)))))), ?_⟩
    rcases h with ⟨v, hv, ov, q⟩ | ⟨hb, q⟩
    · obtain ⟨a, rfl, ha⟩ := hv
      refine ⟨.ref a, rfl, .ref a, true, rfl, .of ⟨a, rfl, ha⟩ ov, fun _ H1 s1 => ?_, fun z => nomatch z⟩
      have ha1 := Same.sqT s1 ha
      refine ⟨_, rfl, a, v3 v, 0, .int v.1, rfl, rfl, ha1, atI_nat (j := 0) rfl, _, rfl, a, v3 v, 1, .int v.2.1, rfl, rfl, ha1, atI_nat (j := 1) rfl, _, rfl, a, v3 v, 2, .int v.2.2, rfl, rfl, ha1, atI_nat (j := 2) rfl, _, 1, rfl, rfl, by show 3 ≤ sizeLine; decide, fun p hp => ?_⟩
      exact q _ p (s1.trans (same_upd hp)) upd_same
    · exact ⟨x, rfl, x, false, rfl, hb, (fun z => nomatch z), fun _ H1 s1 => q H1 s1⟩
end
end Kw
set_option maxHeartbeats 4000000
namespace Kw
open PySem PySem.Spec PyProof.Rows L2 LamX
/-- the error BadRange(v) leaves, from H on -/
def XAt (E : XK) (CR : Addr) (v : V) (H : Hp) : Prop := ∀ H' d, Same H H' → H' d = some (.xd [(("at" : Str), v)]) → E (.ref CR) (some d) H'
theorem kl_lst {K : PySem.W.Frag} : PySem.W.kitAny K (.type "list") [.type "list", .type "tuple"] = some true := kitAny_cons (b := true) (kit_ty (by decide +kernel)) (fun z => nomatch z) fun _ => rfl
theorem kl_tup {K : PySem.W.Frag} : PySem.W.kitAny K (.type "tuple") [.type "list", .type "tuple"] = some true := kitAny_cons (b := false) (kit_ty (by decide +kernel)) (fun _ => kitAny_cons (b := true) (kit_ty (by decide +kernel)) (fun z => nomatch z) fun _ => rfl) fun z => nomatch z
/-- no list and no tuple -/
inductive NoLT (H : Hp) : V → String → Prop
  | flat {x : V} {T : String} : Flat x T → NoLT H x T
  | dct {a : Addr} {kvs : List (Key × V)} : H a = some (.dK kvs) → NoLT H (.ref a) "dict"
theorem NoLT.oth {H : Hp} {x : V} {T : String} (h : NoLT H x T) : Oth H x T := by
  cases h with
  | flat f => exact .flat f
  | dct e => exact .dct e
theorem NoLT.no {K : PySem.W.Frag} {H : Hp} {x : V} {T : String} (h : NoLT H x T) : PySem.W.kitAny K (.type T) [.type "list", .type "tuple"] = some false := by
  have go : ∀ {T : String}, kitB T "list" = some false → kitB T "tuple" = some false → PySem.W.kitAny K (.type T) [.type "list", .type "tuple"] = some false := fun h1 h2 => kitAny_cons (kit_ty h1) (fun _ => kitAny_cons (kit_ty h2) (fun _ => kitAny_nil) fun z => nomatch z) fun z => nomatch z
  cases h with
  | flat f => cases f <;> exact go (by decide +kernel) (by decide +kernel)
  | dct e => exact go (by decide +kernel) (by decide +kernel)
theorem ty_lst {K : PySem.W.Frag} {H : Hp} {a : Addr} {xs : List V} (h : SqL K H a xs) : Ty K H (.ref a) "list" := by
  rcases h with (h | ⟨o, h⟩) | ⟨o, its, n, h, c, _⟩
  · exact .base (.lst h)
  · exact .base (.frz h)
  · exact .kList h c
theorem SqLT.kit {K : PySem.W.Frag} {H : Hp} {a : Addr} {xs : List V} (h : SqLT K H a xs) : ∃ T, Ty K H (.ref a) T ∧ PySem.W.kitAny K (.type T) [.type "list", .type "tuple"] = some true := by
  rcases h with h | h
  · exact ⟨_, ty_lst h, kl_lst⟩
  · exact ⟨_, ty_tup h, kl_tup⟩
theorem SqLT.ext {K : PySem.W.Frag} {H H' : Hp} {a : Addr} {xs : List V} (h : SqLT K H a xs) (e : ExtN H H') : SqLT K H' a xs := h.elim (fun h => .inl (e.sqL h)) fun h => .inr (e.sqT h)
/-- each item is judged -/
structure Judged (K : PySem.W.Frag) (H : Hp) (xs : List V) (bs : List Bool) : Prop where
  len : xs.length = bs.length
  at_ : ∀ (i : Nat) (x : V) (b : Bool), xs[i]? = some x → bs[i]? = some b → StrB K H x b
theorem StrB.ext {K : PySem.W.Frag} {H H' : Hp} {x : V} {b : Bool} (h : StrB K H x b) (e : ExtN H H') : StrB K H' x b := by
  cases h with
  | oth o => exact .oth (o.ext e)
  | len t n => exact .len (e.sqT t) n
  | fst t v => exact .fst (e.sqT t) (v.ext e)
  | non t v o => exact .non (e.sqT t) (e.ver v) o
  | snd t v o n y => exact .snd (e.sqT t) (e.ver v) o n (y.ext e)
  | both t v o u p => exact .both (e.sqT t) (e.ver v) o (e.ver u) p
theorem Judged.ext {K : PySem.W.Frag} {H H' : Hp} {xs : List V} {bs : List Bool} (h : Judged K H xs bs) (e : ExtN H H') : Judged K H' xs bs := ⟨h.len, fun i x b p q => (h.at_ i x b p q).ext e⟩
theorem enum_pick {K : PySem.W.Frag} {H : Hp} {a : Addr} {xs : List V} {R : It → Hp → Prop} (h : SqLT K H a xs) (q : ∀ J, (J = Ite K a ∧ SqL K H a xs) ∨ (J = IteT K a ∧ SqT K H a xs) → R J H) : (SqL K H a xs ∧ R (Ite K a) H) ∨ (SqT K H a xs ∧ R (IteT K a) H) := by
  rcases h with h | h
  · exact .inl ⟨h, q _ (.inl ⟨rfl, h⟩)⟩
  · exact .inr ⟨h, q _ (.inr ⟨rfl, h⟩)⟩
def spChkS (K : PySem.W.Frag) (CR : Addr) : Sp := fun vs H Q E => ∃ (x : V), vs = [x] ∧ ((∃ T, NoLT H x T ∧ XAt E CR .non H) ∨ ∃ a xs, x = .ref a ∧ SqLT K H a xs ∧ xs.length ≤ 1000 ∧ ((40 < xs.length ∧ XAt E CR .non H) ∨
  (xs.length ≤ 40 ∧ ∃ bs, Judged K H xs bs ∧ (bs.all id = true → ∀ H', Same H H' → Q .non H') ∧ ∀ i : Nat, bs[i]? = some false → (∀ j, j < i → bs[j]? = some true) → XAt E CR (.int (i : Int)) H)))
section
variable {P : Program} {w : World} {K : PySem.W.Frag} {mg : Str → Option Value} {base : Heap}
theorem scChkS : FnScope ["stretches", "at", "stretch"] ["stretches"] (defScope sChkS) := ⟨rfl, rfl, rfl, by decide +kernel, rfl, by decide +kernel, by decide +kernel⟩
theorem log_small (i : Nat) (h : i < 1000) : ((i : Int).natAbs).log2 < 1920 := by
  have e : ((i : Int).natAbs) = i := by simp
  rw [e]
  by_cases z : i = 0
  · subst z
    decide
  · refine (Nat.log2_lt z).mpr (Nat.lt_of_lt_of_le h (Nat.le_trans (show 1000 ≤ 2 ^ 10 by decide) (Nat.pow_le_pow_right (by decide) (by decide))))
theorem ok_chkS {f CR : Addr} {fd : FuncData} {k : Nat} {tM : Tok} (F : Fun K "check_stretches" "check_stretches" sChkS f fd) (O : SupErr P K mg "BadRange" CR) (ml : mg "len" = none) (me : mg "enumerate" = none) (mM : mg "MOST_STRETCHES" = some (.int 40 tM))
    (DL : Def P w K mg base "is_list" CX0 k ["value"] (spIsList K)) (DS : Def P w K mg base "is_stretch" CX0 k ["value"] (spStrB K)) : FnOk P w K mg base (L2.CX P w) (k + 1) f fd ["stretches"] (spChkS K CR) := by
  refine F.okX scChkS (fun vs H Q E h => ?_) (fun cdv A outer s H vs Q E hr h => ?_)
  · obtain ⟨x, rfl, _⟩ := h
    rfl
  · obtain ⟨x, rfl, h⟩ := h
    refine ⟨_, pss_cons (ps_if (PW.pt (pw_or (pt_not (pt_val (pe_d DL hr (pa_cons (pv 0) pa_nil)))) (pw_or1 (pt_cmpR op_gt (pe_callB call_len_seq (by rfl) ml PySem.boot_len (pa_cons (pv 0) pa_nil)) (pe_glob (v := .int 40) (by rfl) mM ⟨tM, rfl⟩) (nomark _)))))
        (pss_one (ps_raiseS O rfl hr (takes_of rfl rfl rfl rfl) (pa_cons pe_non pa_nil))) pss_nil)
      (pss_one (ps_for (passes_of rfl) rfl (pi_enumLT (by rfl) me (pa_cons (pv 0) pa_nil)) (pg_tup rfl (pgs_cons (pg_name (i := 1) scChkS.nd rfl (.inl rfl)) (pgs_cons (pg_name (i := 2) scChkS.nd rfl (.inl rfl)) pgs_nil)))
        (pss_one (ps_if (pt_not (pt_val (pe_d DS hr (pa_cons (pv 2) pa_nil)))) (pss_one (ps_raiseS O rfl hr (takes_of rfl rfl rfl rfl) (pa_cons (pv 1) pa_nil))) pss_nil)))), ?_⟩
    rcases h with ⟨T, hx, q⟩ | ⟨a, xs, rfl, hS, hl, h⟩
    · refine ⟨x, rfl, x, T, false, rfl, hx.oth.ty, hx.no, fun H1 s1 => ⟨_, rfl, iteT (iteT ⟨.non, rfl, .inl rfl, fun d hd => ?_⟩)⟩⟩
      exact q _ d (s1.trans (same_upd hd)) upd_same
    · obtain ⟨T, ty, ek⟩ := hS.kit
      refine ⟨_, rfl, .ref a, T, true, rfl, ty, ek, fun H1 s1 => ⟨_, rfl, iteF ?_⟩⟩
      have hS1 := hS.ext (ExtN.same s1)
      refine ⟨_, rfl, a, xs, rfl, hS1, (xs.length : Int), 40, rfl, rfl, _, rfl, ?_⟩
      rcases h with ⟨hlt, q⟩ | ⟨hle, bs, hj, q1, q2⟩
      · have e : decide ((xs.length : Int) > 40) = true := decide_eq_true (by omega)
        rw [e]
        refine iteT ⟨.non, rfl, .inl rfl, fun d hd => ?_⟩
        exact q _ d (s1.trans (same_upd hd)) upd_same
      · have e : decide ((xs.length : Int) > 40) = false := decide_eq_false (by omega)
        rw [e]
        refine iteF ?_
        have body : ∀ (J : It), ((J = Ite K a ∧ SqL K H1 a xs) ∨ (J = IteT K a ∧ SqT K H1 a xs)) → ∀ {g : TG} {tb : TS} {D : Ends} {σ : L2.St}, (∀ i σ H2 x T H', i < xs.length → Same H1 H2 → xs[i]? = some x → H2 T = none → H' = upd H2 T (.tup [.int (i : Nat), x]) → (∀ j, j < i → bs[j]? = some true) → (∃ y1 y2, σ = [some (.ref a), y1, y2]) →
            g (.ref T) σ H' fun σ2 H2 => tb { D with nx := fun σ3 H3 => (∃ y1 y2, σ3 = [some (.ref a), y1, y2]) ∧ Same H1 H3 ∧ ∀ j, j < i + 1 → bs[j]? = some true, ct := fun σ3 H3 => (∃ y1 y2, σ3 = [some (.ref a), y1, y2]) ∧ Same H1 H3 ∧ ∀ j, j < i + 1 → bs[j]? = some true, bk := D.nx } σ2 H2) →
            (∀ σ H3, Same H1 H3 → (∀ j, j < xs.length → bs[j]? = some true) → D.nx σ H3) → (∃ y1 y2, σ = [some (.ref a), y1, y2]) →
            ∃ W : Nat → Nat → L2.St → Hp → Prop, (∃ m, W 0 m σ H1) ∧ ∀ i m σ H, W i m σ H → (J.stop i H ∧ D.nx σ H) ∨ (J.go i H ∧ ∃ N : L2.St → Hp → Prop, (∀ σ' H', N σ' H' → ∃ m', m' < m ∧ W (i + 1) m' σ' H') ∧ ∀ x H', J.yld i H x H' → g x σ H' fun σ2 H2 => tb { D with nx := N, ct := N, bk := D.nx } σ2 H2) := by
          intro J hJ g tb D σ step done hσ
          refine for_any (n := xs.length) (fun i σ H' => (∃ y1 y2, σ = [some (.ref a), y1, y2]) ∧ Same H1 H' ∧ ∀ j, j < i → bs[j]? = some true) ⟨hσ, Same.refl _, fun j hj => absurd hj (Nat.not_lt_zero _)⟩ ?_ ?_ ?_ (fun σ H2 p => done σ H2 p.2.1 p.2.2)
          · rintro i σ H2 hi ⟨_, sH, _⟩
            rcases hJ with ⟨rfl, z⟩ | ⟨rfl, z⟩
            · exact ⟨xs, xs[i], (ExtN.same sH).sqL z, List.getElem?_eq_getElem hi⟩
            · exact ⟨xs, xs[i], (ExtN.same sH).sqT z, List.getElem?_eq_getElem hi⟩
          · rintro σ H2 ⟨_, sH, _⟩
            rcases hJ with ⟨rfl, z⟩ | ⟨rfl, z⟩
            · exact ⟨xs, (ExtN.same sH).sqL z, Nat.le_refl _⟩
            · exact ⟨xs, (ExtN.same sH).sqT z, rfl⟩
          · rintro i σ H2 y H' hi ⟨hσ, sH, hb⟩ hy
            rcases hJ with ⟨rfl, z⟩ | ⟨rfl, z⟩
            · obtain ⟨T, x, rfl, hT, rfl, hx⟩ := hy
              exact step i σ H2 x T _ hi sH (hx xs ((ExtN.same sH).sqL z)) hT rfl hb hσ
            · obtain ⟨T, x, rfl, hT, rfl, hx⟩ := hy
              exact step i σ H2 x T _ hi sH (hx xs ((ExtN.same sH).sqT z)) hT rfl hb hσ
        rcases hS1 with z | z
        · refine ⟨_, rfl, a, xs, rfl, .inl ⟨z, body _ (.inl ⟨rfl, z⟩) ?_ ?_ ⟨none, none, rfl⟩⟩⟩
          · rintro i σ H2 x T H' hi s2 hx hT eH hb hσ
            obtain ⟨y1, y2, rfl⟩ := hσ
            subst eH
            have s3 := same_upd (o := .tup [.int (i : Nat), x]) hT
            have hbi : ∃ b, bs[i]? = some b := ⟨bs[i]'(by rw [← hj.len]; exact hi), List.getElem?_eq_getElem _⟩
            obtain ⟨b, hb'⟩ := hbi
            have jx := ((hj.ext (ExtN.same ((s1.trans s2).trans s3))).at_ i x b hx hb')
            refine ⟨T, [.int (i : Nat), x], rfl, .inl (.inl upd_same), rfl, _, _, rfl, _, _, rfl, rfl, ?_⟩
            refine ⟨_, rfl, x, b, rfl, jx, fun H4 s4 => ⟨_, rfl, ?_⟩⟩
            cases b with
            | true =>
              refine iteF ⟨⟨_, _, rfl⟩, (s2.trans s3).trans s4, fun j hj' => ?_⟩
              by_cases e : j < i
              · exact hb j e
              · have e : j = i := by omega
                rw [e]
                exact hb'
            | false =>
              refine iteT ⟨_, rfl, _, rfl, .inr ⟨_, rfl, log_small i (by omega)⟩, fun d hd => ?_⟩
              exact q2 i hb' hb _ d ((((s1.trans s2).trans s3).trans s4).trans (same_upd hd)) upd_same
          · intro σ H3 s3 all
            refine q1 ?_ H3 (s1.trans s3)
            rw [List.all_eq_true]
            intro b hb
            obtain ⟨j, hj'⟩ := List.getElem?_of_mem hb
            have := all j (by rw [hj.len]; exact (List.getElem?_eq_some_iff.mp hj').1)
            rw [hj'] at this
            obtain rfl := Option.some.inj this
            rfl
        · refine ⟨_, rfl, a, xs, rfl, .inr ⟨z, body _ (.inr ⟨rfl, z⟩) ?_ ?_ ⟨none, none, rfl⟩⟩⟩
          · rintro i σ H2 x T H' hi s2 hx hT eH hb hσ
            obtain ⟨y1, y2, rfl⟩ := hσ
            subst eH
            have s3 := same_upd (o := .tup [.int (i : Nat), x]) hT
            have hbi : ∃ b, bs[i]? = some b := ⟨bs[i]'(by rw [← hj.len]; exact hi), List.getElem?_eq_getElem _⟩
            obtain ⟨b, hb'⟩ := hbi
            have jx := ((hj.ext (ExtN.same ((s1.trans s2).trans s3))).at_ i x b hx hb')
            refine ⟨T, [.int (i : Nat), x], rfl, .inl (.inl upd_same), rfl, _, _, rfl, _, _, rfl, rfl, ?_⟩
            refine ⟨_, rfl, x, b, rfl, jx, fun H4 s4 => ⟨_, rfl, ?_⟩⟩
            cases b with
            | true =>
              refine iteF ⟨⟨_, _, rfl⟩, (s2.trans s3).trans s4, fun j hj' => ?_⟩
              by_cases e : j < i
              · exact hb j e
              · have e : j = i := by omega
                rw [e]
                exact hb'
            | false =>
              refine iteT ⟨_, rfl, _, rfl, .inr ⟨_, rfl, log_small i (by omega)⟩, fun d hd => ?_⟩
              exact q2 i hb' hb _ d ((((s1.trans s2).trans s3).trans s4).trans (same_upd hd)) upd_same
          · intro σ H3 s3 all
            refine q1 ?_ H3 (s1.trans s3)
            rw [List.all_eq_true]
            intro b hb
            obtain ⟨j, hj'⟩ := List.getElem?_of_mem hb
            have := all j (by rw [hj.len]; exact (List.getElem?_eq_some_iff.mp hj').1)
            rw [hj'] at this
            obtain rfl := Option.some.inj this
            rfl
end
end Kw
set_option maxHeartbeats 4000000
namespace Kw
open PySem PySem.Spec PyProof.Rows L2 LamX
/-! ### == and != of an own class that has __eq__ and no __ne__ -/
section
variable {prog : Program} {w : World} {A : Around} {E : Value → Shared → Prop} {s : Shared} {K : PySem.W.Frag} {x C f : Addr} {ox : Obj} {od : Option Obj} {b tb : Value}
theorem rc_one {op : CmpOp} {Q : Value → Shared → Prop} (hu : A.units < cLine) (X : K.In s.heap) (I : PySem.W.InstAt s.heap x ox C od) (hb : PySem.W.Looks (model prog w) s.heap (typeOf b) tb) (hn : PySem.W.notFirst K C tb = true)
    (one : wpAny (model prog w) A (tryCompare (.ref x) (cmpInfo op).2.1 b) (fun r s' => ∃ v, r = some v ∧ Q v s') E s) : wpAny (model prog w) A (richCompare op (.ref x) b) Q E s := by
  unfold richCompare
  simp only [oneThing_ref]
  refine wpAny_holding (wpAny_bind (wpAny_cRoomFor hu (wpAny_bind (I.type.here (wpAny_bind (hb.here ?_))))))
  split
  · rename_i q
    have e : PySem.W.subIn K tb (.ref C) = some false := by
      rcases Bool.or_eq_true_iff.mp hn with e | e
      · rw [beq_iff_eq.mp e] at q; simp at q
      · exact beq_iff_eq.mp e
    refine wpAny_bind ((PySem.W.looks_subIn X e).here ?_)
    simp only [Bool.false_eq_true, if_false]
    refine wpAny_bind (wpAny_mono one (fun r s' z => ?_) fun _ _ e => e)
    obtain ⟨v, rfl, hq⟩ := z
    exact wpAny_pure hq
  · refine wpAny_bind (wpAny_pure ?_)
    simp only [Bool.false_eq_true, if_false]
    refine wpAny_bind (wpAny_mono one (fun r s' z => ?_) fun _ _ e => e)
    obtain ⟨v, rfl, hq⟩ := z
    exact wpAny_pure hq
/-- x == b -/
theorem rc_eqOwn {Q : Value → Shared → Prop} (hu : A.units < cLine) (X : K.In s.heap) (I : PySem.W.InstAt s.heap x ox C od) (hb : PySem.W.Looks (model prog w) s.heap (typeOf b) tb) (hn : PySem.W.notFirst K C tb = true)
    (hs : PySem.W.findIn K (.ref C) "__eq__" = some (some (.ref f))) (hf : PySem.W.isFn K (.ref f) = true) (h : wpAny (model prog w) A (call (.ref f) [.ref x, b]) (fun v s' => ∃ r, v = .bool r ∧ Q (.bool r) s') E s) :
    wpAny (model prog w) A (richCompare .Eq (.ref x) b) Q E s := by
  refine rc_one (op := .Eq) hu X I hb hn ?_
  unfold tryCompare
  refine wpAny_bind (PySem.W.ifBound_K X I hs hf (wpAny_mono h (fun v s' hv => ?_) fun _ _ e => e))
  obtain ⟨r, rfl, q⟩ := hv
  exact wpAny_pure ⟨_, rfl, q⟩
theorem ifBound_ne {args : List Value} {Q : Option Value → Shared → Prop} (X : K.In s.heap) (I : PySem.W.InstAt s.heap x ox C od) (hne : PySem.W.findIn K (.ref C) "__ne__" = some (some (.builtin "object.__ne__")))
    (h : wpAny (model prog w) A (call (.builtin "object.__ne__") (.ref x :: args)) (fun v => Q (some v)) E s) : wpAny (model prog w) A (callSpecialIfBound? (.ref x) "__ne__" args) Q E s := by
  simp only [callSpecialIfBound?, bindSpecialIfBound?]
  refine wpAny_holding (wpAny_bind (wpAny_bind (wpAny_bind (I.type.here ((PySem.W.looks_findIn X hne).here ?_)))))
  have go : wpAny (model prog w) A (call (.builtin "object.__ne__") ([.ref x] ++ args) >>= fun v => pure (some v)) Q E s := wpAny_bind (wpAny_mono h (fun v s' q => wpAny_pure q) fun _ _ e => e)
  refine wpAny_bind (wpAny_askSetting (wpAny_ite ?_))
  split
  · exact wpAny_bind (wpAny_of_eq (F.cmp_object.ne.bind _) (wpAny_pure (by exact go)))
  · exact wpAny_tryCatch (wpAny_bind (wpAny_of_eq (F.cmp_object.ne.bind _) (wpAny_pure (by exact go))))
/-- x != b -/
theorem rc_neOwn {Q : Value → Shared → Prop} (hu : A.units + 1 < cLine) (X : K.In s.heap) (I : PySem.W.InstAt s.heap x ox C od) (hb : PySem.W.Looks (model prog w) s.heap (typeOf b) tb) (hn : PySem.W.notFirst K C tb = true)
    (hs : PySem.W.findIn K (.ref C) "__eq__" = some (some (.ref f))) (hf : PySem.W.isFn K (.ref f) = true) (hne : PySem.W.findIn K (.ref C) "__ne__" = some (some (.builtin "object.__ne__"))) (hm : PySem.W.mroIn K C (.type "object") = some true)
    (h : wpAny (model prog w) A.in1 (call (.ref f) [.ref x, b]) (fun v s' => ∃ r, v = .bool r ∧ Q (.bool (!r)) s') E s) : wpAny (model prog w) A (richCompare .NotEq (.ref x) b) Q E s := by
  refine rc_one (op := .NotEq) (by omega) X I hb hn ?_
  have entry : wpAny (model prog w) A.in1 (Builtin.«object.__ne__» ⟨[.ref x, b], []⟩) (fun fin s' => ∃ v, fin = .done (.ret v) ∧ ∃ r, v = .bool (!r) ∧ Q (.bool (!r)) s') E s := by
    unfold Builtin.«object.__ne__»
    refine wpAny_bind (wpAny_of_eq (show slotArgs "__ne__" 1 ⟨[.ref x, b], []⟩ = pure (.ref x, [b]) from rfl) ?_)
    refine wpAny_bind (wpAny_cRoomFor (show A.units + 1 < cLine from hu) ?_)
    refine wpAny_bind (PySem.W.ifBound_K X I hs hf (wpAny_mono h (fun v s' hv => ?_) fun _ _ e => e))
    obtain ⟨r, rfl, q⟩ := hv
    refine wpAny_bind (wpAny_truthy_bool ?_)
    exact wpAny_pure ⟨_, rfl, r, rfl, q⟩
  have callNe : wpAny (model prog w) A (call (.builtin "object.__ne__") [.ref x, b]) (fun v s' => ∃ r, v = .bool (!r) ∧ Q (.bool (!r)) s') E s :=
    wpAny_call (codeAny_call_builtin F.cmp_object.ne.plain F.cmpEntry_ne (PySem.W.check_slot F.cmpKind_ne F.cmpSplit_ne (I.type.andThen (PySem.W.looks_mroIn X hm)) (F.cmpArgs_ne _ _) (wpAny_mono entry (fun fin s' hv => by
      obtain ⟨v, rfl, q⟩ := hv
      exact q) fun _ _ e => e)))
  unfold tryCompare
  refine wpAny_bind (ifBound_ne X I hne (wpAny_mono callNe (fun v s' hv => ?_) fun _ _ e => e))
  obtain ⟨r, rfl, q⟩ := hv
  exact wpAny_pure ⟨_, rfl, q⟩
end
end Kw
set_option maxHeartbeats 4000000
namespace Kw
open PySem PySem.Spec PyProof.Rows L2 LamX
/-- the type of an instance, or of a tuple -/
inductive KO (K : PySem.W.Frag) (H : Hp) : V → Value → Prop
  | ins {b C dy : Addr} {gs : List (Str × V)} : H b = some (.ins C dy gs) → KO K H (.ref b) (.ref C)
  | tup {b : Addr} {xs : List V} : SqT K H b xs → KO K H (.ref b) (.type "tuple")
section
variable {X : Cx} {CX : CXT} {n : Nat} {C f : Addr} {fd : FuncData} {ps : List Str} {sp : Sp} {E : XK}
theorem looks_ko {pins : List (Addr × Obj)} {σ : L2.St} {H : Hp} {s : Shared} {y : V} {u tb : Value} (I : Inv X pins σ H s) (r : RelV y u) (h : KO X.K H y tb) : PySem.W.Looks (model X.prog X.w) s.heap (typeOf u) tb := by
  cases h with
  | ins e =>
    cases r
    obtain ⟨mB, J, _⟩ := ins_get I.hok e
    obtain ⟨od, J, _⟩ := J.look
    exact J.type
  | tup t =>
    cases r
    obtain ⟨its, rv, ⟨o, ho, hc, _⟩, _⟩ := I.tuple t
    exact fun A Q E s k q => wpAny_typeOf_ref (k _ _ ho) (hc.symm ▸ q)
/-- the own method at f called at the instance, from A -/
theorem run_at {A : Around} {pins : List (Addr × Obj)} {σ : L2.St} {H : Hp} {s : Shared} {x y : V} {u v : Value} {Q : V → Hp → Prop} (F : FnOk X.prog X.w X.K X.mg X.base CX n f fd ps sp) (hb : Binds X.K fd ps []) (hx : Passes CX X E) (hA : A.frames = X.A.frames) (hr : Room n A)
    (I : Inv X pins σ H s) (ru : RelV x u) (rv : RelV y v) (h : sp [x, y] H Q E) : wpAny (model X.prog X.w) A (call (.ref f) [u, v]) (EP X pins σ Q) X.xe s := by
  have e0 : Env0 X.prog X.w X.K X.mg X.base A X.stack s H := by
    have e := I.env0
    exact ⟨by rw [hA]; exact e.frames, e.mod, e.bs, e.bsz, e.funs, e.frf, e.hok, e.bare⟩
  have hl := F.len _ _ _ _ h
  refine wpAny_call (codeAny_mono (F.run A X.stack s H ⟨[u, v], []⟩ [u, v] [x, y] Q E hr e0 (by
    have q := hb s [u, v] I.kIn (by simpa using hl)
    simpa using q) (.cons ru (.cons rv .nil)) h) fun r s' hq => ?_)
  cases r with
  | error e => exact hx pins σ H s e s' I hq
  | ok fl =>
    cases fl with
    | ret w => exact I.after hq
    | next => exact False.elim hq
    | brk => exact False.elim hq
    | cont => exact False.elim hq
/-- x == y by the own __eq__ of x's class -/
def rOwn (K : PySem.W.Frag) (C : Addr) (sp : Sp) (E : XK) (g : Bool → Bool) : R2 := fun x y H Q => ∃ a dx fs tb, x = .ref a ∧ H a = some (.ins C dx fs) ∧ KO K H y tb ∧ PySem.W.notFirst K C tb = true ∧ sp [x, y] H (fun v H' => ∃ r, v = .bl r ∧ Q (.bl (g r)) H') E
theorem op_eqO (F : FnOk X.prog X.w X.K X.mg X.base CX n f fd ps sp) (hr : Room n X.A) (hs : PySem.W.findIn X.K (.ref C) "__eq__" = some (some (.ref f))) (hf : PySem.W.isFn X.K (.ref f) = true) (hb : Binds X.K fd ps []) (hx : Passes CX X E) :
    OpR X (compareOp .Eq) (rOwn X.K C sp E id) := by
  intro pins s σ H x y v u Q I rx ry h
  obtain ⟨a, dx, fs, tb, rfl, ha, ko, nf, hsp⟩ := h
  obtain rfl : v = Value.ref a := rx
  obtain ⟨mA, J, _⟩ := ins_get I.hok ha
  obtain ⟨od, J, _⟩ := J.look
  show wpAny _ _ (richCompare .Eq (.ref a) u) _ _ _
  refine rc_eqOwn hr.units0 I.kIn J (looks_ko I ry ko) nf hs hf (wpAny_mono (run_at (x := .ref a) F hb hx rfl hr I rfl ry hsp) (fun w s' q => ?_) fun _ _ z => z)
  obtain ⟨z, H', I', rz, r, rfl, q⟩ := q
  cases rz
  exact ⟨r, rfl, .bl r, H', I', rfl, q⟩
theorem op_neO (F : FnOk X.prog X.w X.K X.mg X.base CX n f fd ps sp) (hr : Room (n + 1) X.A) (hs : PySem.W.findIn X.K (.ref C) "__eq__" = some (some (.ref f))) (hf : PySem.W.isFn X.K (.ref f) = true) (hne : PySem.W.findIn X.K (.ref C) "__ne__" = some (some (.builtin "object.__ne__"))) (hm : PySem.W.mroIn X.K C (.type "object") = some true)
    (hb : Binds X.K fd ps []) (hx : Passes CX X E) : OpR X (compareOp .NotEq) (rOwn X.K C sp E not) := by
  intro pins s σ H x y v u Q I rx ry h
  obtain ⟨a, dx, fs, tb, rfl, ha, ko, nf, hsp⟩ := h
  obtain rfl : v = Value.ref a := rx
  obtain ⟨mA, J, _⟩ := ins_get I.hok ha
  obtain ⟨od, J, _⟩ := J.look
  show wpAny _ _ (richCompare .NotEq (.ref a) u) _ _ _
  refine rc_neOwn (by have := hr.un; omega) I.kIn J (looks_ko I ry ko) nf hs hf hne hm (wpAny_mono (run_at (x := .ref a) F hb hx rfl hr.in1 I rfl ry hsp) (fun w s' q => ?_) fun _ _ z => z)
  obtain ⟨z, H', I', rz, r, rfl, q⟩ := q
  cases rz
  exact ⟨r, rfl, .bl (!r), H', I', rfl, q⟩
/-- y in x by the own __contains__ of x's class -/
def rOwnIn (C : Addr) (sp : Sp) (E : XK) : R2 := fun y x H Q => ∃ a dx fs, x = .ref a ∧ H a = some (.ins C dx fs) ∧ sp [x, y] H (fun v H' => ∃ r, v = .bl r ∧ Q (.bl r) H') E
theorem op_inO (F : FnOk X.prog X.w X.K X.mg X.base CX n f fd ps sp) (hr : Room n X.A) (hs : PySem.W.findIn X.K (.ref C) "__contains__" = some (some (.ref f))) (hf : PySem.W.isFn X.K (.ref f) = true) (hb : Binds X.K fd ps []) (hx : Passes CX X E) :
    OpR X (compareOp .In) (rOwnIn C sp E) := by
  intro pins s σ H y x u v Q I ry rx h
  obtain ⟨a, dx, fs, rfl, ha, hsp⟩ := h
  obtain rfl : v = Value.ref a := rx
  obtain ⟨mA, J, _⟩ := ins_get I.hok ha
  obtain ⟨od, J, _⟩ := J.look
  obtain ⟨m, hF⟩ := I.fr
  refine PySem.W.in_K hF I.ok.mod.kin J hs hf (wpAny_mono (run_at (x := .ref a) F hb hx rfl hr I rfl ry hsp) (fun w s' q => ?_) fun _ _ z => z)
  obtain ⟨z, H', I', rz, r, rfl, q⟩ := q
  cases rz
  exact wpAny_truthy_bool ⟨.bl r, H', I', rfl, q⟩
end
end Kw
set_option maxHeartbeats 4000000
namespace Kw
open PySem PySem.Spec PyProof.Rows L2 LamX
abbrev sInit : Stmt := L2.inClass (top 28) 0
abbrev sGet : Stmt := L2.inClass (top 28) 1
abbrev sHasR : Stmt := L2.inClass (top 28) 2
abbrev sEqR : Stmt := L2.inClass (top 28) 3
/-- a def with any defaults -/
structure FunV (K : PySem.W.Frag) (x qual : Str) (st : Stmt) (f : Addr) (fd : FuncData) : Prop where
  ex : ∃ (oc : Value) (od : Option Addr) (dV kV doc pm : Value) (an : Option Addr) (cdv ct : Value) (osl : Array (Option Value)),
    fd = PySem.W.fnOf x qual (defArgs st) (defBody st) (defScope st) dV kV doc pm an cdv ct ∧ K.lookup f = some ⟨oc, od, .func fd, osl⟩ ∧ PySem.W.codeIn K cdv qual = true
section
variable {P : Program} {w : World} {K : PySem.W.Frag} {mg : Str → Option Value} {base : Heap}
theorem FunV.okX {x qual : Str} {st : Stmt} {f : Addr} {fd : FuncData} {N ps : List Str} {k : Nat} {sp : Sp} (F : FunV K x qual st f fd) (S : FnScope N ps (defScope st)) (len : ∀ vs H Q E, sp vs H Q E → vs.length = ps.length)
    (body : ∀ (cdv : Value) (A : Around) (outer : List Env) (s : Shared) (H : Hp) (vs : List V) (Q : VK) (E : XK), Room k (A.deeper (envOfC qual (defScope st) s.heap.objs.size f cdv)) → sp vs H Q E →
      ∃ t, PSs (cxOf (L2.CX P w) P w K mg base N qual (defScope st) f cdv A outer s H E) (defBody st) t ∧ t { nx := fun _ H' => Q .non H', rt := Q } (L2.start N vs) H) : FnOk P w K mg base (L2.CX P w) (k + 1) f fd ps sp := by
  obtain ⟨oc, od, dV, kV, doc, pm, an, cdv, ct, osl, rfl, lk, hcd⟩ := F.ex
  exact fn_of lk hcd S len fun A outer s H vs Q E hr hsp => body cdv A outer s H vs Q E hr hsp
/-- a Range with that normal form -/
def IsR (K : PySem.W.Frag) (CR : Addr) (H : Hp) (x : V) (nf : List Str2) : Prop := ∃ a dx t zs, x = .ref a ∧ H a = some (.ins CR dx [(("_stretches" : Str), .ref t)]) ∧ SqT K H t zs ∧ Strs K H zs nf
theorem IsR.ext {K : PySem.W.Frag} {CR : Addr} {H H' : Hp} {x : V} {nf : List Str2} (h : IsR K CR H x nf) (e : ExtN H H') : IsR K CR H' x nf := by
  obtain ⟨a, dx, t, zs, rfl, h1, h2, h3⟩ := h
  exact ⟨a, dx, t, zs, rfl, e _ _ h1 (fun ps z => nomatch z), e.sqT h2, e.strs h3⟩
/-- all but a stay, tables aside -/
def ExtA (a : Addr) (H H' : Hp) : Prop := ∀ b o, b ≠ a → H b = some o → (∀ ps, o ≠ .tbl ps) → H' b = some o
def spInit (K : PySem.W.Frag) (T : List (Addr × Str)) (CR CE : Addr) : Sp := fun vs H Q E => ∃ (a dx : Addr) (x : V), vs = [.ref a, x] ∧ H a = some (.ins CR dx []) ∧ Tabs T H ∧
  ((∃ T', NoLT H x T' ∧ XAt E CE .non H) ∨ ∃ l xs, x = .ref l ∧ SqLT K H l xs ∧ xs.length ≤ 1000 ∧ ((40 < xs.length ∧ XAt E CE .non H) ∨
    (xs.length ≤ 40 ∧ ∃ bs, Judged K H xs bs ∧ (∀ i : Nat, bs[i]? = some false → (∀ j, j < i → bs[j]? = some true) → XAt E CE (.int (i : Int)) H) ∧
      (bs.all id = true → ∃ ss, Strs K H xs ss ∧ ∀ (H' : Hp) (ss' : List Str2), ExtA a H H' → Tabs T H' → IsR K CR H' (.ref a) (ss'.foldl nfAdd []) → ss'.Perm ss → ss'.Pairwise (fun p q => ¬ ltV q.1 p.1) → Q .non H'))))
theorem scInit : FnScope ["self", "stretches"] ["self", "stretches"] (defScope sInit) := ⟨rfl, rfl, rfl, by decide +kernel, rfl, by decide +kernel, by decide +kernel⟩
theorem ok_init {f CR CE CN : Addr} {fd : FuncData} {k : Nat} {T : List (Addr × Str)} (F : FunV K "__init__" "Range.__init__" sInit f fd) (mi : mg "isinstance" = none) (gN : mg "Normal" = some (.ref CN)) (cR : Cls K CR) (nR : NoAttr K CR "_stretches")
    (no : ∀ T ∈ ["NoneType", "bool", "int", "str", "dict", "list", "tuple"], PySem.W.kitOne K (.type T) (.ref CN) = some false) (DC : DefX P w K mg base "check_stretches" k ["stretches"] (spChkS K CE)) (DN : Def P w K mg base "normal_form" CX0 k ["stretches"] (spNF K T)) :
    FnOk P w K mg base (L2.CX P w) (k + 1) f fd ["self", "stretches"] (spInit K T CR CE) := by
  refine F.okX scInit (fun vs H Q E h => ?_) (fun cdv A outer s H vs Q E hr h => ?_)
  · obtain ⟨a, dx, x, rfl, _⟩ := h
    rfl
  · obtain ⟨a, dx, x, rfl, ha, hT, h⟩ := h
    refine ⟨_, pss_one (ps_if (pt_val (pe_callB call_isi (by rfl) mi (by decide +kernel) (pa_cons (pv 1) (pa_cons (pe_glob (v := .ref CN) (by rfl) gN rfl) pa_nil)))) (pss_one (ps_fld (pv 0) (pe_fld (pv 1) rfl) rfl))
      (pss_cons (ps_expr (pe_dX DC hr (takes_of rfl rfl rfl rfl) (pa_cons (pv 1) pa_nil))) (pss_one (ps_fld (pv 0) (pe_d DN hr (pa_cons (pv 1) pa_nil)) rfl)))), ?_⟩
    rcases h with ⟨T', hx, q⟩ | ⟨l, xs, rfl, hS, hl, h⟩
    · have hk : PySem.W.kitOne K (.type T') (.ref CN) = some false := by
        cases hx with
        | flat f => cases f <;> exact no _ (by simp)
        | dct e => exact no _ (by simp)
      exact ⟨_, rfl, x, .ref CN, .type T', .ref CN, false, rfl, .own _, hx.oth.ty, hk, _, rfl, iteF ⟨_, rfl, x, rfl, .inl ⟨T', hx, q⟩⟩⟩
    · have hk : ∃ T', Ty K H (.ref l) T' ∧ PySem.W.kitOne K (.type T') (.ref CN) = some false := by
        rcases hS with h | h
        · exact ⟨_, ty_lst h, no _ (by simp)⟩
        · exact ⟨_, ty_tup h, no _ (by simp)⟩
      obtain ⟨T', ty, hk⟩ := hk
      refine ⟨_, rfl, .ref l, .ref CN, .type T', .ref CN, false, rfl, .own _, ty, hk, _, rfl, iteF ⟨_, rfl, .ref l, rfl, .inr ⟨l, xs, rfl, hS, hl, ?_⟩⟩⟩
      rcases h with ⟨h1, q⟩ | ⟨h1, bs, hj, q1, q2⟩
      · exact .inl ⟨h1, q⟩
      · refine .inr ⟨h1, bs, hj, fun all H1 s1 => ?_, q1⟩
        obtain ⟨ss, hss, q⟩ := q2 all
        refine ⟨_, rfl, l, xs, ss, rfl, hT.ext s1, hS.ext (ExtN.same s1), hss.same s1, by rw [← hss.len]; omega, fun H2 D zs ss' e2 T2 hD pm pw hz => ?_⟩
        have ha2 : H2 a = some (.ins CR dx []) := e2 _ _ (s1 _ _ ha) fun ps z => nomatch z
        refine ⟨_, rfl, a, CR, dx, [], rfl, ha2, cR, nR, by simp, ?_⟩
        have hFr : Fr1 a H2 (upd H2 a (.ins CR dx [(("_stretches" : Str), .ref D)])) := Fr1.put
        have nA : ∀ {b : Addr} {o : HO}, H2 b = some o → (∀ fs, o ≠ .ins CR dx fs) → b ≠ a := fun {b o} e n z => by
          rw [z, ha2] at e
          exact n _ (Option.some.inj e).symm
        have kT : ∀ {b : Addr} {ys : List V}, SqT K H2 b ys → SqT K (upd H2 a (.ins CR dx [(("_stretches" : Str), .ref D)])) b ys := fun {b ys} t => by
          rcases t with (t | ⟨o, t⟩) | t
          · exact .inl (.inl (hFr _ _ (nA t fun fs z => nomatch z) t))
          · exact .inl (.inr ⟨o, hFr _ _ (nA t fun fs z => nomatch z) t⟩)
          · exact .inr t
        have kV : ∀ {x : V} {v : Ver}, IsVer K H2 x v → IsVer K (upd H2 a (.ins CR dx [(("_stretches" : Str), .ref D)])) x v := fun {x v} ⟨b, e, t⟩ => ⟨b, e, kT t⟩
        have kE : ∀ {x : V} {v : Option Ver}, IsEnd K H2 x v → IsEnd K (upd H2 a (.ins CR dx [(("_stretches" : Str), .ref D)])) x v := fun {x v} t => by
          cases v with
          | none => exact t
          | some u => exact kV t
        refine q _ ss' (fun b o nb e n => ?_) (fun p hp => ?_) ⟨a, dx, D, zs, rfl, upd_same, kT (.inl (.inl hD)), ⟨hz.len, fun i x st p q => ?_⟩⟩ pm pw
        · exact hFr _ _ nb (e2 _ _ (s1 _ _ e) n)
        · obtain ⟨tb, h1, h2, h3⟩ := T2 p hp
          refine ⟨tb, hFr _ _ (nA h1 fun fs z => nomatch z) h1, h2, fun pos cv hc => ?_⟩
          obtain ⟨c, e1, e3⟩ := h3 pos cv hc
          exact ⟨c, e1, hFr _ _ (nA e3 fun fs z => by unfold CodeO at z; cases z) e3⟩
        · obtain ⟨p', lo, hh, e, t, t1, t2⟩ := hz.at_ i x st p q
          exact ⟨p', lo, hh, e, kT t, kV t1, kE t2⟩
end
end Kw
set_option maxHeartbeats 4000000
namespace Kw
open PySem PySem.Spec PyProof.Rows L2 LamX
/-! ### normal forms as data -/
def verD (v : Ver) : PyData := .tuple ((vl v).map PyData.int)
def endD : Option Ver → PyData
  | none => .none
  | some u => verD u
def strD (s : Str2) : PyData := .tuple [verD s.1, endD s.2]
def nfD (ss : List Str2) : PyData := .tuple (ss.map strD)
theorem dp_ver {K : PySem.W.Frag} {H : Hp} {x : V} {v : Ver} (h : IsVer K H x v) : Dp K H x (verD v) := by
  obtain ⟨a, rfl, t⟩ := h
  exact .tup t (dp_ints _)
theorem dp_end {K : PySem.W.Frag} {H : Hp} {x : V} {e : Option Ver} (h : IsEnd K H x e) : Dp K H x (endD e) := by
  cases e with
  | none =>
    obtain rfl : x = .non := h
    exact .non
  | some u => exact dp_ver h
theorem dp_str {K : PySem.W.Frag} {H : Hp} {x : V} {s : Str2} (h : IsStr K H x s) : Dp K H x (strD s) := by
  obtain ⟨p, l, hh, rfl, t, t1, t2⟩ := h
  exact .tup t (.cons (dp_ver t1) (.cons (dp_end t2) .nil))
theorem dp_strs' {K : PySem.W.Frag} {H : Hp} : ∀ {xs : List V} {ss : List Str2}, Strs K H xs ss → DpAll K H xs (ss.map strD)
  | [], [], _ => .nil
  | [], s :: ss, h => by have := h.len; simp at this
  | x :: xs, [], h => by have := h.len; simp at this
  | x :: xs, s :: ss, h => .cons (dp_str (h.at_ 0 x s rfl rfl)) (dp_strs' ⟨by have := h.len; simpa using this, fun i y t a b => h.at_ (i + 1) y t (by simpa using a) (by simpa using b)⟩)
theorem dp_nf {K : PySem.W.Frag} {H : Hp} {t : Addr} {zs : List V} {ss : List Str2} (h : SqT K H t zs) (hz : Strs K H zs ss) : Dp K H (.ref t) (nfD ss) := .tup h (dp_strs' hz)
theorem cl_ver (v : Ver) : (verD v).canLay0 = true ∧ (verD v).depth = 1 := by simp [verD, PyData.canLay0, PyData.canLayAll0, PyData.depth, PyData.depthAll]
theorem cl_end (e : Option Ver) : (endD e).canLay0 = true ∧ (endD e).depth ≤ 1 := by
  cases e with
  | none => simp [endD, PyData.canLay0, PyData.depth]
  | some u => exact ⟨(cl_ver u).1, Nat.le_of_eq (cl_ver u).2⟩
theorem cl_str (s : Str2) : (strD s).canLay0 = true ∧ (strD s).depth ≤ 2 := by
  have h1 := cl_ver s.1
  have h2 := cl_end s.2
  refine ⟨by simp [strD, PyData.canLay0, PyData.canLayAll0, h1.1, h2.1], ?_⟩
  simp only [strD, PyData.depth, PyData.depthAll, h1.2]
  omega
theorem cl_all : ∀ ss : List Str2, PyData.canLayAll0 (ss.map strD) = true ∧ PyData.depthAll (ss.map strD) ≤ 2
  | [] => by simp [PyData.canLayAll0, PyData.depthAll]
  | s :: ss => by
    have h1 := cl_str s
    have h2 := cl_all ss
    refine ⟨by simp [PyData.canLayAll0, h1.1, h2.1], ?_⟩
    simp only [List.map_cons, PyData.depthAll]
    omega
theorem cl_nf (ss : List Str2) : (nfD ss).canLay0 = true ∧ (nfD ss).depth ≤ 3 := by
  have h := cl_all ss
  refine ⟨by simp [nfD, PyData.canLay0, h.1], ?_⟩
  simp only [nfD, PyData.depth]
  omega
theorem shaped_nf (ss : List Str2) : SeqAt.shaped (nfD ss) = true := by
  have h := cl_nf ss
  simp only [SeqAt.shaped, h.1, Bool.true_and]
  exact decide_eq_true (by omega)
theorem eqv_nf (ss : List Str2) : PyData.eqv (nfD ss) (nfD ss) = true := PySem.SeqAt.eqv_refl _ (cl_nf ss).1
/-! ### the methods of Range -/
def spHasR (K : PySem.W.Frag) (CR : Addr) : Sp := fun vs H Q _ => ∃ (x y : V) (nf : List Str2), vs = [x, y] ∧ IsR K CR H x nf ∧ nf.length ≤ 100 ∧ ((∃ v, IsVer K H y v ∧ okV v ∧ ∀ H', Same H H' → Q (.bl (hasL nf v)) H') ∨ (VerB K H y false ∧ ∀ H', Same H H' → Q (.bl false) H'))
def spEqR (K : PySem.W.Frag) (CR : Addr) : Sp := fun vs H Q _ => ∃ (x y : V), vs = [x, y] ∧ ((∃ nf, IsR K CR H x nf ∧ IsR K CR H y nf ∧ Q (.bl true) H) ∨ (∃ a xs, y = .ref a ∧ SqT K H a xs ∧ Q (.bl false) H))
def spGetR (K : PySem.W.Frag) (CR : Addr) : Sp := fun vs H Q _ => ∃ (x : V) (nf : List Str2), vs = [x] ∧ IsR K CR H x nf ∧ ∀ t zs, SqT K H t zs → Strs K H zs nf → Q (.ref t) H
section
variable {P : Program} {w : World} {K : PySem.W.Frag} {mg : Str → Option Value} {base : Heap}
theorem scHasR : FnScope ["self", "x", "low", "high"] ["self", "x"] (defScope sHasR) := ⟨rfl, rfl, rfl, by decide +kernel, rfl, by decide +kernel, by decide +kernel⟩
theorem scEqR : FnScope ["self", "other"] ["self", "other"] (defScope sEqR) := ⟨rfl, rfl, rfl, by decide +kernel, rfl, by decide +kernel, by decide +kernel⟩
theorem scGetR : FnScope ["self"] ["self"] (defScope sGet) := ⟨rfl, rfl, rfl, by decide +kernel, rfl, by decide +kernel, by decide +kernel⟩
theorem ok_getR {f CR : Addr} {fd : FuncData} {k : Nat} (F : FunV K "stretches" "Range.stretches" sGet f fd) (cR : Cls K CR) (nR : NoAttr K CR "_stretches") : FnOk P w K mg base CX0 (k + 1) f fd ["self"] (spGetR K CR) := by
  obtain ⟨oc, od, dV, kV, doc, pm, an, cdv, ct, osl, rfl, lk, hcd⟩ := F.ex
  refine (fn_getter (C := CR) (f := "_stretches") lk hcd scGetR rfl rfl cR nR).imp fun vs H Q E h => ?_
  obtain ⟨x, nf, rfl, ⟨a, dx, t, zs, rfl, ha, ht, hz⟩, q⟩ := h
  exact ⟨a, dx, _, .ref t, rfl, ha, by simp [List.lookup], q t zs ht hz⟩
theorem ok_hasR {f CR : Addr} {fd : FuncData} {k : Nat} (F : Fun K "__contains__" "Range.__contains__" sHasR f fd) (ma : mg "any" = none) (cR : Cls K CR) (nR : NoAttr K CR "_stretches") (DV : Def P w K mg base "is_version" CX0 k ["value"] (spVerB K)) :
    FnOk P w K mg base CX0 (k + 1) f fd ["self", "x"] (spHasR K CR) := by
  refine F.ok scHasR (fun vs H Q E h => ?_) (fun cdv A outer s H vs Q E hr h => ?_)
  · obtain ⟨x, y, nf, rfl, _⟩ := h
    rfl
  · obtain ⟨x, y, nf, rfl, ⟨a, dx, t, zs, rfl, ha, ht, hz⟩, hlen, h⟩ := h
    refine ⟨_, pss_one (ps_ret (pe_and (pe_d DV hr (pa_cons (pv 1) pa_nil)) (pe_one (pe_callB (cr_any rfl) (by rfl) ma (by decide +kernel) (pa_cons (pe_lc (own := [("low", 2), ("high", 3)]) (g := gTup K 2 (gCons (gName 2) (gCons (gName 3) gNil))) (tt := tYes) (te := tAndV (tOp (rVer K .LtE) (tVar 2) (tVar 1)) (tOrV (tOp (fun x y H Q => y = .non ∧ Q (.bl (decide (x = .non))) H) (tVar 3) (tC .non)) (tOp (rVer K .Lt) (tVar 1) (tVar 3)))) rfl scHasR.nd (pi_tup (pe_fld (pv 0) rfl)) (blkOk_by (N := ["self", "x", "low", "high"]) (sc := defScope sHasR) (by decide +kernel))
        (fun _ _ _ _ _ => pg_tup rfl (pgs_cons (pg_name (i := 2) scHasR.nd rfl (.inl rfl)) (pgs_cons (pg_name (i := 3) scHasR.nd rfl (.inl rfl)) pgs_nil))) (fun _ _ _ _ _ => pts_nil)
        (fun _ _ _ _ _ => pe_and (pe_cmpR (op_ver (op := .LtE) (.inr (.inl rfl)) hr.units0) (pv 2) (pv 1) (nomark _)) (pe_one (pe_or (pe_cmpR op_isN (pv 3) pe_non (nomark _)) (pe_one (pe_cmpR (op_ver (op := .Lt) (.inl rfl) hr.units0) (pv 1) (pv 3) (nomark _))))))) pa_nil))))), ?_⟩
    rcases h with ⟨v, hv, ov, q⟩ | ⟨hb, q⟩
    · refine ⟨_, rfl, y, true, rfl, .of hv ov, fun H1 s1 => ⟨_, rfl, iteT ?_⟩⟩
      have ht1 := Same.sqT s1 ht
      refine ⟨_, rfl, a, CR, dx, _, .ref t, rfl, s1 _ _ ha, cR, nR, by simp [List.lookup], t, rfl, ⟨_, ht1⟩, fun D hD => ?_⟩
      refine lc_tup (K := K) (a := t) (xs := zs) (fun i H' => Same H1 H' ∧ H' D = some (.lst (((nf.take i).map fun s => hasS s v).map V.bl))) ⟨same_upd hD, upd_same⟩ (fun i H' _ R => Same.sqT R.1 ht1) ?_ ?_
      · rintro i z H' hi ⟨s2, h1⟩
        obtain ⟨st, hst, p, lo, hh, rfl, g1, g2, g3⟩ := (hz.same (s1.trans s2)).get hi
        have hil := (List.getElem?_eq_some_iff.mp hst).1
        have hv2 := hv.same (s1.trans s2)
        have fin : ∀ b : Bool, b = hasS st v → ∃ acc, H' D = some (.lst acc) ∧ acc.length < sizeLine ∧ Same H1 (upd H' D (.lst (acc ++ [V.bl b]))) ∧ (upd H' D (.lst (acc ++ [V.bl b]))) D = some (.lst (((nf.take (i + 1)).map fun s => hasS s v).map V.bl)) := fun b eb => by
          refine ⟨_, h1, ?_, fun b o y => by rw [upd_ne (ne_of_none y hD)]; exact s2 _ _ y, ?_⟩
          · rw [List.length_map, List.length_map, List.length_take]
            exact Nat.lt_of_le_of_lt (Nat.min_le_left _ _) (small1000 (by omega))
          · rw [upd_same, take_snoc hst, eb]
            simp
        refine ⟨p, [lo, hh], rfl, g1, rfl, lo, [hh], rfl, hh, [], rfl, rfl, rfl, yesI ?_⟩
        refine ⟨_, rfl, _, rfl, st.1, v, g2, hv2, _, rfl, ite2 (fun e => ?_) (fun e => ?_)⟩
        · have e1 : leV st.1 v := of_decide_eq_true e
          refine ⟨_, rfl, rfl, _, rfl, ?_⟩
          rw [isEnd_non g3]
          obtain ⟨s1', s2'⟩ := st
          cases s2' with
          | none => exact iteT (fin true (by simp [hasS, e1]))
          | some u => exact iteF ⟨_, rfl, _, rfl, v, u, hv2, g3, fin _ (by simp [hasS, e1, cmpV])⟩
        · have e1 : ¬ leV st.1 v := fun c => e (decide_eq_true c)
          exact fin false (by simp [hasS, e1])
      · rintro H' ⟨s2, h1⟩
        rw [List.take_of_length_le (by rw [hz.len]; exact Nat.le_refl _)] at h1
        refine ⟨D, nf.map fun s => hasS s v, rfl, SqL.of h1, ?_⟩
        have := q H' (s1.trans s2)
        simpa [hasL, List.any_map] using this
    · exact ⟨_, rfl, y, false, rfl, hb, fun H1 s1 => ⟨_, rfl, iteF (q H1 s1)⟩⟩
theorem ok_eqR {f CR : Addr} {fd : FuncData} {k : Nat} (F : Fun K "__eq__" "Range.__eq__" sEqR f fd) (mi : mg "isinstance" = none) (gR : mg "Range" = some (.ref CR)) (cR : Cls K CR) (nR : NoAttr K CR "_stretches")
    (tyR : ∀ (H : Hp) (a dx : Addr) (fs : List (Str × V)), H a = some (.ins CR dx fs) → TyX K H (.ref a) (.ref CR)) (kR : PySem.W.kitOne K (.ref CR) (.ref CR) = some true) (kT : PySem.W.kitOne K (.type "tuple") (.ref CR) = some false) :
    FnOk P w K mg base CX0 (k + 1) f fd ["self", "other"] (spEqR K CR) := by
  refine F.ok scEqR (fun vs H Q E h => ?_) (fun cdv A outer s H vs Q E hr h => ?_)
  · obtain ⟨x, y, rfl, _⟩ := h
    rfl
  · obtain ⟨x, y, rfl, h⟩ := h
    refine ⟨_, pss_one (ps_ret (pe_and (pe_callB call_isi (by rfl) mi (by decide +kernel) (pa_cons (pv 1) (pa_cons (pe_glob (v := .ref CR) (by rfl) gR rfl) pa_nil))) (pe_one (pe_cmpR (op_eqD hr.units) (pe_fld (pv 0) rfl) (pe_fld (pv 1) rfl) (nomark _))))), ?_⟩
    rcases h with ⟨nf, ⟨a, dx, t, zs, rfl, ha, ht, hz⟩, ⟨b, dy, u, ys, rfl, hb, hu, hy⟩, q⟩ | ⟨b, xs, rfl, t, q⟩
    · refine ⟨_, rfl, .ref b, .ref CR, .ref CR, .ref CR, true, rfl, .own _, tyR _ _ _ _ hb, kR, _, rfl, iteT ?_⟩
      refine ⟨_, rfl, a, CR, dx, _, .ref t, rfl, ha, cR, nR, by simp [List.lookup], _, rfl, b, CR, dy, _, .ref u, rfl, hb, cR, nR, by simp [List.lookup], ?_⟩
      refine ⟨_, _, dp_nf ht hz, dp_nf hu hy, shaped_nf _, shaped_nf _, ?_⟩
      rw [eqv_nf]
      exact q
    · exact ⟨_, rfl, .ref b, .ref CR, .type "tuple", .ref CR, false, rfl, .own _, ty_tup t, kT, _, rfl, iteF q⟩
end
end Kw
set_option maxHeartbeats 4000000
namespace Kw
open PySem PySem.Spec PyProof.Rows L2 LamX
abbrev sShuf : Stmt := top 41
/-! ### odd values -/
def okStr (z : Str) : Prop := z.length ≤ 1000 ∧ ∀ c ∈ z.cps.toList, PyData.strOk ⟨#[c]⟩ = true
inductive OddV (K : PySem.W.Frag) (H : Hp) : V → Prop
  | flat {x : V} {T : String} : Flat x T → (∀ z, x = .str z → okStr z) → OddV K H x
  | tup {a : Addr} {xs : List V} : SqT K H a xs → (∀ y ∈ xs, xs.length = 3 → ∃ T, Flat y T) → OddV K H (.ref a)
  | lst {a : Addr} {xs : List V} : H a = some (.lst xs) → OddV K H (.ref a)
  | dct {a : Addr} {kvs : List (Key × V)} : H a = some (.dK kvs) → OddV K H (.ref a)
theorem OddV.ver {K : PySem.W.Frag} {H : Hp} {x : V} (h : OddV K H x) : ∃ b, VerB K H x b := by
  cases h with
  | flat f _ => exact ⟨_, .oth (.flat f)⟩
  | tup t f => exact ⟨_, .tup t f rfl⟩
  | lst e => exact ⟨_, .oth (.lst e)⟩
  | dct e => exact ⟨_, .oth (.dct e)⟩
theorem OddV.ext {K : PySem.W.Frag} {H H' : Hp} {x : V} (h : OddV K H x) (e : ExtN H H') : OddV K H' x := by
  cases h with
  | flat f z => exact .flat f z
  | tup t f => exact .tup (e.sqT t) f
  | lst g => exact .lst (e _ _ g fun ps z => nomatch z)
  | dct g => exact .dct (e _ _ g fun ps z => nomatch z)
theorem OddV.fr {K : PySem.W.Frag} {H H' : Hp} {x : V} {d w c : Addr} {B : Int} (h : OddV K H x) (S : StAt H d w c B) (F : Fr2 d w H H') (n1 : x ≠ .ref d) (n2 : x ≠ .ref w) : OddV K H' x := by
  cases h with
  | flat f z => exact .flat f z
  | tup t f => exact .tup (F.sqT S t) f
  | lst g => exact .lst (F _ _ (fun z => n1 (by rw [z])) (fun z => n2 (by rw [z])) g)
  | dct g => exact .dct (F _ _ (fun z => n1 (by rw [z])) (fun z => n2 (by rw [z])) g)
/-- what is_kit says of it -/
def kitV : V → Bool
  | .str z => kitS z
  | _ => false
theorem OddV.kit {K : PySem.W.Frag} {H : Hp} {x : V} (h : OddV K H x) {Q : V → Hp → Prop} {E : XK} (q : ∀ H', Same H H' → Q (.bl (kitV x)) H') : spIsKit K [x] H Q E := by
  refine ⟨x, rfl, ?_⟩
  cases h with
  | flat f z =>
    cases f with
    | str y => exact .inl ⟨y, rfl, (z y rfl).1, (z y rfl).2, q⟩
    | non => exact .inr ⟨_, Flat.ty .non, by decide +kernel, q H (Same.refl H)⟩
    | bl b => exact .inr ⟨_, Flat.ty (.bl b), by decide +kernel, q H (Same.refl H)⟩
    | int i => exact .inr ⟨_, Flat.ty (.int i), by decide +kernel, q H (Same.refl H)⟩
  | tup t f => exact .inr ⟨_, ty_tup t, by decide +kernel, q H (Same.refl H)⟩
  | lst e => exact .inr ⟨_, (Oth.lst e).ty, by decide +kernel, q H (Same.refl H)⟩
  | dct e => exact .inr ⟨_, (Oth.dct e).ty, by decide +kernel, q H (Same.refl H)⟩
def spOdd (K : PySem.W.Frag) : Sp := fun vs H Q _ => ∃ (d w c : Addr) (B : Int), vs = [.ref d] ∧ StAt H d w c B ∧ B ≤ 1000000000000 ∧
  ∀ H' x, OddV K H' x → x ≠ .ref d → x ≠ .ref w → StAt H' d w c (B + 1) → Fr2 d w H H' → Q x H'
section
variable {P : Program} {w : World} {K : PySem.W.Frag} {mg : Str → Option Value} {base : Heap}
end
end Kw
set_option maxHeartbeats 4000000
namespace Kw
open PySem PySem.Spec PyProof.Rows L2 LamX
/-! ### the list shuffled -/
theorem shaped_strl (ss : List Str2) : SeqAt.shaped (.list (ss.map strD)) = true := by
  have h := cl_all ss
  simp only [SeqAt.shaped, PyData.canLay0, PyData.depth, h.1, Bool.true_and]
  exact decide_eq_true (by omega)
theorem eqv_strl (ss : List Str2) : PyData.eqv (.list (ss.map strD)) (.list []) = ss.isEmpty := by
  cases ss with
  | nil => simp [PyData.eqv, PyData.eqvAll]
  | cons n ns => simp [PyData.eqv, PyData.eqvAll]
theorem Strs.erase {K : PySem.W.Frag} {H : Hp} {xs : List V} {ss : List Str2} (h : Strs K H xs ss) (k : Nat) : Strs K H (xs.eraseIdx k) (ss.eraseIdx k) := by
  refine ⟨by simp [List.length_eraseIdx, h.len], fun i x s a b => ?_⟩
  rw [List.getElem?_eraseIdx] at a b
  split at a
  · rename_i q
    rw [if_pos q] at b
    exact h.at_ i x s a b
  · rename_i q
    rw [if_neg q] at b
    exact h.at_ (i + 1) x s a b
theorem mem_erase {α : Type} (L : List α) (j : Nat) (h : j < L.length) (s : α) : s ∈ L ↔ s = L[j] ∨ s ∈ L.eraseIdx j := by
  rw [List.eraseIdx_eq_take_drop_succ]
  have e : L = L.take j ++ L[j] :: L.drop (j + 1) := by rw [← List.drop_eq_getElem_cons h, List.take_append_drop]
  constructor
  · intro hs
    rw [e] at hs
    simp only [List.mem_append, List.mem_cons] at hs ⊢
    rcases hs with h | h | h
    · exact .inr (.inl h)
    · exact .inl h
    · exact .inr (.inr h)
  · rintro (rfl | hs)
    · exact List.getElem_mem h
    · rcases List.mem_append.mp hs with h | h
      · exact List.mem_of_mem_take h
      · exact List.mem_of_mem_drop h
def spShuf (K : PySem.W.Frag) : Sp := fun vs H Q _ => ∃ (d w c : Addr) (B : Int) (a : Addr) (xs : List V) (ss : List Str2), vs = [.ref d, .ref a] ∧ StAt H d w c B ∧ B + 10 ≤ 1000000000000 ∧ H a = some (.lst xs) ∧ a ≠ w ∧ Strs K H xs ss ∧ ss.length ≤ 10 ∧
  ∀ H' p ys ss', H p = none → H' p = some (.lst ys) → Strs K H' ys ss' → (∀ s, s ∈ ss' ↔ s ∈ ss) → ss'.length = ss.length → StAt H' d w c (B + 10) → Fr2 d w H H' → Q (.ref p) H'
section
variable {P : Program} {w : World} {K : PySem.W.Frag} {mg : Str → Option Value} {base : Heap}
theorem scShuf : FnScope ["_law_state", "_law_some", "_law_left", "_law_found"] ["_law_state", "_law_some"] (defScope sShuf) := ⟨rfl, rfl, rfl, by decide +kernel, rfl, by decide +kernel, by decide +kernel⟩
theorem ok_shuf {f : Addr} {fd : FuncData} {k : Nat} (F : Fun K "_law_shuffled" "_law_shuffled" sShuf f fd) (ml : mg "list" = none) (mn : mg "len" = none) (DD : Def P w K mg base "_law_draw" CX0 k ["_law_state", "_law_size"] spDraw) : FnOk P w K mg base CX0 (k + 1) f fd ["_law_state", "_law_some"] (spShuf K) := by
  refine F.ok scShuf (fun vs H Q E h => ?_) (fun cdv A outer s H vs Q E hr h => ?_)
  · obtain ⟨d, w, c, B, a, xs, ss, rfl, _⟩ := h
    rfl
  · obtain ⟨d, w, c, B, a, xs, ss, rfl, hS, hB, ha, naw, hss, hlen, q⟩ := h
    refine ⟨_, pss_cons (ps_par (i := 2) (j := 3) rfl scShuf.nd rfl rfl (by decide) rfl rfl (pa_cons (pe_callTy call_list_of (by rfl) ml (by decide +kernel) (pa_cons (pv 1) pa_nil)) (pa_cons (pe_lst pa_nil) pa_nil)) (by rfl))
      (pss_cons (ps_while PassesOwn.never (pt_cmpR (op_neD hr.units) (pv 2) (pe_lst pa_nil) (nomark _))
        (pss_one (ps_expr (pe_bm PySem.F.plainAttrs_list PySem.F.slot_list_append PySem.F.type_list_append mt_append (pv 3) (pa_cons (pe_bm PySem.F.plainAttrs_list PySem.F.slot_list_pop PySem.F.type_list_pop mt_popAt (pv 2) (pa_cons (pe_d DD hr (pa_cons (pv 0) (pa_cons (pe_callB call_len_seq (by rfl) mn PySem.boot_len (pa_cons (pv 2) pa_nil)) pa_nil))) pa_nil)) pa_nil)))))
      (pss_one (ps_ret (pv 3)))), ?_⟩
    refine ⟨_, rfl, a, xs, rfl, .inl (SqL.of ha), fun l hl => ⟨Nat.zero_le _, fun g hg => ?_⟩⟩
    have s1 := same_upd (o := .lst xs) hl
    have s2 := same_upd (o := .lst []) hg
    have nlw := (hS.ne hl).2.1
    have ngw := ((hS.same s1).ne hg).2.1
    have nlg : l ≠ g := ne_of_none upd_same hg
    have hlen0 : xs.length = ss.length := hss.len
    refine ⟨_, _, rfl, fun (m : Nat) (σ : L2.St) (H' : Hp) => ∃ (zs ys : List V) (us vs : List Str2), σ = [some (.ref d), some (.ref a), some (.ref l), some (.ref g)] ∧ H' l = some (.lst zs) ∧ H' g = some (.lst ys) ∧ Strs K H' zs us ∧ Strs K H' ys vs ∧ us.length = m ∧ m + vs.length = ss.length ∧ (∀ s, (s ∈ us ∨ s ∈ vs) ↔ s ∈ ss) ∧ StAt H' d w c (B + vs.length) ∧ Fr2 d w H H',
      ⟨ss.length, xs, [], ss, [], rfl, s2 _ _ upd_same, upd_same, (hss.same s1).same s2, ⟨rfl, fun i x s h => by simp at h⟩, rfl, by simp, fun s => by simp, ((hS.same s1).same s2).mono (by simp), .ofSame (s1.trans s2)⟩, ?_⟩
    rintro m σ H1 ⟨zs, ys, us, vs, rfl, h1, h2, h3, h4, h5, h6, h7, h8, h9⟩
    refine ⟨_, rfl, Nat.zero_le _, fun e he => ?_⟩
    have s3 := same_upd (o := .lst []) he
    refine ⟨_, _, .lst (SqL.of (s3 _ _ h1)) (dp_strs' (h3.same s3)), .lst (SqL.of upd_same) .nil, shaped_strl _, shaped_nil, _, rfl, ?_⟩
    rw [eqv_strl]
    cases us with
    | nil =>
      refine iteF ⟨_, rfl, ?_⟩
      refine q _ g ys vs (s1.free hg) (s3 _ _ h2) (h4.same s3) (fun s => by have := h7 s; simpa using this) (by simp at h5; omega) ((h8.same s3).mono (by simp at h5; omega)) (h9.trans (.ofSame s3))
    | cons u us =>
      refine iteT ⟨fun (σ' : L2.St) (H' : Hp) => ∃ (zs ys : List V) (us vs : List Str2), σ' = [some (.ref d), some (.ref a), some (.ref l), some (.ref g)] ∧ H' l = some (.lst zs) ∧ H' g = some (.lst ys) ∧ Strs K H' zs us ∧ Strs K H' ys vs ∧ us.length + 1 = m ∧ us.length + vs.length = ss.length ∧ (∀ s, (s ∈ us ∨ s ∈ vs) ↔ s ∈ ss) ∧ StAt H' d w c (B + vs.length) ∧ Fr2 d w H H',
        fun σ' H' ⟨zs, ys, us, vs, e1, e2, e3, e4, e5, e6, e7, e8, e9, e10⟩ => ⟨us.length, by omega, zs, ys, us, vs, e1, e2, e3, e4, e5, rfl, e7, e8, e9, e10⟩, ?_⟩
      have hzl : zs.length = m := by rw [h3.len, h5]
      have hm : 0 < m := by rw [← h5]; simp
      refine ⟨_, rfl, .inl ⟨rfl, _, SqL.of (s3 _ _ h2)⟩, _, rfl, .inl ⟨rfl, _, SqL.of (s3 _ _ h1)⟩, _, rfl, _, rfl, l, zs, rfl, .inl (SqL.of (s3 _ _ h1)), d, w, c, B + vs.length, zs.length, rfl, h8.same s3, by omega, by omega, by omega, fun H2 z hz0 hz1 S2 F2 => ?_⟩
      obtain ⟨j, rfl⟩ : ∃ j : Nat, z = (j : Int) := ⟨z.toNat, by omega⟩
      have hj : j < zs.length := by omega
      have hS3 := h8.same s3
      have z1 := F2.lst hS3 (s3 _ _ h1) nlw.symm
      have z2 := F2.lst hS3 (s3 _ _ h2) ngw.symm
      have z3 := (h3.same s3).fr hS3 F2
      have z4 := (h4.same s3).fr hS3 F2
      refine ⟨l, zs, _, j, zs[j], rfl, rfl, z1, by omega, by omega, (ixN_seq (j := j) (by unfold ixN; rw [if_pos (by omega), if_pos (by omega)]; simp)).1, List.getElem?_eq_getElem hj, ?_⟩
      obtain ⟨st, hst, ist⟩ := z3.get (List.getElem?_eq_getElem hj)
      have f1 : Fr1 l H2 (upd H2 l (.lst (zs.eraseIdx j))) := Fr1.put
      have w2 : upd H2 l (.lst (zs.eraseIdx j)) g = some (.lst ys) := f1 _ _ nlg.symm z2
      refine ⟨g, ys, _, rfl, rfl, w2, Nat.lt_of_le_of_lt (show ys.length ≤ 1000 by rw [h4.len]; omega) (by decide), ?_⟩
      have f2 : Fr1 g (upd H2 l (.lst (zs.eraseIdx j))) (upd (upd H2 l (.lst (zs.eraseIdx j))) g (.lst (ys ++ [zs[j]]))) := Fr1.put
      have ju : j < (u :: us).length := by rw [h5, ← hzl]; exact hj
      have es : (u :: us)[j] = st := by
        have := List.getElem?_eq_getElem ju
        rw [hst] at this
        exact (Option.some.inj this).symm
      have sub : Fr2 d w H2 (upd (upd H2 l (.lst (zs.eraseIdx j))) g (.lst (ys ++ [zs[j]]))) ∨ True := .inr trivial
      have fH : Fr2 d w H (upd (upd H2 l (.lst (zs.eraseIdx j))) g (.lst (ys ++ [zs[j]]))) := by
        have f0 : Fr2 d w H H2 := h9.trans ((Fr2.ofSame s3).trans F2)
        intro b o n1 n2 e0
        rw [upd_ne (ne_of_none (s1 _ _ e0) hg), upd_ne (ne_of_none e0 hl)]
        exact f0 b o n1 n2 e0
      refine ⟨zs.eraseIdx j, ys ++ [zs[j]], (u :: us).eraseIdx j, vs ++ [st], rfl, by rw [upd_ne nlg]; exact upd_same, upd_same, ?_, ?_, ?_, ?_, fun s => ?_, ?_, fH⟩
      · exact f2.strs w2 (f1.strs z1 (z3.erase j))
      · exact (f2.strs w2 (f1.strs z1 z4)).snoc (f2.str w2 (f1.str z1 ist))
      · rw [List.length_eraseIdx, if_pos ju]
        omega
      · rw [List.length_eraseIdx, if_pos ju, List.length_append, List.length_singleton]
        omega
      · rw [← h7 s, ← es]
        rw [mem_erase (u :: us) j ju s, List.mem_append, List.mem_singleton]
        grind
      · exact ((hS.same s1).put hg (hS.put hl S2)).mono (by rw [List.length_append]; simp; omega)
end
end Kw
set_option maxHeartbeats 4000000
namespace Kw
open PySem PySem.Spec PyProof.Rows L2 LamX
/-! ### Range(e) -/
structure RangeMk (P : Program) (w : World) (K : PySem.W.Frag) (mg : Str → Option Value) (base : Heap) (CR CE : Addr) (T : List (Addr × Str)) (k : Nat) : Prop where
  ex : ∃ f fd, FnOk P w K mg base (L2.CX P w) k f fd ["self", "stretches"] (spInit K T CR CE) ∧ Mk K CR f ∧ Binds K fd ["self", "stretches"] []
  gR : mg "Range" = some (.ref CR)
section
variable {X : Cx} {CR CE : Addr} {T : List (Addr × Str)} {k : Nat}
theorem pe_rng {p pos : Pos} {e : Expr} {t : TA} {E : XK} (M : RangeMk X.prog X.w X.K X.mg X.base CR CE T k) (hr : Room (k + 1) X.A) (hx : Passes (L2.CX X.prog X.w) X E) (ha : PA X [e] t) (hg : Gl X "Range" := by rfl)
    (he : starEach (e :: []) X.env = (false, eval e X.env) :: starEach [] X.env := by rfl) (hpl : (backTo pos (starEach [] X.env)).any (·.1) = false := by rfl) : PE X (.Call (.Name "Range" p) [e] [] pos) (tMake CR (spInit X.K T CR CE) [] E t) := by
  obtain ⟨f, fd, F, Mk, hb⟩ := M.ex
  exact pe_make Mk F hr hg M.gR hb .nil hx ha (by decide) he hpl
theorem pass_lam {X : Cx} {A : Around} {outer : List Env} {s : Shared} {H : Hp} {E : XK} {scope : Scope} {f c' : Addr} : Passes (L2.CX X.prog X.w) (lamCx X A outer s H E scope f c') E := passes_call (takes_of rfl rfl rfl rfl) fun _ _ _ _ h => h
end
section
variable {K : PySem.W.Frag} {H : Hp} {σ : L2.St} {i : Nat} {CR CE : Addr} {T : List (Addr × Str)} {E : XK} {Q : VK}
theorem two_upd {a dx : Addr} {o1 o2 : HO} (na : H a = none) (nd : H dx = none) (ne : dx ≠ a) : Same H (upd (upd H dx o1) a o2) := fun b o z => by rw [upd_ne (ne_of_none z na), upd_ne (ne_of_none z nd)]; exact z
/-- of a list or a tuple of at most forty judged items -/
theorem rng_read {l : Addr} {xs : List V} {bs : List Bool} (hi : σ[i]? = some (some (.ref l))) (hT : Tabs T H) (hS : SqLT K H l xs) (hl : xs.length ≤ 40) (hj : Judged K H xs bs)
    (bad : ∀ i : Nat, bs[i]? = some false → (∀ j, j < i → bs[j]? = some true) → ∀ H' d, ExtN H H' → Tabs T H' → H' d = some (.xd [(("at" : Str), .int (i : Int))]) → E (.ref CE) (some d) H')
    (good : bs.all id = true → ∃ ss, Strs K H xs ss ∧ ∀ (H' : Hp) (x : Addr) (ss' : List Str2), ExtN H H' → Tabs T H' → IsR K CR H' (.ref x) (ss'.foldl nfAdd []) → ss'.Perm ss → ss'.Pairwise (fun p q => ¬ ltV q.1 p.1) → H x = none → Q (.ref x) H') :
    tMake CR (spInit K T CR CE) [] E (tCons (tVar i) tNil) σ H Q := by
  refine ⟨_, hi, fun a dx na nd ne => ?_⟩
  have s0 : Same H (upd (upd H dx (.own a)) a (.ins CR dx [])) := two_upd na nd ne
  have e0 := ExtN.same s0
  refine ⟨a, dx, .ref l, rfl, upd_same, hT.ext s0, .inr ⟨l, xs, rfl, hS.ext e0, by omega, .inr ⟨hl, bs, hj.ext e0, fun i h1 h2 H' d s1 hd => bad i h1 h2 H' d (e0.trans (ExtN.same s1)) ((hT.ext s0).ext s1) hd, fun all => ?_⟩⟩⟩
  obtain ⟨ss, hss, q⟩ := good all
  refine ⟨ss, hss.same s0, fun H' ss' eA T' hR pm pw => ⟨rfl, q H' a ss' (fun b o z n => ?_) T' hR pm pw na⟩⟩
  exact eA b o (ne_of_none z na) (s0 _ _ z) n
/-- of a value that is no list, or too long a list -/
theorem rng_none {x : V} (hi : σ[i]? = some (some x)) (hT : Tabs T H) (hx : (∃ T', NoLT H x T') ∨ ∃ l xs, x = .ref l ∧ SqLT K H l xs ∧ xs.length ≤ 1000 ∧ 40 < xs.length) (bad : ∀ H' d, ExtN H H' → Tabs T H' → H' d = some (.xd [(("at" : Str), .non)]) → E (.ref CE) (some d) H') :
    tMake CR (spInit K T CR CE) [] E (tCons (tVar i) tNil) σ H Q := by
  refine ⟨_, hi, fun a dx na nd ne => ?_⟩
  have s0 : Same H (upd (upd H dx (.own a)) a (.ins CR dx [])) := two_upd na nd ne
  have e0 := ExtN.same s0
  have xat : XAt E CE .non (upd (upd H dx (.own a)) a (.ins CR dx [])) := fun H' d s1 hd => bad H' d (e0.trans (ExtN.same s1)) ((hT.ext s0).ext s1) hd
  refine ⟨a, dx, x, rfl, upd_same, hT.ext s0, ?_⟩
  rcases hx with ⟨T', h⟩ | ⟨l, xs, rfl, hS, h1, h2⟩
  · refine .inl ⟨T', ?_, xat⟩
    cases h with
    | flat f => exact .flat f
    | dct e => exact .dct (s0 _ _ e)
  · exact .inr ⟨l, xs, rfl, hS.ext e0, h1, .inl ⟨h2, xat⟩⟩
theorem judged_all {xs : List V} {ss : List Str2} (h : Strs K H xs ss) (ok : ∀ s ∈ ss, okS s) : Judged K H xs (xs.map fun _ => true) := by
  refine ⟨by simp, fun i x b p q => ?_⟩
  obtain ⟨s, hs, is⟩ := h.get p
  rw [List.getElem?_map, p] at q
  obtain rfl := Option.some.inj q
  exact .of is (ok s (List.mem_of_getElem? hs))
/-- of stretches: it is made -/
theorem rng_good {l : Addr} {xs : List V} {ss : List Str2} (hi : σ[i]? = some (some (.ref l))) (hT : Tabs T H) (hS : SqLT K H l xs) (hl : xs.length ≤ 40) (h : Strs K H xs ss) (ok : ∀ s ∈ ss, okS s)
    (q : ∀ (H' : Hp) (x : Addr) (ss' : List Str2), ExtN H H' → Tabs T H' → IsR K CR H' (.ref x) (ss'.foldl nfAdd []) → ss'.Perm ss → ss'.Pairwise (fun p q => ¬ ltV q.1 p.1) → H x = none → Q (.ref x) H') :
    tMake CR (spInit K T CR CE) [] E (tCons (tVar i) tNil) σ H Q := by
  refine rng_read hi hT hS hl (judged_all h ok) (fun i h1 _ => ?_) fun _ => ⟨ss, h, q⟩
  rw [List.getElem?_map] at h1
  cases e : xs[i]? with
  | none => rw [e] at h1; simp at h1
  | some x => rw [e] at h1; simp at h1
end
/-! ### _law_caught(lambda: Range(e)) -/
section
variable {K : PySem.W.Frag} {H : Hp} {σ : L2.St} {i : Nat} {CR CE CK : Addr} {T : List (Addr × Str)} {Q : VK}
abbrev tCaughtR (K : PySem.W.Frag) (T : List (Addr × Str)) (CR CE CK : Addr) (i : Nat) : TE := tLam T (TTc K CK) fun E => tMake CR (spInit K T CR CE) [] E (tCons (tVar i) tNil)
/-- nothing was caught, or the error that tells the first wrong item -/
theorem caught_read {l : Addr} {xs : List V} {bs : List Bool} (hsub : PySem.W.exmOne K (.ref CE) (.ref CK) = some true) (hi : σ[i]? = some (some (.ref l))) (hT : Tabs T H) (hS : SqLT K H l xs) (hl : xs.length ≤ 40) (hj : Judged K H xs bs)
    (bad : ∀ i : Nat, bs[i]? = some false → (∀ j, j < i → bs[j]? = some true) → ∀ (H' : Hp) (x : V), ExtN H H' → Tabs T H' → IsExc H' x CE (some (.int (i : Int))) → Q x H')
    (good : bs.all id = true → (∃ ss, Strs K H xs ss) ∧ ∀ H', ExtN H H' → Tabs T H' → Q .non H') : tCaughtR K T CR CE CK i σ H Q := by
  refine ⟨hT, fun H1 e1 T1 => ?_⟩
  show tMake CR (spInit K T CR CE) [] (fun cls d H' => PySem.W.exmOne K cls (.ref CK) = some true ∧ ∀ a, H' a = none → Q (.ref a) (upd H' a (exA cls d a))) (tCons (tVar i) tNil) σ H1 (fun _ H' => ∃ x, (some (some V.non) : Option (Option V)) = some (some x) ∧ Q x H')
  refine rng_read hi T1 (hS.ext e1) hl (hj.ext e1) (fun i h1 h2 H' d e2 T2 hd => ⟨hsub, fun a ha => ?_⟩) fun all => ?_
  · have s2 := same_upd (o := exA (.ref CE) (some d) a) ha
    exact bad i h1 h2 _ (.ref a) ((e1.trans e2).trans (ExtN.same s2)) (T2.ext s2) ⟨a, some d, rfl, upd_same, d, rfl, s2 _ _ hd⟩
  · obtain ⟨⟨ss, hss⟩, q⟩ := good all
    exact ⟨ss, e1.strs hss, fun H' x ss' e2 T2 _ _ _ _ => ⟨.non, rfl, q H' (e1.trans e2) T2⟩⟩
/-- BadRange(None) was caught -/
theorem caught_none {x : V} (hsub : PySem.W.exmOne K (.ref CE) (.ref CK) = some true) (hi : σ[i]? = some (some x)) (hT : Tabs T H) (hx : (∃ T', NoLT H x T') ∨ ∃ l xs, x = .ref l ∧ SqLT K H l xs ∧ xs.length ≤ 1000 ∧ 40 < xs.length)
    (q : ∀ (H' : Hp) (y : V), ExtN H H' → Tabs T H' → IsExc H' y CE (some .non) → Q y H') : tCaughtR K T CR CE CK i σ H Q := by
  refine ⟨hT, fun H1 e1 T1 => ?_⟩
  show tMake CR (spInit K T CR CE) [] (fun cls d H' => PySem.W.exmOne K cls (.ref CK) = some true ∧ ∀ a, H' a = none → Q (.ref a) (upd H' a (exA cls d a))) (tCons (tVar i) tNil) σ H1 (fun _ H' => ∃ x, (some (some V.non) : Option (Option V)) = some (some x) ∧ Q x H')
  refine rng_none hi T1 ?_ fun H' d e2 T2 hd => ⟨hsub, fun a ha => ?_⟩
  · rcases hx with ⟨T', h⟩ | ⟨l, xs, rfl, h, h1, h2⟩
    · refine .inl ⟨T', ?_⟩
      cases h with
      | flat f => exact .flat f
      | dct e => exact .dct (e1 _ _ e fun ps z => nomatch z)
    · exact .inr ⟨l, xs, rfl, h.ext e1, h1, h2⟩
  · have s2 := same_upd (o := exA (.ref CE) (some d) a) ha
    exact q _ (.ref a) ((e1.trans e2).trans (ExtN.same s2)) (T2.ext s2) ⟨a, some d, rfl, upd_same, d, rfl, s2 _ _ hd⟩
end
end Kw
set_option maxHeartbeats 4000000
namespace Kw
open PySem PySem.Spec PyProof.Rows L2 LamX
/-- the law's catcher, found by its name -/
structure CaughtD (K : PySem.W.Frag) (mg : Str → Option Value) (CK : Addr) : Prop where
  ex : ∃ g fd, Fun K "_law_caught" "_law_caught" sCaught g fd ∧ mg "_law_caught" = some (.ref g) ∧ PySem.W.keepIn K (.ref g) = true ∧ Binds K fd ["_law_task"] []
  gE : mg "KitError" = some (.ref CK)
section
variable {X : Cx} {CR CE CK : Addr} {T : List (Addr × Str)} {k i : Nat}
/-- _law_caught(lambda: Range(y)) -/
theorem pe_caughtR {c PT : Addr} {y : Str} {params : Arguments} {scope : Scope} {p p1 p2 p3 lpos pos : Pos} (C : CaughtD X.K X.mg CK) (M : RangeMk X.prog X.w X.K X.mg X.base CR CE T k) (TB : TabB X.base X.mg c PT) (hcode : X.env.code = .ref c) (hmT : (PT, X.env.qual ++ "<lambda>") ∈ T)
    (hu : ∀ p ∈ T, p.1 = PT → p.2 = X.env.qual ++ "<lambda>") (hr : Room (k + 3) X.A) (L : LamS X.env.scope scope) (hdef : defaultsOf params X.env = ([], []))
    (hbind : ∀ (q : Str) (cl : List (Str × Addr)) (pm cv ctv : Value), bindArgs (PySem.W.kla_fn "<lambda>" q params (.Call (.Name "Range" p1) [.Name y p2] [] p3) scope cl pm cv ctv) ⟨[], []⟩ = pure []) (hN : X.N[i]? = some y) (hv : Vis scope y)
    (hgl : ∀ (A : Around) (outer : List Env) (s : Shared) (H : Hp) (E : XK) (f c' : Addr), Gl (lamCx X A outer s H E scope f c') "Range") (hg : Gl X "_law_caught") (hd : (y == ("__debug__" : Str)) = false := by decide) (hcd : (y == ("__classdict__" : Str)) = false := by decide) :
    PE X (.Call (.Name "_law_caught" p) [.Lambda params (.Call (.Name "Range" p1) [.Name y p2] [] p3) scope lpos] [] pos) (tCaughtR X.K T CR CE CK i) := by
  obtain ⟨g, fd, F, hm, hk, hb⟩ := C.ex
  obtain ⟨oc, od, kV, doc, pm, an, cdv, ct, osl, rfl, lk, hcg⟩ := F.ex
  refine pe_lamcall (T := T) (c := c) (P := PT) (k := k + 1) (a := "_law_task") hg hm hk lk hcg hb scCaught rfl (.inl rfl) (caught_gives C.gE) TB hcode hmT hu hr L hdef hbind (fun A outer s H E f c' hr2 => ?_) (by decide) (by decide) (by decide)
  have hP : Passes (L2.CX X.prog X.w) (lamCx X A outer s H E scope f c') E := pass_lam (X := X) (A := A) (outer := outer) (s := s) (H := H) (E := E) (scope := scope) (f := f) (c' := c')
  exact pe_rng (X := lamCx X A outer s H E scope f c') M hr2 hP (pa_cons (pe_var (X := lamCx X A outer s H E scope f c') (i := i) hN hv hd hcd) pa_nil) (hgl A outer s H E f c') rfl rfl
end
end Kw
set_option maxHeartbeats 1000000
namespace Kw
open PySem PySem.Spec PyProof.Rows L2 LamX
/-! ### wrong lists are refused -/
/-- all but the draws' dict and list and the tables stay -/
def FrX (d w : Addr) (H H' : Hp) : Prop := ∀ c o, c ≠ d → c ≠ w → H c = some o → (∀ ps, o ≠ .tbl ps) → H' c = some o
theorem FrX.of2 {d w : Addr} {H H' : Hp} (x : Fr2 d w H H') : FrX d w H H' := fun c o a b h _ => x c o a b h
theorem FrX.ofN {d w : Addr} {H H' : Hp} (x : ExtN H H') : FrX d w H H' := fun c o _ _ h n => x c o h n
theorem FrX.trans {d w : Addr} {H H1 H2 : Hp} (x : FrX d w H H1) (y : FrX d w H1 H2) : FrX d w H H2 := fun c o a b h n => y c o a b (x c o a b h n) n
theorem StAt.ext {H H' : Hp} {d w c : Addr} {B : Int} (S : StAt H d w c B) (e : ExtN H H') : StAt H' d w c B := by
  obtain ⟨ws, cs, r, t, hd, hw, hc, pw, pc, hr0, ht0, htB, lw, lc, nwc⟩ := S.ex
  exact ⟨ws, cs, r, t, e _ _ hd (fun ps z => nomatch z), e _ _ hw (fun ps z => nomatch z), e _ _ hc (fun ps z => nomatch z), pw, pc, hr0, ht0, htB, lw, lc, nwc⟩
theorem Tabs.fr2 {T : List (Addr × Str)} {H H' : Hp} {d w c : Addr} {B : Int} (t : Tabs T H) (S : StAt H d w c B) (F : Fr2 d w H H') : Tabs T H' := fun p hp => by
  obtain ⟨ps, h1, h2, h3⟩ := t p hp
  obtain ⟨kvs, hd⟩ := S.hd
  obtain ⟨ys, hw⟩ := S.hw
  refine ⟨ps, F _ _ (ne_of h1 hd (by intro z; cases z)) (ne_of h1 hw (by intro z; cases z)) h1, h2, fun pos cv hc => ?_⟩
  obtain ⟨c, e1, e2⟩ := h3 pos cv hc
  exact ⟨c, e1, F _ _ (ne_of e2 hd (by intro z; unfold CodeO at z; cases z)) (ne_of e2 hw (by intro z; unfold CodeO at z; cases z)) e2⟩
def spRefused (K : PySem.W.Frag) (T : List (Addr × Str)) : Sp := fun vs H Q _ => ∃ (d w c : Addr) (B : Int) (a : Addr) (xs : List V) (ss : List Str2), vs = [.ref d, .ref a] ∧ StAt H d w c B ∧ B + 20 ≤ 1000000000000 ∧ Tabs T H ∧ H a = some (.lst xs) ∧ a ≠ w ∧ Strs K H xs ss ∧ (∀ s ∈ ss, okS s) ∧ ss.length ≤ 5 ∧
  ∀ H', Tabs T H' → StAt H' d w c (B + 20) → FrX d w H H' → Q (.bl true) H'
section
variable {P : Program} {w : World} {K : PySem.W.Frag} {mg : Str → Option Value} {base : Heap}
abbrev nRef : List Str := ["_law_state", "_law_some", "_law_at", "_law_low", "_law_odd_here", "_law_due", "_law_error", "_law_bent", "_law_whole", "_law_k"]
/-- what Range's own methods promise, found by the class -/
structure RangeEq (P : Program) (w : World) (K : PySem.W.Frag) (mg : Str → Option Value) (base : Heap) (CR : Addr) (k : Nat) : Prop where
  ex : ∃ f fd, FnOk P w K mg base CX0 k f fd ["self", "other"] (spEqR K CR) ∧ PySem.W.findIn K (.ref CR) "__eq__" = some (some (.ref f)) ∧ PySem.W.isFn K (.ref f) = true ∧ Binds K fd ["self", "other"] []
theorem IsExc.ext {H H' : Hp} {x : V} {C : Addr} {v : V} (h : IsExc H x C (some v)) (e : ExtN H H') : IsExc H' x C (some v) := by
  obtain ⟨a, d, rfl, h1, dd, rfl, h2⟩ := h
  exact ⟨a, _, rfl, e _ _ h1 (fun ps z => exA_ne (o := .tbl ps) (fun φ y => by cases y) z), dd, rfl, e _ _ h2 fun ps z => nomatch z⟩
theorem Judged.app {H : Hp} {xs ys : List V} {bs cs : List Bool} (h : Judged K H xs bs) (g : Judged K H ys cs) : Judged K H (xs ++ ys) (bs ++ cs) := by
  refine ⟨by simp [h.len, g.len], fun i x b p q => ?_⟩
  by_cases hi : i < xs.length
  · rw [List.getElem?_append_left hi] at p
    rw [List.getElem?_append_left (by rw [← h.len]; exact hi)] at q
    exact h.at_ i x b p q
  · rw [List.getElem?_append_right (by omega)] at p
    rw [List.getElem?_append_right (by rw [← h.len]; omega), ← h.len] at q
    exact g.at_ _ x b p q
theorem judged_mem {H : Hp} {xs : List V} (h : ∀ x ∈ xs, StrB K H x true) : Judged K H xs (xs.map fun _ => true) := by
  refine ⟨by simp, fun i x b p q => ?_⟩
  rw [List.getElem?_map, p] at q
  obtain rfl := Option.some.inj q
  exact h x (List.mem_of_getElem? p)
/-- the judgements of the bent list: one is false -/
theorem bent_get (c1 c2 : List V) (i : Nat) : ((c1.map fun _ => true) ++ [false] ++ (c2.map fun _ => true))[i]? = if i = c1.length then some false else if i < c1.length + 1 + c2.length then some true else none := by
  by_cases h1 : i < c1.length
  · rw [List.append_assoc, List.getElem?_append_left (by simpa using h1), List.getElem?_map, List.getElem?_eq_getElem h1, if_neg (by omega), if_pos (by omega)]
    rfl
  · by_cases h2 : i = c1.length
    · rw [if_pos h2, List.append_assoc, List.getElem?_append_right (by simp; omega), h2]
      simp
    · rw [if_neg h2, List.getElem?_append_right (by simp; omega), List.getElem?_map]
      have e : i - ((c1.map fun _ => true) ++ [false]).length = i - c1.length - 1 := by simp; omega
      rw [e]
      by_cases h3 : i < c1.length + 1 + c2.length
      · rw [if_pos h3, List.getElem?_eq_getElem (show i - c1.length - 1 < c2.length by omega)]
        rfl
      · rw [if_neg h3, List.getElem?_eq_none (by omega)]
        rfl
theorem rngA {CR CE l x dx : Addr} {T : List (Addr × Str)} {H : Hp} {E : XK} {xs : List V} {ss : List Str2} {R : Hp → Prop} (hT : Tabs T H) (hS : SqLT K H l xs) (hl : xs.length ≤ 40) (h : Strs K H xs ss) (ok : ∀ s ∈ ss, okS s) (na : H x = none) (nd : H dx = none)
    (q : ∀ (H' : Hp) (ss' : List Str2), ExtN H H' → Tabs T H' → IsR K CR H' (.ref x) (ss'.foldl nfAdd []) → ss'.Perm ss → ss'.Pairwise (fun p q => ¬ ltV q.1 p.1) → R H') :
    spInit K T CR CE (.ref x :: ([.ref l] ++ [])) (upd (upd H dx (.own x)) x (.ins CR dx [])) (fun v H2 => v = .non ∧ R H2) E := by
  have s0 : Same H (upd (upd H dx (.own x)) x (.ins CR dx [])) := fun b o z => by rw [upd_ne (ne_of_none z na), upd_ne (ne_of_none z nd)]; exact z
  have e0 := ExtN.same s0
  refine ⟨x, dx, .ref l, rfl, upd_same, hT.ext s0, .inr ⟨l, xs, rfl, hS.ext e0, by omega, .inr ⟨hl, _, (judged_all h ok).ext e0, fun i h1 _ => ?_, fun _ => ⟨ss, h.same s0, fun H' ss' eA T' hR pm pw => ⟨rfl, q H' ss' (fun b o z n => eA b o (ne_of_none z na) (s0 _ _ z) n) T' hR pm pw⟩⟩⟩⟩⟩
  rw [List.getElem?_map] at h1
  cases e : xs[i]? with
  | none => rw [e] at h1; simp at h1
  | some x => rw [e] at h1; simp at h1
abbrev s00 : Str2 := ((0, 0, 0), none)
theorem ok00 : okS s00 := ⟨⟨Int.le_refl _, Int.le_refl _, Int.le_refl _⟩, fun u e => nomatch e⟩
theorem nf_same {ss1 ss2 ss1' ss2' : List Str2} (h1 : ss1'.Perm ss1) (h2 : ss2'.Perm ss2) (o1 : ∀ s ∈ ss1, okS s) (o2 : ∀ s ∈ ss2, okS s) (p1 : ss1'.Pairwise fun p q => ¬ ltV q.1 p.1) (p2 : ss2'.Pairwise fun p q => ¬ ltV q.1 p.1) (e : ∀ s, s ∈ ss1 ↔ s ∈ ss2) : ss1'.foldl nfAdd [] = ss2'.foldl nfAdd [] := by
  obtain ⟨a1, a2⟩ := nf_fold ss1' [] ⟨fun s h => (nomatch h), List.Pairwise.nil⟩ (fun t ht => (nomatch ht)) p1 fun s hs => o1 s (h1.mem_iff.mp hs)
  obtain ⟨b1, b2⟩ := nf_fold ss2' [] ⟨fun s h => (nomatch h), List.Pairwise.nil⟩ (fun t ht => (nomatch ht)) p2 fun s hs => o2 s (h2.mem_iff.mp hs)
  refine a1.unique b1 fun v _ => ?_
  rw [a2, b2, hasL_mem (fs := ss1') (gs := ss2') fun s => by rw [h1.mem_iff, h2.mem_iff]; exact e s]
theorem strs_rep {H : Hp} {x : V} {s : Str2} (h : IsStr K H x s) (n : Nat) : Strs K H (List.replicate n x) (List.replicate n s) := by
  refine ⟨by simp, fun i y t a b => ?_⟩
  obtain rfl := List.eq_of_mem_replicate (List.mem_of_getElem? a)
  obtain rfl := List.eq_of_mem_replicate (List.mem_of_getElem? b)
  exact h
theorem flat_rep (n : Nat) (x : V) : (List.replicate n [x]).flatten = List.replicate n x := by
  induction n with
  | zero => rfl
  | succ n ih => rw [List.replicate_succ, List.flatten_cons, ih, List.replicate_succ]; rfl
end
end Kw
set_option maxHeartbeats 1000000
namespace Kw
open PySem PySem.Spec PyProof.Rows L2 LamX
/-! ### a def promised where no repr is under way -/
structure FnOkG (P : Program) (w : World) (K : PySem.W.Frag) (mg : Str → Option Value) (base : Heap) (CX : CXT) (k : Nat) (f : Addr) (fd : FuncData) (ps : List Str) (sp : Sp) : Prop where
  len : ∀ vs H Q E, sp vs H Q E → vs.length = ps.length
  run : ∀ (A : Around) (outer : List Env) (s : Shared) (H : Hp) (args : Args) (us : List Value) (vs : List V) (Q : VK) (E : XK), A.guards = some [] → Room k A → Env0 P w K mg base A outer s H → BindsTo s fd args (ps.zip us) → Vals vs us → sp vs H Q E → codeAny (model P w) A (.call (.ref f) args) (CR CX outer P w H s Q E) s
section
variable {P : Program} {w : World} {K : PySem.W.Frag} {mg : Str → Option Value} {base : Heap}
theorem FunC.okG {x qual : Str} {st : Stmt} {f : Addr} {fd : FuncData} {cd : Addr} {N ps : List Str} {k : Nat} {sp : Sp} (F : FunC K x qual st f fd cd) (S : FnScope N ps (defScope st)) (len : ∀ vs H Q E, sp vs H Q E → vs.length = ps.length)
    (body : ∀ (A : Around) (outer : List Env) (s : Shared) (H : Hp) (vs : List V) (Q : VK) (E : XK), (A.deeper (envOfC qual (defScope st) s.heap.objs.size f (.ref cd))).guards = some [] → Room k (A.deeper (envOfC qual (defScope st) s.heap.objs.size f (.ref cd))) → sp vs H Q E →
      ∃ t, PSs (cxOf CX0 P w K mg base N qual (defScope st) f (.ref cd) A outer s H E).nox (defBody st) t ∧ t { nx := fun _ H' => Q .non H', rt := Q } (L2.start N vs) H) : FnOkG P w K mg base CX0 (k + 1) f fd ps sp := by
  obtain ⟨oc, od, kV, doc, pm, an, ct, osl, rfl, lk, hcd⟩ := F.ex
  refine ⟨len, fun A outer s H args us vs Q E hgd hr e0 hb r hsp => ?_⟩
  have old : ∀ b o, base.get? b = some o → s.heap.get? b = some o := fun b o q => (e0.bs b o q).1
  have kin := e0.mod.kin.keeps old
  have nl := e0.mod.nolimit.keeps old
  have lens := len vs H Q E hsp
  have kinds : ∀ y ∈ ps.zip us, (defScope st).names.lookup y.1 = some .local ∨ ((defScope st).names.lookup y.1 = some .cell ∧ ((cellsFrom (s.heap.objs.size + 1) (defScope st).names []).lookup y.1).isSome = true) := fun ⟨n, v⟩ hy =>
    (S.par n (List.of_mem_zip hy).1).elim (fun q => .inl q) fun q => .inr ⟨q, PySem.W.cellsFrom_some _ _ _ (.inl q)⟩
  refine codeAny_call_function hr.depth (kin _ _ lk) rfl S.co S.gen rfl (PySem.W.codeRec_of kin hcd) (hb _ _ _ _ (wpAny_newFunctionEnv_cells S.kind kinds fun env he s1 x => ?_))
  subst he
  obtain ⟨t, ht, hq⟩ := body A outer s H vs Q E hgd (hr.deeper _) hsp
  refine ⟨nl.keeps x.toInCall.keep, codeAny_func (wpAny_mono (ht.nox.run [] s1 (L2.start N vs) H _ (inv_start S hr.hd e0 lens r x) hq) (fun fl s' hs => ?_) fun e s' hs => hs)⟩
  cases fl with
  | ret u =>
    obtain ⟨v, σ', H', J, rv, q⟩ := hs
    exact ⟨v, H', J.os, J.bare, J.base, J.hok, rv, q⟩
  | next =>
    obtain ⟨σ', H', J, q⟩ := hs
    exact ⟨V.non, H', J.os, J.bare, J.base, J.hok, rfl, q⟩
  | brk => obtain ⟨_, _, _, q⟩ := hs; exact False.elim q
  | cont => obtain ⟨_, _, _, q⟩ := hs; exact False.elim q
end
/-- the text of [b1, b2] -/
def twoB (b1 b2 : Bool) : Str := (PyData.list [.bool b1, .bool b2]).shown
theorem cr_repr2 {X : Cx} {k : Nat} (hg : X.A.guards = some []) (hr : Room k X.A) : CallR X (.builtin "repr") (fun xs H Q => ∃ a b1 b2, xs = [.ref a] ∧ SqL X.K H a [.bl b1, .bl b2] ∧ Q (.str (twoB b1 b2)) H) := by
  intro pins s σ H xs us Q I r h
  obtain ⟨a, b1, b2, rfl, hl, q⟩ := h
  have hd : Dp X.K H (.ref a) (.list [.bool b1, .bool b2]) := .lst hl (.cons (.bl b1) (.cons (.bl b2) .nil))
  rw [Vals.ref1 r]
  obtain ⟨as, rd⟩ := Dp.reads I _ _ _ hd (show RelV (.ref a) (.ref a) from rfl)
  refine repr_of_reads' rd ?_ ?_ hg ?_ (fun b o z => z) (fun h' u tk kp => ⟨.str (twoB b1 b2), H, I.kept kp, ⟨u, rfl⟩, q⟩) ?_
  · cases b1 <;> cases b2 <;> decide +kernel
  · intro z
    have e : (PyData.list [.bool b1, .bool b2]).hasDict = false := by cases b1 <;> cases b2 <;> decide +kernel
    rw [e] at z
    cases z
  · have := hr.un
    have e : (PyData.list [.bool b1, .bool b2]).depth = 1 := by cases b1 <;> cases b2 <;> decide +kernel
    rw [e]
    omega
  · cases b1 <;> cases b2 <;> decide +kernel
end Kw
set_option maxHeartbeats 1000000
namespace Kw
open PySem PySem.Spec PyProof.Rows L2 LamX
/-! ### _law_caught(lambda: next_version(y)) -/
abbrev tCaughtN (K : PySem.W.Frag) (T : List (Addr × Str)) (CV CK : Addr) (i : Nat) : TE := tLam T (TTc K CK) fun E => tCall (spNextV K CV) [] E (tCons (tVar i) tNil)
/-- of what is no version: BadVersion was caught -/
theorem caughtN_read {K : PySem.W.Frag} {H : Hp} {σ : L2.St} {i : Nat} {CV CK : Addr} {T : List (Addr × Str)} {Q : VK} {x : V} (hsub : PySem.W.exmOne K (.ref CV) (.ref CK) = some true) (hi : σ[i]? = some (some x)) (hT : Tabs T H) (hx : VerB K H x false)
    (q : ∀ (H' : Hp) (y : V), ExtN H H' → Tabs T H' → IsExc H' y CV none → Q y H') : tCaughtN K T CV CK i σ H Q := by
  refine ⟨hT, fun H1 e1 T1 => ?_⟩
  show tCall (spNextV K CV) [] (fun cls d H' => PySem.W.exmOne K cls (.ref CK) = some true ∧ ∀ a, H' a = none → Q (.ref a) (upd H' a (exA cls d a))) (tCons (tVar i) tNil) σ H1 (fun _ H' => ∃ x, (some (some V.non) : Option (Option V)) = some (some x) ∧ Q x H')
  refine ⟨x, hi, x, rfl, .inr ⟨hx.ext e1, fun H' s1 => ⟨hsub, fun a ha => ?_⟩⟩⟩
  have s2 := same_upd (o := exA (.ref CV) none a) ha
  exact q _ (.ref a) ((e1.trans (ExtN.same s1)).trans (ExtN.same s2)) ((T1.ext s1).ext s2) ⟨a, none, rfl, upd_same, rfl⟩
section
variable {X : Cx} {CV CK : Addr} {T : List (Addr × Str)} {k i : Nat}
theorem pe_caughtN {c PT : Addr} {y : Str} {params : Arguments} {scope : Scope} {p p1 p2 p3 lpos pos : Pos} (C : CaughtD X.K X.mg CK) (D : DefX X.prog X.w X.K X.mg X.base "next_version" k ["version"] (spNextV X.K CV)) (TB : TabB X.base X.mg c PT) (hcode : X.env.code = .ref c) (hmT : (PT, X.env.qual ++ "<lambda>") ∈ T)
    (hu : ∀ p ∈ T, p.1 = PT → p.2 = X.env.qual ++ "<lambda>") (hr : Room (k + 2) X.A) (L : LamS X.env.scope scope) (hdef : defaultsOf params X.env = ([], []))
    (hbind : ∀ (q : Str) (cl : List (Str × Addr)) (pm cv ctv : Value), bindArgs (PySem.W.kla_fn "<lambda>" q params (.Call (.Name "next_version" p1) [.Name y p2] [] p3) scope cl pm cv ctv) ⟨[], []⟩ = pure []) (hN : X.N[i]? = some y) (hv : Vis scope y)
    (hgl : ∀ (A : Around) (outer : List Env) (s : Shared) (H : Hp) (E : XK) (f c' : Addr), Gl (lamCx X A outer s H E scope f c') "next_version") (hg : Gl X "_law_caught") (hd : (y == ("__debug__" : Str)) = false := by decide) (hcd : (y == ("__classdict__" : Str)) = false := by decide) :
    PE X (.Call (.Name "_law_caught" p) [.Lambda params (.Call (.Name "next_version" p1) [.Name y p2] [] p3) scope lpos] [] pos) (tCaughtN X.K T CV CK i) := by
  obtain ⟨g, fd, F, hm, hk, hb⟩ := C.ex
  obtain ⟨oc, od, kV, doc, pm, an, cdv, ct, osl, rfl, lk, hcg⟩ := F.ex
  obtain ⟨f1, fd1, F1, m1, k1, b1⟩ := D.ex
  refine pe_lamcall (T := T) (c := c) (P := PT) (k := k) (a := "_law_task") hg hm hk lk hcg hb scCaught rfl (.inl rfl) (caught_gives C.gE) TB hcode hmT hu hr L hdef hbind (fun A outer s H E f c' hr2 => ?_) (by decide) (by decide) (by decide)
  have hP : Passes (L2.CX X.prog X.w) (lamCx X A outer s H E scope f c') E := pass_lam (X := X) (A := A) (outer := outer) (s := s) (H := H) (E := E) (scope := scope) (f := f) (c' := c')
  exact pe_call (X := lamCx X A outer s H E scope f c') F1 hr2 (hgl A outer s H E f c') m1 k1 b1 .nil hP (pa_cons (pe_var (X := lamCx X A outer s H E scope f c') (i := i) hN hv hd hcd) pa_nil) (by decide) rfl rfl
end
end Kw
set_option maxHeartbeats 1000000
namespace Kw
open PySem PySem.Spec PyProof.Rows L2 LamX
/-! ### f(nm=e) -/
theorem pe_callKw1 {X : Cx} {CX : CXT} {k : Nat} {f : Addr} {fd : FuncData} {sp : Sp} {E : XK} {x nm : Str} {e : Expr} {te : TE} {p pos kpos : Pos} (F : FnOk X.prog X.w X.K X.mg X.base CX k f fd [nm] sp) (hr : Room k X.A) (hm : X.mg x = some (.ref f)) (hk : PySem.W.keepIn X.K (.ref f) = true)
    (hb : ∀ (s : Shared) (u : Value), X.K.In s.heap → BindsTo s fd ⟨[], [(nm, u)]⟩ [(nm, u)]) (hx : Passes CX X E) (he : PE X e te) (hg : Gl X x := by rfl) (hdb : (x == ("__debug__" : Str)) = false := by decide) :
    PE X (.Call (.Name x p) [] [⟨some nm, e, kpos⟩] pos) (tCall sp [] E (tCons te tNil)) := by
  refine ⟨fun pins s σ H Q I h => ?_⟩
  refine wpAny_Call_Name_kw (ld_glob I hg hm (PySem.W.callWith_KW0 (h₀ := X.base) I.ok.mod.kin hk (by rfl) (thn ((pk_cons (nm := some nm) (kpos := kpos) he pk_nil).run pos pins s σ H (fun vs H1 => sp (vs ++ []) H1 Q E) I h) fun ws s2 ⟨zs, H2, I2, rz, q⟩ => ⟨I2.kIn, ?_⟩) (by rfl)) hdb)
  have q : sp (zs ++ []) H2 Q E := q
  rw [List.append_nil] at q
  have hl := F.len _ _ _ _ q
  obtain ⟨v, rfl⟩ : ∃ v, zs = [v] := List.length_eq_one_iff.mp hl
  obtain ⟨u, rfl, rv⟩ := vals1 rz
  show wpAny _ _ (call (.ref f) [] [(nm, u)]) _ _ _
  refine wpAny_call (codeAny_mono (F.run X.A X.stack s2 H2 ⟨[], [(nm, u)]⟩ [u] [v] Q E hr I2.env0 (hb s2 u I2.kIn) (.cons rv .nil) q) fun r s' hq => ?_)
  cases r with
  | error er => exact hx pins σ H2 s2 er s' I2 hq
  | ok fl =>
    cases fl with
    | ret w => exact I2.after hq
    | next => exact False.elim hq
    | brk => exact False.elim hq
    | cont => exact False.elim hq
end Kw
set_option maxHeartbeats 1000000
namespace Kw
open PySem PySem.Spec PyProof.Rows L2 LamX
/-! ### Range(stretches=e) -/
structure RangeMkK (P : Program) (w : World) (K : PySem.W.Frag) (mg : Str → Option Value) (base : Heap) (CR CE : Addr) (T : List (Addr × Str)) (k : Nat) : Prop where
  ex : ∃ f fd, FnOk P w K mg base (L2.CX P w) k f fd ["self", "stretches"] (spInit K T CR CE) ∧ Mk K CR f ∧ KBn K fd ["self", "stretches"] 1 ["stretches"] (fun us ws => us ++ ws) (fun vs zs => vs ++ zs)
  gR : mg "Range" = some (.ref CR)
theorem pe_rngK {X : Cx} {CR CE : Addr} {T : List (Addr × Str)} {k : Nat} {p pos kpos : Pos} {e : Expr} {te : TE} {E : XK} (M : RangeMkK X.prog X.w X.K X.mg X.base CR CE T k) (hr : Room (k + 1) X.A) (hx : Passes (L2.CX X.prog X.w) X E) (he : PE X e te) (hg : Gl X "Range" := by rfl) :
    PE X (.Call (.Name "Range" p) [] [⟨some "stretches", e, kpos⟩] pos) (tMakeK CR 0 1 (spInit X.K T CR CE) (fun vs zs => vs ++ zs) E tNil (tCons te tNil)) := by
  obtain ⟨f, fd, F, Mk, hb⟩ := M.ex
  exact pe_makeK0 Mk F hr hg M.gR hb hx (pk_cons he pk_nil) (by rfl) (by rfl) (by decide) (by rfl)
/-- its reading, of stretches that stand in a local -/
theorem rngK_good {K : PySem.W.Frag} {H : Hp} {σ : L2.St} {i : Nat} {CR CE l : Addr} {T : List (Addr × Str)} {E : XK} {Q : VK} {xs : List V} {ss : List Str2} (hi : σ[i]? = some (some (.ref l))) (hT : Tabs T H) (hS : SqLT K H l xs) (hl : xs.length ≤ 40) (h : Strs K H xs ss) (ok : ∀ s ∈ ss, okS s)
    (q : ∀ (H' : Hp) (x : Addr) (ss' : List Str2), ExtN H H' → Tabs T H' → IsR K CR H' (.ref x) (ss'.foldl nfAdd []) → ss'.Perm ss → ss'.Pairwise (fun p q => ¬ ltV q.1 p.1) → H x = none → Q (.ref x) H') :
    tMakeK CR 0 1 (spInit K T CR CE) (fun vs zs => vs ++ zs) E tNil (tCons (tVar i) tNil) σ H Q := by
  refine ⟨_, hi, rfl, rfl, fun x dx na nd ne => ?_⟩
  exact rngA (R := fun H2 => Q (.ref x) H2) hT hS hl h ok na nd fun H' ss' e T' hR pm pw => q H' x ss' e T' hR pm pw na
end Kw
set_option maxHeartbeats 1000000
namespace Kw
open PySem PySem.Spec PyProof.Rows L2 LamX
/-! ### r.stretches, y in r -/
structure RangeGet (P : Program) (w : World) (K : PySem.W.Frag) (mg : Str → Option Value) (base : Heap) (CR : Addr) (k : Nat) : Prop where
  ex : ∃ pp g fd, PropOf K CR "stretches" pp g ∧ FnOk P w K mg base CX0 k g fd ["self"] (spGetR K CR) ∧ Binds K fd ["self"] []
  cls : Cls K CR
structure RangeHas (P : Program) (w : World) (K : PySem.W.Frag) (mg : Str → Option Value) (base : Heap) (CR : Addr) (k : Nat) : Prop where
  ex : ∃ f fd, FnOk P w K mg base CX0 k f fd ["self", "x"] (spHasR K CR) ∧ PySem.W.findIn K (.ref CR) "__contains__" = some (some (.ref f)) ∧ PySem.W.isFn K (.ref f) = true ∧ Binds K fd ["self", "x"] []
section
variable {X : Cx} {CR : Addr} {k : Nat}
theorem pe_stretches {e : Expr} {te : TE} {pos : Pos} (G : RangeGet X.prog X.w X.K X.mg X.base CR k) (hr : Room (k + 1) X.A) (he : PE X e te) (hab : attributeBase e "stretches" X.env (eval e X.env) = eval e X.env := by rfl) : PE X (.Attribute e "stretches" pos) (tProp CR (spGetR X.K CR) [] E0 te) := by
  obtain ⟨pp, g, fd, hp, F, hb⟩ := G.ex
  exact pe_prop he G.cls hp F hr hb .nil pass0 hab
theorem op_inR (G : RangeHas X.prog X.w X.K X.mg X.base CR k) (hr : Room k X.A) : OpR X (compareOp .In) (rOwnIn CR (spHasR X.K CR) E0) := by
  obtain ⟨f, fd, F, h1, h2, hb⟩ := G.ex
  exact op_inO F hr h1 h2 hb pass0
end
section
variable {K : PySem.W.Frag} {H : Hp} {σ : L2.St} {i : Nat} {CR : Addr} {Q : VK} {x y : V} {nf : List Str2}
theorem get_read (hi : σ[i]? = some (some x)) (h : IsR K CR H x nf) (q : ∀ t zs, SqT K H t zs → Strs K H zs nf → Q (.ref t) H) : tProp CR (spGetR K CR) [] E0 (tVar i) σ H Q := by
  obtain ⟨a, dx, t, zs, rfl, h1, h2, h3⟩ := id h
  exact ⟨_, hi, a, dx, _, rfl, h1, _, nf, rfl, h, q⟩
theorem in_readR {v : Ver} (h : IsR K CR H x nf) (hn : nf.length ≤ 100) (hv : IsVer K H y v) (ov : okV v) (q : ∀ H', Same H H' → Q (.bl (hasL nf v)) H') : rOwnIn CR (spHasR K CR) E0 y x H Q := by
  obtain ⟨a, dx, t, zs, rfl, h1, _⟩ := id h
  exact ⟨a, dx, _, rfl, h1, _, y, nf, rfl, h, hn, .inl ⟨v, hv, ov, fun H' s => ⟨_, rfl, q H' s⟩⟩⟩
theorem in_readN (h : IsR K CR H x nf) (hn : nf.length ≤ 100) (hv : VerB K H y false) (q : ∀ H', Same H H' → Q (.bl false) H') : rOwnIn CR (spHasR K CR) E0 y x H Q := by
  obtain ⟨a, dx, t, zs, rfl, h1, _⟩ := id h
  exact ⟨a, dx, _, rfl, h1, _, y, nf, rfl, h, hn, .inr ⟨hv, fun H' s => ⟨_, rfl, q H' s⟩⟩⟩
end
end Kw
set_option maxHeartbeats 1000000
namespace Kw
open PySem PySem.Spec PyProof.Rows L2 LamX
/-! ### what the law itself asks -/
/-- a def of one parameter that is called by its name -/
structure DefN (P : Program) (w : World) (K : PySem.W.Frag) (mg : Str → Option Value) (base : Heap) (x : Str) (CX : CXT) (k : Nat) (nm : Str) (sp : Sp) : Prop where
  ex : ∃ f fd, FnOk P w K mg base CX k f fd [nm] sp ∧ mg x = some (.ref f) ∧ PySem.W.keepIn K (.ref f) = true ∧ ∀ (s : Shared) (u : Value), K.In s.heap → BindsTo s fd ⟨[], [(nm, u)]⟩ [(nm, u)]
theorem pe_dN {X : Cx} {CX : CXT} {k : Nat} {x nm : Str} {sp : Sp} {E : XK} {e : Expr} {te : TE} {p pos kpos : Pos} (D : DefN X.prog X.w X.K X.mg X.base x CX k nm sp) (hr : Room k X.A) (hx : Passes CX X E) (he : PE X e te) (hg : Gl X x := by rfl) (hdb : (x == ("__debug__" : Str)) = false := by decide) :
    PE X (.Call (.Name x p) [] [⟨some nm, e, kpos⟩] pos) (tCall sp [] E (tCons te tNil)) := by
  obtain ⟨f, fd, F, hm, hk, hb⟩ := D.ex
  exact pe_callKw1 F hr hm hk hb hx he hg hdb
section
variable {K : PySem.W.Frag} {H H' : Hp} {d w c : Addr} {B : Int} {CR : Addr}
theorem FrX.sqT {a : Addr} {xs : List V} (F : FrX d w H H') (S : StAt H d w c B) (h : SqT K H a xs) : SqT K H' a xs := by
  obtain ⟨kvs, hd⟩ := S.hd
  obtain ⟨ys, hw⟩ := S.hw
  rcases h with (h | ⟨o, h⟩) | h
  · exact .inl (.inl (F _ _ (ne_of h hd fun z => nomatch z) (ne_of h hw fun z => nomatch z) h fun ps z => nomatch z))
  · exact .inl (.inr ⟨o, F _ _ (ne_of h hd fun z => nomatch z) (ne_of h hw fun z => nomatch z) h fun ps z => nomatch z⟩)
  · exact .inr h
theorem FrX.lst {a : Addr} {xs : List V} (F : FrX d w H H') (S : StAt H d w c B) (h : H a = some (.lst xs)) (n : a ≠ w) : H' a = some (.lst xs) := by
  obtain ⟨kvs, hd⟩ := S.hd
  exact F _ _ (ne_of h hd fun z => nomatch z) n h fun ps z => nomatch z
/-- what keeps tuples keeps stretches -/
theorem strs_keep {zs : List V} {ss : List Str2} (k : ∀ a xs, SqT K H a xs → SqT K H' a xs) (h : Strs K H zs ss) : Strs K H' zs ss := by
  refine ⟨h.len, fun i x s p q => ?_⟩
  obtain ⟨a, l, u, rfl, t, tl, tu⟩ := h.at_ i x s p q
  have kv : ∀ {y : V} {v : Ver}, IsVer K H y v → IsVer K H' y v := fun {y v} ⟨b, e, r⟩ => ⟨b, e, k _ _ r⟩
  refine ⟨a, l, u, rfl, k _ _ t, kv tl, ?_⟩
  cases es : s.2 with
  | none => rw [es] at tu; exact tu
  | some z => rw [es] at tu; exact kv tu
theorem IsR.frX {x : V} {nf : List Str2} (h : IsR K CR H x nf) (S : StAt H d w c B) (F : FrX d w H H') : IsR K CR H' x nf := by
  obtain ⟨a, dx, t, zs, rfl, h1, h2, h3⟩ := h
  obtain ⟨kvs, hd⟩ := S.hd
  obtain ⟨ys, hw⟩ := S.hw
  exact ⟨a, dx, t, zs, rfl, F _ _ (ne_of h1 hd fun z => nomatch z) (ne_of h1 hw fun z => nomatch z) h1 (fun ps z => nomatch z), F.sqT S h2, strs_keep (fun a xs => F.sqT S) h3⟩
theorem IsR.fr1 {l : Addr} {ys : List V} {x : V} {nf : List Str2} (h : IsR K CR H x nf) (F : Fr1 l H H') (hl : H l = some (.lst ys)) : IsR K CR H' x nf := by
  obtain ⟨a, dx, t, zs, rfl, h1, h2, h3⟩ := h
  exact ⟨a, dx, t, zs, rfl, F _ _ (ne_of h1 hl fun z => nomatch z) h1, F.sqT hl h2, F.strs hl h3⟩
theorem IsR.same {x : V} {nf : List Str2} (h : IsR K CR H x nf) (s : Same H H') : IsR K CR H' x nf := h.ext (ExtN.same s)
theorem StAt.fr1 {l : Addr} (S : StAt H d w c B) (F : Fr1 l H H') (n1 : d ≠ l) (n2 : w ≠ l) (n3 : c ≠ l) : StAt H' d w c B := by
  obtain ⟨ws, cs, r, t, hd, hw, hc, rest⟩ := S.ex
  exact ⟨ws, cs, r, t, F _ _ n1 hd, F _ _ n2 hw, F _ _ n3 hc, rest⟩
theorem OddV.same {x : V} (h : OddV K H x) (s : Same H H') : OddV K H' x := h.ext (ExtN.same s)
theorem VerB.same {x : V} {b : Bool} (h : VerB K H x b) (s : Same H H') : VerB K H' x b := h.ext (ExtN.same s)
theorem shaped_ver (v : Ver) : SeqAt.shaped (verD v) = true := by
  have h := cl_ver v
  simp only [SeqAt.shaped, h.1, Bool.true_and]
  exact decide_eq_true (by rw [h.2]; decide)
theorem eqv_ver (v : Ver) : PyData.eqv (verD v) (verD v) = true := PySem.SeqAt.eqv_refl _ (cl_ver v).1
end
/-- lists of two bools that are equal read alike -/
theorem two_ne (b : Bool) : (!decide (V.str (twoB b b) = V.str (twoB b b))) = false := by simp
end Kw
set_option maxHeartbeats 4000000
namespace Kw
open PySem PySem.Spec PyProof.Rows L2
open PySem.W (dataLt alike alikeAll AlikeAll minD cmpIn_lt iter_tupleW moved_old readsAll_len readsAll_atA argBest_fold reads_keeps)
/-! ### min of two versions -/
def minV (v u : Ver) : Ver := if ltV u v then u else v
section
variable {prog : Program} {w : World} {A : Around} {E : Value → Shared → Prop} {s : Shared}
theorem min2_data {a b : Value} {x y : PyData} {as : List Addr} {Q : Value → Shared → Prop} (hh : A.handled = none) (hr : ReadsAll s.heap [a, b] [x, y] as) (ha : AlikeAll [x, y]) (hu : A.units + 1 + PyData.depthAll [x, y] < cLine)
    (q : ∀ v h' tk bs, (v = a ∨ v = b) → Reads h' v (minD x [y]) bs → (∀ b o, s.heap.get? b = some o → h'.get? b = some o) → Q v { s with heap := h', toks := tk }) : wpAny (model prog w) A (call (.builtin "min") [a, b]) Q E s := by
  have hname : (toString "min" ++ toString ".loop" : String) = "min.loop" := by decide
  refine call_function_tree F.kind_min F.plain_min F.entry_min (F.args_min2 _ _) ?_
  show wpAny _ A.in1 (Builtin.Builtins.bindParams "min" ["key", "default"] 0 ⟨[], []⟩ >>= _) _ _ s
  refine wpAny_bind (wpAny_of_eq (show Builtin.Builtins.bindParams "min" ["key", "default"] 0 ⟨[], []⟩ = pure [none, none] from rfl) ?_)
  show wpAny _ A.in1 (newTuple [a, b] >>= _) _ _ s
  refine wpAny_bind (wpAny_newObj_type ?_)
  have k1 : ∀ c o, s.heap.get? c = some o → (s.heap.push { cls := .type "tuple", data := .seq #[a, b] }).get? c = some o := fun c o e => Heap.get?_push_of_some _ e
  have hT : (s.heap.push { cls := .type "tuple", data := .seq #[a, b] }).IsTuple s.heap.objs.size #[a, b] := ⟨_, Heap.get?_push_size _ rfl, rfl, 0, rfl⟩
  have hr1 : ReadsAll (s.heap.push { cls := .type "tuple", data := .seq #[a, b] }) (#[a, b] : Array Value).toList [x, y] as := ReadsAll.keeps k1 hr
  refine wpAny_bind (iter_tupleW (A := A.in1) (s := { s with heap := s.heap.push { cls := .type "tuple", data := .seq #[a, b] } }) hh hT fun s₂ e W st hfp hw hk => ?_)
  refine wpAny_bind (wpAny_newObj_type ?_)
  have hSf : s₂.heap.objs.size ∉ [(s.heap.push { cls := .type "tuple", data := .seq #[a, b] }).objs.size, s.heap.objs.size] := fun hm => Nat.lt_irrefl _ (hfp _ hm)
  rw [hname]
  refine wpAny_pure ⟨plainId_quiet F.plain_min_loop _, codeAny_min_loop_firstH W (s.heap.push { cls := .type "tuple", data := .seq #[a, b] }) hw _ (cmpIn_lt (A := A.in1) (s := { s with heap := s.heap.push { cls := .type "tuple", data := .seq #[a, b] } }) hr1 ha (by show A.units + 1 + _ < _; exact hu)) s₂.heap.objs.size hSf (fresh_in hk) _ (by simp) (fun b o e => Heap.get?_push_of_some _ (hk b o e)) (W.frame 0 s₂ _ s₂.toks st (Nat.le_refl _) fun b _ o e => Heap.get?_push_of_some _ e) (Heap.get?_push_size _ rfl) fun v s' hP hm => ?_⟩
  obtain ⟨h', tk, rfl, hk'⟩ := moved_old e rfl (Moved.drop_new (tk := s₂.toks) hm (Nat.le_refl _))
  obtain ⟨bs, r, _, _, _⟩ := readsAll_atA hr1 _ v hP
  have e2 := (argBest_fold (fun a b => dataLt a b) PyData.none x [y] 1 (Nat.le_refl _)).2
  have e3 : List.take 1 [y] = [y] := rfl
  rw [e3] at e2
  refine q v h' tk bs ?_ (reads_keeps hk' (by unfold minD; rw [← e2]; exact r)) fun c o z => hk' _ _ (k1 _ _ z)
  have hm := Array.mem_of_getElem? hP
  simpa using hm
end
section
variable {X : Cx}
theorem cr_min2V {k : Nat} (hc : X.calm = true) (hr : Room k X.A) : CallR X (.builtin "min") (fun vs H Q => ∃ x y v u, vs = [x, y] ∧ IsVer X.K H x v ∧ IsVer X.K H y u ∧ ∀ z, IsVer X.K H z (minV v u) → Q z H) := by
  intro pins s σ H vs us Q I r h
  obtain ⟨x, y, v, u, rfl, hx, hy, q⟩ := h
  cases r with
  | cons r1 r =>
    cases r with
    | cons r2 r =>
      cases r
      rename_i vx vy
      obtain ⟨d1, ax, rfl, rfl⟩ := ver_reads I hx r1
      obtain ⟨d2, ay, rfl, rfl⟩ := ver_reads I hy r2
      have hm : minD (keyD v) [keyD u] = keyD (minV v u) := by
        show (if dataLt (keyD u) (keyD v) = true then keyD u else keyD v) = _
        rw [keyLt]
        unfold minV
        by_cases e : ltV u v <;> simp [e]
      refine min2_data (I.ok.hd hc) (.cons d1 (.cons d2 .nil)) ⟨?_, ?_⟩ ?_ fun z h' tk bs hz hrd kp => ?_
      · intro x hx y hy
        simp at hx hy
        rcases hx with rfl | rfl <;> rcases hy with rfl | rfl <;> simp [keyD, alike, alikeAll]
      · intro x hx
        simp at hx
        rcases hx with rfl | rfl <;> simp [keyD]
      · have := hr.un
        have e : PyData.depthAll [keyD v, keyD u] = 1 := by simp [keyD, PyData.depth, PyData.depthAll]
        rw [e]
        omega
      · rw [hm] at hrd
        rcases hz with rfl | rfl
        · have e1 := ((Reads.keeps kp d1).unique _ _ hrd).1
          exact ⟨.ref ax, H, I.kept kp, rfl, q _ (by rw [← keyD_inj e1]; exact hx)⟩
        · have e1 := ((Reads.keeps kp d2).unique _ _ hrd).1
          exact ⟨.ref ay, H, I.kept kp, rfl, q _ (by rw [← keyD_inj e1]; exact hy)⟩
end
/-! ### the earlier one of two ends -/
abbrev sEarlyE : Stmt := top 10
section
variable {P : Program} {w : World} {K : PySem.W.Frag} {mg : Str → Option Value} {base : Heap}
def spEarlyE (K : PySem.W.Frag) : Sp := fun vs H Q _ => ∃ (x y : V) (a b : Option Ver), vs = [x, y] ∧ IsEnd K H x a ∧ IsEnd K H y b ∧ ∀ z, IsEnd K H z (earlyE a b) → Q z H
theorem scEarlyE : FnScope ["one", "other"] ["one", "other"] (defScope sEarlyE) := ⟨rfl, rfl, rfl, by decide +kernel, rfl, by decide +kernel, by decide +kernel⟩
theorem ok_earlyE {f : Addr} {fd : FuncData} {k : Nat} (F : Fun K "earlier_end" "earlier_end" sEarlyE f fd) (mm : mg "min" = none) : FnOk P w K mg base CX0 (k + 1) f fd ["one", "other"] (spEarlyE K) := by
  refine F.ok scEarlyE (fun vs H Q E h => ?_) (fun cdv A outer s H vs Q E hr h => ?_)
  · obtain ⟨x, y, a, b, rfl, _⟩ := h
    rfl
  · obtain ⟨x, y, a, b, rfl, hx, hy, q⟩ := h
    refine ⟨_, pss_cons (ps_if (pt_cmpR op_isN (pv 0) pe_non (nomark _)) (pss_one (ps_ret (pv 1))) pss_nil)
      (pss_cons (ps_if (pt_cmpR op_isN (pv 1) pe_non (nomark _)) (pss_one (ps_ret (pv 0))) pss_nil)
      (pss_one (ps_ret (pe_callB (cr_min2V rfl hr) (by rfl) mm (by decide +kernel) (pa_cons (pv 0) (pa_cons (pv 1) pa_nil)))))), ?_⟩
    refine ⟨x, rfl, rfl, _, rfl, ?_⟩
    rw [isEnd_non hx]
    cases a with
    | none => exact iteT ⟨y, rfl, q y (by cases b <;> exact hy)⟩
    | some v =>
      refine iteF ⟨y, rfl, rfl, _, rfl, ?_⟩
      rw [isEnd_non hy]
      cases b with
      | none => exact iteT ⟨x, rfl, q x hx⟩
      | some u => exact iteF ⟨_, rfl, _, rfl, x, y, v, u, rfl, hx, hy, fun z hz => q z hz⟩
end
end Kw
set_option maxHeartbeats 4000000
namespace Kw
open PySem PySem.Spec PyProof.Rows L2
/-! ### ends as data -/
def verD' (v : Ver) : PyData := .tuple ((vl v).map PyData.int)
def endD' : Option Ver → PyData
  | none => .none
  | some u => verD' u
theorem eqv_verD (v u : Ver) : PyData.eqv (verD' v) (verD' u) = decide (v = u) := by
  obtain ⟨a, b, c⟩ := v
  obtain ⟨d, e, f⟩ := u
  rw [Bool.eq_iff_iff]
  simp [verD', PyData.eqv, PyData.eqvAll]
theorem eqv_end (x y : Option Ver) : PyData.eqv (endD' x) (endD' y) = decide (x = y) := by
  cases x with
  | none =>
    cases y with
    | none => simp [endD', PyData.eqv]
    | some u => simp [endD', verD', PyData.eqv]
  | some v =>
    cases y with
    | none => simp [endD', verD', PyData.eqv]
    | some u => simp only [endD', eqv_verD, Option.some.injEq]
theorem dp_end' {K : PySem.W.Frag} {H : Hp} {x : V} {e : Option Ver} (h : IsEnd K H x e) : Dp K H x (endD' e) := by
  cases e with
  | none =>
    obtain rfl : x = .non := h
    exact .non
  | some u =>
    obtain ⟨a, rfl, t⟩ := h
    exact .tup t (dp_ints _)
theorem shaped_end (e : Option Ver) : SeqAt.shaped (endD' e) = true := by
  cases e with
  | none => simp [SeqAt.shaped, endD', PyData.canLay0, PyData.depth]
  | some v => simp [SeqAt.shaped, endD', verD', PyData.canLay0, PyData.canLayAll0, PyData.depth, PyData.depthAll]
/-! ### common versions -/
abbrev sCom : Stmt := top 12
abbrev sBut : Stmt := top 13
section
variable {P : Program} {w : World} {K : PySem.W.Frag} {mg : Str → Option Value} {base : Heap}
def spCom (K : PySem.W.Frag) : Sp := fun vs H Q _ => ∃ (a b : Addr) (xs ys : List V) (as bs : List Str2), vs = [.ref a, .ref b] ∧ SqT K H a xs ∧ SqT K H b ys ∧ Strs K H xs as ∧ Strs K H ys bs ∧ as.length ≤ 200 ∧ bs.length ≤ 200 ∧
  ∀ H' D zs, Same H H' → H D = none → H' D = some (.tup zs) → Strs K H' zs (comV as bs) → Q (.ref D) H'
abbrev nCom : List Str := ["ones", "others", "found", "i", "j", "low", "high"]
theorem scCom : FnScope nCom ["ones", "others"] (defScope sCom) := ⟨rfl, rfl, rfl, by decide +kernel, rfl, by decide +kernel, by decide +kernel⟩
theorem drop_at {α : Type} {l : List α} {i : Nat} {x : α} (h : l[i]? = some x) : l.drop i = x :: l.drop (i + 1) := by
  obtain ⟨hi, e⟩ := List.getElem?_eq_some_iff.mp h
  rw [List.drop_eq_getElem_cons hi, e]
/-- the state of the loop: n steps were gone -/
def comInv (K : PySem.W.Frag) (H : Hp) (a b l : Addr) (as bs : List Str2) (n : Nat) : L2.St → Hp → Prop := fun σ H' => ∃ (i j : Nat) (zs : List V) (fs : List Str2) (y5 y6 : Option V), σ = [some (.ref a), some (.ref b), some (.ref l), some (.int i), some (.int j), y5, y6] ∧ i + j = n ∧ i ≤ as.length ∧ j ≤ bs.length ∧ Same H H' ∧ H' l = some (.lst zs) ∧ Strs K H' zs fs ∧ fs ++ comV (as.drop i) (bs.drop j) = comV as bs ∧ fs.length ≤ i + j
theorem ok_com {f : Addr} {fd : FuncData} {k : Nat} (F : Fun K "common" "common" sCom f fd) (ml : mg "len" = none) (mm : mg "max" = none) (mt : mg "tuple" = none) (DE : Def P w K mg base "earlier_end" CX0 k ["one", "other"] (spEarlyE K)) : FnOk P w K mg base CX0 (k + 1) f fd ["ones", "others"] (spCom K) := by
  refine F.ok scCom (fun vs H Q E h => ?_) (fun cdv A outer s H vs Q E hr h => ?_)
  · obtain ⟨a, b, xs, ys, as, bs, rfl, _⟩ := h
    rfl
  · obtain ⟨a, b, xs, ys, as, bs, rfl, ha, hb, hxs, hys, la, lb, q⟩ := h
    refine ⟨_, pss_cons (ps_set (i := 2) scCom.nd rfl (.inl rfl) (pe_lst pa_nil))
    (pss_cons (ps_asg2 pe_int (pg_name (i := 3) scCom.nd rfl (.inl rfl)) (pg_name (i := 4) scCom.nd rfl (.inl rfl)))
    (pss_cons (ps_while PassesOwn.never (PW.pt (pw_and (pt_cmpR op_lt (pv 3) (pe_callB call_len_seq (by rfl) ml PySem.boot_len (pa_cons (pv 0) pa_nil)) (nomark _)) (pw_and1 (pt_cmpR op_lt (pv 4) (pe_callB call_len_seq (by rfl) ml PySem.boot_len (pa_cons (pv 1) pa_nil)) (nomark _)))))
      (pss_cons (ps_set (i := 5) scCom.nd rfl (.inl rfl) (pe_callB (cr_max2V rfl hr) (by rfl) mm boot_max (pa_cons (pe_ix ix_tup (pe_ix ix_tup (pv 0) (pv 3) (fun _ _ => rfl)) pe_int (fun _ _ => rfl)) (pa_cons (pe_ix ix_tup (pe_ix ix_tup (pv 1) (pv 4) (fun _ _ => rfl)) pe_int (fun _ _ => rfl)) pa_nil))))
      (pss_cons (ps_set (i := 6) scCom.nd rfl (.inl rfl) (pe_d DE hr (pa_cons (pe_ix ix_tup (pe_ix ix_tup (pv 0) (pv 3) (fun _ _ => rfl)) pe_int (fun _ _ => rfl)) (pa_cons (pe_ix ix_tup (pe_ix ix_tup (pv 1) (pv 4) (fun _ _ => rfl)) pe_int (fun _ _ => rfl)) pa_nil))))
      (pss_cons (ps_if (PW.pt (pw_or (pt_cmpR op_isN (pv 6) pe_non (nomark _)) (pw_or1 (pt_cmpR (op_ver (.inl rfl) (Nat.lt_of_le_of_lt (Nat.le_add_right _ _) hr.units)) (pv 5) (pv 6) (nomark _))))) (pss_one (ps_expr (pe_bm PySem.F.plainAttrs_list PySem.F.slot_list_append PySem.F.type_list_append mt_append (pv 2) (pa_cons (pe_tup (pa_cons (pv 5) (pa_cons (pv 6) pa_nil))) pa_nil)))) pss_nil)
      (pss_one (ps_if (pt_cmpR (op_eqD hr.units) (pv 6) (pe_ix ix_tup (pe_ix ix_tup (pv 0) (pv 3) (fun _ _ => rfl)) pe_int (fun _ _ => rfl)) (nomark _)) (pss_one (ps_aug (i := 3) scCom.nd rfl (.inl rfl) pe_int ip_add)) (pss_one (ps_aug (i := 4) scCom.nd rfl (.inl rfl) pe_int ip_add))))))))
    (pss_one (ps_ret (pe_callTy call_tuple_of (by rfl) mt (by decide +kernel) (pa_cons (pv 2) pa_nil)))))), ?_⟩
    refine ⟨Nat.zero_le _, fun l hl => ?_⟩
    have s0 := same_upd (o := .lst []) hl
    have lxs := hxs.len
    have lys := hys.len
    refine ⟨fun (m : Nat) (σ : L2.St) (H' : Hp) => ∃ n, m = as.length + bs.length - n ∧ comInv K H a b l as bs n σ H', ⟨_, 0, rfl, 0, 0, [], [], none, none, rfl, rfl, Nat.zero_le _, Nat.zero_le _, s0, upd_same, ⟨rfl, fun i x s h => by simp at h⟩, rfl, Nat.le_refl _⟩, ?_⟩
    rintro m σ H1 ⟨n, rfl, i, j, zs, fs, y5, y6, rfl, en, hi, hj, s1, hl1, hzs, hcom, lfs⟩
    have done : (as.drop i = [] ∨ bs.drop j = []) → ∀ D, H1 D = none → Q (.ref D) (upd H1 D (.tup zs)) := fun e D hD => by
      have hc : comV (as.drop i) (bs.drop j) = [] := by
        rcases e with e | e
        · rw [e, comV_nil]
        · rw [e, comV_nil2]
      rw [hc, List.append_nil] at hcom
      have t := same_upd (o := .tup zs) hD
      exact q _ D zs (s1.trans t) (s1.free hD) upd_same (by rw [← hcom]; exact hzs.same t)
    refine ⟨_, rfl, _, rfl, a, xs, rfl, .inr (Same.sqT s1 ha), _, _, rfl, rfl, _, rfl, ?_⟩
    by_cases ci : i < as.length
    · rw [show decide ((i : Int) < (xs.length : Int)) = true from decide_eq_true (by omega)]
      refine iteT ⟨_, rfl, _, rfl, b, ys, rfl, .inr (Same.sqT s1 hb), _, _, rfl, rfl, _, rfl, ?_⟩
      by_cases cj : j < bs.length
      · rw [show decide ((j : Int) < (ys.length : Int)) = true from decide_eq_true (by omega)]
        have gx : xs[i]? = some xs[i] := List.getElem?_eq_getElem (by omega)
        have gy : ys[j]? = some ys[j] := List.getElem?_eq_getElem (by omega)
        obtain ⟨sa, hsa, isa⟩ := (hxs.same s1).get gx
        obtain ⟨sb, hsb, isb⟩ := (hys.same s1).get gy
        obtain ⟨pa, xl, xh, ea, ta, va, na⟩ := id isa
        obtain ⟨pb, yl, yh, eb, tb, vb, nb⟩ := id isb
        rw [ea] at gx
        rw [eb] at gy
        have step := comV_cons sa (as.drop (i + 1)) sb (bs.drop (j + 1))
        rw [← drop_at hsa, ← drop_at hsb] at step
        rw [step] at hcom
        refine iteT ⟨comInv K H a b l as bs (n + 1), fun σ' H' hN => ⟨_, by omega, n + 1, rfl, hN⟩, ?_⟩
        refine ⟨_, rfl, _, rfl, a, xs, i, .ref pa, rfl, rfl, Same.sqT s1 ha, atI_nat gx, pa, _, 0, xl, rfl, rfl, ta, atI_nat (j := 0) rfl, ?_⟩
        refine ⟨_, rfl, _, rfl, b, ys, j, .ref pb, rfl, rfl, Same.sqT s1 hb, atI_nat gy, pb, _, 0, yl, rfl, rfl, tb, atI_nat (j := 0) rfl, ?_⟩
        refine ⟨xl, yl, sa.1, sb.1, rfl, va, vb, fun zl hzl => ?_⟩
        refine ⟨_, rfl, _, rfl, a, xs, i, .ref pa, rfl, rfl, Same.sqT s1 ha, atI_nat gx, pa, _, 1, xh, rfl, rfl, ta, atI_nat (j := 1) rfl, ?_⟩
        refine ⟨_, rfl, _, rfl, b, ys, j, .ref pb, rfl, rfl, Same.sqT s1 hb, atI_nat gy, pb, _, 1, yh, rfl, rfl, tb, atI_nat (j := 1) rfl, ?_⟩
        refine ⟨xh, yh, sa.2, sb.2, rfl, na, nb, fun zh hzh => ?_⟩
        have laz : zs.length ≤ 1000 := by rw [hzs.len]; omega
        replace hzl : IsVer K H1 zl (maxV sa.1 sb.1) := hzl
        -- what follows the first if
        have rest : ∀ (H2 : Hp) (zs2 : List V) (fs2 : List Str2), Same H H2 → H2 l = some (.lst zs2) → Strs K H2 zs2 fs2 → SqT K H2 pa [xl, xh] → IsEnd K H2 xh sa.2 → IsEnd K H2 zh (earlyE sa.2 sb.2) → fs2.length ≤ i + j + 1 → fs2 ++ (if earlyE sa.2 sb.2 = sa.2 then comV (as.drop (i + 1)) (bs.drop j) else comV (as.drop i) (bs.drop (j + 1))) = comV as bs →
            (tIfS (tTest (tOp (rEqD K) (tVar 6) (tOp (rIxT K) (tOp (rIxT K) (tVar 0) (tVar 3)) (tC (.int 1))))) (tAug 3 (tC (.int 1)) (ipI fun i j => i + j)) (tAug 4 (tC (.int 1)) (ipI fun i j => i + j)))
              { nx := comInv K H a b l as bs (n + 1), rt := Q } [some (.ref a), some (.ref b), some (.ref l), some (.int i), some (.int j), some zl, some zh] H2 := by
          intro H2 zs2 fs2 s2 hl2 hz2 tp ne nz lf2 hc2
          refine ⟨_, rfl, _, rfl, _, rfl, a, xs, i, .ref pa, rfl, rfl, Same.sqT s2 ha, atI_nat gx, pa, _, 1, xh, rfl, rfl, tp, atI_nat (j := 1) rfl, ?_⟩
          refine ⟨_, _, dp_end' nz, dp_end' ne, shaped_end _, shaped_end _, _, rfl, ?_⟩
          rw [eqv_end]
          by_cases c : earlyE sa.2 sb.2 = sa.2
          · rw [if_pos c] at hc2
            rw [decide_eq_true c]
            exact iteT ⟨_, rfl, _, _, rfl, rfl, i + 1, j, zs2, fs2, _, _, rfl, by omega, by omega, hj, s2, hl2, hz2, hc2, by omega⟩
          · rw [if_neg c] at hc2
            rw [decide_eq_false c]
            exact iteF ⟨_, rfl, _, _, rfl, rfl, i, j + 1, zs2, fs2, _, _, rfl, by omega, hi, by omega, s2, hl2, hz2, hc2, by omega⟩
        -- the pair is put in
        have put : someIn (maxV sa.1 sb.1) (earlyE sa.2 sb.2) = true → ∀ p, H1 p = none → (tIfS (tTest (tOp (rEqD K) (tVar 6) (tOp (rIxT K) (tOp (rIxT K) (tVar 0) (tVar 3)) (tC (.int 1))))) (tAug 3 (tC (.int 1)) (ipI fun i j => i + j)) (tAug 4 (tC (.int 1)) (ipI fun i j => i + j)))
              { nx := comInv K H a b l as bs (n + 1), rt := Q } [some (.ref a), some (.ref b), some (.ref l), some (.int i), some (.int j), some zl, some zh] (upd (upd H1 p (.tup [zl, zh])) l (.lst (zs ++ [.ref p]))) := fun h p hp => by
          have t1 := same_upd (o := .tup [zl, zh]) hp
          have hl2 := t1 _ _ hl1
          have f1 : Fr1 l (upd H1 p (.tup [zl, zh])) (upd (upd H1 p (.tup [zl, zh])) l (.lst (zs ++ [.ref p]))) := Fr1.put
          rw [if_pos h, ← List.append_assoc] at hcom
          refine rest _ _ _ (fun c o e => ?_) upd_same ((f1.strs hl2 (hzs.same t1)).snoc (f1.str hl2 (s := (maxV sa.1 sb.1, earlyE sa.2 sb.2)) ⟨p, zl, zh, rfl, .inl (.inl upd_same), hzl.same t1, hzh.same t1⟩)) (f1.sqT hl2 (Same.sqT t1 ta)) (f1.end_ hl2 (na.same t1)) (f1.end_ hl2 (hzh.same t1)) (by rw [List.length_append]; simp; omega) hcom
          rw [upd_ne (ne_of_none e hl)]
          exact t1 _ _ (s1 _ _ e)
        have hl0 : ∀ p, H1 p = none → upd H1 p (.tup [zl, zh]) l = some (.lst zs) := fun p hp => same_upd hp _ _ hl1
        refine ⟨_, rfl, rfl, _, rfl, ?_⟩
        rw [isEnd_non hzh]
        cases hh : earlyE sa.2 sb.2 with
        | none =>
          refine iteT (iteT ⟨_, rfl, .inl ⟨rfl, _, SqL.of hl1⟩, _, rfl, _, rfl, by show 2 ≤ sizeLine; decide, fun p hp => ⟨l, zs, _, rfl, rfl, hl0 p hp, small1000 laz, put (by rw [hh]; rfl) p hp⟩⟩)
        | some u =>
          rw [hh] at hzh
          refine iteF ⟨_, rfl, _, rfl, maxV sa.1 sb.1, u, hzl, hzh, _, rfl, ?_⟩
          by_cases c : ltV (maxV sa.1 sb.1) u
          · rw [show cmpV .Lt (maxV sa.1 sb.1) u = true from decide_eq_true c]
            exact iteT ⟨_, rfl, .inl ⟨rfl, _, SqL.of hl1⟩, _, rfl, _, rfl, by show 2 ≤ sizeLine; decide, fun p hp => ⟨l, zs, _, rfl, rfl, hl0 p hp, small1000 laz, put (by rw [hh]; exact decide_eq_true c) p hp⟩⟩
          · rw [show cmpV .Lt (maxV sa.1 sb.1) u = false from decide_eq_false c]
            have no : ¬ someIn (maxV sa.1 sb.1) (earlyE sa.2 sb.2) = true := by rw [hh]; exact fun z => c (of_decide_eq_true z)
            rw [if_neg no, List.nil_append] at hcom
            exact iteF (rest H1 zs fs s1 hl1 hzs ta na (by rw [hh]; exact hzh) (by omega) hcom)
      · rw [show decide ((j : Int) < (ys.length : Int)) = false from decide_eq_false (by omega)]
        exact iteF ⟨_, rfl, _, _, rfl, .inl ⟨SqL.of hl1, fun D hD => done (.inr (List.drop_eq_nil_of_le (by omega))) D hD⟩⟩
    · rw [show decide ((i : Int) < (xs.length : Int)) = false from decide_eq_false (by omega)]
      exact iteF (iteF ⟨_, rfl, _, _, rfl, .inl ⟨SqL.of hl1, fun D hD => done (.inl (List.drop_eq_nil_of_le (by omega))) D hD⟩⟩)
end
end Kw
set_option maxHeartbeats 4000000
namespace Kw
open PySem PySem.Spec PyProof.Rows L2
/-! ### all versions that are not in stretches -/
theorem NF.drop {ss : List Str2} (h : NF ss) (n : Nat) : NF (ss.drop n) := ⟨fun s hs => h.ok s (List.mem_of_mem_drop hs), h.pw.sublist (List.drop_sublist n ss)⟩
section
variable {P : Program} {w : World} {K : PySem.W.Frag} {mg : Str → Option Value} {base : Heap}
def spBut (K : PySem.W.Frag) : Sp := fun vs H Q _ => ∃ (a : Addr) (xs : List V) (ss : List Str2), vs = [.ref a] ∧ SqT K H a xs ∧ Strs K H xs ss ∧ NF ss ∧ ss.length ≤ 200 ∧
  ∀ H' D zs, Same H H' → H D = none → H' D = some (.tup zs) → Strs K H' zs (notV ss) → Q (.ref D) H'
abbrev nBut : List Str := ["stretches", "found", "start", "low", "high"]
theorem scBut : FnScope nBut ["stretches"] (defScope sBut) := ⟨rfl, rfl, rfl, by decide +kernel, rfl, by decide +kernel, by decide +kernel⟩
theorem ok_but {f Z : Addr} {fd : FuncData} {k : Nat} (F : Fun K "all_but" "all_but" sBut f fd) (mt : mg "tuple" = none) (gZ : mg "ZERO" = some (.ref Z)) (hZ : ∀ H : Hp, IsVer K H (.ref Z) v000) : FnOk P w K mg base CX0 (k + 1) f fd ["stretches"] (spBut K) := by
  refine F.ok scBut (fun vs H Q E h => ?_) (fun cdv A outer s H vs Q E hr h => ?_)
  · obtain ⟨a, xs, ss, rfl, _⟩ := h
    rfl
  · obtain ⟨a, xs, ss, rfl, ha, hxs, nf, la, q⟩ := h
    refine ⟨_, pss_cons (ps_set (i := 1) scBut.nd rfl (.inl rfl) (pe_lst pa_nil))
    (pss_cons (ps_set (i := 2) scBut.nd rfl (.inl rfl) (pe_glob (v := .ref Z) (by rfl) gZ rfl))
    (pss_cons (ps_for PassesOwn.never rfl (pi_tup (pv 0)) (pg_tup rfl (pgs_cons (pg_name (i := 3) scBut.nd rfl (.inl rfl)) (pgs_cons (pg_name (i := 4) scBut.nd rfl (.inl rfl)) pgs_nil)))
      (pss_cons (ps_if (pt_cmpR (op_ver (.inl rfl) (Nat.lt_of_le_of_lt (Nat.le_add_right _ _) hr.units)) (pv 2) (pv 3) (nomark _)) (pss_one (ps_expr (pe_bm PySem.F.plainAttrs_list PySem.F.slot_list_append PySem.F.type_list_append mt_append (pv 1) (pa_cons (pe_tup (pa_cons (pv 2) (pa_cons (pv 3) pa_nil))) pa_nil)))) pss_nil)
      (pss_one (ps_set (i := 2) scBut.nd rfl (.inl rfl) (pv 4)))))
    (pss_cons (ps_if (pt_cmpR op_notN (pv 2) pe_non (nomark _)) (pss_one (ps_expr (pe_bm PySem.F.plainAttrs_list PySem.F.slot_list_append PySem.F.type_list_append mt_append (pv 1) (pa_cons (pe_tup (pa_cons (pv 2) (pa_cons pe_non pa_nil))) pa_nil)))) pss_nil)
    (pss_one (ps_ret (pe_callTy call_tuple_of (by rfl) mt (by decide +kernel) (pa_cons (pv 1) pa_nil))))))), ?_⟩
    refine ⟨Nat.zero_le _, fun l hl => ?_⟩
    have s0 := same_upd (o := .lst []) hl
    have lx := hxs.len
    refine ⟨_, rfl, a, rfl, ⟨_, Same.sqT s0 ha⟩, for_tup (K := K) (a := a) (xs := xs) (fun n σ H' => ∃ (x : V) (st : Option Ver) (zs : List V) (fs : List Str2) (y3 y4 : Option V), σ = [some (.ref a), some (.ref l), some x, y3, y4] ∧ IsEnd K H' x st ∧ Same H H' ∧ H' l = some (.lst zs) ∧ Strs K H' zs fs ∧ fs ++ butV st (ss.drop n) = notV ss ∧ (st = none → ss.drop n = []) ∧ fs.length ≤ n)
      ⟨.ref Z, some v000, [], [], none, none, rfl, hZ _, s0, upd_same, ⟨rfl, fun i x s h => by simp at h⟩, rfl, (fun z => nomatch z), Nat.le_refl _⟩ (fun n σ H' _ ⟨_, _, _, _, _, _, _, _, s1, _⟩ => Same.sqT s1 ha) ?_ ?_⟩
    · rintro n y σ H1 hy ⟨x, st, zs, fs, y3, y4, rfl, hx, s1, hl1, hzs, hb, hn, lf⟩
      obtain ⟨sn, hsn, isn⟩ := (hxs.same s1).get hy
      have nl := (List.getElem?_eq_some_iff.mp hy).1
      have dn := drop_at hsn
      have laz : zs.length ≤ 1000 := by rw [hzs.len]; omega
      cases st with
      | none => rw [hn rfl] at dn; cases dn
      | some v =>
        obtain ⟨p, xl, xh, rfl, tp, vl0, nh⟩ := id isn
        refine ⟨p, _, rfl, tp, rfl, _, _, rfl, _, _, rfl, rfl, ?_⟩
        refine ⟨_, rfl, _, rfl, v, sn.1, hx, vl0, _, rfl, ?_⟩
        rw [dn] at hb
        have hb : fs ++ ((if ltV v sn.1 then [(v, some sn.1)] else []) ++ butV sn.2 (ss.drop (n + 1))) = notV ss := hb
        have hlast : sn.2 = none → ss.drop (n + 1) = [] := fun e => by
          have hN := nf.drop n
          rw [dn] at hN
          cases d : ss.drop (n + 1) with
          | nil => rfl
          | cons t r =>
            rw [d] at hN
            obtain ⟨u, eu, _⟩ := hN.head (t := t) List.mem_cons_self
            rw [e] at eu
            cases eu
        by_cases c : ltV v sn.1
        · rw [show cmpV .Lt v sn.1 = true from decide_eq_true c]
          rw [if_pos c, ← List.append_assoc] at hb
          refine iteT ⟨_, rfl, .inl ⟨rfl, _, SqL.of hl1⟩, _, rfl, _, rfl, by show 2 ≤ sizeLine; decide, fun d hd => ?_⟩
          have t1 := same_upd (o := .tup [x, xl]) hd
          have hl2 := t1 _ _ hl1
          have f1 : Fr1 l (upd H1 d (.tup [x, xl])) (upd (upd H1 d (.tup [x, xl])) l (.lst (zs ++ [.ref d]))) := Fr1.put
          refine ⟨l, zs, _, rfl, rfl, hl2, small1000 laz, xh, rfl, xh, sn.2, zs ++ [.ref d], fs ++ [(v, some sn.1)], _, _, rfl, f1.end_ hl2 (nh.same t1), fun b o e => ?_, upd_same, (f1.strs hl2 (hzs.same t1)).snoc (f1.str (s := (v, some sn.1)) hl2 ⟨d, x, xl, rfl, .inl (.inl upd_same), IsVer.same hx t1, IsVer.same vl0 t1⟩), hb, hlast, by rw [List.length_append]; simp; omega⟩
          rw [upd_ne (ne_of_none e hl)]
          exact t1 _ _ (s1 _ _ e)
        · rw [show cmpV .Lt v sn.1 = false from decide_eq_false c]
          rw [if_neg c, List.nil_append] at hb
          exact iteF ⟨xh, rfl, xh, sn.2, zs, fs, _, _, rfl, nh, s1, hl1, hzs, hb, hlast, by omega⟩
    · rintro σ H1 ⟨x, st, zs, fs, y3, y4, rfl, hx, s1, hl1, hzs, hb, hn, lf⟩
      have laz : zs.length ≤ 1000 := by rw [hzs.len]; omega
      rw [List.drop_eq_nil_of_le (by omega)] at hb
      refine ⟨_, rfl, rfl, _, rfl, ?_⟩
      rw [isEnd_non hx]
      cases st with
      | none =>
        rw [show butV none [] = [] from rfl, List.append_nil] at hb
        refine iteF ⟨_, rfl, _, _, rfl, .inl ⟨SqL.of hl1, fun D hD => ?_⟩⟩
        have t := same_upd (o := .tup zs) hD
        exact q _ D zs (s1.trans t) (s1.free hD) upd_same (by rw [← hb]; exact hzs.same t)
      | some v =>
        refine iteT ⟨_, rfl, .inl ⟨rfl, _, SqL.of hl1⟩, _, rfl, by show 2 ≤ sizeLine; decide, fun d hd => ?_⟩
        have t1 := same_upd (o := .tup [x, .non]) hd
        have hl2 := t1 _ _ hl1
        have f1 : Fr1 l (upd H1 d (.tup [x, .non])) (upd (upd H1 d (.tup [x, .non])) l (.lst (zs ++ [.ref d]))) := Fr1.put
        refine ⟨l, zs, _, rfl, rfl, hl2, small1000 laz, _, rfl, _, _, rfl, .inl ⟨SqL.of upd_same, fun D hD => ?_⟩⟩
        have t2 := same_upd (o := .tup (zs ++ [.ref d])) hD
        have hz2 := ((f1.strs hl2 (hzs.same t1)).snoc (f1.str (s := (v, none)) hl2 ⟨d, x, .non, rfl, .inl (.inl upd_same), IsVer.same hx t1, rfl⟩)).same t2
        refine q _ D _ (fun b o e => t2 _ _ ?_) ?_ upd_same (by rw [← hb]; exact hz2)
        · rw [upd_ne (ne_of_none e hl)]
          exact t1 _ _ (s1 _ _ e)
        · have h3 : (upd H1 d (.tup [x, .non])) D = none := by
            by_cases e : D = l
            · rw [e, upd_same] at hD; cases hD
            · rw [upd_ne e] at hD; exact hD
          exact s1.free (t1.free h3)
end
end Kw
set_option maxHeartbeats 4000000
namespace Kw
open PySem PySem.Spec PyProof.Rows L2 LamX
abbrev sNorm : Stmt := L2.inClass (top 8) 0
abbrev sChkR : Stmt := top 24
abbrev sAnd : Stmt := L2.inClass (top 28) 5
abbrev sOr : Stmt := L2.inClass (top 28) 6
abbrev sSub : Stmt := L2.inClass (top 28) 7
abbrev sInv : Stmt := L2.inClass (top 28) 8
/-! ### Range(Normal(rows)) -/
/-- a value of a built-in type -/
inductive KT (K : PySem.W.Frag) (H : Hp) : V → String → Prop
  | flat {x : V} {T : String} : Flat x T → KT K H x T
  | lst {a : Addr} {xs : List V} : SqL K H a xs → KT K H (.ref a) "list"
  | tup {a : Addr} {xs : List V} : SqT K H a xs → KT K H (.ref a) "tuple"
theorem KT.ty {K : PySem.W.Frag} {H : Hp} {x : V} {T : String} (h : KT K H x T) : Ty K H x T := by
  cases h with
  | flat f => exact Flat.ty f
  | lst s => exact ty_lst s
  | tup t => exact ty_tup t
theorem KT.ext {K : PySem.W.Frag} {H H' : Hp} {x : V} {T : String} (h : KT K H x T) (e : ExtN H H') : KT K H' x T := by
  cases h with
  | flat f => exact .flat f
  | lst s => exact .lst (e.sqL s)
  | tup t => exact .tup (e.sqT t)
section
variable {P : Program} {w : World} {K : PySem.W.Frag} {mg : Str → Option Value} {base : Heap}
def spNorm (CN : Addr) : Sp := fun vs H Q _ => ∃ (a dx : Addr) (x : V), vs = [.ref a, x] ∧ H a = some (.ins CN dx []) ∧ Q .non (upd H a (.ins CN dx [(("rows" : Str), x)]))
def spInitN (CR CN : Addr) : Sp := fun vs H Q _ => ∃ (a dx n dn t : Addr), vs = [.ref a, .ref n] ∧ H a = some (.ins CR dx []) ∧ H n = some (.ins CN dn [(("rows" : Str), .ref t)]) ∧ Q .non (upd H a (.ins CR dx [(("_stretches" : Str), .ref t)]))
theorem scNorm : FnScope ["self", "rows"] ["self", "rows"] (defScope sNorm) := ⟨rfl, rfl, rfl, by decide +kernel, rfl, by decide +kernel, by decide +kernel⟩
theorem ok_norm {f CN : Addr} {fd : FuncData} {k : Nat} (F : Fun K "__init__" "Normal.__init__" sNorm f fd) (cN : Cls K CN) (nN : NoAttr K CN "rows") : FnOk P w K mg base CX0 (k + 1) f fd ["self", "rows"] (spNorm CN) := by
  refine F.ok scNorm (fun vs H Q E h => ?_) (fun cdv A outer s H vs Q E hr h => ?_)
  · obtain ⟨a, dx, x, rfl, _⟩ := h
    rfl
  · obtain ⟨a, dx, x, rfl, ha, q⟩ := h
    refine ⟨_, pss_one (ps_fld (pv 0) (pv 1) rfl), ?_⟩
    exact ⟨x, rfl, _, rfl, a, CN, dx, [], rfl, ha, cN, nN, by simp, q⟩
theorem ok_initN {f CR CN : Addr} {fd : FuncData} {k : Nat} {T : List (Addr × Str)} {CE : Addr} (F : FunV K "__init__" "Range.__init__" sInit f fd) (mi : mg "isinstance" = none) (gN : mg "Normal" = some (.ref CN)) (cR : Cls K CR) (nR : NoAttr K CR "_stretches") (cN : Cls K CN) (nN : NoAttr K CN "rows")
    (tyN : ∀ (H : Hp) (a dx : Addr) (fs : List (Str × V)), H a = some (.ins CN dx fs) → TyX K H (.ref a) (.ref CN)) (kN : PySem.W.kitOne K (.ref CN) (.ref CN) = some true) (DC : DefX P w K mg base "check_stretches" k ["stretches"] (spChkS K CE)) (DN : Def P w K mg base "normal_form" CX0 k ["stretches"] (spNF K T)) :
    FnOk P w K mg base (L2.CX P w) (k + 1) f fd ["self", "stretches"] (spInitN CR CN) := by
  refine F.okX scInit (fun vs H Q E h => ?_) (fun cdv A outer s H vs Q E hr h => ?_)
  · obtain ⟨a, dx, n, dn, t, rfl, _⟩ := h
    rfl
  · obtain ⟨a, dx, n, dn, t, rfl, ha, hn, q⟩ := h
    refine ⟨_, pss_one (ps_if (pt_val (pe_callB call_isi (by rfl) mi (by decide +kernel) (pa_cons (pv 1) (pa_cons (pe_glob (v := .ref CN) (by rfl) gN rfl) pa_nil)))) (pss_one (ps_fld (pv 0) (pe_fld (pv 1) rfl) rfl))
      (pss_cons (ps_expr (pe_dX DC hr (takes_of rfl rfl rfl rfl) (pa_cons (pv 1) pa_nil))) (pss_one (ps_fld (pv 0) (pe_d DN hr (pa_cons (pv 1) pa_nil)) rfl)))), ?_⟩
    exact ⟨_, rfl, .ref n, .ref CN, .ref CN, .ref CN, true, rfl, .own _, tyN _ _ _ _ hn, kN, _, rfl, iteT ⟨_, rfl, n, CN, dn, _, .ref t, rfl, hn, cN, nN, by simp [List.lookup], _, rfl, a, CR, dx, [], rfl, ha, cR, nR, by simp, q⟩⟩
/-- what Range(Normal(..)) asks -/
structure NormMk (P : Program) (w : World) (K : PySem.W.Frag) (mg : Str → Option Value) (base : Heap) (CR CN : Addr) (k : Nat) : Prop where
  n : ∃ f fd, FnOk P w K mg base CX0 k f fd ["self", "rows"] (spNorm CN) ∧ Mk K CN f ∧ Binds K fd ["self", "rows"] []
  r : ∃ f fd, FnOk P w K mg base (L2.CX P w) k f fd ["self", "stretches"] (spInitN CR CN) ∧ Mk K CR f ∧ Binds K fd ["self", "stretches"] []
  gN : mg "Normal" = some (.ref CN)
  gR : mg "Range" = some (.ref CR)
abbrev tRN (CR CN : Addr) (E : XK) (te : TE) : TE := tMake CR (spInitN CR CN) [] E (tCons (tMake CN (spNorm CN) [] E0 (tCons te tNil)) tNil)
theorem pe_rngN {X : Cx} {CR CN : Addr} {k : Nat} {p p1 p2 p3 : Pos} {e : Expr} {te : TE} {E : XK} (M : NormMk X.prog X.w X.K X.mg X.base CR CN k) (hr : Room (k + 1) X.A) (hx : Passes (L2.CX X.prog X.w) X E) (he : PE X e te) (hg1 : Gl X "Range" := by rfl) (hg2 : Gl X "Normal" := by rfl)
    (h1 : starEach (.Call (.Name "Normal" p2) [e] [] p3 :: []) X.env = (false, eval (.Call (.Name "Normal" p2) [e] [] p3) X.env) :: starEach [] X.env := by rfl) (h2 : (backTo p1 (starEach [] X.env)).any (·.1) = false := by rfl) (h3 : starEach (e :: []) X.env = (false, eval e X.env) :: starEach [] X.env := by rfl) (h4 : (backTo p3 (starEach [] X.env)).any (·.1) = false := by rfl) :
    PE X (.Call (.Name "Range" p) [.Call (.Name "Normal" p2) [e] [] p3] [] p1) (tRN CR CN E te) := by
  obtain ⟨f, fd, F, Mf, hb⟩ := M.r
  obtain ⟨g, gd, G, Mg, hc⟩ := M.n
  exact pe_make Mf F hr hg1 M.gR hb .nil hx (pa_cons (pe_make Mg G hr hg2 M.gN hc .nil pass0 (pa_cons he pa_nil h3) (by decide) h3 h4) pa_nil h1) (by decide) h1 h2
/-- what is left of Range(Normal(t)) behind its argument -/
theorem rngN_at {CR CN : Addr} {E : XK} {H1 : Hp} {Q : VK} {t : Addr} {zs : List V} {nf : List Str2} (ht : SqT K H1 t zs) (hz : Strs K H1 zs nf) (q : ∀ (H' : Hp) (z : Addr), Same H1 H' → H1 z = none → IsR K CR H' (.ref z) nf → Q (.ref z) H') :
    ∀ n dn, H1 n = none → H1 dn = none → dn ≠ n → spNorm CN (.ref n :: ([.ref t] ++ [])) (upd (upd H1 dn (.own n)) n (.ins CN dn [])) (fun v H2 => v = .non ∧ ∀ x dx, H2 x = none → H2 dx = none → dx ≠ x → spInitN CR CN (.ref x :: ([.ref n] ++ [])) (upd (upd H2 dx (.own x)) x (.ins CR dx [])) (fun v H3 => v = .non ∧ Q (.ref x) H3) E) E0 := by
  intro n dn nn nd ne
  have s1 : Same H1 (upd (upd H1 dn (.own n)) n (.ins CN dn [])) := two_upd nn nd ne
  refine ⟨n, dn, .ref t, rfl, upd_same, rfl, fun x dx nx ndx nex => ?_⟩
  have s2 : Same H1 (upd (upd (upd H1 dn (.own n)) n (.ins CN dn [])) n (.ins CN dn [(("rows" : Str), .ref t)])) := fun b o e => by
    rw [upd_ne (ne_of_none e nn)]
    exact s1 _ _ e
  have s3 := s2.trans (two_upd (o1 := .own x) (o2 := .ins CR dx []) nx ndx nex)
  have hn3 : upd (upd (upd (upd (upd H1 dn (.own n)) n (.ins CN dn [])) n (.ins CN dn [(("rows" : Str), .ref t)])) dx (.own x)) x (.ins CR dx []) n = some (.ins CN dn [(("rows" : Str), .ref t)]) := by
    have e1 : n ≠ x := ne_of_none upd_same nx
    have e2 : n ≠ dx := ne_of_none upd_same ndx
    rw [upd_ne e1, upd_ne e2]
    exact upd_same
  refine ⟨x, dx, n, dn, t, rfl, upd_same, hn3, rfl, ?_⟩
  have s4 : Same H1 (upd (upd (upd (upd (upd (upd H1 dn (.own n)) n (.ins CN dn [])) n (.ins CN dn [(("rows" : Str), .ref t)])) dx (.own x)) x (.ins CR dx [])) x (.ins CR dx [(("_stretches" : Str), .ref t)])) := fun b o e => by
    have e1 : b ≠ x := ne_of_none (s2 _ _ e) nx
    rw [upd_ne e1]
    exact s3 _ _ e
  exact q _ x s4 (s2.free nx) ⟨x, dx, t, zs, rfl, upd_same, Same.sqT s4 ht, hz.same s4⟩
end
end Kw
set_option maxHeartbeats 4000000
namespace Kw
open PySem PySem.Spec PyProof.Rows L2 LamX
/-! ### one & other, one | other, one - other, ~one -/
section
variable {P : Program} {w : World} {K : PySem.W.Frag} {mg : Str → Option Value} {base : Heap}
def spChkR (K : PySem.W.Frag) (CR CX : Addr) : Sp := fun vs H Q E => ∃ (x : V), vs = [x] ∧ ((∃ nf, IsR K CR H x nf ∧ Q .non H) ∨ (∃ T, KT K H x T ∧ ∀ H', Same H H' → E (.ref CX) none H'))
theorem scChkR : FnScope ["ranged"] ["ranged"] (defScope sChkR) := ⟨rfl, rfl, rfl, by decide +kernel, rfl, by decide +kernel, by decide +kernel⟩
/-- what is known of isinstance with Range -/
structure RTy (K : PySem.W.Frag) (CR : Addr) : Prop where
  ty : ∀ (H : Hp) (a dx : Addr) (fs : List (Str × V)), H a = some (.ins CR dx fs) → TyX K H (.ref a) (.ref CR)
  yes : PySem.W.kitOne K (.ref CR) (.ref CR) = some true
  no : ∀ T ∈ ["NoneType", "bool", "int", "str", "list", "tuple"], PySem.W.kitOne K (.type T) (.ref CR) = some false
theorem KT.name {H : Hp} {x : V} {T : String} (h : KT K H x T) : T ∈ ["NoneType", "bool", "int", "str", "list", "tuple"] := by
  cases h with
  | flat f => cases f <;> simp
  | lst s => simp
  | tup t => simp
theorem ok_chkR {f CR CX : Addr} {fd : FuncData} {k : Nat} (F : Fun K "check_range" "check_range" sChkR f fd) (O : OwnErr K mg "NotRange" CX) (mi : mg "isinstance" = none) (gR : mg "Range" = some (.ref CR)) (R : RTy K CR) : FnOk P w K mg base (L2.CX P w) (k + 1) f fd ["ranged"] (spChkR K CR CX) := by
  refine F.okX scChkR (fun vs H Q E h => ?_) (fun cdv A outer s H vs Q E hr h => ?_)
  · obtain ⟨x, rfl, _⟩ := h
    rfl
  · obtain ⟨x, rfl, h⟩ := h
    refine ⟨_, pss_one (ps_if (pt_not (pt_val (pe_callB call_isi (by rfl) mi (by decide +kernel) (pa_cons (pv 0) (pa_cons (pe_glob (v := .ref CR) (by rfl) gR rfl) pa_nil))))) (pss_one (ps_raise rfl (takes_of rfl rfl rfl rfl) (pmk_o O))) pss_nil), ?_⟩
    rcases h with ⟨nf, ⟨a, dx, t, zs, rfl, ha, _⟩, q⟩ | ⟨T, hT, q⟩
    · exact ⟨_, rfl, .ref a, .ref CR, .ref CR, .ref CR, true, rfl, .own _, R.ty _ _ _ _ ha, R.yes, _, rfl, iteF q⟩
    · exact ⟨_, rfl, x, .ref CR, .type T, .ref CR, false, rfl, .own _, hT.ty, R.no T hT.name, _, rfl, iteT (q H (Same.refl H))⟩
/-- the promise of an operation of two Ranges -/
def spBin (g : List Str2 → List Str2 → List Str2) (K : PySem.W.Frag) (CR CX : Addr) : Sp := fun vs H Q E => ∃ (x y : V) (nx : List Str2), vs = [x, y] ∧ IsR K CR H x nx ∧ NF nx ∧ nx.length ≤ 90 ∧
  ((∃ ny, IsR K CR H y ny ∧ NF ny ∧ ny.length ≤ 90 ∧ ∀ (H' : Hp) (z : Addr), Same H H' → H z = none → IsR K CR H' (.ref z) (g nx ny) → Q (.ref z) H') ∨ (∃ T, KT K H y T ∧ ∀ H', Same H H' → E (.ref CX) none H'))
def spUn (K : PySem.W.Frag) (CR : Addr) : Sp := fun vs H Q _ => ∃ (x : V) (nx : List Str2), vs = [x] ∧ IsR K CR H x nx ∧ NF nx ∧ nx.length ≤ 90 ∧ ∀ (H' : Hp) (z : Addr), Same H H' → H z = none → IsR K CR H' (.ref z) (notV nx) → Q (.ref z) H'
theorem scAnd : FnScope ["self", "other"] ["self", "other"] (defScope sAnd) := ⟨rfl, rfl, rfl, by decide +kernel, rfl, by decide +kernel, by decide +kernel⟩
theorem scOr : FnScope ["self", "other", "neither"] ["self", "other"] (defScope sOr) := ⟨rfl, rfl, rfl, by decide +kernel, rfl, by decide +kernel, by decide +kernel⟩
theorem scSub : FnScope ["self", "other"] ["self", "other"] (defScope sSub) := ⟨rfl, rfl, rfl, by decide +kernel, rfl, by decide +kernel, by decide +kernel⟩
theorem scInv : FnScope ["self"] ["self"] (defScope sInv) := ⟨rfl, rfl, rfl, by decide +kernel, rfl, by decide +kernel, by decide +kernel⟩
section
variable {f CR CX CN : Addr} {fd : FuncData} {k : Nat} (cR : Cls K CR) (nR : NoAttr K CR "_stretches") (DR : DefX P w K mg base "check_range" (k + 1) ["ranged"] (spChkR K CR CX)) (DC : Def P w K mg base "common" CX0 (k + 1) ["ones", "others"] (spCom K)) (DB : Def P w K mg base "all_but" CX0 (k + 1) ["stretches"] (spBut K)) (M : NormMk P w K mg base CR CN k)
include cR nR DR DC DB M
theorem ok_and (F : Fun K "__and__" "Range.__and__" sAnd f fd) : FnOk P w K mg base (L2.CX P w) (k + 2) f fd ["self", "other"] (spBin comV K CR CX) := by
  refine F.okX scAnd (fun vs H Q E h => ?_) (fun cdv A outer s H vs Q E hr h => ?_)
  · obtain ⟨x, y, nx, rfl, _⟩ := h
    rfl
  · obtain ⟨x, y, nx, rfl, hx, fx, lx, h⟩ := h
    refine ⟨_, pss_cons (ps_expr (pe_dX DR hr (takes_of rfl rfl rfl rfl) (pa_cons (pv 1) pa_nil)))
      (pss_one (ps_ret (pe_rngN M hr passL (pe_d DC hr (pa_cons (pe_fld (pv 0) rfl) (pa_cons (pe_fld (pv 1) rfl) pa_nil)))))), ?_⟩
    rcases h with ⟨ny, hy, fy, ly, q⟩ | ⟨T, hT, q⟩
    · obtain ⟨a, dx, t, zs, rfl, h1, h2, h3⟩ := id hx
      obtain ⟨b, dy, u, ys, rfl, g1, g2, g3⟩ := id hy
      refine ⟨.ref b, rfl, .ref b, rfl, .inl ⟨ny, hy, ?_⟩⟩
      refine ⟨_, rfl, a, CR, dx, _, .ref t, rfl, h1, cR, nR, by simp [List.lookup], _, rfl, b, CR, dy, _, .ref u, rfl, g1, cR, nR, by simp [List.lookup], ?_⟩
      refine ⟨t, u, zs, ys, nx, ny, rfl, h2, g2, h3, g3, by omega, by omega, fun H1 D ws s1 nD hD hw => ?_⟩
      exact rngN_at (.inl (.inl hD)) hw fun H2 z s2 nz hz => q H2 z (s1.trans s2) (s1.free nz) hz
    · exact ⟨y, rfl, y, rfl, .inr ⟨T, hT, q⟩⟩
theorem ok_sub (F : Fun K "__sub__" "Range.__sub__" sSub f fd) : FnOk P w K mg base (L2.CX P w) (k + 2) f fd ["self", "other"] (spBin subV K CR CX) := by
  refine F.okX scSub (fun vs H Q E h => ?_) (fun cdv A outer s H vs Q E hr h => ?_)
  · obtain ⟨x, y, nx, rfl, _⟩ := h
    rfl
  · obtain ⟨x, y, nx, rfl, hx, fx, lx, h⟩ := h
    refine ⟨_, pss_cons (ps_expr (pe_dX DR hr (takes_of rfl rfl rfl rfl) (pa_cons (pv 1) pa_nil)))
      (pss_one (ps_ret (pe_rngN M hr passL (pe_d DC hr (pa_cons (pe_fld (pv 0) rfl) (pa_cons (pe_d DB hr (pa_cons (pe_fld (pv 1) rfl) pa_nil)) pa_nil)))))), ?_⟩
    rcases h with ⟨ny, hy, fy, ly, q⟩ | ⟨T, hT, q⟩
    · obtain ⟨a, dx, t, zs, rfl, h1, h2, h3⟩ := id hx
      obtain ⟨b, dy, u, ys, rfl, g1, g2, g3⟩ := id hy
      refine ⟨.ref b, rfl, .ref b, rfl, .inl ⟨ny, hy, ?_⟩⟩
      refine ⟨_, rfl, a, CR, dx, _, .ref t, rfl, h1, cR, nR, by simp [List.lookup], _, rfl, b, CR, dy, _, .ref u, rfl, g1, cR, nR, by simp [List.lookup], ?_⟩
      refine ⟨u, ys, ny, rfl, g2, g3, fy, by omega, fun H0 D0 w0 s0 _ hD0 hw0 => ?_⟩
      have := not_len fy
      refine ⟨t, D0, zs, w0, nx, notV ny, rfl, Same.sqT s0 h2, .inl (.inl hD0), h3.same s0, hw0, by omega, by omega, fun H1 D ws s1 nD hD hw => ?_⟩
      exact rngN_at (.inl (.inl hD)) hw fun H2 z s2 nz hz => q H2 z ((s0.trans s1).trans s2) ((s0.trans s1).free nz) hz
    · exact ⟨y, rfl, y, rfl, .inr ⟨T, hT, q⟩⟩
theorem ok_or (F : Fun K "__or__" "Range.__or__" sOr f fd) : FnOk P w K mg base (L2.CX P w) (k + 2) f fd ["self", "other"] (spBin orV K CR CX) := by
  refine F.okX scOr (fun vs H Q E h => ?_) (fun cdv A outer s H vs Q E hr h => ?_)
  · obtain ⟨x, y, nx, rfl, _⟩ := h
    rfl
  · obtain ⟨x, y, nx, rfl, hx, fx, lx, h⟩ := h
    refine ⟨_, pss_cons (ps_expr (pe_dX DR hr (takes_of rfl rfl rfl rfl) (pa_cons (pv 1) pa_nil)))
      (pss_cons (ps_set (i := 2) scOr.nd rfl (.inl rfl) (pe_d DC hr (pa_cons (pe_d DB hr (pa_cons (pe_fld (pv 0) rfl) pa_nil)) (pa_cons (pe_d DB hr (pa_cons (pe_fld (pv 1) rfl) pa_nil)) pa_nil))))
      (pss_one (ps_ret (pe_rngN M hr passL (pe_d DB hr (pa_cons (pv 2) pa_nil)))))), ?_⟩
    rcases h with ⟨ny, hy, fy, ly, q⟩ | ⟨T, hT, q⟩
    · obtain ⟨a, dx, t, zs, rfl, h1, h2, h3⟩ := id hx
      obtain ⟨b, dy, u, ys, rfl, g1, g2, g3⟩ := id hy
      refine ⟨.ref b, rfl, .ref b, rfl, .inl ⟨ny, hy, ?_⟩⟩
      refine ⟨_, rfl, a, CR, dx, _, .ref t, rfl, h1, cR, nR, by simp [List.lookup], t, zs, nx, rfl, h2, h3, fx, by omega, fun H0 D0 w0 s0 _ hD0 hw0 => ?_⟩
      refine ⟨_, rfl, b, CR, dy, _, .ref u, rfl, s0 _ _ g1, cR, nR, by simp [List.lookup], u, ys, ny, rfl, Same.sqT s0 g2, g3.same s0, fy, by omega, fun H1 D1 w1 s1 _ hD1 hw1 => ?_⟩
      have l1 := not_len fx
      have l2 := not_len fy
      have l3 := com_len (notV nx) (notV ny)
      refine ⟨D0, D1, w0, w1, notV nx, notV ny, rfl, .inl (.inl (s1 _ _ hD0)), .inl (.inl hD1), hw0.same s1, hw1, by omega, by omega, fun H2 D2 w2 s2 _ hD2 hw2 => ?_⟩
      refine ⟨_, rfl, D2, w2, _, rfl, .inl (.inl hD2), hw2, com_nf _ _ (not_nf fx) (not_nf fy), by omega, fun H3 D ws s3 nD hD hw => ?_⟩
      have sA := ((s0.trans s1).trans s2).trans s3
      exact rngN_at (.inl (.inl hD)) hw fun H4 z s4 nz hz => q H4 z (sA.trans s4) (sA.free nz) hz
    · exact ⟨y, rfl, y, rfl, .inr ⟨T, hT, q⟩⟩
theorem ok_inv (F : Fun K "__invert__" "Range.__invert__" sInv f fd) : FnOk P w K mg base (L2.CX P w) (k + 2) f fd ["self"] (spUn K CR) := by
  refine F.okX scInv (fun vs H Q E h => ?_) (fun cdv A outer s H vs Q E hr h => ?_)
  · obtain ⟨x, nx, rfl, _⟩ := h
    rfl
  · obtain ⟨x, nx, rfl, hx, fx, lx, q⟩ := h
    refine ⟨_, pss_one (ps_ret (pe_rngN M hr passL (pe_d DB hr (pa_cons (pe_fld (pv 0) rfl) pa_nil)))), ?_⟩
    obtain ⟨a, dx, t, zs, rfl, h1, h2, h3⟩ := id hx
    refine ⟨_, rfl, a, CR, dx, _, .ref t, rfl, h1, cR, nR, by simp [List.lookup], t, zs, nx, rfl, h2, h3, fx, by omega, fun H0 D0 w0 s0 _ hD0 hw0 => ?_⟩
    exact rngN_at (.inl (.inl hD0)) hw0 fun H2 z s2 nz hz => q H2 z (s0.trans s2) (s0.free nz) hz
end
end
end Kw
set_option maxHeartbeats 4000000
namespace Kw
open PySem PySem.Spec PyProof.Rows L2 LamX
/-! ### operators of an own class -/
section
variable {prog : Program} {w : World} {A : Around} {E : Value → Shared → Prop} {s : Shared} {K : PySem.W.Frag} {x C f : Addr} {ox : Obj} {od : Option Obj} {b : Value}
open PySem.W in
/-- x op b: an own class's method on the left, a built-in type on the right -/
theorem rb_T {op : Operator} {T : String} {fo ro : Option Value} {g : Addr} {Q : Value → Shared → Prop} (X : K.In s.heap) (I : InstAt s.heap x ox C od) (hb : Looks (model prog w) s.heap (typeOf b) (.type T)) (hc : selfFirst K C = true) (hs : findIn K (.ref C) (PySem.dunder op.info.2) = some (some (.ref f))) (hf : isFn K (.ref f) = true)
    (hr : findIn K (.ref C) (dunderR op.info.2) = some (some (.ref g))) (h1 : findIn K (.type T) (PySem.dunder op.info.2) = some fo) (h2 : findIn K (.type T) (dunderR op.info.2) = some ro) (hsub : subIn K (.type T) (.ref C) = some false)
    (h : wpAny (model prog w) A (call (.ref f) [.ref x, b]) (PySem.W.CmpBack Q) E s) : wpAny (model prog w) A (binaryOp op (.ref x) b) Q E s := by
  obtain ⟨cd, rest, hcd, hm⟩ := ksp_first hc
  cases hi : op.info with
  | mk sym nm =>
    rw [hi] at hs hr h1 h2
    dsimp only at hs hr h1 h2
    have one := ksp_try X I hs hf h
    obtain ⟨hp, gg, dd, tt, oo⟩ := s
    have own : Looks (model prog w) hp (typeOf (.ref x)) (.ref C) := I.type
    have fill : Looks (model prog w) hp (fillsNumberSlot (.ref C) nm) true := fills_K X hcd hm hs
    have fillT : Looks (model prog w) hp (fillsNumberSlot (.type T) nm) ((fo.isSome && !isSeqSlot fo) || (ro.isSome && !isSeqSlot ro)) := ksp_fillsT X h1 h2
    have subT : Looks (model prog w) hp (isSubtype (.type T) (.ref C)) false := looks_subIn X hsub
    have inP : Looks (model prog w) hp (numberSlotInPython (.ref C) nm) true := ksp_inPy X hs hr (.inr ⟨_, rfl⟩)
    have inT : Looks (model prog w) hp (numberSlotInPython (.type T) nm) false := Looks.of_pure rfl
    have refl : Looks (model prog w) hp (typeLookup (.type T) (dunderR nm)) ro := looks_findIn X h2
    generalize ((fo.isSome && !isSeqSlot fo) || (ro.isSome && !isSeqSlot ro)) = both at fillT
    have ne : (Value.ref C == Value.type T) = false := by
      rw [Bool.eq_false_iff]
      intro q
      cases beq_iff_eq.mp q
    simp only [binaryOp, hi]
    refine wpAny_holding (wpAny_bind ?_)
    unfold binaryOp1
    refine wpAny_bind (own.at (wpAny_bind (hb.at (wpAny_bind (fill.at ?_)))))
    simp only [ne, Bool.false_eq_true, if_false]
    cases both <;>
    · ksp_lk
      refine wpAny_mono one (fun r s' z => ?_) fun _ _ z => z
      obtain ⟨v, rfl, q⟩ := z
      ksp_lk
      exact q
end
section
variable {X : Cx} {CX : CXT} {n : Nat} {C f : Addr} {fd : FuncData} {ps : List Str} {sp : Sp} {E : XK}
theorem looks_kt {pins : List (Addr × Obj)} {σ : L2.St} {H : Hp} {s : Shared} {y : V} {u : Value} {T : String} (I : Inv X pins σ H s) (r : RelV y u) (h : KT X.K H y T) : PySem.W.Looks (model X.prog X.w) s.heap (typeOf u) (.type T) := by
  cases h with
  | flat f =>
    cases f with
    | non => cases r; exact .of_pure rfl
    | bl b => cases r; exact .of_pure rfl
    | int i => obtain ⟨t, rfl⟩ := r; exact .of_pure rfl
    | str z => obtain ⟨t, rfl⟩ := r; exact .of_pure rfl
  | lst t =>
    cases r
    obtain ⟨its, rv, p, _⟩ := I.list t
    have hp := p
    obtain ⟨o, n, ho, hc, _⟩ := p
    exact fun A Q E s k q => wpAny_typeOf_ref (k _ _ ho) (hc.symm ▸ q)
  | tup t =>
    cases r
    obtain ⟨its, rv, ⟨o, ho, hc, _⟩, _⟩ := I.tuple t
    exact fun A Q E s k q => wpAny_typeOf_ref (k _ _ ho) (hc.symm ▸ q)
/-- the class's facts of an operator called nm -/
structure BinF (K : PySem.W.Frag) (C f : Addr) (nm : String) : Prop where
  hc : PySem.W.selfFirst K C = true
  hs : PySem.W.findIn K (.ref C) (PySem.dunder nm) = some (some (.ref f))
  hf : PySem.W.isFn K (.ref f) = true
  hr : ∃ g : Addr, PySem.W.findIn K (.ref C) (dunderR nm) = some (some (.ref g))
  ht : ∀ T ∈ ["NoneType", "bool", "int", "str", "list", "tuple"], ∃ fo ro, PySem.W.findIn K (.type T) (PySem.dunder nm) = some fo ∧ PySem.W.findIn K (.type T) (dunderR nm) = some ro ∧ PySem.W.subIn K (.type T) (.ref C) = some false
theorem back_of {pins : List (Addr × Obj)} {σ : L2.St} {Q : VK} {v : Value} {s : Shared} (h : EP X pins σ Q v s) : PySem.W.CmpBack (EP X pins σ Q) v s := by
  obtain ⟨z, H', I', rz, q⟩ := id h
  cases v <;> first | exact h | (cases z <;> first | (cases rz; done) | exact (nomatch rz) | (obtain ⟨_, e⟩ := rz; cases e))
/-- x op y: y of the same class, or of a built-in type -/
def rOwnB (K : PySem.W.Frag) (C : Addr) (sp : Sp) (E : XK) : R2 := fun x y H Q => ∃ a dx fs, x = .ref a ∧ H a = some (.ins C dx fs) ∧ ((∃ b dy gs, y = .ref b ∧ H b = some (.ins C dy gs)) ∨ ∃ T, KT K H y T) ∧ sp [x, y] H Q E
theorem op_bin {op : Operator} (F : FnOk X.prog X.w X.K X.mg X.base CX n f fd ps sp) (hr : Room n X.A) (B : BinF X.K C f op.info.2) (hb : Binds X.K fd ps []) (hx : Passes CX X E) : OpR X (binaryOp op) (rOwnB X.K C sp E) := by
  intro pins s σ H x y v u Q I rx ry h
  obtain ⟨a, dx, fs, rfl, ha, hy, hsp⟩ := h
  obtain rfl : v = Value.ref a := rx
  obtain ⟨mA, J, _⟩ := ins_get I.hok ha
  obtain ⟨od, J, _⟩ := J.look
  obtain ⟨m, hfr⟩ := I.fr
  have run := wpAny_mono (run_at (x := .ref a) F hb hx rfl hr I rfl ry hsp) (fun w s' q => back_of q) fun _ _ z => z
  rcases hy with ⟨b, dy, gs, rfl, hbb⟩ | ⟨T, hT⟩
  · exact PySem.W.binop_K hfr I.ok.mod.kin J (looks_ko I ry (.ins hbb)) B.hc B.hs B.hf run
  · obtain ⟨g, hg⟩ := B.hr
    obtain ⟨fo, ro, h1, h2, h3⟩ := B.ht T hT.name
    exact rb_T I.kIn J (looks_kt I ry hT) B.hc B.hs B.hf hg h1 h2 h3 run
/-- ~x -/
def rOwnU (C : Addr) (sp : Sp) (E : XK) : V → Hp → VK → Prop := fun x H Q => ∃ a dx fs, x = .ref a ∧ H a = some (.ins C dx fs) ∧ sp [x] H Q E
theorem run_at1 {pins : List (Addr × Obj)} {σ : L2.St} {H : Hp} {s : Shared} {x : V} {u : Value} {Q : V → Hp → Prop} (F : FnOk X.prog X.w X.K X.mg X.base CX n f fd ps sp) (hb : Binds X.K fd ps []) (hx : Passes CX X E) (hr : Room n X.A) (I : Inv X pins σ H s) (ru : RelV x u) (h : sp [x] H Q E) :
    wpAny (model X.prog X.w) X.A (call (.ref f) [u]) (EP X pins σ Q) X.xe s := by
  have hl := F.len _ _ _ _ h
  refine wpAny_call (codeAny_mono (F.run X.A X.stack s H ⟨[u], []⟩ [u] [x] Q E hr I.env0 (by
    have q := hb s [u] I.kIn (by simpa using hl)
    simpa using q) (.cons ru .nil) h) fun r s' hq => ?_)
  cases r with
  | error e => exact hx pins σ H s e s' I hq
  | ok fl =>
    cases fl with
    | ret w => exact I.after hq
    | next => exact False.elim hq
    | brk => exact False.elim hq
    | cont => exact False.elim hq
theorem un_invO (F : FnOk X.prog X.w X.K X.mg X.base CX n f fd ps sp) (hr : Room n X.A) (hs : PySem.W.findIn X.K (.ref C) "__invert__" = some (some (.ref f))) (hf : PySem.W.isFn X.K (.ref f) = true) (hb : Binds X.K fd ps []) (hx : Passes CX X E) : UnR X (unaryOp .Invert) (rOwnU C sp E) := by
  intro pins s σ H x v Q I rx h
  obtain ⟨a, dx, fs, rfl, ha, hsp⟩ := h
  obtain rfl : v = Value.ref a := rx
  obtain ⟨mA, J, _⟩ := ins_get I.hok ha
  obtain ⟨od, J, _⟩ := J.look
  obtain ⟨m, hfr⟩ := I.fr
  exact PySem.W.ksp_inv hfr I.ok.mod.kin J hs hf (run_at1 (x := .ref a) F hb hx hr I rfl hsp)
end
end Kw
set_option maxHeartbeats 4000000
namespace Kw
open PySem PySem.Spec PyProof.Rows L2 LamX
/-! ### == of Ranges and of other values -/
theorem eqv_strD (s t : Str2) : PyData.eqv (strD s) (strD t) = decide (s = t) := by
  obtain ⟨a, x⟩ := s
  obtain ⟨b, y⟩ := t
  have h1 : PyData.eqv (verD a) (verD b) = decide (a = b) := eqv_verD a b
  have h2 : PyData.eqv (endD x) (endD y) = decide (x = y) := by
    have e := eqv_end x y
    cases x <;> cases y <;> exact e
  show PyData.eqv (.tuple [verD a, endD x]) (.tuple [verD b, endD y]) = _
  simp only [PyData.eqv, PyData.eqvAll, h1, h2, Prod.mk.injEq, Bool.and_true]
  rw [Bool.eq_iff_iff]
  simp
theorem eqvAll_strD : ∀ ss ts : List Str2, PyData.eqvAll (ss.map strD) (ts.map strD) = decide (ss = ts)
  | [], [] => by simp [PyData.eqvAll]
  | [], t :: ts => by simp [PyData.eqvAll]
  | s :: ss, [] => by simp [PyData.eqvAll]
  | s :: ss, t :: ts => by
    simp only [List.map_cons, PyData.eqvAll, eqv_strD, eqvAll_strD ss ts, List.cons.injEq]
    rw [Bool.eq_iff_iff]
    simp
theorem eqv_nfG (ss ts : List Str2) : PyData.eqv (nfD ss) (nfD ts) = decide (ss = ts) := by
  show PyData.eqv (.tuple (ss.map strD)) (.tuple (ts.map strD)) = _
  rw [← eqvAll_strD]
  simp [PyData.eqv]
section
variable {P : Program} {w : World} {K : PySem.W.Frag} {mg : Str → Option Value} {base : Heap}
def spEqG (K : PySem.W.Frag) (CR : Addr) : Sp := fun vs H Q _ => ∃ (x y : V) (nx : List Str2), vs = [x, y] ∧ IsR K CR H x nx ∧ ((∃ ny, IsR K CR H y ny ∧ Q (.bl (decide (nx = ny))) H) ∨ (∃ T, KT K H y T ∧ Q (.bl false) H))
theorem ok_eqG {f CR : Addr} {fd : FuncData} {k : Nat} (F : Fun K "__eq__" "Range.__eq__" sEqR f fd) (mi : mg "isinstance" = none) (gR : mg "Range" = some (.ref CR)) (cR : Cls K CR) (nR : NoAttr K CR "_stretches") (R : RTy K CR) : FnOk P w K mg base CX0 (k + 1) f fd ["self", "other"] (spEqG K CR) := by
  refine F.ok scEqR (fun vs H Q E h => ?_) (fun cdv A outer s H vs Q E hr h => ?_)
  · obtain ⟨x, y, nx, rfl, _⟩ := h
    rfl
  · obtain ⟨x, y, nx, rfl, hx, h⟩ := h
    refine ⟨_, pss_one (ps_ret (pe_and (pe_callB call_isi (by rfl) mi (by decide +kernel) (pa_cons (pv 1) (pa_cons (pe_glob (v := .ref CR) (by rfl) gR rfl) pa_nil))) (pe_one (pe_cmpR (op_eqD hr.units) (pe_fld (pv 0) rfl) (pe_fld (pv 1) rfl) (nomark _))))), ?_⟩
    rcases h with ⟨ny, hy, q⟩ | ⟨T, hT, q⟩
    · obtain ⟨a, dx, t, zs, rfl, ha, ht, hz⟩ := hx
      obtain ⟨b, dy, u, ys, rfl, hb, hu, hy⟩ := hy
      refine ⟨_, rfl, .ref b, .ref CR, .ref CR, .ref CR, true, rfl, .own _, R.ty _ _ _ _ hb, R.yes, _, rfl, iteT ?_⟩
      refine ⟨_, rfl, a, CR, dx, _, .ref t, rfl, ha, cR, nR, by simp [List.lookup], _, rfl, b, CR, dy, _, .ref u, rfl, hb, cR, nR, by simp [List.lookup], ?_⟩
      refine ⟨_, _, dp_nf ht hz, dp_nf hu hy, shaped_nf _, shaped_nf _, ?_⟩
      rw [eqv_nfG]
      exact q
    · exact ⟨_, rfl, y, .ref CR, .type T, .ref CR, false, rfl, .own _, hT.ty, R.no T hT.name, _, rfl, iteF q⟩
/-- what the operators of Range promise -/
structure ROps (P : Program) (w : World) (K : PySem.W.Frag) (mg : Str → Option Value) (base : Heap) (CR CX : Addr) (k : Nat) : Prop where
  and_ : ∃ f fd, FnOk P w K mg base (L2.CX P w) k f fd ["self", "other"] (spBin comV K CR CX) ∧ BinF K CR f "and" ∧ Binds K fd ["self", "other"] []
  or_ : ∃ f fd, FnOk P w K mg base (L2.CX P w) k f fd ["self", "other"] (spBin orV K CR CX) ∧ BinF K CR f "or" ∧ Binds K fd ["self", "other"] []
  sub_ : ∃ f fd, FnOk P w K mg base (L2.CX P w) k f fd ["self", "other"] (spBin subV K CR CX) ∧ BinF K CR f "sub" ∧ Binds K fd ["self", "other"] []
  inv_ : ∃ f fd, FnOk P w K mg base (L2.CX P w) k f fd ["self"] (spUn K CR) ∧ PySem.W.findIn K (.ref CR) "__invert__" = some (some (.ref f)) ∧ PySem.W.isFn K (.ref f) = true ∧ Binds K fd ["self"] []
  eq_ : ∃ f fd, FnOk P w K mg base CX0 k f fd ["self", "other"] (spEqG K CR) ∧ PySem.W.findIn K (.ref CR) "__eq__" = some (some (.ref f)) ∧ PySem.W.isFn K (.ref f) = true ∧ Binds K fd ["self", "other"] [] ∧ PySem.W.findIn K (.ref CR) "__ne__" = some (some (.builtin "object.__ne__")) ∧ PySem.W.mroIn K CR (.type "object") = some true
  nf : ∀ T ∈ ["NoneType", "bool", "int", "str", "list", "tuple"], PySem.W.notFirst K CR (.type T) = true
end
section
variable {X : Cx} {CR CX : Addr} {k : Nat} {E : XK}
/-- x == y, x != y -/
def rOwnE (K : PySem.W.Frag) (C : Addr) (sp : Sp) (E : XK) (g : Bool → Bool) : R2 := fun x y H Q => ∃ a dx fs, x = .ref a ∧ H a = some (.ins C dx fs) ∧ ((∃ b dy gs, y = .ref b ∧ H b = some (.ins C dy gs)) ∨ ∃ T, KT K H y T ∧ PySem.W.notFirst K C (.type T) = true) ∧ sp [x, y] H (fun v H' => ∃ r, v = .bl r ∧ Q (.bl (g r)) H') E
theorem op_eqG (R : ROps X.prog X.w X.K X.mg X.base CR CX k) (hr : Room k X.A) : OpR X (compareOp .Eq) (rOwnE X.K CR (spEqG X.K CR) E0 id) := by
  obtain ⟨f, fd, F, hs, hf, hb, _, _⟩ := R.eq_
  intro pins s σ H x y v u Q I rx ry h
  obtain ⟨a, dx, fs, rfl, ha, ko, hsp⟩ := h
  obtain rfl : v = Value.ref a := rx
  obtain ⟨mA, J, _⟩ := ins_get I.hok ha
  obtain ⟨od, J, _⟩ := J.look
  have run := wpAny_mono (run_at (x := .ref a) F hb pass0 rfl hr I rfl ry hsp) (fun w s' (q : EP X pins σ _ w s') => show ∃ r, w = .bool r ∧ EP X pins σ Q (.bool r) s' from by
    obtain ⟨z, H', I', rz, r, rfl, q⟩ := q
    cases rz
    exact ⟨r, rfl, .bl r, H', I', rfl, q⟩) fun _ _ z => z
  show wpAny _ _ (richCompare .Eq (.ref a) u) _ _ _
  rcases ko with ⟨b, dy, gs, rfl, hbb⟩ | ⟨T, hT, nf⟩
  · exact rc_eqOwn hr.units0 I.kIn J (looks_ko I ry (.ins hbb)) (by simp [PySem.W.notFirst]) hs hf run
  · exact rc_eqOwn hr.units0 I.kIn J (looks_kt I ry hT) nf hs hf run
theorem op_neG (R : ROps X.prog X.w X.K X.mg X.base CR CX k) (hr : Room (k + 1) X.A) : OpR X (compareOp .NotEq) (rOwnE X.K CR (spEqG X.K CR) E0 not) := by
  obtain ⟨f, fd, F, hs, hf, hb, hne, hm⟩ := R.eq_
  intro pins s σ H x y v u Q I rx ry h
  obtain ⟨a, dx, fs, rfl, ha, ko, hsp⟩ := h
  obtain rfl : v = Value.ref a := rx
  obtain ⟨mA, J, _⟩ := ins_get I.hok ha
  obtain ⟨od, J, _⟩ := J.look
  have run := wpAny_mono (run_at (A := X.A.in1) (x := .ref a) F hb pass0 rfl hr.in1 I rfl ry hsp) (fun w s' (q : EP X pins σ _ w s') => show ∃ r, w = .bool r ∧ EP X pins σ Q (.bool (!r)) s' from by
    obtain ⟨z, H', I', rz, r, rfl, q⟩ := q
    cases rz
    exact ⟨r, rfl, .bl (!r), H', I', rfl, q⟩) fun _ _ z => z
  show wpAny _ _ (richCompare .NotEq (.ref a) u) _ _ _
  rcases ko with ⟨b, dy, gs, rfl, hbb⟩ | ⟨T, hT, nf⟩
  · exact rc_neOwn (by have := hr.un; omega) I.kIn J (looks_ko I ry (.ins hbb)) (by simp [PySem.W.notFirst]) hs hf hne hm run
  · exact rc_neOwn (by have := hr.un; omega) I.kIn J (looks_kt I ry hT) nf hs hf hne hm run
theorem op_andG (R : ROps X.prog X.w X.K X.mg X.base CR CX k) (hr : Room k X.A) (hx : Passes (L2.CX X.prog X.w) X E) : OpR X (binaryOp .BitAnd) (rOwnB X.K CR (spBin comV X.K CR CX) E) := by
  obtain ⟨f, fd, F, B, hb⟩ := R.and_
  exact op_bin F hr B hb hx
theorem op_orG (R : ROps X.prog X.w X.K X.mg X.base CR CX k) (hr : Room k X.A) (hx : Passes (L2.CX X.prog X.w) X E) : OpR X (binaryOp .BitOr) (rOwnB X.K CR (spBin orV X.K CR CX) E) := by
  obtain ⟨f, fd, F, B, hb⟩ := R.or_
  exact op_bin F hr B hb hx
theorem op_subG (R : ROps X.prog X.w X.K X.mg X.base CR CX k) (hr : Room k X.A) (hx : Passes (L2.CX X.prog X.w) X E) : OpR X (binaryOp .Sub) (rOwnB X.K CR (spBin subV X.K CR CX) E) := by
  obtain ⟨f, fd, F, B, hb⟩ := R.sub_
  exact op_bin F hr B hb hx
theorem un_invG (R : ROps X.prog X.w X.K X.mg X.base CR CX k) (hr : Room k X.A) (hx : Passes (L2.CX X.prog X.w) X E) : UnR X (unaryOp .Invert) (rOwnU CR (spUn X.K CR) E) := by
  obtain ⟨f, fd, F, hs, hf, hb⟩ := R.inv_
  exact un_invO F hr hs hf hb hx
end
section
variable {K : PySem.W.Frag} {H : Hp} {CR CX : Addr} {E : XK} {Q : VK} {x y : V} {nx ny : List Str2}
theorem IsR.ins (h : IsR K CR H x nx) : ∃ a dx fs, x = .ref a ∧ H a = some (.ins CR dx fs) := by
  obtain ⟨a, dx, t, zs, rfl, h1, _⟩ := h
  exact ⟨a, dx, _, rfl, h1⟩
theorem eq_read {g : Bool → Bool} (hx : IsR K CR H x nx) (hy : IsR K CR H y ny) (q : Q (.bl (g (decide (nx = ny)))) H) : rOwnE K CR (spEqG K CR) E0 g x y H Q := by
  obtain ⟨a, dx, fs, rfl, h1⟩ := hx.ins
  exact ⟨a, dx, fs, rfl, h1, .inl hy.ins, _, y, nx, rfl, hx, .inl ⟨ny, hy, _, rfl, q⟩⟩
theorem eq_readT {T : String} {g : Bool → Bool} (hx : IsR K CR H x nx) (hy : KT K H y T) (nf : PySem.W.notFirst K CR (.type T) = true) (q : Q (.bl (g false)) H) : rOwnE K CR (spEqG K CR) E0 g x y H Q := by
  obtain ⟨a, dx, fs, rfl, h1⟩ := hx.ins
  exact ⟨a, dx, fs, rfl, h1, .inr ⟨T, hy, nf⟩, _, y, nx, rfl, hx, .inr ⟨T, hy, _, rfl, q⟩⟩
theorem bin_read {g : List Str2 → List Str2 → List Str2} (hx : IsR K CR H x nx) (hy : IsR K CR H y ny) (fx : NF nx) (fy : NF ny) (lx : nx.length ≤ 90) (ly : ny.length ≤ 90) (q : ∀ (H' : Hp) (z : Addr), Same H H' → H z = none → IsR K CR H' (.ref z) (g nx ny) → Q (.ref z) H') : rOwnB K CR (spBin g K CR CX) E x y H Q := by
  obtain ⟨a, dx, fs, rfl, h1⟩ := hx.ins
  exact ⟨a, dx, fs, rfl, h1, .inl hy.ins, _, y, nx, rfl, hx, fx, lx, .inl ⟨ny, hy, fy, ly, q⟩⟩
theorem bin_readT {T : String} {g : List Str2 → List Str2 → List Str2} (hx : IsR K CR H x nx) (fx : NF nx) (lx : nx.length ≤ 90) (hy : KT K H y T) (q : ∀ H', Same H H' → E (.ref CX) none H') : rOwnB K CR (spBin g K CR CX) E x y H Q := by
  obtain ⟨a, dx, fs, rfl, h1⟩ := hx.ins
  exact ⟨a, dx, fs, rfl, h1, .inr ⟨T, hy⟩, _, y, nx, rfl, hx, fx, lx, .inr ⟨T, hy, q⟩⟩
theorem un_read (hx : IsR K CR H x nx) (fx : NF nx) (lx : nx.length ≤ 90) (q : ∀ (H' : Hp) (z : Addr), Same H H' → H z = none → IsR K CR H' (.ref z) (notV nx) → Q (.ref z) H') : rOwnU CR (spUn K CR) E x H Q := by
  obtain ⟨a, dx, fs, rfl, h1⟩ := hx.ins
  exact ⟨a, dx, fs, rfl, h1, _, nx, rfl, hx, fx, lx, q⟩
end
end Kw
set_option maxHeartbeats 1000000
namespace Kw
open PySem PySem.Spec PyProof.Rows L2 LamX
/-! ### _law_normal(e, lambda z: _law_has(y, z)) -/
/-- the reading: the normal form by the law's own look -/
abbrev tNormalR (K : PySem.W.Frag) (T : List (Addr × Str)) (t1 : TE) (i j : Nat) : TE := tLamP T (TTn K) t1 (tCall (spHas K) [] E0 (tCons (tVar i) (tCons (tVar j) tNil))) j
section
variable {X : Cx} {T : List (Addr × Str)} {k i j : Nat}
end
def lamPB (sc scope : Scope) (p : Str) : Bool :=
  decide (scope.kind = .function) && !scope.isCoroutine && !scope.isGenerator && decide (scope.names.lookup p = some .local) && (scope.names.all fun y => (!decide (y.2 = .local) || decide (y.1 = p)) && !decide (y.2 = .cell) && (!decide (y.2 = .free) || decide (sc.names.lookup y.1 = some .cell) || decide (sc.names.lookup y.1 = some .free)))
theorem lamP_by {sc scope : Scope} {p : Str} (h : lamPB sc scope p = true) : LamP sc scope p := by
  unfold lamPB at h
  simp only [Bool.and_eq_true, Bool.or_eq_true, Bool.not_eq_true', decide_eq_true_eq, decide_eq_false_iff_not, List.all_eq_true] at h
  obtain ⟨⟨⟨⟨h1, h2⟩, h3⟩, h4⟩, h5⟩ := h
  refine ⟨h1, h2, h3, h4, fun y hy => ?_, fun y hy => (h5 y hy).1.2, fun y hy e => ?_⟩
  · rcases (h5 _ (PySem.mem_of_lookup hy)).1.1 with z | z
    · exact absurd rfl z
    · exact z
  · rcases (h5 y hy).2 with (z | z) | z
    · exact absurd e z
    · exact .inl z
    · exact .inr z
end Kw
set_option maxHeartbeats 1000000
namespace Kw
open PySem PySem.Spec PyProof.Rows L2 LamX
/-! ### the law's tests, one by one -/
section
variable {K : PySem.W.Frag} {H : Hp} {σ : L2.St}
abbrev rRp (K : PySem.W.Frag) : List V → Hp → VK → Prop := fun xs H Q => ∃ a b1 b2, xs = [.ref a] ∧ SqL K H a [.bl b1, .bl b2] ∧ Q (.str (twoB b1 b2)) H
/-- the promise answers b for x, from any heap that keeps H -/
def Says (sp : Sp) (H : Hp) (x : V) (b : Bool) : Prop := ∀ (H1 : Hp) (Q1 : VK) (E : XK), Same H H1 → (∀ H2, Same H1 H2 → Q1 (.bl b) H2) → sp [x] H1 Q1 E
abbrev tAt (sp : Sp) (i : Nat) : TE := tCall sp [] E0 (tCons (tVar i) tNil)
/-- repr([f(x), f(v=x)]) != repr([g(x)] * 2) is False -/
theorem twice_read {x : V} {b : Bool} {s1 s2 s3 : Sp} {i : Nat} {Q : Bool → Hp → Prop} (hi : σ[i]? = some (some x)) (h1 : Says s1 H x b) (h2 : Says s2 H x b) (h3 : Says s3 H x b) (q : ∀ H', Same H H' → Q false H') :
    tTest (tOp rNe (tCB (rRp K) (tCons (tLst (tCons (tAt s1 i) (tCons (tAt s2 i) tNil))) tNil)) (tCB (rRp K) (tCons (tOp rRep (tLst (tCons (tAt s3 i) tNil)) (tC (.int 2))) tNil))) σ H Q := by
  refine ⟨x, hi, h1 H _ _ (Same.refl H) fun Ha sa => ⟨x, hi, h2 Ha _ _ sa fun Hb sb => ⟨by show 2 ≤ sizeLine; decide, fun l1 hl1 => ⟨l1, b, b, rfl, .inl (.inl upd_same), ?_⟩⟩⟩⟩
  have t1 := same_upd (o := .lst [.bl b, .bl b]) hl1
  refine ⟨x, hi, h3 _ _ _ ((sa.trans sb).trans t1) fun Hc sc => ⟨by show 1 ≤ sizeLine; decide, fun l2 hl2 => ?_⟩⟩
  have t2 := same_upd (o := .lst [.bl b]) hl2
  refine ⟨l2, 2, [.bl b], rfl, rfl, upd_same, by decide, by decide, by show 1 * 2 ≤ sizeLine; decide, fun l3 hl3 => ?_⟩
  have t3 := same_upd (o := .lst (List.replicate (Int.toNat 2) [V.bl b]).flatten) hl3
  refine ⟨l3, b, b, rfl, .inl (.inl upd_same), rfl, false, ?_, q _ (((((sa.trans sb).trans t1).trans sc).trans t2).trans t3)⟩
  simp
/-- next_version(version=v) != v[:2] + (v[2] + 1,) is False -/
theorem next_read {x : V} {v : Ver} {CV : Addr} {i : Nat} {Q : Bool → Hp → Prop} (hi : σ[i]? = some (some x)) (hv : IsVer K H x v) (ok : okV v) (q : ∀ H', Same H H' → Q false H') :
    tTest (tOp (rNeD K) (tCall (spNextV K CV) [] E0 (tCons (tVar i) tNil)) (tOp (rCatT K) (tSl (rSlT K) (tVar i) tNoPart (tPart (tC (.int 2)))) (tTup (tCons (tOp (rI0 fun i j => .int (i + j)) (tOp (rIxT K) (tVar i) (tC (.int 2))) (tC (.int 1))) tNil)))) σ H Q := by
  refine ⟨x, hi, x, rfl, .inl ⟨v, hv, ok, fun Ha n sa hn => ?_⟩⟩
  obtain ⟨a, rfl, ha⟩ := hv.same sa
  refine ⟨_, hi, 2, rfl, a, v3 v, rfl, ha, (by intro z; exact absurd z.2 (by show ¬ (2 = 3); decide)), fun p hp => ?_⟩
  have t1 := same_upd (o := .tup (cutV (v3 v) none (some 2))) hp
  refine ⟨_, hi, a, v3 v, 2, .int v.2.2, rfl, rfl, Same.sqT t1 ha, atI_nat (j := 2) rfl, _, 1, rfl, rfl, by show 1 ≤ sizeLine; decide, fun p2 hp2 => ?_⟩
  have t2 := same_upd (o := .tup [.int (v.2.2 + 1)]) hp2
  refine ⟨p, p2, _, _, rfl, rfl, .inl (.inl (t2 _ _ upd_same)), .inl (.inl upd_same), (by intro z; cases z), (by show 3 ≤ sizeLine; decide), (fun z => (nomatch z)), fun _ p3 hp3 => ?_⟩
  have t3 := same_upd (o := .tup (v3 (v.1, v.2.1, v.2.2 + 1))) hp3
  have tA := (t1.trans t2).trans t3
  refine ⟨_, _, dp_ver (IsVer.of (tA _ _ hn)), dp_ver (v := (v.1, v.2.1, v.2.2 + 1)) (IsVer.of upd_same), shaped_ver _, shaped_ver _, false, ?_, q _ (sa.trans tA)⟩
  rw [eqv_ver]
  rfl
/-- not due(x) and not isinstance(caught(lambda: next_version(x)), BadVersion) is False -/
theorem odd_read {x : V} {b : Bool} {CV CK : Addr} {T : List (Addr × Str)} {i : Nat} {Q : Bool → Hp → Prop} (hsub : PySem.W.exmOne K (.ref CV) (.ref CK) = some true) (kV : PySem.W.kitOne K (.ref CV) (.ref CV) = some true) (hi : σ[i]? = some (some x)) (hx : VerB K H x b) (hT : Tabs T H) (q : ∀ H', ExtN H H' → Tabs T H' → Q false H') :
    tAnd (tNot (tB (tAt (spVerB K) i))) (tNot (tB (tCB (fun xs H Q => ∃ (x c : V) (v : Option V) (cv : Value) (b : Bool), xs = [x, c] ∧ IsExc H x CV v ∧ ClsV c cv ∧ PySem.W.kitOne K (.ref CV) cv = some b ∧ Q (.bl b) H) (tCons (tCaughtN K T CV CK i) (tCons (tC (.ref CV)) tNil))))) σ H Q := by
  refine ⟨x, hi, x, b, rfl, hx, fun Ha sa => ⟨b, rfl, ?_⟩⟩
  cases b with
  | true => exact iteF (q _ (ExtN.same sa) (hT.ext sa))
  | false =>
    refine iteT ?_
    refine caughtN_read hsub hi (hT.ext sa) (hx.same sa) fun Hb y eb Tb hy => ?_
    exact ⟨y, .ref CV, none, .ref CV, true, rfl, hy, .own _, kV, true, rfl, q _ ((ExtN.same sa).trans eb) Tb⟩
end
end Kw
set_option maxHeartbeats 1000000
namespace Kw
open PySem PySem.Spec PyProof.Rows L2 LamX
section
variable {K : PySem.W.Frag} {H : Hp} {σ : L2.St}
theorem Strs.app {xs ys : List V} {ss ts : List Str2} (h : Strs K H xs ss) (g : Strs K H ys ts) : Strs K H (xs ++ ys) (ss ++ ts) := by
  have e := h.len
  refine ⟨by rw [List.length_append, List.length_append, e, g.len], fun i x s p q => ?_⟩
  by_cases hi : i < xs.length
  · rw [List.getElem?_append_left hi] at p
    rw [List.getElem?_append_left (e ▸ hi)] at q
    exact h.at_ i x s p q
  · rw [List.getElem?_append_right (Nat.le_of_not_lt hi)] at p
    rw [List.getElem?_append_right (by rw [← e]; exact Nat.le_of_not_lt hi), ← e] at q
    exact g.at_ _ x s p q
theorem Strs.part {xs : List V} {ss : List Str2} (h : Strs K H xs ss) (a b : Nat) : Strs K H ((xs.drop a).take b) ((ss.drop a).take b) := by
  refine ⟨by rw [List.length_take, List.length_take, List.length_drop, List.length_drop, h.len], fun i x s p q => ?_⟩
  rw [List.getElem?_take] at p q
  split at p
  · rename_i lt
    rw [if_pos lt, List.getElem?_drop] at q
    rw [List.getElem?_drop] at p
    exact h.at_ _ x s p q
  · cases p
/-- made, due = (Range(stretches=some), normal(ends(some), ..)) -/
theorem mk_read {T : List (Addr × Str)} {CR CE pS : Addr} {xs : List V} {ss : List Str2} {i j : Nat} {Q : VK} (hi : σ[i]? = some (some (.ref pS))) (hij : i ≠ j) (hj : j < σ.length) (hT : Tabs T H) (hS : H pS = some (.lst xs)) (hss : Strs K H xs ss) (oks : ∀ s ∈ ss, okS s) (hl : ss.length ≤ 5)
    (q : ∀ (H' : Hp) (x p D : Addr) (zs : List V) (ss' : List Str2), ExtN H H' → Tabs T H' → IsR K CR H' (.ref x) (ss'.foldl nfAdd []) → H' D = some (.tup zs) → Strs K H' zs (ss'.foldl nfAdd []) → ss'.Perm ss → ss'.Pairwise (fun p q => ¬ ltV q.1 p.1) → H' p = some (.tup [.ref x, .ref D]) → Q (.ref p) H') :
    tTup (tCons (tMakeK CR 0 1 (spInit K T CR CE) (fun vs zs => vs ++ zs) E0 tNil (tCons (tVar i) tNil)) (tCons (tNormalR K T (tCall (spEnds K) [] E0 (tCons (tVar i) tNil)) i j) tNil)) σ H Q := by
  have lx : xs.length ≤ 5 := by rw [hss.len]; exact hl
  show tMakeK CR 0 1 (spInit K T CR CE) (fun vs zs => vs ++ zs) E0 tNil (tCons (tVar i) tNil) σ H fun x H1 => tNormalR K T (tCall (spEnds K) [] E0 (tCons (tVar i) tNil)) i j σ H1 fun y H2 => [x, y].length ≤ sizeLine ∧ ∀ p, H2 p = none → Q (.ref p) (upd H2 p (.tup [x, y]))
  refine rngK_good hi hT (.inl (SqL.of hS)) (by omega) hss oks fun Ha x ss' ea Ta hR pm pw nx => ?_
  have hSa := ea _ _ hS fun ps z => nomatch z
  refine ⟨_, hi, pS, xs, ss, rfl, SqL.of hSa, ea.strs hss, oks, hl, fun Hb pe ks sb hpe kse kl pwk mk => ⟨Ta.ext sb, fun Hc ec Tc => ?_⟩⟩
  have eac : ExtN H Hc := (ea.trans (ExtN.same sb)).trans ec
  refine ⟨pe, ks, hasL ss, rfl, ec.sqL (SqL.of hpe), fun p hp => ⟨ec.sqT (kse p hp).1, (kse p hp).2⟩, kl, fun Hg pp Qg sg hpp qg => ?_, fun Hd D zs sd hD hz => ?_⟩
  · refine ⟨.ref pS, by rw [List.getElem?_set_ne (Ne.symm hij)]; exact hi, .ref pp.1, by rw [List.getElem?_set_self hj], pS, xs, ss, .ref pp.1, pp.2, rfl, SqL.of (sg _ _ (eac _ _ hS fun ps z => nomatch z)), (eac.strs hss).same sg, by omega, ⟨pp.1, rfl, Same.sqT sg (ec.sqT (kse pp hpp).1)⟩, fun H2 s2 => qg H2 s2⟩
  · rw [← nf_main oks pwk mk (fun s => pm.mem_iff) pw] at hz
    refine ⟨by show 2 ≤ sizeLine; decide, fun p hp => ?_⟩
    have sp := same_upd (o := .tup [.ref x, .ref D]) hp
    have eF : ExtN Ha _ := ((ExtN.same sb).trans ec).trans (ExtN.same (sd.trans sp))
    exact q _ x p D zs ss' (ea.trans eF) ((Tc.ext sd).ext sp) (hR.ext eF) (sp _ _ hD) (hz.same sp) pm pw upd_same
/-- what has is asked of the normal form -/
theorem nf_has {ss ss' : List Str2} (oks : ∀ s ∈ ss, okS s) (pm : ss'.Perm ss) (pw : ss'.Pairwise fun p q => ¬ ltV q.1 p.1) (v : Ver) : hasL (ss'.foldl nfAdd []) v = hasL ss v := by
  obtain ⟨_, b⟩ := nf_fold ss' [] ⟨fun s h => (nomatch h), List.Pairwise.nil⟩ (fun t ht => (nomatch ht)) pw fun s hs => oks s (pm.mem_iff.mp hs)
  rw [b v, hasL_mem (fs := ss') (gs := ss) fun s => pm.mem_iff]
  rfl
abbrev rTupOf (K : PySem.W.Frag) : List V → Hp → VK → Prop := fun xs H Q => ∃ p ys, xs = [.ref p] ∧ ((SqL K H p ys ∧ ∀ l, H l = none → Q (.ref l) (upd H l (.tup ys))) ∨ (SqT K H p ys ∧ Q (.ref p) H))
/-- made.stretches != due or made != Range(tuple(shuffled(..))) or made == due is False -/
theorem same_read {T : List (Addr × Str)} {CR CE pS x D d wl c : Addr} {B : Int} {xs zs : List V} {ss ss' : List Str2} {is i im ie : Nat} {Q : Bool → Hp → Prop} (his : σ[is]? = some (some (.ref d))) (hi : σ[i]? = some (some (.ref pS))) (him : σ[im]? = some (some (.ref x))) (hid : σ[ie]? = some (some (.ref D))) (S : StAt H d wl c B) (hB : B + 10 ≤ 1000000000000) (hT : Tabs T H)
    (hS : H pS = some (.lst xs)) (hn : pS ≠ wl) (hss : Strs K H xs ss) (oks : ∀ s ∈ ss, okS s) (hl : ss.length ≤ 5) (hR : IsR K CR H (.ref x) (ss'.foldl nfAdd [])) (hD : H D = some (.tup zs)) (hz : Strs K H zs (ss'.foldl nfAdd [])) (pm : ss'.Perm ss) (pw : ss'.Pairwise fun p q => ¬ ltV q.1 p.1) (nT : PySem.W.notFirst K CR (.type "tuple") = true)
    (q : ∀ H', StAt H' d wl c (B + 10) → Tabs T H' → FrX d wl H H' → Q false H') :
    tOr (tTest (tOp (rNeD K) (tProp CR (spGetR K CR) [] E0 (tVar im)) (tVar ie))) (tOr (tTest (tOp (rOwn K CR (spEqR K CR) E0 not) (tVar im) (tMake CR (spInit K T CR CE) [] E0 (tCons (tCB (rTupOf K) (tCons (tCall (spShuf K) [] E0 (tCons (tVar is) (tCons (tOp rCat (tVar i) (tSl (rSlL K) (tVar i) tNoPart (tPart (tC (.int 1))))) tNil))) tNil)) tNil)))) (tTest (tOp (rOwn K CR (spEqR K CR) E0 id) (tVar im) (tVar ie)))) σ H Q := by
  have lx : xs.length ≤ 5 := by rw [hss.len]; exact hl
  have hDt : SqT K H D zs := .inl (.inl hD)
  obtain ⟨kvs, hd⟩ := S.hd
  obtain ⟨ws, hw⟩ := S.hw
  show tProp CR (spGetR K CR) [] E0 (tVar im) σ H _
  refine get_read him hR fun t zs' ht hz' => ⟨.ref D, hid, _, _, dp_nf ht hz', dp_nf hDt hz, shaped_nf _, shaped_nf _, false, by rw [eqv_nf]; rfl, iteF ?_⟩
  refine ⟨.ref x, him, .ref d, his, .ref pS, hi, .ref pS, hi, 1, rfl, pS, xs, rfl, SqL.of hS, fun r1 k1 => ?_⟩
  have t1 := same_upd (o := .lst (cutV xs none (some 1))) k1
  have lc := cutV_length xs none (some 1)
  refine ⟨pS, r1, xs, cutV xs none (some 1), rfl, rfl, t1 _ _ hS, upd_same, Nat.le_of_lt (small1000 (by omega)), fun r2 k2 => ?_⟩
  have t2 := same_upd (o := .lst (xs ++ cutV xs none (some 1))) k2
  have tA := t1.trans t2
  have n2 : r2 ≠ wl := (ne_of_none hw (t1.free k2)).symm
  have hcut : Strs K H (cutV xs none (some 1)) ((ss.drop (HT.sIx xs.length 0 none)).take (HT.sIx xs.length xs.length (some 1) - HT.sIx xs.length 0 none)) := hss.part _ _
  generalize hss2 : (ss.drop (HT.sIx xs.length 0 none)).take (HT.sIx xs.length xs.length (some 1) - HT.sIx xs.length 0 none) = s2 at hcut
  have ms2 : ∀ s ∈ s2, s ∈ ss := fun s hs => by rw [← hss2] at hs; exact List.mem_of_mem_drop (List.mem_of_mem_take hs)
  have l2 : s2.length ≤ 5 := by rw [← hcut.len]; omega
  refine ⟨d, wl, c, B, r2, _, ss ++ s2, rfl, S.same tA, hB, upd_same, n2, (hss.app hcut).same tA, by rw [List.length_append]; omega, fun H3 p ys ss3 np hp hys mem len S3 F3 => ?_⟩
  have T3 : Tabs T H3 := Tabs.fr2 (hT.ext tA) (S.same tA) F3
  have X3 : FrX d wl H H3 := (FrX.ofN (ExtN.same tA)).trans (FrX.of2 F3)
  refine ⟨_, _, rfl, .inl ⟨SqL.of hp, fun l hl3 => ?_⟩⟩
  have t3 := same_upd (o := .tup ys) hl3
  intro x9 dx9 na9 nd9 ne9
  have len3 : ss3.length ≤ 10 := by rw [len, List.length_append]; omega
  have ok3 : ∀ s ∈ ss3, okS s := fun s hs => ((List.mem_append.mp ((mem s).mp hs)).elim (oks s) fun h => oks s (ms2 s h))
  refine rngA (T3.ext t3) (.inr (.inl (.inl upd_same))) (by rw [hys.len]; omega) (hys.same t3) ok3 na9 nd9 fun H9 ss9 e9 T9 R9 pm9 pw9 => ?_
  have X9 : FrX d wl H H9 := (X3.trans (FrX.ofN (ExtN.same t3))).trans (FrX.ofN e9)
  have Rx : IsR K CR H9 (.ref x) (ss'.foldl nfAdd []) := hR.frX S X9
  have nfe : ss9.foldl nfAdd [] = ss'.foldl nfAdd [] := nf_same pm9 pm ok3 oks pw9 pw fun s => by
    rw [mem s, List.mem_append]
    exact ⟨fun h => h.elim (fun h => h) (ms2 s), .inl⟩
  rw [nfe] at R9
  obtain ⟨a1, dx1, u1, w1, q1, h1, g1, z1⟩ := id Rx
  obtain ⟨a2, dx2, u2, w2, q2, h2, g2, z2⟩ := id R9
  cases q1
  cases q2
  refine ⟨x, dx1, _, .ref CR, rfl, h1, .ins h2, by simp [PySem.W.notFirst], _, _, rfl, .inl ⟨_, Rx, R9, true, rfl, false, rfl, iteF ?_⟩⟩
  have hD9 : SqT K H9 D zs := X9.sqT S hDt
  exact ⟨.ref x, him, .ref D, hid, x, dx1, _, .type "tuple", rfl, h1, .tup hD9, nT, _, _, rfl, .inr ⟨D, zs, rfl, hD9, false, rfl, false, rfl, q H9 (((S3.same t3).ext e9)) T9 X9⟩⟩
/-- [p for p in points(some) if (p in made) != has(some, p)] != [] is False -/
theorem points_read {CR pS x : Addr} {xs : List V} {ss ss' : List Str2} {i im j : Nat} {Q : Bool → Hp → Prop} (hi : (wipe σ [j])[i]? = some (some (.ref pS))) (him : (wipe σ [j])[im]? = some (some (.ref x))) (hi0 : σ[i]? = some (some (.ref pS))) (nij : j ≠ i) (nmj : j ≠ im) (hj : j < (wipe σ [j]).length) (hwp : ∀ y, wipe ((wipe σ [j]).set j y) [j] = wipe σ [j])
    (hS : H pS = some (.lst xs)) (hss : Strs K H xs ss) (oks : ∀ s ∈ ss, okS s) (hl : ss.length ≤ 5) (hR : IsR K CR H (.ref x) (ss'.foldl nfAdd [])) (pm : ss'.Perm ss) (pw : ss'.Pairwise fun p q => ¬ ltV q.1 p.1) (q : ∀ H', Same H H' → Q false H') :
    tTest (tOp (rNeD K) (tLc (iList K (tCall (spPoints K) [] E0 (tCons (tVar i) tNil))) (gName j) (tTest (tOp rNe (tOp (rOwnIn CR (spHasR K CR) E0) (tVar j) (tVar im)) (tCall (spHas K) [] E0 (tCons (tVar i) (tCons (tVar j) tNil))))) (tVar j) [j]) (tLst tNil)) σ H Q := by
  have ln : (ss'.foldl nfAdd []).length ≤ 5 := by
    have := nf_len ss' []
    have e := pm.length_eq
    simp only [List.length_nil, Nat.zero_add] at this
    omega
  refine ⟨.ref pS, hi0, pS, xs, ss, rfl, SqL.of hS, hss, oks, hl, fun Hp pp ks sp hpp kok kl => ⟨pp, rfl, ⟨_, SqL.of hpp⟩, fun D hD => ?_⟩⟩
  refine lc_list (K := K) (a := pp) (xs := rf ks) (fun i H' => Same Hp H' ∧ H' D = some (.lst [])) ⟨same_upd hD, upd_same⟩ (fun i H' _ R => SqL.of (R.1 _ _ hpp)) ?_ ?_
  · rintro n y H' hy ⟨s1, hD1⟩
    obtain ⟨e, he, rfl⟩ := List.mem_map.mp (List.mem_of_getElem? hy)
    refine ⟨hwp _, ?_⟩
    have sA := sp.trans s1
    have hv : IsVer K H' (.ref e.1) e.2 := ⟨e.1, rfl, Same.sqT s1 (kok e he).1⟩
    have gi : ((wipe σ [j]).set j (some (V.ref e.1)))[i]? = some (some (.ref pS)) := by rw [List.getElem?_set_ne nij]; exact hi
    have gm : ((wipe σ [j]).set j (some (V.ref e.1)))[im]? = some (some (.ref x)) := by rw [List.getElem?_set_ne nmj]; exact him
    have gj : ((wipe σ [j]).set j (some (V.ref e.1)))[j]? = some (some (.ref e.1)) := by rw [List.getElem?_set_self hj]
    refine ⟨_, gj, _, gm, in_readR (hR.same sA) (by omega) hv (kok e he).2 fun Ha sa => ?_⟩
    refine ⟨_, gi, _, gj, pS, xs, ss, _, e.2, rfl, SqL.of (sa _ _ (sA _ _ hS)), (hss.same sA).same sa, by omega, hv.same sa, fun Hb sb => ⟨rfl, false, ?_, iteF ⟨s1.trans (sa.trans sb), sb _ _ (sa _ _ hD1)⟩⟩⟩
    rw [nf_has oks pm pw]
    simp [hasL]
  · rintro H' ⟨s1, hD1⟩
    refine ⟨Nat.zero_le _, fun l hl => ?_⟩
    have t1 := same_upd (o := .lst []) hl
    refine ⟨.list [], .list [], .lst (SqL.of (t1 _ _ hD1)) .nil, .lst (SqL.of upd_same) .nil, shaped_nil, shaped_nil, false, ?_, q _ ((sp.trans s1).trans t1)⟩
    rw [show PyData.eqv (.list []) (.list []) = true from eqv_nil []]
    rfl
theorem VerB.frX {H' : Hp} {x : V} {b : Bool} {d w c : Addr} {B : Int} (h : VerB K H x b) (S : StAt H d w c B) (F : FrX d w H H') (n1 : x ≠ .ref d) (n2 : x ≠ .ref w) : VerB K H' x b := by
  cases h with
  | tup t f e => exact .tup (F.sqT S t) f e
  | oth o =>
    cases o with
    | flat f => exact .oth (.flat f)
    | lst e => exact .oth (.lst (F _ _ (fun z => n1 (by rw [z])) (fun z => n2 (by rw [z])) e fun ps z => nomatch z))
    | dct e => exact .oth (.dct (F _ _ (fun z => n1 (by rw [z])) (fun z => n2 (by rw [z])) e fun ps z => nomatch z))
/-- not due(x) and x in made or not refused_right(state, some) is False -/
theorem last_read {T : List (Addr × Str)} {CR pS mx d wl c : Addr} {B : Int} {x : V} {b : Bool} {xs : List V} {ss nf : List Str2} {is i im ip : Nat} {Q : Bool → Hp → Prop} (his : σ[is]? = some (some (.ref d))) (hi : σ[i]? = some (some x)) (him : σ[im]? = some (some (.ref mx))) (hip : σ[ip]? = some (some (.ref pS)))
    (S : StAt H d wl c B) (hB : B + 20 ≤ 1000000000000) (hT : Tabs T H) (hx : VerB K H x b) (hR : IsR K CR H (.ref mx) nf) (ln : nf.length ≤ 100) (hS : H pS = some (.lst xs)) (hn : pS ≠ wl) (hss : Strs K H xs ss) (oks : ∀ s ∈ ss, okS s) (hl : ss.length ≤ 5)
    (q : ∀ H', Tabs T H' → StAt H' d wl c (B + 20) → FrX d wl H H' → Q false H') :
    tOr (tAnd (tNot (tB (tAt (spVerB K) i))) (tTest (tOp (rOwnIn CR (spHasR K CR) E0) (tVar i) (tVar im)))) (tNot (tB (tCall (spRefused K T) [] E0 (tCons (tVar is) (tCons (tVar ip) tNil))))) σ H Q := by
  have rest : ∀ Ha, Same H Ha → tNot (tB (tCall (spRefused K T) [] E0 (tCons (tVar is) (tCons (tVar ip) tNil)))) σ Ha Q := fun Ha sa =>
    ⟨.ref d, his, .ref pS, hip, d, wl, c, B, pS, xs, ss, rfl, S.same sa, hB, hT.ext sa, sa _ _ hS, hn, hss.same sa, oks, hl, fun Hb Tb Sb Fb => ⟨true, rfl, q Hb Tb Sb ((FrX.ofN (ExtN.same sa)).trans Fb)⟩⟩
  refine ⟨x, hi, x, b, rfl, hx, fun Ha sa => ⟨b, rfl, ?_⟩⟩
  cases b with
  | true => exact iteF (iteF (rest Ha sa))
  | false => exact iteT ⟨x, hi, .ref mx, him, in_readN (hR.same sa) ln (hx.same sa) fun Hb sb => ⟨false, rfl, iteF (rest Hb (sa.trans sb))⟩⟩
end
end Kw
set_option maxHeartbeats 1000000
namespace Kw
open PySem PySem.Spec PyProof.Rows L2 LamX
def spLaw (K : PySem.W.Frag) (T : List (Addr × Str)) : Sp := fun vs H Q _ => ∃ (a : Addr) (ns : List Int), vs = [.ref a] ∧ SqL K H a (ns.map V.int) ∧ ns.length ≤ 63 ∧ Tabs T H ∧ ∀ H', Q (.bl true) H'
end Kw
set_option maxHeartbeats 2000000
namespace Kw
open PySem PySem.Spec PyProof.Rows L2 LamX
/-! ### the end: the law's def is called where no repr is under way -/
section
variable {P : Program} {w : World} {K : PySem.W.Frag} {mg : Str → Option Value}
/-- the script's object -/
abbrev scrO (us : List Value) : Obj := { cls := .type "list", data := .seq us.toArray }
abbrev tabO : Obj := { cls := .none, data := .fields #[] }
/-- what is tracked when the law is called: the tables tb, and the script at a if the top has not written it down -/
def first (tb : List Addr) (fresh : Bool) (a : Addr) (us : List Value) (xs : List V) : Hp := fun b =>
  if b ∈ tb then some (.tbl #[]) else if (decide (b = a) && fresh) = true then some (.frz (scrO us) (.lst xs)) else none
section
variable {tb : List Addr} {fresh : Bool} {a b : Addr} {us : List Value} {xs : List V} {u : HO}
theorem first_tab (h : b ∈ tb) : first tb fresh a us xs b = some (.tbl #[]) := if_pos h
theorem first_of (h : first tb fresh a us xs b = some u) : (b ∈ tb ∧ u = .tbl #[]) ∨ (b = a ∧ fresh = true ∧ b ∉ tb ∧ u = .frz (scrO us) (.lst xs)) := by
  unfold first at h
  by_cases m : b ∈ tb
  · rw [if_pos m] at h
    exact .inl ⟨m, (Option.some.inj h).symm⟩
  · rw [if_neg m] at h
    split at h
    · rename_i c
      rw [Bool.and_eq_true, decide_eq_true_eq] at c
      exact .inr ⟨c.1, c.2, m, (Option.some.inj h).symm⟩
    · cases h
theorem first_out (h1 : b ∉ tb) (h2 : b ≠ a) : first tb fresh a us xs b = none := by
  cases e : first tb fresh a us xs b with
  | none => rfl
  | some u =>
    rcases first_of e with z | z
    · exact absurd z.1 h1
    · exact absurd z.1 h2
theorem first_scr (h1 : a ∉ tb) : first tb true a us xs a = some (.frz (scrO us) (.lst xs)) := by
  unfold first
  rw [if_neg h1, if_pos (by simp)]
end
/-- the heap at the law's call -/
structure AtCall (P : Program) (w : World) (K : PySem.W.Frag) (mg : Str → Option Value) (s : Shared) (tb : List Addr) (a : Addr) (us : List Value) (ns : List Int) : Prop where
  kin : K.In s.heap
  glob : s.heap.Ns mainGlobals mg
  blt : ∃ mb, s.heap.Ns builtinsNs mb ∧ ∀ x : Str, x ≠ "__name__" → mb x = bootBuiltins x
  lim : s.heap.NoLimit
  gens : s.gens = #[]
  tabs : ∀ b ∈ tb, s.heap.get? b = some tabO
  notK : ∀ b ∈ tb, K.lookup b = none
  scr : s.heap.get? a = some (scrO us)
  isI : IntsAre us ns
  len : ns.length ≤ sizeLine
section
variable {s : Shared} {tb : List Addr} {a : Addr} {us : List Value} {ns : List Int} (Z : AtCall P w K mg s tb a us ns)
include Z
theorem AtCall.out : a ∉ tb := fun m => by
  have e := Z.tabs a m
  rw [Z.scr] at e
  cases congrArg Obj.data (Option.some.inj e)
abbrev trk0 (K : PySem.W.Frag) (tb : List Addr) (a : Addr) (us : List Value) (ns : List Int) : Hp := first tb (K.lookup a).isNone a us (ns.map V.int)
theorem AtCall.lenV : us.length = ns.length := Z.isI.length.symm.symm
/-- a dict of the module, or an object that is neither a list nor a table, is not tracked -/
theorem AtCall.free {b : Addr} {o : Obj} (e : s.heap.get? b = some o) (n1 : o ≠ scrO us) (n2 : o ≠ tabO) : trk0 K tb a us ns b = none := by
  cases q : trk0 K tb a us ns b with
  | none => rfl
  | some u =>
    rcases first_of q with ⟨m, _⟩ | ⟨rfl, _, _, _⟩
    · rw [Z.tabs b m] at e
      exact absurd (Option.some.inj e).symm n2
    · rw [Z.scr] at e
      exact absurd (Option.some.inj e).symm n1
theorem AtCall.keepD {b : Addr} {o : Obj} (e : s.heap.get? b = some o) (n1 : o ≠ scrO us) (n2 : o ≠ tabO) : (hidT s.heap (trk0 K tb a us ns)).get? b = some o := hidT_get e (Z.free e n1 n2)
theorem AtCall.nsB {b : Addr} {m : Str → Option Value} (h : s.heap.Ns b m) : (hidT s.heap (trk0 K tb a us ns)).Ns b m := by
  obtain ⟨o, es, ep, e, d, r⟩ := h
  exact ⟨o, es, ep, Z.keepD e (fun z => by rw [z] at d; cases d) (fun z => by rw [z] at d; cases d), d, r⟩
theorem AtCall.kinB : K.In (hidT s.heap (trk0 K tb a us ns)) := fun b o e => by
  refine hidT_get (Z.kin b o e) ?_
  cases q : trk0 K tb a us ns b with
  | none => rfl
  | some u =>
    rcases first_of q with ⟨m, _⟩ | ⟨rfl, f, _, _⟩
    · rw [Z.notK b m] at e
      cases e
    · rw [e] at f
      cases f
theorem AtCall.ok : HOk P w (trk0 K tb a us ns) s.heap := fun b u e => by
  rcases first_of e with ⟨m, rfl⟩ | ⟨rfl, _, _, rfl⟩
  · exact Z.tabs b m
  · exact ⟨Z.scr, by rw [List.length_map]; exact Z.len, us, _, vals_ints Z.isI, Z.scr⟩
theorem AtCall.mod : L2.Mod K mg (hidT s.heap (trk0 K tb a us ns)) := by
  obtain ⟨mb, h1, h2⟩ := Z.blt
  obtain ⟨mc, h3, h4⟩ := Z.lim
  exact ⟨Z.kinB, Z.nsB Z.glob, ⟨mb, Z.nsB h1, h2⟩, mc, Z.nsB h3, h4⟩
theorem AtCall.env : Env0 P w K mg (hidT s.heap (trk0 K tb a us ns)) callerA [] s (trk0 K tb a us ns) where
  frames := rfl
  mod := Z.mod
  bs b o e := of_hidT e
  bsz := Nat.le_of_eq (hidT_size _ _)
  funs := trivial
  frf b hb := nomatch hb
  hok := Z.ok
  bare := .of_eq Z.gens
theorem AtCall.sq : SqL K (trk0 K tb a us ns) a (ns.map V.int) := by
  cases e : K.lookup a with
  | none => exact .inl (.inr ⟨scrO us, by show first tb (K.lookup a).isNone a us (ns.map V.int) a = _; rw [e]; exact first_scr Z.out⟩)
  | some o =>
    have q := Z.kin a o e
    rw [Z.scr] at q
    cases q
    exact .inr ⟨_, us.toArray, _, e, rfl, rfl, rfl, by rw [List.size_toArray, Z.lenV]; exact Z.len, by simpa using vals_ints Z.isI⟩
end
end
end Kw
set_option maxHeartbeats 2000000
namespace Kw
open PySem PySem.Spec PyProof.Rows L2 LamX
section
variable {P : Program} {w : World} {K : PySem.W.Frag} {mg : Str → Option Value} {s : Shared} {cs : List (Addr × Addr)} {a : Addr} {us : List Value} {ns : List Int}
abbrev BmAt (mg : Str → Option Value) (h : Heap) : Prop := ∃ (bm : Addr) (ob : Obj), mg "__builtins__" = some (.ref bm) ∧ bm ≠ builtinsNs ∧ h.get? bm = some ob ∧ ob.cls = .type "module" ∧ ob.dict = some builtinsNs ∧ ob.data = .plain
theorem AtCall.tabB (Z : AtCall P w K mg s (cs.map (·.2)) a us ns) (C : ∀ p ∈ cs, PySem.W.CodeHd s.heap p.1 p.2) (hbm : BmAt mg s.heap) : ∀ p ∈ cs, TabB (hidT s.heap (trk0 K (cs.map (·.2)) a us ns)) mg p.1 p.2 := by
  intro p hp
  have hm : p.2 ∈ cs.map (·.2) := List.mem_map.mpr ⟨p, hp, rfl⟩
  have ht := Z.tabs _ hm
  have hd := C p hp
  obtain ⟨bm, ob, b1, b2, b3, b4, b5, b6⟩ := hbm
  obtain ⟨og, es, ep, g1, g2, g3⟩ := id Z.glob
  have neG : mainGlobals ≠ p.2 := fun z => by
    rw [← z, g1] at ht
    cases ht
    cases g2
  constructor
  · obtain ⟨o, vs, file, tf, flags, tg, inF, text, tt, q1, q2, q3, q4, q5⟩ := hd
    refine ⟨o, vs, file, tf, flags, tg, inF, text, tt, Z.keepD q1 (fun z => ?_) (fun z => ?_), q2, q3, q4, q5⟩
    · rw [z] at q3
      cases q3
    · rw [z] at q2
      cases q2
  · refine ⟨bm, ob, b1, b2, fun z => ?_, fun z => ?_, Z.keepD b3 (fun z => ?_) (fun z => ?_), b4, b5, b6⟩
    · rw [z, g1] at b3
      cases b3
      rw [g2] at b6
      cases b6
    · rw [z, ht] at b3
      cases b3
      cases b5
    · rw [z] at b6
      cases b6
    · rw [z] at b6
      cases b6
  · exact neG
/-- what the caller asks of the law's end -/
abbrev EndOk (s : Shared) (r : Result) (s' : Shared) : Prop := r = .ok (.ret (.bool true)) ∧ OldK s.heap s'.heap ∧ s'.os = s.os ∧ AllBare s'.gens
theorem AtCall.end_ (Z : AtCall P w K mg s (cs.map (·.2)) a us ns) (C : ∀ p ∈ cs, PySem.W.CodeHd s.heap p.1 p.2) {H' : Hp} {s' : Shared} (un : Un (frs []) [] (trk0 K (cs.map (·.2)) a us ns) H' s.heap s'.heap) (ok : HOk P w H' s'.heap) : OldK s.heap s'.heap := by
  have nil : ∀ b : Addr, b ∉ ([] : List Addr) := fun b z => nomatch z
  have tabs : ∀ p ∈ cs, ∃ more : Array Value, s'.heap.get? p.2 = some { cls := .none, data := .fields more } := fun p hp => by
    obtain ⟨more, z⟩ := un.tbls p.2 #[] (first_tab (List.mem_map.mpr ⟨p, hp, rfl⟩))
    exact ⟨_, ok _ _ z⟩
  have keep : ∀ b o, b ∉ cs.map (·.2) → s.heap.get? b = some o → s'.heap.get? b = some o := fun b o nb e => by
    cases q : trk0 K (cs.map (·.2)) a us ns b with
    | none => exact un.keep b o e q (nil b) (nil b)
    | some u =>
      rcases first_of q with ⟨m, _⟩ | ⟨ha, _, _, hu⟩
      · exact absurd m nb
      · rw [hu] at q
        rw [ha, Z.scr] at e
        rw [ha]
        cases e
        exact (ok _ _ (un.frzs b _ _ q)).1 |> fun z => by rw [ha] at z; exact z
  refine ⟨fun b o e => ?_, fun b o e => ?_⟩
  · by_cases m : b ∈ cs.map (·.2)
    · obtain ⟨p, hp, rfl⟩ := List.mem_map.mp m
      have ht := Z.tabs _ m
      obtain ⟨more, hmore⟩ := tabs p hp
      rw [ht] at e
      cases e
      exact .inr (.inl ⟨((C p hp).tab ht).isCodeTable, rfl, #[], more, rfl, by rw [Array.empty_append]; exact hmore⟩)
    · exact .inl (keep b o m e)
  · by_cases m : b ∈ cs.map (·.2)
    · obtain ⟨p, hp, rfl⟩ := List.mem_map.mp m
      obtain ⟨more, hmore⟩ := tabs p hp
      exact ⟨_, hmore⟩
    · exact ⟨o, keep b o m e⟩
/-- the law's def, called by the claim's caller -/
theorem law_callG {fa : Addr} {fd : FuncData} {x : Str} {k : Nat} {sp : Sp} (Z : AtCall P w K mg s (cs.map (·.2)) a us ns) (C : ∀ p ∈ cs, PySem.W.CodeHd s.heap p.1 p.2) (hbm : BmAt mg s.heap) (hr : Room k callerA)
    (F : ∀ base : Heap, K.In base → base.Ns mainGlobals mg → (∀ p ∈ cs, TabB base mg p.1 p.2) → FnOkG P w K mg base CX0 k fa fd [x] sp) (hb : ∀ (s : Shared) (u : Value), BindsTo s fd ⟨[u], []⟩ [(x, u)])
    (hsp : ∀ H : Hp, (∀ p ∈ cs, H p.2 = some (.tbl #[])) → SqL K H a (ns.map V.int) → sp [.ref a] H (fun v _ => v = .bl true) fun _ _ _ => False) : codeAny (model P w) callerA (.call (.ref fa) ⟨[.ref a], []⟩) (EndOk s) s := by
  have promise := hsp (trk0 K (cs.map (·.2)) a us ns) (fun p hp => first_tab (List.mem_map.mpr ⟨p, hp, rfl⟩)) Z.sq
  have G := F _ Z.kinB (Z.nsB Z.glob) (Z.tabB C hbm)
  refine codeAny_mono (G.run callerA [] s _ ⟨[.ref a], []⟩ [.ref a] [.ref a] _ _ rfl hr Z.env (hb s (.ref a)) (.cons rfl .nil) promise) fun r s' h => ?_
  cases r with
  | error e => exact False.elim h
  | ok fl =>
    cases fl with
    | ret u =>
      obtain ⟨v, H', h1, h2, h3, h4, h5, h6⟩ := h
      cases (show v = .bl true from h6)
      cases (show u = Value.bool true from h5)
      exact ⟨rfl, Z.end_ C h3 h4, h1, h2⟩
    | next => exact False.elim h
    | brk => exact False.elim h
    | cont => exact False.elim h
end
/-- what has to be known of the law's def at the heap behind the top -/
def LawG (l : PySem.W.OpenLaw) (w : World) (K : PySem.W.Frag) (k : Nat) (mg : Str → Option Value) (fa : Addr) (h : Heap) : Prop :=
  ∃ (fd : FuncData) (cs : List (Addr × Addr)) (T : List (Addr × Str)), (∀ b ∈ cs.map (·.2), h.get? b = some tabO) ∧ (∀ b ∈ cs.map (·.2), K.lookup b = none) ∧ (∀ p ∈ cs, PySem.W.CodeHd h p.1 p.2) ∧ (∀ p ∈ T, p.1 ∈ cs.map (·.2)) ∧ (∀ (s : Shared) (u : Value), BindsTo s fd ⟨[u], []⟩ [("_law_script", u)]) ∧
    ∀ base : Heap, K.In base → base.Ns mainGlobals mg → (∀ p ∈ cs, TabB base mg p.1 p.2) → FnOkG l.prog w K mg base CX0 k fa fd ["_law_script"] (spLaw K T)
theorem walkG {l : PySem.W.OpenLaw} {k : Nat} {q : Program} {loose : List Str} {XP : (Str → Option Value) → Heap → Prop} {YP : World → Heap → Prop} {d : DefRec} {K : Params → PySem.W.Frag} (hn : l.most = some 63) (hdf : d.params.defaults = []) (hr : Room k callerA) (hY : ∀ (w : World) (h : Heap), YP w h → (K w.params).In h)
    (F : ∀ (w : World) (mg : Str → Option Value) (fa : Addr) (h : Heap), YP w h → (K w.params).In h → h.Ns mainGlobals mg → mg d.name = some (.ref fa) → LawG l w (K w.params) k mg fa h) : PySem.W.WalkO q loose XP YP l.row.toRowW d [] (fun f vs => PySem.call f vs) := by
  apply Att.attach_callB hn hdf
  intro w s0 s mg mb fa o pm cd doc a us ns G Y ho hd hcd hmg hobj hisI hlen hbits hgens
  have kin := hY w _ Y
  obtain ⟨fd, cs, T, t1, t2, t3, t4, t5, t6⟩ := F w mg fa _ Y kin G.T.g hmg
  have Z : AtCall l.prog w (K w.params) mg s (cs.map (·.2)) a us ns := ⟨kin, G.T.g, ⟨mb, G.T.b, G.T.builtins⟩, G.T.nolimit, hgens, t1, t2, hobj, hisI, Nat.le_trans hlen (by decide)⟩
  refine law_callG Z t3 G.T.bmain hr t6 t5 fun H hH hS => ⟨a, ns, rfl, hS, hlen, fun p hp => ?_, fun _ => rfl⟩
  obtain ⟨c, hc, ec⟩ := List.mem_map.mp (t4 p hp)
  refine ⟨#[], ?_, ?_, fun pos cv z => ?_⟩
  · rw [← ec]; exact hH c hc
  · exact trivial
  · have z2 : (none : Option Value) = some cv := z
    cases z2
end Kw
set_option maxHeartbeats 2000000
namespace Kw
open PySem PySem.Spec PyProof.Rows L2 LamX
/-! ### what the top has left, def by def -/
section
variable {K : PySem.W.Frag} {P : Program} {w : World} {mg : Str → Option Value} {base : Heap}
/-- the def x stands at the top; its function is at f, its code object at cd -/
structure TD (K : PySem.W.Frag) (x : Str) (st : Stmt) (f cd : Addr) : Prop where
  gl : PySem.W.nsIn K mainGlobals x = some (some (.ref f))
  ex : ∃ fd, FunC K x x st f fd cd
theorem td_mk {x : Str} {st : Stmt} {f cd : Addr} {oc kV doc pm ct : Value} {od an : Option Addr} {osl : Array (Option Value)} (a : PySem.W.nsIn K mainGlobals x = some (some (.ref f)))
    (l : K.lookup f = some ⟨oc, od, .func (PySem.W.fnOf x x (defArgs st) (defBody st) (defScope st) .none kV doc pm an (.ref cd) ct), osl⟩) (c : PySem.W.codeIn K (.ref cd) x = true) (k : PySem.W.keepIn K (.ref f) = true) : TD K x st f cd := ⟨a, _, ⟨oc, od, kV, doc, pm, an, ct, osl, rfl, l, c⟩, k⟩
/-- a method of Range -/
theorem fm_mk {x qual : Str} {st : Stmt} {f cd : Addr} {oc kV doc pm ct : Value} {od an : Option Addr} {osl : Array (Option Value)}
    (l : K.lookup f = some ⟨oc, od, .func (PySem.W.fnOf x qual (defArgs st) (defBody st) (defScope st) .none kV doc pm an (.ref cd) ct), osl⟩) (c : PySem.W.codeIn K (.ref cd) qual = true) (k : PySem.W.keepIn K (.ref f) = true) : ∃ fd, Fun K x qual st f fd := ⟨_, ⟨oc, od, kV, doc, pm, an, _, ct, osl, rfl, l, c⟩, k⟩
/-- the names of the module, read -/
structure Glo (K : PySem.W.Frag) (mg : Str → Option Value) : Prop where
  some_ : ∀ n v, PySem.W.nsIn K mainGlobals n = some (some v) → mg n = some v
  none_ : ∀ n, PySem.W.nsIn K mainGlobals n = some none → mg n = none
theorem Binds1 {x qual : Str} {st : Stmt} {f : Addr} {fd : FuncData} {p : Str} (F : Fun K x qual st f fd) (h : ∀ (kV doc pm : Value) (an : Option Addr) (cdv ct u : Value), bindArgs (PySem.W.fnOf x qual (defArgs st) (defBody st) (defScope st) .none kV doc pm an cdv ct) ⟨[u], []⟩ = pure [(p, u)]) : Binds K fd [p] [] :=
  F.binds fun kV doc pm an cdv ct us hl => match us, hl with | [u], _ => h kV doc pm an cdv ct u
theorem Binds2 {x qual : Str} {st : Stmt} {f : Addr} {fd : FuncData} {p q : Str} (F : Fun K x qual st f fd) (h : ∀ (kV doc pm : Value) (an : Option Addr) (cdv ct u v : Value), bindArgs (PySem.W.fnOf x qual (defArgs st) (defBody st) (defScope st) .none kV doc pm an cdv ct) ⟨[u, v], []⟩ = pure [(p, u), (q, v)]) : Binds K fd [p, q] [] :=
  F.binds fun kV doc pm an cdv ct us hl => match us, hl with | [u, v], _ => h kV doc pm an cdv ct u v
theorem TD.def1 {x p : Str} {st : Stmt} {f cd : Addr} {CX : CXT} {k : Nat} {sp : Sp} (t : TD K x st f cd) (g : Glo K mg) (ok : ∀ fd, Fun K x x st f fd → FnOk P w K mg base CX k f fd [p] sp) (j : Nat) (hj : k ≤ j)
    (h : ∀ (kV doc pm : Value) (an : Option Addr) (cdv ct u : Value), bindArgs (PySem.W.fnOf x x (defArgs st) (defBody st) (defScope st) .none kV doc pm an cdv ct) ⟨[u], []⟩ = pure [(p, u)]) : Def P w K mg base x CX j [p] sp := by
  obtain ⟨fd, F⟩ := t.ex
  exact ⟨f, fd, (ok fd F.fn).mono hj, g.some_ _ _ t.gl, F.kp, Binds1 F.fn h⟩
theorem TD.def2 {x p q : Str} {st : Stmt} {f cd : Addr} {CX : CXT} {k : Nat} {sp : Sp} (t : TD K x st f cd) (g : Glo K mg) (ok : ∀ fd, Fun K x x st f fd → FnOk P w K mg base CX k f fd [p, q] sp) (j : Nat) (hj : k ≤ j)
    (h : ∀ (kV doc pm : Value) (an : Option Addr) (cdv ct u v : Value), bindArgs (PySem.W.fnOf x x (defArgs st) (defBody st) (defScope st) .none kV doc pm an cdv ct) ⟨[u, v], []⟩ = pure [(p, u), (q, v)]) : Def P w K mg base x CX j [p, q] sp := by
  obtain ⟨fd, F⟩ := t.ex
  exact ⟨f, fd, (ok fd F.fn).mono hj, g.some_ _ _ t.gl, F.kp, Binds2 F.fn h⟩
theorem TD.defN {x p : Str} {st : Stmt} {f cd : Addr} {CX : CXT} {k : Nat} {sp : Sp} (t : TD K x st f cd) (g : Glo K mg) (ok : ∀ fd, Fun K x x st f fd → FnOk P w K mg base CX k f fd [p] sp) (j : Nat) (hj : k ≤ j)
    (h : ∀ (kV doc pm : Value) (an : Option Addr) (cdv ct u : Value), bindArgs (PySem.W.fnOf x x (defArgs st) (defBody st) (defScope st) .none kV doc pm an cdv ct) ⟨[], [(p, u)]⟩ = pure [(p, u)]) : DefN P w K mg base x CX j p sp := by
  obtain ⟨fd, F⟩ := t.ex
  refine ⟨f, fd, (ok fd F.fn).mono hj, g.some_ _ _ t.gl, F.kp, fun s u _ => ?_⟩
  obtain ⟨oc, od, kV, doc, pm, an, ct, osl, rfl, lk, hcd⟩ := F.ex
  exact .of_eq (h kV doc pm an _ ct u)
theorem Def.x {x : Str} {k : Nat} {ps : List Str} {sp : Sp} (D : Def P w K mg base x (L2.CX P w) k ps sp) : DefX P w K mg base x k ps sp := ⟨D.ex⟩
theorem Def.up {x : Str} {CX : CXT} {k j : Nat} {ps : List Str} {sp : Sp} (D : Def P w K mg base x CX k ps sp) (h : k ≤ j) : Def P w K mg base x CX j ps sp := by
  obtain ⟨f, fd, F, r⟩ := D.ex
  exact ⟨f, fd, F.mono h, r⟩
/-! ### Range.__init__ with its default -/
theorem init_binds {T : Addr} {fd : FuncData} {o : Obj} {its : Array Value} {n : Nat} {kV doc pm cdv ct : Value} {an : Option Addr} (e : fd = PySem.W.fnOf "__init__" "Range.__init__" (defArgs sInit) (defBody sInit) (defScope sInit) (.ref T) kV doc pm an cdv ct)
    (lT : K.lookup T = some o) (oT : o.data = .seq its n) (h1 : its.size = 1) : Binds K fd ["self", "stretches"] [] := by
  subst e
  obtain ⟨d, rfl⟩ : ∃ d, its = #[d] := Array.size_eq_one_iff.mp h1
  intro s us X hl
  obtain ⟨u, v, rfl⟩ : ∃ u v, us = [u, v] := by
    match us, hl with
    | [u, v], _ => exact ⟨u, v, rfl⟩
  refine BindsTo.of_looks fun M => ?_
  have hk : ∃ k, bindArgs (PySem.W.fnOf "__init__" "Range.__init__" (defArgs sInit) (defBody sInit) (defScope sInit) (.ref T) kV doc pm an cdv ct) ⟨[u, v] ++ [], []⟩ = seqItems? (.ref T) >>= k ∧ k (some #[d]) = pure [(("self" : Str), u), (("stretches" : Str), v)] := ⟨_, rfl, rfl⟩
  obtain ⟨k, e1, e2⟩ := hk
  exact e1 ▸ looks_items X lT oT (.of_pure e2)
theorem init_kbinds {T : Addr} {fd : FuncData} {o : Obj} {its : Array Value} {n : Nat} {kV doc pm cdv ct : Value} {an : Option Addr} (e : fd = PySem.W.fnOf "__init__" "Range.__init__" (defArgs sInit) (defBody sInit) (defScope sInit) (.ref T) kV doc pm an cdv ct)
    (lT : K.lookup T = some o) (oT : o.data = .seq its n) (h1 : its.size = 1) : KBn K fd ["self", "stretches"] 1 ["stretches"] (fun us ws => us ++ ws) (fun vs zs => vs ++ zs) := by
  subst e
  obtain ⟨d, rfl⟩ : ∃ d, its = #[d] := Array.size_eq_one_iff.mp h1
  refine ⟨fun s us ws X h2 h3 => ?_, fun r q => r.append q⟩
  obtain ⟨u, rfl⟩ := List.length_eq_one_iff.mp h2
  obtain ⟨v, rfl⟩ := List.length_eq_one_iff.mp h3
  refine BindsTo.of_looks fun M => ?_
  have hk : ∃ k, bindArgs (PySem.W.fnOf "__init__" "Range.__init__" (defArgs sInit) (defBody sInit) (defScope sInit) (.ref T) kV doc pm an cdv ct) ⟨[u], [(("stretches" : Str), v)]⟩ = seqItems? (.ref T) >>= k ∧ k (some #[d]) = pure [(("self" : Str), u), (("stretches" : Str), v)] := ⟨_, rfl, rfl⟩
  obtain ⟨k, e1, e2⟩ := hk
  exact e1 ▸ looks_items X lT oT (.of_pure e2)
end
end Kw
set_option maxHeartbeats 1000000
namespace Kw
open PySem PySem.Spec PyProof.Rows L2 LamX
/-! ### readings of expressions by what their values are -/
/-- from any heap that keeps H, te gives a value of which Pv holds -/
def Yd (T : List (Addr × Str)) (σ : L2.St) (H : Hp) (te : TE) (Pv : Hp → V → Prop) : Prop := ∀ (H1 : Hp) (Q : VK), ExtN H H1 → Tabs T H1 → (∀ (H2 : Hp) (x : V), ExtN H1 H2 → Tabs T H2 → Pv H2 x → Q x H2) → te σ H1 Q
/-- .. of a test -/
def Yt (T : List (Addr × Str)) (σ : L2.St) (H : Hp) (tt : TT) (b : Bool) : Prop := ∀ (H1 : Hp) (Q : Bool → Hp → Prop), ExtN H H1 → Tabs T H1 → (∀ (H2 : Hp), ExtN H1 H2 → Tabs T H2 → Q b H2) → tt σ H1 Q
abbrev qI (i : Int) : Hp → V → Prop := fun _ x => x = .int i
abbrev qB (b : Bool) : Hp → V → Prop := fun _ x => x = .bl b
abbrev qV (K : PySem.W.Frag) (v : Ver) : Hp → V → Prop := fun H x => IsVer K H x v
abbrev qE (K : PySem.W.Frag) (v : Option Ver) : Hp → V → Prop := fun H x => IsEnd K H x v
abbrev qS (K : PySem.W.Frag) (s : Str2) : Hp → V → Prop := fun H x => IsStr K H x s
def qL (K : PySem.W.Frag) (ss : List Str2) : Hp → V → Prop := fun H x => ∃ l xs, x = .ref l ∧ SqLT K H l xs ∧ Strs K H xs ss
def qT (K : PySem.W.Frag) (ss : List Str2) : Hp → V → Prop := fun H x => ∃ l xs, x = .ref l ∧ SqT K H l xs ∧ Strs K H xs ss
abbrev qR (K : PySem.W.Frag) (CR : Addr) (n : List Str2) : Hp → V → Prop := fun H x => IsR K CR H x n
section
variable {K : PySem.W.Frag} {T : List (Addr × Str)} {σ : L2.St} {H : Hp} {CR CE CX : Addr}
theorem qV_ext {v : Ver} {H1 H2 : Hp} {x : V} (e : ExtN H1 H2) (h : qV K v H1 x) : qV K v H2 x := let ⟨a, q, t⟩ := h; ⟨a, q, e.sqT t⟩
theorem qE_ext {v : Option Ver} {H1 H2 : Hp} {x : V} (e : ExtN H1 H2) (h : qE K v H1 x) : qE K v H2 x := by
  cases v with
  | none => exact h
  | some u => exact qV_ext e h
theorem qS_ext {s : Str2} {H1 H2 : Hp} {x : V} (e : ExtN H1 H2) (h : qS K s H1 x) : qS K s H2 x := let ⟨a, lo, hh, q, t, t1, t2⟩ := h; ⟨a, lo, hh, q, e.sqT t, qV_ext e t1, qE_ext e t2⟩
theorem qT_ext {ss : List Str2} {H1 H2 : Hp} {x : V} (e : ExtN H1 H2) (h : qT K ss H1 x) : qT K ss H2 x := let ⟨a, xs, q, t, t1⟩ := h; ⟨a, xs, q, e.sqT t, e.strs t1⟩
theorem qL_ext {ss : List Str2} {H1 H2 : Hp} {x : V} (e : ExtN H1 H2) (h : qL K ss H1 x) : qL K ss H2 x := let ⟨a, xs, q, t, t1⟩ := h; ⟨a, xs, q, t.ext e, e.strs t1⟩
theorem use {te : TE} {Q : VK} {Pv : Hp → V → Prop} (t : Tabs T H) (q : ∀ (H2 : Hp) (x : V), ExtN H H2 → Tabs T H2 → Pv H2 x → Q x H2) (h : Yd T σ H te Pv) : te σ H Q := h H Q (ExtN.refl _) t q
theorem useT {x : TT} {Q : Bool → Hp → Prop} {b : Bool} (t : Tabs T H) (q : ∀ (H2 : Hp), ExtN H H2 → Tabs T H2 → Q b H2) (h : Yt T σ H x b) : x σ H Q := h H Q (ExtN.refl _) t q
theorem yv {i : Nat} {x : V} {Pv : Hp → V → Prop} (hi : σ[i]? = some (some x)) (h : ∀ H', ExtN H H' → Pv H' x) : Yd T σ H (tVar i) Pv := fun H1 Q e t q => ⟨x, hi, q H1 x (ExtN.refl _) t (h H1 e)⟩
theorem yc {x : V} {Pv : Hp → V → Prop} (h : ∀ H', Pv H' x) : Yd T σ H (tC x) Pv := fun H1 Q e t q => q H1 x (ExtN.refl _) t (h H1)
theorem yi {i : Int} : Yd T σ H (tC (.int i)) (qI i) := yc fun _ => rfl
theorem yn : Yd T σ H (tC .non) (qE K none) := yc fun _ => rfl
theorem yr {i : Nat} {x : V} {n : List Str2} (hi : σ[i]? = some (some x)) (h : IsR K CR H x n) : Yd T σ H (tVar i) (qR K CR n) := yv hi fun _ e => h.ext e
theorem ys {a b : TE} {i j : Int} (ha : Yd T σ H a (qI i)) (hb : Yd T σ H b (qI j)) : Yd T σ H (tOp (rI0 fun i j => .int (i - j)) a b) (qI (i - j)) := fun H1 Q e t q =>
  ha H1 _ e t fun H2 x e2 t2 hx => hb H2 _ (e.trans e2) t2 fun H3 y e3 t3 hy => ⟨i, j, hx, hy, q H3 _ (e2.trans e3) t3 rfl⟩
theorem y3 {a b c : TE} {i j k : Int} (ha : Yd T σ H a (qI i)) (hb : Yd T σ H b (qI j)) (hc : Yd T σ H c (qI k)) : Yd T σ H (tTup (tCons a (tCons b (tCons c tNil)))) (qV K (i, j, k)) := fun H1 Q e t q =>
  ha H1 _ e t fun H2 x e2 t2 hx => hb H2 _ (e.trans e2) t2 fun H3 y e3 t3 hy => hc H3 _ ((e.trans e2).trans e3) t3 fun H4 z e4 t4 hz => by
    obtain rfl : x = .int i := hx
    obtain rfl : y = .int j := hy
    obtain rfl : z = .int k := hz
    refine ⟨by show 3 ≤ sizeLine; decide, fun p hp => ?_⟩
    have s := same_upd (o := .tup [.int i, .int j, .int k]) hp
    exact q _ _ (((e2.trans e3).trans e4).trans (ExtN.same s)) (t4.ext s) (IsVer.of upd_same)
theorem y3e {a b c : TE} {i j k : Int} (ha : Yd T σ H a (qI i)) (hb : Yd T σ H b (qI j)) (hc : Yd T σ H c (qI k)) : Yd T σ H (tTup (tCons a (tCons b (tCons c tNil)))) (qE K (some (i, j, k))) := y3 ha hb hc
theorem y2 {a b : TE} {v : Ver} {u : Option Ver} (ha : Yd T σ H a (qV K v)) (hb : Yd T σ H b (qE K u)) : Yd T σ H (tTup (tCons a (tCons b tNil))) (qS K (v, u)) := fun H1 Q e t q =>
  ha H1 _ e t fun H2 x e2 t2 hx => hb H2 _ (e.trans e2) t2 fun H3 y e3 t3 hy => by
    refine ⟨by show 2 ≤ sizeLine; decide, fun p hp => ?_⟩
    have s := same_upd (o := .tup [x, y]) hp
    exact q _ _ ((e2.trans e3).trans (ExtN.same s)) (t3.ext s) ⟨p, x, y, rfl, .inl (.inl upd_same), qV_ext (e3.trans (ExtN.same s)) hx, qE_ext (ExtN.same s) hy⟩
theorem strs_one {H' : Hp} {x : V} {s : Str2} (h : IsStr K H' x s) : Strs K H' [x] [s] := ⟨rfl, fun i y u a b => by
  match i with
  | 0 =>
    cases a
    cases b
    exact h
  | i + 1 => simp at a⟩
theorem strs_two {H' : Hp} {x y : V} {s u : Str2} (h : IsStr K H' x s) (g : IsStr K H' y u) : Strs K H' [x, y] [s, u] := ⟨rfl, fun i z w a b => by
  match i with
  | 0 =>
    cases a
    cases b
    exact h
  | 1 =>
    cases a
    cases b
    exact g
  | i + 2 => simp at a⟩
theorem yl1 {a : TE} {s : Str2} (ha : Yd T σ H a (qS K s)) : Yd T σ H (tLst (tCons a tNil)) (qL K [s]) := fun H1 Q e t q => ha H1 _ e t fun H2 x e2 t2 hx => by
  refine ⟨by show 1 ≤ sizeLine; decide, fun p hp => ?_⟩
  have k := same_upd (o := .lst [x]) hp
  exact q _ _ (e2.trans (ExtN.same k)) (t2.ext k) ⟨p, [x], rfl, .inl (SqL.of upd_same), strs_one (qS_ext (ExtN.same k) hx)⟩
theorem yt1 {a : TE} {s : Str2} (ha : Yd T σ H a (qS K s)) : Yd T σ H (tTup (tCons a tNil)) (qT K [s]) := fun H1 Q e t q => ha H1 _ e t fun H2 x e2 t2 hx => by
  refine ⟨by show 1 ≤ sizeLine; decide, fun p hp => ?_⟩
  have k := same_upd (o := .tup [x]) hp
  exact q _ _ (e2.trans (ExtN.same k)) (t2.ext k) ⟨p, [x], rfl, .inl (.inl upd_same), strs_one (qS_ext (ExtN.same k) hx)⟩
theorem yt2 {a b : TE} {s u : Str2} (ha : Yd T σ H a (qS K s)) (hb : Yd T σ H b (qS K u)) : Yd T σ H (tTup (tCons a (tCons b tNil))) (qT K [s, u]) := fun H1 Q e t q =>
  ha H1 _ e t fun H2 x e2 t2 hx => hb H2 _ (e.trans e2) t2 fun H3 y e3 t3 hy => by
    refine ⟨by show 2 ≤ sizeLine; decide, fun p hp => ?_⟩
    have k := same_upd (o := .tup [x, y]) hp
    exact q _ _ ((e2.trans e3).trans (ExtN.same k)) (t3.ext k) ⟨p, [x, y], rfl, .inl (.inl upd_same), strs_two (qS_ext (e3.trans (ExtN.same k)) hx) (qS_ext (ExtN.same k) hy)⟩
/-! Ranges -/
theorem ym {E : XK} {a : TE} {ss : List Str2} (ha : Yd T σ H a (qL K ss)) (hb : nfB ss = true) (hl : ss.length ≤ 40) : Yd T σ H (tMake CR (spInit K T CR CE) [] E (tCons a tNil)) (qR K CR ss) := fun H1 Q e t q =>
  ha H1 _ e t fun H2 x e2 t2 hx => by
    obtain ⟨l, xs, rfl, hS, hss⟩ := hx
    refine fun a dx na nd ne => ?_
    exact rngA (R := fun H2 => Q (.ref a) H2) t2 hS (by rw [hss.len]; exact hl) hss (nfB_ok hb).ok na nd fun H' ss' e9 T' hR pm pw => by
      rw [fold_is hb pm pw] at hR
      exact q H' _ (e2.trans e9) T' hR
section
variable {a b : TE} {n m : List Str2}
theorem yBin {E : XK} {g : List Str2 → List Str2 → List Str2} (ha : Yd T σ H a (qR K CR n)) (hb : Yd T σ H b (qR K CR m)) (fn : NF n) (fm : NF m) (ln : n.length ≤ 90) (lm : m.length ≤ 90) : Yd T σ H (tOp (rOwnB K CR (spBin g K CR CX) E) a b) (qR K CR (g n m)) := fun H1 Q e t q =>
  ha H1 _ e t fun H2 x e2 t2 hx => hb H2 _ (e.trans e2) t2 fun H3 y e3 t3 hy => bin_read (hx.ext e3) hy fn fm ln lm fun H4 z s4 _ hz => q H4 _ ((e2.trans e3).trans (ExtN.same s4)) (t3.ext s4) hz
theorem yNot {E : XK} (ha : Yd T σ H a (qR K CR n)) (fn : NF n) (ln : n.length ≤ 90) : Yd T σ H (tUn (rOwnU CR (spUn K CR) E) a) (qR K CR (notV n)) := fun H1 Q e t q =>
  ha H1 _ e t fun H2 x e2 t2 hx => un_read hx fn ln fun H4 z s4 _ hz => q H4 _ (e2.trans (ExtN.same s4)) (t2.ext s4) hz
theorem yEq {g : Bool → Bool} (ha : Yd T σ H a (qR K CR n)) (hb : Yd T σ H b (qR K CR m)) : Yd T σ H (tOp (rOwnE K CR (spEqG K CR) E0 g) a b) (qB (g (decide (n = m)))) := fun H1 Q e t q =>
  ha H1 _ e t fun H2 x e2 t2 hx => hb H2 _ (e.trans e2) t2 fun H3 y e3 t3 hy => eq_read (hx.ext e3) hy (q H3 _ (e2.trans e3) t3 rfl)
theorem yIn {v : Ver} (ha : Yd T σ H a (qV K v)) (hb : Yd T σ H b (qR K CR m)) (ov : okV v) (lm : m.length ≤ 100) : Yd T σ H (tOp (rOwnIn CR (spHasR K CR) E0) a b) (qB (hasL m v)) := fun H1 Q e t q =>
  ha H1 _ e t fun H2 x e2 t2 hx => hb H2 _ (e.trans e2) t2 fun H3 y e3 t3 hy => in_readR hy lm (qV_ext e3 hx) ov fun H4 s4 => q H4 _ ((e2.trans e3).trans (ExtN.same s4)) (t3.ext s4) rfl
theorem yGet (ha : Yd T σ H a (qR K CR n)) : Yd T σ H (tProp CR (spGetR K CR) [] E0 a) (qT K n) := fun H1 Q e t q =>
  ha H1 _ e t fun H2 x e2 t2 hx => by
    obtain ⟨p, dx, u, zs, rfl, h1, h2, h3⟩ := id hx
    exact ⟨p, dx, _, rfl, h1, _, n, rfl, hx, fun u' zs' ht hz => q H2 _ e2 t2 ⟨u', zs', rfl, ht, hz⟩⟩
theorem yTeq {g : Bool → Bool} (r : R2) (hr : ∀ (x y : V) (H : Hp) (Q : VK) (d d' : PyData), Dp K H x d → Dp K H y d' → SeqAt.shaped d = true → SeqAt.shaped d' = true → Q (.bl (g (PyData.eqv d d'))) H → r x y H Q) (ha : Yd T σ H a (qT K n)) (hb : Yd T σ H b (qT K m)) :
    Yd T σ H (tOp r a b) (qB (g (decide (n = m)))) := fun H1 Q e t q =>
  ha H1 _ e t fun H2 x e2 t2 hx => hb H2 _ (e.trans e2) t2 fun H3 y e3 t3 hy => by
    obtain ⟨p, xs, rfl, hp, hxs⟩ := qT_ext e3 hx
    obtain ⟨p2, ys, rfl, hp2, hys⟩ := hy
    refine hr _ _ _ _ _ _ (dp_nf hp hxs) (dp_nf hp2 hys) (shaped_nf _) (shaped_nf _) ?_
    rw [eqv_nfG]
    exact q H3 _ (e2.trans e3) t3 rfl
/-! tests and truth values -/
theorem tt {c : Bool} (ha : Yd T σ H a (qB c)) : Yt T σ H (tTest a) c := fun H1 Q e t q => ha H1 _ e t fun H2 x e2 t2 hx => ⟨c, hx, q H2 e2 t2⟩
theorem tb {c : Bool} (ha : Yd T σ H a (qB c)) : Yt T σ H (tB a) c := fun H1 Q e t q => ha H1 _ e t fun H2 x e2 t2 hx => ⟨c, hx, q H2 e2 t2⟩
theorem yAnd {c d : Bool} (ha : Yd T σ H a (qB c)) (hb : Yd T σ H b (qB d)) : Yd T σ H (tAndV a b) (qB (c && d)) := fun H1 Q e t q => ha H1 _ e t fun H2 x e2 t2 hx => by
  refine ⟨c, hx, ?_⟩
  cases c with
  | true => exact iteT (hb H2 _ (e.trans e2) t2 fun H3 y e3 t3 hy => q H3 y (e2.trans e3) t3 (by rw [hy]; simp))
  | false => exact iteF (q H2 _ e2 t2 (by simp))
end
theorem tOr' {a b : TT} {c d : Bool} (ha : Yt T σ H a c) (hb : Yt T σ H b d) : Yt T σ H (tOr a b) (c || d) := fun H1 Q e t q => ha H1 _ e t fun H2 e2 t2 => by
  cases c with
  | true => exact iteT (q H2 e2 t2)
  | false => exact iteF (hb H2 _ (e.trans e2) t2 fun H3 e3 t3 => q H3 (e2.trans e3) t3)
theorem tAnd' {a b : TT} {c d : Bool} (ha : Yt T σ H a c) (hb : Yt T σ H b d) : Yt T σ H (tAnd a b) (c && d) := fun H1 Q e t q => ha H1 _ e t fun H2 e2 t2 => by
  cases c with
  | false => exact iteF (q H2 e2 t2)
  | true => exact iteT (hb H2 _ (e.trans e2) t2 fun H3 e3 t3 => q H3 (e2.trans e3) t3)
theorem tNot' {a : TT} {c : Bool} (ha : Yt T σ H a c) : Yt T σ H (tNot a) (!c) := fun H1 Q e t q => ha H1 _ e t q
/-- len(x) of a tuple of stretches against a number -/
theorem yLen {a : TE} {n : List Str2} {r : List V → Hp → VK → Prop} (hr : ∀ p ys H Q, SqT K H p ys → Q (.int ys.length) H → r [.ref p] H Q) (ha : Yd T σ H a (qT K n)) : Yd T σ H (tCB r (tCons a tNil)) (qI n.length) := fun H1 Q e t q =>
  ha H1 _ e t fun H2 x e2 t2 hx => by
    obtain ⟨p, xs, rfl, hp, hxs⟩ := hx
    refine hr p xs H2 _ hp (q H2 _ e2 t2 ?_)
    rw [hxs.len]
theorem yNe {a b : TE} {i j : Int} (ha : Yd T σ H a (qI i)) (hb : Yd T σ H b (qI j)) : Yd T σ H (tOp rNe a b) (qB (!decide (i = j))) := fun H1 Q e t q =>
  ha H1 _ e t fun H2 x e2 t2 hx => hb H2 _ (e.trans e2) t2 fun H3 y e3 t3 hy => by
    obtain rfl : x = .int i := hx
    obtain rfl : y = .int j := hy
    exact ⟨rfl, q H3 _ (e2.trans e3) t3 (by simp)⟩
end
end Kw
set_option maxHeartbeats 2000000
namespace Kw
open PySem PySem.Spec PyProof.Rows L2 LamX
/-! ### y not in x, a def without arguments, a comprehension of forty stretches -/
section
variable {X : Cx} {CX : CXT} {n : Nat} {C f : Addr} {fd : FuncData} {ps : List Str} {sp : Sp} {E : XK}
def rOwnNin (C : Addr) (sp : Sp) (E : XK) : R2 := fun y x H Q => ∃ a dx fs, x = .ref a ∧ H a = some (.ins C dx fs) ∧ sp [x, y] H (fun v H' => ∃ r, v = .bl r ∧ Q (.bl (!r)) H') E
theorem op_ninO (F : FnOk X.prog X.w X.K X.mg X.base CX n f fd ps sp) (hr : Room n X.A) (hs : PySem.W.findIn X.K (.ref C) "__contains__" = some (some (.ref f))) (hf : PySem.W.isFn X.K (.ref f) = true) (hb : Binds X.K fd ps []) (hx : Passes CX X E) :
    OpR X (compareOp .NotIn) (rOwnNin C sp E) := by
  intro pins s σ H y x u v Q I ry rx h
  obtain ⟨a, dx, fs, rfl, ha, hsp⟩ := h
  obtain rfl : v = Value.ref a := rx
  obtain ⟨mA, J, _⟩ := ins_get I.hok ha
  obtain ⟨od, J, _⟩ := J.look
  obtain ⟨m, hF⟩ := I.fr
  refine PySem.W.notIn_K hF I.ok.mod.kin J hs hf (wpAny_mono (run_at (x := .ref a) F hb hx rfl hr I rfl ry hsp) (fun w s' q => ?_) fun _ _ z => z)
  obtain ⟨z, H', I', rz, r, rfl, q⟩ := q
  cases rz
  exact wpAny_truthy_bool ⟨.bl (!r), H', I', rfl, q⟩
theorem op_ninR {CR : Addr} {k : Nat} (G : RangeHas X.prog X.w X.K X.mg X.base CR k) (hr : Room k X.A) : OpR X (compareOp .NotIn) (rOwnNin CR (spHasR X.K CR) E0) := by
  obtain ⟨f, fd, F, h1, h2, hb⟩ := G.ex
  exact op_ninO F hr h1 h2 hb pass0
theorem pe_d0 {x : Str} {k : Nat} {sp : Sp} {p pos : Pos} (D : Def X.prog X.w X.K X.mg X.base x CX0 k [] sp) (hr : Room k X.A) (hg : Gl X x := by rfl) (hdb : (x == ("__debug__" : Str)) = false := by decide) : PE X (.Call (.Name x p) [] [] pos) (tCall sp [] E0 tNil) := by
  obtain ⟨f, fd, F, hm, hk, hb⟩ := D.ex
  exact pe_call0 F hr hg hm hk hb .nil pass0 hdb
end
section
variable {K : PySem.W.Frag} {T : List (Addr × Str)} {σ : L2.St} {H : Hp} {CR CE CX : Addr} {a b : TE} {m : List Str2}
theorem yNin {v : Ver} (ha : Yd T σ H a (qV K v)) (hb : Yd T σ H b (qR K CR m)) (ov : okV v) (lm : m.length ≤ 100) : Yd T σ H (tOp (rOwnNin CR (spHasR K CR) E0) a b) (qB (!hasL m v)) := fun H1 Q e t q =>
  ha H1 _ e t fun H2 x e2 t2 hx => hb H2 _ (e.trans e2) t2 fun H3 y e3 t3 hy => by
    obtain ⟨p, dx, u, zs, rfl, h1, _⟩ := id hy
    exact ⟨p, dx, _, rfl, h1, _, x, m, rfl, hy, lm, .inl ⟨v, qV_ext e3 hx, ov, fun H' s => ⟨_, rfl, q H' _ ((e2.trans e3).trans (ExtN.same s)) (t3.ext s) rfl⟩⟩⟩
theorem Yt.is {x : TT} {c d : Bool} (h : Yt T σ H x c) (e : c = d) : Yt T σ H x d := e ▸ h
theorem Yd.is {x : TE} {c d : Bool} (h : Yd T σ H x (qB c)) (e : c = d) : Yd T σ H x (qB d) := e ▸ h
/-- [stretch of k for k in range(40)] -/
theorem yLc {te : TE} (s : Nat → Str2) {j : Nat} (hw : ∀ y, wipe ((wipe σ [j]).set j y) [j] = wipe σ [j]) (h : ∀ (i : Nat) (H' : Hp), i < 40 → Yd T ((wipe σ [j]).set j (some (.int (0 + (i : Int))))) H' te (qS K (s i))) :
    Yd T σ H (tLc (iRng1 (tCons (tC (.int 40)) tNil)) (gName j) tYes te [j]) (qL K ((List.range 40).map s)) := fun H1 Q e t q => by
  refine ⟨40, rfl, by decide, by decide, fun D hD => ?_⟩
  refine lc_range (lo := 0) (n := 40) (fun i H' => ExtN H1 H' ∧ Tabs T H' ∧ ∃ xs, H' D = some (.lst xs) ∧ Strs K H' xs ((List.range i).map s)) ⟨ExtN.same (same_upd hD), t.ext (same_upd hD), [], upd_same, rfl, fun i x s a => by simp at a⟩ ?_ ?_
  · rintro i H2 hi ⟨e2, t2, xs, hx, hxs⟩
    refine ⟨hw _, h i H2 hi H2 _ (ExtN.refl _) t2 fun H3 y e3 t3 hy => ?_⟩
    have hx3 : H3 D = some (.lst xs) := e3 _ _ hx fun ps z => nomatch z
    have lx := hxs.len
    rw [List.length_map, List.length_range] at lx
    have f : Fr1 D H3 (upd H3 D (.lst (xs ++ [y]))) := Fr1.put
    refine ⟨xs, hx3, by show xs.length < sizeLine; rw [sizeLine_eq]; omega, fun b o z n => ?_, Tabs.fr1 t3 f hx3, xs ++ [y], upd_same, ?_⟩
    · exact f _ _ (ne_of_none z hD) ((e2.trans e3) _ _ z n)
    · rw [List.range_succ, List.map_append]
      exact (f.strs hx3 (e3.strs hxs)).snoc (f.str hx3 hy)
  · rintro H2 ⟨e2, t2, xs, hx, hxs⟩
    exact q H2 _ e2 t2 ⟨D, xs, rfl, .inl (SqL.of hx), hxs⟩
end
def spTrue (T : List (Addr × Str)) : Sp := fun vs H Q _ => vs = [] ∧ Tabs T H ∧ ∀ H', ExtN H H' → Tabs T H' → Q (.bl true) H'
end Kw
set_option maxHeartbeats 2000000
namespace Kw
/-! ### the mathematics of runs: versions of two sides, in their order -/
abbrev Run := Bool × List Ver
abbrev nextV (v : Ver) : Ver := (v.1, v.2.1, v.2.2 + 1)
def runStep (rs : List Run) (p : Ver × Bool) : List Run := match rs.getLast? with
  | some r => if r.1 = p.2 then rs.dropLast ++ [(r.1, r.2 ++ [p.1])] else rs ++ [(p.2, [p.1])]
  | none => rs ++ [(p.2, [p.1])]
def runsL (L : List (Ver × Bool)) : List Run := L.foldl runStep []
def flatR (rs : List Run) : List (Ver × Bool) := rs.flatMap fun r => r.2.map fun v => (v, r.1)
def AltR : List Run → Prop
  | r :: s :: l => r.1 ≠ s.1 ∧ AltR (s :: l)
  | _ => True
structure IsRuns (rs : List Run) (L : List (Ver × Bool)) : Prop where
  flat : flatR rs = L
  ne : ∀ r ∈ rs, r.2 ≠ []
  alt : AltR rs
theorem alt_snoc : ∀ {A : List Run} {r s : Run}, AltR (A ++ [r]) → r.1 ≠ s.1 → AltR (A ++ [r] ++ [s])
  | [], r, s, _, n => ⟨n, trivial⟩
  | [a], r, s, h, n => ⟨h.1, n, trivial⟩
  | a :: b :: A, r, s, h, n => ⟨h.1, alt_snoc (A := b :: A) h.2 n⟩
theorem alt_same : ∀ {A : List Run} {r s : Run}, AltR (A ++ [r]) → r.1 = s.1 → AltR (A ++ [s])
  | [], r, s, _, n => trivial
  | [a], r, s, h, n => ⟨fun z => h.1 (z.trans n.symm), trivial⟩
  | a :: b :: A, r, s, h, n => ⟨h.1, alt_same (A := b :: A) h.2 n⟩
theorem alt_mid : ∀ {A : List Run} {r s : Run} {B : List Run}, AltR (A ++ r :: s :: B) → r.1 ≠ s.1
  | [], r, s, B, h => h.1
  | [a], r, s, B, h => h.2.1
  | a :: b :: A, r, s, B, h => alt_mid (A := b :: A) h.2
theorem alt_drop : ∀ {A B : List Run}, AltR (A ++ B) → AltR B
  | [], B, h => h
  | [a], [], h => trivial
  | [a], b :: B, h => h.2
  | a :: b :: A, B, h => alt_drop (A := b :: A) h.2
theorem flat_app (A B : List Run) : flatR (A ++ B) = flatR A ++ flatR B := by simp [flatR]
theorem flat_cons (r : Run) (B : List Run) : flatR (r :: B) = r.2.map (fun v => (v, r.1)) ++ flatR B := by simp [flatR]
theorem runs_step {rs : List Run} {L : List (Ver × Bool)} (h : IsRuns rs L) (p : Ver × Bool) : IsRuns (runStep rs p) (L ++ [p]) := by
  unfold runStep
  cases e : rs.getLast? with
  | none =>
    obtain rfl : rs = [] := List.getLast?_eq_none_iff.mp e
    have e1 : L = [] := h.flat.symm
    subst e1
    exact ⟨by simp [flatR], fun r hr => by simp at hr; rw [hr]; simp, trivial⟩
  | some r =>
    obtain ⟨A, rfl⟩ := List.getLast?_eq_some_iff.mp e
    dsimp only
    by_cases c : r.1 = p.2
    · rw [if_pos c, List.dropLast_concat]
      refine ⟨?_, fun s hs => ?_, alt_same h.alt rfl⟩
      · rw [← h.flat, flat_app, flat_app]
        simp only [flatR, List.flatMap_cons, List.flatMap_nil, List.append_nil, List.map_append, List.map_cons, List.map_nil, List.append_assoc]
        rw [c]
      · rcases List.mem_append.mp hs with hs | hs
        · exact h.ne s (List.mem_append_left _ hs)
        · rw [List.mem_singleton.mp hs]
          simp
    · rw [if_neg c]
      refine ⟨?_, fun s hs => ?_, alt_snoc h.alt c⟩
      · rw [flat_app, h.flat]
        simp [flatR]
      · rcases List.mem_append.mp hs with hs | hs
        · exact h.ne s hs
        · rw [List.mem_singleton.mp hs]
          simp
theorem runs_fold : ∀ (L : List (Ver × Bool)) {rs : List Run} {L0 : List (Ver × Bool)}, IsRuns rs L0 → IsRuns (L.foldl runStep rs) (L0 ++ L)
  | [], rs, L0, h => by rw [List.append_nil]; exact h
  | p :: L, rs, L0, h => by
    have z := runs_fold L (runs_step h p)
    rw [List.append_assoc] at z
    exact z
theorem runs_is (L : List (Ver × Bool)) : IsRuns (runsL L) L := runs_fold L (rs := []) (L0 := []) ⟨rfl, fun r h => (nomatch h), trivial⟩
/-! its ends -/
def hdR (r : Run) : Ver := r.2.headD v000
def lsR (r : Run) : Ver := r.2.getLast?.getD v000
def strR (r : Run) : Str2 := (hdR r, some (nextV (lsR r)))
def partR (rs : List Run) : List Str2 := (rs.filter fun r => r.1).map strR
abbrev UpL (L : List (Ver × Bool)) : Prop := L.Pairwise fun p q => ¬ ltV q.1 p.1
/-- what the sorted list of both sides is -/
structure Sides (L : List (Ver × Bool)) (i o : List Ver) : Prop where
  up : UpL L
  mt : ∀ v, (v, true) ∈ L ↔ v ∈ i
  mf : ∀ v, (v, false) ∈ L ↔ v ∈ o
theorem hd_mem {r : Run} (n : r.2 ≠ []) : hdR r ∈ r.2 := by
  unfold hdR
  cases e : r.2 with
  | nil => exact absurd e n
  | cons a l => simp
theorem ls_mem {r : Run} (n : r.2 ≠ []) : lsR r ∈ r.2 := by
  unfold lsR
  rw [List.getLast?_eq_some_getLast n]
  exact List.getLast_mem n
theorem hd_le {r : Run} (pw : r.2.Pairwise fun a b => ¬ ltV b a) {x : Ver} (h : x ∈ r.2) : ¬ ltV x (hdR r) := by
  unfold hdR
  cases e : r.2 with
  | nil => rw [e] at h; cases h
  | cons a l =>
    rw [e] at h pw
    show ¬ ltV x a
    rcases List.mem_cons.mp h with rfl | h
    · exact ltV_irrefl _
    · exact (List.pairwise_cons.mp pw).1 x h
theorem le_ls {r : Run} (pw : r.2.Pairwise fun a b => ¬ ltV b a) {x : Ver} (h : x ∈ r.2) : ¬ ltV (lsR r) x := by
  unfold lsR
  have n : r.2 ≠ [] := fun z => by rw [z] at h; cases h
  obtain ⟨l, y, e⟩ : ∃ l y, r.2 = l ++ [y] := ⟨_, _, (List.dropLast_concat_getLast n).symm⟩
  rw [e] at h pw ⊢
  rw [List.getLast?_concat]
  show ¬ ltV y x
  rcases List.mem_append.mp h with h | h
  · exact (List.pairwise_append.mp pw).2.2 x h y (by simp)
  · rw [List.mem_singleton.mp h]
    exact ltV_irrefl _
section
variable {rs A B : List Run} {r t : Run} {L : List (Ver × Bool)} {i o : List Ver}
theorem flat_mem {x : Ver} (h : r ∈ rs) (hx : x ∈ r.2) : (x, r.1) ∈ flatR rs := List.mem_flatMap.mpr ⟨r, h, List.mem_map.mpr ⟨x, hx, rfl⟩⟩
theorem mem_flat {x : Ver} {b : Bool} (h : (x, b) ∈ flatR rs) : ∃ r ∈ rs, r.1 = b ∧ x ∈ r.2 := by
  obtain ⟨r, hr, h⟩ := List.mem_flatMap.mp h
  obtain ⟨y, hy, e⟩ := List.mem_map.mp h
  cases e
  exact ⟨r, hr, rfl, hy⟩
theorem run_pw (u : UpL (flatR rs)) (h : r ∈ rs) : r.2.Pairwise fun a b => ¬ ltV b a := by
  obtain ⟨A, B, rfl⟩ := List.append_of_mem h
  rw [flat_app, flat_cons] at u
  have z := (List.pairwise_append.mp (List.pairwise_append.mp u).2.1).1
  rw [List.pairwise_map] at z
  exact z
theorem run_lt (u : UpL (flatR (A ++ r :: B))) (h : t ∈ B) {x y : Ver} (hx : x ∈ r.2) (hy : y ∈ t.2) : ¬ ltV y x := by
  rw [flat_app, flat_cons] at u
  exact (List.pairwise_append.mp (List.pairwise_append.mp u).2.1).2.2 (x, r.1) (List.mem_map.mpr ⟨x, hx, rfl⟩) (y, t.1) (flat_mem h hy)
/-- the sides are told apart -/
abbrev Apt (i o : List Ver) : Prop := ∀ v, v ∈ i → v ∈ o → False
theorem run_in (h : IsRuns rs L) (S : Sides L i o) (m : r ∈ rs) {x : Ver} (hx : x ∈ r.2) : (r.1 = true → x ∈ i) ∧ (r.1 = false → x ∈ o) := by
  have z := flat_mem m hx
  rw [h.flat] at z
  exact ⟨fun e => (S.mt x).mp (by rw [e] at z; exact z), fun e => (S.mf x).mp (by rw [e] at z; exact z)⟩
theorem lt_next {v u : Ver} : ltV v (nextV u) ↔ ¬ ltV u v := by
  unfold ltV nextV
  simp only
  omega
theorem next_ok {v : Ver} (o : okV v) : okV (nextV v) := by
  obtain ⟨a, b, c⟩ := o
  exact ⟨a, b, by show 0 ≤ v.2.2 + 1; omega⟩
/-- behind a run of the inside, the next one begins behind its end -/
theorem run_gap (h : IsRuns rs L) (S : Sides L i o) (ap : Apt i o) (e : rs = A ++ r :: B) (hr : r.1 = true) (ht : t ∈ B) (tt : t.1 = true) : ∃ f B', B = f :: B' ∧ f.1 = false ∧ t ∈ B' ∧ ltV (lsR r) (hdR f) ∧ ltV (hdR f) (hdR t) := by
  subst e
  cases B with
  | nil => cases ht
  | cons f B' =>
    have hf : f.1 = false := by
      have z := alt_mid h.alt
      rw [hr] at z
      cases q : f.1 with
      | false => rfl
      | true => exact absurd q.symm z
    have ht' : t ∈ B' := (List.mem_cons.mp ht).elim (fun z => by rw [z, hf] at tt; cases tt) id
    have u := S.up
    rw [← h.flat] at u
    have mr : r ∈ A ++ r :: f :: B' := by simp
    have mf : f ∈ A ++ r :: f :: B' := by simp
    have mt : t ∈ A ++ r :: f :: B' := by simp [ht']
    have n1 := h.ne r mr
    have n2 := h.ne f mf
    have n3 := h.ne t mt
    have o1 := (run_in h S mr (ls_mem n1)).1 hr
    have o2 := (run_in h S mf (hd_mem n2)).2 hf
    have o3 := (run_in h S mt (hd_mem n3)).1 tt
    have l1 := run_lt u (t := f) List.mem_cons_self (ls_mem n1) (hd_mem n2)
    have u2 : UpL (flatR ((A ++ [r]) ++ f :: B')) := by
      rw [List.append_assoc]
      exact u
    have l2 := run_lt u2 ht' (hd_mem n2) (hd_mem n3)
    refine ⟨f, B', rfl, hf, ht', Classical.byContradiction fun c => ?_, Classical.byContradiction fun c => ?_⟩
    · have z := ltV_or c l1
      rw [z] at o1
      exact ap _ o1 o2
    · have z := ltV_or c l2
      rw [z] at o2
      exact ap _ o3 o2
theorem part_nf (h : IsRuns rs L) (S : Sides L i o) (ap : Apt i o) (ok : ∀ v ∈ i, okV v) : ∀ (B A : List Run), rs = A ++ B → NF (partR B)
  | [], _, _ => ⟨fun s h => (nomatch h), List.Pairwise.nil⟩
  | r :: B, A, e => by
    have ih := part_nf h S ap ok B (A ++ [r]) (by rw [e, List.append_assoc]; rfl)
    have u := S.up
    rw [← h.flat] at u
    have mr : r ∈ rs := by rw [e]; simp
    cases hr : r.1 with
    | false =>
      have z : partR (r :: B) = partR B := by simp [partR, hr]
      rw [z]
      exact ih
    | true =>
      have z : partR (r :: B) = strR r :: partR B := by simp [partR, hr]
      rw [z]
      have n := h.ne r mr
      have o1 := ok _ ((run_in h S mr (hd_mem n)).1 hr)
      have o2 := ok _ ((run_in h S mr (ls_mem n)).1 hr)
      have le := hd_le (run_pw u mr) (ls_mem n)
      refine ⟨fun s hs => ?_, List.pairwise_cons.mpr ⟨fun s hs => ?_, ih.pw⟩⟩
      · rcases List.mem_cons.mp hs with rfl | hs
        · refine ⟨o1, fun x hx => ?_⟩
          obtain rfl : nextV (lsR r) = x := Option.some.inj hx
          exact ⟨next_ok o2, lt_next.mpr le⟩
        · exact ih.ok s hs
      · obtain ⟨t, ht, rfl⟩ := List.mem_map.mp hs
        obtain ⟨ht, tt⟩ := List.mem_filter.mp ht
        obtain ⟨f, B', _, _, _, g1, g2⟩ := run_gap h S ap e hr ht tt
        refine ⟨_, rfl, ?_⟩
        have g3 : ¬ ltV (hdR f) (nextV (lsR r)) := fun z => lt_next.mp z g1
        show ltV (nextV (lsR r)) (hdR t)
        unfold ltV at *
        omega
/-- the versions between two of the inside with none of the outside between -/
def PartP (i o : List Ver) (v : Ver) : Prop := ∃ a b, a ∈ i ∧ b ∈ i ∧ leV a v ∧ leV v b ∧ ∀ u ∈ o, ¬ (leV a u ∧ leV u b)
theorem part_iff {v : Ver} : hasL (partR rs) v = true ↔ ∃ r ∈ rs, r.1 = true ∧ ¬ ltV v (hdR r) ∧ ¬ ltV (lsR r) v := by
  rw [hasL_iff]
  constructor
  · rintro ⟨s, hs, e⟩
    obtain ⟨r, hr, rfl⟩ := List.mem_map.mp hs
    obtain ⟨hr, rt⟩ := List.mem_filter.mp hr
    obtain ⟨e1, e2⟩ := hasS_iff.mp e
    exact ⟨r, hr, rt, e1, lt_next.mp (e2 _ rfl)⟩
  · rintro ⟨r, hr, rt, e1, e2⟩
    exact ⟨strR r, List.mem_map.mpr ⟨r, List.mem_filter.mpr ⟨hr, rt⟩, rfl⟩, hasS_iff.mpr ⟨e1, fun u e => by
      obtain rfl : nextV (lsR r) = u := Option.some.inj e
      exact lt_next.mpr e2⟩⟩
theorem part_has (h : IsRuns rs L) (S : Sides L i o) (ap : Apt i o) (v : Ver) : hasL (partR rs) v = true ↔ PartP i o v := by
  have u := S.up
  rw [← h.flat] at u
  rw [part_iff]
  constructor
  · rintro ⟨r, mr, hr, e1, e2⟩
    have n := h.ne r mr
    refine ⟨hdR r, lsR r, (run_in h S mr (hd_mem n)).1 hr, (run_in h S mr (ls_mem n)).1 hr, e1, e2, fun x hx ⟨h1, h2⟩ => ?_⟩
    have z := (S.mf x).mpr hx
    rw [← h.flat] at z
    obtain ⟨f, mf, hf, xf⟩ := mem_flat z
    obtain ⟨A, B, rfl⟩ := List.append_of_mem mr
    rcases List.mem_append.mp mf with m | m
    · obtain ⟨A1, A2, rfl⟩ := List.append_of_mem m
      have u2 : UpL (flatR (A1 ++ f :: (A2 ++ r :: B))) := by
        rw [List.append_assoc] at u
        exact u
      have l := run_lt u2 (t := r) (by simp) xf (hd_mem n)
      have q := ltV_or l h1
      have q1 := (run_in h S mr (hd_mem n)).1 hr
      rw [q] at q1
      exact ap _ q1 hx
    · rcases List.mem_cons.mp m with rfl | m
      · rw [hf] at hr
        cases hr
      · have l := run_lt u m (ls_mem n) xf
        have q := ltV_or l h2
        have q1 := (run_in h S mr (ls_mem n)).1 hr
        rw [← q] at q1
        exact ap _ q1 hx
  · rintro ⟨a, b, ha, hb, h1, h2, no⟩
    have za := (S.mt a).mpr ha
    have zb := (S.mt b).mpr hb
    rw [← h.flat] at za zb
    obtain ⟨r, mr, hr, ar⟩ := mem_flat za
    obtain ⟨t, mt, ht, bt⟩ := mem_flat zb
    have first : ∀ {r : Run}, r ∈ rs → a ∈ r.2 → b ∈ r.2 → r.1 = true → ∃ r ∈ rs, r.1 = true ∧ ¬ ltV v (hdR r) ∧ ¬ ltV (lsR r) v := fun {r} mr ar br hr => by
      have l1 := hd_le (run_pw u mr) ar
      have l2 := le_ls (run_pw u mr) br
      refine ⟨r, mr, hr, ?_, ?_⟩ <;> (unfold leV ltV at *; omega)
    obtain ⟨A, B, rfl⟩ := List.append_of_mem mr
    rcases List.mem_append.mp mt with m | m
    · obtain ⟨A1, A2, rfl⟩ := List.append_of_mem m
      have u2 : UpL (flatR (A1 ++ t :: (A2 ++ r :: B))) := by
        rw [List.append_assoc] at u
        exact u
      have l := run_lt u2 (t := r) (by simp) bt ar
      have q : v = a := ltV_or (fun z => by unfold leV ltV at *; omega) (fun z => by unfold leV ltV at *; omega)
      have l1 := hd_le (run_pw u mr) ar
      have l2 := le_ls (run_pw u mr) ar
      exact ⟨r, mr, hr, by rw [q]; exact l1, by rw [q]; exact l2⟩
    · rcases List.mem_cons.mp m with rfl | m
      · exact first mr ar bt hr
      · obtain ⟨f, B', rfl, hf, tB, _, _⟩ := run_gap h S ap rfl hr m ht
        have mf : f ∈ A ++ r :: f :: B' := by simp
        have n := h.ne f mf
        have k1 := run_lt u (t := f) List.mem_cons_self ar (hd_mem n)
        have u2 : UpL (flatR ((A ++ [r]) ++ f :: B')) := by
          rw [List.append_assoc]
          exact u
        have k2 := run_lt u2 tB (hd_mem n) bt
        exact absurd ⟨k1, k2⟩ (no _ ((run_in h S mf (hd_mem n)).2 hf))
end
end Kw
set_option maxHeartbeats 2000000
namespace Kw
/-! ### the law's own runs; versions sorted, each once -/
def insV (v : Ver) : List Ver → List Ver
  | [] => [v]
  | u :: l => if ltV v u then v :: u :: l else if v = u then u :: l else u :: insV v l
def srtV (l : List Ver) : List Ver := l.foldr insV []
theorem ins_mem {v x : Ver} : ∀ {l : List Ver}, x ∈ insV v l ↔ x = v ∨ x ∈ l
  | [] => by simp [insV]
  | u :: l => by
    unfold insV
    split
    · simp
    · split
      · rename_i e
        rw [e]
        simp
      · rw [List.mem_cons, ins_mem (l := l), List.mem_cons]
        constructor
        · rintro (h | h | h)
          · exact .inr (.inl h)
          · exact .inl h
          · exact .inr (.inr h)
        · rintro (h | h | h)
          · exact .inr (.inl h)
          · exact .inl h
          · exact .inr (.inr h)
theorem ins_pw {v : Ver} : ∀ {l : List Ver}, l.Pairwise ltV → (insV v l).Pairwise ltV
  | [], _ => by simp [insV]
  | u :: l, h => by
    obtain ⟨h1, h2⟩ := List.pairwise_cons.mp h
    unfold insV
    split
    · rename_i c
      refine List.pairwise_cons.mpr ⟨fun x hx => ?_, h⟩
      rcases List.mem_cons.mp hx with rfl | hx
      · exact c
      · exact ltV_trans c (h1 x hx)
    · rename_i c
      split
      · exact h
      · rename_i n
        refine List.pairwise_cons.mpr ⟨fun x hx => ?_, ins_pw h2⟩
        rcases ins_mem.mp hx with rfl | hx
        · exact Classical.byContradiction fun z => n (ltV_or c z)
        · exact h1 x hx
theorem srt_mem {x : Ver} : ∀ {l : List Ver}, x ∈ srtV l ↔ x ∈ l
  | [] => by simp [srtV]
  | u :: l => by
    show x ∈ insV u (srtV l) ↔ _
    rw [ins_mem, srt_mem (l := l), List.mem_cons]
theorem srt_pw : ∀ l : List Ver, (srtV l).Pairwise ltV
  | [] => .nil
  | u :: l => ins_pw (srt_pw l)
/-- two strictly ascending lists of the same versions are equal -/
theorem asc_one : ∀ {l m : List Ver}, l.Pairwise ltV → m.Pairwise ltV → (∀ v, v ∈ l ↔ v ∈ m) → l = m
  | [], [], _, _, _ => rfl
  | [], u :: m, _, _, h => absurd ((h u).mpr List.mem_cons_self) (by simp)
  | v :: l, [], _, _, h => absurd ((h v).mp List.mem_cons_self) (by simp)
  | v :: l, u :: m, p, q, h => by
    obtain ⟨p1, p2⟩ := List.pairwise_cons.mp p
    obtain ⟨q1, q2⟩ := List.pairwise_cons.mp q
    have e : v = u := ltV_or (fun z => by
      rcases List.mem_cons.mp ((h v).mp List.mem_cons_self) with e | e
      · rw [e] at z
        exact ltV_irrefl _ z
      · exact lt_asym z (q1 v e)) fun z => by
      rcases List.mem_cons.mp ((h u).mpr List.mem_cons_self) with e | e
      · rw [e] at z
        exact ltV_irrefl _ z
      · exact lt_asym z (p1 u e)
    subst e
    rw [asc_one p2 q2 fun x => ?_]
    constructor
    · intro hx
      rcases List.mem_cons.mp ((h x).mp (List.mem_cons_of_mem _ hx)) with e | e
      · rw [e] at hx
        exact absurd (p1 v hx) (ltV_irrefl _)
      · exact e
    · intro hx
      rcases List.mem_cons.mp ((h x).mpr (List.mem_cons_of_mem _ hx)) with e | e
      · rw [e] at hx
        exact absurd (q1 v hx) (ltV_irrefl _)
      · exact e
def lawStep (i : List Ver) (st : List Str2 × Bool) (v : Ver) : List Str2 × Bool :=
  if v ∈ i then (match st.1.getLast? with
    | some s => if st.2 = true then st.1.dropLast ++ [(s.1, some (nextV v))] else st.1 ++ [(v, some (nextV v))]
    | none => st.1 ++ [(v, some (nextV v))], true) else (st.1, false)
def lawRuns (i M : List Ver) : List Str2 := (M.foldl (lawStep i) ([], false)).1
def partN (i o : List Ver) : List Str2 := lawRuns i (srtV (i ++ o))
abbrev sideOf (i : List Ver) (v : Ver) : Ver × Bool := (v, decide (v ∈ i))
def lastB (rs : List Run) : Bool := match rs.getLast? with
  | some r => r.1
  | none => false
theorem last_snoc (rs : List Run) (r : Run) : lastB (rs ++ [r]) = r.1 := by simp [lastB]
theorem part_app (A B : List Run) : partR (A ++ B) = partR A ++ partR B := by simp [partR]
theorem part_one {r : Run} (h : r.1 = true) : partR [r] = [strR r] := by simp [partR, h]
theorem part_none {r : Run} (h : r.1 = false) : partR [r] = [] := by simp [partR, h]
theorem law_step {i : List Ver} {rs : List Run} {L : List (Ver × Bool)} (h : IsRuns rs L) (v : Ver) : lawStep i (partR rs, lastB rs) v = (partR (runStep rs (sideOf i v)), lastB (runStep rs (sideOf i v))) := by
  unfold lawStep
  by_cases m : v ∈ i
  · have d : sideOf i v = (v, true) := Prod.ext rfl (decide_eq_true m)
    rw [if_pos m, d]
    unfold runStep
    dsimp only
    cases e : rs.getLast? with
    | none =>
      obtain rfl : rs = [] := List.getLast?_eq_none_iff.mp e
      rfl
    | some r =>
      obtain ⟨A, rfl⟩ := List.getLast?_eq_some_iff.mp e
      dsimp only
      rw [last_snoc]
      by_cases c : r.1 = true
      · rw [if_pos c, part_app, part_one c, List.getLast?_concat]
        dsimp only
        rw [if_pos c, List.dropLast_concat, List.dropLast_concat, part_app, part_one (by exact c), last_snoc]
        refine Prod.ext ?_ c.symm
        have n := h.ne r (by simp)
        show partR A ++ [(hdR r, some (nextV v))] = partR A ++ [strR (r.1, r.2 ++ [v])]
        congr 2
        unfold strR hdR lsR
        obtain ⟨b, l⟩ := r
        cases l with
        | nil => exact absurd rfl n
        | cons a l =>
          show ((a, some (nextV v)) : Str2) = (a, some (nextV (((a :: l) ++ [v]).getLast?.getD v000)))
          rw [List.getLast?_concat]
          rfl
      · rw [if_neg c, part_app (A ++ [r]), part_app, part_one (r := (true, [v])) rfl, last_snoc]
        have c' : r.1 = false := by simpa using c
        have z : ∀ x : List Str2, (match x.getLast? with
          | some s => if r.1 = true then x.dropLast ++ [(s.1, some (nextV v))] else x ++ [(v, some (nextV v))]
          | none => x ++ [(v, some (nextV v))]) = x ++ [(v, some (nextV v))] := fun x => by
          cases x.getLast? with
          | none => rfl
          | some s => exact if_neg c
        rw [z]
        rfl
  · have d : sideOf i v = (v, false) := Prod.ext rfl (decide_eq_false m)
    rw [if_neg m, d]
    unfold runStep
    dsimp only
    cases e : rs.getLast? with
    | none =>
      obtain rfl : rs = [] := List.getLast?_eq_none_iff.mp e
      rfl
    | some r =>
      obtain ⟨A, rfl⟩ := List.getLast?_eq_some_iff.mp e
      dsimp only
      by_cases c : r.1 = false
      · rw [if_pos c, List.dropLast_concat, part_app, part_app, part_none c, part_none (by exact c), last_snoc]
        exact Prod.ext rfl c.symm
      · rw [if_neg c, part_app (A ++ [r]), part_app, part_none (r := (false, [v])) rfl, last_snoc, List.append_nil]
theorem law_fold {i : List Ver} : ∀ (M : List Ver) {rs : List Run} {L : List (Ver × Bool)}, IsRuns rs L → M.foldl (lawStep i) (partR rs, lastB rs) = (partR ((M.map (sideOf i)).foldl runStep rs), lastB ((M.map (sideOf i)).foldl runStep rs))
  | [], _, _, _ => rfl
  | v :: M, rs, L, h => by
    rw [List.foldl_cons, law_step h v]
    exact law_fold M (runs_step h _)
theorem law_runs (i M : List Ver) : lawRuns i M = partR (runsL (M.map (sideOf i))) := by
  have z := law_fold (i := i) M (rs := []) (L := []) ⟨rfl, fun r h => (nomatch h), trivial⟩
  exact congrArg Prod.fst z
theorem sides_of {i o M : List Ver} (ap : Apt i o) (pw : M.Pairwise ltV) (mm : ∀ v, v ∈ M ↔ v ∈ i ++ o) : Sides (M.map (sideOf i)) i o := by
  refine ⟨?_, fun v => ?_, fun v => ?_⟩
  · show (M.map (sideOf i)).Pairwise _
    rw [List.pairwise_map]
    exact pw.imp fun h => lt_asym h
  · rw [List.mem_map]
    constructor
    · rintro ⟨x, hx, e⟩
      obtain ⟨rfl, e2⟩ := Prod.mk.inj e
      exact of_decide_eq_true e2
    · intro h
      exact ⟨v, (mm v).mpr (List.mem_append_left _ h), Prod.ext rfl (decide_eq_true h)⟩
  · rw [List.mem_map]
    constructor
    · rintro ⟨x, hx, e⟩
      obtain ⟨rfl, e2⟩ := Prod.mk.inj e
      exact (List.mem_append.mp ((mm x).mp hx)).resolve_left (of_decide_eq_false e2)
    · intro h
      exact ⟨v, (mm v).mpr (List.mem_append_right _ h), Prod.ext rfl (decide_eq_false fun z => ap v z h)⟩
section
variable {i o : List Ver}
theorem partN_runs (ap : Apt i o) : ∃ L, Sides L i o ∧ partN i o = partR (runsL L) := ⟨_, sides_of ap (srt_pw _) fun v => srt_mem, law_runs _ _⟩
theorem partN_nf (ap : Apt i o) (ok : ∀ v ∈ i, okV v) : NF (partN i o) := by
  obtain ⟨L, S, e⟩ := partN_runs ap
  rw [e]
  exact part_nf (runs_is L) S ap ok _ [] rfl
theorem partN_has (ap : Apt i o) (v : Ver) : hasL (partN i o) v = true ↔ PartP i o v := by
  obtain ⟨L, S, e⟩ := partN_runs ap
  rw [e]
  exact part_has (runs_is L) S ap v
/-- however the versions of both sides are sorted -/
theorem part_one_way {L : List (Ver × Bool)} (S : Sides L i o) (ap : Apt i o) (ok : ∀ v ∈ i, okV v) : partR (runsL L) = partN i o := by
  refine NF.unique (part_nf (runs_is L) S ap ok _ [] rfl) (partN_nf ap ok) fun v _ => ?_
  exact Bool.eq_iff_iff.mpr ((part_has (runs_is L) S ap v).trans (partN_has ap v).symm)
theorem law_one_way {M : List Ver} (ap : Apt i o) (pw : M.Pairwise ltV) (mm : ∀ v, v ∈ M ↔ v ∈ i ++ o) : lawRuns i M = partN i o := by
  unfold partN
  rw [asc_one pw (srt_pw _) fun v => (mm v).trans srt_mem.symm]
theorem partN_in (ap : Apt i o) {v : Ver} (h : v ∈ i) : hasL (partN i o) v = true := (partN_has ap v).mpr ⟨v, v, h, h, ltV_irrefl v, ltV_irrefl v, fun u hu ⟨h1, h2⟩ => by
  have e : u = v := ltV_or h1 h2
  rw [e] at hu
  exact ap v h hu⟩
theorem partN_out (ap : Apt i o) {v : Ver} (h : v ∈ o) : hasL (partN i o) v = false := by
  rw [Bool.eq_false_iff, ne_eq, partN_has ap v]
  rintro ⟨a, b, _, _, h1, h2, no⟩
  exact no v h ⟨h1, h2⟩
theorem apt_comm (ap : Apt i o) : Apt o i := fun v a b => ap v b a
/-- no more stretches than versions of the inside -/
theorem part_len : ∀ rs : List Run, (∀ r ∈ rs, r.2 ≠ []) → (partR rs).length ≤ ((flatR rs).filter fun p => p.2).length
  | [], _ => Nat.le_refl _
  | r :: rs, h => by
    have ih := part_len rs fun t ht => h t (List.mem_cons_of_mem _ ht)
    have n := h r List.mem_cons_self
    rw [flat_cons, List.filter_append, List.length_append, show r :: rs = [r] ++ rs from rfl, part_app, List.length_append]
    cases hr : r.1 with
    | false =>
      rw [part_none hr]
      show 0 + _ ≤ _
      omega
    | true =>
      rw [part_one hr]
      have z : 1 ≤ ((r.2.map fun v => (v, true)).filter fun p => p.2).length := by
        cases e : r.2 with
        | nil => exact absurd e n
        | cons a l => simp
      show 1 + _ ≤ _
      omega
theorem partN_len {L : List (Ver × Bool)} (S : Sides L i o) (ap : Apt i o) (ok : ∀ v ∈ i, okV v) (pm : L.Perm (i.map (fun v => (v, true)) ++ o.map fun v => (v, false))) : (partN i o).length ≤ i.length := by
  rw [← part_one_way S ap ok]
  refine Nat.le_trans (part_len _ (runs_is L).ne) ?_
  rw [(runs_is L).flat, (pm.filter _).length_eq, List.filter_append, List.length_append]
  have e1 : ((o.map fun v => (v, false)).filter fun p => p.2) = [] := by
    rw [List.filter_eq_nil_iff]
    intro p hp
    obtain ⟨v, _, rfl⟩ := List.mem_map.mp hp
    simp
  rw [e1]
  refine Nat.le_trans (Nat.add_le_add_right (List.length_filter_le _ _) _) ?_
  simp
end
end Kw
set_option maxHeartbeats 2000000
namespace Kw
/-! ### tuples by turns -/
def minL : List Ver → Ver
  | [] => v000
  | v :: l => l.foldl (fun m u => if ltV u m then u else m) v
theorem min_fold : ∀ (l : List Ver) (m : Ver), (l.foldl (fun m u => if ltV u m then u else m) m = m ∨ l.foldl (fun m u => if ltV u m then u else m) m ∈ l) ∧ ¬ ltV m (l.foldl (fun m u => if ltV u m then u else m) m) ∧ ∀ u ∈ l, ¬ ltV u (l.foldl (fun m u => if ltV u m then u else m) m)
  | [], m => ⟨.inl rfl, ltV_irrefl m, fun u h => nomatch h⟩
  | x :: l, m => by
    rw [List.foldl_cons]
    obtain ⟨h1, h2, h3⟩ := min_fold l (if ltV x m then x else m)
    generalize hz : l.foldl (fun m u => if ltV u m then u else m) (if ltV x m then x else m) = z at h1 h2 h3
    by_cases c : ltV x m
    · rw [if_pos c] at h1 h2
      refine ⟨.inr ?_, fun y => ?_, fun u hu => ?_⟩
      · rcases h1 with h1 | h1
        · rw [h1]
          exact List.mem_cons_self
        · exact List.mem_cons_of_mem _ h1
      · unfold ltV at *
        omega
      · rcases List.mem_cons.mp hu with rfl | hu
        · exact h2
        · exact h3 u hu
    · rw [if_neg c] at h1 h2
      refine ⟨h1.imp id (List.mem_cons_of_mem _), h2, fun u hu => ?_⟩
      rcases List.mem_cons.mp hu with rfl | hu
      · unfold ltV at *
        omega
      · exact h3 u hu
theorem min_is {l : List Ver} {x : Ver} (h : x ∈ l) (m : ∀ u ∈ l, ¬ ltV u x) : minL l = x := by
  cases l with
  | nil => cases h
  | cons a l =>
    obtain ⟨h1, h2, h3⟩ := min_fold l a
    show l.foldl _ a = x
    generalize hz : l.foldl (fun m u => if ltV u m then u else m) a = z at h1 h2 h3
    have mz : z ∈ a :: l := h1.elim (fun q => by rw [q]; exact List.mem_cons_self) (List.mem_cons_of_mem _)
    refine ltV_or (m z mz) ?_
    rcases List.mem_cons.mp h with rfl | h
    · exact h2
    · exact h3 x h
abbrev betwB (x y v : Ver) : Bool := decide (ltV x v) && decide (ltV v y)
def turnStep (o : List Ver) (f : List Ver) (s : Str2) : List Ver := match f.getLast? with
  | some x => f ++ [minL (o.filter (betwB x s.1))] ++ [s.1]
  | none => f ++ [s.1]
def turnsV (n : List Str2) (o : List Ver) : List Ver := n.foldl (turnStep o) []
theorem turns_fold (o : List Ver) : ∀ (n : List Str2) (f : List Ver), f ≠ [] → (n.foldl (turnStep o) f).length = f.length + 2 * n.length
  | [], f, _ => rfl
  | s :: n, f, h => by
    rw [List.foldl_cons]
    have e : turnStep o f s = f ++ [minL (o.filter (betwB (f.getLast h) s.1))] ++ [s.1] := by
      unfold turnStep
      rw [List.getLast?_eq_some_getLast h]
    rw [turns_fold o n _ (by rw [e]; simp), e]
    simp only [List.length_append, List.length_cons, List.length_nil]
    omega
theorem turns_len (n : List Str2) (o : List Ver) : (turnsV n o).length = 2 * n.length - 1 := by
  cases n with
  | nil => rfl
  | cons s n =>
    show (n.foldl (turnStep o) [s.1]).length = _
    rw [turns_fold o n _ (by simp)]
    simp only [List.length_cons, List.length_nil]
    omega
/-- behind a run of the inside -/
def alt2 : List Run → List Ver
  | f :: r :: l => hdR f :: hdR r :: alt2 l
  | _ => []
def idxR : Nat → List Run → List Nat
  | _, [] => []
  | k, r :: l => if r.1 = true then k :: idxR (k + 1) l else idxR (k + 1) l
/-- the firsts of the runs from the first one of the inside to the last one -/
def altL (rs : List Run) : List Ver := match (idxR 0 rs).head?, (idxR 0 rs).getLast? with
  | some a, some b => ((rs.take (b + 1)).drop a).map hdR
  | _, _ => []
theorem idx_last : ∀ (l : List Run) (k : Nat) (r : Run), AltR (r :: l) → r.1 = true → ∃ b, (idxR k (r :: l)).getLast? = some (k + b) ∧ ((r :: l).take (b + 1)).map hdR = hdR r :: alt2 l
  | [], k, r, _, hr => ⟨0, by simp [idxR, hr], rfl⟩
  | [f], k, r, h, hr => by
    have hf : f.1 = false := by
      have z := h.1
      rw [hr] at z
      cases q : f.1 with
      | false => rfl
      | true => exact absurd q.symm z
    exact ⟨0, by simp [idxR, hr, hf], rfl⟩
  | f :: t :: l, k, r, h, hr => by
    have hf : f.1 = false := by
      have z := h.1
      rw [hr] at z
      cases q : f.1 with
      | false => rfl
      | true => exact absurd q.symm z
    have ht : t.1 = true := by
      have z := h.2.1
      rw [hf] at z
      cases q : t.1 with
      | true => rfl
      | false => exact absurd q.symm z
    obtain ⟨b, h1, h2⟩ := idx_last l (k + 2) t h.2.2 ht
    refine ⟨b + 2, ?_, ?_⟩
    · have e : idxR k (r :: f :: t :: l) = k :: idxR (k + 2) (t :: l) := by
        show (if r.1 = true then k :: (if f.1 = true then _ else idxR (k + 1 + 1) (t :: l)) else _) = _
        rw [if_pos hr, hf]
        rfl
      rw [e]
      have n : idxR (k + 2) (t :: l) ≠ [] := fun z => by rw [z] at h1; cases h1
      rw [List.getLast?_cons, h1]
      show some (k + 2 + b) = some (k + (b + 2))
      congr 1
      omega
    · show hdR r :: hdR f :: ((t :: l).take (b + 1)).map hdR = hdR r :: hdR f :: hdR t :: alt2 l
      rw [h2]
section
variable {rs A B : List Run} {r t : Run} {L : List (Ver × Bool)} {i o : List Ver}
theorem alt_false {r f : Run} (n : r.1 ≠ f.1) (hr : r.1 = true) : f.1 = false := by
  rw [hr] at n
  cases q : f.1 with
  | false => rfl
  | true => exact absurd q.symm n
theorem alt_true {r f : Run} (n : r.1 ≠ f.1) (hr : r.1 = false) : f.1 = true := by
  rw [hr] at n
  cases q : f.1 with
  | true => rfl
  | false => exact absurd q.symm n
theorem turns_two (h : IsRuns rs L) (S : Sides L i o) (ap : Apt i o) : ∀ (l A : List Run) (r : Run) (acc : List Ver), rs = A ++ r :: l → r.1 = true → (partR l).foldl (turnStep o) (acc ++ [hdR r]) = acc ++ [hdR r] ++ alt2 l
  | [], A, r, acc, _, _ => by simp [partR, alt2]
  | [f], A, r, acc, e, hr => by
    have n := h.alt
    rw [e] at n
    rw [part_none (alt_false (alt_mid n) hr)]
    simp [alt2]
  | f :: t :: l, A, r, acc, e, hr => by
    have n := h.alt
    rw [e] at n
    have hf := alt_false (alt_mid n) hr
    have n2 : AltR ((A ++ [r]) ++ f :: t :: l) := by
      rw [List.append_assoc]
      exact n
    have ht := alt_true (alt_mid n2) hf
    have mf : f ∈ rs := by rw [e]; simp
    have mr : r ∈ rs := by rw [e]; simp
    have mt : t ∈ rs := by rw [e]; simp
    have nr := h.ne r mr
    have nf := h.ne f mf
    have nt := h.ne t mt
    obtain ⟨f', B', e2, _, _, g1, g2⟩ := run_gap h S ap e hr (t := t) (by simp) ht
    obtain ⟨rfl, rfl⟩ := List.cons.inj e2
    have u := S.up
    rw [← h.flat] at u
    have below := le_ls (run_pw u mr) (hd_mem nr)
    have g0 : ltV (hdR r) (hdR f) := by unfold ltV at *; omega
    have key : minL (o.filter (betwB (hdR r) (hdR t))) = hdR f := by
      refine min_is (List.mem_filter.mpr ⟨(run_in h S mf (hd_mem nf)).2 hf, ?_⟩) fun x hx => ?_
      · show (decide _ && decide _) = true
        rw [decide_eq_true g0, decide_eq_true g2]
        rfl
      · obtain ⟨hx, b⟩ := List.mem_filter.mp hx
        have b : (decide (ltV (hdR r) x) && decide (ltV x (hdR t))) = true := b
        rw [Bool.and_eq_true, decide_eq_true_eq, decide_eq_true_eq] at b
        have z := (S.mf x).mpr hx
        rw [← h.flat] at z
        obtain ⟨w, mw, hw, xw⟩ := mem_flat z
        rw [e] at mw u
        rcases List.mem_append.mp mw with m | m
        · obtain ⟨A1, A2, rfl⟩ := List.append_of_mem m
          have u2 : UpL (flatR (A1 ++ w :: (A2 ++ r :: f :: t :: l))) := by
            rw [List.append_assoc] at u
            exact u
          exact absurd b.1 (run_lt u2 (t := r) (by simp) xw (hd_mem nr))
        · rcases List.mem_cons.mp m with rfl | m
          · rw [hr] at hw
            cases hw
          · rcases List.mem_cons.mp m with rfl | m
            · exact hd_le (run_pw (by rw [h.flat]; exact S.up) mf) xw
            · rcases List.mem_cons.mp m with rfl | m
              · rw [ht] at hw
                cases hw
              · have u3 : UpL (flatR ((A ++ [r] ++ [f]) ++ t :: l)) := by
                  rw [List.append_assoc, List.append_assoc]
                  exact u
                exact absurd b.2 (run_lt u3 m (hd_mem nt) xw)
    have z : partR (f :: t :: l) = strR t :: partR l := by
      rw [show f :: t :: l = [f] ++ ([t] ++ l) from rfl, part_app, part_app, part_none hf, part_one ht]
      rfl
    rw [z, List.foldl_cons]
    have s1 : turnStep o (acc ++ [hdR r]) (strR t) = (acc ++ [hdR r] ++ [hdR f]) ++ [hdR t] := by
      unfold turnStep
      rw [List.getLast?_concat]
      show acc ++ [hdR r] ++ [minL (o.filter (betwB (hdR r) (hdR t)))] ++ [hdR t] = _
      rw [key]
    rw [s1, turns_two h S ap l (A ++ [r] ++ [f]) t _ (by rw [e]; simp) ht]
    simp [alt2]
theorem alt_turns (h : IsRuns rs L) (S : Sides L i o) (ap : Apt i o) : altL rs = turnsV (partR rs) o := by
  cases e : rs with
  | nil => rfl
  | cons r l =>
    have n := h.alt
    rw [e] at n
    cases hr : r.1 with
    | true =>
      obtain ⟨b, h1, h2⟩ := idx_last l 0 r n hr
      have z := turns_two h S ap l [] r [] e hr
      have p : partR (r :: l) = strR r :: partR l := by
        rw [show r :: l = [r] ++ l from rfl, part_app, part_one hr]
        rfl
      rw [p]
      show altL (r :: l) = (partR l).foldl (turnStep o) [hdR r]
      rw [show [hdR r] = ([] : List Ver) ++ [hdR r] from rfl, z]
      unfold altL
      have h0 : (idxR 0 (r :: l)).head? = some 0 := by simp [idxR, hr]
      rw [h0, h1]
      show (((r :: l).take (0 + b + 1)).drop 0).map hdR = _
      rw [Nat.zero_add, List.drop_zero, h2]
      rfl
    | false =>
      cases l with
      | nil =>
        rw [part_none hr]
        simp [altL, idxR, hr, turnsV]
      | cons t l =>
        have ht := alt_true n.1 hr
        obtain ⟨b, h1, h2⟩ := idx_last l 1 t n.2 ht
        have z := turns_two h S ap l [r] t [] e ht
        have p : partR (r :: t :: l) = strR t :: partR l := by
          rw [show r :: t :: l = [r] ++ ([t] ++ l) from rfl, part_app, part_app, part_none hr, part_one ht]
          rfl
        rw [p]
        show altL (r :: t :: l) = (partR l).foldl (turnStep o) [hdR t]
        rw [show [hdR t] = ([] : List Ver) ++ [hdR t] from rfl, z]
        unfold altL
        have e0 : idxR 0 (r :: t :: l) = idxR 1 (t :: l) := by
          show (if r.1 = true then _ else idxR (0 + 1) (t :: l)) = _
          rw [hr]
          rfl
        have h0 : (idxR 1 (t :: l)).head? = some 1 := by simp [idxR, ht]
        rw [e0, h0, h1]
        show (((r :: t :: l).take (1 + b + 1)).drop 1).map hdR = _
        rw [show 1 + b + 1 = (b + 1) + 1 from by omega, List.take_succ_cons, List.drop_succ_cons, List.drop_zero, h2]
        rfl
end
section
variable {i o : List Ver}
theorem alt_main {L : List (Ver × Bool)} (S : Sides L i o) (ap : Apt i o) (ok : ∀ v ∈ i, okV v) : altL (runsL L) = turnsV (partN i o) o := by
  rw [alt_turns (runs_is L) S ap, part_one_way S ap ok]
end
/-! ### whether a tuple is one by turns -/
def okTurn (i o us : List Ver) (j : Nat) (v : Ver) : Bool := decide (v ∈ (if j % 2 = 0 then i else o))
def risB : List Ver → Bool
  | v :: u :: l => decide (ltV v u) && risB (u :: l)
  | _ => true
def inB (i o : List Ver) : Nat → List Ver → Bool
  | _, [] => true
  | j, v :: l => decide (v ∈ (if j % 2 = 0 then i else o)) && inB i o (j + 1) l
/-- what is due -/
def altB (i o us : List Ver) : Bool := decide (us = []) || (decide (us.length % 2 = 1) && (risB us && inB i o 0 us))
theorem ris_iff : ∀ us : List Ver, risB us = true ↔ ∀ j v u, us[j]? = some v → us[j + 1]? = some u → ltV v u
  | [] => by simp [risB]
  | [v] => by simp [risB]
  | v :: u :: l => by
    have ih := ris_iff (u :: l)
    show (decide (ltV v u) && risB (u :: l)) = true ↔ _
    rw [Bool.and_eq_true, decide_eq_true_eq, ih]
    constructor
    · rintro ⟨h1, h2⟩ j x y hx hy
      cases j with
      | zero =>
        obtain rfl := Option.some.inj hx
        obtain rfl := Option.some.inj hy
        exact h1
      | succ j => exact h2 j x y hx hy
    · intro h
      exact ⟨h 0 v u rfl rfl, fun j x y hx hy => h (j + 1) x y hx hy⟩
theorem in_iff (i o : List Ver) : ∀ (us : List Ver) (k : Nat), inB i o k us = true ↔ ∀ j v, us[j]? = some v → v ∈ (if (k + j) % 2 = 0 then i else o)
  | [], k => by simp [inB]
  | v :: l, k => by
    have ih := in_iff i o l (k + 1)
    unfold inB
    rw [Bool.and_eq_true, decide_eq_true_eq, ih]
    constructor
    · rintro ⟨h1, h2⟩ j x hx
      cases j with
      | zero =>
        obtain rfl := Option.some.inj hx
        exact h1
      | succ j =>
        have z := h2 j x hx
        rwa [show k + 1 + j = k + (j + 1) from by omega] at z
    · intro h
      refine ⟨h 0 v rfl, fun j x hx => ?_⟩
      rw [show k + 1 + j = k + (j + 1) from by omega]
      exact h (j + 1) x hx
end Kw
set_option maxHeartbeats 2000000
namespace Kw
open PySem PySem.Spec PyProof.Rows L2 LamX
/-! ### sorted of pairs (version, side) -/
/-- the tuple's place, the version's place, the version, the side -/
abbrev Pr := Addr × Addr × Ver × Bool
abbrev rp (qs : List Pr) : List V := qs.map fun q => V.ref q.1
abbrev pvb (q : Pr) : Ver × Bool := (q.2.2.1, q.2.2.2)
def PrOk (K : PySem.W.Frag) (H : Hp) (qs : List Pr) : Prop := ∀ q ∈ qs, SqT K H q.1 [.ref q.2.1, .bl q.2.2.2] ∧ SqT K H q.2.1 (v3 q.2.2.1) ∧ okV q.2.2.1
theorem PrOk.same {K : PySem.W.Frag} {H H' : Hp} {qs : List Pr} (h : PrOk K H qs) (s : Same H H') : PrOk K H' qs := fun q hq => ⟨Same.sqT s (h q hq).1, Same.sqT s (h q hq).2.1, (h q hq).2.2⟩
theorem PrOk.ext {K : PySem.W.Frag} {H H' : Hp} {qs : List Pr} (h : PrOk K H qs) (s : ExtN H H') : PrOk K H' qs := fun q hq => ⟨s.sqT (h q hq).1, s.sqT (h q hq).2.1, (h q hq).2.2⟩
abbrev psD (q : Pr) : PyData := .tuple [verD q.2.2.1, .bool q.2.2.2]
theorem alike_pr (q r : Pr) : PySem.W.alike (psD q) (psD r) = true := by
  show PySem.W.alike (.tuple [verD q.2.2.1, .bool q.2.2.2]) (.tuple [verD r.2.2.1, .bool r.2.2.2]) = true
  have h : PySem.W.alike (verD q.2.2.1) (verD r.2.2.1) = true := by
    unfold verD
    rw [PySem.W.alike, PySem.W.alike_ints]
  rw [PySem.W.alike, PySem.W.alikeAll, h, PySem.W.alikeAll]
  simp [PySem.W.alike, PySem.W.alikeAll]
theorem lt_verD (v u : Ver) : PySem.W.dataLt (verD v) (verD u) = decide (ltV v u) := by
  unfold verD
  rw [PySem.W.dataLt_tuple]
  have e : PyProof.Rows.lexLt itemOrd (PySem.W.keyToksAll ((vl v).map PyData.int)) (PySem.W.keyToksAll ((vl u).map PyData.int)) = PySem.W.rowLt ((vl v).map PyData.int) ((vl u).map PyData.int) := rfl
  rw [e, PySem.W.dataLt_ints]
  refine decide_eq_decide.mpr ?_
  obtain ⟨a, b, c⟩ := v
  obtain ⟨d, e, f⟩ := u
  unfold ltV
  simp only [List.cons_lt_cons_iff]
  simp
theorem lt_ps {q r : Pr} (h : ltV q.2.2.1 r.2.2.1) : PySem.W.dataLt (psD q) (psD r) = true := by
  rw [PySem.W.dataLt_pair (by unfold verD; rw [PySem.W.alike, PySem.W.alike_ints]) (by simp [PySem.W.alike])]
  have ne : ¬ PyData.eqv (verD q.2.2.1) (verD r.2.2.1) = true := fun z => by
    have e : q.2.2.1 = r.2.2.1 := of_decide_eq_true ((eqv_verD q.2.2.1 r.2.2.1).symm.trans z)
    rw [e] at h
    exact ltV_irrefl _ h
  rw [if_neg ne, lt_verD]
  exact decide_eq_true h
def rSortP (K : PySem.W.Frag) : List V → Hp → VK → Prop := fun vs H Q => ∃ (l : Addr) (qs : List Pr), vs = [.ref l] ∧ SqL K H l (rp qs) ∧ PrOk K H qs ∧ qs.length ≤ 200 ∧
  ∀ D qs', H D = none → qs'.Perm qs → UpL (qs'.map pvb) → Q (.ref D) (upd H D (.lst (rp qs')))
theorem refs_prs : ∀ {vs : List Value} {L : List Pr}, PySem.W.EachIs (fun (v : Value) (q : Pr) => v = .ref q.1) vs L → vs = L.map fun q => Value.ref q.1
  | _, _, .nil => rfl
  | _, _, .cons e t => by rw [e, refs_prs t] <;> rfl
theorem prs_refs : ∀ L : List Pr, PySem.W.EachIs (fun (v : Value) (q : Pr) => v = .ref q.1) (L.map fun q => Value.ref q.1) L
  | [] => .nil
  | q :: L => .cons rfl (prs_refs L)
theorem prs_in {R : Value → Pr → Prop} : ∀ {L : List Pr}, (∀ q ∈ L, R (.ref q.1) q) → PySem.W.EachIs R (L.map fun q => Value.ref q.1) L
  | [], _ => .nil
  | q :: L, h => .cons (h q List.mem_cons_self) (prs_in fun r hr => h r (List.mem_cons_of_mem _ hr))
theorem vals_prs : ∀ L : List Pr, Vals (rp L) (L.map fun q => Value.ref q.1)
  | [] => .nil
  | q :: L => .cons rfl (vals_prs L)
theorem prs_vals : ∀ (L : List Pr) {us : List Value}, Vals (rp L) us → us = L.map fun q => Value.ref q.1
  | [], _, .nil => rfl
  | q :: L, _, .cons a b => by rw [show _ = Value.ref q.1 from a, prs_vals L b] <;> rfl
theorem dp_pr {K : PySem.W.Frag} {H : Hp} {q : Pr} (h : SqT K H q.1 [.ref q.2.1, .bl q.2.2.2]) (g : SqT K H q.2.1 (v3 q.2.2.1)) : Dp K H (.ref q.1) (psD q) := .tup h (.cons (dp_ver ⟨_, rfl, g⟩) (.cons (.bl _) .nil))
theorem depth_pr (q : Pr) : (psD q).depth ≤ 2 := by
  have h := (cl_ver q.2.2.1).2
  simp only [PyData.depth, PyData.depthAll]
  omega
section
variable {X : Cx}
theorem cr_sortP (hu : X.A.units + 64 < cLine) : CallR X (.builtin "sorted") (rSortP X.K) := by
  intro pins s σ H vs us Q I r h
  obtain ⟨l, qs, rfl, hl, hk, few, q⟩ := h
  obtain ⟨its, rv, pl, hz⟩ := I.list hl
  rw [Vals.ref1 r]
  obtain rfl := prs_vals qs rv
  refine PySem.W.sorted_data (enc := psD) (bs := qs) pl.isList (prs_refs qs) (prs_in fun p hp => ?_) (PySem.W.AllAlike.of alike_pr) (PySem.W.Sortable.tuples fun p => ⟨_, _, rfl⟩) (by rw [sizeLine_eq]; omega) (fun p hp => ?_) fun out ho eo => ?_
  · exact Dp.reads I _ _ _ (dp_pr (hk p hp).1 (hk p hp).2.1) rfl
  · have := depth_pr p
    omega
  · obtain ⟨c, hc⟩ := PyProof.Rows.sortedAll_at s.heap (qs.map fun q => Value.ref q.1) out.toArray
    have eo2 := refs_prs eo
    generalize hL : qs.mergeSort (PySem.W.dataLe false psD) = L at eo2
    have pm : L.Perm qs := by rw [← hL]; exact List.mergeSort_perm _ _
    have up : UpL (L.map pvb) := by
      have z := PySem.W.sort_pairwise (PySem.W.sortLe_total (listOrd itemOrd) false fun b => PySem.W.keyToks (psD b)) qs
      show (L.map pvb).Pairwise _
      rw [List.pairwise_map, ← hL]
      refine List.Pairwise.imp (fun {a b} h c => ?_) z
      have h2 : (!PySem.W.dataLt (psD b) (psD a)) = true := h
      rw [lt_ps c] at h2
      cases h2
    have free := I.hok.fresh (Nat.le_succ s.heap.objs.size)
    refine ⟨.ref _, upd H (s.heap.objs.size + 1) (.lst (rp L)), I.laid (t' := s.toks) (fun _ _ => PyProof.Rows.sortedAll_old) (Nat.le_succ _) ⟨by rw [List.length_map, pm.length_eq, sizeLine_eq]; omega, out, c, by rw [eo2]; exact vals_prs L, hc⟩, rfl, q _ L free pm up⟩
end
end Kw
set_option maxHeartbeats 4000000
/-! own errors whose __init__ is: super().__init__(f'.. {x!r}'); self.x = x -/
namespace Ksv
open PySem PySem.W PySem.Calls PyProof.Rows PySem.HandSPX
abbrev sBR : Stmt := L2.inClass (Kw.top 5) 0
abbrev iP : Arguments := L2.defArgs sBR
abbrev iBody : List Stmt := L2.defBody sBR
abbrev iScope : Scope := L2.defScope sBR
/-- what the written part says of such a class, at C; its __init__ at fI, the cell of __class__ at cc, the code at cd -/
structure SupTxt (prog : Program) (K : Frag) (mg : Str → Option Value) (C fI cc cd : Addr) (qual : Str) : Prop where
  cls : ∃ nm q N bs bm sn sub ab col dd k0 k1 k2 k3 k5, K.lookup C = some (excClassObj nm q C N bs bm true sn sub ab col dd k0 k1 k2 k3 k5 "ValueError.__new__") ∧ refsVE bm = true
  sa : findIn K (.ref C) "__setattr__" = some (some (.builtin "object.__setattr__"))
  noA : findIn K (.ref C) "part" = some none
  iC : findIn K (.ref C) "__init__" = some (some (.ref fI))
  tI : typeIn K (.ref fI) = some (.type "function")
  subV : subIn K (.ref C) (.type "ValueError") = some true
  subC : mroIn K C (.ref C) = some true
  opq : nsIn K cStatics "thirdparty.any" = some none
  sup : ks_superIn K C C "__init__" = some (some (.builtin "ValueError.__init__"))
  fn : ∃ (oc : Value) (od : Option Addr) (doc pm : Value) (an : Option Addr) (ct : Value) (osl : Array (Option Value)),
    K.lookup fI = some ⟨oc, od, .func (ksFn "__init__" qual iP iBody iScope .none .none doc pm an (.ref cd) ct cc), osl⟩ ∧ codeIn K (.ref cd) qual = true
  code : ∃ ccl cdd vs ccs file tf, K.lookup cd = some ⟨ccl, cdd, .fields vs, ccs⟩ ∧ vs[2]? = some (.str file tf) ∧ ((prog.main.file : Str) == file) = true
  cell : ∃ cl cld csl, K.lookup cc = some ⟨cl, cld, .cell (some (.ref C)), csl⟩
  msup : mg "super" = none
  top : (prog.main.scope.names.lookup ("super" : Str)).isSome = false
/-- values whose repr is short -/
def Shown (v : Value) : Prop := ∃ z t, v = .str z t ∧ (reprText z).length ≤ 100
/-- what __init__ leaves of a fresh exception at x -/
structure InitEnd (h h' : Heap) (x C dx t1 : Addr) (v : Value) : Prop where
  keep : ∀ b o, b ≠ x → h.get? b = some o → h'.get? b = some o
  obj : h'.get? x = some { cls := .ref C, dict := some dx, data := .fields #[.ref t1, .none, .none, .none, .bool false, .none] }
  dbig : h.objs.size ≤ dx
  dne : dx ≠ x
  ns : h'.Ns1 dx (fun y => if y = "part" then some v else none)
section
variable {prog : Program} {w : World} {A : Around} {E : Value → Shared → Prop} {h : Heap} {g : Array GenState} {d : Drawn} {t : Nat} {os : OsState}
variable {nm q : Str} {C N : Addr} {bs bm : List Value} {hdct : Bool} {sn : List Str} {sub : List Value} {ab : Bool} {col : Option Bool} {dd : Option Addr} {k0 k1 k2 k3 k5 : Option Value}
theorem mw_call {u x t0 : Addr} {rest : List Value} {Q : Value → Shared → Prop} (hC : h.get? C = some (excClassObj nm q C N bs bm hdct sn sub ab col dd k0 k1 k2 k3 k5 "ValueError.__new__")) (he : h.get? x = some (excO C t0)) (hu : h.get? u = some (kxs_mw "ValueError.__init__" x)) (hz : rest.length ≤ sizeLine)
    (fin : ∀ h', (∀ b o, b ≠ x → h.get? b = some o → h'.get? b = some o) → h'.get? x = some (excO C h.objs.size) → Q .none ⟨h', g, d, t, os⟩) : wpAny (model prog w) A (call (.ref u) rest) Q E ⟨h, g, d, t, os⟩ := by
  have FB := F.excBase_ValueError
  refine wpAny_call (codeAny_of_tree ?_)
  show wpAny (model prog w) A.in1 (callAny (.ref u) { pos := rest, kw := [] }) _ _ _
  unfold callAny
  refine wpAny_bind (wpAny_load hu ?_)
  have e1 : (Value.type "method-wrapper" == Value.type "method" || Value.type "method-wrapper" == Value.type "builtin_function_or_method" || Value.type "method-wrapper" == Value.type "method-wrapper") = true := by decide
  simp only [kxs_mw, e1, if_true]
  refine KFB.if_so (by decide) ?_
  refine wpAny_bind (check_bound_init FB.toExcCallFacts hC he rfl (wpAny_bind (wpAny_pure (wpAny_pure ?_))))
  refine ⟨plainId_quiet FB.init.plain _, codeAny_builtin FB.initEntry (exc_init_tree (cls := .ref C) (t0 := t0) (dv := none) (c2 := .none) (c3 := .none) (b4 := .bool false) he hz fun h' k e' _ => ?_)⟩
  exact fin h' k e'
end
section
variable {prog : Program} {w : World} {A : Around} {R : Result → Shared → Prop} {s : Shared} {K : Frag} {mg : Str → Option Value} {base : Heap} {C fI cc cd : Addr} {qual : Str}
theorem sup_init (T : SupTxt prog K mg C fI cc cd qual) {x t0 : Addr} {v : Value} (X : K.In s.heap) (M : L2.Mod K mg base) (kb : ∀ b o, base.get? b = some o → s.heap.get? b = some o) (hx : s.heap.get? x = some (excO C t0)) (hnx : ∀ t, K.lookup x ≠ some (excO C t))
    (hv : Shown v) (hroom : A.depth + 3 < recursionLimit) (hq : ∀ h' tk dx t1, InitEnd s.heap h' x C dx t1 v → R (.ok (.ret .none)) { s with heap := h', toks := tk }) :
    codeAny (model prog w) A (.call (.ref fI) ⟨[.ref x, v], []⟩) R s := by
  obtain ⟨oc, od, doc, pm, an, ct, osl, ho, hcd⟩ := T.fn
  obtain ⟨nm, qq, N, bs, bm, sn, sub, ab, col, dd, k0, k1, k2, k3, k5, hC, hbm⟩ := T.cls
  obtain ⟨ccl, cdd, vs, ccs, file, tf, hcode, hvs, hfile⟩ := T.code
  obtain ⟨cl, cld, csl, hcell⟩ := T.cell
  have hcl : clsIn K C = some { name := nm, bases := bs, mro := .ref C :: bm, ns := N, qualname := qq, hasDict := true, slotNames := sn, subclasses := sub, abstract := ab, collection := col, hasDel := false } := by unfold clsIn; rw [hC] <;> rfl
  have hlim : s.heap.NoLimit := M.nolimit.keeps kb
  refine ks_codeAny_call_defAt (fd := ksFn "__init__" qual iP iBody iScope .none .none doc pm an (.ref cd) ct cc) (body := iBody) (binds := [("self", .ref x), ("part", v)]) (by omega) (X _ _ ho) rfl hlim (codeRec_of X hcd) rfl
    (BindsTo.of_eq (by first | rfl | with_unfolding_all rfl)) (by show ∀ x ∈ iScope.names, x.2 ≠ .cell; decide) (by intro y hy; simp at hy; rcases hy with rfl | rfl <;> rfl) (fun h₁ hns hk₁ => ?_) rfl rfl rfl
  have X₁ : K.In h₁ := X.keeps hk₁
  have kb₁ : ∀ b o, base.get? b = some o → h₁.get? b = some o := fun b o e => hk₁ _ _ (kb b o e)
  have hx₁ := hk₁ _ _ hx
  have hC₁ := X₁ _ _ hC
  have hns1 : (fun y => [(PySem.Str.ofString "self", Value.ref x), (PySem.Str.ofString "part", v)].reverse.lookup y) "self" = some (.ref x) := by rfl
  obtain ⟨mb, hmb, hbb⟩ := M.blt
  have rest : ∀ (h' : Heap) (tk : Nat) (t1 : Addr), (∀ b o, b ≠ x → h₁.get? b = some o → h'.get? b = some o) → h'.get? x = some (excO C t1) →
      _root_.PySem.wpAt (model prog w) (A.deeper (ksEnv qual iScope s.heap.objs.size fI (.ref cd) cc)) (.func iBody (ksEnv qual iScope s.heap.objs.size fI (.ref cd) cc)) (execs iBody.tail (ksEnv qual iScope s.heap.objs.size fI (.ref cd) cc))
        (fun f s' => R (.ok (.ret (match f with | .ret v => v | _ => .none))) s')
        (fun e s' => wpAny (model prog w) (A.deeper (ksEnv qual iScope s.heap.objs.size fI (.ref cd) cc)) (leaving (ksEnv qual iScope s.heap.objs.size fI (.ref cd) cc) e) (fun _ s'' => R (.error e) s'') (fun e' s'' => R (.error e') s'') s') { s with heap := h', toks := tk } := fun h' tk t1 k e => by
    have hxL : s.heap.objs.size ≠ x := Nat.ne_of_gt (Heap.lt_size hx)
    have hns' : h'.Ns s.heap.objs.size (fun y => [(PySem.Str.ofString "self", Value.ref x), (PySem.Str.ofString "part", v)].reverse.lookup y) := hns.at fun o q => k _ o hxL q
    have X' : K.In h' := fun a o q => k a o (fun z => by
      subst z
      have e1 := X _ _ q
      rw [hx] at e1
      have e2 : o = excO C t0 := (Option.some.inj e1).symm
      exact absurd q (by rw [e2]; exact hnx t0)) (X₁ a o q)
    refine ks_wpAt_execs_cons (wpAt_of_wpAny (plainObj_wpAny_Assign_Attribute ?_))
    refine wpAny_Name (wpAny_loadName_local rfl rfl hns' (by rfl) (wpAny_Name (wpAny_loadName_local rfl rfl hns' (by rfl) ?_) rfl)) rfl
    refine set_plain X' (ox := excO C t1) (od := none) ⟨e, rfl, rfl, trivial⟩ T.sa ?_
    refine exc_osa X' e hcl (show refsVE (.ref C :: bm) = true from hbm) rfl T.noA (fun h₃ tk₃ dx k₃ dn dne hx₃ hn₃ => ?_)
    refine wpAt_of_wpAny (wpAny_execs_nil (hq h₃ tk₃ dx t1 ⟨fun b o hb q => k₃ b o hb (k b o hb (hk₁ b o q)), hx₃, ?_, dne, hn₃⟩))
    exact Nat.le_of_lt (Nat.lt_of_lt_of_le hns'.lt dn)
  refine ks_wpAt_execs_cons (ks_wpAt_Expr_any (ks_wpAt_MethodCall (pl := ?_) ?_))
  rotate_left
  · refine ks_wpAt_super_base (env := ksEnv qual iScope s.heap.objs.size fI (.ref cd) cc) rfl rfl rfl rfl (X₁ _ _ ho) rfl rfl rfl (X₁ _ _ hcode) rfl hvs hfile T.top ?_
    refine ks_loadName_global rfl rfl (loadGlobal_builtin (env := ksEnv qual iScope s.heap.objs.size fI (.ref cd) cc) (M.glob.keeps kb₁) T.msup (hmb.keeps kb₁) ((hbb "super" (by decide)).trans (by first | rfl | kernel_rfl)) ⟨rfl, ?_⟩)
    refine wpAny_loadName_free rfl rfl rfl ⟨_, X₁ _ _ hcell, rfl⟩ ?_
    refine wpAny_loadName_local rfl rfl hns (by rfl) ?_
    refine ks_wpAny_isType_cls hC₁ rfl ⟨rfl, ?_⟩
    refine ks_wpAny_call_super hC₁ rfl hx₁ rfl (fun c e => by cases e) (looks_mroIn X₁ T.subC) (fun h₂ hso hk₂ => ?_)
    have X₂ : K.In h₂ := X₁.keeps hk₂
    have hx₂ := hk₂ _ _ hx₁
    have I : InstAt h₂ x (excO C t0) C none := ⟨hx₂, rfl, rfl, trivial⟩
    have hI : Looks (model prog w) h₂ (isInstance (.ref x) (.type "ValueError")) true := I.type.andThen (looks_subIn X₂ T.subV)
    have hsup := T.sup
    unfold ks_superIn at hsup
    rw [hcl] at hsup
    refine kxs_getMethod kxs_ValueError hso (looks_opaque X₂ T.opq) (l₀ := .ref C :: bm) (fun A Q E s k q => wpAny_bind ((looks_clsIn X₂ hcl) A _ E s k (wpAny_pure q))) rfl X₂ hsup hI (ks_ne X₂ I hcl) rfl ?_
    have hu : (h₂.push (kxs_mw "ValueError.__init__" x)).get? h₂.objs.size = some (kxs_mw "ValueError.__init__" x) := Heap.get?_push_size _ rfl
    have hk₃ : ∀ b o, h₂.get? b = some o → (h₂.push (kxs_mw "ValueError.__init__" x)).get? b = some o := fun b o e => Heap.get?_push_of_some _ e
    have N1 : News h₂ x (h₂.push (kxs_mw "ValueError.__init__" x)) [(h₂.objs.size, kxs_mw "ValueError.__init__" x)] := fun p hp => by
      obtain rfl := List.mem_singleton.mp hp
      exact ⟨hu, Nat.ne_of_gt (Heap.lt_size hx₂), Heap.get?_none_of_le (Nat.le_refl _)⟩
    refine kxs_callWith1 N1 List.mem_cons_self ?_
    refine Calls.spliced_cons (wpAny_JoinedStr (pos := ⟨16, 25, 16, 49⟩) ?_)
    have hns₃ := (hns.keeps hk₂).keeps hk₃
    refine Calls.Constant_str ⟨_, _, rfl, by decide, ?_⟩
    refine wpAny_FormattedValue_repr (wpAny_Name (wpAny_loadName_local rfl rfl hns₃ (by rfl) ?_) rfl)
    have hC₃ := (X₂.keeps hk₃) _ _ hC
    have hx₃ := hk₃ _ _ hx₂
    obtain ⟨z, tz, rfl, hz0⟩ := hv
    have hz : (reprText z).length ≤ sizeLine := by rw [sizeLine_eq]; omega
    have hz2 : ((Str.empty ++ Str.ofString "no versions: ") ++ reprText z).length ≤ sizeLine := by
      rw [Str.length_append, sizeLine_eq]
      have h2 : (Str.empty ++ Str.ofString "no versions: ").length = 13 := by decide
      omega
    refine pyReprObj_str (wpAny_formatField_str ?_ ?_ hz) hz
    · refine ⟨_, _, rfl, hz2, hz2, Calls.spliced_nil ⟨hu, mw_call hC₃ hx₃ hu (by show 1 ≤ sizeLine; decide) fun h' k e' => ?_⟩⟩
      exact rest h' _ _ (fun b o hb q => k b o hb (hk₃ _ _ (hk₂ _ _ q))) e'
    · refine ⟨_, _, rfl, hz2, hz2, Calls.spliced_nil ⟨hu, mw_call hC₃ hx₃ hu (by show 1 ≤ sizeLine; decide) fun h' k e' => ?_⟩⟩
      exact rest h' _ _ (fun b o hb q => k b o hb (hk₃ _ _ (hk₂ _ _ q))) e'
/-- a made error -/
structure OwnMade (h h' : Heap) (e C d : Addr) (v : Value) : Prop where
  keep : ∀ b o, h.get? b = some o → h'.get? b = some o
  new : h.objs.size ≤ e
  obj : ∃ oe vs, h'.get? e = some oe ∧ oe.cls = .ref C ∧ oe.dict = some d ∧ oe.data = .fields vs ∧ vs[1]? = some .none
  dbig : h.objs.size ≤ d
  dne : d ≠ e
  ns : h'.Ns1 d (fun y => if y = "part" then some v else none)
theorem sup_made (T : SupTxt prog K mg C fI cc cd qual) {v : Value} (X : K.In s.heap) (M : L2.Mod K mg base) (kb : ∀ b o, base.get? b = some o → s.heap.get? b = some o) (hv : Shown v) (hroom : A.depth + 4 < recursionLimit)
    (hq : ∀ h' tk e d, OwnMade s.heap h' e C d v → R (.ok (.ret (.ref e))) { s with heap := h', toks := tk }) : codeAny (model prog w) A (.call (.ref C) ⟨[v], []⟩) R s := by
  obtain ⟨nm, qq, N, bs, bm, sn, sub, ab, col, dd, k0, k1, k2, k3, k5, hC, hbm⟩ := T.cls
  obtain ⟨hp, g, dr, tk, os⟩ := s
  have k : ∀ b o, hp.get? b = some o → ((hp.push (kdv_tup [v])).push (excO C hp.objs.size)).get? b = some o := fun b o e => Heap.get?_push_of_some _ (Heap.get?_push_of_some _ e)
  have hget : ((hp.push (kdv_tup [v])).push (excO C hp.objs.size)).get? (hp.objs.size + 1) = some (excO C hp.objs.size) := by heap_get
  have hnx : ∀ t, K.lookup (hp.objs.size + 1) ≠ some (excO C t) := fun t e => by
    have z : hp.get? (hp.objs.size + 1) = some (excO C t) := X _ _ e
    exact absurd (Nat.lt_of_succ_lt (Heap.lt_size z)) (Nat.lt_irrefl _)
  refine call_own F.excBase_ValueError (fun X => refsVE_contains X bm hbm) (X _ _ hC) (looks_findIn X T.iC) (fun self => bind_fn X self T.tI) (by show 1 ≤ sizeLine; decide) ?_
  refine sup_init (s := ⟨(hp.push (kdv_tup [v])).push (excO C hp.objs.size), g, dr, tk, os⟩) T (X.keeps k) M (fun b o e => k b o (kb b o e)) hget hnx hv ?_ fun h' tk' dx t1 ⟨k', hx, dn, dne, hns⟩ => ?_
  · show A.depth + 1 + 3 < recursionLimit
    omega
  · have old : ∀ b o, hp.get? b = some o → h'.get? b = some o := fun b o e => k' b o (Nat.ne_of_lt (Nat.lt_succ_of_lt (Heap.lt_size e))) (k b o e)
    have z : hp.objs.size + 1 + 1 ≤ dx := by
      first
        | exact dn
        | (simpa only [Heap.size_push] using dn)
        | (have q := dn; rw [Heap.size_push, Heap.size_push] at q; exact q)
    exact ⟨rfl, hq h' tk' (hp.objs.size + 1) dx ⟨old, Nat.le_succ _, ⟨_, _, hx, rfl, rfl, rfl, rfl⟩, Nat.le_trans (Nat.le_trans (Nat.le_succ _) (Nat.le_succ _)) z, dne, hns⟩⟩
end
end Ksv
set_option maxHeartbeats 4000000
namespace Kw
open PySem PySem.Spec PyProof.Rows L2 LamX
/-! ### BadVersions(part) -/
theorem relO_part {v : V} {v' : Value} (r : RelV v v') (f : Str) : RelO (List.lookup f [(("part" : Str), v)]) (if f = "part" then some v' else none) := by
  by_cases hw : f = "part"
  · subst hw
    rw [if_pos rfl, show List.lookup ("part" : Str) [(("part" : Str), v)] = some v by simp [List.lookup]]
    exact r
  · have qw : (f == ("part" : Str)) = false := by simpa using hw
    rw [if_neg hw, show List.lookup f [(("part" : Str), v)] = none by simp [List.lookup, qw]]
    trivial
/-- a short text -/
def ShortV (v : V) : Prop := ∃ z, v = .str z ∧ (reprText z).length ≤ 100
theorem ShortV.val {v : V} {u : Value} (h : ShortV v) (r : RelV v u) : Ksv.Shown u := by
  obtain ⟨z, rfl, hz⟩ := h
  obtain ⟨t, rfl⟩ := r
  exact ⟨z, t, rfl, hz⟩
def tMkPart (C : Addr) (ta : TA) : L2.St → Hp → XK → Prop := fun σ H Q => ta σ H fun vs H1 => ∃ v, vs = [v] ∧ ShortV v ∧ ∀ d, H1 d = none → Q (.ref C) (some d) (upd H1 d (.xd [(("part" : Str), v)]))
def tRaisePart (C : Addr) (W : WX) (ta : TA) : TS := fun _ σ H => tMkPart C ta σ H fun cls d H' => W cls d σ H'
section
variable {X : Cx} {C fI cc cd : Addr} {qual : Str}
theorem pmk_part {x : Str} {a : Expr} {ta : TA} {p pos : Pos} {k : Nat} (T : Ksv.SupTxt X.prog X.K X.mg C fI cc cd qual) (gC : X.mg x = some (.ref C)) (kC : PySem.W.keepIn X.K (.ref C) = true) (rC : Raises X (.ref C)) (hr : Room k X.A) (ha : PA X [a] ta) (hg : Gl X x := by rfl)
    (hdb : (x == ("__debug__" : Str)) = false := by decide) (he : starEach (a :: []) X.env = (false, eval a X.env) :: starEach [] X.env := by rfl) (hpl : (backTo pos (starEach [] X.env)).any (·.1) = false := by rfl) :
    PMk X (.Call (.Name x p) [a] [] pos) (tMkPart C ta) := by
  intro pins s σ H Q I h
  refine wpAny_Call_Name_kw (ld_glob I hg gC ?_ hdb)
  refine PySem.W.callWith_K (h₀ := X.base) I.ok.mod.kin kC (thn (ha.run pos pins s σ H _ I h) fun us s1 hh => ?_) he hpl
  obtain ⟨vs, H1, I1, r1, v, ev, sv, q1⟩ := hh
  subst ev
  refine ⟨I1.kIn, ?_⟩
  obtain ⟨u, rfl, rv⟩ := vals1 r1
  show wpAny _ _ (call (.ref C) [u]) _ _ _
  have kb := I1.bk
  have kin := I1.kIn
  obtain ⟨hp, g, dr, tk, os⟩ := s1
  refine wpAny_call (Ksv.sup_made T kin I1.mod kb (sv.val rv) (by have := hr.dp; omega) fun h' tk' e d M => ?_)
  show MkP X pins σ Q (.ref e) ⟨h', g, dr, tk', os⟩
  obtain ⟨oe, fv, hoe, hc, hd, hdat, h1⟩ := M.obj
  obtain ⟨G', g1, g2⟩ := restrict h' fun b => decide (b ≠ e)
  have gk : ∀ b, b ≠ e → G'.get? b = h'.get? b := fun b hb => g1 b (decide_eq_true hb)
  have ge : G'.get? e = none := g2 e (by simp)
  have old : ∀ b o, hp.get? b = some o → G'.get? b = some o := fun b o q => (gk b (Nat.ne_of_lt (Nat.lt_of_lt_of_le (Heap.lt_size q) M.new))).trans (M.keep b o q)
  have ob : ObjOk X.prog X.w (upd H1 d (.xd [(("part" : Str), v)])) G' d (.xd [(("part" : Str), v)]) := ⟨_, M.ns.at (fun o q => (gk d M.dne).trans q), fun f => relO_part rv f⟩
  have J : Inv X pins σ (upd H1 d (.xd [(("part" : Str), v)])) ⟨G', g, dr, tk', os⟩ := I1.laid (t' := tk') old M.dbig ob
  refine ⟨e, oe, fv, ⟨G', g, dr, tk', os⟩, _, .ref C, some d, rfl, J, fun b o q => ?_, ge, hoe, ⟨hc, hd⟩, hdat, h1, ?_, rfl, I1.bare, rC, q1 d (I1.hok.fresh M.dbig)⟩
  · by_cases hb : b = e
    · have q' : G'.get? b = some o := q
      rw [hb, ge] at q'; cases q'
    · exact (gk b hb).symm.trans q
  · rw [upd_ne (Ne.symm M.dne)]
    exact I1.hok.fresh M.new
theorem ps_raisePart {x : Str} {a : Expr} {ta : TA} {W : WX} {p pos pos2 : Pos} {k : Nat} (hc : X.calm = true) (T : Ksv.SupTxt X.prog X.K X.mg C fI cc cd qual) (gC : X.mg x = some (.ref C)) (kC : PySem.W.keepIn X.K (.ref C) = true) (rC : Raises X (.ref C)) (hr : Room k X.A) (tk : Takes X W) (ha : PA X [a] ta) (hg : Gl X x := by rfl)
    (hdb : (x == ("__debug__" : Str)) = false := by decide) (he : starEach (a :: []) X.env = (false, eval a X.env) :: starEach [] X.env := by rfl) (hpl : (backTo pos (starEach [] X.env)).any (·.1) = false := by rfl) :
    PS X (.Raise (some (.Call (.Name x p) [a] [] pos)) none pos2) (tRaisePart C W ta) := ps_raise hc tk (pmk_part T gC kC rC hr ha hg hdb he hpl)
end
/-- BadVersions, at C -/
structure PartErr (P : Program) (K : PySem.W.Frag) (mg : Str → Option Value) (x : Str) (C : Addr) : Prop where
  ex : ∃ (fI cc cd : Addr) (qual : Str), Ksv.SupTxt P K mg C fI cc cd qual
  gC : mg x = some (.ref C)
  kC : PySem.W.keepIn K (.ref C) = true
  sub : PySem.W.subIn K (.ref C) (.type "BaseException") = some true
  ty : PySem.W.typeIn K (.ref C) = some (.type "type")
section
variable {X : Cx}
theorem ps_raiseP {x : Str} {a : Expr} {ta : TA} {W : WX} {p pos pos2 : Pos} {k : Nat} {C : Addr} (O : PartErr X.prog X.K X.mg x C) (hc : X.calm = true) (hr : Room k X.A) (tk : Takes X W) (ha : PA X [a] ta) (hg : Gl X x := by rfl)
    (hdb : (x == ("__debug__" : Str)) = false := by decide) (he : starEach (a :: []) X.env = (false, eval a X.env) :: starEach [] X.env := by rfl) (hpl : (backTo pos (starEach [] X.env)).any (·.1) = false := by rfl) :
    PS X (.Raise (some (.Call (.Name x p) [a] [] pos)) none pos2) (tRaisePart C W ta) := by
  obtain ⟨fI, cc, cd, qual, T⟩ := O.ex
  exact ps_raisePart hc T O.gC O.kC (raises_own O.sub O.ty) hr tk ha hg hdb he hpl
end
end Kw
set_option maxHeartbeats 4000000
namespace Kw
open PySem PySem.Spec PyProof.Rows L2 LamX SX
/-! ### readings for the law's turn -/
def qEmp : Hp → V → Prop := fun H x => ∃ l, x = .ref l ∧ H l = some (.lst [])
abbrev rIsX (K : PySem.W.Frag) (C : Addr) : List V → Hp → VK → Prop := fun xs H Q => ∃ (x c : V) (v : Option V) (cv : Value) (b : Bool), xs = [x, c] ∧ IsExc H x C v ∧ ClsV c cv ∧ PySem.W.kitOne K (.ref C) cv = some b ∧ Q (.bl b) H
def qX (C : Addr) : Hp → V → Prop := fun H x => IsExc H x C none
section
variable {K : PySem.W.Frag} {T : List (Addr × Str)} {σ : L2.St} {H H' : Hp} {CR CE CX CK C : Addr} {a b : TE} {xs : List V} {ss : List Str2}
def qLB (K : PySem.W.Frag) (bs : List Bool) : Hp → V → Prop := fun H' x => ∃ l, x = .ref l ∧ SqL K H' l (bs.map V.bl)
theorem ks_ext {ks : List (Addr × Ver)} (h : KsOk K H ks) (e : ExtN H H') : KsOk K H' ks := fun p hp => ⟨e.sqT (h p hp).1, (h p hp).2⟩
theorem yNeE (ha : Yd T σ H a qEmp) : Yd T σ H (tOp (rNeD K) a (tLst tNil)) (qB false) := fun H1 Q e t q => ha H1 _ e t fun H2 x e2 t2 hx => by
  obtain ⟨l, rfl, hl⟩ := hx
  refine ⟨Nat.zero_le _, fun p hp => ?_⟩
  have k := same_upd (o := .lst []) hp
  refine ⟨.list [], .list [], .lst (SqL.of (k _ _ hl)) .nil, .lst (SqL.of upd_same) .nil, shaped_nil, shaped_nil, ?_⟩
  rw [show PyData.eqv (.list []) (.list []) = true from eqv_nil []]
  exact q _ _ (e2.trans (ExtN.same k)) (t2.ext k) rfl
theorem yNone {i j : Nat} {l : Addr} {xs : List V} {te : TE} {tc : TT} (hi : σ[i]? = some (some (.ref l))) (hS : SqL K H l xs) (hw : ∀ y, wipe ((wipe σ [j]).set j y) [j] = wipe σ [j]) (h : ∀ y H', y ∈ xs → ExtN H H' → Yt T ((wipe σ [j]).set j (some y)) H' tc false) :
    Yd T σ H (tLc (iList K (tVar i)) (gName j) tc te [j]) qEmp := fun H1 Q e t q => by
  refine ⟨_, hi, l, rfl, ⟨_, e.sqL hS⟩, fun D hD => ?_⟩
  refine lc_list (K := K) (a := l) (xs := xs) (fun i H' => ExtN H1 H' ∧ Tabs T H' ∧ H' D = some (.lst [])) ⟨ExtN.same (same_upd hD), t.ext (same_upd hD), upd_same⟩ (fun i H' _ R => R.1.sqL (e.sqL hS)) ?_ ?_
  · rintro n y H2 hy ⟨e2, t2, hd⟩
    refine ⟨hw _, h y H2 (List.mem_of_getElem? hy) (e.trans e2) H2 _ (ExtN.refl _) t2 fun H3 e3 t3 => iteF ⟨e2.trans e3, t3, e3 _ _ hd fun ps z => nomatch z⟩⟩
  · rintro H2 ⟨e2, t2, hd⟩
    exact q H2 _ e2 t2 ⟨D, rfl, hd⟩
theorem yTrue : Yd T σ H (tCall (spTrue T) [] E0 tNil) (qB true) := fun H1 Q e t q => ⟨rfl, t, fun H' e' t' => q H' _ e' t' rfl⟩
theorem one_read {Pa : Hp → V → Prop} {Q : VK} (t : Tabs T H) (q : ∀ (H2 : Hp) (p : Addr) (x : V), ExtN H H2 → Tabs T H2 → H2 p = none → Pa H2 x → Q (.ref p) (upd H2 p (.lst [x]))) (ha : Yd T σ H a Pa) : tLst (tCons a tNil) σ H Q :=
  ha H _ (ExtN.refl _) t fun H2 x e2 t2 hx => ⟨by show 1 ≤ sizeLine; decide, fun p hp => q H2 p x e2 t2 hp hx⟩
theorem app_read {i : Nat} {l : Addr} {zs : List V} {te : TE} {Pa : Hp → V → Prop} {Q : VK} (hi : σ[i]? = some (some (.ref l))) (hl : H l = some (.lst zs)) (n : zs.length < 100) (t : Tabs T H) (q : ∀ (H2 : Hp) (x : V), ExtN H H2 → Tabs T H2 → H2 l = some (.lst zs) → Pa H2 x → Q .non (upd H2 l (.lst (zs ++ [x])))) (ha : Yd T σ H te Pa) :
    tBM K "list" rAppend (tVar i) (tCons te tNil) σ H Q :=
  ⟨_, hi, .inl ⟨rfl, _, SqL.of hl⟩, ha H _ (ExtN.refl _) t fun H2 x e2 t2 hx => ⟨l, zs, x, rfl, rfl, e2 _ _ hl fun ps z => (nomatch z), by rw [sizeLine_eq]; omega, q H2 x e2 t2 (e2 _ _ hl fun ps z => nomatch z) hx⟩⟩
theorem qX_ext {x : V} (e : ExtN H H') (h : qX CX H x) : qX CX H' x := by
  obtain ⟨a, d, rfl, h1, h2⟩ := h
  exact ⟨a, d, rfl, e _ _ h1 (fun ps z => exA_ne (o := .tbl ps) (fun φ y => by cases y) z), h2⟩
theorem qX_fr1 {x : V} {l : Addr} {zs : List V} (f : Fr1 l H H') (hl : H l = some (.lst zs)) (h : qX CX H x) : qX CX H' x := by
  obtain ⟨a, d, rfl, h1, h2⟩ := h
  refine ⟨a, d, rfl, f _ _ (fun z => ?_) h1, h2⟩
  rw [z, hl] at h1
  exact exA_ne (o := .lst zs) (fun φ y => by cases y) (Option.some.inj h1).symm
theorem yIsX {j : Nat} {y : V} (hj : σ[j]? = some (some y)) (kX : PySem.W.kitOne K (.ref CX) (.ref CX) = some true) (hy : qX CX H y) : Yd T σ H (tCB (rIsX K CX) (tCons (tVar j) (tCons (tC (.ref CX)) tNil))) (qB true) := fun H1 Q e t q =>
  ⟨y, hj, y, .ref CX, none, .ref CX, true, rfl, qX_ext e hy, .own _, kX, q H1 _ (ExtN.refl _) t rfl⟩
theorem ext_put {H0 : Hp} {l : Addr} {o : HO} (e : ExtN H0 H) (n : H0 l = none) : ExtN H0 (upd H l o) := fun b u z nt => by
  rw [upd_ne (ne_of_none z n)]
  exact e b u z nt
theorem yCauG {C : Addr} {tb : XK → TE} (hsub : PySem.W.exmOne K (.ref C) (.ref CK) = some true) (h : ∀ (H' : Hp) (Q : VK) (E : XK), ExtN H H' → (∀ H'', Same H' H'' → E (.ref C) none H'') → tb E σ H' Q) : Yd T σ H (tLam T (TTc K CK) tb) (qX C) := fun H1 Q e t q => by
  refine ⟨t, fun H2 e2 t2 => ?_⟩
  show tb (fun cls d H' => PySem.W.exmOne K cls (.ref CK) = some true ∧ ∀ a, H' a = none → Q (.ref a) (upd H' a (exA cls d a))) σ H2 (fun _ H' => ∃ x, (some (some V.non) : Option (Option V)) = some (some x) ∧ Q x H')
  refine h H2 _ _ (e.trans e2) fun H3 s3 => ⟨hsub, fun a ha => ?_⟩
  have s4 := same_upd (o := exA (.ref C) none a) ha
  exact q _ _ ((e2.trans (ExtN.same s3)).trans (ExtN.same s4)) ((t2.ext s3).ext s4) ⟨a, none, rfl, upd_same, rfl⟩
end
section
variable {X : Cx} {CK : Addr} {T : List (Addr × Str)} {k i j : Nat}
/-- _law_caught(lambda: x(..)) -/
theorem pe_caughtF {c PT : Addr} {x : Str} {ps : List Str} {sp : Sp} {e : Expr} {es : List Expr} {ta : TA} {params : Arguments} {scope : Scope} {p p1 p3 lpos pos : Pos} (C : CaughtD X.K X.mg CK) (D : DefX X.prog X.w X.K X.mg X.base x k ps sp) (TB : TabB X.base X.mg c PT) (hcode : X.env.code = .ref c) (hmT : (PT, X.env.qual ++ "<lambda>") ∈ T)
    (hu : ∀ p ∈ T, p.1 = PT → p.2 = X.env.qual ++ "<lambda>") (hr : Room (k + 2) X.A) (L : LamS X.env.scope scope) (hdef : defaultsOf params X.env = ([], []))
    (hbind : ∀ (q : Str) (cl : List (Str × Addr)) (pm cv ctv : Value), bindArgs (PySem.W.kla_fn "<lambda>" q params (.Call (.Name x p1) (e :: es) [] p3) scope cl pm cv ctv) ⟨[], []⟩ = pure [])
    (ha : ∀ (A : Around) (outer : List Env) (s : Shared) (H : Hp) (E : XK) (f c' : Addr), PA (lamCx X A outer s H E scope f c') (e :: es) ta)
    (hgl : ∀ (A : Around) (outer : List Env) (s : Shared) (H : Hp) (E : XK) (f c' : Addr), Gl (lamCx X A outer s H E scope f c') x) (hg : Gl X "_law_caught") (hdb : (x == ("__debug__" : Str)) = false := by decide)
    (he : ∀ env : Env, starEach (e :: es) env = (false, eval e env) :: starEach es env := by intro _; rfl) (hpl : ∀ env : Env, (backTo p3 (starEach es env)).any (·.1) = false := by intro _; rfl) :
    PE X (.Call (.Name "_law_caught" p) [.Lambda params (.Call (.Name x p1) (e :: es) [] p3) scope lpos] [] pos) (tLam T (TTc X.K CK) fun E => tCall sp [] E ta) := by
  obtain ⟨g, fd, F, hm, hk, hb⟩ := C.ex
  obtain ⟨oc, od, kV, doc, pm, an, cdv, ct, osl, rfl, lk, hcg⟩ := F.ex
  obtain ⟨f1, fd1, F1, m1, k1, b1⟩ := D.ex
  refine pe_lamcall (T := T) (c := c) (P := PT) (k := k) (a := "_law_task") hg hm hk lk hcg hb scCaught rfl (.inl rfl) (caught_gives C.gE) TB hcode hmT hu hr L hdef hbind (fun A outer s H E f c' hr2 => ?_) (by decide) (by decide) (by decide)
  have hP : Passes (L2.CX X.prog X.w) (lamCx X A outer s H E scope f c') E := pass_lam (X := X) (A := A) (outer := outer) (s := s) (H := H) (E := E) (scope := scope) (f := f) (c' := c')
  exact pe_call (X := lamCx X A outer s H E scope f c') F1 hr2 (hgl A outer s H E f c') m1 k1 b1 .nil hP (ha A outer s H E f c') hdb (he _) (hpl _)
theorem pv_lam {y : Str} {scope : Scope} {A : Around} {outer : List Env} {s : Shared} {H : Hp} {E : XK} {f c' : Addr} {p : Pos} (hN : X.N[i]? = some y) (hv : Vis scope y) (hd : (y == ("__debug__" : Str)) = false := by decide) (hcd : (y == ("__classdict__" : Str)) = false := by decide) : PE (lamCx X A outer s H E scope f c') (.Name y p) (tVar i) :=
  pe_var (X := lamCx X A outer s H E scope f c') (i := i) hN hv hd hcd
end
/-! ### calls by two names, the other way about; calls that raise nothing here -/
structure DefW (P : Program) (w : World) (K : PySem.W.Frag) (mg : Str → Option Value) (base : Heap) (x : Str) (CX : CXT) (k : Nat) (n1 n2 : Str) (sp : Sp) : Prop where
  ex : ∃ f fd, FnOk P w K mg base CX k f fd [n1, n2] sp ∧ mg x = some (.ref f) ∧ PySem.W.keepIn K (.ref f) = true ∧ ∀ (s : Shared) (u v : Value), K.In s.heap → BindsTo s fd ⟨[], [(n2, v), (n1, u)]⟩ [(n1, u), (n2, v)]
abbrev tSw (sp : Sp) (E : XK) (t2 t1 : TE) : TE := fun σ H Q => t2 σ H fun y H1 => t1 σ H1 fun x H2 => sp [x, y] H2 Q E
theorem pe_dW {X : Cx} {CX : CXT} {k : Nat} {x n1 n2 : Str} {sp : Sp} {E : XK} {e1 e2 : Expr} {t1 t2 : TE} {p pos kp1 kp2 : Pos} (D : DefW X.prog X.w X.K X.mg X.base x CX k n1 n2 sp) (hr : Room k X.A) (hx : Passes CX X E) (h2 : PE X e2 t2) (h1 : PE X e1 t1) (hg : Gl X x := by rfl) (hdb : (x == ("__debug__" : Str)) = false := by decide) :
    PE X (.Call (.Name x p) [] [⟨some n2, e2, kp2⟩, ⟨some n1, e1, kp1⟩] pos) (tSw sp E t2 t1) := by
  obtain ⟨f, fd, F, hm, hk, hb⟩ := D.ex
  refine ⟨fun pins s σ H Q I h => ?_⟩
  refine wpAny_Call_Name_kw (ld_glob I hg hm (PySem.W.callWith_KW0 (h₀ := X.base) I.ok.mod.kin hk (by rfl) (thn ((pk_cons (nm := some n2) (kpos := kp2) h2 (pk_cons (nm := some n1) (kpos := kp1) h1 pk_nil)).run pos pins s σ H (fun vs H1 => sp vs.reverse H1 Q E) I h) fun ws s2 ⟨zs, H2, I2, rz, q⟩ => ⟨I2.kIn, ?_⟩) (by rfl)) hdb)
  change sp zs.reverse H2 Q E at q
  have hl := F.len _ _ _ _ q
  rw [List.length_reverse] at hl
  obtain ⟨b, a, rfl⟩ : ∃ b a, zs = [b, a] := by
    match zs, hl with
    | [b, a], _ => exact ⟨b, a, rfl⟩
  obtain ⟨ub, ua, rfl, rb, ra⟩ := vals2 rz
  show wpAny _ _ (call (.ref f) [] [(n2, ub), (n1, ua)]) _ _ _
  refine wpAny_call (codeAny_mono (F.run X.A X.stack s2 H2 ⟨[], [(n2, ub), (n1, ua)]⟩ [ua, ub] [a, b] Q E hr I2.env0 (hb s2 ua ub I2.kIn) (.cons ra (.cons rb .nil)) q) fun r s' hq => ?_)
  cases r with
  | error er => exact hx pins σ H2 s2 er s' I2 hq
  | ok fl =>
    cases fl with
    | ret w => exact I2.after hq
    | next => exact False.elim hq
    | brk => exact False.elim hq
    | cont => exact False.elim hq
theorem pe_dP {X : Cx} {x : Str} {k : Nat} {ps : List Str} {sp : Sp} {p pos : Pos} {e : Expr} {es : List Expr} {t : TA} (D : DefX X.prog X.w X.K X.mg X.base x k ps sp) (hr : Room k X.A) (ha : PA X (e :: es) t) (hg : Gl X x := by rfl)
    (hdb : (x == ("__debug__" : Str)) = false := by decide) (he : starEach (e :: es) X.env = (false, eval e X.env) :: starEach es X.env := by rfl) (hpl : (backTo pos (starEach es X.env)).any (·.1) = false := by rfl) :
    PE X (.Call (.Name x p) (e :: es) [] pos) (tCall sp [] E0 t) := by
  obtain ⟨f, fd, F, hm, hk, hb⟩ := D.ex
  exact pe_call F hr hg hm hk hb .nil passL ha hdb he hpl
/-! ### what is sorted: a list of versions -/
def rSortV (K : PySem.W.Frag) : List V → Hp → VK → Prop := fun vs H Q => ∃ B : Int, rSortU K 3 B vs H Q
theorem cr_sortV {X : Cx} : CallR X (.builtin "sorted") (rSortV X.K) := fun pins s σ H vs us Q I r h => by
  obtain ⟨B, h⟩ := h
  exact cr_sortT (B := B) (by decide) pins s σ H vs us Q I r h
theorem perm_rf {ys zs : List V} (h : ys.Perm zs) : ∀ ks, zs = rf ks → ∃ ks', ys = rf ks' ∧ ks'.Perm ks := by
  induction h with
  | nil => exact fun ks e => ⟨[], rfl, by rw [List.map_eq_nil_iff.mp e.symm]⟩
  | cons x _ ih =>
    intro ks e
    cases ks with
    | nil => cases e
    | cons p ks =>
      obtain ⟨rfl, e2⟩ := List.cons.inj e
      obtain ⟨ks', rfl, pm⟩ := ih ks e2
      exact ⟨p :: ks', rfl, pm.cons p⟩
  | swap x y l =>
    intro ks e
    match ks, e with
    | p :: q :: r, e =>
      obtain ⟨rfl, e2⟩ := List.cons.inj e
      obtain ⟨rfl, rfl⟩ := List.cons.inj e2
      exact ⟨q :: p :: r, rfl, .swap ..⟩
  | trans _ _ ih1 ih2 =>
    intro ks e
    obtain ⟨m, rfl, p2⟩ := ih2 ks e
    obtain ⟨n, rfl, p1⟩ := ih1 m rfl
    exact ⟨n, rfl, p1.trans p2⟩
abbrev UpV (vs : List Ver) : Prop := vs.Pairwise fun a b => ¬ ltV b a
theorem sort_ks {K : PySem.W.Frag} {H : Hp} {l : Addr} {ks : List (Addr × Ver)} {Q : VK} (h : SqL K H l (rf ks)) (hk : KsOk K H ks) (few : ks.length < 64)
    (q : ∀ H2 D ks', Same H H2 → H2 D = some (.lst (rf ks')) → KsOk K H2 ks' → UpV (ks'.map (·.2)) → ks'.Perm ks → Q (.ref D) H2) : rSortV K [.ref l] H Q := by
  obtain ⟨B, hB⟩ := bd_all ks fun p hp => (hk p hp).2
  refine ⟨B, l, rf ks, rfl, h, by rw [List.length_map]; exact few, fun x hx => ?_, fun ys D pm pw hD => ?_⟩
  · obtain ⟨p, hp, rfl⟩ := List.mem_map.mp hx
    exact ⟨vl p.2, ⟨p.1, rfl, (hk p hp).1⟩, rfl, hB p hp⟩
  · obtain ⟨ks', rfl, pk⟩ := perm_rf pm ks rfl
    have k2 := same_upd (o := .lst (rf ks')) hD
    refine q _ D ks' k2 upd_same (fun p hp => ⟨Same.sqT k2 (hk p (pk.mem_iff.mp hp)).1, (hk p (pk.mem_iff.mp hp)).2⟩) ?_ pk
    show (ks'.map (·.2)).Pairwise fun a b => ¬ ltV b a
    rw [List.pairwise_map] at pw ⊢
    refine List.Pairwise.imp_of_mem (fun {p r} hp hr c z => ?_) pw
    have mp := pk.mem_iff.mp hp
    have mr := pk.mem_iff.mp hr
    have c1 := c (vl p.2) (vl r.2) ⟨p.1, rfl, (hk p mp).1⟩ ⟨r.1, rfl, (hk r mr).1⟩
    have c2 := code_ltV (hB r mr) (hB p mp) z
    omega
/-! ### readings -/
/-- a list of versions of which Ps holds -/
def qKs (K : PySem.W.Frag) (Ps : List Ver → Prop) : Hp → V → Prop := fun H x => ∃ l ks, x = .ref l ∧ H l = some (.lst (rf ks)) ∧ KsOk K H ks ∧ Ps (ks.map (·.2))
section
variable {K : PySem.W.Frag} {T : List (Addr × Str)} {σ : L2.St} {H H' : Hp} {CR CE CX CV CK : Addr} {a b : TE} {n m : List Str2}
theorem qKs_ext {Ps : List Ver → Prop} {x : V} (e : ExtN H H') (h : qKs K Ps H x) : qKs K Ps H' x :=
  let ⟨l, ks, q, h1, h2, h3⟩ := h
  ⟨l, ks, q, e _ _ h1 fun ps z => (nomatch z), ks_ext h2 e, h3⟩
theorem qKs_imp {Ps Qs : List Ver → Prop} {x : V} (i : ∀ vs, Ps vs → Qs vs) (h : qKs K Ps H x) : qKs K Qs H x :=
  let ⟨l, ks, q, h1, h2, h3⟩ := h
  ⟨l, ks, q, h1, h2, i _ h3⟩
theorem Yd.imp {P1 P2 : Hp → V → Prop} (h : Yd T σ H a P1) (i : ∀ H' x, P1 H' x → P2 H' x) : Yd T σ H a P2 := fun H1 Q e t q => h H1 Q e t fun H2 x e2 t2 hx => q H2 x e2 t2 (i H2 x hx)
theorem yB2 {c d : Bool} (ha : Yd T σ H a (qB c)) (hb : Yd T σ H b (qB d)) : Yd T σ H (tLst (tCons a (tCons b tNil))) (qLB K [c, d]) := fun H1 Q e t q =>
  ha H1 _ e t fun H2 x i2 t2 hx => hb H2 _ (e.trans i2) t2 fun H3 y i3 t3 hy => by
    obtain rfl : x = .bl c := hx
    obtain rfl : y = .bl d := hy
    refine ⟨by show 2 ≤ sizeLine; decide, fun p hp => ?_⟩
    have k := same_upd (o := .lst [.bl c, .bl d]) hp
    exact q _ _ ((i2.trans i3).trans (ExtN.same k)) (t3.ext k) ⟨p, rfl, SqL.of upd_same⟩
/-! tests of versions -/
theorem yVer {op : CmpOp} {v u : Ver} (ha : Yd T σ H a (qV K v)) (hb : Yd T σ H b (qV K u)) : Yd T σ H (tOp (rVer K op) a b) (qB (cmpV op v u)) := fun H1 Q e t q =>
  ha H1 _ e t fun H2 x i2 t2 hx => hb H2 _ (e.trans i2) t2 fun H3 y i3 t3 hy => ⟨v, u, qV_ext i3 hx, hy, q H3 _ (i2.trans i3) t3 rfl⟩
/-- [y for y in list if ..] -/
theorem yFlt {j : Nat} {ts : TE} {tc : TT} {f : Ver → Bool} {Ps : List Ver → Prop} (hs : Yd T σ H ts (qKs K Ps)) (hw : ∀ y, wipe ((wipe σ [j]).set j y) [j] = wipe σ [j]) (hj : j < (wipe σ [j]).length) (few : ∀ vs, Ps vs → vs.length < 1000)
    (h : ∀ (p : Addr × Ver) (H' : Hp), ExtN H H' → SqT K H' p.1 (v3 p.2) → okV p.2 → Yt T ((wipe σ [j]).set j (some (.ref p.1))) H' tc (f p.2)) : Yd T σ H (tLc (iList K ts) (gName j) tc (tVar j) [j]) (qKs K fun us => ∃ vs, Ps vs ∧ us = vs.filter f) := fun H1 Q e t q =>
  hs H1 _ e t fun H2 x i2 t2 hx => by
    obtain ⟨l, ks, rfl, hl, hk, ps⟩ := hx
    have lk := few _ ps
    rw [List.length_map] at lk
    refine ⟨l, rfl, ⟨_, SqL.of hl⟩, fun D hD => ?_⟩
    refine lc_list (K := K) (a := l) (xs := rf ks) (fun i H' => ExtN H2 H' ∧ Tabs T H' ∧ H' D = some (.lst (rf ((ks.take i).filter fun p => f p.2)))) ⟨ExtN.same (same_upd hD), t2.ext (same_upd hD), upd_same⟩ (fun i H' _ R => R.1.sqL (SqL.of hl)) ?_ ?_
    · rintro i y H3 hy ⟨i3, t3, hd⟩
      rw [List.getElem?_map] at hy
      obtain ⟨p, hp, rfl⟩ := Option.map_eq_some_iff.mp hy
      have mp := List.mem_of_getElem? hp
      refine ⟨hw _, h p H3 ((e.trans i2).trans i3) (i3.sqT (hk p mp).1) (hk p mp).2 H3 _ (ExtN.refl _) t3 fun H4 i4 t4 => ?_⟩
      have hd4 : H4 D = some (.lst (rf ((ks.take i).filter fun p => f p.2))) := i4 _ _ hd fun ps z => nomatch z
      cases c : f p.2 with
      | true =>
        refine iteT ⟨_, by rw [List.getElem?_set_self hj], _, hd4, ?_, ext_put (i3.trans i4) hD, Tabs.fr1 t4 Fr1.put hd4, ?_⟩
        · have z := List.length_filter_le (fun p : Addr × Ver => f p.2) (ks.take i)
          rw [List.length_take] at z
          rw [List.length_map]
          exact small1000 (by omega)
        · rw [upd_same, take_snoc hp, List.filter_append]
          simp [c]
      | false =>
        refine iteF ⟨i3.trans i4, t4, ?_⟩
        rw [hd4, take_snoc hp, List.filter_append]
        simp [c]
    · rintro H3 ⟨i3, t3, hd⟩
      rw [List.take_of_length_le (by rw [List.length_map]; exact Nat.le_refl _)] at hd
      refine q H3 _ (i2.trans i3) t3 ⟨D, _, rfl, hd, fun p hp => ?_, _, ps, ?_⟩
      · have mp := (List.mem_filter.mp hp).1
        exact ⟨i3.sqT (hk p mp).1, (hk p mp).2⟩
      · rw [List.filter_map]
        rfl
theorem dp_vers {H' : Hp} : ∀ ks : List (Addr × Ver), KsOk K H' ks → DpAll K H' (rf ks) (ks.map fun p => verD p.2)
  | [], _ => .nil
  | p :: ks, h => .cons (dp_ver ⟨p.1, rfl, (h p List.mem_cons_self).1⟩) (dp_vers ks fun q hq => h q (List.mem_cons_of_mem _ hq))
theorem cl_vers : ∀ ks : List (Addr × Ver), PyData.canLayAll0 (ks.map fun p => verD p.2) = true ∧ PyData.depthAll (ks.map fun p => verD p.2) ≤ 1
  | [] => by simp [PyData.canLayAll0, PyData.depthAll]
  | p :: ks => by
    have h1 := cl_ver p.2
    have h2 := cl_vers ks
    refine ⟨by simp [PyData.canLayAll0, h1.1, h2.1], ?_⟩
    simp only [List.map_cons, PyData.depthAll]
    omega
theorem shaped_vers (ks : List (Addr × Ver)) : SeqAt.shaped (.list (ks.map fun p => verD p.2)) = true := by
  have h := cl_vers ks
  simp only [SeqAt.shaped, PyData.canLay0, h.1, Bool.true_and]
  refine decide_eq_true ?_
  simp only [PyData.depth]
  omega
theorem eqv_vers (ks : List (Addr × Ver)) : PyData.eqv (.list (ks.map fun p => verD p.2)) (.list []) = decide (ks = []) := by
  cases ks <;> simp [PyData.eqv, PyData.eqvAll]
/-- list == [], list != [] -/
theorem yNil {g : Bool → Bool} {Ps : List Ver → Prop} {c : Bool} (r : R2) (hr : ∀ (x y : V) (H : Hp) (Q : VK) (d d' : PyData), Dp K H x d → Dp K H y d' → SeqAt.shaped d = true → SeqAt.shaped d' = true → Q (.bl (g (PyData.eqv d d'))) H → r x y H Q) (ha : Yd T σ H a (qKs K Ps)) (is : ∀ vs, Ps vs → g (decide (vs = [])) = c) :
    Yd T σ H (tOp r a (tLst tNil)) (qB c) := fun H1 Q e t q => ha H1 _ e t fun H2 x i2 t2 hx => by
  obtain ⟨l, ks, rfl, hl, hk, ps⟩ := hx
  refine ⟨Nat.zero_le _, fun p hp => ?_⟩
  have k := same_upd (o := .lst []) hp
  refine hr _ _ _ _ _ _ (.lst (SqL.of (k _ _ hl)) (dp_vers ks (hk.same k))) (.lst (SqL.of upd_same) .nil) (shaped_vers ks) shaped_nil ?_
  rw [eqv_vers]
  refine q _ _ (i2.trans (ExtN.same k)) (t2.ext k) ?_
  rw [← is _ ps]
  cases ks <;> simp
theorem yIf {tc : TT} {c : Bool} {Pv : Hp → V → Prop} (hc : Yt T σ H tc c) (ha : c = true → Yd T σ H a Pv) (hb : c = false → Yd T σ H b Pv) : Yd T σ H (tIf tc a b) Pv := fun H1 Q e t q => hc H1 _ e t fun H2 i2 t2 => by
  cases c with
  | true => exact iteT (ha rfl H2 _ (e.trans i2) t2 fun H3 x i3 t3 hx => q H3 x (i2.trans i3) t3 hx)
  | false => exact iteF (hb rfl H2 _ (e.trans i2) t2 fun H3 x i3 t3 hx => q H3 x (i2.trans i3) t3 hx)
/-- list[0] -/
theorem yHd {Ps : List Ver → Prop} {v : Ver} (ha : Yd T σ H a (qKs K Ps)) (is : ∀ vs, Ps vs → vs.head? = some v) : Yd T σ H (tOp (rIxL K) a (tC (.int 0))) (qE K (some v)) := fun H1 Q e t q => ha H1 _ e t fun H2 x i2 t2 hx => by
  obtain ⟨l, ks, rfl, hl, hk, ps⟩ := hx
  have e1 := is _ ps
  cases ks with
  | nil => cases e1
  | cons p ks =>
    obtain rfl : p.2 = v := Option.some.inj e1
    exact ⟨l, rf (p :: ks), 0, .ref p.1, rfl, rfl, SqL.of hl, atI_nat (j := 0) rfl, q H2 _ i2 t2 ⟨p.1, rfl, (hk p List.mem_cons_self).1⟩⟩
/-- list[0] if list != [] else None -/
theorem yHead {i : Nat} {x : V} {Ps : List Ver → Prop} {r : Option Ver} (hi : σ[i]? = some (some x)) (hx : qKs K Ps H x) (is : ∀ vs, Ps vs → vs.head? = r) : Yd T σ H (tIf (tTest (tOp (rNeD K) (tVar i) (tLst tNil))) (tOp (rIxL K) (tVar i) (tC (.int 0))) (tC .non)) (qE K r) := by
  have hv : Yd T σ H (tVar i) (qKs K Ps) := yv hi fun _ e => qKs_ext e hx
  have neD : ∀ (x y : V) (H : Hp) (Q : VK) (d d' : PyData), Dp K H x d → Dp K H y d' → SeqAt.shaped d = true → SeqAt.shaped d' = true → Q (.bl (not (PyData.eqv d d'))) H → rNeD K x y H Q := fun x y H Q d d' a b c e f => ⟨d, d', a, b, c, e, f⟩
  refine yIf (c := r.isSome) (tt (yNil (g := not) (Ps := Ps) (rNeD K) neD hv fun vs h => ?_)) (fun c => ?_) fun c => ?_
  · rw [← is vs h]
    cases vs <;> simp
  · obtain ⟨v, rfl⟩ := Option.isSome_iff_exists.mp c
    exact yHd hv is
  · obtain rfl : r = none := by
      cases r with
      | none => rfl
      | some v => cases c
    exact yn
end
end Kw
set_option maxHeartbeats 2000000
namespace Kw
open PySem PySem.Spec PyProof.Rows L2 LamX
/-! ### walks over what is a list or a tuple -/
def iLT (K : PySem.W.Frag) (te : TE) : TI := fun σ H R => te σ H fun x H1 => ∃ a, x = .ref a ∧ (((∃ xs, SqL K H1 a xs) ∧ R (Itl K a) H1) ∨ ((∃ xs, SqT K H1 a xs) ∧ R (Itt K a) H1))
theorem pi_lt {X : Cx} {tg l : Expr} {tl : TE} (hl : PE X l tl) : PI X tg l (iLT X.K tl) := by
  refine ⟨fun pins s σ H R I h => thn (hl.run pins s σ H _ I h) fun v s1 ⟨x, H1, I1, r1, a, e, q1⟩ => ?_⟩
  subst e
  obtain rfl : v = Value.ref a := r1
  have new1 : ∀ (b : Addr), b ∈ [s1.heap.objs.size] → FpOk X pins H1 b := fun b hb => by
    obtain rfl : b = s1.heap.objs.size := by simpa using hb
    exact I1.fpOk (Nat.le_refl _) (I1.hok.fresh (Nat.le_refl _))
  rcases q1 with ⟨⟨xs, hq⟩, q⟩ | ⟨⟨xs, hq⟩, q⟩
  · obtain ⟨its, rv, p, hz⟩ := I1.list hq
    exact wpAny_pyIter_list p.isList ⟨_, [_], _, _, H1, rfl, I1.kept (t' := s1.toks) fun b o e => Heap.get?_push_of_some _ e, turn_list a _, ⟨_, Heap.get?_push_size _ rfl, rfl, rfl⟩, new1, q⟩
  · obtain ⟨its, rv, p, hz⟩ := I1.tuple hq
    exact wpAny_pyIter_tuple (show s1.heap.IsTuple a its.toArray from p) ⟨_, [_], _, _, H1, rfl, I1.kept (t' := s1.toks) fun b o e => Heap.get?_push_of_some _ e, turn_tuple a _, ⟨_, Heap.get?_push_size _ rfl, rfl, rfl⟩, new1, q⟩
section
variable {K : PySem.W.Frag} {H H' : Hp}
theorem SqLT.same {a : Addr} {xs : List V} (h : SqLT K H a xs) (s : Same H H') : SqLT K H' a xs := h.ext (ExtN.same s)
/-- [te for g in xs], each a bool -/
theorem lcB {g : TG} {ts te : TE} {vs : List Nat} {σ : L2.St} {a : Addr} {xs : List V} {bs : List Bool} {Q : VK} (hts : ∀ R : VK, R (.ref a) H → ts σ H R) (h : SqLT K H a xs) (len : xs.length = bs.length) (few : xs.length ≤ 1000)
    (step : ∀ (i : Nat) (x : V) (b : Bool) (H' : Hp) (Q2 : VK), xs[i]? = some x → bs[i]? = some b → Same H H' → (∀ H'', Same H' H'' → Q2 (.bl b) H'') → g x (wipe σ vs) H' fun σ2 H2 => wipe σ2 vs = wipe σ vs ∧ te σ2 H2 Q2)
    (q : ∀ H' D, Same H H' → H' D = some (.lst (bs.map V.bl)) → Q (.ref D) H') : tLc (iLT K ts) g tYes te vs σ H Q := by
  refine hts _ ⟨a, rfl, ?_⟩
  have turn : ∀ (D : Addr), H D = none → ∀ (i : Nat) (x : V) (H1 : Hp), xs[i]? = some x → (Same H H1 ∧ H1 D = some (.lst ((bs.take i).map V.bl))) → g x (wipe σ vs) H1 fun σ2 H2 => wipe σ2 vs = wipe σ vs ∧ tYes σ2 H2 fun b H3 =>
      if b = true then te σ2 H3 fun y H4 => ∃ acc, H4 D = some (.lst acc) ∧ acc.length < sizeLine ∧ (Same H (upd H4 D (.lst (acc ++ [y]))) ∧ (upd H4 D (.lst (acc ++ [y]))) D = some (.lst ((bs.take (i + 1)).map V.bl))) else (Same H H3 ∧ H3 D = some (.lst ((bs.take (i + 1)).map V.bl))) := by
    rintro D hD i x H1 hx ⟨s1, h1⟩
    have il := (List.getElem?_eq_some_iff.mp hx).1
    obtain ⟨b, hb⟩ : ∃ b, bs[i]? = some b := ⟨_, List.getElem?_eq_getElem (by omega)⟩
    have key := step i x b H1 (fun y H4 => ∃ acc, H4 D = some (.lst acc) ∧ acc.length < sizeLine ∧ (Same H (upd H4 D (.lst (acc ++ [y]))) ∧ (upd H4 D (.lst (acc ++ [y]))) D = some (.lst ((bs.take (i + 1)).map V.bl)))) hx hb s1 fun H4 s4 => by
      refine ⟨_, s4 _ _ h1, by rw [List.length_map, List.length_take, sizeLine_eq]; omega, fun c o z => ?_, ?_⟩
      · rw [upd_ne (ne_of_none z hD)]
        exact s4 _ _ (s1 _ _ z)
      · rw [upd_same, take_snoc hb, List.map_append]
        rfl
    exact key
  rcases h with h | h
  · refine .inl ⟨⟨xs, h⟩, fun D hD => lc_list (K := K) (a := a) (xs := xs) (fun i H1 => Same H H1 ∧ H1 D = some (.lst ((bs.take i).map V.bl))) ⟨same_upd hD, upd_same⟩ (fun i H1 _ R => (ExtN.same R.1).sqL h) (turn D hD) ?_⟩
    rintro H1 ⟨s1, h1⟩
    rw [len, List.take_length] at h1
    exact q H1 D s1 h1
  · refine .inr ⟨⟨xs, h⟩, fun D hD => lc_tup (K := K) (a := a) (xs := xs) (fun i H1 => Same H H1 ∧ H1 D = some (.lst ((bs.take i).map V.bl))) ⟨same_upd hD, upd_same⟩ (fun i H1 _ R => Same.sqT R.1 h) (turn D hD) ?_⟩
    rintro H1 ⟨s1, h1⟩
    rw [len, List.take_length] at h1
    exact q H1 D s1 h1
theorem one_arg {r : List V → Hp → VK → Prop} {te : TE} {σ : L2.St} {Q : VK} (h : te σ H fun x H1 => r [x] H1 Q) : tCB r (tCons te tNil) σ H Q := h
/-! ### lists and tuples of versions -/
def VsAt (K : PySem.W.Frag) (H : Hp) (x : V) (vs : List Ver) : Prop := ∃ l ks, x = .ref l ∧ SqLT K H l (rf ks) ∧ KsOk K H ks ∧ ks.map (·.2) = vs
theorem VsAt.ext {x : V} {vs : List Ver} (h : VsAt K H x vs) (e : ExtN H H') : VsAt K H' x vs := let ⟨l, ks, a, b, c, d⟩ := h; ⟨l, ks, a, b.ext e, ks_ext c e, d⟩
theorem VsAt.same {x : V} {vs : List Ver} (h : VsAt K H x vs) (s : Same H H') : VsAt K H' x vs := h.ext (ExtN.same s)
theorem VsAt.ok {x : V} {vs : List Ver} (h : VsAt K H x vs) : ∀ v ∈ vs, okV v := by
  obtain ⟨l, ks, _, _, hk, rfl⟩ := h
  intro v hv
  obtain ⟨p, hp, rfl⟩ := List.mem_map.mp hv
  exact (hk p hp).2
/-- x in xs, of versions -/
def rInV (K : PySem.W.Frag) : R2 := fun x y H Q => ∃ v vs, IsVer K H x v ∧ VsAt K H y vs ∧ Q (.bl (decide (v ∈ vs))) H
def rNotInV (K : PySem.W.Frag) : R2 := fun x y H Q => ∃ v vs, IsVer K H x v ∧ VsAt K H y vs ∧ Q (.bl (!decide (v ∈ vs))) H
theorem any_vers (v : Ver) : ∀ vs : List Ver, (vs.map verD).any (fun z => PyData.eqv z (verD v)) = decide (v ∈ vs)
  | [] => rfl
  | u :: vs => by
    rw [List.map_cons, List.any_cons, any_vers v vs, show PyData.eqv (verD u) (verD v) = decide (u = v) from eqv_verD u v, Bool.eq_iff_iff, Bool.or_eq_true, decide_eq_true_eq, decide_eq_true_eq, decide_eq_true_eq, List.mem_cons]
    exact ⟨fun h => h.imp Eq.symm id, fun h => h.imp Eq.symm id⟩
theorem dp_verL : ∀ ks : List (Addr × Ver), KsOk K H ks → DpAll K H (rf ks) ((ks.map (·.2)).map verD)
  | [], _ => .nil
  | p :: ks, h => .cons (dp_ver ⟨p.1, rfl, (h p List.mem_cons_self).1⟩) (dp_verL ks fun q hq => h q (List.mem_cons_of_mem _ hq))
theorem lay_vers : ∀ vs : List Ver, PyData.canLayAll0 (vs.map verD) = true
  | [] => by simp [PyData.canLayAll0]
  | v :: vs => by simp [PyData.canLayAll0, (cl_ver v).1, lay_vers vs]
end
theorem un65 {k : Nat} {A : Around} (hr : Room k A) : A.units + 65 < cLine := by have := hr.un; omega
section
variable {X : Cx}
theorem op_inV (hu : X.A.units + 65 < cLine) : OpR X (compareOp .In) (rInV X.K) := by
  intro pins s σ H x y v u Q I rx ry h
  obtain ⟨w, vs, hw, ⟨l, ks, rfl, hl, hk, rfl⟩, q⟩ := h
  obtain ⟨as, r1⟩ := Dp.reads I _ x v (dp_ver hw) rx
  rw [← any_vers] at q
  rcases hl with hl | hl
  · obtain ⟨bs, r2⟩ := Dp.reads I (.list ((ks.map (·.2)).map verD)) _ u (.lst hl (dp_verL ks hk)) ry
    exact SeqAt.in_list_reads r2 r1 (lay_vers _) (cl_ver w).1 (room_in_shaped (shaped_ver w) hu) ⟨.bl _, H, I, rfl, q⟩
  · obtain ⟨bs, r2⟩ := Dp.reads I (.tuple ((ks.map (·.2)).map verD)) _ u (.tup hl (dp_verL ks hk)) ry
    exact SeqAt.in_tuple_reads r2 r1 (lay_vers _) (cl_ver w).1 (room_in_shaped (shaped_ver w) hu) ⟨.bl _, H, I, rfl, q⟩
theorem op_notInV (hu : X.A.units + 65 < cLine) : OpR X (compareOp .NotIn) (rNotInV X.K) := by
  intro pins s σ H x y v u Q I rx ry h
  obtain ⟨w, vs, hw, ⟨l, ks, rfl, hl, hk, rfl⟩, q⟩ := h
  obtain ⟨as, r1⟩ := Dp.reads I _ x v (dp_ver hw) rx
  rw [← any_vers] at q
  rcases hl with hl | hl
  · obtain ⟨bs, r2⟩ := Dp.reads I (.list ((ks.map (·.2)).map verD)) _ u (.lst hl (dp_verL ks hk)) ry
    exact SeqAt.notIn_list_reads r2 r1 (lay_vers _) (cl_ver w).1 (room_in_shaped (shaped_ver w) hu) ⟨.bl _, H, I, rfl, q⟩
  · obtain ⟨bs, r2⟩ := Dp.reads I (.tuple ((ks.map (·.2)).map verD)) _ u (.tup hl (dp_verL ks hk)) ry
    exact SeqAt.notIn_tuple_reads r2 r1 (lay_vers _) (cl_ver w).1 (room_in_shaped (shaped_ver w) hu) ⟨.bl _, H, I, rfl, q⟩
end
end Kw
set_option maxHeartbeats 2000000
namespace Kw
open PySem PySem.Spec PyProof.Rows L2 LamX
abbrev sIsVs : Stmt := top 29
abbrev sChkSd : Stmt := top 30
/-! ### is_versions, check_sides -/
/-- each item is a version or none -/
structure JudgedV (K : PySem.W.Frag) (H : Hp) (xs : List V) (bs : List Bool) : Prop where
  len : xs.length = bs.length
  at_ : ∀ (i : Nat) (x : V) (b : Bool), xs[i]? = some x → bs[i]? = some b → VerB K H x b
/-- whether any value is a list of at most forty versions -/
def JudV (K : PySem.W.Frag) (H : Hp) (x : V) (b : Bool) : Prop := (∃ T, NoLT H x T ∧ b = false) ∨ ∃ l xs, x = .ref l ∧ SqLT K H l xs ∧ xs.length ≤ 1000 ∧ ((40 < xs.length ∧ b = false) ∨ (xs.length ≤ 40 ∧ ∃ bs, JudgedV K H xs bs ∧ b = bs.all id))
section
variable {K : PySem.W.Frag} {H H' : Hp}
theorem NoLT.ext {x : V} {T : String} (h : NoLT H x T) (e : ExtN H H') : NoLT H' x T := by
  cases h with
  | flat f => exact .flat f
  | dct g => exact .dct (e _ _ g fun ps z => nomatch z)
theorem JudgedV.ext {xs : List V} {bs : List Bool} (h : JudgedV K H xs bs) (e : ExtN H H') : JudgedV K H' xs bs := ⟨h.len, fun i x b p q => (h.at_ i x b p q).ext e⟩
theorem JudV.ext {x : V} {b : Bool} (h : JudV K H x b) (e : ExtN H H') : JudV K H' x b := by
  rcases h with ⟨T, h, z⟩ | ⟨l, xs, z, hS, n, h⟩
  · exact .inl ⟨T, h.ext e, z⟩
  · refine .inr ⟨l, xs, z, hS.ext e, n, h.imp id ?_⟩
    rintro ⟨m, bs, j, r⟩
    exact ⟨m, bs, j.ext e, r⟩
theorem JudV.same {x : V} {b : Bool} (h : JudV K H x b) (s : Same H H') : JudV K H' x b := h.ext (ExtN.same s)
theorem judged_vers : ∀ {ks : List (Addr × Ver)}, KsOk K H ks → JudgedV K H (rf ks) (ks.map fun _ => true) := fun {ks} h => by
  refine ⟨by simp, fun i x b p q => ?_⟩
  rw [List.getElem?_map] at p q
  obtain ⟨k, hk, rfl⟩ := Option.map_eq_some_iff.mp p
  rw [hk] at q
  obtain rfl := Option.some.inj q
  have z := h k (List.mem_of_getElem? hk)
  exact .of ⟨_, rfl, z.1⟩ z.2
theorem VsAt.jud {x : V} {vs : List Ver} (h : VsAt K H x vs) (n : vs.length ≤ 40) : JudV K H x true := by
  obtain ⟨l, ks, rfl, hl, hk, rfl⟩ := h
  rw [List.length_map] at n
  refine .inr ⟨l, rf ks, rfl, hl, by rw [List.length_map]; omega, .inr ⟨by rw [List.length_map]; exact n, _, judged_vers hk, ?_⟩⟩
  rw [eq_comm, List.all_eq_true]
  intro b hb
  obtain ⟨_, _, rfl⟩ := List.mem_map.mp hb
  rfl
end
def spIsVs (K : PySem.W.Frag) : Sp := fun vs H Q _ => ∃ (x : V) (b : Bool), vs = [x] ∧ JudV K H x b ∧ ∀ H', Same H H' → Q (.bl b) H'
/-- the error BadVersions(z) leaves, from H on -/
def PAt (E : XK) (CB : Addr) (z : Str) (H : Hp) : Prop := ∀ H' d, Same H H' → H' d = some (.xd [(("part" : Str), .str z)]) → E (.ref CB) (some d) H'
theorem PAt.same {E : XK} {CB : Addr} {z : Str} {H H' : Hp} (h : PAt E CB z H) (s : Same H H') : PAt E CB z H' := fun H2 d s2 e => h H2 d (s.trans s2) e
def spChkSd (K : PySem.W.Frag) (CB : Addr) : Sp := fun vs H Q E => ∃ (x y : V), vs = [x, y] ∧ ((JudV K H x true ∧ JudV K H y true ∧ ∀ H', Same H H' → Q .non H') ∨ (JudV K H x false ∧ PAt E CB "inside" H) ∨ (JudV K H x true ∧ JudV K H y false ∧ PAt E CB "outside" H))
theorem short_in : ShortV (.str "inside") := ⟨_, rfl, by decide +kernel⟩
theorem short_out : ShortV (.str "outside") := ⟨_, rfl, by decide +kernel⟩
section
variable {P : Program} {w : World} {K : PySem.W.Frag} {mg : Str → Option Value} {base : Heap}
theorem scIsVs : FnScope ["value", "item"] ["value"] (defScope sIsVs) := ⟨rfl, rfl, rfl, by decide +kernel, rfl, by decide +kernel, by decide +kernel⟩
theorem scChkSd : FnScope ["inside", "outside"] ["inside", "outside"] (defScope sChkSd) := ⟨rfl, rfl, rfl, by decide +kernel, rfl, by decide +kernel, by decide +kernel⟩
theorem ok_isVs {f : Addr} {fd : FuncData} {k : Nat} {tM : Tok} (F : Fun K "is_versions" "is_versions" sIsVs f fd) (ml : mg "len" = none) (ma : mg "all" = none) (mM : mg "MOST_VERSIONS" = some (.int 40 tM)) (DL : Def P w K mg base "is_list" CX0 k ["value"] (spIsList K)) (DV : Def P w K mg base "is_version" CX0 k ["value"] (spVerB K)) :
    FnOk P w K mg base CX0 (k + 1) f fd ["value"] (spIsVs K) := by
  refine F.ok scIsVs (fun vs H Q E h => ?_) (fun cdv A outer s H vs Q E hr h => ?_)
  · obtain ⟨x, b, rfl, _⟩ := h
    rfl
  · obtain ⟨x, b, rfl, h, q⟩ := h
    refine' ⟨_, pss_one ?s1, ?_⟩
    case s1 => exact ps_ret (pe_and (pe_d DL hr (pa_cons (pv 0) pa_nil)) (pe_and (pe_cmpR op_le (pe_callB call_len_seq (by rfl) ml PySem.boot_len (pa_cons (pv 0) pa_nil)) (pe_glob (v := .int 40) (by rfl) mM ⟨tM, rfl⟩) (nomark _))
        (pe_one (pe_callB (cr_all rfl) (by rfl) ma (by decide +kernel) (pa_cons (pe_lc (own := [("item", 1)]) (g := gName 1) (tt := tYes) rfl scIsVs.nd (pi_lt (pv 0)) (blkOk_by (N := ["value", "item"]) (sc := defScope sIsVs) (by decide +kernel))
          (fun _ _ _ _ _ => pg_name (i := 1) scIsVs.nd rfl (Or.inl rfl)) (fun _ _ _ _ _ => pts_nil) (fun _ _ _ _ _ => pe_d DV hr (pa_cons (pv 1) pa_nil))) pa_nil)))))
    rcases h with ⟨T, h, rfl⟩ | ⟨l, xs, rfl, hS, few, h⟩
    · exact ⟨x, rfl, x, T, false, rfl, h.oth.ty, h.no, fun H1 s1 => ⟨_, rfl, iteF (q H1 s1)⟩⟩
    · obtain ⟨T, ty, ek⟩ := hS.kit
      refine ⟨_, rfl, .ref l, T, true, rfl, ty, ek, fun H1 s1 => ⟨_, rfl, iteT ?_⟩⟩
      have hS1 := hS.ext (ExtN.same s1)
      refine ⟨_, rfl, l, xs, rfl, hS1, (xs.length : Int), 40, rfl, rfl, _, rfl, ?_⟩
      rcases h with ⟨hlt, rfl⟩ | ⟨hle, bs, hj, rfl⟩
      · have e : decide ((xs.length : Int) ≤ 40) = false := decide_eq_false (by omega)
        rw [e]
        exact iteF (q H1 s1)
      · have e : decide ((xs.length : Int) ≤ 40) = true := decide_eq_true (by omega)
        rw [e]
        refine iteT ?_
        refine one_arg (lcB (a := l) (xs := xs) (bs := bs) (fun R r => ⟨_, rfl, r⟩) hS1 hj.len few (fun i y b H2 Q2 hy hb s2 q2 => ⟨rfl, ?_⟩) fun H2 D s2 hD => ⟨D, bs, rfl, SqL.of hD, q H2 (s1.trans s2)⟩)
        exact ⟨y, rfl, y, b, rfl, (hj.ext (ExtN.same (s1.trans s2))).at_ i y b hy hb, fun H3 s3 => q2 H3 s3⟩
theorem ok_chkSd {f CB : Addr} {fd : FuncData} {k : Nat} (F : Fun K "check_sides" "check_sides" sChkSd f fd) (O : PartErr P K mg "BadVersions" CB) (DV : Def P w K mg base "is_versions" CX0 k ["value"] (spIsVs K)) :
    FnOk P w K mg base (L2.CX P w) (k + 1) f fd ["inside", "outside"] (spChkSd K CB) := by
  refine F.okX scChkSd (fun vs H Q E h => ?_) (fun cdv A outer s H vs Q E hr h => ?_)
  · obtain ⟨x, y, rfl, _⟩ := h
    rfl
  · obtain ⟨x, y, rfl, h⟩ := h
    refine' ⟨_, pss_cons ?s1 (pss_one ?s2), ?_⟩
    case s1 => exact ps_if (pt_not (pt_val (pe_d DV hr (pa_cons (pv 0) pa_nil)))) (pss_one (ps_raiseP O rfl hr (takes_of rfl rfl rfl rfl) (pa_cons pe_str pa_nil))) pss_nil
    case s2 => exact ps_if (pt_not (pt_val (pe_d DV hr (pa_cons (pv 1) pa_nil)))) (pss_one (ps_raiseP O rfl hr (takes_of rfl rfl rfl rfl) (pa_cons pe_str pa_nil))) pss_nil
    rcases h with ⟨hx, hy, q⟩ | ⟨hx, q⟩ | ⟨hx, hy, q⟩
    · exact ⟨x, rfl, x, true, rfl, hx, fun H1 s1 => ⟨_, rfl, iteF ⟨y, rfl, y, true, rfl, hy.same s1, fun H2 s2 => ⟨_, rfl, iteF (q H2 (s1.trans s2))⟩⟩⟩⟩
    · exact ⟨x, rfl, x, false, rfl, hx, fun H1 s1 => ⟨_, rfl, iteT ⟨_, rfl, short_in, fun d hd => q _ d (s1.trans (same_upd hd)) upd_same⟩⟩⟩
    · exact ⟨x, rfl, x, true, rfl, hx, fun H1 s1 => ⟨_, rfl, iteF ⟨y, rfl, y, false, rfl, hy.same s1, fun H2 s2 => ⟨_, rfl, iteT ⟨_, rfl, short_out, fun d hd => q _ d ((s1.trans s2).trans (same_upd hd)) upd_same⟩⟩⟩⟩⟩
end
end Kw
set_option maxHeartbeats 4000000
namespace Kw
open PySem PySem.Spec PyProof.Rows L2 LamX
abbrev sRunsOf : Stmt := top 31
/-! ### runs_of -/
/-- x is the pair (side, list of versions) of the run r -/
def RunAt (K : PySem.W.Frag) (H : Hp) (x : V) (r : Run) : Prop := ∃ t l ks, x = .ref t ∧ SqT K H t [.bl r.1, .ref l] ∧ H l = some (.lst (rf ks)) ∧ KsOk K H ks ∧ ks.map (·.2) = r.2
def RunsAt (K : PySem.W.Frag) (H : Hp) (R : Addr) (rs : List Run) : Prop := ∃ xs, H R = some (.lst xs) ∧ xs.length = rs.length ∧ ∀ (i : Nat) x r, xs[i]? = some x → rs[i]? = some r → RunAt K H x r
theorem RunAt.ext {K : PySem.W.Frag} {H H' : Hp} {x : V} {r : Run} (h : RunAt K H x r) (e : ExtN H H') : RunAt K H' x r := let ⟨t, l, ks, a, b, c, d, f⟩ := h; ⟨t, l, ks, a, e.sqT b, e _ _ c (fun ps z => nomatch z), ks_ext d e, f⟩
/-- .. whose list is neither l nor R -/
def RunOff (K : PySem.W.Frag) (H : Hp) (l R : Addr) (x : V) (r : Run) : Prop := ∃ t l' ks, x = .ref t ∧ SqT K H t [.bl r.1, .ref l'] ∧ H l' = some (.lst (rf ks)) ∧ KsOk K H ks ∧ ks.map (·.2) = r.2 ∧ l' ≠ l ∧ l' ≠ R
theorem RunOff.at_ {K : PySem.W.Frag} {H : Hp} {l R : Addr} {x : V} {r : Run} (h : RunOff K H l R x r) : RunAt K H x r := let ⟨t, l', ks, a, b, c, d, f, _⟩ := h; ⟨t, l', ks, a, b, c, d, f⟩
theorem ks_fr1 {K : PySem.W.Frag} {H H' : Hp} {l : Addr} {ys : List V} {ks : List (Addr × Ver)} (h : KsOk K H ks) (e : Fr1 l H H') (hl : H l = some (.lst ys)) : KsOk K H' ks := fun p hp => ⟨e.sqT hl (h p hp).1, (h p hp).2⟩
/-- one list is written, the one that is left out -/
theorem RunOff.fr1 {K : PySem.W.Frag} {H H' : Hp} {l R m : Addr} {ys : List V} {x : V} {r : Run} (h : RunOff K H l R x r) (hm : m = l ∨ m = R) (e : Fr1 m H H') (hl : H m = some (.lst ys)) : RunOff K H' l R x r := by
  obtain ⟨t, l', ks, a, b, c, d, f, n1, n2⟩ := h
  refine ⟨t, l', ks, a, e.sqT hl b, e _ _ (fun z => ?_) c, ks_fr1 d e hl, f, n1, n2⟩
  rcases hm with rfl | rfl
  · exact n1 z
  · exact n2 z
/-- what is told of the runs while they are put together at R; S the sorted list -/
structure RI (K : PySem.W.Frag) (H0 H : Hp) (R S : Addr) (rs : List Run) : Prop where
  same : Same H0 H
  ex : (rs = [] ∧ H R = some (.lst [])) ∨ ∃ A r xs t l ks, rs = A ++ [r] ∧ H R = some (.lst (xs ++ [.ref t])) ∧ xs.length = A.length ∧ (∀ (i : Nat) x s, xs[i]? = some x → A[i]? = some s → RunOff K H l R x s) ∧
    SqT K H t [.bl r.1, .ref l] ∧ H l = some (.lst (rf ks)) ∧ KsOk K H ks ∧ ks.map (·.2) = r.2 ∧ l ≠ R ∧ l ≠ S ∧ H0 l = none
section
variable {K : PySem.W.Frag} {H0 H : Hp} {R S : Addr} {rs : List Run}
theorem RI.at_ (h : RI K H0 H R S rs) : RunsAt K H R rs := by
  rcases h.ex with ⟨rfl, e⟩ | ⟨A, r, xs, t, l, ks, rfl, e, n, off, g1, g2, g3, g4, _⟩
  · exact ⟨[], e, rfl, fun i x r p => by simp at p⟩
  · refine ⟨_, e, by simp [n], fun i x s p q => ?_⟩
    by_cases c : i < xs.length
    · rw [List.getElem?_append_left c] at p
      rw [List.getElem?_append_left (by omega)] at q
      exact (off i x s p q).at_
    · rw [List.getElem?_append_right (by omega)] at p
      rw [List.getElem?_append_right (by omega)] at q
      have z : i - xs.length = 0 := by
        have := (List.getElem?_eq_some_iff.mp p).1
        simp at this
        omega
      rw [z] at p
      rw [← n, z] at q
      obtain rfl := Option.some.inj p
      obtain rfl := Option.some.inj q
      exact ⟨t, l, ks, rfl, g1, g2, g3, g4⟩
/-- the turn that makes the last run longer -/
theorem RI.longer {A : List Run} {r : Run} {xs : List V} {t l : Addr} {ks : List (Addr × Ver)} {p : Addr × Ver} (s : Same H0 H) (e : H R = some (.lst (xs ++ [.ref t]))) (n : xs.length = A.length) (off : ∀ (i : Nat) x s, xs[i]? = some x → A[i]? = some s → RunOff K H l R x s)
    (g1 : SqT K H t [.bl r.1, .ref l]) (g2 : H l = some (.lst (rf ks))) (g3 : KsOk K H ks) (g4 : ks.map (·.2) = r.2) (n1 : l ≠ R) (n2 : l ≠ S) (n3 : H0 l = none) (hp : SqT K H p.1 (v3 p.2)) (op : okV p.2) :
    RI K H0 (upd H l (.lst (rf (ks ++ [p])))) R S (A ++ [(r.1, r.2 ++ [p.2])]) := by
  have f : Fr1 l H (upd H l (.lst (rf (ks ++ [p])))) := Fr1.put
  refine ⟨fun b o z => by rw [upd_ne (ne_of_none z n3)]; exact s _ _ z, .inr ⟨A, _, xs, t, l, ks ++ [p], rfl, f _ _ (Ne.symm n1) e, n, fun i x q a b => (off i x q a b).fr1 (.inl rfl) f g2, f.sqT g2 g1, upd_same, ?_, by simp [g4], n1, n2, n3⟩⟩
  exact KsOk.app (ks_fr1 g3 f g2) (KsOk.one (f.sqT g2 hp) op)
/-- .. that begins a run -/
theorem RI.begun (h : RI K H0 H R S rs) (hR : H0 R = none) {D t : Addr} {b : Bool} {p : Addr × Ver} {xs : List V} (e : H R = some (.lst xs)) (hS : ∃ o, H S = some o) (hD : H D = none) (ht : upd H D (.lst (rf [p])) t = none) (hp : SqT K H p.1 (v3 p.2)) (op : okV p.2) :
    RI K H0 (upd (upd (upd H D (.lst (rf [p]))) t (.tup [.bl b, .ref D])) R (.lst (xs ++ [.ref t]))) R S (rs ++ [(b, [p.2])]) := by
  have s1 := same_upd (o := .lst (rf [p])) hD
  have s2 := same_upd (o := .tup [.bl b, .ref D]) ht
  have s12 := s1.trans s2
  have e2 := s12 _ _ e
  have f : Fr1 R (upd (upd H D (.lst (rf [p]))) t (.tup [.bl b, .ref D])) (upd (upd (upd H D (.lst (rf [p]))) t (.tup [.bl b, .ref D])) R (.lst (xs ++ [.ref t]))) := Fr1.put
  have nD : D ≠ R := (ne_of_none e hD).symm
  obtain ⟨oS, hS⟩ := hS
  have nS : D ≠ S := (ne_of_none hS hD).symm
  have n0 : H0 D = none := by
    cases z : H0 D with
    | none => rfl
    | some o =>
      rw [h.same _ _ z] at hD
      cases hD
  have nt : t ≠ R := (ne_of_none (s1 _ _ e) ht).symm
  have off : ∀ {xs' : List V} {A : List Run}, xs'.length = A.length → (∀ (i : Nat) x s, xs'[i]? = some x → A[i]? = some s → ∃ l, RunOff K H l R x s) → (∀ (i : Nat) x s, xs'[i]? = some x → A[i]? = some s → RunOff K (upd (upd (upd H D (.lst (rf [p]))) t (.tup [.bl b, .ref D])) R (.lst (xs ++ [.ref t]))) D R x s) := fun {xs' A} n g i x s a c => by
    obtain ⟨l, t', l', ks, rfl, g1, g2, g3, g4, _, g6⟩ := g i x s a c
    exact ⟨t', l', ks, rfl, f.sqT e2 (Same.sqT s12 g1), f _ _ g6 (s12 _ _ g2), ks_fr1 (g3.same s12) f e2, g4, ne_of_none g2 hD, g6⟩
  have inR : ∀ (i : Nat) x s, xs[i]? = some x → rs[i]? = some s → ∃ l, RunOff K H l R x s := fun i x s a c => by
    obtain ⟨ys, ey, ny, gy⟩ := h.at_
    rcases h.ex with ⟨rfl, _⟩ | ⟨A, r, xs0, t0, l, ks, rfl, e0, n, offA, g1, g2, g3, g4, m1, m2, m3⟩
    · simp at c
    · rw [e] at e0
      obtain rfl : xs = xs0 ++ [.ref t0] := by
        injection e0 with e0
        injection e0
      by_cases z : i < xs0.length
      · rw [List.getElem?_append_left z] at a
        rw [List.getElem?_append_left (by omega)] at c
        exact ⟨l, offA i x s a c⟩
      · rw [List.getElem?_append_right (by omega)] at a
        rw [List.getElem?_append_right (by omega)] at c
        have z0 : i - xs0.length = 0 := by
          have := (List.getElem?_eq_some_iff.mp a).1
          simp at this
          omega
        rw [z0] at a
        rw [← n, z0] at c
        obtain rfl := Option.some.inj a
        obtain rfl := Option.some.inj c
        exact ⟨t, t0, l, ks, rfl, g1, g2, g3, g4, ne_of_none (s1 _ _ g2) ht, m1⟩
  have len : xs.length = rs.length := by
    obtain ⟨ys, ey, ny, _⟩ := h.at_
    rw [e] at ey
    injection ey with ey
    injection ey with ey
    rw [ey]
    exact ny
  refine ⟨fun c o z => ?_, .inr ⟨rs, (b, [p.2]), xs, t, D, [p], rfl, upd_same, len, off len inR, ?_, ?_, ?_, rfl, nD, nS, n0⟩⟩
  · rw [upd_ne (ne_of_none z hR)]
    exact s12 _ _ (h.same _ _ z)
  · exact .inl (.inl (by rw [upd_ne nt]; exact upd_same))
  · rw [upd_ne nD]
    exact s2 _ _ upd_same
  · exact KsOk.one (f.sqT e2 (Same.sqT s12 hp)) op
end
end Kw
set_option maxHeartbeats 4000000
namespace Kw
open PySem PySem.Spec PyProof.Rows L2 LamX
section
variable {K : PySem.W.Frag} {H H' : Hp}
/-- [(version, b) for version in xs] -/
theorem lcPairs {ts : TE} {j : Nat} {σ : L2.St} {b : Bool} {x : V} {vs : List Ver} {Q : VK} (hts : ∀ R : VK, R x H → ts σ H R) (h : VsAt K H x vs) (few : vs.length ≤ 100) (hw : ∀ y, wipe ((wipe σ [j]).set j y) [j] = wipe σ [j]) (hj : j < (wipe σ [j]).length)
    (q : ∀ H' D qs, Same H H' → H' D = some (.lst (rp qs)) → PrOk K H' qs → qs.map pvb = vs.map (fun v => (v, b)) → Q (.ref D) H') : tLc (iLT K ts) (gName j) tYes (tTup (tCons (tVar j) (tCons (tC (.bl b)) tNil))) [j] σ H Q := by
  obtain ⟨a, ks, rfl, hS, hk, rfl⟩ := h
  refine hts _ ⟨a, rfl, ?_⟩
  rw [List.length_map] at few
  have turn : ∀ (D : Addr), H D = none → ∀ (i : Nat) (y : V) (H1 : Hp), (rf ks)[i]? = some y → (∃ qs, Same H H1 ∧ H1 D = some (.lst (rp qs)) ∧ PrOk K H1 qs ∧ qs.map pvb = (ks.take i).map (fun p => (p.2, b))) → gName j y (wipe σ [j]) H1 fun σ2 H2 => wipe σ2 [j] = wipe σ [j] ∧ tYes σ2 H2 fun c H3 =>
      if c = true then (tTup (tCons (tVar j) (tCons (tC (.bl b)) tNil))) σ2 H3 fun y H4 => ∃ acc, H4 D = some (.lst acc) ∧ acc.length < sizeLine ∧ (∃ qs, Same H (upd H4 D (.lst (acc ++ [y]))) ∧ (upd H4 D (.lst (acc ++ [y]))) D = some (.lst (rp qs)) ∧ PrOk K (upd H4 D (.lst (acc ++ [y]))) qs ∧ qs.map pvb = (ks.take (i + 1)).map (fun p => (p.2, b))) else (∃ qs, Same H H3 ∧ H3 D = some (.lst (rp qs)) ∧ PrOk K H3 qs ∧ qs.map pvb = (ks.take (i + 1)).map (fun p => (p.2, b))) := by
    rintro D hD i y H1 hy ⟨qs, s1, h1, h2, h3⟩
    rw [List.getElem?_map] at hy
    obtain ⟨p, hp, rfl⟩ := Option.map_eq_some_iff.mp hy
    have il := (List.getElem?_eq_some_iff.mp hp).1
    have kp := hk p (List.mem_of_getElem? hp)
    refine ⟨hw _, yesI ⟨_, by rw [List.getElem?_set_self hj], by show 2 ≤ sizeLine; decide, fun t ht => ?_⟩⟩
    have s2 := same_upd (o := .tup [.ref p.1, .bl b]) ht
    have f : Fr1 D (upd H1 t (.tup [.ref p.1, .bl b])) (upd (upd H1 t (.tup [.ref p.1, .bl b])) D (.lst (rp qs ++ [.ref t]))) := Fr1.put
    have h12 := s2 _ _ h1
    have nt : t ≠ D := (ne_of_none h1 ht).symm
    have len := congrArg List.length h3
    rw [List.length_map, List.length_map, List.length_take] at len
    refine ⟨_, h12, by rw [List.length_map, sizeLine_eq]; omega, qs ++ [(t, p.1, p.2, b)], fun c o z => ?_, by rw [upd_same]; simp, fun r hr => ?_, ?_⟩
    · rw [upd_ne (ne_of_none z hD)]
      exact s2 _ _ (s1 _ _ z)
    · rcases List.mem_append.mp hr with hr | hr
      · have z := h2 r hr
        exact ⟨f.sqT h12 (Same.sqT s2 z.1), f.sqT h12 (Same.sqT s2 z.2.1), z.2.2⟩
      · rw [List.mem_singleton.mp hr]
        exact ⟨.inl (.inl (by rw [upd_ne nt]; exact upd_same)), f.sqT h12 (Same.sqT (s1.trans s2) kp.1), kp.2⟩
    · rw [List.map_append, h3, take_snoc hp, List.map_append]
      rfl
  have start : ∀ D, H D = none → (∃ qs : List Pr, Same H (upd H D (.lst [])) ∧ (upd H D (.lst [])) D = some (.lst (rp qs)) ∧ PrOk K (upd H D (.lst [])) qs ∧ qs.map pvb = (ks.take 0).map (fun p => (p.2, b))) := fun D hD => ⟨[], same_upd hD, upd_same, fun r hr => (nomatch hr), rfl⟩
  have fin : ∀ D H1, (∃ qs, Same H H1 ∧ H1 D = some (.lst (rp qs)) ∧ PrOk K H1 qs ∧ qs.map pvb = (ks.take (rf ks).length).map (fun p => (p.2, b))) → Q (.ref D) H1 := fun D H1 ⟨qs, s1, h1, h2, h3⟩ => by
    rw [List.length_map, List.take_length] at h3
    exact q H1 D qs s1 h1 h2 (by rw [h3, List.map_map]; rfl)
  rcases hS with hS | hS
  · exact .inl ⟨⟨_, hS⟩, fun D hD => lc_list (K := K) (a := a) (xs := rf ks) (fun i H1 => ∃ qs, Same H H1 ∧ H1 D = some (.lst (rp qs)) ∧ PrOk K H1 qs ∧ qs.map pvb = (ks.take i).map (fun p => (p.2, b))) (start D hD) (fun i H1 _ R => by obtain ⟨_, s1, _⟩ := R; exact (ExtN.same s1).sqL hS) (turn D hD) (fin D)⟩
  · exact .inr ⟨⟨_, hS⟩, fun D hD => lc_tup (K := K) (a := a) (xs := rf ks) (fun i H1 => ∃ qs, Same H H1 ∧ H1 D = some (.lst (rp qs)) ∧ PrOk K H1 qs ∧ qs.map pvb = (ks.take i).map (fun p => (p.2, b))) (start D hD) (fun i H1 _ R => by obtain ⟨_, s1, _⟩ := R; exact Same.sqT s1 hS) (turn D hD) (fin D)⟩
end
def spRuns (K : PySem.W.Frag) : Sp := fun vs H Q _ => ∃ (x y : V) (i o : List Ver), vs = [x, y] ∧ VsAt K H x i ∧ VsAt K H y o ∧ i.length ≤ 40 ∧ o.length ≤ 40 ∧
  ∀ H' R L, Same H H' → L.Perm (i.map (fun v => (v, true)) ++ o.map (fun v => (v, false))) → UpL L → RunsAt K H' R (runsL L) → Q (.ref R) H'
section
variable {P : Program} {w : World} {K : PySem.W.Frag} {mg : Str → Option Value} {base : Heap}
abbrev nRuns : List Str := ["inside", "outside", "sides", "runs", "version", "side"]
theorem scRuns : FnScope nRuns ["inside", "outside"] (defScope sRunsOf) := ⟨rfl, rfl, rfl, by decide +kernel, rfl, by decide +kernel, by decide +kernel⟩
theorem ok_runsOf {f : Addr} {fd : FuncData} {k : Nat} (F : Fun K "runs_of" "runs_of" sRunsOf f fd) (ms : mg "sorted" = none) : FnOk P w K mg base CX0 (k + 1) f fd ["inside", "outside"] (spRuns K) := by
  refine F.ok scRuns (fun vs H Q E h => ?_) (fun cdv A outer s H vs Q E hr h => ?_)
  · obtain ⟨x, y, i, o, rfl, _⟩ := h
    rfl
  · obtain ⟨x, y, i, o, rfl, hx, hy, li, lo, q⟩ := h
    refine' ⟨_, pss_cons ?s1 (pss_cons ?s2 (pss_cons ?s3 (pss_one ?s4))), ?_⟩
    case s1 => exact ps_set (i := 2) scRuns.nd rfl (.inl rfl) (pe_op op_cat
        (pe_lc (own := [("version", 4)]) (g := gName 4) (tt := tYes) rfl scRuns.nd (pi_lt (pv 0)) (blkOk_by (N := nRuns) (sc := defScope sRunsOf) (by decide +kernel)) (fun _ _ _ _ _ => pg_name (i := 4) scRuns.nd rfl (Or.inl rfl)) (fun _ _ _ _ _ => pts_nil) (fun _ _ _ _ _ => pe_tup (pa_cons (pv 4) (pa_cons pe_bl pa_nil))))
        (pe_lc (own := [("version", 4)]) (g := gName 4) (tt := tYes) rfl scRuns.nd (pi_lt (pv 1)) (blkOk_by (N := nRuns) (sc := defScope sRunsOf) (by decide +kernel)) (fun _ _ _ _ _ => pg_name (i := 4) scRuns.nd rfl (Or.inl rfl)) (fun _ _ _ _ _ => pts_nil) (fun _ _ _ _ _ => pe_tup (pa_cons (pv 4) (pa_cons pe_bl pa_nil)))))
    case s2 => exact ps_set (i := 3) scRuns.nd rfl (.inl rfl) (pe_lst pa_nil)
    case s3 => exact (ps_for PassesOwn.never rfl (pi_list (pe_callB (cr_sortP hr.units) (by rfl) ms (by decide +kernel) (pa_cons (pv 2) pa_nil))) (pg_tup rfl (pgs_cons (pg_name (i := 4) scRuns.nd rfl (.inl rfl)) (pgs_cons (pg_name (i := 5) scRuns.nd rfl (.inl rfl)) pgs_nil)))
        (pss_one (ps_if (PW.pt (pw_and (pt_truth (pv 3) (fun _ => rfl)) (pw_and1 (pt_cmpR op_eq (pe_ix ix_tup (pe_ix ix_list (pv 3) (pe_un un_neg pe_int) (fun _ _ => rfl)) pe_int (fun _ _ => rfl)) (pv 5) (nomark _)))))
          (pss_one (ps_expr (pe_bm PySem.F.plainAttrs_list PySem.F.slot_list_append PySem.F.type_list_append mt_append (pe_ix ix_tup (pe_ix ix_list (pv 3) (pe_un un_neg pe_int) (fun _ _ => rfl)) pe_int (fun _ _ => rfl)) (pa_cons (pv 4) pa_nil))))
          (pss_one (ps_expr (pe_bm PySem.F.plainAttrs_list PySem.F.slot_list_append PySem.F.type_list_append mt_append (pv 3) (pa_cons (pe_tup (pa_cons (pv 5) (pa_cons (pe_lst (pa_cons (pv 4) pa_nil)) pa_nil))) pa_nil)))))))
    case s4 => exact ps_ret (pv 3)
    dsimp only [tSeq, tAsg, tRet]
    refine lcPairs (x := x) (vs := i) (fun R r => ⟨_, rfl, r⟩) hx (by omega) (fun _ => rfl) (by show 4 < 6; decide) fun H1 D1 q1 s1 h1 k1 e1 => ?_
    refine lcPairs (x := y) (vs := o) (fun R r => ⟨_, rfl, r⟩) (hy.same s1) (by omega) (fun _ => rfl) (by show 4 < 6; decide) fun H2 D2 q2 s2 h2 k2 e2 => ?_
    have l1 := congrArg List.length e1
    have l2 := congrArg List.length e2
    simp only [List.length_map] at l1 l2
    refine ⟨D1, D2, rp q1, rp q2, rfl, rfl, s2 _ _ h1, h2, by rw [List.length_map, List.length_map, sizeLine_eq]; omega, fun D3 hD3 => ?_⟩
    have s3 := same_upd (o := .lst (rp q1 ++ rp q2)) hD3
    have h3 : (upd H2 D3 (.lst (rp q1 ++ rp q2))) D3 = some (.lst (rp (q1 ++ q2))) := by rw [upd_same]; simp
    have k3 : PrOk K (upd H2 D3 (.lst (rp q1 ++ rp q2))) (q1 ++ q2) := fun r hr => (List.mem_append.mp hr).elim (fun z => (k1.same (s2.trans s3)) r z) (fun z => (k2.same s3) r z)
    have sB := (s1.trans s2).trans s3
    generalize upd H2 D3 (.lst (rp q1 ++ rp q2)) = G at h3 k3 sB
    refine ⟨Nat.zero_le _, fun R hR => ?_⟩
    have s4 := same_upd (o := .lst []) hR
    refine ⟨_, rfl, D3, q1 ++ q2, rfl, SqL.of (s4 _ _ h3), k3.same s4, by rw [List.length_append]; omega, fun S qs hS pm up => ?_⟩
    have s5 := same_upd (o := .lst (rp qs)) hS
    have nS : R ≠ S := ne_of_none upd_same hS
    refine ⟨S, rfl, ⟨_, SqL.of upd_same⟩, for_list (K := K) (a := S) (xs := rp qs) (fun j σ H' => ∃ y4 y5 : Option V, σ = [some x, some y, some (.ref D3), some (.ref R), y4, y5] ∧ H' S = some (.lst (rp qs)) ∧ RI K G H' R S (runsL ((qs.map pvb).take j))) ⟨none, none, rfl, upd_same, s4.trans s5, .inl ⟨rfl, s5 _ _ upd_same⟩⟩ (fun j σ H' _ ⟨_, _, _, e, _⟩ => SqL.of e) ?_ ?_⟩
    · rintro j z σ H3 hz ⟨y4, y5, rfl, hS3, RI3⟩
      rw [List.getElem?_map] at hz
      obtain ⟨p, hp, rfl⟩ := Option.map_eq_some_iff.mp hz
      have il := (List.getElem?_eq_some_iff.mp hp).1
      have kp := (k3.same RI3.same) p (pm.mem_iff.mp (List.mem_of_getElem? hp))
      have tk : runsL ((qs.map pvb).take (j + 1)) = runStep (runsL ((qs.map pvb).take j)) (pvb p) := by
        rw [take_snoc (x := pvb p) (by rw [List.getElem?_map, hp]; rfl)]
        unfold runsL
        rw [List.foldl_append]
        rfl
      rw [tk]
      have few : (runsL ((qs.map pvb).take j)).length ≤ 200 := by
        have z := (runs_is ((qs.map pvb).take j))
        have z2 : ∀ rs : List Run, (∀ r ∈ rs, r.2 ≠ []) → rs.length ≤ (flatR rs).length := fun rs => by
          induction rs with
          | nil => intro _; exact Nat.le_refl _
          | cons r rs ih =>
            intro n
            have z3 := ih fun t ht => n t (List.mem_cons_of_mem _ ht)
            have z4 := List.length_pos_iff.mpr (n r List.mem_cons_self)
            rw [flat_cons, List.length_append, List.length_map, List.length_cons]
            omega
        have z3 := z2 _ z.ne
        rw [z.flat, List.length_take, List.length_map] at z3
        have z4 := pm.length_eq
        rw [List.length_append] at z4
        omega
      have few2 : ∀ r ∈ runsL ((qs.map pvb).take j), r.2.length ≤ 200 := fun r hr => by
        have z := (runs_is ((qs.map pvb).take j))
        obtain ⟨A, B, e⟩ := List.append_of_mem hr
        have z3 := congrArg List.length z.flat
        rw [e, flat_app, flat_cons] at z3
        rw [List.length_append, List.length_append, List.length_map, List.length_take, List.length_map] at z3
        have z4 := pm.length_eq
        rw [List.length_append] at z4
        omega
      generalize runsL ((qs.map pvb).take j) = rs at RI3 few few2
      obtain ⟨xs, hR3, len, at3⟩ := RI3.at_
      refine ⟨p.1, [.ref p.2.1, .bl p.2.2.2], rfl, kp.1, rfl, _, _, rfl, _, _, rfl, rfl, ?_⟩
      dsimp only [tIfS, tDrop]
      have longer : ∀ A r, rs = A ++ [r] → r.1 = p.2.2.2 → runStep rs (pvb p) = A ++ [(r.1, r.2 ++ [p.2.2.1])] := fun A r e c => by
        unfold runStep
        rw [e, List.getLast?_concat]
        dsimp only
        rw [if_pos c, List.dropLast_concat]
      have anew : ∀ {σ : L2.St} {Q2 : VK}, (runStep rs (pvb p) = rs ++ [(p.2.2.2, [p.2.2.1])]) → σ = [some x, some y, some (.ref D3), some (.ref R), some (.ref p.2.1), some (.bl p.2.2.2)] → (∀ H4, H4 S = some (.lst (rp qs)) → RI K G H4 R S (runStep rs (pvb p)) → Q2 .non H4) →
          tBM K "list" rAppend (tVar 3) (tCons (tTup (tCons (tVar 5) (tCons (tLst (tCons (tVar 4) tNil)) tNil))) tNil) σ H3 Q2 := fun {σ Q2} e eσ g => by
        subst eσ
        refine ⟨_, rfl, .inl ⟨rfl, _, SqL.of hR3⟩, _, rfl, _, rfl, by show 1 ≤ sizeLine; decide, fun D hD => ?_⟩
        have t1 := same_upd (o := .lst [.ref p.2.1]) hD
        refine ⟨by show 2 ≤ sizeLine; decide, fun t ht => ?_⟩
        have t2 := same_upd (o := .tup [.bl p.2.2.2, .ref D]) ht
        refine ⟨R, xs, _, rfl, rfl, (t1.trans t2) _ _ hR3, by rw [len, sizeLine_eq]; omega, g _ ?_ ?_⟩
        · rw [upd_ne (Ne.symm nS)]
          exact (t1.trans t2) _ _ hS3
        · rw [e]
          exact RI3.begun (p := (p.2.1, p.2.2.1)) hR hR3 ⟨_, hS3⟩ hD ht kp.2.1 kp.2.2
      cases hL : rs.getLast? with
      | none =>
        obtain rfl : rs = [] := List.getLast?_eq_none_iff.mp hL
        obtain rfl : xs = [] := List.length_eq_zero_iff.mp len
        refine ⟨_, rfl, _, .inl ⟨[], SqL.of hR3, rfl⟩, iteF (iteF ?_)⟩
        exact anew rfl rfl fun H4 e4 r4 => ⟨_, _, rfl, e4, r4⟩
      | some r =>
        obtain ⟨A, rfl⟩ := List.getLast?_eq_some_iff.mp hL
        have ne : xs.isEmpty = false := by
          cases xs with
          | nil => simp at len
          | cons _ _ => rfl
        refine ⟨_, rfl, _, .inl ⟨xs, SqL.of hR3, rfl⟩, ?_⟩
        rw [ne]
        rcases RI3.ex with ⟨e0, _⟩ | ⟨A', r', xs', t, l, ks, e0, eR, n, off, g1, g2, g3, g4, n1, n2, n3⟩
        · simp at e0
        · obtain ⟨rfl, e1⟩ := List.append_inj' e0 rfl
          obtain rfl := List.singleton_inj.mp e1
          rw [hR3] at eR
          obtain rfl : xs = xs' ++ [.ref t] := by
            injection eR with eR
            injection eR
          refine iteT ⟨_, rfl, 1, rfl, R, _, -1, .ref t, rfl, rfl, SqL.of hR3, atI_last _ _, t, [.bl r.1, .ref l], 0, .bl r.1, rfl, rfl, g1, atI_nat (j := 0) rfl, _, rfl, rfl, ?_⟩
          refine ⟨_, rfl, ite2 (fun c => ?_) (fun c => ?_)⟩
          · have c1 : r.1 = p.2.2.2 := by simpa using c
            refine ⟨_, rfl, 1, rfl, R, _, -1, .ref t, rfl, rfl, SqL.of hR3, atI_last _ _, t, [.bl r.1, .ref l], 1, .ref l, rfl, rfl, g1, atI_nat (j := 1) rfl, .inl ⟨rfl, _, SqL.of g2⟩, _, rfl, l, rf ks, _, rfl, rfl, g2, ?_, ?_⟩
            · have l4 := congrArg List.length g4
              have l5 := few2 r (by simp)
              rw [List.length_map, sizeLine_eq]
              rw [List.length_map] at l4
              omega
            · have e5 : (rf ks ++ [V.ref p.2.1]) = rf (ks ++ [(p.2.1, p.2.2.1)]) := by simp
              rw [longer A r rfl c1, e5]
              exact ⟨_, _, rfl, by rw [upd_ne (Ne.symm n2)]; exact hS3, RI.longer (p := (p.2.1, p.2.2.1)) RI3.same hR3 n off g1 g2 g3 g4 n1 n2 n3 kp.2.1 kp.2.2⟩
          · have c1 : ¬ r.1 = p.2.2.2 := by simpa using c
            refine anew ?_ rfl fun H4 e4 r4 => ⟨_, _, rfl, e4, r4⟩
            unfold runStep
            rw [List.getLast?_concat]
            dsimp only
            rw [if_neg c1]
    · rintro σ H3 ⟨y4, y5, rfl, hS3, RI3⟩
      refine ⟨_, rfl, ?_⟩
      rw [List.take_of_length_le (by simp)] at RI3
      refine q H3 R (qs.map pvb) (sB.trans RI3.same) ?_ up RI3.at_
      have z := pm.map pvb
      rw [List.map_append, e1, e2] at z
      exact z
end
end Kw
set_option maxHeartbeats 4000000
namespace Kw
open PySem PySem.Spec PyProof.Rows L2 LamX
abbrev sParting : Stmt := top 32
abbrev sWidest : Stmt := top 33
/-! ### parting, widest_parting -/
theorem fold_same {ss ss' : List Str2} (n : NF ss) (pm : ss'.Perm ss) (pw : ss'.Pairwise fun p q => ¬ ltV q.1 p.1) : ss'.foldl nfAdd [] = ss := by
  obtain ⟨a, b⟩ := fold_nf n.ok pm pw
  exact a.unique n fun v _ => b v
def touchB (i o : List Ver) : Bool := i.any fun v => decide (v ∈ o)
theorem touch_apt {i o : List Ver} (h : touchB i o = false) : Apt i o := fun v hi ho => by
  have z := List.any_eq_false.mp h v hi
  exact z (decide_eq_true ho)
theorem touch_comm (i o : List Ver) : touchB o i = touchB i o := by
  unfold touchB
  rw [Bool.eq_iff_iff, List.any_eq_true, List.any_eq_true]
  constructor
  · rintro ⟨v, h1, h2⟩
    exact ⟨v, of_decide_eq_true h2, decide_eq_true h1⟩
  · rintro ⟨v, h1, h2⟩
    exact ⟨v, of_decide_eq_true h2, decide_eq_true h1⟩
theorem runs_few : ∀ rs : List Run, (∀ r ∈ rs, r.2 ≠ []) → rs.length ≤ (flatR rs).length
  | [], _ => Nat.le_refl _
  | r :: rs, n => by
    have z3 := runs_few rs fun t ht => n t (List.mem_cons_of_mem _ ht)
    have z4 := List.length_pos_iff.mpr (n r List.mem_cons_self)
    rw [flat_cons, List.length_append, List.length_map, List.length_cons]
    omega
theorem sides_perm {L : List (Ver × Bool)} {i o : List Ver} (pm : L.Perm (i.map (fun v => (v, true)) ++ o.map fun v => (v, false))) (up : UpL L) : Sides L i o := by
  refine ⟨up, fun v => ?_, fun v => ?_⟩
  · rw [pm.mem_iff, List.mem_append]
    simp
  · rw [pm.mem_iff, List.mem_append]
    simp
abbrev tNext (K : PySem.W.Frag) (CV : Addr) : TE := tTup (tCons (tOp (rIxL K) (tVar 4) (tC (.int 0))) (tCons (tCall (spNextV K CV) [] E0 (tCons (tOp (rIxL K) (tVar 4) (tUn (rU fun i => .int (-i)) (tC (.int 1)))) tNil)) tNil))
abbrev gSR (K : PySem.W.Frag) : TG := gTup K 2 (gCons (gName 3) (gCons (gName 4) gNil))
section
variable {K : PySem.W.Frag} {H H' : Hp}
/-- the stretches of the runs of the inside -/
theorem lcStretch {ts : TE} {CV : Addr} {y0 y1 y2 y3 y4 : Option V} {Q : VK} (Pr : List Run → Prop) (hP : ∀ rs, Pr rs → (∀ r ∈ rs, r.2 ≠ []) ∧ rs.length ≤ 200 ∧ ∀ r ∈ rs, ∀ v ∈ r.2, okV v) (hts : ∀ Rr : VK, (∀ H1 R rs, Same H H1 → RunsAt K H1 R rs → Pr rs → Rr (.ref R) H1) → ts [y0, y1, y2, y3, y4] H Rr)
    (q : ∀ H' D xs rs, Pr rs → Same H H' → H' D = some (.lst xs) → Strs K H' xs (partR rs) → Q (.ref D) H') : tLc (iList K ts) (gSR K) (tB (tVar 3)) (tNext K CV) [3, 4] [y0, y1, y2, y3, y4] H Q := by
  refine hts _ fun H0 R rs s0 h pr => ?_
  obtain ⟨ne, few, ok⟩ := hP rs pr
  replace q : ∀ H' D xs, Same H0 H' → H' D = some (.lst xs) → Strs K H' xs (partR rs) → Q (.ref D) H' := fun H' D xs s1 => q H' D xs rs pr (s0.trans s1)
  clear hts
  obtain ⟨xs, hR, len, at_⟩ := h
  refine ⟨R, rfl, ⟨_, SqL.of hR⟩, fun D hD => ?_⟩
  refine lc_list (K := K) (a := R) (xs := xs) (fun i H1 => ∃ zs, Same H0 H1 ∧ H1 D = some (.lst zs) ∧ Strs K H1 zs (partR (rs.take i))) ⟨[], same_upd hD, upd_same, rfl, fun i x s a => by simp at a⟩ (fun i H1 _ R => by obtain ⟨_, s1, _⟩ := R; exact SqL.of (s1 _ _ hR)) ?_ ?_
  · rintro i x H1 hx ⟨zs, s1, h1, hz⟩
    have il := (List.getElem?_eq_some_iff.mp hx).1
    obtain ⟨r, hr⟩ : ∃ r, rs[i]? = some r := ⟨_, List.getElem?_eq_getElem (by omega)⟩
    have mr := List.mem_of_getElem? hr
    obtain ⟨t, l, ks, rfl, g1, g2, g3, g4⟩ := (at_ i x r hx hr).ext (ExtN.same s1)
    refine ⟨t, [.bl r.1, .ref l], rfl, g1, rfl, .bl r.1, [.ref l], rfl, .ref l, [], rfl, rfl, rfl, _, rfl, _, rfl, ?_⟩
    rw [take_snoc hr, part_app]
    cases hb : r.1 with
    | false =>
      refine iteF ⟨zs, s1, h1, ?_⟩
      rw [part_none hb, List.append_nil]
      exact hz
    | true =>
      rw [part_one hb]
      have n := ne r mr
      have nk : ks ≠ [] := fun z => n (by rw [← g4, z]; rfl)
      obtain ⟨p, hp, ep⟩ : ∃ p, (rf ks)[0]? = some (.ref p.1) ∧ p ∈ ks ∧ hdR r = p.2 := by
        cases ks with
        | nil => exact absurd rfl nk
        | cons p ks => exact ⟨p, rfl, List.mem_cons_self, by unfold hdR; rw [← g4]; rfl⟩
      obtain ⟨A, u, eu⟩ : ∃ A u, ks = A ++ [u] := ⟨_, _, (List.dropLast_concat_getLast nk).symm⟩
      have lu : lsR r = u.2 := by
        unfold lsR
        rw [← g4, eu, List.map_append]
        simp
      have hu : u ∈ ks := by rw [eu]; simp
      have ou := (g3 u hu).2
      refine iteT ⟨_, rfl, l, rf ks, 0, _, rfl, rfl, SqL.of g2, atI_nat (j := 0) hp, ?_⟩
      refine ⟨_, rfl, 1, rfl, l, rf ks, -1, .ref u.1, rfl, rfl, SqL.of g2, ?_, ?_⟩
      · show atI (ks.map fun p => V.ref p.1) (-1) = _
        rw [eu, List.map_append]
        exact atI_last _ _
      · refine ⟨_, rfl, .inl ⟨u.2, ⟨u.1, rfl, (g3 u hu).1⟩, ou, fun H2 p2 s2 e2 => ?_⟩⟩
        refine ⟨by show 2 ≤ sizeLine; decide, fun p3 hp3 => ?_⟩
        have s3 := same_upd (o := .tup [.ref p.1, .ref p2]) hp3
        have s23 := s2.trans s3
        have f : Fr1 D (upd H2 p3 (.tup [.ref p.1, .ref p2])) (upd (upd H2 p3 (.tup [.ref p.1, .ref p2])) D (.lst (zs ++ [.ref p3]))) := Fr1.put
        have h3 := s23 _ _ h1
        have nD : p3 ≠ D := (ne_of_none (s2 _ _ h1) hp3).symm
        have lz := hz.len
        have l2 : (partR (rs.take i)).length ≤ 200 := by
          unfold partR
          rw [List.length_map]
          exact Nat.le_trans (List.length_filter_le _ _) (by rw [List.length_take]; omega)
        refine ⟨zs, h3, by rw [sizeLine_eq]; omega, zs ++ [.ref p3], fun c o z => ?_, upd_same, (Fr1.strs f h3 (hz.same s23)).snoc ⟨p3, .ref p.1, .ref p2, rfl, f.sqT h3 (.inl (.inl upd_same)), ?_, ?_⟩⟩
        · rw [upd_ne (ne_of_none z hD)]
          exact s23 _ _ (s1 _ _ z)
        · show IsVer K _ (.ref p.1) (hdR r)
          rw [ep.2]
          exact ⟨p.1, rfl, f.sqT h3 (Same.sqT s23 (g3 p ep.1).1)⟩
        · show IsVer K _ (.ref p2) (nextV (lsR r))
          rw [lu]
          exact ⟨p2, rfl, f.sqT h3 (Same.sqT s3 (.inl (.inl e2)))⟩
  · rintro H1 ⟨zs, s1, h1, hz⟩
    rw [len, List.take_length] at hz
    exact q H1 D zs s1 h1 hz
/-- any([version in outside for version in inside]) -/
theorem touch_read {σ : L2.St} {x y : V} {i o : List Ver} {Q : VK} (hx : VsAt K H x i) (hy : VsAt K H y o) (few : i.length ≤ 1000) (h0 : σ[0]? = some (some x)) (hw : ∀ z, wipe ((wipe σ [2]).set 2 z) [2] = wipe σ [2]) (h2 : ∀ z, ((wipe σ [2]).set 2 z)[2]? = some z) (h1 : ∀ z, ((wipe σ [2]).set 2 z)[1]? = some (some y))
    (q : ∀ H', Same H H' → Q (.bl (touchB i o)) H') : tCB (rAny K) (tCons (tLc (iLT K (tVar 0)) (gName 2) tYes (tOp (rInV K) (tVar 2) (tVar 1)) [2]) tNil) σ H Q := by
  obtain ⟨a, ks, rfl, hS, hk, rfl⟩ := id hx
  rw [List.length_map] at few
  refine one_arg (lcB (a := a) (xs := rf ks) (bs := (ks.map (·.2)).map fun v => decide (v ∈ o)) (fun R r => ⟨_, h0, r⟩) hS (by simp) (by rw [List.length_map]; exact few) (fun i z b H1 Q2 hz hb s1 q2 => ⟨hw _, ?_⟩) fun H1 D s1 hD => ⟨D, _, rfl, SqL.of hD, ?_⟩)
  · rw [List.getElem?_map] at hz
    obtain ⟨p, hp, rfl⟩ := Option.map_eq_some_iff.mp hz
    rw [List.getElem?_map, List.getElem?_map, hp] at hb
    obtain rfl := Option.some.inj hb
    exact ⟨_, h2 _, _, h1 _, p.2, o, ⟨p.1, rfl, Same.sqT s1 (hk p (List.mem_of_getElem? hp)).1⟩, hy.same s1, q2 H1 (Same.refl H1)⟩
  · have e : ((ks.map (·.2)).map fun v => decide (v ∈ o)).any id = touchB (ks.map (·.2)) o := by
      unfold touchB
      rw [List.any_map]
      rfl
    rw [e]
    exact q H1 s1
end
theorem make_arg {C : Addr} {sp : Sp} {E : XK} {te : TE} {σ : L2.St} {H : Hp} {Q : VK} (h : te σ H fun y H1 => ∀ x dx, H1 x = none → H1 dx = none → dx ≠ x → sp (.ref x :: ([y] ++ [])) (upd (upd H1 dx (.own x)) x (.ins C dx [])) (fun v H2 => v = .non ∧ Q (.ref x) H2) E) : tMake C sp [] E (tCons te tNil) σ H Q := h
/-- the promise of the def that parts -/
def spSides (T : List (Addr × Str)) (R : List Ver → List Ver → Hp → V → Prop) (K : PySem.W.Frag) (CB : Addr) : Sp := fun vs H Q E => ∃ (x y : V), vs = [x, y] ∧ ((∃ i o, VsAt K H x i ∧ VsAt K H y o ∧ i.length ≤ 40 ∧ o.length ≤ 40 ∧ Tabs T H ∧ (touchB i o = true → ∀ H', ExtN H H' → Tabs T H' → Q .non H') ∧
  (touchB i o = false → ∀ H' z, ExtN H H' → Tabs T H' → R i o H' z → Q z H')) ∨ (JudV K H x false ∧ PAt E CB "inside" H) ∨ (JudV K H x true ∧ JudV K H y false ∧ PAt E CB "outside" H))
abbrev spParting (K : PySem.W.Frag) (T : List (Addr × Str)) (CR CB : Addr) : Sp := spSides T (fun i o H' z => IsR K CR H' z (partN i o) ∧ (partN i o).length ≤ i.length) K CB
section
variable {P : Program} {w : World} {K : PySem.W.Frag} {mg : Str → Option Value} {base : Heap}
abbrev nPart : List Str := ["inside", "outside", "version", "side", "run"]
theorem scParting : FnScope nPart ["inside", "outside"] (defScope sParting) := ⟨rfl, rfl, rfl, by decide +kernel, rfl, by decide +kernel, by decide +kernel⟩
theorem ok_parting {f CR CE CV CB : Addr} {fd : FuncData} {k : Nat} {T : List (Addr × Str)} (F : Fun K "parting" "parting" sParting f fd) (DC : DefX P w K mg base "check_sides" k ["inside", "outside"] (spChkSd K CB)) (many : mg "any" = none) (M : RangeMk P w K mg base CR CE T k)
    (DR : Def P w K mg base "runs_of" CX0 k ["inside", "outside"] (spRuns K)) (DN : DefX P w K mg base "next_version" k ["version"] (spNextV K CV)) : FnOk P w K mg base (L2.CX P w) (k + 2) f fd ["inside", "outside"] (spParting K T CR CB) := by
  refine F.okX scParting (fun vs H Q E h => ?_) (fun cdv A outer s H vs Q E hr h => ?_)
  · obtain ⟨x, y, rfl, _⟩ := h
    rfl
  · obtain ⟨x, y, rfl, h⟩ := h
    have hk := hr.mono (show k ≤ k + 1 by omega)
    refine' ⟨_, pss_cons ?s1 (pss_cons ?s2 (pss_one ?s3)), ?_⟩
    case s1 => exact ps_expr (pe_dX DC hk (takes_of rfl rfl rfl rfl) (pa_cons (pv 0) (pa_cons (pv 1) pa_nil)))
    case s2 => exact (ps_if (pt_val (pe_callB (cr_any rfl) (by rfl) many (by decide +kernel) (pa_cons (pe_lc (own := [("version", 2)]) (g := gName 2) (tt := tYes) (te := tOp (rInV K) (tVar 2) (tVar 1)) rfl scParting.nd (pi_lt (pv 0)) (blkOk_by (N := nPart) (sc := defScope sParting) (by decide +kernel))
        (fun _ _ _ _ _ => pg_name (i := 2) scParting.nd rfl (Or.inl rfl)) (fun _ _ _ _ _ => pts_nil) (fun _ _ _ _ _ => pe_cmpR (op_inV (un65 hr)) (pv 2) (pv 1) rfl)) pa_nil))) (pss_one (ps_ret pe_non)) pss_nil)
    case s3 => exact (ps_ret (pe_rng M hr passL (pa_cons (pe_lc (own := [("side", 3), ("run", 4)]) (g := gSR K) (tt := tB (tVar 3)) (te := tNext K CV) rfl scParting.nd (pi_list (pe_d DR hk (pa_cons (pv 0) (pa_cons (pv 1) pa_nil)))) (blkOk_by (N := nPart) (sc := defScope sParting) (by decide +kernel))
        (fun _ _ _ _ _ => pg_tup rfl (pgs_cons (pg_name (i := 3) scParting.nd rfl (.inl rfl)) (pgs_cons (pg_name (i := 4) scParting.nd rfl (.inl rfl)) pgs_nil))) (fun _ _ _ _ _ => pts_one (pt_val (pv 3)))
        (fun _ _ _ _ _ => pe_tup (pa_cons (pe_ix (r := rIxL K) ix_list (pv 4) pe_int (fun _ _ => rfl)) (pa_cons (pe_dP DN hk (pa_cons (pe_ix (r := rIxL K) ix_list (pv 4) (pe_un un_neg pe_int) (fun _ _ => rfl)) pa_nil)) pa_nil)))) pa_nil)))
    rcases h with ⟨i, o, hx, hy, li, lo, hT, q1, q2⟩ | ⟨hx, q⟩ | ⟨hx, hy, q⟩
    · refine ⟨x, rfl, y, rfl, x, y, rfl, .inl ⟨hx.jud li, hy.jud lo, fun H1 s1 => ?_⟩⟩
      have hx1 := hx.same s1
      have hy1 := hy.same s1
      refine touch_read hx1 hy1 (by omega) rfl (fun _ => rfl) (fun _ => rfl) (fun _ => rfl) fun H2 s2 => ?_
      have T2 := (hT.ext s1).ext s2
      have e2 := ExtN.same (s1.trans s2)
      cases c : touchB i o with
      | true => exact ⟨_, rfl, iteT (q1 c H2 e2 T2)⟩
      | false =>
        refine ⟨_, rfl, iteF ?_⟩
        have ap := touch_apt c
        have oki : ∀ v ∈ i, okV v := hx.ok
        have oko : ∀ v ∈ o, okV v := hy.ok
        have okR : ∀ rs, (∃ L, rs = runsL L ∧ L.Perm (i.map (fun v => (v, true)) ++ o.map (fun v => (v, false))) ∧ UpL L) → (∀ r ∈ rs, r.2 ≠ []) ∧ rs.length ≤ 200 ∧ ∀ r ∈ rs, ∀ v ∈ r.2, okV v := by
          rintro rs ⟨L, rfl, pm, up⟩
          have rr := runs_is L
          refine ⟨rr.ne, ?_, fun r hr v hv => ?_⟩
          · have z3 := runs_few _ rr.ne
            rw [rr.flat, pm.length_eq, List.length_append, List.length_map, List.length_map] at z3
            omega
          · have z := run_in rr (sides_perm pm up) hr hv
            cases hb : r.1 with
            | true => exact oki v (z.1 hb)
            | false => exact oko v (z.2 hb)
        dsimp only [L2.tNext, tRet]
        refine make_arg (lcStretch (y0 := some x) (y1 := some y) (y2 := none) (y3 := none) (y4 := none) (fun rs => ∃ L, rs = runsL L ∧ L.Perm (i.map (fun v => (v, true)) ++ o.map (fun v => (v, false))) ∧ UpL L) okR (fun Rr g => ⟨x, rfl, y, rfl, x, y, i, o, rfl, hx1.same s2, hy1.same s2, li, lo, fun H3 R L s3 pm up hR => g H3 R _ s3 hR ⟨L, rfl, pm, up⟩⟩) ?_)
        rintro H3 D xs _ ⟨L, rfl, pm, up⟩ s3 hD hst
        have S := sides_perm pm up
        rw [part_one_way S ap oki] at hst
        have nf := partN_nf ap oki
        have le := partN_len S ap oki pm
        intro a dx na nd ne
        exact rngA (R := fun H4 => Q (.ref a) H4) (T2.ext s3) (.inl (SqL.of hD)) (by rw [hst.len]; omega) hst nf.ok na nd fun H4 ss' e4 T4 hR pm2 pw2 => by
          rw [fold_same nf pm2 pw2] at hR
          exact q2 c H4 _ ((e2.trans (ExtN.same s3)).trans e4) T4 ⟨hR, le⟩
    · exact ⟨x, rfl, y, rfl, x, y, rfl, .inr (.inl ⟨hx, q⟩)⟩
    · exact ⟨x, rfl, y, rfl, x, y, rfl, .inr (.inr ⟨hx, hy, q⟩)⟩
end
end Kw
set_option maxHeartbeats 4000000
namespace Kw
open PySem PySem.Spec PyProof.Rows L2 LamX
abbrev sAlt : Stmt := top 34
abbrev spWidest (K : PySem.W.Frag) (T : List (Addr × Str)) (CR CB : Addr) : Sp := spSides T (fun i o H' z => IsR K CR H' z (notV (partN o i))) K CB
/-- a tuple of versions -/
def TsAt (K : PySem.W.Frag) (H : Hp) (x : V) (vs : List Ver) : Prop := ∃ t ks, x = .ref t ∧ SqT K H t (rf ks) ∧ KsOk K H ks ∧ ks.map (·.2) = vs
theorem TsAt.ext {K : PySem.W.Frag} {H H' : Hp} {x : V} {vs : List Ver} (h : TsAt K H x vs) (e : ExtN H H') : TsAt K H' x vs := let ⟨t, ks, a, b, c, d⟩ := h; ⟨t, ks, a, e.sqT b, ks_ext c e, d⟩
theorem TsAt.vs {K : PySem.W.Frag} {H : Hp} {x : V} {vs : List Ver} (h : TsAt K H x vs) : VsAt K H x vs := let ⟨t, ks, a, b, c, d⟩ := h; ⟨t, ks, a, .inr b, c, d⟩
abbrev spAlt (K : PySem.W.Frag) (T : List (Addr × Str)) (CB : Addr) : Sp := spSides T (fun i o H' z => TsAt K H' z (turnsV (partN i o) o)) K CB
theorem idx_snoc : ∀ (A : List Run) (k : Nat) (r : Run), idxR k (A ++ [r]) = idxR k A ++ (if r.1 = true then [k + A.length] else [])
  | [], k, r => by simp [idxR]
  | a :: A, k, r => by
    have ih := idx_snoc A (k + 1) r
    have e : k + 1 + A.length = k + (a :: A).length := by simp only [List.length_cons]; omega
    rw [e] at ih
    show (if a.1 = true then k :: idxR (k + 1) (A ++ [r]) else idxR (k + 1) (A ++ [r])) = (if a.1 = true then k :: idxR (k + 1) A else idxR (k + 1) A) ++ _
    rw [ih]
    by_cases c : a.1 = true
    · rw [if_pos c, if_pos c]
      rfl
    · rw [if_neg c, if_neg c]
theorem idx_len (A : List Run) (k : Nat) : (idxR k A).length ≤ A.length := by
  induction A generalizing k with
  | nil => exact Nat.le_refl _
  | cons a A ih =>
    have z := ih (k + 1)
    show (if a.1 = true then k :: idxR (k + 1) A else idxR (k + 1) A).length ≤ _
    split
    · simp only [List.length_cons]
      omega
    · simp only [List.length_cons]
      omega
theorem cut_nat (xs : List V) (a b : Nat) : cutV xs (some (a : Int)) (some (b : Int)) = (xs.take b).drop a := by
  unfold cutV
  rw [HT.sIx_nat, HT.sIx_nat]
  by_cases h : xs.length ≤ b
  · rw [List.take_of_length_le h, show min b xs.length = xs.length from by omega]
    by_cases h2 : xs.length ≤ a
    · rw [show min a xs.length = xs.length from by omega, List.drop_length, List.drop_of_length_le h2]
      exact List.take_nil
    · rw [show min a xs.length = a from by omega, List.take_of_length_le (by rw [List.length_drop]; omega)]
  · rw [show min b xs.length = b from by omega, List.drop_take]
    by_cases h2 : xs.length ≤ a
    · rw [show b - min a xs.length = b - xs.length from by omega, show b - xs.length = 0 from by omega, show b - a = 0 from by omega, List.take_zero, List.take_zero]
    · rw [show min a xs.length = a from by omega]
section
variable {K : PySem.W.Frag} {H H' : Hp}
abbrev intsV (ns : List Nat) : List V := ns.map fun (n : Nat) => V.int (n : Int)
/-- [at for at, run in enumerate(runs) if run[0]] -/
theorem lcIdx {R : Addr} {y0 y1 y2 y4 y5 y6 y7 : Option V} {rs : List Run} {Q : VK} (h : RunsAt K H R rs) (few : rs.length ≤ 200) (q : ∀ H' D, Same H H' → H' D = some (.lst (intsV (idxR 0 rs))) → Q (.ref D) H') :
    tLc (iEnumLT K (tCons (tVar 3) tNil)) (gTup K 2 (gCons (gName 5) (gCons (gName 6) gNil))) (tB (tOp (rIxT K) (tVar 6) (tC (.int 0)))) (tVar 5) [5, 6] [y0, y1, y2, some (.ref R), y4, y5, y6, y7] H Q := by
  obtain ⟨xs, hR, len, at_⟩ := h
  refine ⟨_, rfl, R, xs, rfl, .inl ⟨SqL.of hR, fun D hD => ?_⟩⟩
  refine lc_it (walk_enum (K := K) (a := R) (xs := xs)) (fun i H1 => Same H H1 ∧ H1 D = some (.lst (intsV (idxR 0 (rs.take i))))) ⟨same_upd hD, upd_same⟩ (fun i H1 _ P => SqL.of (P.1 _ _ hR)) ?_ ?_
  · rintro i z H1 H2 hi ⟨s1, h1⟩ ⟨T, x, y, rfl, hT, rfl, e1, hy⟩
    obtain rfl := Option.some.inj e1
    obtain ⟨r, hr⟩ : ∃ r, rs[i]? = some r := ⟨_, List.getElem?_eq_getElem (by omega)⟩
    have s2 := same_upd (o := .tup [.int (i : Nat), y]) hT
    obtain ⟨t, l, ks, rfl, g1, _⟩ := (at_ i y r hy hr).ext (ExtN.same (s1.trans s2))
    have h2 := s2 _ _ h1
    refine ⟨T, [.int (i : Nat), .ref t], rfl, .inl (.inl upd_same), rfl, _, _, rfl, _, _, rfl, rfl, rfl, ?_⟩
    refine ⟨_, rfl, t, [.bl r.1, .ref l], 0, .bl r.1, rfl, rfl, g1, atI_nat (j := 0) rfl, _, rfl, ?_⟩
    have li : (rs.take i).length = i := by rw [List.length_take]; omega
    rw [take_snoc hr, idx_snoc, li, Nat.zero_add]
    cases hb : r.1 with
    | false =>
      refine iteF ⟨s1.trans s2, ?_⟩
      rw [if_neg (by simp), List.append_nil]
      exact h2
    | true =>
      rw [if_pos rfl]
      have z := idx_len (rs.take i) 0
      refine iteT ⟨_, rfl, _, h2, by rw [List.length_map, sizeLine_eq]; omega, fun c o w => ?_, by rw [upd_same]; simp⟩
      rw [upd_ne (ne_of_none w hD)]
      exact s2 _ _ (s1 _ _ w)
  · rintro H1 ⟨s1, h1⟩
    rw [len, List.take_length] at h1
    exact q H1 D s1 h1
/-- [run[0] for _, run in xs] -/
theorem lcHeads {ts : TE} {y0 y1 y2 y3 y4 y5 y6 y7 : Option V} {xs : List V} {rs : List Run} {Q : VK} (hts : ∀ R : VK, (∀ H1 L0, Same H H1 → H1 L0 = some (.lst xs) → R (.ref L0) H1) → ts [y0, y1, y2, y3, y4, y5, y6, y7] H R) (len : xs.length = rs.length) (few : rs.length ≤ 200) (at_ : ∀ (i : Nat) x r, xs[i]? = some x → rs[i]? = some r → RunAt K H x r ∧ r.2 ≠ [])
    (q : ∀ H' D ks, Same H H' → H' D = some (.lst (rf ks)) → KsOk K H' ks → ks.map (·.2) = rs.map hdR → Q (.ref D) H') :
    tLc (iList K ts) (gTup K 2 (gCons (gName 7) (gCons (gName 6) gNil))) tYes (tOp (rIxL K) (tVar 6) (tC (.int 0))) [7, 6] [y0, y1, y2, y3, y4, y5, y6, y7] H Q := by
  refine hts _ fun H0 L0 s0 hL => ?_
  refine ⟨L0, rfl, ⟨_, SqL.of hL⟩, fun D hD => ?_⟩
  refine lc_list (K := K) (a := L0) (xs := xs) (fun i H1 => ∃ ks, Same H0 H1 ∧ H1 D = some (.lst (rf ks)) ∧ KsOk K H1 ks ∧ ks.map (·.2) = (rs.take i).map hdR) ⟨[], same_upd hD, upd_same, KsOk.nil, rfl⟩ (fun i H1 _ P => by obtain ⟨_, s1, _⟩ := P; exact SqL.of (s1 _ _ hL)) ?_ ?_
  · rintro i x H1 hx ⟨ks0, s1, h1, k1, e1⟩
    have il := (List.getElem?_eq_some_iff.mp hx).1
    obtain ⟨r, hr⟩ : ∃ r, rs[i]? = some r := ⟨_, List.getElem?_eq_getElem (by omega)⟩
    obtain ⟨ra, n⟩ := at_ i x r hx hr
    obtain ⟨t, l, ks, rfl, g1, g2, g3, g4⟩ := ra.ext (ExtN.same (s0.trans s1))
    obtain ⟨p, hp, ep⟩ : ∃ p, (rf ks)[0]? = some (.ref p.1) ∧ p ∈ ks ∧ hdR r = p.2 := by
      cases ks with
      | nil => exact absurd (by rw [← g4]; rfl) n
      | cons p ks => exact ⟨p, rfl, List.mem_cons_self, by unfold hdR; rw [← g4]; rfl⟩
    refine ⟨t, [.bl r.1, .ref l], rfl, g1, rfl, _, _, rfl, _, _, rfl, rfl, rfl, yesI ?_⟩
    have f : Fr1 D H1 (upd H1 D (.lst (rf ks0 ++ [.ref p.1]))) := Fr1.put
    have l1 := congrArg List.length e1
    rw [List.length_map, List.length_map, List.length_take] at l1
    refine ⟨_, rfl, l, rf ks, 0, _, rfl, rfl, SqL.of g2, atI_nat (j := 0) hp, _, h1, by rw [List.length_map, sizeLine_eq]; omega, ks0 ++ [p], fun c o w => ?_, by rw [upd_same]; simp, ?_, ?_⟩
    · rw [upd_ne (ne_of_none w hD)]
      exact s1 _ _ w
    · exact KsOk.app (ks_fr1 k1 f h1) (KsOk.one (f.sqT h1 (g3 p ep.1).1) (g3 p ep.1).2)
    · rw [take_snoc hr, List.map_append, List.map_append, e1]
      simp [ep.2]
  · rintro H1 ⟨ks, s1, h1, k1, e1⟩
    rw [len, List.take_length] at e1
    exact q H1 D ks (s0.trans s1) h1 k1 e1
end
section
variable {P : Program} {w : World} {K : PySem.W.Frag} {mg : Str → Option Value} {base : Heap}
theorem scWidest : FnScope ["inside", "outside", "narrow"] ["inside", "outside"] (defScope sWidest) := ⟨rfl, rfl, rfl, by decide +kernel, rfl, by decide +kernel, by decide +kernel⟩
theorem ok_widest {f CR CB CX : Addr} {fd : FuncData} {k : Nat} {T : List (Addr × Str)} (F : Fun K "widest_parting" "widest_parting" sWidest f fd) (DC : DefX P w K mg base "check_sides" k ["inside", "outside"] (spChkSd K CB)) (DP : DefX P w K mg base "parting" k ["inside", "outside"] (spParting K T CR CB)) (R : ROps P w K mg base CR CX k) :
    FnOk P w K mg base (L2.CX P w) (k + 1) f fd ["inside", "outside"] (spWidest K T CR CB) := by
  refine F.okX scWidest (fun vs H Q E h => ?_) (fun cdv A outer s H vs Q E hr h => ?_)
  · obtain ⟨x, y, rfl, _⟩ := h
    rfl
  · obtain ⟨x, y, rfl, h⟩ := h
    refine' ⟨_, pss_cons ?s1 (pss_cons ?s2 (pss_one ?s3)), ?_⟩
    case s1 => exact ps_expr (pe_dX DC hr (takes_of rfl rfl rfl rfl) (pa_cons (pv 0) (pa_cons (pv 1) pa_nil)))
    case s2 => exact ps_set (i := 2) scWidest.nd rfl (.inl rfl) (pe_dX DP hr (takes_of rfl rfl rfl rfl) (pa_cons (pv 1) (pa_cons (pv 0) pa_nil)))
    case s3 => exact ps_ret (pe_ifExp (pt_cmpR op_isN (pv 2) pe_non (nomark _)) pe_non (pe_un (un_invG R hr passL) (pv 2)))
    rcases h with ⟨i, o, hx, hy, li, lo, hT, q1, q2⟩ | ⟨hx, q⟩ | ⟨hx, hy, q⟩
    · refine ⟨x, rfl, y, rfl, x, y, rfl, .inl ⟨hx.jud li, hy.jud lo, fun H1 s1 => ?_⟩⟩
      refine ⟨y, rfl, x, rfl, y, x, rfl, .inl ⟨o, i, hy.same s1, hx.same s1, lo, li, hT.ext s1, fun c H2 e2 T2 => ?_, fun c H2 z e2 T2 hz => ?_⟩⟩
      · rw [touch_comm] at c
        exact ⟨_, rfl, rfl, _, rfl, iteT (q1 c H2 ((ExtN.same s1).trans e2) T2)⟩
      · rw [touch_comm] at c
        have ap := touch_apt c
        obtain ⟨hz2, le0⟩ : IsR K CR H2 z (partN o i) ∧ (partN o i).length ≤ o.length := hz
        obtain ⟨a, dx, t, zs, rfl, _⟩ := id hz2
        have nf := partN_nf (apt_comm ap) hy.ok
        refine ⟨_, rfl, rfl, _, rfl, iteF ⟨_, rfl, un_read hz2 nf (by omega) fun H3 z3 s3 _ hz3 => ?_⟩⟩
        exact q2 c H3 _ (((ExtN.same s1).trans e2).trans (ExtN.same s3)) (T2.ext s3) hz3
    · exact ⟨x, rfl, y, rfl, x, y, rfl, .inr (.inl ⟨hx, q⟩)⟩
    · exact ⟨x, rfl, y, rfl, x, y, rfl, .inr (.inr ⟨hx, hy, q⟩)⟩
abbrev nAlt : List Str := ["inside", "outside", "version", "runs", "turns", "at", "run", "_"]
theorem scAlt : FnScope nAlt ["inside", "outside"] (defScope sAlt) := ⟨rfl, rfl, rfl, by decide +kernel, rfl, by decide +kernel, by decide +kernel⟩
end
end Kw
set_option maxHeartbeats 4000000
namespace Kw
open PySem PySem.Spec PyProof.Rows L2 LamX SX
section
variable {P : Program} {w : World} {K : PySem.W.Frag} {mg : Str → Option Value} {base : Heap}
theorem ok_alt {f CB : Addr} {fd : FuncData} {k : Nat} {T : List (Addr × Str)} (F : Fun K "alternation" "alternation" sAlt f fd) (DC : DefX P w K mg base "check_sides" k ["inside", "outside"] (spChkSd K CB)) (many : mg "any" = none) (me : mg "enumerate" = none) (mt : mg "tuple" = none)
    (DR : Def P w K mg base "runs_of" CX0 k ["inside", "outside"] (spRuns K)) : FnOk P w K mg base (L2.CX P w) (k + 1) f fd ["inside", "outside"] (spAlt K T CB) := by
  refine F.okX scAlt (fun vs H Q E h => ?_) (fun cdv A outer s H vs Q E hr h => ?_)
  · obtain ⟨x, y, rfl, _⟩ := h
    rfl
  · obtain ⟨x, y, rfl, h⟩ := h
    refine' ⟨_, pss_cons ?s1 (pss_cons ?s2 (pss_cons ?s3 (pss_cons ?s4 (pss_cons ?s5 (pss_one ?s6))))), ?_⟩
    case s1 => exact ps_expr (pe_dX DC hr (takes_of rfl rfl rfl rfl) (pa_cons (pv 0) (pa_cons (pv 1) pa_nil)))
    case s2 => exact (ps_if (pt_val (pe_callB (cr_any rfl) (by rfl) many (by decide +kernel) (pa_cons (pe_lc (own := [("version", 2)]) (g := gName 2) (tt := tYes) (te := tOp (rInV K) (tVar 2) (tVar 1)) rfl scAlt.nd (pi_lt (pv 0)) (blkOk_by (N := nAlt) (sc := defScope sAlt) (by decide +kernel))
        (fun _ _ _ _ _ => pg_name (i := 2) scAlt.nd rfl (Or.inl rfl)) (fun _ _ _ _ _ => pts_nil) (fun _ _ _ _ _ => pe_cmpR (op_inV (un65 hr)) (pv 2) (pv 1) rfl)) pa_nil))) (pss_one (ps_ret pe_non)) pss_nil)
    case s3 => exact ps_set (i := 3) scAlt.nd rfl (.inl rfl) (pe_d DR hr (pa_cons (pv 0) (pa_cons (pv 1) pa_nil)))
    case s4 => exact (ps_setLc (i := 4) (own := [("at", 5), ("run", 6)]) (g := gTup K 2 (gCons (gName 5) (gCons (gName 6) gNil))) (tt := tB (tOp (rIxT K) (tVar 6) (tC (.int 0)))) (te := tVar 5) rfl scAlt.nd rfl rfl (sw_true rfl rfl rfl (by decide +kernel)) (pi_enumLT (by rfl) me (pa_cons (pv 3) pa_nil)) (blkOk_by (N := nAlt) (sc := defScope sAlt) (by decide +kernel))
        (fun _ _ _ _ _ => pg_tup rfl (pgs_cons (pg_name (i := 5) scAlt.nd rfl (.inl rfl)) (pgs_cons (pg_name (i := 6) scAlt.nd rfl (.inl rfl)) pgs_nil))) (fun _ _ _ _ _ => pts_one (pt_val (pe_ix (r := rIxT K) ix_tup (pv 6) pe_int (fun _ _ => rfl)))) (fun _ _ _ _ _ => pv 5))
    case s5 => exact ps_if (pt_not (pt_truth (pv 4) (fun _ => rfl))) (pss_one (ps_ret (pe_tup pa_nil))) pss_nil
    case s6 => exact (ps_ret (pe_callTy call_tuple_of (by rfl) mt (by decide +kernel) (pa_cons (pe_lc (own := [("_", 7), ("run", 6)]) (g := gTup K 2 (gCons (gName 7) (gCons (gName 6) gNil))) (tt := tYes) (te := tOp (rIxL K) (tVar 6) (tC (.int 0))) rfl scAlt.nd (pi_list (pe_slice sl_list (pv 3) (po_some (pe_ix ix_list (pv 4) pe_int (fun _ _ => rfl))) (po_some (pe_op op_add (pe_ix ix_list (pv 4) (pe_un un_neg pe_int) (fun _ _ => rfl)) pe_int)))) (blkOk_by (N := nAlt) (sc := defScope sAlt) (by decide +kernel))
        (fun _ _ _ _ _ => pg_tup rfl (pgs_cons (pg_name (i := 7) scAlt.nd rfl (.inl rfl)) (pgs_cons (pg_name (i := 6) scAlt.nd rfl (.inl rfl)) pgs_nil))) (fun _ _ _ _ _ => pts_nil) (fun _ _ _ _ _ => pe_ix (r := rIxL K) ix_list (pv 6) pe_int (fun _ _ => rfl))) pa_nil)))
    rcases h with ⟨i, o, hx, hy, li, lo, hT, q1, q2⟩ | ⟨hx, q⟩ | ⟨hx, hy, q⟩
    · refine ⟨x, rfl, y, rfl, x, y, rfl, .inl ⟨hx.jud li, hy.jud lo, fun H1 s1 => ?_⟩⟩
      have hx1 := hx.same s1
      have hy1 := hy.same s1
      refine touch_read hx1 hy1 (by omega) rfl (fun _ => rfl) (fun _ => rfl) (fun _ => rfl) fun H2 s2 => ?_
      have T2 := (hT.ext s1).ext s2
      have e2 := ExtN.same (s1.trans s2)
      cases c : touchB i o with
      | true => exact ⟨_, rfl, iteT (q1 c H2 e2 T2)⟩
      | false =>
        refine ⟨_, rfl, iteF ?_⟩
        have ap := touch_apt c
        have oki : ∀ v ∈ i, okV v := hx.ok
        have oko : ∀ v ∈ o, okV v := hy.ok
        dsimp only [L2.tNext, tSeq, tAsg]
        refine ⟨x, rfl, y, rfl, x, y, i, o, rfl, hx1.same s2, hy1.same s2, li, lo, fun H3 R L s3 pm up hR => ?_⟩
        have S := sides_perm pm up
        have rr := runs_is L
        have main := alt_main S ap oki
        have few : (runsL L).length ≤ 200 := by
          have z3 := runs_few _ rr.ne
          rw [rr.flat, pm.length_eq, List.length_append, List.length_map, List.length_map] at z3
          omega
        have ne := rr.ne
        replace q2 : ∀ H' z, ExtN H H' → Tabs T H' → TsAt K H' z (altL (runsL L)) → Q z H' := fun H' z e t h => q2 c H' z e t (by rw [main] at h; exact h)
        clear main S rr
        generalize runsL L = rs at hR few ne q2
        dsimp only [gName, tSeq, tAsg]
        refine lcIdx (y0 := some x) (y1 := some y) (y2 := none) (y4 := none) (y5 := none) (y6 := none) (y7 := none) hR few fun H4 D s4 hD => ?_
        obtain ⟨xs, eR, len, at_⟩ := hR
        have T4 := (T2.ext s3).ext s4
        have e4 := (e2.trans (ExtN.same s3)).trans (ExtN.same s4)
        dsimp only [tIfS, L2.tNext, tRet, gName]
        refine ⟨_, rfl, _, .inl ⟨_, SqL.of hD, rfl⟩, ?_⟩
        cases hi : idxR 0 rs with
        | nil =>
          have ea : altL rs = [] := by
            unfold altL
            rw [hi]
            rfl
          refine iteT ⟨Nat.zero_le _, fun p hp => ?_⟩
          have s5 := same_upd (o := .tup []) hp
          exact q2 _ _ (e4.trans (ExtN.same s5)) (T4.ext s5) ⟨p, [], rfl, .inl (.inl upd_same), KsOk.nil, ea.symm⟩
        | cons a more =>
          obtain ⟨A, b, eb⟩ : ∃ A b, a :: more = A ++ [b] := ⟨_, _, (List.dropLast_concat_getLast (by simp)).symm⟩
          have ea : altL rs = ((rs.take (b + 1)).drop a).map hdR := by
            unfold altL
            rw [hi, eb, List.getLast?_concat, ← eb]
            rfl
          rw [hi] at hD
          refine iteF (one_arg (lcHeads (xs := (xs.take (b + 1)).drop a) (rs := (rs.take (b + 1)).drop a) (fun Rr g => ?_) (by simp [len]) (Nat.le_trans (by simp; omega) few) (fun j z r hz hr => ?_) fun H6 D6 ks s6 h6 k6 e6 => ?_))
          · refine ⟨_, rfl, _, rfl, D, intsV (a :: more), 0, .int (a : Int), rfl, rfl, SqL.of hD, atI_nat (j := 0) rfl, _, rfl, ?_⟩
            refine ⟨_, rfl, 1, rfl, D, intsV (a :: more), -1, .int (b : Int), rfl, rfl, SqL.of hD, ?_, (b : Int), 1, rfl, rfl, _, rfl, R, xs, rfl, SqL.of (s4 _ _ eR), fun p hp => ?_⟩
            · rw [eb]
              show atI ((A ++ [b]).map fun (n : Nat) => V.int (n : Int)) (-1) = _
              rw [List.map_append]
              exact atI_last _ _
            · refine g _ p (same_upd hp) ?_
              rw [upd_same, show ((b : Int) + 1) = ((b + 1 : Nat) : Int) from by omega, cut_nat]
          · rw [List.getElem?_drop] at hz hr
            rw [List.getElem?_take] at hz hr
            split at hz
            · rename_i c2
              rw [if_pos c2] at hr
              exact ⟨(at_ _ z r hz hr).ext (ExtN.same s4), ne r (List.mem_of_getElem? hr)⟩
            · cases hz
          · refine ⟨D6, rf ks, rfl, .inl ⟨SqL.of h6, fun p hp => ?_⟩⟩
            have s7 := same_upd (o := .tup (rf ks)) hp
            exact q2 _ _ ((e4.trans (ExtN.same s6)).trans (ExtN.same s7)) ((T4.ext s6).ext s7) ⟨p, ks, rfl, .inl (.inl upd_same), k6.same s7, by rw [e6, ea]⟩
    · exact ⟨x, rfl, y, rfl, x, y, rfl, .inr (.inl ⟨hx, q⟩)⟩
    · exact ⟨x, rfl, y, rfl, x, y, rfl, .inr (.inr ⟨hx, hy, q⟩)⟩
end
end Kw
set_option maxHeartbeats 4000000
namespace Kw
open PySem PySem.Spec PyProof.Rows L2 LamX SX RZ
abbrev sRising : Stmt := top 18
abbrev sIsAlt : Stmt := top 35
/-! ### is_rising, is_alternation -/
section
variable {K : PySem.W.Frag} {a b : Addr} {xs ys : List V}
theorem walk_zipT {n : Nat} (hn : n = min xs.length ys.length) : Walk (ItzT K a b) n (fun H => SqT K H a xs ∧ SqT K H b ys) (YPair (fun i => xs[i]?) (fun i => ys[i]?)) := by
  subst hn
  refine ⟨fun i _ hi q => ⟨xs, ys, xs[i]'(by omega), ys[i]'(by omega), q.1, q.2, List.getElem?_eq_getElem _, List.getElem?_eq_getElem _⟩, fun _ q => ⟨xs, ys, q.1, q.2, by omega⟩, fun i H v H' _ q y => ?_⟩
  obtain ⟨T, x, z, e1, e2, e3, e4, e5⟩ := y
  exact ⟨T, x, z, e1, e2, e3, e4 xs q.1, e5 ys q.2⟩
theorem walk_enumT : Walk (IteT K a) xs.length (fun H => SqT K H a xs) (YPair (fun i => some (.int (i : Nat))) (fun i => xs[i]?)) := by
  refine ⟨fun i _ hi q => ⟨xs, xs[i], q, List.getElem?_eq_getElem hi⟩, fun _ q => ⟨xs, q, rfl⟩, fun i H v H' _ q y => ?_⟩
  obtain ⟨T, x, e1, e2, e3, e4⟩ := y
  exact ⟨T, .int (i : Nat), x, e1, e2, e3, rfl, e4 xs q⟩
end
/-- each one less than the next -/
def risL : List Ver → List Bool
  | v :: u :: l => decide (ltV v u) :: risL (u :: l)
  | _ => []
theorem risL_all : ∀ us : List Ver, (risL us).all id = risB us
  | [] => rfl
  | [v] => rfl
  | v :: u :: l => by
    show (decide (ltV v u) && (risL (u :: l)).all id) = _
    rw [risL_all (u :: l)]
    rfl
theorem risL_len : ∀ us : List Ver, (risL us).length = us.length - 1
  | [] => rfl
  | [v] => rfl
  | v :: u :: l => by
    have z := risL_len (u :: l)
    simp only [risL, List.length_cons] at z ⊢
    omega
theorem risL_at : ∀ (us : List Ver) (j : Nat) {v u : Ver}, us[j]? = some v → us[j + 1]? = some u → (risL us)[j]? = some (decide (ltV v u))
  | [], j, _, _, h, _ => by simp at h
  | [v], j, _, _, _, h => by simp at h
  | v :: u :: l, 0, x, y, h, g => by
    obtain rfl := Option.some.inj h
    obtain rfl := Option.some.inj g
    rfl
  | v :: u :: l, j + 1, x, y, h, g => risL_at (u :: l) j h g
def inL (i o : List Ver) : Nat → List Ver → List Bool
  | _, [] => []
  | k, v :: l => decide (v ∈ (if k % 2 = 0 then i else o)) :: inL i o (k + 1) l
theorem inL_all (i o : List Ver) : ∀ (us : List Ver) (k : Nat), (inL i o k us).all id = inB i o k us
  | [], _ => rfl
  | v :: l, k => by
    show (decide _ && (inL i o (k + 1) l).all id) = _
    rw [inL_all i o l (k + 1)]
    rfl
theorem inL_len (i o : List Ver) : ∀ (us : List Ver) (k : Nat), (inL i o k us).length = us.length
  | [], _ => rfl
  | v :: l, k => by
    show (inL i o (k + 1) l).length + 1 = _
    rw [inL_len i o l (k + 1)]
    rfl
theorem inL_at (i o : List Ver) : ∀ (us : List Ver) (k j : Nat) {v : Ver}, us[j]? = some v → (inL i o k us)[j]? = some (decide (v ∈ (if (k + j) % 2 = 0 then i else o)))
  | [], _, _, _, h => by simp at h
  | v :: l, k, 0, x, h => by
    obtain rfl := Option.some.inj h
    rfl
  | v :: l, k, j + 1, x, h => by
    have z := inL_at i o l (k + 1) j h
    rw [show k + 1 + j = k + (j + 1) from by omega] at z
    exact z
theorem and_one (n : Nat) : Builtin.bitAnd (n : Int) 1 = ((n % 2 : Nat) : Int) := by
  have z := Bits.bitAnd_mask (x := (n : Int)) 1 (by omega)
  have e : (2 : Int) ^ 1 - 1 = 1 := by decide
  have e2 : (2 : Int) ^ 1 = 2 := by decide
  rw [e, e2] at z
  rw [z]
  omega
section
variable {K : PySem.W.Frag} {H H' : Hp}
/-- a comprehension of bools over pairs -/
theorem lcPairB {J : It} {n : Nat} {G : Hp → Prop} {f g : Nat → Option V} (w : Walk J n G (YPair f g)) {σ : L2.St} {tg : TG} {te : TE} {vs : List Nat} {bs : List Bool} {Qd : Addr → Hp → Prop} (len : bs.length = n) (few : n ≤ 1000) (hG : ∀ H', Same H H' → G H')
    (step : ∀ (i : Nat) (T : Addr) (x y : V) (b : Bool) (H1 : Hp) (Q2 : VK), f i = some x → g i = some y → bs[i]? = some b → Same H H1 → H1 T = some (.tup [x, y]) → (∀ H2, Same H1 H2 → Q2 (.bl b) H2) → tg (.ref T) (wipe σ vs) H1 fun σ2 H2 => wipe σ2 vs = wipe σ vs ∧ te σ2 H2 Q2)
    (q : ∀ H' D, Same H H' → H' D = some (.lst (bs.map V.bl)) → Qd D H') : ∀ D, H D = none → ∃ W : Nat → Nat → Hp → Prop, (∃ m, W 0 m (upd H D (.lst []))) ∧ ∀ i m H, W i m H →
      (J.stop i H ∧ Qd D H) ∨ (J.go i H ∧ ∃ Nx : Hp → Prop, (∀ H', Nx H' → ∃ m', m' < m ∧ W (i + 1) m' H') ∧ ∀ x H', J.yld i H x H' → tg x (wipe σ vs) H' fun σ2 H2 => wipe σ2 vs = wipe σ vs ∧ tYes σ2 H2 fun b H3 =>
        if b = true then te σ2 H3 fun y H4 => ∃ acc, H4 D = some (.lst acc) ∧ acc.length < sizeLine ∧ Nx (upd H4 D (.lst (acc ++ [y]))) else Nx H3) := by
  intro D hD
  refine lc_it w (fun i H1 => Same H H1 ∧ H1 D = some (.lst ((bs.take i).map V.bl))) ⟨same_upd hD, upd_same⟩ (fun i H1 _ P => hG H1 P.1) ?_ ?_
  · rintro i z H1 H2 hi ⟨s1, h1⟩ ⟨T, x, y, rfl, hT, rfl, e1, e2⟩
    obtain ⟨b, hb⟩ : ∃ b, bs[i]? = some b := ⟨_, List.getElem?_eq_getElem (by omega)⟩
    have s2 := same_upd (o := .tup [x, y]) hT
    have key := step i T x y b (upd H1 T (.tup [x, y])) (fun y H4 => ∃ acc, H4 D = some (.lst acc) ∧ acc.length < sizeLine ∧ (Same H (upd H4 D (.lst (acc ++ [y]))) ∧ (upd H4 D (.lst (acc ++ [y]))) D = some (.lst ((bs.take (i + 1)).map V.bl)))) e1 e2 hb (s1.trans s2) upd_same fun H4 s4 => by
      refine ⟨_, s4 _ _ (s2 _ _ h1), by rw [List.length_map, List.length_take, sizeLine_eq]; omega, fun c o u => ?_, ?_⟩
      · rw [upd_ne (ne_of_none u hD)]
        exact s4 _ _ (s2 _ _ (s1 _ _ u))
      · rw [upd_same, take_snoc hb, List.map_append]
        rfl
    exact key
  · rintro H1 ⟨s1, h1⟩
    rw [← len, List.take_length] at h1
    exact q H1 D s1 h1
end
def spRising (K : PySem.W.Frag) : Sp := fun vs H Q _ => ∃ (x : V) (us : List Ver), vs = [x] ∧ TsAt K H x us ∧ us ≠ [] ∧ us.length ≤ 100 ∧ ∀ H', Same H H' → Q (.bl (risB us)) H'
/-- a value that is asked about, and what is due -/
def ValA (K : PySem.W.Frag) (H : Hp) (x : V) (i o : List Ver) (b : Bool) : Prop := (∃ T, Oth H x T ∧ b = false) ∨ (∃ t, x = .ref t ∧ SqT K H t [.non] ∧ b = false) ∨ ∃ us, TsAt K H x us ∧ us.length ≤ 100 ∧ b = altB i o us
theorem ValA.ext {K : PySem.W.Frag} {H H' : Hp} {x : V} {i o : List Ver} {b : Bool} (h : ValA K H x i o b) (e : ExtN H H') : ValA K H' x i o b := by
  rcases h with ⟨T, h, z⟩ | ⟨t, z, h, z2⟩ | ⟨us, h, r⟩
  · exact .inl ⟨T, h.ext e, z⟩
  · exact .inr (.inl ⟨t, z, e.sqT h, z2⟩)
  · exact .inr (.inr ⟨us, h.ext e, r⟩)
def spIsAlt (K : PySem.W.Frag) (CB : Addr) : Sp := fun vs H Q E => ∃ (x y z : V), vs = [x, y, z] ∧ ((∃ i o b, VsAt K H x i ∧ VsAt K H y o ∧ i.length ≤ 40 ∧ o.length ≤ 40 ∧ ValA K H z i o b ∧ ∀ H', Same H H' → Q (.bl b) H') ∨
  (JudV K H x false ∧ PAt E CB "inside" H) ∨ (JudV K H x true ∧ JudV K H y false ∧ PAt E CB "outside" H))
section
variable {P : Program} {w : World} {K : PySem.W.Frag} {mg : Str → Option Value} {base : Heap}
theorem scRising : FnScope ["row", "low", "high"] ["row"] (defScope sRising) := ⟨rfl, rfl, rfl, by decide +kernel, rfl, by decide +kernel, by decide +kernel⟩
theorem ok_rising {f : Addr} {fd : FuncData} {k : Nat} (F : Fun K "is_rising" "is_rising" sRising f fd) (ma : mg "all" = none) (mz : mg "zip" = none) : FnOk P w K mg base CX0 (k + 1) f fd ["row"] (spRising K) := by
  refine F.ok scRising (fun vs H Q E h => ?_) (fun cdv A outer s H vs Q E hr h => ?_)
  · obtain ⟨x, us, rfl, _⟩ := h
    rfl
  · obtain ⟨x, us, rfl, ⟨t, ks, rfl, ht, hk, rfl⟩, ne, few, q⟩ := h
    refine' ⟨_, pss_one ?s1, ?_⟩
    case s1 => exact (ps_ret (pe_callB (cr_all rfl) (by rfl) ma (by decide +kernel) (pa_cons (pe_lc (own := [("low", 1), ("high", 2)]) (g := gTup K 2 (gCons (gName 1) (gCons (gName 2) gNil))) (tt := tYes) (te := tOp (rVer K .Lt) (tVar 1) (tVar 2)) rfl scRising.nd (pi_zipA (by rfl) mz (pa_cons (pv 0) (pa_cons (pe_slice sl_tupA (pv 0) (po_some pe_int) po_none) pa_nil))) (blkOk_by (N := ["row", "low", "high"]) (sc := defScope sRising) (by decide +kernel))
        (fun _ _ _ _ _ => pg_tup rfl (pgs_cons (pg_name (i := 1) scRising.nd rfl (.inl rfl)) (pgs_cons (pg_name (i := 2) scRising.nd rfl (.inl rfl)) pgs_nil))) (fun _ _ _ _ _ => pts_nil) (fun _ _ _ _ _ => pe_cmpR (op_ver (op := .Lt) (.inl rfl) hr.units0) (pv 1) (pv 2) (nomark _))) pa_nil)))
    have n1 : 0 < ks.length := by
      have := List.length_pos_iff.mpr ne
      rwa [List.length_map] at this
    rw [List.length_map] at few
    have cut : cutV (rf ks) (some 1) none = rf (ks.drop 1) := by
      unfold cutV
      rw [show (1 : Int) = ((1 : Nat) : Int) from rfl, HT.sIx_none, HT.sIx_nat, List.length_map, show min 1 ks.length = 1 from by omega, List.take_of_length_le (by simp), ← List.map_drop]
    refine one_arg ⟨_, rfl, _, rfl, 1, rfl, t, rf ks, rfl, ht, (fun z => ?_), fun _ p hp => ?_⟩
    · have z1 := z.1
      rw [show (1 : Int) = ((1 : Nat) : Int) from rfl, HT.sIx_nat, List.length_map] at z1
      omega
    · rw [cut]
      have s1 := same_upd (o := .tup (rf (ks.drop 1))) hp
      refine ⟨t, p, rf ks, rf (ks.drop 1), rfl, .inr ⟨Same.sqT s1 ht, .inl (.inl upd_same), ?_⟩⟩
      refine lcPairB (σ := [some (.ref t), none, none]) (tg := gTup K 2 (gCons (gName 1) (gCons (gName 2) gNil))) (te := tOp (rVer K .Lt) (tVar 1) (tVar 2)) (vs := [1, 2]) (walk_zipT (n := ks.length - 1) (by rw [List.length_map, List.length_map, List.length_drop]; omega)) (bs := risL (ks.map (·.2))) (by rw [risL_len, List.length_map]) (by omega) (fun H1 s2 => ⟨Same.sqT (s1.trans s2) ht, Same.sqT s2 (.inl (.inl upd_same))⟩) ?_ fun H1 D s2 hD => ?_
      · intro i T x y b H1 Q2 hx hy hb s2 hT q2
        rw [List.getElem?_map] at hx hy
        obtain ⟨p1, hp1, rfl⟩ := Option.map_eq_some_iff.mp hx
        obtain ⟨p2, hp2, rfl⟩ := Option.map_eq_some_iff.mp hy
        rw [List.getElem?_drop, Nat.add_comm] at hp2
        rw [risL_at (ks.map (·.2)) i (v := p1.2) (u := p2.2) (by rw [List.getElem?_map, hp1]; rfl) (by rw [List.getElem?_map, hp2]; rfl)] at hb
        obtain rfl := Option.some.inj hb
        refine ⟨T, [.ref p1.1, .ref p2.1], rfl, .inl (.inl hT), rfl, _, _, rfl, _, _, rfl, rfl, rfl, ?_⟩
        exact ⟨_, rfl, _, rfl, p1.2, p2.2, ⟨_, rfl, Same.sqT (s1.trans s2) (hk p1 (List.mem_of_getElem? hp1)).1⟩, ⟨_, rfl, Same.sqT (s1.trans s2) (hk p2 (List.mem_of_getElem? hp2)).1⟩, q2 H1 (Same.refl H1)⟩
      · refine ⟨D, _, rfl, SqL.of hD, ?_⟩
        rw [risL_all]
        exact q H1 (s1.trans s2)
end
end Kw
set_option maxHeartbeats 4000000
namespace Kw
open PySem PySem.Spec PyProof.Rows L2 LamX SX RZ
theorem lay_tup (vs : List Ver) : (PyData.tuple (vs.map verD)).canLay0 = true := by simp [PyData.canLay0, lay_vers vs]
theorem dep_vers : ∀ vs : List Ver, PyData.depthAll (vs.map verD) ≤ 1
  | [] => by simp [PyData.depthAll]
  | v :: vs => by
    have z := dep_vers vs
    have y := (cl_ver v).2
    simp only [List.map_cons, PyData.depthAll]
    omega
theorem shaped_tupV (vs : List Ver) : SeqAt.shaped (.tuple (vs.map verD)) = true := by
  simp only [SeqAt.shaped, lay_tup vs, Bool.true_and]
  have := dep_vers vs
  exact decide_eq_true (by simp only [PyData.depth]; omega)
theorem eqv_tupNil (vs : List Ver) : PyData.eqv (.tuple (vs.map verD)) (.tuple []) = decide (vs = []) := by
  cases vs <;> simp [PyData.eqv, PyData.eqvAll]
abbrev tOdd (K : PySem.W.Frag) (i : Nat) : TT := fun σ H Q => (tOp (rI0 fun i j => .int (Builtin.bitAnd i j)) (tVar i) (tC (.int 1))) σ H fun x H' => ∃ k, TruV K x H' k ∧ Q k H'
section
variable {P : Program} {w : World} {K : PySem.W.Frag} {mg : Str → Option Value} {base : Heap}
abbrev nIsA : List Str := ["inside", "outside", "value", "version", "at"]
theorem scIsAlt : FnScope nIsA ["inside", "outside", "value"] (defScope sIsAlt) := ⟨rfl, rfl, rfl, by decide +kernel, rfl, by decide +kernel, by decide +kernel⟩
theorem ok_isAlt {f CB : Addr} {fd : FuncData} {k : Nat} (F : Fun K "is_alternation" "is_alternation" sIsAlt f fd) (DC : DefX P w K mg base "check_sides" k ["inside", "outside"] (spChkSd K CB)) (mi : mg "isinstance" = none) (mt : mg "tuple" = none) (ma : mg "all" = none) (ml : mg "len" = none) (me : mg "enumerate" = none)
    (DV : Def P w K mg base "is_version" CX0 k ["value"] (spVerB K)) (DS : Def P w K mg base "is_rising" CX0 k ["row"] (spRising K)) : FnOk P w K mg base (L2.CX P w) (k + 1) f fd ["inside", "outside", "value"] (spIsAlt K CB) := by
  refine F.okX scIsAlt (fun vs H Q E h => ?_) (fun cdv A outer s H vs Q E hr h => ?_)
  · obtain ⟨x, y, z, rfl, _⟩ := h
    rfl
  · obtain ⟨x, y, z, rfl, h⟩ := h
    refine' ⟨_, pss_cons ?s1 (pss_cons ?s2 (pss_cons ?s3 (pss_one ?s4))), ?_⟩
    case s1 => exact ps_expr (pe_dX DC hr (takes_of rfl rfl rfl rfl) (pa_cons (pv 0) (pa_cons (pv 1) pa_nil)))
    case s2 => exact (ps_if (PW.pt (pw_or (pt_not (pt_val (pe_callB call_isi (by rfl) mi (by decide +kernel) (pa_cons (pv 2) (pa_cons (pe_bltn (v := .ty "tuple") (by rfl) mt (by decide +kernel) rfl) pa_nil)))))
        (pw_or1 (pt_not (pt_val (pe_callB (cr_all rfl) (by rfl) ma (by decide +kernel) (pa_cons (pe_lc (own := [("version", 3)]) (g := gName 3) (tt := tYes) (te := tCall (spVerB K) [] E0 (tCons (tVar 3) tNil)) rfl scIsAlt.nd (pi_lt (pv 2)) (blkOk_by (N := nIsA) (sc := defScope sIsAlt) (by decide +kernel))
          (fun _ _ _ _ _ => pg_name (i := 3) scIsAlt.nd rfl (Or.inl rfl)) (fun _ _ _ _ _ => pts_nil) (fun _ _ _ _ _ => pe_d DV hr (pa_cons (pv 3) pa_nil))) pa_nil))))))) (pss_one (ps_ret pe_bl)) pss_nil)
    case s3 => exact (ps_if (PW.pt (pw_or (pt_cmpR op_eq (pe_op op_and (pe_callB call_len_seq (by rfl) ml PySem.boot_len (pa_cons (pv 2) pa_nil)) pe_int) pe_int (nomark _)) (pw_or1 (pt_not (pt_val (pe_d DS hr (pa_cons (pv 2) pa_nil))))))) (pss_one (ps_ret (pe_cmpR (op_eqD hr.units) (pv 2) (pe_tup pa_nil) (nomark _)))) pss_nil)
    case s4 => exact (ps_ret (pe_callB (cr_all rfl) (by rfl) ma (by decide +kernel) (pa_cons (pe_lc (own := [("at", 4), ("version", 3)]) (g := gTup K 2 (gCons (gName 4) (gCons (gName 3) gNil))) (tt := tYes) (te := tOp (rInV K) (tVar 3) (tIf (tOdd K 4) (tVar 1) (tVar 0))) rfl scIsAlt.nd (pi_enumLT (by rfl) me (pa_cons (pv 2) pa_nil)) (blkOk_by (N := nIsA) (sc := defScope sIsAlt) (by decide +kernel))
        (fun _ _ _ _ _ => pg_tup rfl (pgs_cons (pg_name (i := 4) scIsAlt.nd rfl (.inl rfl)) (pgs_cons (pg_name (i := 3) scIsAlt.nd rfl (.inl rfl)) pgs_nil))) (fun _ _ _ _ _ => pts_nil) (fun _ _ _ _ _ => pe_cmpR (op_inV (un65 hr)) (pv 3) (pe_ifExp (pt_truth (pe_op op_and (pv 4) pe_int) (fun _ => rfl)) (pv 1) (pv 0)) rfl)) pa_nil)))
    rcases h with ⟨i, o, b, hx, hy, li, lo, hz, q⟩ | ⟨hx, q⟩ | ⟨hx, hy, q⟩
    · refine ⟨x, rfl, y, rfl, x, y, rfl, .inl ⟨hx.jud li, hy.jud lo, fun H1 s1 => ?_⟩⟩
      have hz1 := hz.ext (ExtN.same s1)
      have hx1 := hx.same s1
      have hy1 := hy.same s1
      replace q : ∀ H', Same H1 H' → Q (.bl b) H' := fun H' s => q H' (s1.trans s)
      dsimp only [tSeq, tIfS]
      rcases hz1 with ⟨T, oz, rfl⟩ | ⟨t, rfl, ht, rfl⟩ | ⟨us, ⟨t, ks, rfl, ht, hk, rfl⟩, few, rfl⟩
      · exact ⟨_, rfl, z, .ty "tuple", .type T, .type "tuple", false, rfl, .ty _, oz.ty, kit_ty oz.no, false, rfl, iteT (iteT (q H1 (Same.refl H1)))⟩
      · refine ⟨_, rfl, .ref t, .ty "tuple", .type "tuple", .type "tuple", true, rfl, .ty _, ty_tup ht, kit_ty (by decide +kernel), true, rfl, iteF ?_⟩
        refine one_arg (lcB (a := t) (xs := [.non]) (bs := [false]) (fun R r => ⟨_, rfl, r⟩) (.inr ht) rfl (by decide) (fun j y b H2 Q2 hy hb s2 q2 => ⟨rfl, ?_⟩) fun H2 D s2 hD => ⟨D, [false], rfl, SqL.of hD, false, rfl, iteT (q H2 s2)⟩)
        cases j with
        | zero =>
          obtain rfl := Option.some.inj hy
          obtain rfl := Option.some.inj hb
          exact ⟨_, rfl, .non, false, rfl, .oth (.flat .non), fun H3 s3 => q2 H3 s3⟩
        | succ j => simp at hy
      · refine ⟨_, rfl, .ref t, .ty "tuple", .type "tuple", .type "tuple", true, rfl, .ty _, ty_tup ht, kit_ty (by decide +kernel), true, rfl, iteF ?_⟩
        rw [List.length_map] at few
        refine one_arg (lcB (a := t) (xs := rf ks) (bs := ks.map fun _ => true) (fun R r => ⟨_, rfl, r⟩) (.inr ht) (by simp) (by rw [List.length_map]; omega) (fun j y b H2 Q2 hy hb s2 q2 => ⟨rfl, ?_⟩) fun H2 D s2 hD => ⟨D, ks.map fun _ => true, rfl, SqL.of hD, true, ?_, iteF ?_⟩)
        · exact ⟨_, rfl, y, b, rfl, ((judged_vers hk).ext (ExtN.same s2)).at_ j y b hy hb, fun H3 s3 => q2 H3 s3⟩
        · congr 1
          rw [List.all_eq_true]
          intro c hc
          obtain ⟨_, _, rfl⟩ := List.mem_map.mp hc
          rfl
        · have ht2 := Same.sqT s2 ht
          have hk2 := hk.same s2
          have hx2 := hx1.same s2
          have hy2 := hy1.same s2
          replace q : ∀ H', Same H2 H' → Q (.bl (altB i o (ks.map (·.2)))) H' := fun H' s => q H' (s2.trans s)
          clear hD
          -- value == ()
          have isNil : ∀ H3, Same H2 H3 → (altB i o (ks.map (·.2)) = decide (ks.map (·.2) = [])) → tOp (rEqD K) (tVar 2) (tTup tNil) [some x, some y, some (.ref t), none, none] H3 Q := fun H3 s3 e => by
            refine ⟨_, rfl, Nat.zero_le _, fun p hp => ?_⟩
            have s4 := same_upd (o := .tup []) hp
            refine ⟨.tuple ((ks.map (·.2)).map verD), .tuple [], .tup (Same.sqT (s3.trans s4) ht2) (dp_verL ks (hk2.same (s3.trans s4))), .tup (.inl (.inl upd_same)) .nil, shaped_tupV _, shaped_tupV [], ?_⟩
            rw [eqv_tupNil, ← e]
            exact q _ (s3.trans s4)
          refine ⟨_, rfl, t, rf ks, rfl, .inr ht2, ((rf ks).length : Int), 1, rfl, rfl, rfl, _, rfl, ?_⟩
          dsimp only
          by_cases c : ks.length % 2 = 0
          · have e : decide (V.int (Builtin.bitAnd ((rf ks).length : Int) 1) = V.int 0) = true := decide_eq_true (by rw [and_one, List.length_map, c]; rfl)
            rw [e]
            refine iteT (iteT (isNil H2 (Same.refl H2) ?_))
            unfold altB
            rw [List.length_map, decide_eq_false (by omega : ¬ ks.length % 2 = 1)]
            simp
          · have e : decide (V.int (Builtin.bitAnd ((rf ks).length : Int) 1) = V.int 0) = false := decide_eq_false (by
              rw [and_one, List.length_map]
              intro z
              injection z with z
              omega)
            rw [e]
            have c1 : ks.length % 2 = 1 := by omega
            have nn : ks.map (·.2) ≠ [] := fun z => by
              have := congrArg List.length z
              rw [List.length_map] at this
              rw [this] at c1
              cases c1
            refine iteF ⟨_, rfl, .ref t, ks.map (·.2), rfl, ⟨t, ks, rfl, ht2, hk2, rfl⟩, nn, by rw [List.length_map]; omega, fun H3 s3 => ⟨_, rfl, ?_⟩⟩
            have ea : altB i o (ks.map (·.2)) = (risB (ks.map (·.2)) && inB i o 0 (ks.map (·.2))) := by
              unfold altB
              rw [List.length_map, decide_eq_true c1, decide_eq_false nn]
              rfl
            cases hr2 : risB (ks.map (·.2)) with
            | false =>
              refine iteT (isNil H3 s3 ?_)
              rw [ea, hr2, decide_eq_false nn]
              rfl
            | true =>
              refine iteF ?_
              dsimp only [L2.tNext, tRet]
              refine one_arg ⟨_, rfl, t, rf ks, rfl, .inr ⟨Same.sqT s3 ht2, ?_⟩⟩
              refine lcPairB (σ := [some x, some y, some (.ref t), none, none]) (tg := gTup K 2 (gCons (gName 4) (gCons (gName 3) gNil))) (te := tOp (rInV K) (tVar 3) (tIf (tOdd K 4) (tVar 1) (tVar 0))) (vs := [4, 3]) walk_enumT (bs := inL i o 0 (ks.map (·.2))) (by rw [inL_len, List.length_map, List.length_map]) (by rw [List.length_map]; omega) (fun H4 s4 => Same.sqT (s3.trans s4) ht2) ?_ fun H4 D s4 hD => ?_
              · intro j T x1 y1 b H4 Q2 ex ey hb s4 hT q2
                obtain rfl := Option.some.inj ex
                rw [List.getElem?_map] at ey
                obtain ⟨p, hp, rfl⟩ := Option.map_eq_some_iff.mp ey
                rw [inL_at i o (ks.map (·.2)) 0 j (v := p.2) (by rw [List.getElem?_map, hp]; rfl), Nat.zero_add] at hb
                obtain rfl := Option.some.inj hb
                refine ⟨T, [.int (j : Nat), .ref p.1], rfl, .inl (.inl hT), rfl, _, _, rfl, _, _, rfl, rfl, rfl, ?_⟩
                have s34 := s3.trans s4
                have hv : IsVer K H4 (.ref p.1) p.2 := ⟨_, rfl, Same.sqT s34 (hk2 p (List.mem_of_getElem? hp)).1⟩
                by_cases d : j % 2 = 0
                · rw [if_pos d] at q2
                  exact ⟨_, rfl, _, rfl, (j : Int), 1, rfl, rfl, false, (by show false = (Builtin.bitAnd (j : Int) 1 != 0); rw [and_one, d]; rfl), iteF ⟨_, rfl, p.2, i, hv, hx2.same s34, q2 H4 (Same.refl H4)⟩⟩
                · have d1 : j % 2 = 1 := by omega
                  rw [if_neg d] at q2
                  exact ⟨_, rfl, _, rfl, (j : Int), 1, rfl, rfl, true, (by show true = (Builtin.bitAnd (j : Int) 1 != 0); rw [and_one, d1]; rfl), iteT ⟨_, rfl, p.2, o, hv, hy2.same s34, q2 H4 (Same.refl H4)⟩⟩
              · refine ⟨D, _, rfl, SqL.of hD, ?_⟩
                have z := q H4 (s3.trans s4)
                rw [ea, hr2, Bool.true_and] at z
                rw [inL_all]
                exact z
    · exact ⟨x, rfl, y, rfl, x, y, rfl, .inr (.inl ⟨hx, q⟩)⟩
    · exact ⟨x, rfl, y, rfl, x, y, rfl, .inr (.inr ⟨hx, hy, q⟩)⟩
end
end Kw
set_option maxHeartbeats 4000000
namespace Kw
open PySem PySem.Spec PyProof.Rows L2 LamX SX
abbrev sVersions : Stmt := top 44
/-! ### draws of versions that are not too great -/
def botV (b : Int) (v : Ver) : Prop := v.1 ≤ b ∧ v.2.1 ≤ b ∧ v.2.2 ≤ b
theorem bot3 {b x y z : Int} (h1 : x ≤ b) (h2 : y ≤ b) (h3 : z ≤ b) : botV b (x, y, z) := ⟨h1, h2, h3⟩
theorem botV.up {b b' : Int} {v : Ver} (h : botV b v) (l : b ≤ b') : botV b' v := ⟨Int.le_trans h.1 l, Int.le_trans h.2.1 l, Int.le_trans h.2.2 l⟩
def spLaterB (K : PySem.W.Frag) : Sp := fun vs H Q _ => ∃ (d w c : Addr) (B b : Int) (x : V) (v : Ver), vs = [.ref d, x] ∧ StAt H d w c B ∧ B + 3 ≤ 1000000000000 ∧ IsVer K H x v ∧ okV v ∧ 0 ≤ b ∧ botV b v ∧
  ∀ H' p u, okV u → ltV v u → botV (b + 3) u → H p = none → H' p = some (.tup (v3 u)) → StAt H' d w c (B + 3) → Fr2 d w H H' → Q (.ref p) H'
def spVersions (K : PySem.W.Frag) : Sp := fun vs H Q _ => ∃ (d w c : Addr) (B : Int), vs = [.ref d, .int 7] ∧ StAt H d w c B ∧ B + 30 ≤ 1000000000000 ∧
  ∀ H' p ks, H p = none → H' p = some (.lst (rf ks)) → KsOk K H' ks → (∀ r ∈ ks, botV 40 r.2) → ks.length = 7 → StAt H' d w c (B + 30) → Fr2 d w H H' → Q (.ref p) H'
def spShufV (K : PySem.W.Frag) : Sp := fun vs H Q _ => ∃ (d w c : Addr) (B : Int) (a : Addr) (ks : List (Addr × Ver)), vs = [.ref d, .ref a] ∧ StAt H d w c B ∧ B + 10 ≤ 1000000000000 ∧ H a = some (.lst (rf ks)) ∧ a ≠ w ∧ KsOk K H ks ∧ ks.length ≤ 10 ∧
  ∀ H' p ks', H p = none → H' p = some (.lst (rf ks')) → KsOk K H' ks' → ks'.Perm ks → StAt H' d w c (B + 10) → Fr2 d w H H' → Q (.ref p) H'
theorem ks_fr {K : PySem.W.Frag} {H H' : Hp} {ks : List (Addr × Ver)} {d w c : Addr} {B : Int} (h : KsOk K H ks) (S : StAt H d w c B) (F : Fr2 d w H H') : KsOk K H' ks := fun p hp => ⟨F.sqT S (h p hp).1, (h p hp).2⟩
section
variable {P : Program} {w : World} {K : PySem.W.Frag} {mg : Str → Option Value} {base : Heap}
theorem ok_laterB {f : Addr} {fd : FuncData} {k : Nat} (F : Fun K "_law_later" "_law_later" sLater f fd) (DD : Def P w K mg base "_law_draw" CX0 k ["_law_state", "_law_size"] spDraw) : FnOk P w K mg base CX0 (k + 1) f fd ["_law_state", "_law_version_here"] (spLaterB K) := by
  refine F.ok scLater (fun vs H Q E h => ?_) (fun cdv A outer s H vs Q E hr h => ?_)
  · obtain ⟨d, w, c, B, b, x, v, rfl, _⟩ := h
    rfl
  · obtain ⟨d, w, c, B, b, x, v, rfl, hS, hB, ⟨a, rfl, ha⟩, hv, b0, hb, q⟩ := h
    obtain ⟨b1, b2, b3⟩ := hb
    refine ⟨_, pss_cons (ps_set (i := 2) scLater.nd rfl (.inl rfl) (pe_d DD hr (pa_cons (pv 0) (pa_cons pe_int pa_nil))))
      (pss_cons (ps_if (pt_cmpR op_eq (pv 2) pe_int (nomark _)) (pss_one (ps_ret (pe_op op_catT (pe_slice sl_tup (pv 1) po_none (po_some pe_int)) (pe_tup (pa_cons (pe_op op_add (pe_ix ix_tup (pv 1) pe_int (fun _ _ => rfl)) pe_int) pa_nil))))) pss_nil)
      (pss_cons (ps_if (pt_cmpR op_eq (pv 2) pe_int (nomark _)) (pss_one (ps_ret (pe_tup (pa_cons (pe_ix ix_tup (pv 1) pe_int (fun _ _ => rfl)) (pa_cons (pe_op op_add (pe_op op_add (pe_ix ix_tup (pv 1) pe_int (fun _ _ => rfl)) pe_int) (pe_d DD hr (pa_cons (pv 0) (pa_cons pe_int pa_nil)))) (pa_cons (pe_d DD hr (pa_cons (pv 0) (pa_cons pe_int pa_nil))) pa_nil)))))) pss_nil)
      (pss_one (ps_ret (pe_ifExp (pt_cmpR op_eq (pv 2) pe_int (nomark _)) (pe_tup (pa_cons (pe_op op_add (pe_op op_add (pe_ix ix_tup (pv 1) pe_int (fun _ _ => rfl)) pe_int) (pe_d DD hr (pa_cons (pv 0) (pa_cons pe_int pa_nil)))) (pa_cons pe_int (pa_cons (pe_d DD hr (pa_cons (pv 0) (pa_cons pe_int pa_nil))) pa_nil))))
        (pe_tup (pa_cons (pe_op op_add (pe_ix ix_tup (pv 1) pe_int (fun _ _ => rfl)) pe_int) (pa_cons pe_int (pa_cons pe_int pa_nil))))))))), ?_⟩
    refine ⟨_, rfl, d, w, c, B, 4, rfl, hS, by omega, by decide, by decide, fun H1 z hz0 hz1 S1 F1 => ?_⟩
    have ha1 := F1.sqT hS ha
    refine ⟨_, rfl, rfl, _, rfl, ite2 (fun e => ?_) (fun e => ?_)⟩
    · -- the next one
      refine ⟨_, rfl, 2, rfl, a, v3 v, rfl, ha1, (by intro z; exact absurd z.2 (by show ¬ (2 = 3); decide)), fun p hp => ?_⟩
      have s1 := same_upd (o := .tup (cutV (v3 v) none (some 2))) hp
      refine ⟨_, rfl, a, v3 v, 2, .int v.2.2, rfl, rfl, Same.sqT s1 ha1, atI_nat (j := 2) rfl, _, 1, rfl, rfl, by show 1 ≤ sizeLine; decide, fun p2 hp2 => ?_⟩
      have s2 := same_upd (o := .tup [.int (v.2.2 + 1)]) hp2
      refine ⟨p, p2, _, _, rfl, rfl, .inl (.inl (s2 _ _ upd_same)), .inl (.inl upd_same), (by intro z; cases z), (by show 3 ≤ sizeLine; decide), (fun z => (nomatch z)), fun _ p3 hp3 => ?_⟩
      have s3 := same_upd (o := .tup (v3 (v.1, v.2.1, v.2.2 + 1))) hp3
      have sA := (s1.trans s2).trans s3
      refine q _ p3 (v.1, v.2.1, v.2.2 + 1) ⟨hv.1, hv.2.1, by have := hv.2.2; show 0 ≤ v.2.2 + 1; omega⟩ (ltC (by omega)) (bot3 (by omega) (by omega) (by omega)) (F1.free hS S1 (s1.free (s2.free hp3))) upd_same ((S1.same sA).mono (by omega)) (F1.trans (.ofSame sA))
    · refine ⟨_, rfl, rfl, _, rfl, ite2 (fun e2 => ?_) (fun e2 => ?_)⟩
      · refine ⟨_, rfl, a, v3 v, 0, .int v.1, rfl, rfl, ha1, atI_nat (j := 0) rfl, ?_⟩
        refine ⟨_, rfl, a, v3 v, 1, .int v.2.1, rfl, rfl, ha1, atI_nat (j := 1) rfl, _, 1, rfl, rfl, ?_⟩
        refine ⟨_, rfl, d, w, c, B + 1, 2, rfl, S1, by omega, by decide, by decide, fun H2 z2 hz2 hz2' S2 F2 => ?_⟩
        refine ⟨_, z2, rfl, rfl, ?_⟩
        refine ⟨_, rfl, d, w, c, B + 1 + 1, 2, rfl, S2, by omega, by decide, by decide, fun H3 z3 hz3 hz3' S3 F3 => ?_⟩
        refine ⟨by show 3 ≤ sizeLine; decide, fun p hp => ?_⟩
        have s1 := same_upd (o := .tup (v3 (v.1, v.2.1 + 1 + z2, z3))) hp
        have FA := F1.trans (F2.trans F3)
        refine q _ p (v.1, v.2.1 + 1 + z2, z3) ⟨hv.1, by have := hv.2.1; show 0 ≤ v.2.1 + 1 + z2; omega, hz3⟩ (ltB (by omega)) (bot3 (by omega) (by omega) (by omega)) (FA.free hS S3 hp) upd_same ((S3.same s1).mono (by omega)) (FA.trans (.ofSame s1))
      · refine ⟨_, rfl, rfl, _, rfl, ite2 (fun e3 => ?_) (fun e3 => ?_)⟩
        · refine ⟨_, rfl, a, v3 v, 0, .int v.1, rfl, rfl, ha1, atI_nat (j := 0) rfl, _, 1, rfl, rfl, ?_⟩
          refine ⟨_, rfl, d, w, c, B + 1, 2, rfl, S1, by omega, by decide, by decide, fun H2 z2 hz2 hz2' S2 F2 => ?_⟩
          refine ⟨_, z2, rfl, rfl, ?_⟩
          refine ⟨_, rfl, d, w, c, B + 1 + 1, 2, rfl, S2, by omega, by decide, by decide, fun H3 z3 hz3 hz3' S3 F3 => ?_⟩
          refine ⟨by show 3 ≤ sizeLine; decide, fun p hp => ?_⟩
          have s1 := same_upd (o := .tup (v3 (v.1 + 1 + z2, 0, z3))) hp
          have FA := F1.trans (F2.trans F3)
          refine q _ p (v.1 + 1 + z2, 0, z3) ⟨by have := hv.1; show 0 ≤ v.1 + 1 + z2; omega, Int.le_refl _, hz3⟩ (ltA (by omega)) (bot3 (by omega) (by omega) (by omega)) (FA.free hS S3 hp) upd_same ((S3.same s1).mono (by omega)) (FA.trans (.ofSame s1))
        · refine ⟨_, rfl, a, v3 v, 0, .int v.1, rfl, rfl, ha1, atI_nat (j := 0) rfl, _, 1, rfl, rfl, ?_⟩
          refine ⟨by show 3 ≤ sizeLine; decide, fun p hp => ?_⟩
          have s1 := same_upd (o := .tup (v3 (v.1 + 1, 0, 0))) hp
          refine q _ p (v.1 + 1, 0, 0) ⟨by have := hv.1; show 0 ≤ v.1 + 1; omega, Int.le_refl _, Int.le_refl _⟩ (ltA (by omega)) (bot3 (by omega) (by omega) (by omega)) (F1.free hS S1 hp) upd_same ((S1.same s1).mono (by omega)) (F1.trans (.ofSame s1))

theorem scVersions : FnScope ["_law_state", "_law_many", "_law_found", "_law_turn"] ["_law_state", "_law_many"] (defScope sVersions) := ⟨rfl, rfl, rfl, by decide +kernel, rfl, by decide +kernel, by decide +kernel⟩
theorem ok_versions {f : Addr} {fd : FuncData} {k : Nat} (F : Fun K "_law_versions" "_law_versions" sVersions f fd) (mr : mg "range" = none) (DV : Def P w K mg base "_law_version" CX0 k ["_law_state"] (spVersion K)) (DL : Def P w K mg base "_law_later" CX0 k ["_law_state", "_law_version_here"] (spLaterB K)) :
    FnOk P w K mg base CX0 (k + 1) f fd ["_law_state", "_law_many"] (spVersions K) := by
  refine F.ok scVersions (fun vs H Q E h => ?_) (fun cdv A outer s H vs Q E hr h => ?_)
  · obtain ⟨d, w, c, B, rfl, _⟩ := h
    rfl
  · obtain ⟨d, w, c, B, rfl, hS, hB, q⟩ := h
    refine' ⟨_, pss_cons ?s1 (pss_cons ?s2 (pss_one ?s3)), ?_⟩
    case s1 => exact ps_set (i := 2) scVersions.nd rfl (.inl rfl) (pe_lst (pa_cons (pe_d DV hr (pa_cons (pv 0) pa_nil)) pa_nil))
    case s2 => exact (ps_for PassesOwn.never rfl (pi_range1 rfl mr (pa_cons (pe_op op_sub (pv 1) pe_int) pa_nil)) (pg_name (i := 3) scVersions.nd rfl (.inl rfl))
        (pss_one (ps_expr (pe_bm PySem.F.plainAttrs_list PySem.F.slot_list_append PySem.F.type_list_append mt_append (pv 2) (pa_cons (pe_d DL hr (pa_cons (pv 0) (pa_cons (pe_ix ix_list (pv 2) (pe_un un_neg pe_int) (fun _ _ => rfl)) pa_nil))) pa_nil)))))
    case s3 => exact ps_ret (pv 2)
    obtain ⟨ys, hw⟩ := hS.hw
    refine ⟨_, rfl, d, w, c, B, rfl, hS, by omega, fun H1 p v ov c1 c2 c3 n1 g1 S1 F1 => ?_⟩
    refine ⟨by show 1 ≤ sizeLine; decide, fun l hl => ?_⟩
    have s1 := same_upd (o := .lst [.ref p]) hl
    have n2 := (S1.ne hl).2.1
    have nH : H l = none := F1.free hS S1 hl
    refine ⟨_, rfl, 7, 1, rfl, rfl, 6, rfl, by decide, by decide, for_range (lo := 0) (n := 6) (fun i σ H' => ∃ (y3 : Option V) (ks : List (Addr × Ver)), σ = [some (.ref d), some (.int 7), some (.ref l), y3] ∧ H' l = some (.lst (rf ks)) ∧ KsOk K H' ks ∧ (∀ r ∈ ks, botV (10 + 3 * i) r.2) ∧ ks.length = i + 1 ∧ StAt H' d w c (B + 3 + 3 * i) ∧ Fr2 d w H H') ?_ ?_ ?_⟩
    · exact ⟨none, [(p, v)], rfl, upd_same, KsOk.one (Same.sqT s1 (.inl (.inl g1))) ov, fun r hr => by rw [List.mem_singleton.mp hr]; exact ⟨by show v.1 ≤ _; omega, by show v.2.1 ≤ _; omega, by show v.2.2 ≤ _; omega⟩, rfl, (S1.same s1).mono (by simp), F1.trans (.ofSame s1)⟩
    · rintro i σ H2 hi ⟨y3, ks, rfl, h1, h2, h3, h4, S2, F2⟩
      obtain ⟨A, u, eu⟩ : ∃ A u, ks = A ++ [u] := ⟨_, _, (List.dropLast_concat_getLast (by intro z; rw [z] at h4; cases h4)).symm⟩
      have mu : u ∈ ks := by rw [eu]; simp
      dsimp only [gName, tDrop]
      refine ⟨_, rfl, .inl ⟨rfl, _, SqL.of h1⟩, _, rfl, _, rfl, 1, rfl, l, rf ks, -1, .ref u.1, rfl, rfl, SqL.of h1, ?_, ?_⟩
      · show atI (ks.map fun p => V.ref p.1) (-1) = _
        rw [eu, List.map_append]
        exact atI_last _ _
      · refine ⟨d, w, c, B + 3 + 3 * i, 10 + 3 * i, .ref u.1, u.2, rfl, S2, by omega, ⟨_, rfl, (h2 u mu).1⟩, (h2 u mu).2, by omega, h3 u mu, fun H3 p2 v2 ov2 _ bv2 n3 g3 S3 F3 => ?_⟩
        have hl3 := F3.lst S2 h1 n2.symm
        have f := Fr1.put (l := l) (H := H3) (o := .lst (rf ks ++ [.ref p2]))
        have nl := (S2.ne (H := H2) (D := p2) n3)
        obtain ⟨m1, m2, m3⟩ := S1.ne hl
        refine ⟨l, rf ks, _, rfl, rfl, hl3, by rw [List.length_map, sizeLine_eq]; omega, some (.int (0 + (i : Int))), ks ++ [(p2, v2)], rfl, by rw [upd_same]; simp, ?_, fun r hr => ?_, by simp [h4], ?_, fun b o n4 n5 e => ?_⟩
        · exact KsOk.app (ks_fr1 (ks_fr h2 S2 F3) f hl3) (KsOk.one (f.sqT hl3 (.inl (.inl g3))) ov2)
        · rcases List.mem_append.mp hr with hr | hr
          · exact (h3 r hr).up (by omega)
          · rw [List.mem_singleton.mp hr]
            exact bv2.up (by omega)
        · exact (S3.fr1 f m1 m2 m3).mono (by omega)
        · rw [upd_ne (ne_of_none e nH)]
          exact F3 b o n4 n5 (F2 b o n4 n5 e)
    · rintro σ H2 ⟨y3, ks, rfl, h1, h2, h3, h4, S2, F2⟩
      exact ⟨_, rfl, q H2 l ks nH h1 h2 (fun r hr => (h3 r hr).up (by omega)) h4 (S2.mono (by omega)) F2⟩
end
end Kw
set_option maxHeartbeats 4000000
namespace Kw
open PySem PySem.Spec PyProof.Rows L2 LamX SX
theorem eqv_versL (ks : List (Addr × Ver)) : PyData.eqv (.list ((ks.map (·.2)).map verD)) (.list []) = ks.isEmpty := by
  cases ks <;> simp [PyData.eqv, PyData.eqvAll]
theorem shaped_versL (vs : List Ver) : SeqAt.shaped (.list (vs.map verD)) = true := by
  have h := lay_vers vs
  have z := dep_vers vs
  simp only [SeqAt.shaped, PyData.canLay0, h, Bool.true_and]
  exact decide_eq_true (by simp only [PyData.depth]; omega)
theorem dp_ksL {K : PySem.W.Frag} {H : Hp} {l : Addr} {ks : List (Addr × Ver)} (h : SqL K H l (rf ks)) (k : KsOk K H ks) : Dp K H (.ref l) (.list ((ks.map (·.2)).map verD)) := .lst h (dp_verL ks k)
section
variable {P : Program} {w : World} {K : PySem.W.Frag} {mg : Str → Option Value} {base : Heap}
theorem ok_shufV {f : Addr} {fd : FuncData} {k : Nat} (F : Fun K "_law_shuffled" "_law_shuffled" sShuf f fd) (ml : mg "list" = none) (mn : mg "len" = none) (DD : Def P w K mg base "_law_draw" CX0 k ["_law_state", "_law_size"] spDraw) : FnOk P w K mg base CX0 (k + 1) f fd ["_law_state", "_law_some"] (spShufV K) := by
  refine F.ok scShuf (fun vs H Q E h => ?_) (fun cdv A outer s H vs Q E hr h => ?_)
  · obtain ⟨d, w, c, B, a, ks, rfl, _⟩ := h
    rfl
  · obtain ⟨d, w, c, B, a, ks, rfl, hS, hB, ha, naw, hks, hlen, q⟩ := h
    refine ⟨_, pss_cons (ps_par (i := 2) (j := 3) rfl scShuf.nd rfl rfl (by decide) rfl rfl (pa_cons (pe_callTy call_list_of (by rfl) ml (by decide +kernel) (pa_cons (pv 1) pa_nil)) (pa_cons (pe_lst pa_nil) pa_nil)) (by rfl))
      (pss_cons (ps_while PassesOwn.never (pt_cmpR (op_neD hr.units) (pv 2) (pe_lst pa_nil) (nomark _))
        (pss_one (ps_expr (pe_bm PySem.F.plainAttrs_list PySem.F.slot_list_append PySem.F.type_list_append mt_append (pv 3) (pa_cons (pe_bm PySem.F.plainAttrs_list PySem.F.slot_list_pop PySem.F.type_list_pop mt_popAt (pv 2) (pa_cons (pe_d DD hr (pa_cons (pv 0) (pa_cons (pe_callB call_len_seq (by rfl) mn PySem.boot_len (pa_cons (pv 2) pa_nil)) pa_nil))) pa_nil)) pa_nil)))))
      (pss_one (ps_ret (pv 3)))), ?_⟩
    refine ⟨_, rfl, a, rf ks, rfl, .inl (SqL.of ha), fun l hl => ⟨Nat.zero_le _, fun g hg => ?_⟩⟩
    have s1 := same_upd (o := .lst (rf ks)) hl
    have s2 := same_upd (o := .lst []) hg
    have nlw := (hS.ne hl).2.1
    have ngw := ((hS.same s1).ne hg).2.1
    have nlg : l ≠ g := ne_of_none upd_same hg
    refine ⟨_, _, rfl, fun (m : Nat) (σ : L2.St) (H' : Hp) => ∃ us vs : List (Addr × Ver), σ = [some (.ref d), some (.ref a), some (.ref l), some (.ref g)] ∧ H' l = some (.lst (rf us)) ∧ H' g = some (.lst (rf vs)) ∧ KsOk K H' us ∧ KsOk K H' vs ∧ us.length = m ∧ (us ++ vs).Perm ks ∧ StAt H' d w c (B + vs.length) ∧ Fr2 d w H H',
      ⟨ks.length, ks, [], rfl, s2 _ _ upd_same, upd_same, (hks.same s1).same s2, KsOk.nil, rfl, by rw [List.append_nil], ((hS.same s1).same s2).mono (by simp), .ofSame (s1.trans s2)⟩, ?_⟩
    rintro m σ H1 ⟨us, vs, rfl, h1, h2, h3, h4, h5, h7, h8, h9⟩
    refine ⟨_, rfl, Nat.zero_le _, fun e he => ?_⟩
    have s3 := same_upd (o := .lst []) he
    refine ⟨_, _, dp_ksL (SqL.of (s3 _ _ h1)) (h3.same s3), .lst (SqL.of upd_same) .nil, shaped_versL _, shaped_nil, _, rfl, ?_⟩
    rw [eqv_versL]
    have tot := h7.length_eq
    rw [List.length_append] at tot
    cases us with
    | nil =>
      refine iteF ⟨_, rfl, ?_⟩
      rw [List.nil_append] at h7
      exact q _ g vs (s1.free hg) (s3 _ _ h2) (h4.same s3) h7 ((h8.same s3).mono (by simp at tot; omega)) (h9.trans (.ofSame s3))
    | cons u us =>
      refine iteT ⟨fun (σ' : L2.St) (H' : Hp) => ∃ us vs : List (Addr × Ver), σ' = [some (.ref d), some (.ref a), some (.ref l), some (.ref g)] ∧ H' l = some (.lst (rf us)) ∧ H' g = some (.lst (rf vs)) ∧ KsOk K H' us ∧ KsOk K H' vs ∧ us.length + 1 = m ∧ (us ++ vs).Perm ks ∧ StAt H' d w c (B + vs.length) ∧ Fr2 d w H H',
        fun σ' H' ⟨us, vs, e1, e2, e3, e4, e5, e6, e8, e9, e10⟩ => ⟨us.length, by omega, us, vs, e1, e2, e3, e4, e5, rfl, e8, e9, e10⟩, ?_⟩
      generalize hU : u :: us = ws at h1 h3 h5 h7 tot
      have hm : 0 < ws.length := by rw [← hU]; simp
      clear hU
      refine ⟨_, rfl, .inl ⟨rfl, _, SqL.of (s3 _ _ h2)⟩, _, rfl, .inl ⟨rfl, _, SqL.of (s3 _ _ h1)⟩, _, rfl, _, rfl, l, rf ws, rfl, .inl (SqL.of (s3 _ _ h1)), d, w, c, B + vs.length, (rf ws).length, rfl, h8.same s3, by omega, by rw [List.length_map]; omega, by rw [List.length_map]; omega, fun H2 z hz0 hz1 S2 F2 => ?_⟩
      rw [List.length_map] at hz1
      obtain ⟨j, rfl⟩ : ∃ j : Nat, z = (j : Int) := ⟨z.toNat, by omega⟩
      have hj : j < ws.length := by omega
      have hS3 := h8.same s3
      have z1 := F2.lst hS3 (s3 _ _ h1) nlw.symm
      have z2 := F2.lst hS3 (s3 _ _ h2) ngw.symm
      have z3 := ks_fr (h3.same s3) hS3 F2
      have z4 := ks_fr (h4.same s3) hS3 F2
      have hgj : (rf ws)[j]? = some (V.ref ws[j].1) := by rw [List.getElem?_map, List.getElem?_eq_getElem hj]; rfl
      refine ⟨l, rf ws, _, j, V.ref ws[j].1, rfl, rfl, z1, by omega, by omega, (ixN_seq (j := j) (by unfold ixN; rw [if_pos (by omega), if_pos (by rw [List.length_map]; omega)]; simp)).1, hgj, ?_⟩
      have er : (rf ws).eraseIdx j = rf (ws.eraseIdx j) := by
        simp only [rf, List.eraseIdx_eq_take_drop_succ, List.map_append, List.map_take, List.map_drop]
      have ea : rf vs ++ [V.ref ws[j].1] = rf (vs ++ [ws[j]]) := by simp
      rw [er]
      have f1 : Fr1 l H2 (upd H2 l (.lst (rf (ws.eraseIdx j)))) := Fr1.put
      have w2 : upd H2 l (.lst (rf (ws.eraseIdx j))) g = some (.lst (rf vs)) := f1 _ _ nlg.symm z2
      refine ⟨g, rf vs, _, rfl, rfl, w2, Nat.lt_of_le_of_lt (show (rf vs).length ≤ 1000 by rw [List.length_map]; omega) (by decide), ?_⟩
      rw [ea]
      have f2 : Fr1 g (upd H2 l (.lst (rf (ws.eraseIdx j)))) (upd (upd H2 l (.lst (rf (ws.eraseIdx j)))) g (.lst (rf (vs ++ [ws[j]])))) := Fr1.put
      have fH : Fr2 d w H (upd (upd H2 l (.lst (rf (ws.eraseIdx j)))) g (.lst (rf (vs ++ [ws[j]])))) := by
        have f0 : Fr2 d w H H2 := h9.trans ((Fr2.ofSame s3).trans F2)
        intro b o n1 n2 e0
        rw [upd_ne (ne_of_none (s1 _ _ e0) hg), upd_ne (ne_of_none e0 hl)]
        exact f0 b o n1 n2 e0
      refine ⟨ws.eraseIdx j, vs ++ [ws[j]], rfl, by rw [upd_ne nlg]; exact upd_same, upd_same, ?_, ?_, ?_, ?_, ?_, fH⟩
      · refine ks_fr1 (ks_fr1 (fun p hp => z3 p (List.mem_of_mem_eraseIdx hp)) f1 z1) f2 w2
      · exact ks_fr1 (ks_fr1 (KsOk.app z4 (KsOk.one (z3 _ (List.getElem_mem hj)).1 (z3 _ (List.getElem_mem hj)).2)) f1 z1) f2 w2
      · rw [List.length_eraseIdx, if_pos hj]
        omega
      · refine List.Perm.trans ?_ h7
        have e : ws = ws.take j ++ ws[j] :: ws.drop (j + 1) := by rw [← List.drop_eq_getElem_cons hj, List.take_append_drop]
        generalize ws[j] = y at e ⊢
        rw [List.eraseIdx_eq_take_drop_succ]
        conv => rhs; rw [e]
        rw [List.append_assoc, List.append_assoc]
        refine List.Perm.append_left _ ?_
        rw [← List.append_assoc]
        refine List.perm_append_comm.trans ?_
        exact List.Perm.refl _
      · exact ((hS.same s1).put hg (hS.put hl S2)).mono (by rw [List.length_append]; simp; omega)
end
end Kw
set_option maxHeartbeats 4000000
namespace Kw
open PySem PySem.Spec PyProof.Rows L2 LamX SX
abbrev sLRuns : Stmt := top 46
/-! ### _law_runs -/
/-- a list of versions -/
def LsAt (K : PySem.W.Frag) (H : Hp) (x : V) (vs : List Ver) : Prop := ∃ l ks, x = .ref l ∧ H l = some (.lst (rf ks)) ∧ KsOk K H ks ∧ ks.map (·.2) = vs
theorem LsAt.vs {K : PySem.W.Frag} {H : Hp} {x : V} {vs : List Ver} (h : LsAt K H x vs) : VsAt K H x vs := let ⟨l, ks, a, b, c, d⟩ := h; ⟨l, ks, a, .inl (SqL.of b), c, d⟩
theorem LsAt.ext {K : PySem.W.Frag} {H H' : Hp} {x : V} {vs : List Ver} (h : LsAt K H x vs) (e : ExtN H H') : LsAt K H' x vs := let ⟨l, ks, a, b, c, d⟩ := h; ⟨l, ks, a, e _ _ b (fun ps z => nomatch z), ks_ext c e, d⟩
theorem LsAt.same {K : PySem.W.Frag} {H H' : Hp} {x : V} {vs : List Ver} (h : LsAt K H x vs) (s : Same H H') : LsAt K H' x vs := h.ext (ExtN.same s)
theorem VsAt.fr1 {K : PySem.W.Frag} {H H' : Hp} {x : V} {vs : List Ver} {l : Addr} {ys : List V} (h : VsAt K H x vs) (f : Fr1 l H H') (hl : H l = some (.lst ys)) (n : x ≠ .ref l) : VsAt K H' x vs := by
  obtain ⟨a, ks, rfl, hS, hk, e⟩ := h
  have na : a ≠ l := fun z => n (by rw [z])
  refine ⟨a, ks, rfl, ?_, ks_fr1 hk f hl, e⟩
  rcases hS with hS | hS
  · rcases hS with (h | ⟨o, h⟩) | h
    · exact .inl (.inl (.inl (f _ _ na h)))
    · exact .inl (.inl (.inr ⟨o, f _ _ na h⟩))
    · exact .inl (.inr h)
  · exact .inr (f.sqT hl hS)
/-- v[:2] + (v[2] + 1,) -/
abbrev tNx (K : PySem.W.Frag) (i : Nat) : TE := tOp (rCatT K) (tSl (rSlT K) (tVar i) tNoPart (tPart (tC (.int 2)))) (tTup (tCons (tOp (rI0 fun i j => .int (i + j)) (tOp (rIxT K) (tVar i) (tC (.int 2))) (tC (.int 1))) tNil))
theorem nx_read {K : PySem.W.Frag} {H : Hp} {σ : L2.St} {i : Nat} {x : V} {v : Ver} {Q : VK} (hi : σ[i]? = some (some x)) (hx : IsVer K H x v) (q : ∀ H' y, Same H H' → IsVer K H' y (nextV v) → Q y H') : tNx K i σ H Q := by
  obtain ⟨av, rfl, g⟩ := hx
  refine ⟨_, hi, 2, rfl, av, v3 v, rfl, g, (by intro z; exact absurd z.2 (by show ¬ (2 = 3); decide)), fun p hp => ?_⟩
  have k1 := same_upd (o := .tup (cutV (v3 v) none (some 2))) hp
  refine ⟨_, hi, av, v3 v, 2, .int v.2.2, rfl, rfl, Same.sqT k1 g, atI_nat (j := 2) rfl, v.2.2, 1, rfl, rfl, by show 1 ≤ sizeLine; decide, fun p2 hp2 => ?_⟩
  have k2 := same_upd (o := .tup [.int (v.2.2 + 1)]) hp2
  refine ⟨p, p2, _, _, rfl, rfl, .inl (.inl (k2 _ _ upd_same)), .inl (.inl upd_same), (by intro z; cases z), (by show 3 ≤ sizeLine; decide), (fun z => nomatch z), fun _ p3 hp3 => ?_⟩
  have k3 := same_upd (o := .tup (v3 (nextV v))) hp3
  exact q _ _ ((k1.trans k2).trans k3) (IsVer.of upd_same)
def spLRuns (K : PySem.W.Frag) : Sp := fun vs H Q _ => ∃ (x y : V) (i o : List Ver), vs = [x, y] ∧ LsAt K H x i ∧ LsAt K H y o ∧ i.length + o.length < 64 ∧ ∀ H' D xs, Same H H' → H D = none → H' D = some (.lst xs) → Strs K H' xs (partN i o) → Q (.ref D) H'
section
variable {P : Program} {w : World} {K : PySem.W.Frag} {mg : Str → Option Value} {base : Heap}
abbrev nLR : List Str := ["_law_inside", "_law_outside", "_law_found", "_law_last", "_law_version_here"]
theorem scLRuns : FnScope nLR ["_law_inside", "_law_outside"] (defScope sLRuns) := ⟨rfl, rfl, rfl, by decide +kernel, rfl, by decide +kernel, by decide +kernel⟩
theorem ok_lruns {f : Addr} {fd : FuncData} {k : Nat} (F : Fun K "_law_runs" "_law_runs" sLRuns f fd) (ms : mg "sorted" = none) (mt : mg "set" = none) : FnOk P w K mg base CX0 (k + 1) f fd ["_law_inside", "_law_outside"] (spLRuns K) := by
  refine F.ok scLRuns (fun vs H Q E h => ?_) (fun cdv A outer s H vs Q E hr h => ?_)
  · obtain ⟨x, y, i, o, rfl, _⟩ := h
    rfl
  · obtain ⟨x, y, i, o, rfl, hx, hy, few, q⟩ := h
    refine' ⟨_, pss_cons ?s1 (pss_cons ?s2 (pss_one ?s3)), ?_⟩
    case s1 => exact ps_par (i := 2) (j := 3) rfl scLRuns.nd rfl rfl (by decide) rfl rfl (pa_cons (pe_lst pa_nil) (pa_cons pe_non pa_nil)) (by rfl)
    case s2 => exact (ps_for PassesOwn.never rfl (pi_list (pe_callB (cr_sortedT rfl) (by rfl) ms (by decide +kernel) (pa_cons (pe_callTy (cr_setOfT rfl (Room.u64 hr)) (by rfl) mt (by decide +kernel) (pa_cons (pe_op op_cat (pv 0) (pv 1)) pa_nil)) pa_nil))) (pg_name (i := 4) scLRuns.nd rfl (.inl rfl))
        (pss_cons (ps_if (PW.pt (pw_and (pt_cmpR (op_inV (un65 hr)) (pv 4) (pv 0) rfl) (pw_and1 (pt_cmpR op_notN (pv 3) pe_non (nomark _)))))
            (pss_one (ps_asg (pe_tup (pa_cons (pe_ix ix_tup (pe_ix ix_list (pv 2) (pe_un un_neg pe_int) (fun _ _ => rfl)) pe_int (fun _ _ => rfl)) (pa_cons (pe_op op_catT (pe_slice sl_tup (pv 4) po_none (po_some pe_int)) (pe_tup (pa_cons (pe_op op_add (pe_ix ix_tup (pv 4) pe_int (fun _ _ => rfl)) pe_int) pa_nil))) pa_nil))) (pg_sub (pv 2) (pe_un un_neg pe_int) set_list)))
            (pss_one (ps_if (pt_cmpR (op_inV (un65 hr)) (pv 4) (pv 0) rfl)
              (pss_one (ps_expr (pe_bm PySem.F.plainAttrs_list PySem.F.slot_list_append PySem.F.type_list_append mt_append (pv 2) (pa_cons (pe_tup (pa_cons (pv 4) (pa_cons (pe_op op_catT (pe_slice sl_tup (pv 4) po_none (po_some pe_int)) (pe_tup (pa_cons (pe_op op_add (pe_ix ix_tup (pv 4) pe_int (fun _ _ => rfl)) pe_int) pa_nil))) pa_nil))) pa_nil)))) pss_nil)))
          (pss_one (ps_set (i := 3) scLRuns.nd rfl (.inl rfl) (pe_ifExp (pt_cmpR (op_inV (un65 hr)) (pv 4) (pv 0) rfl) (pv 4) pe_non)))))
    case s3 => exact ps_ret (pv 2)
    dsimp only [tSeq, tAsg, tRet]
    refine ⟨Nat.zero_le _, fun l hl => ⟨_, _, rfl, ?_⟩⟩
    have s1 := same_upd (o := .lst []) hl
    obtain ⟨lx, kx, rfl, hlx, hkx, ex⟩ := hx
    obtain ⟨ly, ky, rfl, hly, hky, ey⟩ := hy
    have lenx := congrArg List.length ex
    have leny := congrArg List.length ey
    rw [List.length_map] at lenx leny
    refine ⟨_, rfl, _, rfl, lx, ly, rf kx, rf ky, rfl, rfl, s1 _ _ hlx, s1 _ _ hly, by rw [List.length_map, List.length_map, sizeLine_eq]; omega, fun p hp => ?_⟩
    have s2 := same_upd (o := .lst (rf kx ++ rf ky)) hp
    have hp2 : (upd (upd H l (.lst [])) p (.lst (rf kx ++ rf ky))) p = some (.lst (rf (kx ++ ky))) := by rw [upd_same]; simp
    dsimp only [tNil, cxOf, Cx.nox]
    refine setsort (ks := kx ++ ky) (SqL.of hp2) (KsOk.app (hkx.same (s1.trans s2)) (hky.same (s1.trans s2))) (by rw [List.length_append]; omega) fun G D ks' s3 hD hk' pw mm few' freeD => ?_
    have nl := ne_of_none hlx hl
    have hG := (s1.trans s2).trans s3
    have hGl : G l = some (.lst []) := (s2.trans s3) _ _ upd_same
    have nD : l ≠ D := ne_of_none (s2 _ _ upd_same) freeD
    have eM : ks'.map (·.2) = srtV (i ++ o) := asc_one pw (srt_pw _) fun v => by
      rw [mm v, srt_mem, List.map_append, ex, ey]
    have vx : VsAt K G (.ref lx) i := ⟨lx, kx, rfl, .inl (SqL.of (hG _ _ hlx)), hkx.same hG, ex⟩
    have nx : V.ref lx ≠ .ref l := fun z => nl (V.ref.inj z)
    refine ⟨D, rfl, ⟨_, SqL.of hD⟩, for_list (D := { nx := tRet (tVar 2) { nx := fun x H' => Q V.non H', rt := Q }, rt := Q }) (K := K) (a := D) (xs := rf ks') (fun j σ H' => ∃ (y3 : V) (y4 : Option V) (xs : List V), σ = [some (.ref lx), some (.ref ly), some (.ref l), some y3, y4] ∧ Fr1 l G H' ∧ H' l = some (.lst xs) ∧ Strs K H' xs (((ks'.map (·.2)).take j).foldl (lawStep i) ([], false)).1 ∧ decide (y3 = .non) = !(((ks'.map (·.2)).take j).foldl (lawStep i) ([], false)).2 ∧ xs.length ≤ j ∧ ((((ks'.map (·.2)).take j).foldl (lawStep i) ([], false)).2 = true → (((ks'.map (·.2)).take j).foldl (lawStep i) ([], false)).1 ≠ []))
      ⟨.non, none, [], rfl, .refl, hGl, ⟨rfl, fun i x s h => by simp at h⟩, rfl, Nat.le_refl _, fun z => by cases z⟩ (fun j σ H' _ ⟨_, _, _, _, e, _⟩ => SqL.of (e _ _ nD.symm hD)) ?_ ?_⟩
    · rintro j z σ H1 hz ⟨y3, y4, xs, rfl, fr, h1, hst, h3, hlen, hne⟩
      rw [List.getElem?_map] at hz
      obtain ⟨p1, hp1, rfl⟩ := Option.map_eq_some_iff.mp hz
      have mp := List.mem_of_getElem? hp1
      have il := (List.getElem?_eq_some_iff.mp hp1).1
      have hv : IsVer K H1 (.ref p1.1) p1.2 := ⟨_, rfl, fr.sqT hGl (hk' p1 mp).1⟩
      have vx1 : VsAt K H1 (.ref lx) i := vx.fr1 fr hGl nx
      have tk : ((ks'.map (·.2)).take (j + 1)).foldl (lawStep i) ([], false) = lawStep i (((ks'.map (·.2)).take j).foldl (lawStep i) ([], false)) p1.2 := by
        rw [take_snoc (x := p1.2) (by rw [List.getElem?_map, hp1]; rfl), List.foldl_append]
        rfl
      rw [tk]
      generalize ((ks'.map (·.2)).take j).foldl (lawStep i) ([], false) = st at hst h3 hne ⊢
      obtain ⟨fs, bb⟩ := st
      dsimp only at hst h3 hne
      dsimp only [gName, tSeq, tAsg, tIfS, tDrop]
      -- last = .. behind the rest
      have fin : ∀ (H2 : Hp) (xs2 : List V), Fr1 l G H2 → H2 l = some (.lst xs2) → Strs K H2 xs2 (lawStep i (fs, bb) p1.2).1 → xs2.length ≤ j + 1 →
          tIf (tTest (tOp (rInV K) (tVar 4) (tVar 0))) (tVar 4) (tC .non) [some (.ref lx), some (.ref ly), some (.ref l), some y3, some (.ref p1.1)] H2 fun x H3 => ∃ (y3 : V) (y4 : Option V) (xs : List V), List.set [some (.ref lx), some (.ref ly), some (.ref l), some y3, some (.ref p1.1)] 3 (some x) = [some (.ref lx), some (.ref ly), some (.ref l), some y3, y4] ∧ Fr1 l G H3 ∧ H3 l = some (.lst xs) ∧ Strs K H3 xs (lawStep i (fs, bb) p1.2).1 ∧ decide (y3 = .non) = !(lawStep i (fs, bb) p1.2).2 ∧ xs.length ≤ j + 1 ∧ ((lawStep i (fs, bb) p1.2).2 = true → (lawStep i (fs, bb) p1.2).1 ≠ []) := fun H2 xs2 f2 e2 g2 n2 => by
        have hv2 : IsVer K H2 (.ref p1.1) p1.2 := ⟨_, rfl, f2.sqT hGl (hk' p1 mp).1⟩
        refine ⟨_, rfl, _, rfl, p1.2, i, hv2, vx.fr1 f2 hGl nx, _, rfl, ite2 (fun c => ?_) (fun c => ?_)⟩
        · have c1 : p1.2 ∈ i := of_decide_eq_true c
          refine ⟨_, rfl, .ref p1.1, _, xs2, rfl, f2, e2, g2, ?_, n2, fun _ z => ?_⟩
          · unfold lawStep
            rw [if_pos c1]
            rfl
          · unfold lawStep at z
            rw [if_pos c1] at z
            dsimp only at z
            split at z
            · split at z <;> simp at z
            · simp at z
        · have c1 : ¬ p1.2 ∈ i := fun z => c (decide_eq_true z)
          refine ⟨.non, _, xs2, rfl, f2, e2, g2, ?_, n2, fun z => ?_⟩
          · unfold lawStep
            rw [if_neg c1]
            rfl
          · unfold lawStep at z
            rw [if_neg c1] at z
            cases z
      -- a new stretch
      have anew : p1.2 ∈ i → (lawStep i (fs, bb) p1.2).1 = fs ++ [(p1.2, some (nextV p1.2))] → ∀ {R : VK}, (∀ H2 xs2, Fr1 l G H2 → H2 l = some (.lst xs2) → Strs K H2 xs2 (lawStep i (fs, bb) p1.2).1 → xs2.length ≤ j + 1 → R .non H2) →
          tBM K "list" rAppend (tVar 2) (tCons (tTup (tCons (tVar 4) (tCons (tNx K 4) tNil))) tNil) [some (.ref lx), some (.ref ly), some (.ref l), some y3, some (.ref p1.1)] H1 R := fun c e {R} g => by
        refine ⟨_, rfl, .inl ⟨rfl, _, SqL.of h1⟩, _, rfl, nx_read rfl hv fun H2 y s2 hy => ⟨by show 2 ≤ sizeLine; decide, fun p2 hp2 => ?_⟩⟩
        have s3 := same_upd (o := .tup [.ref p1.1, y]) hp2
        have s23 := s2.trans s3
        have h3' := s23 _ _ h1
        have f : Fr1 l (upd H2 p2 (.tup [.ref p1.1, y])) (upd (upd H2 p2 (.tup [.ref p1.1, y])) l (.lst (xs ++ [.ref p2]))) := Fr1.put
        refine ⟨l, xs, _, rfl, rfl, h3', by rw [sizeLine_eq]; omega, g _ (xs ++ [.ref p2]) ((fr.trans (.same s23)).trans f) upd_same ?_ (by simp; omega)⟩
        rw [e]
        exact (Fr1.strs f h3' (hst.same s23)).snoc ⟨p2, .ref p1.1, y, rfl, f.sqT h3' (.inl (.inl upd_same)), f.ver h3' (hv.same s23), f.ver h3' (hy.same s3)⟩
      refine ⟨_, rfl, _, rfl, p1.2, i, hv, vx1, _, rfl, ite2 (fun c => ?_) (fun c => ?_)⟩
      · have c1 : p1.2 ∈ i := of_decide_eq_true c
        refine ⟨_, rfl, rfl, _, rfl, ?_⟩
        rw [h3, Bool.not_not]
        cases bb with
        | true =>
          obtain ⟨A, t, rfl⟩ : ∃ A t, fs = A ++ [t] := ⟨_, _, (List.dropLast_concat_getLast (hne rfl)).symm⟩
          obtain ⟨zs', x', rfl, ⟨px, lo, hh, rfl, g1, g2, g3⟩, hz'⟩ := hst.last (List.getLast?_concat ..)
          rw [List.dropLast_concat] at hz'
          refine iteT ⟨_, rfl, 1, rfl, l, _, -1, .ref px, rfl, rfl, SqL.of h1, atI_last _ _, px, [lo, hh], 0, lo, rfl, rfl, g1, atI_nat (j := 0) rfl, nx_read rfl hv fun H2 y s2 hy => ⟨by show 2 ≤ sizeLine; decide, fun p2 hp2 => ?_⟩⟩
          have s3 := same_upd (o := .tup [lo, y]) hp2
          have s23 := s2.trans s3
          have h3' := s23 _ _ h1
          have f : Fr1 l (upd H2 p2 (.tup [lo, y])) (upd (upd H2 p2 (.tup [lo, y])) l (.lst (zs' ++ [.ref p2]))) := Fr1.put
          refine ⟨_, rfl, 1, rfl, l, zs' ++ [.ref px], -1, zs'.length, rfl, rfl, h3', ixN_last zs' _, ?_⟩
          have hset : (zs' ++ [V.ref px]).set zs'.length (.ref p2) = zs' ++ [.ref p2] := by simp
          rw [hset]
          refine fin _ (zs' ++ [.ref p2]) ((fr.trans (.same s23)).trans f) upd_same ?_ (by simp at hlen ⊢; omega)
          have e : (lawStep i (A ++ [t], true) p1.2).1 = A ++ [(t.1, some (nextV p1.2))] := by
            unfold lawStep
            rw [if_pos c1]
            dsimp only
            rw [List.getLast?_concat]
            dsimp only
            rw [if_pos rfl, List.dropLast_concat]
          rw [e]
          exact (Fr1.strs f h3' (hz'.same s23)).snoc ⟨p2, lo, y, rfl, f.sqT h3' (.inl (.inl upd_same)), f.ver h3' (g2.same s23), f.ver h3' (hy.same s3)⟩
        | false =>
          refine iteF ⟨_, rfl, _, rfl, p1.2, i, hv, vx1, _, rfl, ite2 (fun _ => ?_) (fun c2 => absurd c c2)⟩
          refine anew c1 ?_ fun H2 xs2 f2 e2 g2 n2 => fin H2 xs2 f2 e2 g2 n2
          unfold lawStep
          rw [if_pos c1]
          dsimp only
          split <;> simp
      · refine ⟨_, rfl, _, rfl, p1.2, i, hv, vx1, _, rfl, ite2 (fun c2 => absurd c2 c) (fun _ => ?_)⟩
        have c1 : ¬ p1.2 ∈ i := fun z => c (decide_eq_true z)
        refine fin H1 xs fr h1 ?_ (by omega)
        unfold lawStep
        rw [if_neg c1]
        exact hst
    · rintro σ H1 ⟨y3, y4, xs, rfl, fr, h1, hst, h3, hlen, _⟩
      rw [List.take_of_length_le (by simp), eM] at hst
      refine ⟨_, rfl, q H1 l xs (fun b o z => fr _ _ (ne_of_none z hl) (hG _ _ z)) hl h1 hst⟩
end
end Kw
set_option maxHeartbeats 4000000
namespace Kw
open PySem PySem.Spec PyProof.Rows L2 LamX SX
open PySem.W (dataLt alike alikeAll AlikeAll minD min_list_data)
/-! ### min of a list of versions -/
def rMinV (K : PySem.W.Frag) : List V → Hp → VK → Prop := fun xs H Q => ∃ (l : Addr) (ks : List (Addr × Ver)), xs = [.ref l] ∧ SqL K H l (rf ks) ∧ KsOk K H ks ∧ ks ≠ [] ∧ ks.length ≤ 100 ∧ ∀ p ∈ ks, p.2 = minL (ks.map (·.2)) → Q (.ref p.1) H
theorem minD_vers : ∀ (vs : List Ver) (v : Ver), minD (keyD v) (vs.map keyD) = keyD (vs.foldl (fun m u => if ltV u m then u else m) v)
  | [], v => rfl
  | u :: vs, v => by
    show minD (if dataLt (keyD u) (keyD v) = true then keyD u else keyD v) (vs.map keyD) = keyD (vs.foldl _ (if ltV u v then u else v))
    rw [keyLt]
    by_cases c : ltV u v
    · rw [decide_eq_true c, if_pos rfl, if_pos c]
      exact minD_vers vs u
    · rw [decide_eq_false c, if_neg (by simp), if_neg c]
      exact minD_vers vs v
theorem alike_keys (v u : Ver) : alike (keyD v) (keyD u) = true := by
  unfold keyD
  rw [PySem.W.alike, PySem.W.alike_ints]
theorem dep_keys : ∀ vs : List Ver, PyData.depthAll (vs.map keyD) ≤ 1 := dep_vers
section
variable {X : Cx}
theorem cr_minV {k : Nat} (hc : X.calm = true) (hr : Room k X.A) : CallR X (.builtin "min") (rMinV X.K) := by
  intro pins s σ H xs us Q I r h
  obtain ⟨l, ks, rfl, hl, hk, ne, few, q⟩ := h
  obtain ⟨its, rv, pl, hz⟩ := I.list hl
  rw [Vals.ref1 r]
  obtain ⟨k0, kr, rfl⟩ : ∃ k0 kr, ks = k0 :: kr := by
    cases ks with
    | nil => exact absurd rfl ne
    | cons a b => exact ⟨a, b, rfl⟩
  obtain ⟨as, rd⟩ := Dp.readsAll I (((k0 :: kr).map (·.2)).map keyD) _ its (dp_verL (k0 :: kr) hk) rv
  have u1 := hr.un
  have du := dep_keys ((k0 :: kr).map (·.2))
  have rd2 : ReadsAll s.heap its.toArray.toList (keyD k0.2 :: (kr.map (fun x : Addr × Ver => x.2)).map keyD) as := by
    rw [List.toList_toArray]
    exact rd
  refine min_list_data (I.ok.hd hc) pl.isList rd2 ⟨fun x hx y hy => ?_, fun x hx => ?_⟩ (by show X.A.units + 1 + PyData.depthAll (((k0 :: kr).map (·.2)).map keyD) < cLine; omega) fun i v h' tk bs hv hrd kp => ?_
  · obtain ⟨a, _, rfl⟩ := List.mem_map.mp (show x ∈ ((k0 :: kr).map (·.2)).map keyD from hx)
    obtain ⟨b, _, rfl⟩ := List.mem_map.mp (show y ∈ ((k0 :: kr).map (·.2)).map keyD from hy)
    exact alike_keys a b
  · obtain ⟨a, _, rfl⟩ := List.mem_map.mp (show x ∈ ((k0 :: kr).map (·.2)).map keyD from hx)
    simp [keyD]
  · have hv2 : its[i]? = some v := by simpa using hv
    have il := (List.getElem?_eq_some_iff.mp hv2).1
    have lr := rv.length
    obtain ⟨p, hp⟩ : ∃ p, (k0 :: kr)[i]? = some p := ⟨_, List.getElem?_eq_getElem (by rw [List.length_map] at lr; omega)⟩
    obtain ⟨u, hu, ru⟩ := rv.get (show (rf (k0 :: kr))[i]? = some (.ref p.1) by rw [List.getElem?_map, hp]; rfl)
    rw [hv2] at hu
    obtain rfl := Option.some.inj hu
    obtain rfl : v = Value.ref p.1 := ru
    have mp := List.mem_of_getElem? hp
    obtain ⟨d1, _⟩ := ver_reads I (⟨p.1, rfl, (hk p mp).1⟩ : IsVer X.K H (.ref p.1) p.2) (show RelV (.ref p.1) (Value.ref p.1) from rfl)
    rw [minD_vers] at hrd
    have e1 := keyD_inj ((Reads.keeps kp d1).unique _ _ hrd).1
    exact ⟨.ref p.1, H, I.kept kp, rfl, q p mp e1⟩
end
/-! ### [v for v in xs if ..] -/
section
variable {K : PySem.W.Frag} {H H' : Hp}
theorem lcFltN {ts : TE} {tc : TT} {j : Nat} {σ : L2.St} {x : V} {vs : List Ver} {f : Ver → Bool} {Q : VK} (hts : ∀ R : VK, R x H → ts σ H R) (h : LsAt K H x vs) (few : vs.length ≤ 1000) (hw : ∀ y, wipe ((wipe σ [j]).set j y) [j] = wipe σ [j]) (hj : j < (wipe σ [j]).length)
    (test : ∀ (p : Addr × Ver) (H1 : Hp) (Q2 : Bool → Hp → Prop), p.2 ∈ vs → SqT K H1 p.1 (v3 p.2) → okV p.2 → Same H H1 → (∀ H2, Same H1 H2 → Q2 (f p.2) H2) → tc ((wipe σ [j]).set j (some (.ref p.1))) H1 Q2)
    (q : ∀ H1 D ks, Same H H1 → H D = none → H1 D = some (.lst (rf ks)) → KsOk K H1 ks → ks.map (·.2) = vs.filter f → Q (.ref D) H1) : tLc (iList K ts) (gName j) tc (tVar j) [j] σ H Q := by
  obtain ⟨l, ks, rfl, hl, hk, rfl⟩ := h
  rw [List.length_map] at few
  refine hts _ ⟨l, rfl, ⟨_, SqL.of hl⟩, fun D hD => ?_⟩
  refine lc_list (K := K) (a := l) (xs := rf ks) (fun i H1 => Same H H1 ∧ H1 D = some (.lst (rf ((ks.take i).filter fun p => f p.2)))) ⟨same_upd hD, upd_same⟩ (fun i H1 _ R => SqL.of (R.1 _ _ hl)) ?_ ?_
  · rintro i y H1 hy ⟨s1, h1⟩
    rw [List.getElem?_map] at hy
    obtain ⟨p, hp, rfl⟩ := Option.map_eq_some_iff.mp hy
    have mp := List.mem_of_getElem? hp
    refine ⟨hw _, test p H1 _ (List.mem_map.mpr ⟨p, mp, rfl⟩) (Same.sqT s1 (hk p mp).1) (hk p mp).2 s1 fun H2 s2 => ?_⟩
    have h2 := s2 _ _ h1
    cases c : f p.2 with
    | true =>
      have z := List.length_filter_le (fun p : Addr × Ver => f p.2) (ks.take i)
      rw [List.length_take] at z
      refine iteT ⟨_, by rw [List.getElem?_set_self hj], _, h2, by rw [List.length_map, sizeLine_eq]; omega, fun b o w => ?_, ?_⟩
      · rw [upd_ne (ne_of_none w hD)]
        exact s2 _ _ (s1 _ _ w)
      · rw [upd_same, take_snoc hp, List.filter_append]
        simp [c]
    | false =>
      refine iteF ⟨s1.trans s2, ?_⟩
      rw [h2, take_snoc hp, List.filter_append]
      simp [c]
  · rintro H1 ⟨s1, h1⟩
    rw [List.take_of_length_le (by rw [List.length_map]; exact Nat.le_refl _)] at h1
    refine q H1 D _ s1 hD h1 (fun p hp => ?_) ?_
    · have mp := (List.mem_filter.mp hp).1
      exact ⟨Same.sqT s1 (hk p mp).1, (hk p mp).2⟩
    · rw [List.filter_map]
      rfl
theorem lcFlt {ts : TE} {tc : TT} {j : Nat} {σ : L2.St} {x : V} {vs : List Ver} {f : Ver → Bool} {Q : VK} (hts : ∀ R : VK, R x H → ts σ H R) (h : LsAt K H x vs) (few : vs.length ≤ 1000) (hw : ∀ y, wipe ((wipe σ [j]).set j y) [j] = wipe σ [j]) (hj : j < (wipe σ [j]).length)
    (test : ∀ (p : Addr × Ver) (H1 : Hp) (Q2 : Bool → Hp → Prop), p.2 ∈ vs → SqT K H1 p.1 (v3 p.2) → okV p.2 → Same H H1 → (∀ H2, Same H1 H2 → Q2 (f p.2) H2) → tc ((wipe σ [j]).set j (some (.ref p.1))) H1 Q2)
    (q : ∀ H1 D ks, Same H H1 → H1 D = some (.lst (rf ks)) → KsOk K H1 ks → ks.map (·.2) = vs.filter f → Q (.ref D) H1) : tLc (iList K ts) (gName j) tc (tVar j) [j] σ H Q :=
  lcFltN hts h few hw hj test fun H1 D ks s1 _ => q H1 D ks s1
end
/-! ### a version of the outside stands between two stretches -/
theorem partN_low {i o : List Ver} (ap : Apt i o) {s : Str2} (h : s ∈ partN i o) : s.1 ∈ i := by
  obtain ⟨L, S, e⟩ := partN_runs ap
  rw [e] at h
  obtain ⟨r, hr, rfl⟩ := List.mem_map.mp h
  obtain ⟨mr, rt⟩ := List.mem_filter.mp hr
  exact (run_in (runs_is L) S mr (hd_mem ((runs_is L).ne r mr))).1 rt
theorem between_ne {i o : List Ver} (ap : Apt i o) (ok : ∀ v ∈ i, okV v) {A B : List Str2} {s t : Str2} (e : partN i o = A ++ s :: t :: B) : o.filter (betwB s.1 t.1) ≠ [] := by
  intro z
  have nf := partN_nf ap ok
  have si := partN_low ap (s := s) (by rw [e]; simp)
  have ti := partN_low ap (s := t) (by rw [e]; simp)
  rw [e] at nf
  have ⟨p1, p2, p3⟩ := List.pairwise_append.mp nf.pw
  obtain ⟨u, eu, lu⟩ := (List.pairwise_cons.mp p2).1 t List.mem_cons_self
  have os := nf.ok s (by simp)
  obtain ⟨ou, su⟩ := os.2 u eu
  have no : ∀ w ∈ o, ¬ (leV s.1 w ∧ leV w t.1) := fun w hw ⟨h1, h2⟩ => by
    have f : w ∉ o.filter (betwB s.1 t.1) := by rw [z]; simp
    rw [List.mem_filter] at f
    have c1 : ltV s.1 w := Classical.byContradiction fun c => by
      have q := ltV_or c h1
      rw [q] at si
      exact ap w si hw
    have c2 : ltV w t.1 := Classical.byContradiction fun c => by
      have q := ltV_or c h2
      rw [← q] at ti
      exact ap w ti hw
    exact f ⟨hw, by show (decide _ && decide _) = true; rw [decide_eq_true c1, decide_eq_true c2]; rfl⟩
  have has : hasL (partN i o) u = true := (partN_has ap u).mpr ⟨s.1, t.1, si, ti, lt_asym su, lt_asym lu, no⟩
  rw [e, hasL_iff] at has
  obtain ⟨r, hr, hv⟩ := has
  obtain ⟨h1, h2⟩ := hasS_iff.mp hv
  rcases List.mem_append.mp hr with m | m
  · obtain ⟨w, ew, lw⟩ := p3 r m s List.mem_cons_self
    exact lt_asym (h2 w ew) (ltV_trans lw su)
  · rcases List.mem_cons.mp m with rfl | m
    · exact ltV_irrefl _ (h2 u eu)
    · obtain ⟨w, ew, lw⟩ := (List.pairwise_cons.mp p2).1 r m
      rw [eu] at ew
      obtain rfl := Option.some.inj ew
      exact h1 lw
theorem turn_last (o : List Ver) : ∀ (n : List Str2) (f : List Ver), (n.foldl (turnStep o) f).getLast? = (match n.getLast? with
    | some s => some s.1
    | none => f.getLast?)
  | [], f => rfl
  | s :: n, f => by
    rw [List.foldl_cons, turn_last o n]
    cases n with
    | nil =>
      show (turnStep o f s).getLast? = some s.1
      unfold turnStep
      split <;> simp
    | cons t n => rw [List.getLast?_cons_cons]; cases h : (t :: n).getLast? with
      | none => simp at h
      | some y => rfl
end Kw
set_option maxHeartbeats 4000000
namespace Kw
open PySem PySem.Spec PyProof.Rows L2 LamX SX
abbrev sLTurns : Stmt := top 47
/-! ### _law_turns -/
theorem law_fold_len (i : List Ver) : ∀ (M : List Ver) (st : List Str2 × Bool), (M.foldl (lawStep i) st).1.length ≤ st.1.length + M.length
  | [], st => Nat.le_refl _
  | v :: M, st => by
    rw [List.foldl_cons]
    have z := law_fold_len i M (lawStep i st v)
    have y : (lawStep i st v).1.length ≤ st.1.length + 1 := by
      unfold lawStep
      split
      · dsimp only
        split
        · split <;> simp
        · simp
      · exact Nat.le_succ _
    rw [List.length_cons]
    omega
theorem ins_len (v : Ver) : ∀ l : List Ver, (insV v l).length ≤ l.length + 1
  | [] => Nat.le_refl _
  | u :: l => by
    have z := ins_len v l
    unfold insV
    split
    · simp
    · split
      · simp
      · simp only [List.length_cons]
        omega
theorem srt_len : ∀ l : List Ver, (srtV l).length ≤ l.length
  | [] => Nat.le_refl _
  | v :: l => by
    have z := srt_len l
    have y := ins_len v (srtV l)
    show (insV v (srtV l)).length ≤ _
    rw [List.length_cons]
    omega
theorem partN_short (i o : List Ver) : (partN i o).length ≤ i.length + o.length := by
  have z := law_fold_len i (srtV (i ++ o)) ([], false)
  have y := srt_len (i ++ o)
  rw [List.length_append] at y
  show (lawRuns i (srtV (i ++ o))).length ≤ _
  unfold lawRuns
  simp only [List.length_nil] at z
  omega
def spLTurns (K : PySem.W.Frag) : Sp := fun vs H Q _ => ∃ (x y : V) (i o : List Ver), vs = [x, y] ∧ LsAt K H x i ∧ LsAt K H y o ∧ i.length + o.length < 64 ∧ touchB i o = false ∧ ∀ H' z, Same H H' → TsAt K H' z (turnsV (partN i o) o) → Q z H'
abbrev tBetw (K : PySem.W.Frag) : TT := tTest (tChain (rVer K .Lt) (rVer K .Lt) (tOp (rIxL K) (tVar 2) (tUn (rU fun i => .int (-i)) (tC (.int 1)))) (tVar 5) (tVar 3))
section
variable {P : Program} {w : World} {K : PySem.W.Frag} {mg : Str → Option Value} {base : Heap}
abbrev nLT : List Str := ["_law_inside", "_law_outside", "_law_found", "_law_low", "_law_high", "_law_version_here"]
theorem scLTurns : FnScope nLT ["_law_inside", "_law_outside"] (defScope sLTurns) := ⟨rfl, rfl, rfl, by decide +kernel, rfl, by decide +kernel, by decide +kernel⟩
theorem ok_lturns {f : Addr} {fd : FuncData} {k : Nat} (F : Fun K "_law_turns" "_law_turns" sLTurns f fd) (mm : mg "min" = none) (mt : mg "tuple" = none) (DR : Def P w K mg base "_law_runs" CX0 k ["_law_inside", "_law_outside"] (spLRuns K)) : FnOk P w K mg base CX0 (k + 1) f fd ["_law_inside", "_law_outside"] (spLTurns K) := by
  refine F.ok scLTurns (fun vs H Q E h => ?_) (fun cdv A outer s H vs Q E hr h => ?_)
  · obtain ⟨x, y, i, o, rfl, _⟩ := h
    rfl
  · obtain ⟨x, y, i, o, rfl, hx, hy, few, hta, q⟩ := h
    refine' ⟨_, pss_cons ?s1 (pss_cons ?s2 (pss_one ?s3)), ?_⟩
    case s1 => exact ps_set (i := 2) scLTurns.nd rfl (.inr rfl) (pe_lst pa_nil)
    case s2 => exact (ps_for PassesOwn.never rfl (pi_list (pe_d DR hr (pa_cons (pv 0) (pa_cons (pv 1) pa_nil)))) (pg_tup rfl (pgs_cons (pg_name (i := 3) scLTurns.nd rfl (.inr rfl)) (pgs_cons (pg_name (i := 4) scLTurns.nd rfl (.inl rfl)) pgs_nil)))
        (pss_cons (ps_if (pt_cmpR (op_neD hr.units) (pv 2) (pe_lst pa_nil) (nomark _))
            (pss_one (ps_expr (pe_bm PySem.F.plainAttrs_list PySem.F.slot_list_append PySem.F.type_list_append mt_append (pv 2) (pa_cons (pe_callB (cr_minV rfl hr) (by rfl) mm (by decide +kernel) (pa_cons (pe_lc (own := [("_law_version_here", 5)]) (g := gName 5) (tt := tBetw K) (te := tVar 5) rfl scLTurns.nd (pi_list (pv 1)) (blkOk_by (N := nLT) (sc := defScope sLTurns) (by decide +kernel))
              (fun _ _ _ _ _ => pg_name (i := 5) scLTurns.nd rfl (Or.inl rfl)) (fun _ _ _ _ _ => pts_one (pt_chain (op_ver (op := .Lt) (.inl rfl) hr.units0) (op_ver (op := .Lt) (.inl rfl) hr.units0) (pe_ix (r := rIxL K) ix_list (pv 2) (pe_un un_neg pe_int) (fun _ _ => rfl)) (pv 5) (pv 3))) (fun _ _ _ _ _ => pv 5)) pa_nil)) pa_nil)))) pss_nil)
          (pss_one (ps_expr (pe_bm PySem.F.plainAttrs_list PySem.F.slot_list_append PySem.F.type_list_append mt_append (pv 2) (pa_cons (pv 3) pa_nil))))))
    case s3 => exact ps_ret (pe_callTy call_tuple_of (by rfl) mt (by decide +kernel) (pa_cons (pv 2) pa_nil))
    have ap := touch_apt hta
    have oki : ∀ v ∈ i, okV v := hx.vs.ok
    have nf := partN_nf ap oki
    have short := partN_short i o
    dsimp only [tSeq, tAsg, tRet]
    refine ⟨Nat.zero_le _, fun l hl => ?_⟩
    have s1 := same_upd (o := .lst []) hl
    have nx : x ≠ .ref l := by
      obtain ⟨a, ks, rfl, ha, _⟩ := hx
      intro z
      exact ne_of_none ha hl (V.ref.inj z)
    have ny : y ≠ .ref l := by
      obtain ⟨a, ks, rfl, ha, _⟩ := hy
      intro z
      exact ne_of_none ha hl (V.ref.inj z)
    refine ⟨x, rfl, y, rfl, x, y, i, o, rfl, hx.same s1, hy.same s1, few, fun G D xs s2 fD hD hst => ?_⟩
    have hG := s1.trans s2
    have hGl : G l = some (.lst []) := s2 _ _ upd_same
    have nD : l ≠ D := ne_of_none upd_same fD
    have yG : LsAt K G y o := hy.same hG
    generalize hn : partN i o = n at hst nf short
    refine ⟨D, rfl, ⟨_, SqL.of hD⟩, for_list (K := K) (a := D) (xs := xs) (fun j σ H' => ∃ (y3 y4 y5 : Option V) (ks : List (Addr × Ver)), σ = [some x, some y, some (.ref l), y3, y4, y5] ∧ Fr1 l G H' ∧ H' l = some (.lst (rf ks)) ∧ KsOk K H' ks ∧ ks.map (·.2) = (n.take j).foldl (turnStep o) [])
      ⟨none, none, none, [], rfl, .refl, hGl, KsOk.nil, rfl⟩ (fun j σ H' _ ⟨_, _, _, _, _, e, _⟩ => SqL.of (e _ _ nD.symm hD)) ?_ ?_⟩
    · rintro j z σ H1 hz ⟨y3, y4, y5, ks, rfl, fr, h1, hk, ek⟩
      obtain ⟨st, hst', p, lo, hh, rfl, g1, g2, g3⟩ := (Fr1.strs fr hGl hst).get hz
      have il := (List.getElem?_eq_some_iff.mp hz).1
      have ln := hst.len
      have kl := congrArg List.length ek
      rw [List.length_map] at kl
      have tl : ((n.take j).foldl (turnStep o) []).length ≤ 2 * j := by
        have z := turns_len (n.take j) o
        unfold turnsV at z
        rw [z, List.length_take]
        omega
      refine ⟨p, [lo, hh], rfl, g1, rfl, _, _, rfl, _, _, rfl, rfl, ?_⟩
      dsimp only [tIfS, tDrop, L2.tNext]
      have tk : (n.take (j + 1)).foldl (turnStep o) [] = turnStep o ((n.take j).foldl (turnStep o) []) st := by
        rw [take_snoc hst', List.foldl_append]
        rfl
      rw [tk]
      obtain ⟨pl, rfl, hpl⟩ := id g2
      have sti : okV st.1 := (nf.ok st (List.mem_of_getElem? hst')).1
      -- found.append(low)
      have app : ∀ (H2 : Hp) (ks2 : List (Addr × Ver)) {R : VK}, Fr1 l G H2 → H2 l = some (.lst (rf ks2)) → KsOk K H2 ks2 → ks2.length ≤ 300 → SqT K H2 pl (v3 st.1) → (∀ H3, Fr1 l G H3 → H3 l = some (.lst (rf (ks2 ++ [(pl, st.1)]))) → KsOk K H3 (ks2 ++ [(pl, st.1)]) → R .non H3) →
          tBM K "list" rAppend (tVar 2) (tCons (tVar 3) tNil) [some x, some y, some (.ref l), some (.ref pl), some hh, y5] H2 R := fun H2 ks2 {R} f2 e2 k2 n2 hp2 g => by
        have f := Fr1.put (l := l) (H := H2) (o := .lst (rf ks2 ++ [.ref pl]))
        refine ⟨_, rfl, .inl ⟨rfl, _, SqL.of e2⟩, _, rfl, l, rf ks2, _, rfl, rfl, e2, by rw [List.length_map, sizeLine_eq]; omega, g _ (f2.trans f) (by rw [upd_same]; simp) ?_⟩
        exact KsOk.app (ks_fr1 k2 f e2) (KsOk.one (f.sqT e2 hp2) sti)
      refine ⟨_, rfl, Nat.zero_le _, fun e he => ?_⟩
      have s3 := same_upd (o := .lst []) he
      refine ⟨_, _, dp_ksL (SqL.of (s3 _ _ h1)) (hk.same s3), .lst (SqL.of upd_same) .nil, shaped_versL _, shaped_nil, _, rfl, ?_⟩
      rw [eqv_versL]
      have h13 := s3 _ _ h1
      have hk3 := hk.same s3
      have fr3 : Fr1 l G (upd H1 e (.lst [])) := fr.trans (.same s3)
      have hpl3 := Same.sqT s3 hpl
      have yG3 : LsAt K (upd H1 e (.lst [])) y o := by
        obtain ⟨a, ko, rfl, ha, hko, eo⟩ := yG
        exact ⟨a, ko, rfl, fr3 _ _ (fun z => ny (by rw [z])) ha, ks_fr1 hko fr3 hGl, eo⟩
      generalize upd H1 e (.lst []) = H3 at h13 hk3 fr3 hpl3 yG3
      by_cases en : ks = []
      · subst en
        refine iteF (app H3 [] fr3 h13 hk3 (by simp) hpl3 fun H4 f4 e4 k4 => ⟨_, _, _, _, rfl, f4, e4, k4, ?_⟩)
        rw [← ek]
        rfl
      · obtain ⟨A, u, eu⟩ : ∃ A u, ks = A ++ [u] := ⟨_, _, (List.dropLast_concat_getLast en).symm⟩
        have mu : u ∈ ks := by rw [eu]; simp
        have ee : ks.isEmpty = false := by
          cases ks with
          | nil => exact absurd rfl en
          | cons _ _ => rfl
        rw [ee]
        have gl : ((n.take j).foldl (turnStep o) []).getLast? = some u.2 := by
          rw [← ek, eu, List.map_append, List.map_singleton, List.getLast?_concat]
        obtain ⟨t, et, tu⟩ : ∃ t, (n.take j).getLast? = some t ∧ t.1 = u.2 := by
          have z := turn_last o (n.take j) []
          rw [gl] at z
          cases c : (n.take j).getLast? with
          | none => rw [c] at z; cases z
          | some t => rw [c] at z; exact ⟨t, rfl, (Option.some.inj z).symm⟩
        obtain ⟨A', eA⟩ := List.getLast?_eq_some_iff.mp et
        have en2 : n = A' ++ t :: st :: n.drop (j + 1) := by
          have z1 : n.drop j = st :: n.drop (j + 1) := by
            have il2 : j < n.length := by omega
            rw [List.drop_eq_getElem_cons il2]
            rw [(List.getElem?_eq_some_iff.mp hst').2]
          have z2 := List.take_append_drop j n
          rw [eA, z1, List.append_assoc] at z2
          exact z2.symm
        have fne : o.filter (betwB u.2 st.1) ≠ [] := by
          rw [← tu]
          exact between_ne ap oki (hn.trans en2)
        refine iteT ⟨_, rfl, .inl ⟨rfl, _, SqL.of h13⟩, ?_⟩
        refine one_arg (r := rMinV K) (Q := fun z H4 => _) (lcFlt (x := y) (vs := o) (f := betwB u.2 st.1) (fun R r => ⟨_, rfl, r⟩) yG3 (by omega) (fun _ => rfl) (by show 5 < 6; decide) (fun p1 H4 Q2 mp hp1 op1 s4 q2 => ?_) fun H4 D4 kf s4 e4 k4 m4 => ?_)
        · have hu4 : IsVer K H4 (.ref u.1) u.2 := ⟨_, rfl, Same.sqT s4 (hk3 u mu).1⟩
          have h14 := s4 _ _ h13
          refine ⟨_, rfl, 1, rfl, l, rf ks, -1, .ref u.1, rfl, rfl, SqL.of h14, ?_, ?_⟩
          · show atI (ks.map fun p => V.ref p.1) (-1) = _
            rw [eu, List.map_append]
            exact atI_last _ _
          · refine ⟨_, rfl, u.2, p1.2, hu4, ⟨_, rfl, hp1⟩, _, rfl, ?_⟩
            have z := q2 H4 (Same.refl H4)
            unfold betwB at z
            by_cases c : ltV u.2 p1.2
            · rw [decide_eq_true c, Bool.true_and] at z
              exact ite2 (fun _ => ⟨_, rfl, p1.2, st.1, ⟨_, rfl, hp1⟩, ⟨_, rfl, Same.sqT s4 hpl3⟩, _, rfl, z⟩) fun c2 => absurd (decide_eq_true c) c2
            · rw [decide_eq_false c, Bool.false_and] at z
              exact ite2 (fun c2 => absurd (of_decide_eq_true c2) c) fun _ => ⟨_, rfl, z⟩
        · have nk : kf ≠ [] := fun z => fne (by rw [← m4, z]; rfl)
          have lf : kf.length ≤ 100 := by
            have z1 := congrArg List.length m4
            rw [List.length_map] at z1
            have z2 := List.length_filter_le (betwB u.2 st.1) o
            omega
          refine ⟨D4, kf, rfl, SqL.of e4, k4, nk, lf, fun p1 mp1 ep1 => ?_⟩
          have h14 := s4 _ _ h13
          have f := Fr1.put (l := l) (H := H4) (o := .lst (rf ks ++ [.ref p1.1]))
          refine ⟨l, rf ks, _, rfl, rfl, h14, by rw [List.length_map, sizeLine_eq]; omega, ?_⟩
          refine app _ (ks ++ [p1]) ((fr3.trans (.same s4)).trans f) (by rw [upd_same]; simp) (KsOk.app (ks_fr1 (hk3.same s4) f h14) (KsOk.one (f.sqT h14 (k4 p1 mp1).1) (k4 p1 mp1).2)) (by rw [List.length_append, List.length_singleton]; omega) (f.sqT h14 (Same.sqT s4 hpl3)) fun H5 f5 e5 k5 => ⟨_, _, _, _, rfl, f5, e5, k5, ?_⟩
          have e9 : turnStep o ((n.take j).foldl (turnStep o) []) st = (n.take j).foldl (turnStep o) [] ++ [minL (o.filter (betwB u.2 st.1))] ++ [st.1] := by
            generalize (n.take j).foldl (turnStep o) [] = ff at gl
            unfold turnStep
            rw [gl]
          rw [e9, List.map_append, List.map_append, ek, ← m4]
          show _ ++ [p1.2] ++ [st.1] = _
          rw [ep1]
    · rintro σ H1 ⟨y3, y4, y5, ks, rfl, fr, h1, hk, ek⟩
      rw [List.take_of_length_le (by rw [hst.len]; exact Nat.le_refl _)] at ek
      refine ⟨_, rfl, l, rf ks, rfl, .inl ⟨SqL.of h1, fun t ht => ?_⟩⟩
      have s3 := same_upd (o := .tup (rf ks)) ht
      exact q _ _ (fun b o z => s3 _ _ (fr _ _ (ne_of_none z hl) (hG _ _ z))) ⟨t, ks, rfl, .inl (.inl upd_same), hk.same s3, by rw [hn]; exact ek⟩
end
end Kw
set_option maxHeartbeats 4000000
namespace Kw
open PySem PySem.Spec PyProof.Rows L2 LamX SX
/-! ### a def that is promised where no repr is under way, called there -/
structure DefG (P : Program) (w : World) (K : PySem.W.Frag) (mg : Str → Option Value) (base : Heap) (x : Str) (k : Nat) (ps : List Str) (sp : Sp) : Prop where
  ex : ∃ f fd, FnOkG P w K mg base CX0 k f fd ps sp ∧ mg x = some (.ref f) ∧ PySem.W.keepIn K (.ref f) = true ∧ Binds K fd ps []
theorem pe_dG {X : Cx} {x : Str} {k : Nat} {ps : List Str} {sp : Sp} {p pos : Pos} {e : Expr} {es : List Expr} {t : TA} (D : DefG X.prog X.w X.K X.mg X.base x k ps sp) (hgd : X.A.guards = some []) (hr : Room k X.A) (ha : PA X (e :: es) t) (hg : Gl X x := by rfl)
    (hdb : (x == ("__debug__" : Str)) = false := by decide) (he : starEach (e :: es) X.env = (false, eval e X.env) :: starEach es X.env := by rfl) (hpl : (backTo pos (starEach es X.env)).any (·.1) = false := by rfl) :
    PE X (.Call (.Name x p) (e :: es) [] pos) (tCall sp [] E0 t) := by
  obtain ⟨f, fd, F, hm, hk, hb⟩ := D.ex
  refine ⟨fun pins s σ H Q I h => wpAny_Call_Name_kw (ld_glob I hg hm ?_ hdb)⟩
  refine PySem.W.callWith_K (h₀ := X.base) I.ok.mod.kin hk (thn (ha.run pos pins s σ H _ I h) fun us s1 ⟨vs, H1, I1, r, q⟩ => ⟨I1.kIn, ?_⟩) he hpl
  have len := F.len _ _ _ _ q
  have lenU : (us ++ ([] : List Value)).length = ps.length := by rw [List.append_nil, ← r.length, ← len, List.append_nil]
  have r0 : Vals (vs ++ []) (us ++ []) := r.append .nil
  refine wpAny_call (codeAny_mono (F.run X.A X.stack s1 H1 ⟨us, []⟩ (us ++ []) (vs ++ []) Q E0 hgd hr I1.env0 (hb s1 us I1.kIn lenU) r0 q) fun res s2 hq => ?_)
  cases res with
  | error er => exact False.elim hq
  | ok fl =>
    cases fl with
    | ret z => exact I1.after hq
    | next => exact False.elim hq
    | brk => exact False.elim hq
    | cont => exact False.elim hq
/-! ### the text of a version -/
def shV (v : Ver) : Str := (verD v).shown
theorem shown_fits {v : Ver} (o : okV v) (b : botV 100 v) : (verD v).showable = true ∧ (verD v).shown.length ≤ sizeLine := by
  obtain ⟨o1, o2, o3⟩ := o
  obtain ⟨b1, b2, b3⟩ := b
  have lg : ∀ i : Int, 0 ≤ i → i ≤ 100 → i.natAbs.log2 < 1920 := fun i h1 h2 => by
    obtain ⟨n, rfl⟩ : ∃ n : Nat, i = (n : Int) := ⟨i.toNat, by omega⟩
    exact log_small n (by omega)
  have l1 := lg _ o1 b1
  have l2 := lg _ o2 b2
  have l3 := lg _ o3 b3
  refine ⟨by simp [verD, PyData.showable, PyData.showableAll, l1, l2, l3], ?_⟩
  have t1 := int_text_len_1921 l1
  have t2 := int_text_len_1921 l2
  have t3 := int_text_len_1921 l3
  have z := tupleText_len_le [Str.ofString (toString v.1), Str.ofString (toString v.2.1), Str.ofString (toString v.2.2)]
  have e : (verD v).shown = tupleText [Str.ofString (toString v.1), Str.ofString (toString v.2.1), Str.ofString (toString v.2.2)] := by
    simp [verD, PyData.shown, PyData.shownAll]
  rw [e, sizeLine_eq]
  simp only [List.map_cons, List.map_nil, List.sum_cons, List.sum_nil, List.length_cons, List.length_nil] at z
  omega
def rReprV (K : PySem.W.Frag) : List V → Hp → VK → Prop := fun xs H Q => ∃ x v, xs = [x] ∧ IsVer K H x v ∧ okV v ∧ botV 100 v ∧ Q (.str (shV v)) H
theorem cr_reprV {X : Cx} {k : Nat} (hg : X.A.guards = some []) (hr : Room k X.A) : CallR X (.builtin "repr") (rReprV X.K) := by
  intro pins s σ H xs us Q I r h
  obtain ⟨_, v, rfl, ⟨a, rfl, ha⟩, ov, bv, q⟩ := h
  rw [Vals.ref1 r]
  obtain ⟨sh, fit⟩ := shown_fits ov bv
  obtain ⟨as, rd⟩ := Dp.reads I (verD v) _ _ (dp_ver ⟨a, rfl, ha⟩) (show RelV (.ref a) (.ref a) from rfl)
  refine repr_of_reads' rd sh (fun z => ?_) hg ?_ (fun b o z => z) (fun h' u tk kp => ⟨.str (shV v), H, I.kept kp, ⟨u, rfl⟩, q⟩) fit
  · have e : (verD v).hasDict = false := by simp [verD, PyData.hasDict, PyData.hasDictAll]
    rw [e] at z
    cases z
  · have := hr.un
    rw [(cl_ver v).2]
    omega
theorem inV_strs (z : Str) (ns : List Str) : inV (.str z) (ns.map V.str) = decide (z ∈ ns) := by
  unfold inV
  rw [List.any_map, Bool.eq_iff_iff, List.any_eq_true, decide_eq_true_eq]
  constructor
  · rintro ⟨n, hn, e⟩
    have e' : (n == z) = true := e
    rw [← eq_of_beq e']
    exact hn
  · intro h
    exact ⟨z, h, by show (z == z) = true; simp⟩
end Kw
set_option maxHeartbeats 4000000
namespace Kw
open PySem PySem.Spec PyProof.Rows L2 LamX SX
abbrev sIsTurns : Stmt := top 48
/-! ### _law_is_turns -/
def PassJ (i o us : List Ver) (j : Nat) : Prop := ∀ v, us[j]? = some v → v ∈ (if j % 2 = 0 then i else o) ∧ ∀ u, 0 < j → us[j - 1]? = some u → ltV u v
theorem alt_pass {i o us : List Ver} (h : altB i o us = true) (j : Nat) : PassJ i o us j := by
  intro v hv
  unfold altB at h
  rw [Bool.or_eq_true, Bool.and_eq_true, Bool.and_eq_true] at h
  rcases h with h | ⟨_, h1, h2⟩
  · rw [of_decide_eq_true h] at hv
    cases hv
  · refine ⟨?_, fun u hj hu => ?_⟩
    · have z := (in_iff i o us 0).mp h2 j v hv
      rwa [Nat.zero_add] at z
    · exact (ris_iff us).mp h1 (j - 1) u v hu (by rw [show j - 1 + 1 = j from by omega]; exact hv)
theorem pass_alt {i o us : List Ver} (h : us = [] ∨ us.length % 2 = 1) (p : ∀ j, j < us.length → PassJ i o us j) : altB i o us = true := by
  unfold altB
  rw [Bool.or_eq_true, Bool.and_eq_true, Bool.and_eq_true]
  rcases h with h | h
  · exact .inl (decide_eq_true h)
  · refine .inr ⟨decide_eq_true h, (ris_iff us).mpr fun j v u hv hu => ?_, (in_iff i o us 0).mpr fun j v hv => ?_⟩
    · have il := (List.getElem?_eq_some_iff.mp hu).1
      exact (p (j + 1) il u hu).2 v (by omega) hv
    · have il := (List.getElem?_eq_some_iff.mp hv).1
      rw [Nat.zero_add]
      exact (p j il v hv).1
def ValC (K : PySem.W.Frag) (H : Hp) (x : V) (i o : List Ver) (b : Bool) : Prop := (∃ T, Oth H x T ∧ b = false) ∨ (∃ t, x = .ref t ∧ SqT K H t [.non] ∧ b = false) ∨ ∃ us, TsAt K H x us ∧ us.length ≤ 100 ∧ (∀ v ∈ us, botV 100 v) ∧ b = altB i o us
theorem ValC.a {K : PySem.W.Frag} {H : Hp} {x : V} {i o : List Ver} {b : Bool} (h : ValC K H x i o b) : ValA K H x i o b := by
  rcases h with h | h | ⟨us, h1, h2, _, h3⟩
  · exact .inl h
  · exact .inr (.inl h)
  · exact .inr (.inr ⟨us, h1, h2, h3⟩)
theorem ValC.ext {K : PySem.W.Frag} {H H' : Hp} {x : V} {i o : List Ver} {b : Bool} (h : ValC K H x i o b) (e : ExtN H H') : ValC K H' x i o b := by
  rcases h with ⟨T, h, z⟩ | ⟨t, z, h, z2⟩ | ⟨us, h, r⟩
  · exact .inl ⟨T, h.ext e, z⟩
  · exact .inr (.inl ⟨t, z, e.sqT h, z2⟩)
  · exact .inr (.inr ⟨us, h.ext e, r⟩)
def spIsTurns (K : PySem.W.Frag) : Sp := fun vs H Q _ => ∃ (x y z : V) (i o : List Ver) (b : Bool), vs = [x, y, z] ∧ LsAt K H x i ∧ LsAt K H y o ∧ i.length + o.length ≤ 60 ∧ (∀ v ∈ i ++ o, botV 100 v) ∧ ValC K H z i o b ∧ ∀ H', Same H H' → Q (.bl b) H'
section
variable {K : PySem.W.Frag} {H H' : Hp}
/-- [repr(each) for each in xs] -/
theorem lcTexts {ts : TE} {j : Nat} {σ : L2.St} {vs : List Ver} {Q : VK} (hts : ∀ R : VK, (∀ H1 x, Same H H1 → LsAt K H1 x vs → R x H1) → ts σ H R) (few : vs.length ≤ 100) (bd : ∀ v ∈ vs, botV 100 v) (hw : ∀ y, wipe ((wipe σ [j]).set j y) [j] = wipe σ [j]) (hj : j < (wipe σ [j]).length)
    (q : ∀ H1 D, Same H H1 → H1 D = some (.lst ((vs.map shV).map V.str)) → Q (.ref D) H1) : tLc (iList K ts) (gName j) tYes (tCB (rReprV K) (tCons (tVar j) tNil)) [j] σ H Q := by
  refine hts _ fun H0 x s0 ⟨l, ks, ex, hl, hk, ev⟩ => ?_
  subst ex
  subst ev
  rw [List.length_map] at few
  refine ⟨l, rfl, ⟨_, SqL.of hl⟩, fun D hD => ?_⟩
  refine lc_list (K := K) (a := l) (xs := rf ks) (fun i H1 => Same H0 H1 ∧ H1 D = some (.lst ((((ks.take i).map (·.2)).map shV).map V.str))) ⟨same_upd hD, upd_same⟩ (fun i H1 _ R => SqL.of (R.1 _ _ hl)) ?_ ?_
  · rintro i y H1 hy ⟨s1, h1⟩
    rw [List.getElem?_map] at hy
    obtain ⟨p, hp, rfl⟩ := Option.map_eq_some_iff.mp hy
    have mp := List.mem_of_getElem? hp
    have kp := hk p mp
    refine ⟨hw _, yesI ⟨_, by rw [List.getElem?_set_self hj], .ref p.1, p.2, rfl, ⟨_, rfl, Same.sqT s1 kp.1⟩, kp.2, bd _ (List.mem_map.mpr ⟨p, mp, rfl⟩), _, h1, by simp; rw [sizeLine_eq]; omega, fun b o w => ?_, ?_⟩⟩
    · rw [upd_ne (ne_of_none w hD)]
      exact s1 _ _ w
    · rw [upd_same, take_snoc hp]
      simp
  · rintro H1 ⟨s1, h1⟩
    rw [List.take_of_length_le (by rw [List.length_map]; exact Nat.le_refl _)] at h1
    exact q H1 D (s0.trans s1) h1
end
section
variable {P : Program} {w : World} {K : PySem.W.Frag} {mg : Str → Option Value} {base : Heap}
theorem step_if {tt : TT} {σ : L2.St} {H : Hp} {b : Bool} {Q : Bool → Hp → Prop} (h : ∀ R : Bool → Hp → Prop, (∀ H', Same H H' → R b H') → tt σ H R) (q : ∀ H', Same H H' → Q b H') : tt σ H Q := h Q q
instance altDec (l : List Ver) (j : Nat) (v : Ver) : Decidable (∀ u, l[j]? = some u → ltV u v) := match h : l[j]? with
  | none => .isTrue fun u z => by cases z
  | some w => if c : ltV w v then .isTrue fun u z => by cases z; exact c else .isFalse fun z => c (z w rfl)
theorem prev_read {K : PySem.W.Frag} {σ : L2.St} {H : Hp} {R : Bool → Hp → Prop} {ks : List (Addr × Ver)} {t : Addr} {j : Nat} {p : Addr × Ver} (h2 : σ[2]? = some (some (.ref t))) (h3 : σ[3]? = some (some (.int (j : Int)))) (h4 : σ[4]? = some (some (.ref p.1))) (ht : SqT K H t (rf ks)) (hk : KsOk K H ks) (hp : ks[j]? = some p) (hv : IsVer K H (.ref p.1) p.2)
    (r : R (decide (0 < j) && !decide (∀ u, (ks.map (·.2))[j - 1]? = some u → ltV u p.2)) H) : tAnd (tTest (tOp (rI0 fun i j => .bl (decide (i > j))) (tVar 3) (tC (.int 0)))) (tTest (tOp (rVer K .GtE) (tOp (rIxT K) (tVar 2) (tOp (rI0 fun i j => .int (i - j)) (tVar 3) (tC (.int 1)))) (tVar 4))) σ H R := by
  refine ⟨_, h3, (j : Int), 0, rfl, rfl, _, rfl, ?_⟩
  by_cases c : 0 < j
  · have e : decide ((j : Int) > 0) = true := decide_eq_true (by omega)
    rw [decide_eq_true c, Bool.true_and] at r
    rw [e]
    obtain ⟨u, hu⟩ : ∃ u, ks[j - 1]? = some u := ⟨_, List.getElem?_eq_getElem (by have := (List.getElem?_eq_some_iff.mp hp).1; omega)⟩
    have ku := hk u (List.mem_of_getElem? hu)
    refine iteT ⟨_, h2, _, h3, (j : Int), 1, rfl, rfl, t, rf ks, _, .ref u.1, rfl, rfl, ht, at_of (j := j - 1) (by omega) (by rw [List.getElem?_map, hu]; rfl), _, h4, u.2, p.2, ⟨_, rfl, ku.1⟩, hv, _, rfl, ?_⟩
    have e2 : (∀ w, (ks.map (·.2))[j - 1]? = some w → ltV w p.2) ↔ ltV u.2 p.2 := by
      rw [List.getElem?_map, hu]
      exact ⟨fun z => z u.2 rfl, fun z w hw => by cases hw; exact z⟩
    have e3 : cmpV .GtE u.2 p.2 = !decide (∀ w, (ks.map (·.2))[j - 1]? = some w → ltV w p.2) := by
      rw [show decide (∀ w, (ks.map (·.2))[j - 1]? = some w → ltV w p.2) = decide (ltV u.2 p.2) from decide_eq_decide.mpr e2]
      show decide (leV p.2 u.2) = _
      unfold leV
      by_cases c2 : ltV u.2 p.2 <;> simp [c2]
    rw [e3]
    exact r
  · have e : decide ((j : Int) > 0) = false := decide_eq_false (by omega)
    rw [decide_eq_false c, Bool.false_and] at r
    rw [e]
    exact iteF r
theorem mod_two (n : Nat) : decide (V.int ((n : Int) % 2) = V.int 0) = decide (n % 2 = 0) := by
  rw [Bool.eq_iff_iff, decide_eq_true_eq, decide_eq_true_eq]
  constructor
  · intro z
    injection z with z
    omega
  · intro z
    congr 1
    omega
abbrev nIT : List Str := ["_law_inside", "_law_outside", "_law_value", "_law_at", "_law_one", "_law_each"]
theorem scIsTurns : FnScope nIT ["_law_inside", "_law_outside", "_law_value"] (defScope sIsTurns) := ⟨rfl, rfl, rfl, by decide +kernel, rfl, by decide +kernel, by decide +kernel⟩
theorem ok_isTurns {f cd : Addr} {fd : FuncData} {k : Nat} (F : FunC K "_law_is_turns" "_law_is_turns" sIsTurns f fd cd) (mi : mg "isinstance" = none) (mt : mg "tuple" = none) (ml : mg "len" = none) (me : mg "enumerate" = none) (mp : mg "repr" = none) :
    FnOkG P w K mg base CX0 (k + 1) f fd ["_law_inside", "_law_outside", "_law_value"] (spIsTurns K) := by
  refine F.okG scIsTurns (fun vs H Q E h => ?_) (fun A outer s H vs Q E hg hr h => ?_)
  · obtain ⟨x, y, z, i, o, b, rfl, _⟩ := h
    rfl
  · obtain ⟨x, y, z, i, o, b, rfl, hx, hy, few, bd, hz, q⟩ := h
    refine' ⟨_, pss_cons ?s1 (pss_cons ?s2 (pss_one ?s3)), ?_⟩
    case s1 => exact (ps_if (PW.pt (pw_or (pt_not (pt_val (pe_callB call_isi (by rfl) mi (by decide +kernel) (pa_cons (pv 2) (pa_cons (pe_bltn (v := .ty "tuple") (by rfl) mt (by decide +kernel) rfl) pa_nil)))))
        (pw_or1 (PW.pt (pw_and (pt_cmpR (op_neD hr.units) (pv 2) (pe_tup pa_nil) (nomark _)) (pw_and1 (pt_cmpR op_eq (pe_op op_mod (pe_callB call_len_seq (by rfl) ml PySem.boot_len (pa_cons (pv 2) pa_nil)) pe_int) pe_int (nomark _)))))))) (pss_one (ps_ret pe_bl)) pss_nil)
    case s2 => exact (ps_for PassesOwn.never rfl (pi_enumLT (by rfl) me (pa_cons (pv 2) pa_nil)) (pg_tup rfl (pgs_cons (pg_name (i := 3) scIsTurns.nd rfl (.inl rfl)) (pgs_cons (pg_name (i := 4) scIsTurns.nd rfl (.inl rfl)) pgs_nil)))
        (pss_cons (ps_if (PW.pt (pw_or (pt_not (pt_val (pe_callB call_isi (by rfl) mi (by decide +kernel) (pa_cons (pv 4) (pa_cons (pe_bltn (v := .ty "tuple") (by rfl) mt (by decide +kernel) rfl) pa_nil)))))
            (pw_or (pt_cmpR op_ne (pe_callB call_len_seq (by rfl) ml PySem.boot_len (pa_cons (pv 4) pa_nil)) pe_int (nomark _))
            (pw_or1 (pt_cmpR op_notIn_seq (pe_callB (cr_reprV hg hr) (by rfl) mp (by decide +kernel) (pa_cons (pv 4) pa_nil)) (pe_lc (own := [("_law_each", 5)]) (g := gName 5) (tt := tYes) (te := tCB (rReprV K) (tCons (tVar 5) tNil)) rfl scIsTurns.nd (pi_list (pe_op op_cat (pv 0) (pv 1))) (blkOk_by (N := nIT) (sc := defScope sIsTurns) (by decide +kernel))
              (fun _ _ _ _ _ => pg_name (i := 5) scIsTurns.nd rfl (Or.inl rfl)) (fun _ _ _ _ _ => pts_nil) (fun _ _ _ _ _ => pe_callB (cr_reprV hg hr) (by rfl) mp (by decide +kernel) (pa_cons (pv 5) pa_nil))) rfl))))) (pss_one (ps_ret pe_bl)) pss_nil)
        (pss_one (ps_if (PW.pt (pw_or (pt_cmpR (op_notInV (un65 hr)) (pv 4) (pe_ifExp (pt_cmpR op_eq (pe_op op_mod (pv 3) pe_int) pe_int (nomark _)) (pv 0) (pv 1)) rfl) (pw_or1 (PW.pt (pw_and (pt_cmpR op_gt (pv 3) pe_int (nomark _)) (pw_and1 (pt_cmpR (op_ver (op := .GtE) (.inr (.inr (.inr rfl))) hr.units0) (pe_ix ix_tup (pv 2) (pe_op op_sub (pv 3) pe_int) (fun _ _ => rfl)) (pv 4) (nomark _)))))))) (pss_one (ps_ret pe_bl)) pss_nil))))
    case s3 => exact ps_ret pe_bl
    dsimp only [tSeq, tIfS, tRet]
    rcases hz with ⟨T, oz, rfl⟩ | ⟨t, rfl, ht, rfl⟩ | ⟨us, ⟨t, ks, rfl, ht, hk, rfl⟩, fewU, bdU, rfl⟩
    · exact ⟨_, rfl, z, .ty "tuple", .type T, .type "tuple", false, rfl, .ty _, oz.ty, kit_ty oz.no, false, rfl, iteT (iteT (q H (Same.refl H)))⟩
    · refine ⟨_, rfl, .ref t, .ty "tuple", .type "tuple", .type "tuple", true, rfl, .ty _, ty_tup ht, kit_ty (by decide +kernel), true, rfl, iteF ?_⟩
      refine ⟨_, rfl, Nat.zero_le _, fun p hp => ?_⟩
      have s1 := same_upd (o := .tup []) hp
      have ht1 := Same.sqT s1 ht
      refine ⟨.tuple [.none], .tuple [], .tup ht1 (.cons .non .nil), .tup (.inl (.inl upd_same)) .nil, by decide, by decide, true, by decide +kernel, iteT ?_⟩
      refine ⟨_, rfl, t, [.non], rfl, .inr ht1, (1 : Int), 2, rfl, rfl, by decide, rfl, false, by decide +kernel, iteF ?_⟩
      dsimp only [L2.tNext]
      refine ⟨_, rfl, t, [.non], rfl, .inr ⟨ht1, for_it (walk_enumT (xs := [.non])) (fun j σ H' => (∃ y3 y4 y5 : Option V, σ = [some x, some y, some (.ref t), y3, y4, y5]) ∧ Same H H' ∧ j = 0) ⟨⟨none, none, none, rfl⟩, s1, rfl⟩ (fun j σ H' _ P => Same.sqT P.2.1 ht) ?_ ?_⟩⟩
      · rintro j e σ H1 H2 hj ⟨⟨y3, y4, y5, rfl⟩, s2, rfl⟩ ⟨T, x1, y1, rfl, hT, rfl, e1, e2⟩
        obtain rfl := Option.some.inj e1
        obtain rfl : V.non = y1 := Option.some.inj e2
        have s3 := same_upd (o := .tup [.int ((0 : Nat) : Int), .non]) hT
        refine ⟨T, _, rfl, .inl (.inl upd_same), rfl, _, _, rfl, _, _, rfl, rfl, ?_⟩
        exact ⟨_, rfl, .non, .ty "tuple", .type "NoneType", .type "tuple", false, rfl, .ty _, Flat.ty .non, kit_ty (by decide +kernel), false, rfl, iteT (iteT (q _ (s2.trans s3)))⟩
      · rintro σ H1 ⟨_, _, z⟩
        cases z
    · have ht0 := ht
      rw [List.length_map] at fewU
      have oku : ∀ v ∈ ks.map (·.2), okV v := fun v hv => by
        obtain ⟨p, hp, rfl⟩ := List.mem_map.mp hv
        exact (hk p hp).2
      refine step_if (b := !decide (ks.map (·.2) = []) && decide (ks.length % 2 = 0)) (fun R r => ?_) fun H1 s1 => ?_
      · refine ⟨_, rfl, .ref t, .ty "tuple", .type "tuple", .type "tuple", true, rfl, .ty _, ty_tup ht, kit_ty (by decide +kernel), true, rfl, iteF ?_⟩
        refine ⟨_, rfl, Nat.zero_le _, fun p hp => ?_⟩
        have s1 := same_upd (o := .tup []) hp
        refine ⟨.tuple ((ks.map fun p : Addr × Ver => p.2).map verD), .tuple [], .tup (Same.sqT s1 ht) (dp_verL ks (hk.same s1)), .tup (.inl (.inl upd_same)) .nil, shaped_tupV _, shaped_tupV [], _, rfl, ?_⟩
        rw [eqv_tupNil]
        have z := r _ s1
        by_cases en : ks.map (·.2) = []
        · rw [decide_eq_true en] at z ⊢
          exact iteF z
        · rw [decide_eq_false en] at z ⊢
          refine iteT ⟨_, rfl, t, rf ks, rfl, .inr (Same.sqT s1 ht), ((rf ks).length : Int), 2, rfl, rfl, (by show (0 : Int) < 2; decide), rfl, _, rfl, ?_⟩
          rw [List.length_map, mod_two]
          exact z
      · cases c : (!decide (ks.map (·.2) = []) && decide (ks.length % 2 = 0)) with
        | true =>
          rw [Bool.and_eq_true, Bool.not_eq_true', decide_eq_false_iff_not, decide_eq_true_eq] at c
          have e : altB i o (ks.map (·.2)) = false := by
            unfold altB
            rw [decide_eq_false c.1, List.length_map, decide_eq_false (by omega : ¬ ks.length % 2 = 1)]
            rfl
          rw [e] at q
          exact iteT (q H1 s1)
        | false =>
          have hodd : ks.map (·.2) = [] ∨ (ks.map (·.2)).length % 2 = 1 := by
            by_cases en : ks.map (·.2) = []
            · exact .inl en
            · rw [decide_eq_false en] at c
              have c2 : ¬ ks.length % 2 = 0 := by simpa using c
              rw [List.length_map]
              exact .inr (by omega)
          refine iteF ?_
          dsimp only [L2.tNext]
          refine ⟨_, rfl, t, rf ks, rfl, .inr ⟨Same.sqT s1 ht, for_it walk_enumT (fun j σ H' => (∃ y3 y4 y5 : Option V, σ = [some x, some y, some (.ref t), y3, y4, y5]) ∧ Same H H' ∧ ∀ j', j' < j → PassJ i o (ks.map (·.2)) j') ⟨⟨none, none, none, rfl⟩, s1, fun j' hj' => absurd hj' (Nat.not_lt_zero _)⟩ (fun j σ H' _ P => Same.sqT P.2.1 ht) ?_ ?_⟩⟩
          · rintro j e σ H2 H3 hj ⟨⟨y3, y4, y5, rfl⟩, s2, hp⟩ ⟨T, x1, y1, rfl, hT, rfl, e1, e2⟩
            obtain rfl := Option.some.inj e1
            replace e2 : (rf ks)[j]? = some y1 := e2
            rw [List.getElem?_map] at e2
            obtain ⟨p, hpj, rfl⟩ := Option.map_eq_some_iff.mp e2
            have mp1 := List.mem_of_getElem? hpj
            have kp := hk p mp1
            have hus : (ks.map (·.2))[j]? = some p.2 := by rw [List.getElem?_map, hpj]; rfl
            have s3 := s2.trans (same_upd (o := .tup [.int (j : Nat), .ref p.1]) hT)
            refine ⟨T, _, rfl, .inl (.inl upd_same), rfl, _, _, rfl, _, _, rfl, rfl, ?_⟩
            generalize upd H2 T (.tup [.int (j : Nat), .ref p.1]) = H4 at s3
            have bad : ∀ H5, Same H H5 → ¬ PassJ i o (ks.map (·.2)) j → Q (.bl false) H5 := fun H5 s5 np => by
              have e : altB i o (ks.map (·.2)) = false := by
                rw [Bool.eq_false_iff]
                exact fun z => np (alt_pass z j)
              rw [e] at q
              exact q H5 s5
            have hv : IsVer K H (.ref p.1) p.2 := ⟨_, rfl, kp.1⟩
            dsimp only [tSeq, tIfS]
            refine step_if (b := !decide (shV p.2 ∈ (i ++ o).map shV)) (fun R r => ?_) fun H5 s5 => ?_
            · have h4 := hv.same s3
              obtain ⟨_, e9, t9⟩ := id h4
              cases e9
              refine ⟨_, rfl, .ref p.1, .ty "tuple", .type "tuple", .type "tuple", true, rfl, .ty _, ty_tup t9, kit_ty (by decide +kernel), true, rfl, iteF ?_⟩
              refine ⟨_, rfl, p.1, v3 p.2, rfl, .inr t9, rfl, false, by simp, iteF ?_⟩
              refine ⟨_, rfl, .ref p.1, p.2, rfl, h4, kp.2, bdU _ (List.mem_map.mpr ⟨p, mp1, rfl⟩), ?_⟩
              refine lcTexts (vs := i ++ o) (fun R2 r2 => ?_) (by rw [List.length_append]; omega) bd (fun _ => rfl) (by show 5 < 6; decide) fun H5 D s5 hD => ?_
              · obtain ⟨lx, kx, rfl, hlx, hkx, ex⟩ := hx
                obtain ⟨ly, ky, rfl, hly, hky, ey⟩ := hy
                have lenx := congrArg List.length ex
                have leny := congrArg List.length ey
                rw [List.length_map] at lenx leny
                refine ⟨_, rfl, _, rfl, lx, ly, rf kx, rf ky, rfl, rfl, s3 _ _ hlx, s3 _ _ hly, by rw [List.length_map, List.length_map, sizeLine_eq]; omega, fun p9 hp9 => ?_⟩
                have s9 := same_upd (o := .lst (rf kx ++ rf ky)) hp9
                exact r2 _ _ s9 ⟨p9, kx ++ ky, rfl, by rw [upd_same]; simp, KsOk.app (hkx.same (s3.trans s9)) (hky.same (s3.trans s9)), by rw [List.map_append, ex, ey]⟩
              · refine ⟨D, _, rfl, .inl (SqL.of hD), rfl, by simp [flatV], _, rfl, ?_⟩
                rw [if_pos rfl, inV_strs]
                exact r H5 s5
            · have s35 := s3.trans s5
              cases c2 : decide (shV p.2 ∈ (i ++ o).map shV) with
              | false =>
                have n2 := of_decide_eq_false c2
                refine iteT (bad H5 s35 fun z => n2 (List.mem_map.mpr ⟨p.2, ?_, rfl⟩))
                have z1 := (z p.2 hus).1
                split at z1
                · exact List.mem_append_left _ z1
                · exact List.mem_append_right _ z1
              | true =>
                refine iteF ?_
                dsimp only [L2.tNext, tIfS]
                have hv5 := hv.same s35
                refine step_if (b := (!decide (p.2 ∈ (if j % 2 = 0 then i else o))) || (decide (0 < j) && !decide (∀ u, (ks.map (·.2))[j - 1]? = some u → ltV u p.2))) (fun R r => ?_) fun H6 s6 => ?_
                · have z := r H5 (Same.refl H5)
                  have vx5 := (hx.vs).same s35
                  have vy5 := (hy.vs).same s35
                  have rest := fun R3 => prev_read (K := K) (σ := [some x, some y, some (.ref t), some (.int ((j : Nat) : Int)), some (.ref p.1), y5]) (H := H5) (R := R3) (ks := ks) (t := t) (j := j) (p := p) rfl rfl rfl (Same.sqT s35 ht) (hk.same s35) hpj hv5
                  by_cases d : j % 2 = 0
                  · rw [if_pos d] at z
                    refine ⟨_, rfl, _, rfl, (j : Int), 2, rfl, rfl, (by show (0 : Int) < 2; decide), rfl, true, by rw [mod_two, decide_eq_true d], iteT ⟨_, rfl, p.2, i, hv5, vx5, _, rfl, ?_⟩⟩
                    cases c3 : decide (p.2 ∈ i) with
                    | false =>
                      rw [c3] at z
                      exact iteT z
                    | true =>
                      rw [c3] at z
                      exact iteF (rest _ z)
                  · rw [if_neg d] at z
                    refine ⟨_, rfl, _, rfl, (j : Int), 2, rfl, rfl, (by show (0 : Int) < 2; decide), rfl, false, by rw [mod_two, decide_eq_false d], iteF ⟨_, rfl, p.2, o, hv5, vy5, _, rfl, ?_⟩⟩
                    cases c3 : decide (p.2 ∈ o) with
                    | false =>
                      rw [c3] at z
                      exact iteT z
                    | true =>
                      rw [c3] at z
                      exact iteF (rest _ z)
                · have s36 := s35.trans s6
                  cases c3 : ((!decide (p.2 ∈ (if j % 2 = 0 then i else o))) || (decide (0 < j) && !decide (∀ u, (ks.map (·.2))[j - 1]? = some u → ltV u p.2))) with
                  | true =>
                    refine iteT (bad H6 s36 fun z => ?_)
                    obtain ⟨z1, z2⟩ := z p.2 hus
                    rw [decide_eq_true z1] at c3
                    have c4 : (decide (0 < j) && !decide (∀ u, (ks.map (·.2))[j - 1]? = some u → ltV u p.2)) = true := c3
                    rw [Bool.and_eq_true, Bool.not_eq_true', decide_eq_true_eq, decide_eq_false_iff_not] at c4
                    exact c4.2 fun u hu => z2 u c4.1 hu
                  | false =>
                    refine iteF ⟨⟨_, _, _, rfl⟩, s36, fun j' hj' => ?_⟩
                    by_cases e : j' < j
                    · exact hp j' e
                    · obtain rfl : j' = j := by omega
                      intro v hv'
                      rw [hus] at hv'
                      obtain rfl := Option.some.inj hv'
                      rw [Bool.or_eq_false_iff, Bool.not_eq_false', decide_eq_true_eq, Bool.and_eq_false_iff] at c3
                      refine ⟨c3.1, fun u h0 hu => ?_⟩
                      rcases c3.2 with c4 | c4
                      · exact absurd h0 (of_decide_eq_false c4)
                      · rw [Bool.not_eq_false', decide_eq_true_eq] at c4
                        exact c4 u hu
          · rintro σ H2 ⟨⟨y3, y4, y5, rfl⟩, s2, hp⟩
            rw [pass_alt hodd fun j hj => hp j (by rw [List.length_map] at hj ⊢; exact hj)] at q
            exact q H2 s2
end
end Kw
set_option maxHeartbeats 4000000
namespace Kw
open PySem PySem.Spec PyProof.Rows L2 LamX SX
/-! ### kept errors with the field part -/
def IsExcP (H : Hp) (x : V) (C : Addr) (z : Str) : Prop := ∃ a d, x = .ref a ∧ H a = some (exA (.ref C) (some d) a) ∧ H d = some (.xd [(("part" : Str), .str z)])
def tXpart (C : Addr) (te : TE) : TE := fun σ H Q => te σ H fun x H1 => ∃ z, IsExcP H1 x C z ∧ Q (.str z) H1
abbrev rIsP (K : PySem.W.Frag) (C : Addr) : List V → Hp → VK → Prop := fun xs H Q => ∃ (x c : V) (z : Str) (cv : Value) (b : Bool), xs = [x, c] ∧ IsExcP H x C z ∧ ClsV c cv ∧ PySem.W.kitOne K (.ref C) cv = some b ∧ Q (.bl b) H
section
variable {X : Cx}
theorem call_isP {C : Addr} (T : ExcC X.K C) : CallR X (.builtin "isinstance") (rIsP X.K C) := by
  intro pins s σ H xs us Q I r h
  obtain ⟨x, c, z, cv, b, rfl, ⟨a, d, rfl, ha, hd⟩, hc, e, q⟩ := h
  obtain ⟨u1, u2, rfl, r1, r2⟩ := vals2 r
  obtain rfl : u1 = Value.ref a := r1
  obtain rfl := hc.eq r2
  obtain ⟨ox, od, J, _⟩ := exc_inst I ha fun dd ed => by
    cases ed
    exact ⟨_, hd⟩
  have isC : (PySem.W.clsIn X.K C).isSome = true := by
    obtain ⟨cd, hcd, _⟩ := PySem.W.any_some T.hd
    rw [hcd]
    rfl
  exact PySem.W.kia_one (PySem.W.kitx_exc isC T.hg T.hk T.hs T.ha T.hn T.ht T.hm) I.kIn J e (fun z => nomatch z) fun tk => ⟨.bl b, H, I.kept (t' := tk) fun _ _ z => z, rfl, q⟩
/-- e.part of a kept error -/
theorem pe_xpart {C : Addr} {e : Expr} {te : TE} {pos : Pos} (T : XfC X.K C) (hno : PySem.W.findIn X.K (.ref C) "part" = some none) (he : PE X e te) (hb : attributeBase e "part" X.env (eval e X.env) = eval e X.env := by rfl) : PE X (.Attribute e "part" pos) (tXpart C te) := by
  refine ⟨fun pins s σ H Q I h => attr_of hb (thn (he.run pins s σ H _ I h) fun u s1 hh => ?_)⟩
  obtain ⟨x, H1, I1, rx, z, ⟨a, dd, rfl, ha, hdd⟩, q⟩ := hh
  obtain rfl : u = Value.ref a := rx
  obtain ⟨mA, hns, hr⟩ : ObjOk X.prog X.w H1 s1.heap dd (.xd [(("part" : Str), .str z)]) := I1.hok dd _ hdd
  obtain ⟨od, ho, hl⟩ := lookIn_ns hns
  have l : List.lookup ("part" : Str) [(("part" : Str), V.str z)] = some (.str z) := by simp [List.lookup]
  obtain ⟨w1, hu, ru⟩ := RelO.some_of (v := .str z) (o := mA "part") (by rw [← l]; exact hr "part")
  obtain ⟨⟨oe, vs, he1, hz, hdt⟩, _⟩ := I1.hok a _ ha
  have J : PySem.W.InstAt s1.heap a oe C (some od) := ⟨he1, hz.1, by unfold PySem.W.notCls; rw [hdt] <;> rfl, by rw [hz.2]; exact ho⟩
  exact HandSPX.exc_get I1.kIn J T.ga T.gg T.exC (PySem.W.findObj_own T.hdC hno rfl (by rw [hl, hu])) (handed_of ru) ⟨.str z, H1, I1.tok _, ru, q⟩
end
section
variable {K : PySem.W.Frag} {T : List (Addr × Str)} {σ : L2.St} {H H' : Hp} {CB CK : Addr}
theorem IsExcP.ext {x : V} {z : Str} (h : IsExcP H x CB z) (e : ExtN H H') : IsExcP H' x CB z := by
  obtain ⟨a, d, rfl, h1, h2⟩ := h
  exact ⟨a, d, rfl, e _ _ h1 (fun ps z => exA_ne (o := .tbl ps) (fun φ y => by cases y) z), e _ _ h2 fun ps z => nomatch z⟩
theorem IsExcP.fr1 {x : V} {z : Str} {l : Addr} {zs : List V} (h : IsExcP H x CB z) (f : Fr1 l H H') (hl : H l = some (.lst zs)) : IsExcP H' x CB z := by
  obtain ⟨a, d, rfl, h1, h2⟩ := h
  refine ⟨a, d, rfl, f _ _ (fun y => ?_) h1, f _ _ (ne_of h2 hl (by intro z; cases z)) h2⟩
  rw [y, hl] at h1
  exact exA_ne (o := .lst zs) (fun φ y => by cases y) (Option.some.inj h1).symm
abbrev qXP (CB : Addr) (z : Str) : Hp → V → Prop := fun H x => IsExcP H x CB z
/-- _law_caught(lambda: ..) where BadVersions(z) is raised -/
theorem yCauP {z : Str} {tb : XK → TE} (hsub : PySem.W.exmOne K (.ref CB) (.ref CK) = some true) (h : ∀ (H' : Hp) (Q : VK) (E : XK), ExtN H H' → PAt E CB z H' → tb E σ H' Q) : Yd T σ H (tLam T (TTc K CK) tb) (qXP CB z) := fun H1 Q e t q => by
  refine ⟨t, fun H2 e2 t2 => ?_⟩
  show tb (fun cls d H' => PySem.W.exmOne K cls (.ref CK) = some true ∧ ∀ a, H' a = none → Q (.ref a) (upd H' a (exA cls d a))) σ H2 (fun _ H' => ∃ x, (some (some V.non) : Option (Option V)) = some (some x) ∧ Q x H')
  refine h H2 _ _ (e.trans e2) fun H3 d s3 hd => ⟨hsub, fun a ha => ?_⟩
  have s4 := same_upd (o := exA (.ref CB) (some d) a) ha
  exact q _ _ ((e2.trans (ExtN.same s3)).trans (ExtN.same s4)) ((t2.ext s3).ext s4) ⟨a, d, rfl, upd_same, s4 _ _ hd⟩
theorem yIsP {j : Nat} {y : V} {z : Str} (hj : σ[j]? = some (some y)) (kX : PySem.W.kitOne K (.ref CB) (.ref CB) = some true) (hy : IsExcP H y CB z) : Yd T σ H (tCB (rIsP K CB) (tCons (tVar j) (tCons (tC (.ref CB)) tNil))) (qB true) := fun H1 Q e t q =>
  ⟨y, hj, y, .ref CB, z, .ref CB, true, rfl, hy.ext e, .own _, kX, q H1 _ (ExtN.refl _) t rfl⟩
/-- [e.part for e in xs] -/
theorem lcPart {i j : Nat} {l : Addr} {xs : List V} {zs : List Str} {Q : VK} (hi : σ[i]? = some (some (.ref l))) (hl : H l = some (.lst xs)) (len : xs.length = zs.length) (few : xs.length ≤ 100) (at_ : ∀ (k : Nat) x z, xs[k]? = some x → zs[k]? = some z → IsExcP H x CB z) (hw : ∀ y, wipe ((wipe σ [j]).set j y) [j] = wipe σ [j]) (hj : j < (wipe σ [j]).length)
    (q : ∀ H1 D, Same H H1 → H1 D = some (.lst (zs.map V.str)) → Q (.ref D) H1) : tLc (iList K (tVar i)) (gName j) tYes (tXpart CB (tVar j)) [j] σ H Q := by
  refine ⟨_, hi, l, rfl, ⟨_, SqL.of hl⟩, fun D hD => ?_⟩
  refine lc_list (K := K) (a := l) (xs := xs) (fun k H1 => Same H H1 ∧ H1 D = some (.lst ((zs.take k).map V.str))) ⟨same_upd hD, upd_same⟩ (fun k H1 _ R => SqL.of (R.1 _ _ hl)) ?_ ?_
  · rintro k y H1 hy ⟨s1, h1⟩
    have il := (List.getElem?_eq_some_iff.mp hy).1
    obtain ⟨z, hz⟩ : ∃ z, zs[k]? = some z := ⟨_, List.getElem?_eq_getElem (by omega)⟩
    have ex := (at_ k y z hy hz).ext (ExtN.same s1)
    refine ⟨hw _, yesI ⟨_, by rw [List.getElem?_set_self hj], z, ex, _, h1, by rw [List.length_map, List.length_take, sizeLine_eq]; omega, fun b o w => ?_, ?_⟩⟩
    · rw [upd_ne (ne_of_none w hD)]
      exact s1 _ _ w
    · rw [upd_same, take_snoc hz, List.map_append]
      rfl
  · rintro H1 ⟨s1, h1⟩
    rw [len, List.take_length] at h1
    exact q H1 D s1 h1
end
/-! ### three names, the other way about -/
theorem vals3 : ∀ {x y z : V} {us : List Value}, Vals [x, y, z] us → ∃ a b c, us = [a, b, c] ∧ RelV x a ∧ RelV y b ∧ RelV z c
  | _, _, _, _, .cons r1 (.cons r2 (.cons r3 .nil)) => ⟨_, _, _, rfl, r1, r2, r3⟩
structure DefW3 (P : Program) (w : World) (K : PySem.W.Frag) (mg : Str → Option Value) (base : Heap) (x : Str) (CX : CXT) (k : Nat) (n1 n2 n3 : Str) (sp : Sp) : Prop where
  ex : ∃ f fd, FnOk P w K mg base CX k f fd [n1, n2, n3] sp ∧ mg x = some (.ref f) ∧ PySem.W.keepIn K (.ref f) = true ∧ ∀ (s : Shared) (u v w : Value), K.In s.heap → BindsTo s fd ⟨[], [(n3, w), (n2, v), (n1, u)]⟩ [(n1, u), (n2, v), (n3, w)]
abbrev tSw3 (sp : Sp) (E : XK) (t3 t2 t1 : TE) : TE := fun σ H Q => t3 σ H fun z H1 => t2 σ H1 fun y H2 => t1 σ H2 fun x H3 => sp [x, y, z] H3 Q E
theorem pe_dW3 {X : Cx} {CX : CXT} {k : Nat} {x n1 n2 n3 : Str} {sp : Sp} {E : XK} {e1 e2 e3 : Expr} {t1 t2 t3 : TE} {p pos kp1 kp2 kp3 : Pos} (D : DefW3 X.prog X.w X.K X.mg X.base x CX k n1 n2 n3 sp) (hr : Room k X.A) (hx : Passes CX X E) (h3 : PE X e3 t3) (h2 : PE X e2 t2) (h1 : PE X e1 t1) (hg : Gl X x := by rfl) (hdb : (x == ("__debug__" : Str)) = false := by decide) :
    PE X (.Call (.Name x p) [] [⟨some n3, e3, kp3⟩, ⟨some n2, e2, kp2⟩, ⟨some n1, e1, kp1⟩] pos) (tSw3 sp E t3 t2 t1) := by
  obtain ⟨f, fd, F, hm, hk, hb⟩ := D.ex
  refine ⟨fun pins s σ H Q I h => wpAny_Call_Name_kw (ld_glob I hg hm (PySem.W.callWith_KW0 (h₀ := X.base) I.ok.mod.kin hk (by rfl) (thn ((pk_cons (nm := some n3) (kpos := kp3) h3 (pk_cons (nm := some n2) (kpos := kp2) h2 (pk_cons (nm := some n1) (kpos := kp1) h1 pk_nil))).run pos pins s σ H (fun vs H1 => sp vs.reverse H1 Q E) I h) fun ws s2 ⟨zs, H2, I2, rz, q⟩ => ⟨I2.kIn, ?_⟩) (by rfl)) hdb)⟩
  replace q : sp zs.reverse H2 Q E := q
  have hl := F.len _ _ _ _ q
  rw [List.length_reverse] at hl
  obtain ⟨c, b, a, rfl⟩ : ∃ c b a, zs = [c, b, a] := by
    match zs, hl with
    | [c, b, a], _ => exact ⟨c, b, a, rfl⟩
  obtain ⟨uc, ub, ua, rfl, rc, rb, ra⟩ := vals3 rz
  show wpAny _ _ (call (.ref f) [] [(n3, uc), (n2, ub), (n1, ua)]) _ _ _
  refine wpAny_call (codeAny_mono (F.run X.A X.stack s2 H2 ⟨[], [(n3, uc), (n2, ub), (n1, ua)]⟩ [ua, ub, uc] [a, b, c] Q E hr I2.env0 (hb s2 ua ub uc I2.kIn) (.cons ra (.cons rb (.cons rc .nil))) q) fun r s' hq => ?_)
  cases r with
  | error er => exact hx pins σ H2 s2 er s' I2 hq
  | ok fl =>
    cases fl with
    | ret w => exact I2.after hq
    | next => exact False.elim hq
    | brk => exact False.elim hq
    | cont => exact False.elim hq
end Kw
set_option maxHeartbeats 4000000
namespace Kw
open PySem PySem.Spec PyProof.Rows L2 LamX SX
/-! ### the values that are asked about -/
/-- what may be asked about -/
def VC (K : PySem.W.Frag) (H : Hp) (v : V) : Prop := (∃ T, Oth H v T) ∨ (∃ t, v = .ref t ∧ SqT K H t [.non]) ∨ ∃ us, TsAt K H v us ∧ us.length ≤ 100 ∧ ∀ u ∈ us, botV 100 u
theorem VC.valc {K : PySem.W.Frag} {H : Hp} {v : V} (h : VC K H v) (i o : List Ver) : ∃ b, ValC K H v i o b := by
  rcases h with ⟨T, h⟩ | ⟨t, e, h⟩ | ⟨us, h1, h2, h3⟩
  · exact ⟨false, .inl ⟨T, h, rfl⟩⟩
  · exact ⟨false, .inr (.inl ⟨t, e, h, rfl⟩)⟩
  · exact ⟨_, .inr (.inr ⟨us, h1, h2, h3, rfl⟩)⟩
section
variable {K : PySem.W.Frag} {σ : L2.St} {H H' : Hp} {i : Nat} {x : V} {us : List Ver} {Q : VK}
theorem TsAt.fr2 {d w c : Addr} {B : Int} (h : TsAt K H x us) (S : StAt H d w c B) (F : Fr2 d w H H') : TsAt K H' x us := let ⟨t, ks, a, b, c, e⟩ := h; ⟨t, ks, a, F.sqT S b, ks_fr c S F, e⟩
theorem TsAt.same (h : TsAt K H x us) (s : Same H H') : TsAt K H' x us := h.ext (ExtN.same s)
/-- t[:1] -/
theorem to1_read (hi : σ[i]? = some (some x)) (h : TsAt K H x us) (q : ∀ H' y, Same H H' → TsAt K H' y (us.take 1) → Q y H') : tSl (rSlA K) (tVar i) tNoPart (tPart (tC (.int 1))) σ H Q := by
  obtain ⟨t, ks, rfl, ht, hk, rfl⟩ := h
  have c1 : ∀ xs : List V, cutV xs none (some ((1 : Nat) : Int)) = xs.take 1 := fun xs => by
    unfold cutV
    rw [HT.sIx_none, HT.sIx_nat, List.drop_zero, Nat.sub_zero, ← List.take_eq_take_min]
  refine ⟨_, hi, 1, rfl, t, rf ks, rfl, ht, fun z => q H _ (Same.refl H) ⟨t, ks, rfl, ht, hk, ?_⟩, fun _ p hp => ?_⟩
  · have z2 := z.2
    rw [show (1 : Int) = ((1 : Nat) : Int) from rfl, HT.sIx_nat, List.length_map] at z2
    rw [List.take_of_length_le (by rw [List.length_map]; omega)]
  · have s1 := same_upd (o := .tup (cutV (rf ks) none (some ((1 : Nat) : Int)))) hp
    refine q _ _ s1 ⟨p, ks.take 1, rfl, ?_, fun r hr => (hk.same s1) r (List.mem_of_mem_take hr), by rw [List.map_take]⟩
    have e : rf (ks.take 1) = cutV (rf ks) none (some ((1 : Nat) : Int)) := by rw [c1, ← List.map_take]
    rw [e]
    exact .inl (.inl upd_same)
/-- t[1:] -/
theorem from1_read (hi : σ[i]? = some (some x)) (h : TsAt K H x us) (q : ∀ H' y, Same H H' → TsAt K H' y (us.drop 1) → Q y H') : tSl (rSlA K) (tVar i) (tPart (tC (.int 1))) tNoPart σ H Q := by
  obtain ⟨t, ks, rfl, ht, hk, rfl⟩ := h
  have c1 : ∀ xs : List V, cutV xs (some ((1 : Nat) : Int)) none = xs.drop 1 := fun xs => by
    unfold cutV
    rw [HT.sIx_none, HT.sIx_nat]
    by_cases e : xs = []
    · rw [e]
      simp
    · have n := List.length_pos_iff.mpr e
      rw [show min 1 xs.length = 1 from by omega, List.take_of_length_le (by rw [List.length_drop]; omega)]
  refine ⟨_, hi, 1, rfl, t, rf ks, rfl, ht, fun z => q H _ (Same.refl H) ⟨t, ks, rfl, ht, hk, ?_⟩, fun _ p hp => ?_⟩
  · have z1 := z.1
    rw [show (1 : Int) = ((1 : Nat) : Int) from rfl, HT.sIx_nat, List.length_map] at z1
    obtain rfl : ks = [] := List.length_eq_zero_iff.mp (by omega)
    rfl
  · have s1 := same_upd (o := .tup (cutV (rf ks) (some ((1 : Nat) : Int)) none)) hp
    refine q _ _ s1 ⟨p, ks.drop 1, rfl, ?_, fun r hr => (hk.same s1) r (List.mem_of_mem_drop hr), by rw [List.map_drop]⟩
    have e : rf (ks.drop 1) = cutV (rf ks) (some ((1 : Nat) : Int)) none := by rw [c1, ← List.map_drop]
    rw [e]
    exact .inl (.inl upd_same)
/-- t + t[:1] -/
theorem more_read (hi : σ[i]? = some (some x)) (h : TsAt K H x us) (few : us.length ≤ 100) (q : ∀ H' y, Same H H' → TsAt K H' y (us ++ us.take 1) → Q y H') : tOp (rCatA K) (tVar i) (tSl (rSlA K) (tVar i) tNoPart (tPart (tC (.int 1)))) σ H Q := by
  refine ⟨_, hi, to1_read hi h fun H1 y s1 hy => ?_⟩
  obtain ⟨t, ks, rfl, ht, hk, rfl⟩ := h
  obtain ⟨t2, ks2, rfl, ht2, hk2, e2⟩ := hy
  have l2 := congrArg List.length e2
  rw [List.length_map] at few
  rw [List.length_map, List.length_take, List.length_map] at l2
  refine ⟨t, t2, rf ks, rf ks2, rfl, rfl, Same.sqT s1 ht, ht2, by rw [List.length_map, List.length_map, sizeLine_eq]; omega, fun z => q _ _ s1 ⟨t2, ks2, rfl, ht2, hk2, ?_⟩, fun _ z => q _ _ s1 ⟨t, ks, rfl, Same.sqT s1 ht, hk.same s1, ?_⟩, fun _ _ p hp => ?_⟩
  · obtain rfl : ks = [] := List.map_eq_nil_iff.mp z
    rw [e2]
    rfl
  · obtain rfl : ks2 = [] := List.map_eq_nil_iff.mp z
    rw [← e2]
    simp
  · have s2 := same_upd (o := .tup (rf ks ++ rf ks2)) hp
    exact q _ _ (s1.trans s2) ⟨p, ks ++ ks2, rfl, .inl (.inl (by rw [upd_same]; simp)), KsOk.app (hk.same (s1.trans s2)) (hk2.same s2), by rw [List.map_append, e2]⟩
abbrev tList7 (K : PySem.W.Frag) (i : Nat) : TE := tLst (tCons (tVar i) (tCons (tVar i) (tCons (tCB (fun xs H Q => ∃ p ys, xs = [.ref p] ∧ (SqL K H p ys ∨ SqT K H p ys) ∧ ∀ l, H l = none → Q (.ref l) (upd H l (.lst ys))) (tCons (tVar i) tNil)) (tCons (tOp (rCatA K) (tVar i) (tSl (rSlA K) (tVar i) tNoPart (tPart (tC (.int 1))))) (tCons (tSl (rSlA K) (tVar i) (tPart (tC (.int 1))) tNoPart) (tCons (tTup (tCons (tC .non) tNil)) (tCons (tC (.str "all")) tNil)))))))
theorem pick_item {d w c : Addr} {B : Int} (h0 : σ[0]? = some (some (.ref d))) (hi : σ[i]? = some (some x)) (S : StAt H d w c B) (hB : B ≤ 1000000000000) (h : TsAt K H x us) (few : us.length ≤ 50) (bd : ∀ u ∈ us, botV 100 u)
    (q : ∀ H' v, StAt H' d w c (B + 1) → Fr2 d w H H' → VC K H' v → Q v H') : tCall spPick [] E0 (tCons (tVar 0) (tCons (tList7 K i) tNil)) σ H Q := by
  obtain ⟨t, ks, ex, ht, hk, eu⟩ := id h
  refine ⟨_, h0, _, hi, _, hi, _, hi, t, rf ks, by rw [ex], .inr ht, fun l hl => ?_⟩
  have s1 := same_upd (o := .lst (rf ks)) hl
  refine more_read hi (h.same s1) (by omega) fun H2 y4 s2 h4 => ?_
  refine from1_read hi (h.same (s1.trans s2)) fun H3 y5 s3 h5 => ?_
  refine ⟨by show 1 ≤ sizeLine; decide, fun p hp => ?_⟩
  have s4 := same_upd (o := .tup [.non]) hp
  refine ⟨by show 7 ≤ sizeLine; decide, fun l7 hl7 => ?_⟩
  have s5 := same_upd (o := .lst [x, x, .ref l, y4, y5, .ref p, .str "all"]) hl7
  have sA := (((s1.trans s2).trans s3).trans s4).trans s5
  have S5 := S.same sA
  have n7 := ((S.same (((s1.trans s2).trans s3).trans s4)).ne hl7).2.1
  have nl := S.ne hl
  have hx := h.same sA
  have hl5 : (upd (upd H3 p (.tup [.non])) l7 (.lst [x, x, .ref l, y4, y5, .ref p, .str "all"])) l = some (.lst (rf ks)) := (((s2.trans s3).trans s4).trans s5) _ _ upd_same
  have h45 := h4.same ((s3.trans s4).trans s5)
  have h55 := h5.same (s4.trans s5)
  have hp5 : SqT K (upd (upd H3 p (.tup [.non])) l7 (.lst [x, x, .ref l, y4, y5, .ref p, .str "all"])) p [.non] := Same.sqT s5 (.inl (.inl upd_same))
  have at7 : (upd (upd H3 p (.tup [.non])) l7 (.lst [x, x, .ref l, y4, y5, .ref p, .str "all"])) l7 = some (.lst [x, x, .ref l, y4, y5, .ref p, .str "all"]) := upd_same
  generalize upd (upd H3 p (.tup [.non])) l7 (.lst [x, x, .ref l, y4, y5, .ref p, .str "all"]) = G at sA S5 hx hl5 h45 h55 hp5 at7
  refine ⟨d, w, c, B, l7, _, rfl, S5, hB, at7, n7.symm, by simp, by simp, fun H' n v hv S' F' => q H' v S' ((Fr2.ofSame sA).trans F') ?_⟩
  have hxx : VC K H' x := .inr (.inr ⟨us, hx.fr2 S5 F', by omega, bd⟩)
  match n with
  | 0 => cases hv; exact hxx
  | 1 => cases hv; exact hxx
  | 2 =>
    cases hv
    exact .inl ⟨_, .lst (F' _ _ nl.1.symm nl.2.1.symm hl5)⟩
  | 3 =>
    cases hv
    refine .inr (.inr ⟨_, h45.fr2 S5 F', by rw [List.length_append, List.length_take]; omega, fun u hu => ?_⟩)
    rcases List.mem_append.mp hu with hu | hu
    · exact bd u hu
    · exact bd u (List.mem_of_mem_take hu)
  | 4 =>
    cases hv
    exact .inr (.inr ⟨_, h55.fr2 S5 F', by rw [List.length_drop]; omega, fun u hu => bd u (List.mem_of_mem_drop hu)⟩)
  | 5 =>
    cases hv
    exact .inr (.inl ⟨p, rfl, F'.sqT S5 hp5⟩)
  | 6 =>
    cases hv
    exact .inl ⟨_, .flat (.str _)⟩
  | n + 7 => simp at hv
end
end Kw
set_option maxHeartbeats 4000000
namespace Kw
open PySem PySem.Spec PyProof.Rows L2 LamX SX
/-! ### readings for _law_judged_right -/
theorem LsAt.fr2 {K : PySem.W.Frag} {H H' : Hp} {x : V} {vs : List Ver} {d w c : Addr} {B : Int} (h : LsAt K H x vs) (S : StAt H d w c B) (F : Fr2 d w H H') (n : x ≠ .ref w) : LsAt K H' x vs := by
  obtain ⟨l, ks, rfl, hl, hk, e⟩ := h
  exact ⟨l, ks, rfl, F.lst S hl (fun z => n (by rw [z])), ks_fr hk S F, e⟩
theorem LsAt.jud {K : PySem.W.Frag} {H : Hp} {x : V} {vs : List Ver} (h : LsAt K H x vs) (n : vs.length ≤ 40) : JudV K H x true := h.vs.jud n
theorem cut_ks (ks : List (Addr × Ver)) (lo hi : Option Int) : ∃ ks', cutV (rf ks) lo hi = rf ks' ∧ (∀ p ∈ ks', p ∈ ks) ∧ ks'.length ≤ ks.length := by
  refine ⟨(ks.drop (HT.sIx ks.length 0 lo)).take (HT.sIx ks.length ks.length hi - HT.sIx ks.length 0 lo), ?_, fun p hp => List.mem_of_mem_drop (List.mem_of_mem_take hp), ?_⟩
  · unfold cutV
    rw [List.length_map, ← List.map_drop, ← List.map_take]
  · rw [List.length_take, List.length_drop]
    omega
abbrev tTupOf (K : PySem.W.Frag) (te : TE) : TE := tCB (fun xs H Q => ∃ p ys, xs = [.ref p] ∧ ((SqL K H p ys ∧ ∀ l, H l = none → Q (.ref l) (upd H l (.tup ys))) ∨ (SqT K H p ys ∧ Q (.ref p) H))) (tCons te tNil)
section
variable {K : PySem.W.Frag} {σ : L2.St} {H H' : Hp} {x s : V} {us m i : List Ver} {Q : VK} {d w c : Addr} {B : Int}
theorem lap_read (h0 : σ[0]? = some (some (.ref d))) (h1 : σ[1]? = some (some s)) (S : StAt H d w c B) (hB : B + 20 ≤ 1000000000000) (hs : LsAt K H s m) (ns : s ≠ .ref w) (few : m.length ≤ 10)
    (q : ∀ H' x us, StAt H' d w c (B + 11) → Fr2 d w H H' → TsAt K H' x us → us.length ≤ 10 → (∀ u ∈ us, u ∈ m) → Q x H') :
    tTupOf K (tCB (rSortV K) (tCons (tSl (rSlL K) (tCall (spShufV K) [] E0 (tCons (tVar 0) (tCons (tVar 1) tNil))) tNoPart (tPart (tCall spDraw [] E0 (tCons (tVar 0) (tCons (tC (.int 4)) tNil))))) tNil)) σ H Q := by
  obtain ⟨a, ks, rfl, ha, hk, rfl⟩ := hs
  rw [List.length_map] at few
  refine ⟨_, h0, _, h1, d, w, c, B, a, ks, rfl, S, by omega, ha, fun z => ns (by rw [z]), hk, few, fun H1 p ks1 np hp hk1 pm S1 F1 => ?_⟩
  refine ⟨_, h0, d, w, c, B + 10, 4, rfl, S1, by omega, by decide, by decide, fun H2 z z0 z4 S2 F2 => ?_⟩
  refine ⟨z, rfl, p, rf ks1, rfl, SqL.of (F2.lst S1 hp (S.ne np).2.1.symm), fun p2 hp2 => ?_⟩
  obtain ⟨ks2, e2, sub2, len2⟩ := cut_ks ks1 none (some z)
  rw [e2]
  have s3 := same_upd (o := .lst (rf ks2)) hp2
  have l1 := pm.length_eq
  refine sort_ks (ks := ks2) (SqL.of upd_same) (fun r hr => KsOk.same (ks_fr hk1 S1 F2) s3 r (sub2 r hr)) (by omega) fun H4 D ks3 s4 hD hk3 up pm3 => ?_
  refine ⟨D, rf ks3, rfl, .inl ⟨SqL.of hD, fun l hl => ?_⟩⟩
  have s5 := same_upd (o := .tup (rf ks3)) hl
  have l3 := pm3.length_eq
  refine q _ _ _ (((S2.same s3).same s4).same s5 |>.mono (by omega)) ((F1.trans F2).trans (.ofSame ((s3.trans s4).trans s5))) ⟨l, ks3, rfl, .inl (.inl upd_same), hk3.same s5, rfl⟩ (by rw [List.length_map]; omega) fun u hu => ?_
  obtain ⟨r, hr, rfl⟩ := List.mem_map.mp hu
  exact List.mem_map.mpr ⟨r, pm.mem_iff.mp (sub2 r (pm3.mem_iff.mp hr)), rfl⟩
abbrev tOdds : TE := tLst (tCons (tC .non) (tCons (tC (.int 5)) (tCons (tLst (tCons (tC .non) tNil)) (tCons (tLst (tCons (tTup (tCons (tC (.int 1)) (tCons (tC (.int 2)) tNil))) tNil)) (tCons (tOp rCat (tOp rRep (tVar 2) (tC (.int 41))) (tOp rRep (tLst (tCons (tTup (tCons (tC (.int 0)) (tCons (tC (.int 0)) (tCons (tC (.int 0)) tNil)))) tNil)) (tC (.int 41)))) (tCons tDNewK tNil))))))
theorem pick_odd (h0 : σ[0]? = some (some (.ref d))) (h2 : σ[2]? = some (some x)) (S : StAt H d w c B) (hB : B ≤ 1000000000000) (hx : LsAt K H x i) (nx : x ≠ .ref w) (few : i.length ≤ 10)
    (q : ∀ H' v, StAt H' d w c (B + 1) → Fr2 d w H H' → JudV K H' v false → Q v H') : tCall spPick [] E0 (tCons (tVar 0) (tCons tOdds tNil)) σ H Q := by
  obtain ⟨a, ks, rfl, ha, hk, rfl⟩ := hx
  rw [List.length_map] at few
  refine ⟨_, h0, by show 1 ≤ sizeLine; decide, fun l1 n1 => ?_⟩
  have s1 := same_upd (o := .lst [.non]) n1
  have g1 : (upd H l1 (.lst [.non])) l1 = some (.lst [.non]) := upd_same
  generalize upd H l1 (.lst [.non]) = H1 at s1 g1
  refine ⟨by show 2 ≤ sizeLine; decide, fun t2 n2 => ?_⟩
  have s2 := same_upd (o := .tup [.int 1, .int 2]) n2
  have g2 : (upd H1 t2 (.tup [.int 1, .int 2])) t2 = some (.tup [.int 1, .int 2]) := upd_same
  generalize upd H1 t2 (.tup [.int 1, .int 2]) = H2 at s2 g2
  refine ⟨by show 1 ≤ sizeLine; decide, fun l3 n3 => ?_⟩
  have s3 := same_upd (o := .lst [.ref t2]) n3
  have g3 : (upd H2 l3 (.lst [.ref t2])) l3 = some (.lst [.ref t2]) := upd_same
  generalize upd H2 l3 (.lst [.ref t2]) = H3 at s3 g3
  have s03 := (s1.trans s2).trans s3
  refine ⟨_, h2, a, 41, rf ks, rfl, rfl, s03 _ _ ha, by decide, by decide, by rw [List.length_map, sizeLine_eq]; show ks.length * 41 ≤ _; omega, fun l4 n4 => ?_⟩
  have s4 := same_upd (o := .lst (List.replicate (41 : Int).toNat (rf ks)).flatten) n4
  have g4 : (upd H3 l4 (.lst (List.replicate (41 : Int).toNat (rf ks)).flatten)) l4 = some (.lst (List.replicate (41 : Int).toNat (rf ks)).flatten) := upd_same
  generalize upd H3 l4 (.lst (List.replicate (41 : Int).toNat (rf ks)).flatten) = H4 at s4 g4
  refine ⟨by show 3 ≤ sizeLine; decide, fun t5 n5 => ⟨by show 1 ≤ sizeLine; decide, fun l6 n6 => ?_⟩⟩
  have s5 := same_upd (o := .tup [.int 0, .int 0, .int 0]) n5
  generalize upd H4 t5 (.tup [.int 0, .int 0, .int 0]) = H5 at s5 n6
  have s6 := same_upd (o := .lst [.ref t5]) n6
  have g6 : (upd H5 l6 (.lst [.ref t5])) l6 = some (.lst [.ref t5]) := upd_same
  generalize upd H5 l6 (.lst [.ref t5]) = H6 at s6 g6
  refine ⟨l6, 41, [.ref t5], rfl, rfl, g6, by decide, by decide, by show 1 * 41 ≤ sizeLine; decide, fun l7 n7 => ?_⟩
  have s7 := same_upd (o := .lst (List.replicate (41 : Int).toNat [V.ref t5]).flatten) n7
  have g7 : (upd H6 l7 (.lst (List.replicate (41 : Int).toNat [V.ref t5]).flatten)) l7 = some (.lst (List.replicate (41 : Int).toNat [V.ref t5]).flatten) := upd_same
  generalize upd H6 l7 (.lst (List.replicate (41 : Int).toNat [V.ref t5]).flatten) = H7 at s7 g7
  have len4 : (List.replicate (41 : Int).toNat (rf ks)).flatten.length = 41 * ks.length := by
    rw [List.length_flatten, List.map_replicate, List.sum_replicate_nat, List.length_map]
    rfl
  have len7 : (List.replicate (41 : Int).toNat [V.ref t5]).flatten.length = 41 := by
    rw [List.length_flatten, List.map_replicate, List.sum_replicate_nat]
    rfl
  refine ⟨l4, l7, _, _, rfl, rfl, ((s5.trans s6).trans s7) _ _ g4, g7, by rw [len4, len7, sizeLine_eq]; omega, fun l8 n8 => ?_⟩
  have s8 := same_upd (o := .lst ((List.replicate (41 : Int).toNat (rf ks)).flatten ++ (List.replicate (41 : Int).toNat [V.ref t5]).flatten)) n8
  have g8 : (upd H7 l8 (.lst ((List.replicate (41 : Int).toNat (rf ks)).flatten ++ (List.replicate (41 : Int).toNat [V.ref t5]).flatten))) l8 = some (.lst ((List.replicate (41 : Int).toNat (rf ks)).flatten ++ (List.replicate (41 : Int).toNat [V.ref t5]).flatten)) := upd_same
  have len8 : ((List.replicate (41 : Int).toNat (rf ks)).flatten ++ (List.replicate (41 : Int).toNat [V.ref t5]).flatten).length = 41 * ks.length + 41 := by rw [List.length_append, len4, len7]
  generalize (List.replicate (41 : Int).toNat (rf ks)).flatten ++ (List.replicate (41 : Int).toNat [V.ref t5]).flatten = big at s8 g8 len8
  generalize upd H7 l8 (.lst big) = H8 at s8 g8
  intro d9 n9
  have s9 := same_upd (o := .dK []) n9
  have g9 : (upd H8 d9 (.dK [])) d9 = some (.dK []) := upd_same
  generalize upd H8 d9 (.dK []) = H9 at s9 g9
  refine ⟨by show 6 ≤ sizeLine; decide, fun lA nA => ?_⟩
  have sA := same_upd (o := .lst [.non, .int 5, .ref l1, .ref l3, .ref l8, .ref d9]) nA
  have gA : (upd H9 lA (.lst [.non, .int 5, .ref l1, .ref l3, .ref l8, .ref d9])) lA = some (.lst [.non, .int 5, .ref l1, .ref l3, .ref l8, .ref d9]) := upd_same
  generalize upd H9 lA (.lst [.non, .int 5, .ref l1, .ref l3, .ref l8, .ref d9]) = HA at sA gA
  have s39 := ((((s4.trans s5).trans s6).trans s7).trans s8).trans s9
  have sAll := (s03.trans s39).trans sA
  have SA := S.same sAll
  have mA := ((S.same (s03.trans s39)).ne nA).2.1
  have m1 := (S.ne n1)
  have m3 := ((S.same (s1.trans s2)).ne n3)
  have m8 := ((S.same (((((s03.trans s4).trans s5).trans s6).trans s7))).ne n8)
  have m9 := ((S.same ((((((s03.trans s4).trans s5).trans s6).trans s7)).trans s8)).ne n9)
  refine ⟨d, w, c, B, lA, _, rfl, SA, hB, gA, mA.symm, by simp, by simp, fun H' n v hv S' F' => q H' v S' ((Fr2.ofSame sAll).trans F') ?_⟩
  match n with
  | 0 => cases hv; exact .inl ⟨_, .flat .non, rfl⟩
  | 1 => cases hv; exact .inl ⟨_, .flat (.int _), rfl⟩
  | 2 =>
    cases hv
    have g := F'.lst SA ((((s2.trans s3).trans s39).trans sA) _ _ g1) m1.2.1.symm
    refine .inr ⟨l1, [.non], rfl, .inl (SqL.of g), by decide, .inr ⟨by decide, [false], ⟨rfl, fun j y b p r => ?_⟩, rfl⟩⟩
    match j with
    | 0 => cases p; cases r; exact .oth (.flat .non)
    | j + 1 => simp at p
  | 3 =>
    cases hv
    have g := F'.lst SA ((s39.trans sA) _ _ g3) m3.2.1.symm
    have gt := F'.tup SA (((s3.trans s39).trans sA) _ _ g2)
    refine .inr ⟨l3, [.ref t2], rfl, .inl (SqL.of g), by show 1 ≤ 1000; decide, .inr ⟨by show 1 ≤ 40; decide, [false], ⟨rfl, fun j y b p r => ?_⟩, rfl⟩⟩
    match j with
    | 0 => cases p; cases r; exact .tup (.inl (.inl gt)) (fun y _ z => absurd z (by decide)) rfl
    | j + 1 => simp at p
  | 4 =>
    cases hv
    have g := F'.lst SA ((s9.trans sA) _ _ g8) m8.2.1.symm
    exact .inr ⟨l8, big, rfl, .inl (SqL.of g), by omega, .inl ⟨by omega, rfl⟩⟩
  | 5 =>
    cases hv
    exact .inl ⟨_, .dct (F' _ _ m9.1.symm m9.2.1.symm (sA _ _ g9)), rfl⟩
  | n + 6 => simp at hv
end
end Kw
set_option maxHeartbeats 6000000
namespace Kw
open PySem PySem.Spec PyProof.Rows L2 LamX SX
abbrev sJudged : Stmt := top 49
theorem ifs_via {c : TT} {t u : TS} {D : Ends} {σ : L2.St} {H : Hp} (R : L2.St → Hp → Prop) (h : ∀ N : L2.St → Hp → Prop, (∀ σ' H', R σ' H' → N σ' H') → tIfS c t u { D with nx := N } σ H) (q : ∀ σ' H', R σ' H' → D.nx σ' H') : tIfS c t u D σ H := h D.nx q
theorem cl_list {ns : List Str} (hn : ∀ n ∈ ns, PyData.strOk n = true) : PyData.canLay0 (.list (ns.map PyData.str)) = true := by
  simp only [PyData.canLay0]
  exact cl_strs ns hn
/-! ### _law_judged_right -/
def spJudged (K : PySem.W.Frag) (T : List (Addr × Str)) : Sp := fun vs H Q _ => ∃ (d w c : Addr) (B : Int) (s x y z : V) (m i o us : List Ver), vs = [.ref d, s, x, y, z] ∧ StAt H d w c B ∧ B + 100 ≤ 1000000000000 ∧ LsAt K H s m ∧ LsAt K H x i ∧ LsAt K H y o ∧ TsAt K H z us ∧ s ≠ .ref w ∧ x ≠ .ref w ∧ y ≠ .ref w ∧
  m.length ≤ 10 ∧ i.length ≤ 10 ∧ o.length ≤ 20 ∧ us.length ≤ 50 ∧ (∀ v ∈ m ++ (i ++ o) ++ us, botV 100 v) ∧ Tabs T H ∧ ∀ H', StAt H' d w c (B + 100) → Tabs T H' → Q (.bl true) H'
section
variable {P : Program} {w0 : World} {K : PySem.W.Frag} {mg : Str → Option Value} {base : Heap}
abbrev nJ : List Str := ["_law_state", "_law_some", "_law_inside", "_law_outside", "_law_told", "_law_lap", "_law_item", "_law_due", "_law_heard", "_law_odd", "_law_errors", "_law_error"]
theorem scJ : FnScope nJ ["_law_state", "_law_some", "_law_inside", "_law_outside", "_law_told"] (defScope sJudged) := ⟨rfl, rfl, rfl, by decide +kernel, rfl, by decide +kernel, by decide +kernel⟩
theorem four_in : ∀ n ∈ (["inside", "inside", "outside", "outside"] : List Str), PyData.strOk n = true := by decide +kernel
theorem ok_judged {f cd PT CR CB CK : Addr} {fd : FuncData} {k : Nat} {T : List (Addr × Str)} (F : FunC K "_law_judged_right" "_law_judged_right" sJudged f fd cd) (mr : mg "range" = none) (mt : mg "tuple" = none) (ms : mg "sorted" = none) (ml : mg "list" = none) (mp : mg "repr" = none) (mi : mg "isinstance" = none) (gB : mg "BadVersions" = some (.ref CB)) (TB : TabB base mg cd PT)
    (hmT : (PT, ("_law_judged_right" : Str) ++ ".<locals>." ++ "<lambda>") ∈ T) (hu : ∀ p ∈ T, p.1 = PT → p.2 = ("_law_judged_right" : Str) ++ ".<locals>." ++ "<lambda>")
    (DSh : Def P w0 K mg base "_law_shuffled" CX0 k ["_law_state", "_law_some"] (spShufV K)) (DD : Def P w0 K mg base "_law_draw" CX0 k ["_law_state", "_law_size"] spDraw) (DPk : Def P w0 K mg base "_law_pick" CX0 k ["_law_state", "_law_some"] spPick)
    (DT : DefG P w0 K mg base "_law_is_turns" k ["_law_inside", "_law_outside", "_law_value"] (spIsTurns K)) (DA : DefX P w0 K mg base "is_alternation" k ["inside", "outside", "value"] (spIsAlt K CB)) (DAw : DefW3 P w0 K mg base "is_alternation" (L2.CX P w0) k "inside" "outside" "value" (spIsAlt K CB))
    (DPt : DefX P w0 K mg base "parting" k ["inside", "outside"] (spParting K T CR CB)) (DWp : DefX P w0 K mg base "widest_parting" k ["inside", "outside"] (spWidest K T CR CB)) (DAl : DefX P w0 K mg base "alternation" k ["inside", "outside"] (spAlt K T CB))
    (C : CaughtD K mg CK) (EB : ExcC K CB) (XB : XfC K CB) (hno : PySem.W.findIn K (.ref CB) "part" = some none) (subB : PySem.W.exmOne K (.ref CB) (.ref CK) = some true) (kB : PySem.W.kitOne K (.ref CB) (.ref CB) = some true) :
    FnOkG P w0 K mg base CX0 (k + 4) f fd ["_law_state", "_law_some", "_law_inside", "_law_outside", "_law_told"] (spJudged K T) := by
  refine F.okG scJ (fun vs H Q E h => ?_) (fun A outer s H vs Q E hg hr h => ?_)
  · obtain ⟨d, w, c, B, s, x, y, z, m, i, o, us, rfl, _⟩ := h
    rfl
  · obtain ⟨d, w, c, B, sm, x, y, z, m, i, o, us, rfl, S0, hB, hm, hx, hy, hz, nm, nx, ny, fm, fi, fo, fu, bd, T0, q⟩ := h
    have hk := hr.mono (show k ≤ k + 3 by omega)
    have hk2 := hr.mono (show k + 2 ≤ k + 3 by omega)
    refine' ⟨_, pss_cons (ps_for PassesOwn.never rfl (pi_range1 rfl mr (pa_cons pe_int pa_nil)) (pg_name (i := 5) scJ.nd rfl (.inl rfl)) (pss_cons ?b1 (pss_cons ?b2 (pss_cons ?b3 (pss_cons ?b4 (pss_cons ?b5 (pss_one ?b6))))))) (pss_cons ?c1 (pss_cons ?c2 (pss_cons ?c3 (pss_cons ?c4 (pss_cons ?c5 (pss_cons ?c6 (pss_one ?c7))))))), ?_⟩
    case b1 => exact ps_set (i := 6) scJ.nd rfl (.inl rfl) (pv 4)
    case b2 => exact ps_if (pt_cmpR op_gt (pv 5) pe_int (nomark _)) (pss_one (ps_set (i := 6) scJ.nd rfl (.inl rfl) (pe_callTy call_tuple_of (by rfl) mt (by decide +kernel) (pa_cons (pe_callB cr_sortV (by rfl) ms (by decide +kernel) (pa_cons (pe_slice sl_list (pe_d DSh hk (pa_cons (pv 0) (pa_cons (pv 1) pa_nil))) po_none (po_some (pe_d DD hk (pa_cons (pv 0) (pa_cons pe_int pa_nil))))) pa_nil)) pa_nil)))) pss_nil
    case b3 => exact ps_set (i := 6) scJ.nd rfl (.inl rfl) (pe_d DPk hk (pa_cons (pv 0) (pa_cons (pe_lst (pa_cons (pv 6) (pa_cons (pv 6) (pa_cons (pe_callTy call_list_of (by rfl) ml (by decide +kernel) (pa_cons (pv 6) pa_nil)) (pa_cons (pe_op op_catA (pv 6) (pe_slice sl_tupA (pv 6) po_none (po_some pe_int))) (pa_cons (pe_slice sl_tupA (pv 6) (po_some pe_int) po_none) (pa_cons (pe_tup (pa_cons pe_non pa_nil)) (pa_cons pe_str pa_nil)))))))) pa_nil)))
    case b4 => exact ps_set (i := 7) scJ.nd rfl (.inl rfl) (pe_dG DT hg hk (pa_cons (pv 2) (pa_cons (pv 3) (pa_cons (pv 6) pa_nil))))
    case b5 => exact ps_set (i := 8) scJ.nd rfl (.inl rfl) (pe_lst (pa_cons (pe_dP DA hk (pa_cons (pv 2) (pa_cons (pv 3) (pa_cons (pv 6) pa_nil)))) (pa_cons (pe_dW3 DAw hk passL (pv 6) (pv 3) (pv 2)) pa_nil)))
    case b6 => exact ps_if (pt_cmpR op_ne (pe_callB (cr_repr2 hg hr) (by rfl) mp (by decide +kernel) (pa_cons (pv 8) pa_nil)) (pe_callB (cr_repr2 hg hr) (by rfl) mp (by decide +kernel) (pa_cons (pe_lst (pa_cons (pv 7) (pa_cons (pv 7) pa_nil))) pa_nil)) (nomark _)) (pss_one (ps_ret pe_bl)) pss_nil
    case c1 => exact ps_set (i := 9) scJ.nd rfl (.inr rfl) (pe_d DPk hk (pa_cons (pv 0) (pa_cons (pe_lst (pa_cons pe_non (pa_cons pe_int (pa_cons (pe_lst (pa_cons pe_non pa_nil)) (pa_cons (pe_lst (pa_cons (pe_tup (pa_cons pe_int (pa_cons pe_int pa_nil))) pa_nil)) (pa_cons (pe_op op_cat (pe_op op_rep (pv 2) pe_int) (pe_op op_rep (pe_lst (pa_cons (pe_tup (pa_cons pe_int (pa_cons pe_int (pa_cons pe_int pa_nil)))) pa_nil)) pe_int)) (pa_cons pe_dnewK pa_nil))))))) pa_nil)))
    case c2 => exact ps_set (i := 10) scJ.nd rfl (.inl rfl) (pe_lst (pa_cons (pe_caughtF (ta := tCons (tVar 9) (tCons (tVar 9) tNil)) C DPt TB rfl hmT hu hk2 (lamS_by rfl) rfl (fun _ _ _ _ _ => rfl) (fun _ _ _ _ _ _ _ => pa_cons (pv_lam (i := 9) rfl (.inr (.inr rfl))) (pa_cons (pv_lam (i := 9) rfl (.inr (.inr rfl))) pa_nil)) (fun _ _ _ _ _ _ _ => rfl) rfl) pa_nil))
    case c3 => exact ps_expr (pe_bm PySem.F.plainAttrs_list PySem.F.slot_list_append PySem.F.type_list_append mt_append (pv 10) (pa_cons (pe_caughtF (ta := tCons (tVar 9) (tCons (tVar 2) tNil)) C DWp TB rfl hmT hu hk2 (lamS_by rfl) rfl (fun _ _ _ _ _ => rfl) (fun _ _ _ _ _ _ _ => pa_cons (pv_lam (i := 9) rfl (.inr (.inr rfl))) (pa_cons (pv_lam (i := 2) rfl (.inr (.inr rfl))) pa_nil)) (fun _ _ _ _ _ _ _ => rfl) rfl) pa_nil))
    case c4 => exact ps_expr (pe_bm PySem.F.plainAttrs_list PySem.F.slot_list_append PySem.F.type_list_append mt_append (pv 10) (pa_cons (pe_caughtF (ta := tCons (tVar 2) (tCons (tVar 9) tNil)) C DAl TB rfl hmT hu hk2 (lamS_by rfl) rfl (fun _ _ _ _ _ => rfl) (fun _ _ _ _ _ _ _ => pa_cons (pv_lam (i := 2) rfl (.inr (.inr rfl))) (pa_cons (pv_lam (i := 9) rfl (.inr (.inr rfl))) pa_nil)) (fun _ _ _ _ _ _ _ => rfl) rfl) pa_nil))
    case c5 => exact ps_expr (pe_bm PySem.F.plainAttrs_list PySem.F.slot_list_append PySem.F.type_list_append mt_append (pv 10) (pa_cons (pe_caughtF (ta := tCons (tVar 3) (tCons (tVar 9) (tCons (tTup tNil) tNil))) C DA TB rfl hmT hu hk2 (lamS_by rfl) rfl (fun _ _ _ _ _ => rfl) (fun _ _ _ _ _ _ _ => pa_cons (pv_lam (i := 3) rfl (.inr (.inr rfl))) (pa_cons (pv_lam (i := 9) rfl (.inr (.inr rfl))) (pa_cons (pe_tup pa_nil) pa_nil))) (fun _ _ _ _ _ _ _ => rfl) rfl) pa_nil))
    case c6 => exact ps_if (pt_cmpR (op_neD hr.units) (pe_lc (own := [("_law_error", 11)]) (g := gName 11) (te := tC (.int 1)) (tt := tNot (tB (tCB (rIsP K CB) (tCons (tVar 11) (tCons (tC (.ref CB)) tNil))))) rfl scJ.nd (pi_list (pv 10)) (blkOk_by (N := nJ) (sc := defScope sJudged) (by decide +kernel))
        (fun _ _ _ _ _ => pg_name (i := 11) scJ.nd rfl (Or.inl rfl)) (fun _ _ _ _ _ => pts_one (pt_not (pt_val (pe_callB (r := rIsP K CB) (call_isP EB) (by rfl) mi (by decide +kernel) (pa_cons (pv 11) (pa_cons (pe_glob (v := .ref CB) (by rfl) gB rfl) pa_nil)))))) (fun _ _ _ _ _ => pe_int)) (pe_lst pa_nil) (nomark _)) (pss_one (ps_ret pe_bl)) pss_nil
    case c7 => exact ps_ret (pe_cmpR (op_eqD hr.units) (pe_lc (own := [("_law_error", 11)]) (g := gName 11) (te := tXpart CB (tVar 11)) (tt := tYes) rfl scJ.nd (pi_list (pv 10)) (blkOk_by (N := nJ) (sc := defScope sJudged) (by decide +kernel))
        (fun _ _ _ _ _ => pg_name (i := 11) scJ.nd rfl (Or.inl rfl)) (fun _ _ _ _ _ => pts_nil) (fun _ _ _ _ _ => pe_xpart XB hno (pv 11))) (pe_lst (pa_cons pe_str (pa_cons pe_str (pa_cons pe_str (pa_cons pe_str pa_nil))))) (nomark _))
    dsimp only [tSeq, tAsg, tRet, tIfS, gName]
    refine ⟨3, rfl, by decide, by decide, for_range (lo := 0) (n := 3) (fun i σ H' => ∃ y5 y6 y7 y8 : Option V, σ = [some (.ref d), some sm, some x, some y, some z, y5, y6, y7, y8, none, none, none] ∧ StAt H' d w c (B + 20 * (i : Int)) ∧ Fr2 d w H H') ⟨none, none, none, none, rfl, S0.mono (by omega), .refl⟩ ?_ ?_⟩
    · rintro j σ H1 hj ⟨y5, y6, y7, y8, rfl, S1, F1⟩
      dsimp only [gName, tSeq, tAsg, tRet, tDrop]
      have hm1 := hm.fr2 S0 F1 nm
      have hz1 := hz.fr2 S0 F1
      refine ⟨_, rfl, ifs_via (fun σ' H' => ∃ x6 us', σ' = [some (.ref d), some sm, some x, some y, some z, some (.int (0 + (j : Int))), some x6, y7, y8, none, none, none] ∧ StAt H' d w c (B + 20 * (j : Int) + 11) ∧ Fr2 d w H H' ∧ TsAt K H' x6 us' ∧ us'.length ≤ 50 ∧ ∀ u ∈ us', botV 100 u) (fun N hN => ?_) ?_⟩
      · dsimp only [gName, tSeq, tAsg, tIfS, tRet, tDrop]
        refine ⟨_, rfl, (0 + (j : Int)), 0, rfl, rfl, _, rfl, ite2 (fun c1 => ?_) (fun c1 => hN _ _ ⟨z, us, rfl, S1.mono (by omega), F1, hz1, fu, fun u hu => bd u (by simp [hu])⟩)⟩
        refine lap_read (m := m) rfl rfl S1 (by omega) hm1 nm fm fun H2 x6 us' S2 F2 h6 l6 sub => ?_
        exact hN _ _ ⟨x6, us', rfl, S2, F1.trans F2, h6, by omega, fun u hu => bd u (by simp [sub u hu])⟩
      · rintro σ' H2 ⟨x6, us', rfl, S2, F2, h6, l6, b6⟩
        dsimp only [gName, tSeq, tAsg, tIfS, tRet, tDrop]
        refine pick_item rfl rfl S2 (by omega) h6 l6 b6 fun H3 v S3 F3 hv => ?_
        obtain ⟨b, hb⟩ := hv.valc i o
        have hx3 := hx.fr2 S0 (F2.trans F3) nx
        have hy3 := hy.fr2 S0 (F2.trans F3) ny
        refine ⟨_, rfl, _, rfl, _, rfl, x, y, v, i, o, b, rfl, hx3, hy3, by omega, fun u hu => bd u (List.mem_append_left _ (List.mem_append_right _ hu)), hb, fun H4 s4 => ?_⟩
        refine ⟨_, rfl, _, rfl, _, rfl, x, y, v, rfl, .inl ⟨i, o, b, (hx3.same s4).vs, (hy3.same s4).vs, by omega, by omega, (hb.ext (ExtN.same s4)).a, fun H5 s5 => ?_⟩⟩
        have s45 := s4.trans s5
        refine ⟨_, rfl, _, rfl, _, rfl, x, y, v, rfl, .inl ⟨i, o, b, (hx3.same s45).vs, (hy3.same s45).vs, by omega, by omega, (hb.ext (ExtN.same s45)).a, fun H6 s6 => ?_⟩⟩
        refine ⟨by show 2 ≤ sizeLine; decide, fun p hp => ?_⟩
        have s7 := same_upd (o := .lst [.bl b, .bl b]) hp
        have g7 : (upd H6 p (.lst [.bl b, .bl b])) p = some (.lst [.bl b, .bl b]) := upd_same
        generalize upd H6 p (.lst [.bl b, .bl b]) = H7 at s7 g7
        refine ⟨_, rfl, p, b, b, rfl, SqL.of g7, _, rfl, _, rfl, by show 2 ≤ sizeLine; decide, fun p2 hp2 => ⟨p2, b, b, rfl, SqL.of upd_same, rfl, false, by simp, ?_⟩⟩
        have s8 := same_upd (o := .lst [.bl b, .bl b]) hp2
        exact iteF ⟨_, _, _, _, rfl, ((S3.same (s45.trans s6)).same (s7.trans s8)).mono (by omega), (F2.trans F3).trans (.ofSame ((s45.trans s6).trans (s7.trans s8)))⟩
    · rintro σ H1 ⟨y5, y6, y7, y8, rfl, S1, F1⟩
      dsimp only [gName, tSeq, tAsg, tIfS, tRet, tDrop]
      refine pick_odd (i := i) rfl rfl S1 (by omega) (hx.fr2 S0 F1 nx) nx fi fun H2 v S2 F2 hv => ?_
      have F12 := F1.trans F2
      have T2 := Tabs.fr2 T0 S0 F12
      have jx2 := (hx.fr2 S0 F12 nx).jud (by omega)
      have jy2 := (hy.fr2 S0 F12 ny).jud (by omega)
      refine one_read (Pa := qXP CB "inside") T2 (fun H3 p e1 x3 T3 hp3 h3 => ?_) (yCauP subB fun H' Q' E' ee pa => ⟨_, rfl, _, rfl, v, v, rfl, .inr (.inl ⟨hv.ext ee, pa⟩)⟩)
      have v3 := hv.ext x3
      have jx3 := jx2.ext x3
      have jy3 := jy2.ext x3
      have S3 := S2.ext x3
      have k4 := same_upd (o := .lst [e1]) hp3
      have d4 : upd H3 p (.lst [e1]) p = some (.lst [e1]) := upd_same
      have E4 := ExtN.same k4
      have T4 := T3.ext k4
      have w1 := h3.ext E4
      generalize upd H3 p (.lst [e1]) = H4 at d4 E4 T4 w1 ⊢
      refine app_read (Pa := qXP CB "inside") rfl d4 (by simp) T4 (fun H5 e2 x5 T5 d5 h5 => ?_) (yCauP subB fun H' Q' E' ee pa => ⟨_, rfl, _, rfl, v, x, rfl, .inr (.inl ⟨v3.ext (E4.trans ee), pa⟩)⟩)
      have q5 : Fr1 p H5 (upd H5 p (.lst ([e1] ++ [e2]))) := Fr1.put
      have d6 : upd H5 p (.lst ([e1] ++ [e2])) p = some (.lst ([e1] ++ [e2])) := upd_same
      have E6 := ext_put (o := .lst ([e1] ++ [e2])) (E4.trans x5) hp3
      have T6 := Tabs.fr1 T5 q5 d5
      have a1 := IsExcP.fr1 (w1.ext x5) q5 d5
      have a2 := IsExcP.fr1 h5 q5 d5
      generalize upd H5 p (.lst ([e1] ++ [e2])) = H6 at d6 E6 T6 a1 a2 ⊢
      refine app_read (Pa := qXP CB "outside") rfl d6 (by simp) T6 (fun H7 e3 x7 T7 d7 h7 => ?_) (yCauP subB fun H' Q' E' ee pa => ⟨_, rfl, _, rfl, x, v, rfl, .inr (.inr ⟨jx3.ext (E6.trans ee), v3.ext (E6.trans ee), pa⟩)⟩)
      have q7 : Fr1 p H7 (upd H7 p (.lst ([e1] ++ [e2] ++ [e3]))) := Fr1.put
      have d8 : upd H7 p (.lst ([e1] ++ [e2] ++ [e3])) p = some (.lst ([e1] ++ [e2] ++ [e3])) := upd_same
      have E8 := ext_put (o := .lst ([e1] ++ [e2] ++ [e3])) (E6.trans x7) hp3
      have T8 := Tabs.fr1 T7 q7 d7
      have b1 := IsExcP.fr1 (a1.ext x7) q7 d7
      have b2 := IsExcP.fr1 (a2.ext x7) q7 d7
      have b3 := IsExcP.fr1 h7 q7 d7
      generalize upd H7 p (.lst ([e1] ++ [e2] ++ [e3])) = H8 at d8 E8 T8 b1 b2 b3 ⊢
      refine app_read (Pa := qXP CB "outside") rfl d8 (by simp) T8 (fun H9 e4 x9 T9 d9 h9 => ?_) (yCauP subB fun H' Q' E' ee pa => ⟨_, rfl, _, rfl, Nat.zero_le _, fun p5 hp5 => ⟨y, v, .ref p5, rfl, .inr (.inr ⟨(jy3.ext (E8.trans ee)).same (same_upd hp5), (v3.ext (E8.trans ee)).same (same_upd hp5), pa.same (same_upd hp5)⟩)⟩⟩)
      have q9 : Fr1 p H9 (upd H9 p (.lst ([e1] ++ [e2] ++ [e3] ++ [e4]))) := Fr1.put
      have dA : upd H9 p (.lst ([e1] ++ [e2] ++ [e3] ++ [e4])) p = some (.lst ([e1] ++ [e2] ++ [e3] ++ [e4])) := upd_same
      have EA := ext_put (o := .lst ([e1] ++ [e2] ++ [e3] ++ [e4])) (E8.trans x9) hp3
      have TA := Tabs.fr1 T9 q9 d9
      have g1 := IsExcP.fr1 (b1.ext x9) q9 d9
      have g2 := IsExcP.fr1 (b2.ext x9) q9 d9
      have g3 := IsExcP.fr1 (b3.ext x9) q9 d9
      have g4 := IsExcP.fr1 h9 q9 d9
      generalize upd H9 p (.lst ([e1] ++ [e2] ++ [e3] ++ [e4])) = HA at dA EA TA g1 g2 g3 g4 ⊢
      refine useT (b := false) TA (fun HB eB TB' => iteF ?_) (tt (yNeE (yNone rfl (SqL.of dA) (fun _ => rfl) (fun y H' hy e => (tNot' (tb (c := true) (by
        simp only [List.cons_append, List.nil_append, List.mem_cons, List.not_mem_nil, or_false] at hy
        rcases hy with rfl | rfl | rfl | rfl
        · exact yIsP rfl kB (g1.ext e)
        · exact yIsP rfl kB (g2.ext e)
        · exact yIsP rfl kB (g3.ext e)
        · exact yIsP rfl kB (g4.ext e)))).is rfl))))
      have dB := eB _ _ dA fun ps z => nomatch z
      dsimp only [L2.tNext, tRet]
      show tLc (iList K (tVar 10)) (gName 11) tYes (tXpart CB (tVar 11)) [11] _ _ _
      refine lcPart (K := K) (i := 10) (j := 11) (l := p) (zs := ["inside", "inside", "outside", "outside"]) rfl dB rfl (by simp) (fun n x' z' hx' hz' => ?_) (fun _ => rfl) (by show 11 < 12; decide) fun HC D sC hD => ?_
      · match n with
        | 0 => cases hx'; cases hz'; exact g1.ext eB
        | 1 => cases hx'; cases hz'; exact g2.ext eB
        | 2 => cases hx'; cases hz'; exact g3.ext eB
        | 3 => cases hx'; cases hz'; exact g4.ext eB
        | n + 4 => simp at hz'
      · refine ⟨by show 4 ≤ sizeLine; decide, fun l hl => ?_⟩
        have sD := same_upd (o := .lst [.str "inside", .str "inside", .str "outside", .str "outside"]) hl
        refine ⟨.list ((["inside", "inside", "outside", "outside"] : List Str).map PyData.str), .list ((["inside", "inside", "outside", "outside"] : List Str).map PyData.str), .lst (SqL.of (sD _ _ hD)) (dp_strs ["inside", "inside", "outside", "outside"]), .lst (SqL.of upd_same) (dp_strs ["inside", "inside", "outside", "outside"]), shaped_strs _ four_in, shaped_strs _ four_in, ?_⟩
        rw [PySem.SeqAt.eqv_refl _ (cl_list four_in)]
        exact q _ (((S3.ext (EA.trans eB)).same (sC.trans sD)).mono (by omega)) ((TB'.ext sC).ext sD)
end
end Kw
set_option maxHeartbeats 4000000
namespace Kw
open PySem PySem.Spec PyProof.Rows L2 LamX SX
abbrev sMany : Stmt := top 50
/-! ### _law_many_right -/
def manyV (a : Int) : List Ver := (List.range 40).map fun k : Nat => ((k : Int), a, (0 : Int))
theorem many_facts : touchB (manyV 1) (manyV 0) = false ∧ touchB (manyV 0) (manyV 1) = false ∧ (partN (manyV 1) (manyV 0)).length = 40 ∧ (partN (manyV 0) (manyV 1)).length = 40 ∧
    hasL (notV (partN (manyV 0) (manyV 1))) (39, 0, 0) = false ∧ hasL (notV (partN (manyV 0) (manyV 1))) (50, 0, 0) = true ∧ (notV (partN (manyV 0) (manyV 1))).length = 40 ∧ (manyV 0).length = 40 ∧ (manyV 1).length = 40 := by decide +kernel
theorem many_ok (a : Int) (h : 0 ≤ a) : ∀ v ∈ manyV a, okV v := fun v hv => by
  obtain ⟨k, _, rfl⟩ := List.mem_map.mp hv
  exact ⟨Int.natCast_nonneg _, h, Int.le_refl _⟩
section
variable {K : PySem.W.Frag} {T : List (Addr × Str)} {σ : L2.St} {H : Hp} {CR CE CX CB : Addr}
theorem usePar {i j : Nat} {D : Ends} {Pa Pb : Hp → V → Prop} {a b : TE} (t : Tabs T H) (q : ∀ (H2 : Hp) (x y : V), ExtN H H2 → Tabs T H2 → Pa H2 x → Pb H2 y → D.nx ((σ.set i (some x)).set j (some y)) H2) (ea : ∀ {H1 H2 x}, ExtN H1 H2 → Pa H1 x → Pa H2 x) (ha : Yd T σ H a Pa) (hb : Yd T σ H b Pb) :
    tPar i j (tCons a (tCons b tNil)) D σ H := ha H _ (ExtN.refl _) t fun H2 x e2 t2 hx => hb H2 _ e2 t2 fun H3 y e3 t3 hy => ⟨x, y, rfl, q H3 x y (e2.trans e3) t3 (ea e3 hx) hy⟩
/-- [(k, a, 0) for k in range(40)] -/
theorem yMany {a : Int} {j : Nat} (ha : 0 ≤ a) (hw : ∀ y, wipe ((wipe σ [j]).set j y) [j] = wipe σ [j]) (hj : j < (wipe σ [j]).length) :
    Yd T σ H (tLc (iRng1 (tCons (tC (.int 40)) tNil)) (gName j) tYes (tTup (tCons (tVar j) (tCons (tC (.int a)) (tCons (tC (.int 0)) tNil)))) [j]) (fun H' x => LsAt K H' x (manyV a)) := fun H1 Q e t q => by
  refine ⟨40, rfl, by decide, by decide, fun D hD => ?_⟩
  refine lc_range (lo := 0) (n := 40) (fun i H' => Same H1 H' ∧ ∃ ks, H' D = some (.lst (rf ks)) ∧ KsOk K H' ks ∧ ks.map (·.2) = (List.range i).map fun k : Nat => ((k : Int), a, (0 : Int))) ⟨same_upd hD, [], upd_same, (fun p hp => by cases hp), rfl⟩ ?_ ?_
  · rintro i H2 hi ⟨s2, ks, hx, hk, ek⟩
    have lk := congrArg List.length ek
    rw [List.length_map, List.length_map, List.length_range] at lk
    refine ⟨hw _, yesI ⟨_, by rw [List.getElem?_set_self hj], by show 3 ≤ sizeLine; decide, fun p hp => ?_⟩⟩
    have s3 := same_upd (o := .tup [.int (0 + (i : Int)), .int a, .int 0]) hp
    have hx3 : (upd H2 p (.tup [.int (0 + (i : Int)), .int a, .int 0])) D = some (.lst (rf ks)) := s3 _ _ hx
    have g3 : (upd H2 p (.tup [.int (0 + (i : Int)), .int a, .int 0])) p = some (.tup [.int (0 + (i : Int)), .int a, .int 0]) := upd_same
    generalize upd H2 p (.tup [.int (0 + (i : Int)), .int a, .int 0]) = H3 at s3 hx3 g3
    have f : Fr1 D H3 (upd H3 D (.lst (rf ks ++ [.ref p]))) := Fr1.put
    refine ⟨rf ks, hx3, by rw [List.length_map]; show ks.length < sizeLine; rw [sizeLine_eq]; omega, fun b o z => ?_, ks ++ [(p, ((i : Int), a, 0))], by rw [upd_same]; simp, ?_, ?_⟩
    · rw [upd_ne (ne_of_none z hD)]
      exact (s2.trans s3) _ _ z
    · refine ks_fr1 (KsOk.app (hk.same s3) fun r hr => ?_) f hx3
      rw [List.mem_singleton.mp hr]
      refine ⟨.inl (.inl ?_), Int.natCast_nonneg _, ha, Int.le_refl _⟩
      rw [g3, Int.zero_add]
      rfl
    · rw [List.map_append, ek, List.range_succ, List.map_append]
      rfl
  · rintro H2 ⟨s2, ks, hx, hk, ek⟩
    exact q H2 _ (ExtN.same s2) (t.ext s2) ⟨D, ks, rfl, hx, hk, ek⟩
/-- parting, widest_parting, alternation of lists that have no version in common -/
theorem ySides {R : List Ver → List Ver → Hp → V → Prop} {ta tb : TE} {i o : List Ver} (ha : Yd T σ H ta fun H x => VsAt K H x i) (hb : Yd T σ H tb fun H x => VsAt K H x o) (li : i.length ≤ 40) (lo : o.length ≤ 40) (ap : touchB i o = false) :
    Yd T σ H (tCall (spSides T R K CB) [] E0 (tCons ta (tCons tb tNil))) (R i o) := fun H1 Q e t q =>
  ha H1 _ e t fun H2 x e2 t2 hx => hb H2 _ (e.trans e2) t2 fun H3 y e3 t3 hy =>
    ⟨x, y, rfl, .inl ⟨i, o, hx.ext e3, hy, li, lo, t3, fun z => absurd (ap.symm.trans z) (by decide), fun _ H4 z e4 t4 hz => q H4 z (e2.trans (e3.trans e4)) t4 hz⟩⟩
theorem yVs {i : Nat} {x : V} {vs : List Ver} (hi : σ[i]? = some (some x)) (h : VsAt K H x vs) : Yd T σ H (tVar i) fun H' x => VsAt K H' x vs := yv hi fun _ e => h.ext e
theorem yLenT {a : TE} {vs : List Ver} {r : List V → Hp → VK → Prop} (hr : ∀ p ys H Q, SqT K H p ys → Q (.int ys.length) H → r [.ref p] H Q) (ha : Yd T σ H a fun H' x => TsAt K H' x vs) : Yd T σ H (tCB r (tCons a tNil)) (qI vs.length) := fun H1 Q e t q => ha H1 _ e t fun H2 x e2 t2 hx => by
  obtain ⟨p, ks, rfl, ht, hk, rfl⟩ := hx
  exact hr p _ _ _ ht (q H2 _ e2 t2 (by rw [List.length_map, List.length_map]))
end
section
variable {P : Program} {w : World} {K : PySem.W.Frag} {mg : Str → Option Value} {base : Heap}
abbrev nMn : List Str := ["_law_inside", "_law_outside", "_law_found", "_law_k"]
theorem scMn : FnScope nMn [] (defScope sMany) := ⟨rfl, rfl, rfl, by decide +kernel, rfl, by decide +kernel, by decide +kernel⟩
theorem ok_many {f CR CX CB : Addr} {fd : FuncData} {k : Nat} {T : List (Addr × Str)} (F : Fun K "_law_many_right" "_law_many_right" sMany f fd) (mr : mg "range" = none) (ml : mg "len" = none) (G : RangeGet P w K mg base CR k) (HA : RangeHas P w K mg base CR k) (R : ROps P w K mg base CR CX k)
    (DPt : DefX P w K mg base "parting" k ["inside", "outside"] (spParting K T CR CB)) (DWp : DefX P w K mg base "widest_parting" k ["inside", "outside"] (spWidest K T CR CB)) (DAl : DefX P w K mg base "alternation" k ["inside", "outside"] (spAlt K T CB)) :
    FnOk P w K mg base CX0 (k + 2) f fd [] (spTrue T) := by
  refine F.ok scMn (fun vs H Q E h => ?_) (fun cdv A outer s H vs Q E hr h => ?_)
  · rw [h.1]
    rfl
  · obtain ⟨rfl, hT, q⟩ := h
    have hk := hr.mono (show k ≤ k + 1 by omega)
    refine' ⟨_, pss_cons ?s1 (pss_cons ?s2 (pss_cons ?s3 (pss_one ?s4))), ?_⟩
    case s1 => exact ps_par (i := 0) (j := 1) rfl scMn.nd rfl rfl (by decide) rfl rfl (pa_cons (pe_lc (own := [("_law_k", 3)]) (g := gName 3) (tt := tYes) rfl scMn.nd (pi_range1 rfl mr (pa_cons pe_int pa_nil)) (blkOk_by (N := nMn) (sc := defScope sMany) (by decide +kernel)) (fun _ _ _ _ _ => pg_name (i := 3) scMn.nd rfl (Or.inl rfl)) (fun _ _ _ _ _ => pts_nil) (fun _ _ _ _ _ => pe_tup (pa_cons (pv 3) (pa_cons pe_int (pa_cons pe_int pa_nil)))))
        (pa_cons (pe_lc (own := [("_law_k", 3)]) (g := gName 3) (tt := tYes) rfl scMn.nd (pi_range1 rfl mr (pa_cons pe_int pa_nil)) (blkOk_by (N := nMn) (sc := defScope sMany) (by decide +kernel)) (fun _ _ _ _ _ => pg_name (i := 3) scMn.nd rfl (Or.inl rfl)) (fun _ _ _ _ _ => pts_nil) (fun _ _ _ _ _ => pe_tup (pa_cons (pv 3) (pa_cons pe_int (pa_cons pe_int pa_nil))))) pa_nil)) rfl
    case s2 => exact ps_if (PW.pt (pw_or (pt_cmpR op_ne (pe_callB call_len_seq (by rfl) ml PySem.boot_len (pa_cons (pe_stretches G hr (pe_dP DPt hk (pa_cons (pv 0) (pa_cons (pv 1) pa_nil)))) pa_nil)) pe_int (nomark _))
        (pw_or1 (pt_cmpR op_ne (pe_callB call_len_seq (by rfl) ml PySem.boot_len (pa_cons (pe_dP DAl hk (pa_cons (pv 0) (pa_cons (pv 1) pa_nil))) pa_nil)) pe_int (nomark _))))) (pss_one (ps_ret pe_bl)) pss_nil
    case s3 => exact ps_set (i := 2) scMn.nd rfl (.inl rfl) (pe_dP DWp hk (pa_cons (pv 0) (pa_cons (pv 1) pa_nil)))
    case s4 => exact ps_ret (pe_and (pe_cmpR (op_eqG R hk) (pv 2) (pe_un (un_invG R hk passL) (pe_dP DPt hk (pa_cons (pv 1) (pa_cons (pv 0) pa_nil)))) (nomark _)) (pe_and (pe_cmpR (op_ninR HA hk) (pe_tup (pa_cons pe_int (pa_cons pe_int (pa_cons pe_int pa_nil)))) (pv 2) rfl) (pe_one (pe_cmpR (op_inR HA hk) (pe_tup (pa_cons pe_int (pa_cons pe_int (pa_cons pe_int pa_nil)))) (pv 2) rfl))))
    obtain ⟨m1, m2, m3, m4, m5, m6, m7, m8, m9⟩ := many_facts
    have nf : NF (partN (manyV 0) (manyV 1)) := partN_nf (touch_apt m2) (many_ok 0 (by decide))
    dsimp only [tSeq, tAsg, tRet, tIfS, gName]
    refine usePar (Pa := fun H' x => LsAt K H' x (manyV 1)) (Pb := fun H' x => LsAt K H' x (manyV 0)) hT (fun H2 xi xo e2 T2 hi ho => ?_) (fun e h => h.ext e) (yMany (by decide) (fun _ => rfl) (by decide)) (yMany (by decide) (fun _ => rfl) (by decide))
    dsimp only [tSeq, tAsg, tRet, tIfS, gName]
    refine useT (b := false) T2 (fun H3 e3 T3 => iteF ?_) ((tOr' (tt (yNe (yLen (fun p ys H Q a b => ⟨p, ys, rfl, .inr a, b⟩) (yGet (Yd.imp (ySides (yVs rfl hi.vs) (yVs rfl ho.vs) (by omega) (by omega) m1) fun _ _ z => z.1))) yi)) (tt (yNe (yLenT (fun p ys H Q a b => ⟨p, ys, rfl, .inr a, b⟩) (ySides (yVs rfl hi.vs) (yVs rfl ho.vs) (by omega) (by omega) m1)) yi))).is (by rw [m3, turns_len, m3]; rfl))
    dsimp only [L2.tNext]
    have hi3 := (hi.ext e3).vs
    have ho3 := (ho.ext e3).vs
    refine use T3 (fun H4 x4 e4 T4 h4 => ?_) (ySides (R := fun i o H' z => IsR K CR H' z (notV (partN o i))) (yVs rfl hi3) (yVs rfl ho3) (by omega) (by omega) m1)
    refine use T4 (fun H5 x5 e5 T5 h5 => ?_) (Yd.is (yAnd (yEq (yr rfl h4) (yNot (Yd.imp (ySides (yVs rfl (ho3.ext e4)) (yVs rfl (hi3.ext e4)) (by omega) (by omega) m2) fun _ _ z => z.1) nf (by omega))) (yAnd (yNin (v := (39, 0, 0)) (y3 yi yi yi) (yr rfl h4) (okVB_ok (by decide)) (by omega)) (yIn (v := (50, 0, 0)) (y3 yi yi yi) (yr rfl h4) (okVB_ok (by decide)) (by omega)))) (d := true) (by rw [m5, m6]; simp))
    obtain rfl : x5 = .bl true := h5
    exact q H5 (((e2.trans e3).trans e4).trans e5) T5
end
end Kw
set_option maxHeartbeats 4000000
/-! ### `!=` of lists that hold ranges, tuples and None: False where they are alike -/
namespace NeW
open PySem PySem.SeqAt
open AutoSeq1 (wpAny_loadPart')
open MeetsSeq MeetsSeq2 MeetsSeq3 SeqRoads2
section
variable {prog : Program} {w : World} {A : Around} {R : Result → Shared → Prop}
/-- from the item at which it stands on: False comes out -/
theorem walk (a c : Addr) (m : Nat) (J : Nat → Shared → Prop) (alike : GQ.ListI prog w A (fun er z => R (.error er) z) a c m J) (done : ∀ z, J m z → R (.ok (.ret (.bool false))) z) :
    ∀ (left p : Nat), p + left = m → ∀ z, J p z → wpAny (model prog w) A.in1 (Builtin.«list.__eq__.loop» ⟨[.ref a, .ref c, rawInt p, rawInt 3], []⟩) (GQ.FinOf prog w A R) (fun er z => R (.error er) z) z
  | 0, p, hp, z, hz => by
    obtain ⟨us, vs, nu, nv, ga, gc, su, sv, _⟩ := alike _ _ hz
    obtain rfl : p = m := by omega
    have fin := done z hz
    have no1 : us[((p : Nat) : Int).toNat]? = none := by simp; omega
    have no2 : vs[((p : Nat) : Int).toNat]? = none := by simp; omega
    obtain ⟨zh, zg, zd, zt, zo⟩ := z
    wp_walk using wpAny_loadPart' ga, wpAny_loadPart' gc
    rw [no1, no2]
    wp_walk using wpAny_loadPart' ga, wpAny_loadPart' gc
    show R (.ok (.ret (.bool (us.size != vs.size)))) _
    rw [su, sv, bne_self_eq_false]
    exact fin
  | left + 1, p, hp, z, hz => by
    obtain ⟨us, vs, nu, nv, ga, gc, su, sv, each⟩ := alike _ _ hz
    have lu : p < us.size := by omega
    have lv : p < vs.size := by omega
    have one := each lu lv
    have at1 : us[((p : Nat) : Int).toNat]? = some us[p] := by simp [lu]
    have at2 : vs[((p : Nat) : Int).toNat]? = some vs[p] := by simp [lv]
    obtain ⟨zh, zg, zd, zt, zo⟩ := z
    wp_walk using wpAny_loadPart' ga, wpAny_loadPart' gc
    rw [at1, at2]
    refine wpAny_bind (wpAny_mono one (fun yes z2 both => ?_) fun _ _ q => q)
    obtain ⟨rfl, hz2⟩ := both
    have rest := walk a c m J alike done left (p + 1) (by omega) z2 hz2
    obtain ⟨yh, yg, yd, yt, yo⟩ := z2
    wp_walk
    rw [show ((p : Int) + 1) = ((p + 1 : Nat) : Int) from by omega]
    refine ⟨plainId_quiet plain_eq_loop _, codeAny_builtin entry_eq_loop ?_⟩
    rw [Around.under_plainId plain_eq_loop _]
    exact rest
theorem whole (a c : Addr) (m : Nat) (J : Nat → Shared → Prop) (alike : GQ.ListI prog w A (fun er z => R (.error er) z) a c m J) (done : ∀ z, J m z → R (.ok (.ret (.bool false))) z) {z : Shared} (hz : J 0 z) :
    wpAny (model prog w) A.in1 (Builtin.«list.__ne__» ⟨[.ref a, .ref c], []⟩) (GQ.FinOf prog w A R) (fun er z => R (.error er) z) z := by
  obtain ⟨us, vs, nu, nv, ga, gc, su, sv, _⟩ := alike _ _ hz
  have rest := walk (A := A) (R := R) a c m J alike done m 0 (by omega) z hz
  have sub := AutoSeq1.sub_list_list
  have sm : ¬ (us.size != vs.size) = true := by rw [su, sv]; simp
  obtain ⟨zh, zg, zd, zt, zo⟩ := z
  wp_walk using wpAny_loadPart' ga, wpAny_loadPart' gc
  refine ⟨plainId_quiet plain_eq_loop _, codeAny_builtin entry_eq_loop ?_⟩
  rw [Around.under_plainId plain_eq_loop _]
  exact rest
end
theorem rc {prog : Program} {w : World} {A : Around} {E : Value → Shared → Prop} {z : Shared} {a c : Addr} {m : Nat} {Q : Value → Shared → Prop} (hu : A.units < cLine) (J : Nat → Shared → Prop) (alike : GQ.ListI prog w A E a c m J)
    (done : ∀ z, J m z → Q (.bool false) z) (hz : J 0 z) : wpAny (model prog w) A (richCompare .NotEq (.ref a) (.ref c)) Q E z := by
  obtain ⟨us, vs, nu, nv, ga, gc, _⟩ := alike _ _ hz
  refine wpAny_richCompare_same_room (op := .NotEq) ⟨_, ga, rfl⟩ ⟨_, gc, rfl⟩ F.slot_list_ne (GQ.call_here F.slot_list_ne ⟨_, ga, rfl⟩ F.entry_list_ne (F.args_list_ne_2 _ _) ?_) hu
  exact whole (R := wants (fun v z => v ≠ .notImplemented ∧ Q v z) E) a c m J alike (fun z q => ⟨(fun x => nomatch x), done z q⟩) hz
end NeW
namespace Kw
open PySem PySem.Spec PyProof.Rows L2 LamX SX
section
variable {X : Cx} {n : Nat} {D : Eqv}
abbrev rNeL (D : Eqv) : R2 := fun x y H Q => DList D x y H ∧ ∀ H', Same H H' → Q (.bl false) H'
theorem op_neL (hD : Mon D) (h : EqG X n D) (hr : Room (n + 1) X.A) : OpR X (compareOp .NotEq) (rNeL D) := by
  intro pins s σ H x y v u Q I rx ry ⟨⟨a, b, xs, ys, ex, ey, ha, hb, p⟩, q⟩
  subst ex
  subst ey
  obtain rfl : v = Value.ref a := rx
  obtain rfl : u = Value.ref b := ry
  show wpAny (model X.prog X.w) X.A (richCompare .NotEq (.ref a) (.ref b)) (EP X pins σ Q) X.xe s
  refine NeW.rc (m := xs.length) hr.units0 (fun _ z => LoopI X pins σ H z) (fun i z l => ?_) (fun z ⟨H1, I1, e1⟩ => ⟨.bl false, H1, I1, rfl, q H1 e1⟩) ⟨H, I, Ext.rfl'⟩
  obtain ⟨H1, I1, e1⟩ := id l
  obtain ⟨_, us, k1, r1, g1⟩ := I1.hok a _ (e1 _ _ ha)
  obtain ⟨_, vs, k2, r2, g2⟩ := I1.hok b _ (e1 _ _ hb)
  have len1 := r1.length
  have len2 := r2.length
  have len3 := p.1
  exact ⟨us.toArray, vs.toArray, k1, k2, g1, g2, by rw [List.size_toArray]; omega, by rw [List.size_toArray]; omega, fun h1 h2 => turnG hD h ⟨hr, rfl⟩ p r1 r2 i h1 h2 z l⟩
end
/-! what the law compares -/
abbrev AlikeR (K : PySem.W.Frag) (CR : Addr) : Addr → Addr → Hp → Prop := fun a b H => ∃ nf, IsR K CR H (.ref a) nf ∧ IsR K CR H (.ref b) nf
abbrev DTold (K : PySem.W.Frag) (CR : Addr) : Eqv := fun x y H => (DFlat x y H ∨ DIns CR (AlikeR K CR) x y H) ∨ DTup K (DTup K DFlat) x y H
theorem mon_told {K : PySem.W.Frag} {CR : Addr} : Mon (DTold K CR) := ((mon_flat).or (mon_ins fun a b H H' e ⟨nf, h1, h2⟩ => ⟨nf, h1.same e, h2.same e⟩)).or (mon_tup (mon_tup mon_flat))
theorem eqG_told {X : Cx} {CR CX : Addr} {k : Nat} (R : ROps X.prog X.w X.K X.mg X.base CR CX k) : EqG X (k + 2) (DTold X.K CR) := by
  obtain ⟨f, fd, F, hs, hf, hb, _⟩ := R.eq_
  refine ((eqG_flat.mono (Nat.zero_le _)).or ((eqG_ins (F.imp ?_) hs hf hb pass0).mono (by omega))).or ((eqG_tup (mon_tup mon_flat) (eqG_tup mon_flat eqG_flat)).mono (by omega))
  rintro vs H Q E ⟨a, b, rfl, ⟨nf, h1, h2⟩, q⟩
  refine ⟨_, _, nf, rfl, h1, .inl ⟨nf, h2, ?_⟩⟩
  rw [decide_eq_true rfl]
  exact q H Ext.rfl'
section
variable {K : PySem.W.Frag} {CR : Addr} {H : Hp} {x y : V}
theorem told_non : DTold K CR .non .non H := .inl (.inl ⟨rfl, rfl, rfl⟩)
theorem told_rng {nf : List Str2} (hx : IsR K CR H x nf) (hy : IsR K CR H y nf) : DTold K CR x y H := by
  obtain ⟨a, da, ta, za, rfl, h1, h2, h3⟩ := id hx
  obtain ⟨b, db, tb, zb, rfl, g1, g2, g3⟩ := id hy
  exact .inl (.inr ⟨a, b, da, db, _, _, rfl, rfl, h1, g1, nf, hx, hy⟩)
theorem told_tup {us : List Ver} (hx : TsAt K H x us) (hy : TsAt K H y us) : DTold K CR x y H := by
  obtain ⟨a, ks, rfl, h1, h2, h3⟩ := hx
  obtain ⟨b, js, rfl, g1, g2, g3⟩ := hy
  have e := h3.trans g3.symm
  have len := congrArg List.length e
  rw [List.length_map, List.length_map] at len
  refine .inr ⟨a, b, rf ks, rf js, rfl, rfl, h1, g1, by rw [List.length_map, List.length_map]; exact len, fun i u v hu hv => ?_⟩
  rw [List.getElem?_map] at hu hv
  obtain ⟨p, hp, rfl⟩ := Option.map_eq_some_iff.mp hu
  obtain ⟨r, hr, rfl⟩ := Option.map_eq_some_iff.mp hv
  have k1 := h2 p (List.mem_of_getElem? hp)
  have k2 := g2 r (List.mem_of_getElem? hr)
  have ev : p.2 = r.2 := by
    have z := congrArg (fun l => l[i]?) e
    simp only [List.getElem?_map, hp, hr] at z
    exact Option.some.inj z
  refine ⟨p.1, r.1, _, _, rfl, rfl, k1.1, k2.1, by rw [ev], fun j c d hc hd => ?_⟩
  rw [ev, hd] at hc
  obtain rfl := Option.some.inj hc
  match j, hd with
  | 0, hd => cases hd; exact ⟨rfl, rfl, by simp [eqV]⟩
  | 1, hd => cases hd; exact ⟨rfl, rfl, by simp [eqV]⟩
  | 2, hd => cases hd; exact ⟨rfl, rfl, by simp [eqV]⟩
  | j + 3, hd => simp at hd
end
end Kw
set_option maxHeartbeats 4000000
namespace Kw
open PySem PySem.Spec PyProof.Rows L2 LamX SX
/-! ### readings for the law's turn -/
theorem minL_in {l : List Ver} (h : l ≠ []) : minL l ∈ l := by
  cases l with
  | nil => exact absurd rfl h
  | cons v l =>
    rcases (min_fold l v).1 with e | e
    · show l.foldl _ v ∈ _
      rw [e]
      exact List.mem_cons_self ..
    · exact List.mem_cons_of_mem _ e
theorem turns_mem (o : List Ver) : ∀ (n : List Str2) (f : List Ver) (v : Ver), v ∈ n.foldl (turnStep o) f → v ∈ f ∨ (∃ s ∈ n, v = s.1) ∨ v ∈ o ∨ v = minL []
  | [], f, v, h => .inl h
  | s :: n, f, v, h => by
    rcases turns_mem o n _ v h with h | ⟨t, ht, e⟩ | h | h
    · unfold turnStep at h
      split at h
      · rename_i x hx
        simp only [List.mem_append, List.mem_cons, List.not_mem_nil, or_false, or_assoc] at h
        by_cases en : o.filter (betwB x s.1) = []
        · rw [en] at h
          rcases h with h | rfl | h
          · exact .inl h
          · exact .inr (.inr (.inr rfl))
          · exact .inr (.inl ⟨s, List.mem_cons_self .., h⟩)
        · rcases h with h | rfl | h
          · exact .inl h
          · exact .inr (.inr (.inl (List.mem_filter.mp (minL_in en)).1))
          · exact .inr (.inl ⟨s, List.mem_cons_self .., h⟩)
      · rcases List.mem_append.mp h with h | h
        · exact .inl h
        · exact .inr (.inl ⟨s, List.mem_cons_self .., List.mem_singleton.mp h⟩)
    · exact .inr (.inl ⟨t, List.mem_cons_of_mem _ ht, e⟩)
    · exact .inr (.inr (.inl h))
    · exact .inr (.inr (.inr h))
theorem turns_bot {i o : List Ver} (ap : Apt i o) {b : Int} (hb : 0 ≤ b) (bd : ∀ v ∈ i ++ o, botV b v) : ∀ v ∈ turnsV (partN i o) o, botV b v := fun v hv => by
  rcases turns_mem o _ [] v hv with h | ⟨s, hs, rfl⟩ | h | rfl
  · cases h
  · exact bd _ (List.mem_append_left _ (partN_low ap hs))
  · exact bd _ (List.mem_append_right _ h)
  · exact ⟨hb, hb, hb⟩
abbrev RtT := List Ver → List Ver → Hp → V → Prop
def Sd (R : RtT) (i o : List Ver) : Hp → V → Prop := fun H x => (touchB i o = true ∧ x = .non) ∨ (touchB i o = false ∧ R i o H x)
abbrev RP (K : PySem.W.Frag) (CR : Addr) : RtT := fun i o H z => IsR K CR H z (partN i o) ∧ (partN i o).length ≤ i.length
abbrev RW (K : PySem.W.Frag) (CR : Addr) : RtT := fun i o H z => IsR K CR H z (notV (partN o i))
abbrev RA (K : PySem.W.Frag) : RtT := fun i o H z => TsAt K H z (turnsV (partN i o) o)
def ExtR (R : RtT) : Prop := ∀ i o H H' x, ExtN H H' → R i o H x → R i o H' x
theorem ext_RP {K : PySem.W.Frag} {CR : Addr} : ExtR (RP K CR) := fun i o H H' x e h => ⟨h.1.ext e, h.2⟩
theorem ext_RW {K : PySem.W.Frag} {CR : Addr} : ExtR (RW K CR) := fun i o H H' x e h => h.ext e
theorem ext_RA {K : PySem.W.Frag} : ExtR (RA K) := fun i o H H' x e h => h.ext e
theorem Sd.ext {R : RtT} {i o : List Ver} {H H' : Hp} {x : V} (hR : ExtR R) (h : Sd R i o H x) (e : ExtN H H') : Sd R i o H' x := h.imp id fun ⟨a, b⟩ => ⟨a, hR _ _ _ _ _ e b⟩
structure Told (K : PySem.W.Frag) (CR : Addr) (i o : List Ver) (H : Hp) (x : V) : Prop where
  ex : ∃ l t0 t1 t2, x = .ref l ∧ H l = some (.lst [t0, t1, t2]) ∧ Sd (RP K CR) i o H t0 ∧ Sd (RW K CR) i o H t1 ∧ Sd (RA K) i o H t2
theorem Sd.yes {R : RtT} {i o : List Ver} {H : Hp} {x : V} (h : Sd R i o H x) (c : touchB i o = true) : x = .non := by
  rcases h with ⟨_, h⟩ | ⟨d, _⟩
  · exact h
  · rw [c] at d
    cases d
theorem Sd.no {R : RtT} {i o : List Ver} {H : Hp} {x : V} (h : Sd R i o H x) (c : touchB i o = false) : R i o H x := by
  rcases h with ⟨d, _⟩ | ⟨_, h⟩
  · rw [c] at d
    cases d
  · exact h
theorem apart_is {i o : List Ver} {ks : List (Addr × Ver)} (e : ks.map (·.2) = i.filter fun v => decide (v ∈ o)) : ks.isEmpty = !touchB i o := by
  have z : ks.isEmpty = (i.filter fun v => decide (v ∈ o)).isEmpty := by
    rw [← e]
    cases ks <;> rfl
  rw [z]
  unfold touchB
  clear z e
  induction i with
  | nil => rfl
  | cons v i ih =>
    by_cases c : v ∈ o
    · simp [c]
    · rw [List.filter_cons_of_neg (by simpa using c), ih]
      simp [c]
section
variable {K : PySem.W.Frag} {T : List (Addr × Str)} {σ : L2.St} {H : Hp} {CR CE CX CB : Addr} {i o : List Ver} {R : RtT} {ta tb tc : TE}
theorem ySd {R : RtT} (ha : Yd T σ H ta fun H x => VsAt K H x i) (hb : Yd T σ H tb fun H x => VsAt K H x o) (li : i.length ≤ 40) (lo : o.length ≤ 40) : Yd T σ H (tCall (spSides T R K CB) [] E0 (tCons ta (tCons tb tNil))) (Sd R i o) := fun H1 Q e t q =>
  ha H1 _ e t fun H2 x e2 t2 hx => hb H2 _ (e.trans e2) t2 fun H3 y e3 t3 hy =>
    ⟨x, y, rfl, .inl ⟨i, o, hx.ext e3, hy, li, lo, t3, fun c H4 e4 t4 => q H4 _ (e2.trans (e3.trans e4)) t4 (.inl ⟨c, rfl⟩), fun c H4 z e4 t4 hz => q H4 z (e2.trans (e3.trans e4)) t4 (.inr ⟨c, hz⟩)⟩⟩
theorem ySw {R : RtT} (hb : Yd T σ H tb fun H x => VsAt K H x o) (ha : Yd T σ H ta fun H x => VsAt K H x i) (li : i.length ≤ 40) (lo : o.length ≤ 40) : Yd T σ H (tSw (spSides T R K CB) E0 tb ta) (Sd R i o) := fun H1 Q e t q =>
  hb H1 _ e t fun H2 y e2 t2 hy => ha H2 _ (e.trans e2) t2 fun H3 x e3 t3 hx =>
    ⟨x, y, rfl, .inl ⟨i, o, hx, hy.ext e3, li, lo, t3, fun c H4 e4 t4 => q H4 _ (e2.trans (e3.trans e4)) t4 (.inl ⟨c, rfl⟩), fun c H4 z e4 t4 hz => q H4 z (e2.trans (e3.trans e4)) t4 (.inr ⟨c, hz⟩)⟩⟩
/-- tuple(list) -/
theorem yTup {j : Nat} {x : V} (hj : σ[j]? = some (some x)) (h : LsAt K H x i) : Yd T σ H (tTupOf K (tVar j)) fun H x => VsAt K H x i := fun H1 Q e t q => by
  obtain ⟨l, ks, rfl, hl, hk, ek⟩ := h.ext e
  refine ⟨_, hj, l, rf ks, rfl, .inl ⟨SqL.of hl, fun p hp => ?_⟩⟩
  have s := same_upd (o := .tup (rf ks)) hp
  exact q _ _ (ExtN.same s) (t.ext s) ⟨p, ks, rfl, .inr (.inl (.inl upd_same)), hk.same s, ek⟩
theorem yL3 (ha : Yd T σ H ta (Sd (RP K CR) i o)) (hb : Yd T σ H tb (Sd (RW K CR) i o)) (hc : Yd T σ H tc (Sd (RA K) i o)) : Yd T σ H (tLst (tCons ta (tCons tb (tCons tc tNil)))) (Told K CR i o) := fun H1 Q e t q =>
  ha H1 _ e t fun H2 x e2 t2 hx => hb H2 _ (e.trans e2) t2 fun H3 y e3 t3 hy => hc H3 _ ((e.trans e2).trans e3) t3 fun H4 z e4 t4 hz => by
    refine ⟨by show 3 ≤ sizeLine; decide, fun l hl => ?_⟩
    have s := same_upd (o := .lst [x, y, z]) hl
    have es := ExtN.same s
    exact q _ _ ((e2.trans e3).trans (e4.trans es)) (t4.ext s) ⟨l, x, y, z, rfl, upd_same, hx.ext ext_RP ((e3.trans e4).trans es), hy.ext ext_RW (e4.trans es), hz.ext ext_RA es⟩
/-- [a, b], then + [c] -/
def Two (K : PySem.W.Frag) (CR : Addr) (i o : List Ver) (H : Hp) (x : V) : Prop := ∃ l t0 t1, x = .ref l ∧ H l = some (.lst [t0, t1]) ∧ Sd (RP K CR) i o H t0 ∧ Sd (RW K CR) i o H t1
theorem yL2' (ha : Yd T σ H ta (Sd (RP K CR) i o)) (hb : Yd T σ H tb (Sd (RW K CR) i o)) : Yd T σ H (tLst (tCons ta (tCons tb tNil))) (Two K CR i o) := fun H1 Q e t q =>
  ha H1 _ e t fun H2 x e2 t2 hx => hb H2 _ (e.trans e2) t2 fun H3 y e3 t3 hy => by
    refine ⟨by show 2 ≤ sizeLine; decide, fun l hl => ?_⟩
    have s := same_upd (o := .lst [x, y]) hl
    have es := ExtN.same s
    exact q _ _ ((e2.trans e3).trans es) (t3.ext s) ⟨l, x, y, rfl, upd_same, hx.ext ext_RP (e3.trans es), hy.ext ext_RW es⟩
theorem yCat {j : Nat} {x : V} (hj : σ[j]? = some (some x)) (h : Two K CR i o H x) (hc : Yd T σ H tc (Sd (RA K) i o)) : Yd T σ H (tOp rCat (tVar j) (tLst (tCons tc tNil))) (Told K CR i o) := fun H1 Q e t q => by
  refine ⟨_, hj, hc H1 _ e t fun H2 z e2 t2 hz => ⟨by show 1 ≤ sizeLine; decide, fun l hl => ?_⟩⟩
  obtain ⟨lx, t0, t1, rfl, hx, h0, h1⟩ := h
  have s := same_upd (o := .lst [z]) hl
  have e12 := e.trans e2
  refine ⟨lx, l, [t0, t1], [z], rfl, rfl, s _ _ (e12 _ _ hx fun ps y => nomatch y), upd_same, by show 3 ≤ sizeLine; decide, fun p hp => ?_⟩
  have s2 := same_upd (o := .lst ([t0, t1] ++ [z])) hp
  have es := ExtN.same (s.trans s2)
  exact q _ _ (e2.trans es) ((t2.ext s).ext s2) ⟨p, t0, t1, z, rfl, upd_same, h0.ext ext_RP (e12.trans es), h1.ext ext_RW (e12.trans es), hz.ext ext_RA es⟩
theorem told_alike {x y : V} (hx : Told K CR i o H x) (hy : Told K CR i o H y) : DList (DTold K CR) x y H := by
  obtain ⟨l, a0, a1, a2, rfl, hl, h0, h1, h2⟩ := hx
  obtain ⟨r, b0, b1, b2, rfl, hr, g0, g1, g2⟩ := hy
  refine ⟨l, r, _, _, rfl, rfl, hl, hr, Prs.cons ?_ (Prs.cons ?_ (Prs.cons ?_ Prs.nil))⟩
  · rcases h0 with ⟨c, rfl⟩ | ⟨c, h⟩
    · rcases g0 with ⟨_, rfl⟩ | ⟨d, _⟩
      · exact told_non
      · rw [c] at d
        cases d
    · rcases g0 with ⟨d, _⟩ | ⟨_, g⟩
      · rw [c] at d
        cases d
      · exact told_rng h.1 g.1
  · rcases h1 with ⟨c, rfl⟩ | ⟨c, h⟩
    · rcases g1 with ⟨_, rfl⟩ | ⟨d, _⟩
      · exact told_non
      · rw [c] at d
        cases d
    · rcases g1 with ⟨d, _⟩ | ⟨_, g⟩
      · rw [c] at d
        cases d
      · exact told_rng h g
  · rcases h2 with ⟨c, rfl⟩ | ⟨c, h⟩
    · rcases g2 with ⟨_, rfl⟩ | ⟨d, _⟩
      · exact told_non
      · rw [c] at d
        cases d
    · rcases g2 with ⟨d, _⟩ | ⟨_, g⟩
      · rw [c] at d
        cases d
      · exact told_tup h g
theorem Told.ext {H' : Hp} {x : V} (h : Told K CR i o H x) (e : ExtN H H') : Told K CR i o H' x := by
  obtain ⟨l, a0, a1, a2, rfl, hl, h0, h1, h2⟩ := h
  exact ⟨l, a0, a1, a2, rfl, e _ _ hl fun ps z => (nomatch z), h0.ext ext_RP e, h1.ext ext_RW e, h2.ext ext_RA e⟩
theorem yNeTold {x : V} {j : Nat} (ha : Yd T σ H ta (Told K CR i o)) (hj : σ[j]? = some (some x)) (h : Told K CR i o H x) : Yd T σ H (tOp (rNeL (DTold K CR)) ta (tVar j)) (qB false) := fun H1 Q e t q =>
  ha H1 _ e t fun H2 y e2 t2 hy => ⟨_, hj, told_alike hy (h.ext (e.trans e2)), fun H3 s => q H3 _ (e2.trans (ExtN.same s)) (t2.ext s) rfl⟩
/-- l[n] -/
theorem yIx {l : Addr} {xs : List V} {n j : Nat} {x : V} {Pv : Hp → V → Prop} (hj : σ[j]? = some (some (.ref l))) (hl : H l = some (.lst xs)) (hn : xs[n]? = some x) (h : ∀ H', ExtN H H' → Pv H' x) : Yd T σ H (tOp (rIxL K) (tVar j) (tC (.int (n : Int)))) Pv := fun H1 Q e t q =>
  ⟨_, hj, l, xs, (n : Int), x, rfl, rfl, SqL.of (e _ _ hl fun ps z => nomatch z), atI_nat hn, q H1 x (ExtN.refl _) t (h H1 e)⟩
/-- _law_runs(..), a tuple of it, the range of it -/
theorem yRuns {x y : V} {m j : Nat} (hm : σ[m]? = some (some x)) (hj : σ[j]? = some (some y)) (hx : LsAt K H x i) (hy : LsAt K H y o) (few : i.length + o.length < 64) : Yd T σ H (tCall (spLRuns K) [] E0 (tCons (tVar m) (tCons (tVar j) tNil))) fun H z => ∃ D xs, z = .ref D ∧ H D = some (.lst xs) ∧ Strs K H xs (partN i o) := fun H1 Q e t q =>
  ⟨_, hm, _, hj, x, y, i, o, rfl, hx.ext e, hy.ext e, few, fun H2 D xs s _ hD hs => q H2 _ (ExtN.same s) (t.ext s) ⟨D, xs, rfl, hD, hs⟩⟩
theorem yRunsT {ss : List Str2} (ha : Yd T σ H ta fun H z => ∃ D xs, z = .ref D ∧ H D = some (.lst xs) ∧ Strs K H xs ss) : Yd T σ H (tTupOf K ta) (qT K ss) := fun H1 Q e t q => ha H1 _ e t fun H2 x e2 t2 hx => by
  obtain ⟨D, xs, rfl, hD, hs⟩ := hx
  refine ⟨D, xs, rfl, .inl ⟨SqL.of hD, fun l hl => ?_⟩⟩
  have s := same_upd (o := .tup xs) hl
  exact q _ _ (e2.trans (ExtN.same s)) (t2.ext s) ⟨l, xs, rfl, .inl (.inl upd_same), hs.same s⟩
theorem yMkR {ss : List Str2} {E : XK} (ha : Yd T σ H ta fun H z => ∃ D xs, z = .ref D ∧ H D = some (.lst xs) ∧ Strs K H xs ss) (nf : NF ss) (few : ss.length ≤ 40) : Yd T σ H (tMake CR (spInit K T CR CE) [] E (tCons ta tNil)) (qR K CR ss) := fun H1 Q e t q => ha H1 _ e t fun H2 x e2 t2 hx => by
  obtain ⟨D, xs, rfl, hD, hs⟩ := hx
  intro a dx na nd ne
  exact rngA (R := fun H2 => Q (.ref a) H2) t2 (.inl (SqL.of hD)) (by rw [hs.len]; exact few) hs nf.ok na nd fun H' ss' e9 T' hR pm pw => by
    rw [fold_same nf pm pw] at hR
    exact q H' _ (e2.trans e9) T' hR
/-- tuples of versions -/
theorem yNeTs {us : List Ver} (ha : Yd T σ H ta fun H x => TsAt K H x us) (hb : Yd T σ H tb fun H x => TsAt K H x us) : Yd T σ H (tOp (rNeD K) ta tb) (qB false) := fun H1 Q e t q =>
  ha H1 _ e t fun H2 x e2 t2 hx => hb H2 _ (e.trans e2) t2 fun H3 y e3 t3 hy => by
    obtain ⟨a, ks, rfl, h1, h2, h3⟩ := hx.ext e3
    obtain ⟨b, js, rfl, g1, g2, g3⟩ := hy
    have d1 : Dp K H3 (.ref a) (.tuple (us.map verD)) := by rw [← h3]; exact .tup h1 (dp_verL ks h2)
    have d2 : Dp K H3 (.ref b) (.tuple (us.map verD)) := by rw [← g3]; exact .tup g1 (dp_verL js g2)
    refine ⟨_, _, d1, d2, shaped_tupV us, shaped_tupV us, ?_⟩
    have cl : PyData.canLay0 (.tuple (us.map verD)) = true := by
      have z := shaped_tupV us
      simp only [SeqAt.shaped, Bool.and_eq_true] at z
      exact z.1
    rw [PySem.SeqAt.eqv_refl _ cl]
    exact q H3 _ (e2.trans e3) t3 rfl
theorem yTurns {x y : V} {m j : Nat} (hm : σ[m]? = some (some x)) (hj : σ[j]? = some (some y)) (hx : LsAt K H x i) (hy : LsAt K H y o) (few : i.length + o.length < 64) (ap : touchB i o = false) : Yd T σ H (tCall (spLTurns K) [] E0 (tCons (tVar m) (tCons (tVar j) tNil))) fun H z => TsAt K H z (turnsV (partN i o) o) := fun H1 Q e t q =>
  ⟨_, hm, _, hj, x, y, i, o, rfl, hx.ext e, hy.ext e, few, ap, fun H2 z s hz => q H2 z (ExtN.same s) (t.ext s) hz⟩
/-- max(0, 2 * len(..) - 1) -/
theorem yMax0 {n : Int} (ha : Yd T σ H ta (qI n)) : Yd T σ H (tCB (fun xs H Q => ∃ i j, xs = [.int i, .int j] ∧ Q (.int (if j > i then j else i)) H) (tCons (tC (.int 0)) (tCons (tOp (rI0 fun i j => .int (i - j)) (tOp (rI CMul fun i j => .int (i * j)) (tC (.int 2)) ta) (tC (.int 1))) tNil))) (qI (if 2 * n - 1 > 0 then 2 * n - 1 else 0)) := fun H1 Q e t q => ha H1 _ e t fun H2 x e2 t2 hx => by
  obtain rfl : x = .int n := hx
  exact ⟨2, n, rfl, rfl, .inl ⟨by decide, by decide⟩, 2 * n, 1, rfl, rfl, 0, 2 * n - 1, rfl, q H2 _ e2 t2 rfl⟩
end
end Kw
set_option maxHeartbeats 6000000
namespace Kw
open PySem PySem.Spec PyProof.Rows L2 LamX SX
/-! ### the law's text -/
abbrev sLaw7 : Stmt := top 51
abbrev nL7 : List Str := ["_law_script", "_law_state", "_law_turn", "_law_some", "_law_cut", "_law_inside", "_law_outside", "_law_is_apart", "_law_told", "_law_again", "_law_version_here"]
theorem scL7 : FnScope nL7 ["_law_script"] (defScope sLaw7) := ⟨rfl, rfl, rfl, by decide +kernel, rfl, by decide +kernel, by decide +kernel⟩
section
variable {P : Program} {w : World} {K : PySem.W.Frag} {mg : Str → Option Value} {base : Heap}
theorem ok_law7 {f cd CR CE CX CB : Addr} {fd : FuncData} {k : Nat} {T : List (Addr × Str)} (ml : mg "len" = none) (mr : mg "range" = none) (mm : mg "min" = none) (mx : mg "max" = none) (mt : mg "tuple" = none) (mi : mg "int" = none)
    (DB : Def P w K mg base "_law_begun" CX0 k ["_law_script"] (spBegun K)) (DY : Def P w K mg base "_law_many_right" CX0 k [] (spTrue T)) (DSh : Def P w K mg base "_law_shuffled" CX0 k ["_law_state", "_law_some"] (spShufV K)) (DVs : Def P w K mg base "_law_versions" CX0 k ["_law_state", "_law_many"] (spVersions K)) (DV : Def P w K mg base "_law_version" CX0 k ["_law_state"] (spVersion K))
    (DD : Def P w K mg base "_law_draw" CX0 k ["_law_state", "_law_size"] spDraw) (DPk : Def P w K mg base "_law_pick" CX0 k ["_law_state", "_law_some"] spPick) (DLR : Def P w K mg base "_law_runs" CX0 k ["_law_inside", "_law_outside"] (spLRuns K)) (DLT : Def P w K mg base "_law_turns" CX0 k ["_law_inside", "_law_outside"] (spLTurns K))
    (DJ : DefG P w K mg base "_law_judged_right" k ["_law_state", "_law_some", "_law_inside", "_law_outside", "_law_told"] (spJudged K T)) (M : RangeMk P w K mg base CR CE T k) (G : RangeGet P w K mg base CR k) (HA : RangeHas P w K mg base CR k) (R : ROps P w K mg base CR CX k)
    (DPt : DefX P w K mg base "parting" k ["inside", "outside"] (spParting K T CR CB)) (DWp : DefX P w K mg base "widest_parting" k ["inside", "outside"] (spWidest K T CR CB)) (DAl : DefX P w K mg base "alternation" k ["inside", "outside"] (spAlt K T CB))
    (DPw : DefW P w K mg base "parting" (L2.CX P w) k "inside" "outside" (spParting K T CR CB)) (DWw : DefW P w K mg base "widest_parting" (L2.CX P w) k "inside" "outside" (spWidest K T CR CB)) (DAw : DefW P w K mg base "alternation" (L2.CX P w) k "inside" "outside" (spAlt K T CB)) (F : FunC K "law" "law" sLaw7 f fd cd) :
    FnOkG P w K mg base CX0 (k + 4) f fd ["_law_script"] (spLaw K T) := by
  refine F.okG scL7 (fun vs H Q E h => ?_) (fun A outer s H vs Q E hg hr h => ?_)
  · obtain ⟨a, ns, rfl, _⟩ := h
    rfl
  · obtain ⟨a, ns, rfl, hA, hlen, hT, q⟩ := h
    have hk := hr.mono (show k ≤ k + 3 by omega)
    have hk1 := hr.mono (show k + 1 ≤ k + 3 by omega)
    have hk2 := hr.mono (show k + 2 ≤ k + 3 by omega)
    refine' ⟨_, pss_cons ?s1 (pss_cons ?s2 (pss_cons (ps_for PassesOwn.never rfl ?it (pg_name (i := 2) scL7.nd rfl (.inl rfl)) (pss_cons ?la (pss_cons ?lb (pss_cons ?lc (pss_cons ?ld (pss_cons ?le (pss_cons ?lf (pss_cons ?lg (pss_cons ?lh (pss_cons ?li (pss_cons ?lj (pss_cons ?lk (pss_cons ?ll (pss_cons ?lm (pss_one ?ln))))))))))))))) (pss_one (ps_ret pe_bl)))), ?_⟩
    case s1 => exact ps_set (i := 1) scL7.nd rfl (.inl rfl) (pe_d DB hk (pa_cons (pv 0) pa_nil))
    case s2 => exact ps_if (pt_not (pt_val (pe_d0 DY hk))) (pss_one (ps_ret pe_bl)) pss_nil
    case it => exact pi_range1 rfl mr (pa_cons (pe_op op_add pe_int (pe_callB (call_min2 rfl) (by rfl) mm boot_min (pa_cons (pe_callB call_len_seq (by rfl) ml PySem.boot_len (pa_cons (pv 0) pa_nil)) (pa_cons pe_int pa_nil)))) pa_nil)
    case la => exact ps_set (i := 3) scL7.nd rfl (.inl rfl) (pe_d DSh hk (pa_cons (pv 1) (pa_cons (pe_op op_cat (pe_d DVs hk (pa_cons (pv 1) (pa_cons pe_int pa_nil))) (pe_lst (pa_cons (pe_d DV hk (pa_cons (pv 1) pa_nil)) pa_nil))) pa_nil)))
    case lb => exact ps_set (i := 4) scL7.nd rfl (.inl rfl) (pe_d DD hk (pa_cons (pv 1) (pa_cons pe_int pa_nil)))
    case lc => exact ps_asg (pe_tup (pa_cons (pe_slice sl_list (pv 3) po_none (po_some (pv 4))) (pa_cons (pe_slice sl_list (pv 3) (po_some (pv 4)) (po_some (pe_d DPk hk (pa_cons (pv 1) (pa_cons (pe_lst (pa_cons (pv 4) (pa_cons pe_int (pa_cons pe_int pa_nil)))) pa_nil))))) pa_nil))) (pg_tup rfl (pgs_cons (pg_name (i := 5) scL7.nd rfl (.inr rfl)) (pgs_cons (pg_name (i := 6) scL7.nd rfl (.inr rfl)) pgs_nil)))
    case ld => exact ps_set (i := 6) scL7.nd rfl (.inr rfl) (pe_op op_cat (pe_lc (own := [("_law_version_here", 10)]) (g := gName 10) (te := tVar 10) (tt := tTest (tOp (rNotInV K) (tVar 10) (tVar 5))) rfl scL7.nd (pi_list (pv 6)) (blkOk_by (N := nL7) (sc := defScope sLaw7) (by decide +kernel)) (fun _ _ _ _ _ => pg_name (i := 10) scL7.nd rfl (Or.inl rfl)) (fun _ _ _ _ _ => pts_one (pt_cmpR (op_notInV (un65 hr)) (pv 10) (pv 5) rfl)) (fun _ _ _ _ _ => pv 10))
        (pe_slice sl_list (pv 5) po_none (po_some (pe_callTy call_int1 (by rfl) mi (by decide +kernel) (pa_cons (pe_cmpR op_eq (pe_d DD hk (pa_cons (pv 1) (pa_cons pe_int pa_nil))) pe_int (nomark _)) pa_nil)))))
    case le => exact ps_set (i := 7) scL7.nd rfl (.inl rfl) (pe_cmpR (op_eqD hr.units) (pe_lc (own := [("_law_version_here", 10)]) (g := gName 10) (te := tVar 10) (tt := tTest (tOp (rInV K) (tVar 10) (tVar 6))) rfl scL7.nd (pi_list (pv 5)) (blkOk_by (N := nL7) (sc := defScope sLaw7) (by decide +kernel)) (fun _ _ _ _ _ => pg_name (i := 10) scL7.nd rfl (Or.inl rfl)) (fun _ _ _ _ _ => pts_one (pt_cmpR (op_inV (un65 hr)) (pv 10) (pv 6) rfl)) (fun _ _ _ _ _ => pv 10)) (pe_lst pa_nil) (nomark _))
    case lf => exact ps_set (i := 8) scL7.nd rfl (.inr rfl) (pe_lst (pa_cons (pe_dP DPt hk (pa_cons (pv 5) (pa_cons (pv 6) pa_nil))) (pa_cons (pe_dP DWp hk (pa_cons (pv 5) (pa_cons (pv 6) pa_nil))) (pa_cons (pe_dP DAl hk (pa_cons (pv 5) (pa_cons (pv 6) pa_nil))) pa_nil))))
    case lg => exact ps_set (i := 9) scL7.nd rfl (.inl rfl) (pe_lst (pa_cons (pe_dW DPw hk passL (pe_callTy call_tuple_of (by rfl) mt (by decide +kernel) (pa_cons (pv 6) pa_nil)) (pe_callTy call_tuple_of (by rfl) mt (by decide +kernel) (pa_cons (pv 5) pa_nil))) (pa_cons (pe_dW DWw hk passL (pv 6) (pv 5)) pa_nil)))
    case lh => exact ps_if (pt_cmpR (op_neL mon_told (eqG_told R) hr) (pe_op op_cat (pv 9) (pe_lst (pa_cons (pe_dW DAw hk passL (pv 6) (pv 5)) pa_nil))) (pv 8) (nomark _)) (pss_one (ps_ret pe_bl)) pss_nil
    case li => exact ps_if (pt_not (pt_val (pv 7))) (pss_cons (ps_if (pt_cmpR (op_neD hr.units) (pv 8) (pe_lst (pa_cons pe_non (pa_cons pe_non (pa_cons pe_non pa_nil)))) (nomark _)) (pss_one (ps_ret pe_bl)) pss_nil) (pss_one ps_continue)) pss_nil
    case lj => exact ps_if (PW.pt (pw_or (pt_cmpR (op_neD hr.units) (pe_stretches G hk1 (pe_ix (r := rIxL K) ix_list (pv 8) pe_int (fun _ _ => rfl))) (pe_callTy call_tuple_of (by rfl) mt (by decide +kernel) (pa_cons (pe_d DLR hk (pa_cons (pv 5) (pa_cons (pv 6) pa_nil))) pa_nil)) (nomark _))
        (pw_or1 (pt_cmpR (op_neG R hk1) (pe_ix (r := rIxL K) ix_list (pv 8) pe_int (fun _ _ => rfl)) (pe_un (un_invG R hk passL) (pe_rng M hk1 passL (pa_cons (pe_d DLR hk (pa_cons (pv 6) (pa_cons (pv 5) pa_nil))) pa_nil))) (nomark _))))) (pss_one (ps_ret pe_bl)) pss_nil
    case lk => exact ps_if (pt_cmpR (op_neD hr.units) (pe_lc (own := [("_law_version_here", 10)]) (g := gName 10) (te := tVar 10) (tt := tOr (tTest (tOp (rOwnNin CR (spHasR K CR) E0) (tVar 10) (tOp (rIxL K) (tVar 8) (tC (.int 0))))) (tTest (tOp (rOwnNin CR (spHasR K CR) E0) (tVar 10) (tOp (rIxL K) (tVar 8) (tC (.int 1)))))) rfl scL7.nd (pi_list (pv 5)) (blkOk_by (N := nL7) (sc := defScope sLaw7) (by decide +kernel)) (fun _ _ _ _ _ => pg_name (i := 10) scL7.nd rfl (Or.inl rfl))
        (fun _ _ _ _ _ => pts_one (PW.pt (pw_or (pt_cmpR (op_ninR HA hk) (pv 10) (pe_ix (r := rIxL K) ix_list (pv 8) pe_int (fun _ _ => rfl)) rfl) (pw_or1 (pt_cmpR (op_ninR HA hk) (pv 10) (pe_ix (r := rIxL K) ix_list (pv 8) pe_int (fun _ _ => rfl)) rfl))))) (fun _ _ _ _ _ => pv 10)) (pe_lst pa_nil) (nomark _)) (pss_one (ps_ret pe_bl)) pss_nil
    case ll => exact ps_if (pt_cmpR (op_neD hr.units) (pe_lc (own := [("_law_version_here", 10)]) (g := gName 10) (te := tVar 10) (tt := tOr (tTest (tOp (rOwnIn CR (spHasR K CR) E0) (tVar 10) (tOp (rIxL K) (tVar 8) (tC (.int 0))))) (tTest (tOp (rOwnIn CR (spHasR K CR) E0) (tVar 10) (tOp (rIxL K) (tVar 8) (tC (.int 1)))))) rfl scL7.nd (pi_list (pv 6)) (blkOk_by (N := nL7) (sc := defScope sLaw7) (by decide +kernel)) (fun _ _ _ _ _ => pg_name (i := 10) scL7.nd rfl (Or.inl rfl))
        (fun _ _ _ _ _ => pts_one (PW.pt (pw_or (pt_cmpR (op_inR HA hk) (pv 10) (pe_ix (r := rIxL K) ix_list (pv 8) pe_int (fun _ _ => rfl)) rfl) (pw_or1 (pt_cmpR (op_inR HA hk) (pv 10) (pe_ix (r := rIxL K) ix_list (pv 8) pe_int (fun _ _ => rfl)) rfl))))) (fun _ _ _ _ _ => pv 10)) (pe_lst pa_nil) (nomark _)) (pss_one (ps_ret pe_bl)) pss_nil
    case lm => exact ps_if (PW.pt (pw_or (pt_cmpR (op_neD hr.units) (pe_ix (r := rIxL K) ix_list (pv 8) pe_int (fun _ _ => rfl)) (pe_d DLT hk (pa_cons (pv 5) (pa_cons (pv 6) pa_nil))) (nomark _))
        (pw_or1 (pt_cmpR op_ne (pe_callB call_len_seq (by rfl) ml PySem.boot_len (pa_cons (pe_ix (r := rIxL K) ix_list (pv 8) pe_int (fun _ _ => rfl)) pa_nil)) (pe_callB (call_max2 rfl) (by rfl) mx (by decide +kernel) (pa_cons pe_int (pa_cons (pe_op op_sub (pe_op op_mul pe_int (pe_callB call_len_seq (by rfl) ml PySem.boot_len (pa_cons (pe_stretches G hk1 (pe_ix (r := rIxL K) ix_list (pv 8) pe_int (fun _ _ => rfl))) pa_nil))) pe_int) pa_nil))) (nomark _))))) (pss_one (ps_ret pe_bl)) pss_nil
    case ln => exact ps_if (pt_not (pt_val (pe_dG DJ hg hk (pa_cons (pv 1) (pa_cons (pv 3) (pa_cons (pv 5) (pa_cons (pv 6) (pa_cons (pe_ix (r := rIxL K) ix_list (pv 8) pe_int (fun _ _ => rfl)) pa_nil)))))))) (pss_one (ps_ret pe_bl)) pss_nil
    refine ⟨_, rfl, a, ns, rfl, hA, hlen, fun H1 d wl c S0 s1 nd nw nc => ?_⟩
    dsimp only [tSeq, tAsg, tRet, tIfS, gName]
    refine useT (b := false) (hT.ext s1) (fun H2 e2 T2 => iteF ?_) ((tNot' (tb yTrue)).is rfl)
    have hm : ∃ m : Nat, m ≤ 12 ∧ (2 : Int) + (if (10 : Int) < ((ns.map V.int).length : Int) then (10 : Int) else ((ns.map V.int).length : Int)) = (m : Int) := by
      rw [List.length_map]
      by_cases h8 : (10 : Int) < (ns.length : Int)
      · exact ⟨12, by omega, by rw [if_pos h8]; rfl⟩
      · exact ⟨2 + ns.length, by omega, by rw [if_neg h8]; omega⟩
    obtain ⟨m, hm10, em⟩ := hm
    refine ⟨_, rfl, a, _, rfl, .inl (e2.sqL (s1.seq hA)), _, _, rfl, _, _, rfl, rfl, (m : Int), congrArg (fun z => [V.int z]) em, by omega, by omega, ?_⟩
    refine for_range (lo := 0) (n := (m : Int).toNat) (fun i σ H' => ∃ y2 y3 y4 y5 y6 y7 y8 y9 y10 : Option V, σ = [some (.ref a), some (.ref d), y2, y3, y4, y5, y6, y7, y8, y9, y10] ∧ StAt H' d wl c (160 * i) ∧ Tabs T H')
      ⟨none, none, none, none, none, none, none, none, none, rfl, (S0.ext e2).mono (by simp), T2⟩ ?_ ?_
    · rintro j σ H3 hj ⟨y2, y3, y4, y5, y6, y7, y8, y9, y10, rfl, S3, T3⟩
      rw [Int.toNat_natCast] at hj
      dsimp only [gName, tSeq, tAsg]
      -- some
      refine ⟨_, rfl, _, rfl, d, wl, c, 160 * j, rfl, S3, by omega, fun H4 p ks np hp hk4 bk lk S4 F4 => ?_⟩
      refine ⟨_, rfl, d, wl, c, 160 * j + 30, rfl, S4, by omega, fun H5 p5 v ov v1 v2 v3' np5 hp5 S5 F5 => ?_⟩
      refine ⟨by show 1 ≤ sizeLine; decide, fun l6 hl6 => ?_⟩
      have s6 := same_upd (o := .lst [.ref p5]) hl6
      have npw := (S3.ne np).2.1.symm
      have hp4 := s6 _ _ (F5.lst S4 hp npw)
      have g6 : (upd H5 l6 (.lst [.ref p5])) l6 = some (.lst [.ref p5]) := upd_same
      have hv6 := s6 _ _ hp5
      have hk6 := (ks_fr hk4 S4 F5).same s6
      have S6 := S5.same s6
      have F36 := (F4.trans F5).trans (.ofSame s6)
      generalize upd H5 l6 (.lst [.ref p5]) = H6 at hp4 g6 hv6 hk6 S6 F36
      refine ⟨p, l6, rf ks, [.ref p5], rfl, rfl, hp4, g6, by rw [List.length_map, lk, sizeLine_eq]; show 7 + 1 ≤ 16777216; decide, fun p7 hp7 => ?_⟩
      have s7 := same_upd (o := .lst (rf ks ++ [.ref p5])) hp7
      have n7 := (S6.ne hp7).2.1.symm
      have g7 : (upd H6 p7 (.lst (rf ks ++ [.ref p5]))) p7 = some (.lst (rf (ks ++ [(p5, v)]))) := by rw [upd_same]; simp
      have S7 := S6.same s7
      have k7 : KsOk K (upd H6 p7 (.lst (rf ks ++ [.ref p5]))) (ks ++ [(p5, v)]) := KsOk.app (hk6.same s7) (KsOk.one (.inl (.inl (s7 _ _ hv6))) ov)
      have F37 := F36.trans (.ofSame s7)
      generalize upd H6 p7 (.lst (rf ks ++ [.ref p5])) = H7 at g7 S7 k7 F37
      refine ⟨d, wl, c, 160 * j + 30 + 3, p7, ks ++ [(p5, v)], rfl, S7, by omega, g7, n7, k7, by rw [List.length_append, lk]; show 7 + 1 ≤ 10; decide, fun H8 p8 k8 np8 hp8 hk8 pm S8 F8 => ?_⟩
      have l8 : k8.length = 8 := by rw [pm.length_eq, List.length_append, lk]; rfl
      have b8 : ∀ r ∈ k8, botV 100 r.2 := fun r hr => by
        rcases List.mem_append.mp (pm.mem_iff.mp hr) with h | h
        · exact (bk r h).up (by decide)
        · rw [List.mem_singleton.mp h]
          exact ⟨by show v.1 ≤ 100; omega, by show v.2.1 ≤ 100; omega, by show v.2.2 ≤ 100; omega⟩
      have n8 := (S7.ne np8).2.1.symm
      -- cut
      refine ⟨_, rfl, d, wl, c, 160 * j + 30 + 3 + 10, 7, rfl, S8, by omega, by decide, by decide, fun H9 z z0 z7 S9 F9 => ?_⟩
      have hp9 := F9.lst S8 hp8 n8
      have hk9 := ks_fr hk8 S8 F9
      -- inside, outside
      refine ⟨_, rfl, _, rfl, z, rfl, p8, rf k8, rfl, SqL.of hp9, fun pi hpi => ?_⟩
      obtain ⟨ki, ei, subi, leni⟩ := cut_ks k8 none (some z)
      rw [ei]
      have sA := same_upd (o := .lst (rf ki)) hpi
      have gA : (upd H9 pi (.lst (rf ki))) pi = some (.lst (rf ki)) := upd_same
      have SA := S9.same sA
      have npi := (S9.ne hpi).2.1.symm
      have hpA := sA _ _ hp9
      have hkA := hk9.same sA
      generalize upd H9 pi (.lst (rf ki)) = HA at sA gA SA hpA hkA
      refine ⟨_, rfl, _, rfl, z, rfl, _, rfl, _, rfl, by show 3 ≤ sizeLine; decide, fun lB hlB => ?_⟩
      have sB := same_upd (o := .lst [.int z, .int 6, .int 8]) hlB
      refine ⟨d, wl, c, 160 * j + 30 + 3 + 10 + 1, lB, _, rfl, SA.same sB, by omega, upd_same, (SA.ne hlB).2.1.symm, by simp, by simp, fun HC n w' hw SC FC => ?_⟩
      have FAC := (Fr2.ofSame (a := d) (b := wl) sB).trans FC
      obtain ⟨e, rfl⟩ : ∃ e : Int, w' = .int e := by
        match n with
        | 0 => cases hw; exact ⟨_, rfl⟩
        | 1 => cases hw; exact ⟨_, rfl⟩
        | 2 => cases hw; exact ⟨_, rfl⟩
        | n + 3 => simp at hw
      have hpC := FAC.lst SA hpA n8
      have hkC := ks_fr hkA SA FAC
      have giC := FAC.lst SA gA npi
      refine ⟨e, rfl, p8, rf k8, rfl, SqL.of hpC, fun po hpo => ?_⟩
      obtain ⟨ko, eo, subo, leno⟩ := cut_ks k8 (some z) (some e)
      rw [eo]
      have sD := same_upd (o := .lst (rf ko)) hpo
      have gD : (upd HC po (.lst (rf ko))) po = some (.lst (rf ko)) := upd_same
      have SD := SC.same sD
      have npo := (SC.ne hpo).2.1.symm
      have hpD := sD _ _ hpC
      have hkD := hkC.same sD
      have giD := sD _ _ giC
      generalize upd HC po (.lst (rf ko)) = HD at sD gD SD hpD hkD giD
      refine ⟨by show 2 ≤ sizeLine; decide, fun tE htE => ?_⟩
      have sE := same_upd (o := .tup [.ref pi, .ref po]) htE
      refine ⟨tE, [.ref pi, .ref po], rfl, .inl (.inl upd_same), rfl, _, _, rfl, _, _, rfl, rfl, ?_⟩
      have hpE := sE _ _ hpD
      have hkE := hkD.same sE
      have giE := sE _ _ giD
      have goE := sE _ _ gD
      have SE := SD.same sE
      have FE : Fr2 d wl H3 (upd HD tE (.tup [.ref pi, .ref po])) := (((F37.trans F8).trans F9).trans (.ofSame sA)).trans (FAC.trans (.ofSame (sD.trans sE)))
      generalize upd HD tE (.tup [.ref pi, .ref po]) = HE at hpE hkE giE goE SE FE
      have hiE : LsAt K HE (.ref pi) (ki.map (·.2)) := ⟨pi, ki, rfl, giE, fun r hr => hkE r (subi r hr), rfl⟩
      have hoE : LsAt K HE (.ref po) (ko.map (·.2)) := ⟨po, ko, rfl, goE, fun r hr => hkE r (subo r hr), rfl⟩
      -- outside again
      dsimp only [tSeq, tAsg, gName]
      show tLc (iList K (tVar 6)) (gName 10) (tTest (tOp (rNotInV K) (tVar 10) (tVar 5))) (tVar 10) [10] _ _ _
      refine lcFltN (f := fun v => !decide (v ∈ ki.map (·.2))) (fun R r => ⟨_, rfl, r⟩) hoE (by rw [List.length_map]; omega) (fun _ => rfl) (by show 10 < 11; decide) (fun r H' Q2 _ g _ s' q2 => ⟨_, rfl, _, rfl, r.2, _, ⟨r.1, rfl, g⟩, (hiE.same s').vs, _, rfl, q2 _ (Same.refl _)⟩) fun HF D kf sF nD hD hkf ef => ?_
      have lf : kf.length ≤ ko.length := by
        have z1 := congrArg List.length ef
        have z2 := List.length_filter_le (fun v => !decide (v ∈ ki.map (·.2))) (ko.map (·.2))
        rw [List.length_map] at z1
        rw [List.length_map] at z2
        omega
      have SF := SE.same sF
      refine ⟨_, rfl, _, rfl, d, wl, c, 160 * j + 30 + 3 + 10 + 1 + 1, 8, rfl, SF, by omega, by decide, by decide, fun HG z2 z20 z28 SG FG => ⟨rfl, .inr ⟨_, rfl, _, rfl, pi, rf ki, rfl, SqL.of (FG.lst SF (sF _ _ giE) npi), fun pH hpH => ?_⟩⟩⟩
      obtain ⟨kc, ec, subc, lenc⟩ := cut_ks ki none (some (if decide (V.int z2 = V.int 0) = true then 1 else 0))
      rw [ec]
      have sH := same_upd (o := .lst (rf kc)) hpH
      have gH : (upd HG pH (.lst (rf kc))) pH = some (.lst (rf kc)) := upd_same
      have FEH := (Fr2.ofSame (a := d) (b := wl) sF).trans (FG.trans (.ofSame sH))
      have SH := SG.same sH
      have nDw := (SE.ne nD).2.1.symm
      have hDH := FG.lst SF hD nDw
      have hDH := sH _ _ hDH
      have hkfH := (ks_fr hkf SF FG).same sH
      have hkH := ks_fr hkE SE FEH
      have giH := FEH.lst SE giE npi
      have hpH' := FEH.lst SE hpE n8
      have npH := (SG.ne hpH).2.1.symm
      generalize upd HG pH (.lst (rf kc)) = HH at gH FEH SH hDH hkfH hkH giH hpH'
      refine ⟨D, pH, rf kf, rf kc, rfl, rfl, hDH, gH, by rw [List.length_map, List.length_map, sizeLine_eq]; omega, fun pO hpO => ?_⟩
      have sI := same_upd (o := .lst (rf kf ++ rf kc)) hpO
      have gI : (upd HH pO (.lst (rf kf ++ rf kc))) pO = some (.lst (rf (kf ++ kc))) := by rw [upd_same]; simp
      have npO := (SH.ne hpO).2.1.symm
      have SI := SH.same sI
      have FI : Fr2 d wl H3 (upd HH pO (.lst (rf kf ++ rf kc))) := FE.trans (FEH.trans (.ofSame sI))
      have hoI : LsAt K (upd HH pO (.lst (rf kf ++ rf kc))) (.ref pO) ((kf ++ kc).map (·.2)) := ⟨pO, kf ++ kc, rfl, gI, KsOk.app (hkfH.same sI) fun r hr => (hkH.same sI) r (subi r (subc r hr)), rfl⟩
      have hiI : LsAt K (upd HH pO (.lst (rf kf ++ rf kc))) (.ref pi) (ki.map (·.2)) := ⟨pi, ki, rfl, sI _ _ giH, fun r hr => (hkH.same sI) r (subi r hr), rfl⟩
      have hsI : LsAt K (upd HH pO (.lst (rf kf ++ rf kc))) (.ref p8) (k8.map (·.2)) := ⟨p8, k8, rfl, sI _ _ hpH', hkH.same sI, rfl⟩
      have TI := Tabs.fr2 T3 S3 FI
      generalize upd HH pO (.lst (rf kf ++ rf kc)) = HI at gI SI FI hoI hiI hsI TI
      have bI : ∀ u ∈ k8.map (·.2) ++ (ki.map (·.2) ++ (kf ++ kc).map (·.2)), botV 100 u := fun u hu => by
        have mk : ∀ r ∈ k8, botV 100 r.2 := b8
        rcases List.mem_append.mp hu with h | h
        · obtain ⟨r, hr, rfl⟩ := List.mem_map.mp h
          exact mk r hr
        · rcases List.mem_append.mp h with h | h
          · obtain ⟨r, hr, rfl⟩ := List.mem_map.mp h
            exact mk r (subi r hr)
          · rw [List.map_append] at h
            rcases List.mem_append.mp h with h | h
            · rw [ef] at h
              obtain ⟨r, hr, rfl⟩ := List.mem_map.mp (List.mem_filter.mp h).1
              exact mk r (subo r hr)
            · obtain ⟨r, hr, rfl⟩ := List.mem_map.mp h
              exact mk r (subi r (subc r hr))
      have li : (ki.map (·.2)).length ≤ 8 := by rw [List.length_map]; omega
      have lo : ((kf ++ kc).map (·.2)).length ≤ 16 := by rw [List.length_map, List.length_append]; omega
      have ls : (k8.map (·.2)).length ≤ 10 := by rw [List.length_map]; omega
      have nIw : V.ref pi ≠ V.ref wl := fun y => npi (V.ref.inj y)
      have nOw : V.ref pO ≠ V.ref wl := fun y => npO (V.ref.inj y)
      have nSw : V.ref p8 ≠ V.ref wl := fun y => n8 (V.ref.inj y)
      generalize ki.map (·.2) = vi at hiI bI li
      generalize (kf ++ kc).map (·.2) = vo at hoI bI lo
      generalize k8.map (·.2) = vs at hsI bI ls
      generalize V.ref pi = xi at hiI nIw ⊢
      generalize V.ref pO = xo at hoI nOw ⊢
      generalize V.ref p8 = xs at hsI nSw ⊢
      have oki := hiI.vs.ok
      have oko := hoI.vs.ok
      show tLc (iList K (tVar 5)) (gName 10) (tTest (tOp (rInV K) (tVar 10) (tVar 6))) (tVar 10) [10] _ _ _
      refine lcFlt (f := fun v => decide (v ∈ vo)) (fun R r => ⟨_, rfl, r⟩) hiI (by omega) (fun _ => rfl) (by show 10 < 11; decide) (fun r H' Q2 _ g _ s' q2 => ⟨_, rfl, _, rfl, r.2, _, ⟨r.1, rfl, g⟩, (hoI.same s').vs, _, rfl, q2 _ (Same.refl _)⟩) fun HJ D2 kz sJ hD2 hkz ez => ?_
      refine ⟨Nat.zero_le _, fun lK hlK => ?_⟩
      have sK := same_upd (o := .lst []) hlK
      refine ⟨_, .list [], dp_ksL (SqL.of (sK _ _ hD2)) (hkz.same sK), .lst (SqL.of upd_same) .nil, shaped_versL _, shaped_nil, ?_⟩
      rw [eqv_versL, apart_is ez]
      have eK := ExtN.same (sJ.trans sK)
      have hiK := hiI.ext eK
      have hoK := hoI.ext eK
      have hsK := hsI.ext eK
      have SK := SI.ext eK
      have TK := (TI.ext sJ).ext sK
      generalize upd HJ lK (.lst []) = HK at hiK hoK hsK SK TK
      refine use TK (fun HL t8 eL TL told => ?_) (yL3 (ySd (yVs rfl hiK.vs) (yVs rfl hoK.vs) (by omega) (by omega)) (ySd (yVs rfl hiK.vs) (yVs rfl hoK.vs) (by omega) (by omega)) (ySd (yVs rfl hiK.vs) (yVs rfl hoK.vs) (by omega) (by omega)))
      have hiL := hiK.ext eL
      have hoL := hoK.ext eL
      refine use TL (fun HM t9 eM TM two => ?_) (yL2' (ySw (yTup rfl hoL) (yTup rfl hiL) (by omega) (by omega)) (ySw (yVs rfl hoL.vs) (yVs rfl hiL.vs) (by omega) (by omega)))
      have hiM := hiL.ext eM
      have hoM := hoL.ext eM
      dsimp only [tSeq, tAsg, gName, tIfS, tRet, tCont]
      refine useT (b := false) TM (fun HN eN TN => iteF ?_) (tt (yNeTold (yCat rfl two (ySw (yVs rfl hoM.vs) (yVs rfl hiM.vs) (by omega) (by omega))) rfl (told.ext eM)))
      dsimp only [L2.tNext]
      refine useT (b := touchB vi vo) TN (fun HO eO TO => ?_) ((tNot' (tb (c := !touchB vi vo) (yv rfl fun _ _ => rfl))).is (by simp))
      have eMO := (eM.trans eN).trans eO
      have SO := ((SK.ext eL).ext eMO)
      obtain ⟨lt, t0, t1, t2, rfl, hlt, d0, d1, d2⟩ := told.ext eMO
      have hiO := hiL.ext eMO
      have hoO := hoL.ext eMO
      have hsO := (hsK.ext eL).ext eMO
      cases cT : touchB vi vo with
      | true =>
        obtain rfl : t0 = .non := Sd.yes d0 cT
        obtain rfl : t1 = .non := Sd.yes d1 cT
        obtain rfl : t2 = .non := Sd.yes d2 cT
        refine iteT ⟨_, rfl, by show 3 ≤ sizeLine; decide, fun p3 hp3 => ?_⟩
        have sP := same_upd (o := .lst [.non, .non, .non]) hp3
        refine ⟨.list [.none, .none, .none], .list [.none, .none, .none], .lst (SqL.of (sP _ _ hlt)) (.cons .non (.cons .non (.cons .non .nil))), .lst (SqL.of upd_same) (.cons .non (.cons .non (.cons .non .nil))), by decide, by decide, false, by decide +kernel, iteF ?_⟩
        exact ⟨_, _, _, _, _, _, _, _, _, rfl, (SO.same sP).mono (by omega), TO.ext sP⟩
      | false =>
        obtain ⟨i0, l0⟩ := Sd.no d0 cT
        have i1 := Sd.no d1 cT
        have i2 := Sd.no d2 cT
        have ap := touch_apt cT
        have apo := touch_apt ((touch_comm vi vo).trans cT)
        have nfi := partN_nf ap oki
        have nfo := partN_nf apo oko
        have lpo := partN_short vo vi
        have lno := not_len nfo
        have ne1 : ∀ (x y : V) (H : Hp) (Q : VK) (d d' : PyData), Dp K H x d → Dp K H y d' → SeqAt.shaped d = true → SeqAt.shaped d' = true → Q (.bl (not (PyData.eqv d d'))) H → rNeD K x y H Q := fun x y H Q d d' a b c e f => ⟨d, d', a, b, c, e, f⟩
        have len1 : ∀ (p : Addr) (ys : List V) (H : Hp) (Q : VK), SqT K H p ys → Q (.int ys.length) H → ∃ q zs, [V.ref p] = [V.ref q] ∧ (SqL K H q zs ∨ SqT K H q zs) ∧ Q (.int zs.length) H := fun p ys H Q a b => ⟨p, ys, rfl, .inr a, b⟩
        refine iteF ?_
        dsimp only [L2.tNext]
        refine useT (b := false) TO (fun HP eP TP => iteF ?_) ((tOr' (tt (yTeq (g := not) (rNeD K) ne1 (yGet (yIx (n := 0) rfl hlt rfl fun H' e => i0.ext e)) (yRunsT (yRuns rfl rfl hiO hoO (by omega))))) (tt (yEq (g := not) (yIx (n := 1) rfl hlt rfl fun H' e => i1.ext e) (yNot (yMkR (yRuns rfl rfl hoO hiO (by omega)) nfo (by omega)) nfo (by omega))))).is (by simp))
        have hltP := eP _ _ hlt fun ps z => nomatch z
        obtain ⟨lI, kI, rfl, gI1, hI1, rfl⟩ := hiO.ext eP
        obtain ⟨lO, kO, rfl, gO1, hO1, rfl⟩ := hoO.ext eP
        refine useT (b := false) TP (fun HQ eQ TQ => iteF ?_) (tt (yNeE (yNone rfl (SqL.of gI1) (fun _ => rfl) fun y H' hy e => by
          obtain ⟨r, hr, rfl⟩ := List.mem_map.mp hy
          have mem : r.2 ∈ kI.map (·.2) := List.mem_map.mpr ⟨r, hr, rfl⟩
          exact (tOr' (tt (yNin (v := r.2) (yv rfl fun H2 e2 => ⟨_, rfl, (e.trans e2).sqT (hI1 r hr).1⟩) (yIx (n := 0) rfl (e _ _ hltP fun ps z => nomatch z) rfl fun H2 e2 => i0.ext ((eP.trans e).trans e2)) (hI1 r hr).2 (by omega))) (tt (yNin (v := r.2) (yv rfl fun H2 e2 => ⟨_, rfl, (e.trans e2).sqT (hI1 r hr).1⟩) (yIx (n := 1) rfl (e _ _ hltP fun ps z => nomatch z) rfl fun H2 e2 => i1.ext ((eP.trans e).trans e2)) (hI1 r hr).2 (by omega)))).is (by rw [partN_in ap mem, not_has nfo (hI1 r hr).2, partN_out apo mem]; rfl))))
        have hltQ := eQ _ _ hltP fun ps z => nomatch z
        have eOQ := eP.trans eQ
        refine useT (b := false) TQ (fun HR eR TR => iteF ?_) (tt (yNeE (yNone rfl (SqL.of (eQ _ _ gO1 fun ps z => nomatch z)) (fun _ => rfl) fun y H' hy e => by
          obtain ⟨r, hr, rfl⟩ := List.mem_map.mp hy
          have mem : r.2 ∈ kO.map (·.2) := List.mem_map.mpr ⟨r, hr, rfl⟩
          exact (tOr' (tt (yIn (v := r.2) (yv rfl fun H2 e2 => ⟨_, rfl, ((eQ.trans e).trans e2).sqT (hO1 r hr).1⟩) (yIx (n := 0) rfl (e _ _ hltQ fun ps z => nomatch z) rfl fun H2 e2 => i0.ext ((eOQ.trans e).trans e2)) (hO1 r hr).2 (by omega))) (tt (yIn (v := r.2) (yv rfl fun H2 e2 => ⟨_, rfl, ((eQ.trans e).trans e2).sqT (hO1 r hr).1⟩) (yIx (n := 1) rfl (e _ _ hltQ fun ps z => nomatch z) rfl fun H2 e2 => i1.ext ((eOQ.trans e).trans e2)) (hO1 r hr).2 (by omega)))).is (by rw [partN_out ap mem, not_has nfo (hO1 r hr).2, partN_in apo mem]; rfl))))
        have hltR := eR _ _ hltQ fun ps z => nomatch z
        have eOR := eOQ.trans eR
        refine useT (b := false) TR (fun HS eS TS => iteF ?_) ((tOr' (tt (yNeTs (yIx (n := 2) rfl hltR rfl fun H' e => i2.ext (eOR.trans e)) (yTurns rfl rfl (hiO.ext eOR) (hoO.ext eOR) (by omega) cT))) (tt (yNe (yLenT len1 (yIx (n := 2) rfl hltR rfl fun H' e => i2.ext (eOR.trans e))) (yMax0 (yLen len1 (yGet (yIx (n := 0) rfl hltR rfl fun H' e => i0.ext (eOR.trans e)))))))).is (by
          rw [turns_len, Bool.false_or, Bool.not_eq_false', decide_eq_true_eq]
          split <;> omega))
        have eOS := eOR.trans eS
        have hltS := eS _ _ hltR fun ps z => nomatch z
        have lt2 := turns_len (partN (kI.map (·.2)) (kO.map (·.2))) (kO.map (·.2))
        refine ⟨_, rfl, _, rfl, _, rfl, _, rfl, _, rfl, lt, [t0, t1, t2], ((2 : Nat) : Int), t2, rfl, rfl, SqL.of hltS, atI_nat rfl, d, wl, c, _, _, _, _, _, _, _, _, _, rfl, SO.ext eOS, by omega, hsO.ext eOS, hiO.ext eOS, hoO.ext eOS, i2.ext eOS, nSw, nIw, nOw, ls, by omega, by omega, by omega, fun v hv => ?_, TS, fun HT ST TT' => ?_⟩
        · rcases List.mem_append.mp hv with h | h
          · exact bI v h
          · exact turns_bot ap (by decide) (fun u hu => bI u (List.mem_append_right _ hu)) v h
        · exact ⟨true, rfl, iteF ⟨_, _, _, _, _, _, _, _, _, rfl, ST.mono (by omega), TT'⟩⟩
    · rintro σ H3 ⟨y2, y3, y4, y5, y6, y7, y8, y9, y10, rfl, S3, T3⟩
      exact q H3
end
end Kw
set_option maxHeartbeats 4000000
namespace Kw
open PySem PySem.Spec PyProof.Rows L2 LamX SX
/-! ### all together -/
/-- what Range's class has -/
structure RngF (K : PySem.W.Frag) (CR f0 f1 f2 f3 pp : Addr) : Prop where
  gR : PySem.W.nsIn K mainGlobals "Range" = some (some (.ref CR))
  pg : PySem.W.plainGet K CR Str.empty = true
  hd : PySem.W.hasDictIn K CR = true
  po : PySem.W.plainOver K CR = true
  sa : PySem.W.findIn K (.ref CR) "__setattr__" = some (some (.builtin "object.__setattr__"))
  nA : PySem.W.findIn K (.ref CR) "_stretches" = some none
  mkk : PySem.W.makesIn K CR = true
  a0 : PySem.W.findIn K (.ref CR) "__init__" = some (some (.ref f0))
  i0 : PySem.W.isFn K (.ref f0) = true
  kp : PySem.W.keepIn K (.ref CR) = true
  a1 : PySem.W.findIn K (.ref CR) "stretches" = some (some (.ref pp))
  a2 : PySem.W.findIn K (.ref CR) "__contains__" = some (some (.ref f2))
  i2 : PySem.W.isFn K (.ref f2) = true
  a3 : PySem.W.findIn K (.ref CR) "__eq__" = some (some (.ref f3))
  i3 : PySem.W.isFn K (.ref f3) = true
  ne : PySem.W.findIn K (.ref CR) "__ne__" = some (some (.builtin "object.__ne__"))
  ob : PySem.W.mroIn K CR (.type "object") = some true
  nT : PySem.W.notFirst K CR (.type "tuple") = true
  sp : PySem.W.specialIn K (.ref pp) "__get__" = some (some (.builtin "property.__get__"))
  tk : PySem.W.takesIn K (.ref pp) = some true
  kR : PySem.W.kitOne K (.ref CR) (.ref CR) = some true
  kT : PySem.W.kitOne K (.type "tuple") (.ref CR) = some false
  ha : PySem.W.findIn K (.ref CR) "__class__" = some (some (.builtin "object.__class__"))
/-- what an own error's class has -/
structure ErrF (K : PySem.W.Frag) (x : Str) (C CK : Addr) : Prop where
  gC : PySem.W.nsIn K mainGlobals x = some (some (.ref C))
  kC : PySem.W.keepIn K (.ref C) = true
  sub : PySem.W.subIn K (.ref C) (.type "BaseException") = some true
  ty : PySem.W.typeIn K (.ref C) = some (.type "type")
  hg : PySem.W.findIn K (.ref C) "__getattribute__" = some (some (.builtin "BaseException.__getattribute__"))
  hk : PySem.W.findIn K (.ref C) "__getattr__" = some none
  hd : PySem.W.hasDictIn K C = true
  ha : PySem.W.findIn K (.ref C) "__class__" = some (some (.builtin "object.__class__"))
  hn : PySem.W.specialIn K (.builtin "object.__class__") "__get__" = some (some (.builtin "getset_descriptor.__get__"))
  ht : PySem.W.takesIn K (.builtin "object.__class__") = some true
  hm : PySem.W.mroIn K C (.type "object") = some true
  kk : PySem.W.kitOne K (.ref C) (.ref C) = some true
  ex : PySem.W.exmOne K (.ref C) (.ref CK) = some true
theorem ErrF.c {K : PySem.W.Frag} {x : Str} {C CK : Addr} (e : ErrF K x C CK) : ExcC K C := ⟨e.hg, e.hk, e.sub, e.hd, e.ha, e.hn, e.ht, e.hm⟩
theorem ErrF.f {K : PySem.W.Frag} {x : Str} {C CK : Addr} (e : ErrF K x C CK) : XfC K C := ⟨e.hg, e.hk, e.sub, e.hd⟩
/-- a def that makes functions: its code object at c, the table at T -/
structure TabF (K : PySem.W.Frag) (h : Heap) (c T : Addr) : Prop where
  hd : PySem.W.codeHdIn K c T = true
  tab : h.get? T = some (PySem.W.tabObj #[])
  no : K.lookup T = none
/-- the further facts of Range and of Normal -/
structure OpF (K : PySem.W.Frag) (CR CN CX : Addr) (fa fo fs fi fN : Addr) : Prop where
  ba : BinF K CR fa "and"
  bo : BinF K CR fo "or"
  bs : BinF K CR fs "sub"
  vi : PySem.W.findIn K (.ref CR) "__invert__" = some (some (.ref fi))
  ii : PySem.W.isFn K (.ref fi) = true
  nf : ∀ T ∈ ["NoneType", "bool", "int", "str", "list", "tuple"], PySem.W.notFirst K CR (.type T) = true
  no : ∀ T ∈ ["NoneType", "bool", "int", "str", "list", "tuple"], PySem.W.kitOne K (.type T) (.ref CR) = some false
  pg : PySem.W.plainGet K CN Str.empty = true
  hd : PySem.W.hasDictIn K CN = true
  po : PySem.W.plainOver K CN = true
  sa : PySem.W.findIn K (.ref CN) "__setattr__" = some (some (.builtin "object.__setattr__"))
  nA : PySem.W.findIn K (.ref CN) "rows" = some none
  kN : PySem.W.kitOne K (.ref CN) (.ref CN) = some true
  ha : PySem.W.findIn K (.ref CN) "__class__" = some (some (.builtin "object.__class__"))
  ob : PySem.W.mroIn K CN (.type "object") = some true
  mkk : PySem.W.makesIn K CN = true
  a0 : PySem.W.findIn K (.ref CN) "__init__" = some (some (.ref fN))
  i0 : PySem.W.isFn K (.ref fN) = true
  kp : PySem.W.keepIn K (.ref CN) = true
section
variable {P : Program} {w : World} {K : PySem.W.Frag} {mg : Str → Option Value} {base : Heap}
theorem TD.defW {x p1 p2 : Str} {st : Stmt} {f cd : Addr} {CX : CXT} {k : Nat} {sp : Sp} (t : TD K x st f cd) (g : Glo K mg) (ok : ∀ fd, Fun K x x st f fd → FnOk P w K mg base CX k f fd [p1, p2] sp) (j : Nat) (hj : k ≤ j)
    (h : ∀ (kV doc pm : Value) (an : Option Addr) (cdv ct u v : Value), bindArgs (PySem.W.fnOf x x (defArgs st) (defBody st) (defScope st) .none kV doc pm an cdv ct) ⟨[], [(p2, v), (p1, u)]⟩ = pure [(p1, u), (p2, v)]) : DefW P w K mg base x CX j p1 p2 sp := by
  obtain ⟨fd, F⟩ := t.ex
  refine ⟨f, fd, (ok fd F.fn).mono hj, g.some_ _ _ t.gl, F.kp, fun s u v _ => ?_⟩
  obtain ⟨oc, od, kV, doc, pm, an, ct, osl, rfl, lk, hcd⟩ := F.ex
  exact .of_eq (h kV doc pm an _ ct u v)
theorem FnOkG.mono' {CX : CXT} {j k : Nat} {f : Addr} {fd : FuncData} {ps : List Str} {sp : Sp} (F : FnOkG P w K mg base CX j f fd ps sp) (h : j ≤ k) : FnOkG P w K mg base CX k f fd ps sp :=
  ⟨F.len, fun A outer s H args us vs Q E hg hr => F.run A outer s H args us vs Q E hg (hr.mono h)⟩
theorem TD.defG3 {x p q r : Str} {st : Stmt} {f cd : Addr} {k : Nat} {sp : Sp} (t : TD K x st f cd) (g : Glo K mg) (ok : ∀ fd, FunC K x x st f fd cd → FnOkG P w K mg base CX0 k f fd [p, q, r] sp) (j : Nat) (hj : k ≤ j)
    (h : ∀ (kV doc pm : Value) (an : Option Addr) (cdv ct u v y : Value), bindArgs (PySem.W.fnOf x x (defArgs st) (defBody st) (defScope st) .none kV doc pm an cdv ct) ⟨[u, v, y], []⟩ = pure [(p, u), (q, v), (r, y)]) : DefG P w K mg base x j [p, q, r] sp := by
  obtain ⟨fd, F⟩ := t.ex
  exact ⟨f, fd, (ok fd F).mono' hj, g.some_ _ _ t.gl, F.kp, F.fn.binds fun kV doc pm an cdv ct us hl => match us, hl with | [u, v, y], _ => h kV doc pm an cdv ct u v y⟩
theorem TD.defG5 {x p q r a b : Str} {st : Stmt} {f cd : Addr} {k : Nat} {sp : Sp} (t : TD K x st f cd) (g : Glo K mg) (ok : ∀ fd, FunC K x x st f fd cd → FnOkG P w K mg base CX0 k f fd [p, q, r, a, b] sp) (j : Nat) (hj : k ≤ j)
    (h : ∀ (kV doc pm : Value) (an : Option Addr) (cdv ct u v y d e : Value), bindArgs (PySem.W.fnOf x x (defArgs st) (defBody st) (defScope st) .none kV doc pm an cdv ct) ⟨[u, v, y, d, e], []⟩ = pure [(p, u), (q, v), (r, y), (a, d), (b, e)]) : DefG P w K mg base x j [p, q, r, a, b] sp := by
  obtain ⟨fd, F⟩ := t.ex
  exact ⟨f, fd, (ok fd F).mono' hj, g.some_ _ _ t.gl, F.kp, F.fn.binds fun kV doc pm an cdv ct us hl => match us, hl with | [u, v, y, d, e], _ => h kV doc pm an cdv ct u v y d e⟩
theorem TD.def3 {x p q r : Str} {st : Stmt} {f cd : Addr} {CX : CXT} {k : Nat} {sp : Sp} (t : TD K x st f cd) (g : Glo K mg) (ok : ∀ fd, Fun K x x st f fd → FnOk P w K mg base CX k f fd [p, q, r] sp) (j : Nat) (hj : k ≤ j)
    (h : ∀ (kV doc pm : Value) (an : Option Addr) (cdv ct u v y : Value), bindArgs (PySem.W.fnOf x x (defArgs st) (defBody st) (defScope st) .none kV doc pm an cdv ct) ⟨[u, v, y], []⟩ = pure [(p, u), (q, v), (r, y)]) : Def P w K mg base x CX j [p, q, r] sp := by
  obtain ⟨fd, F⟩ := t.ex
  exact ⟨f, fd, (ok fd F.fn).mono hj, g.some_ _ _ t.gl, F.kp, F.fn.binds fun kV doc pm an cdv ct us hl => match us, hl with | [u, v, y], _ => h kV doc pm an cdv ct u v y⟩
theorem TD.defW3 {x p1 p2 p3 : Str} {st : Stmt} {f cd : Addr} {CX : CXT} {k : Nat} {sp : Sp} (t : TD K x st f cd) (g : Glo K mg) (ok : ∀ fd, Fun K x x st f fd → FnOk P w K mg base CX k f fd [p1, p2, p3] sp) (j : Nat) (hj : k ≤ j)
    (h : ∀ (kV doc pm : Value) (an : Option Addr) (cdv ct u v y : Value), bindArgs (PySem.W.fnOf x x (defArgs st) (defBody st) (defScope st) .none kV doc pm an cdv ct) ⟨[], [(p3, y), (p2, v), (p1, u)]⟩ = pure [(p1, u), (p2, v), (p3, y)]) : DefW3 P w K mg base x CX j p1 p2 p3 sp := by
  obtain ⟨fd, F⟩ := t.ex
  refine ⟨f, fd, (ok fd F.fn).mono hj, g.some_ _ _ t.gl, F.kp, fun s u v y _ => ?_⟩
  obtain ⟨oc, od, kV, doc, pm, an, ct, osl, rfl, lk, hcd⟩ := F.ex
  exact .of_eq (h kV doc pm an _ ct u v y)
end
theorem all_law7 {K : PySem.W.Frag} {l : PySem.W.OpenLaw} {w : World} {h : Heap} {mg : Str → Option Value} {fa : Addr} (X : K.In h) (G : h.Ns mainGlobals mg) (hfa : mg "law" = some (.ref fa))
    {aBegun cBegun aStir cStir aDraw cDraw aPick cPick aShuf cShuf aVers cVers aLater cLater aVeri cVeri aCaug cCaug aRuns cRuns aTurn cTurn aIsTu cIsTu aJudg cJudg aMany cMany aLaw cLaw aIsVs cIsVs aChSd cChSd aRunO cRunO aPart cPart aWide cWide aAlte cAlte aRisi cRisi aIsAl cIsAl aChkV cChkV aNexV cNexV aLatE cLatE aEarE cEarE aNF cNF aCom cCom aBut cBut aIsNu cIsNu aIsLi cIsLi aTupO cTupO aIsVe cIsVe aChkR cChkR aIsSt cIsSt aChkS cChkS CR f0 f1 f2 f3 pp TI CE CX CV CB CK CN PN PL Z d0 fA fO fS fI fN : Addr}
    (dBegun : TD K "_law_begun" sBegun aBegun cBegun) (dStir : TD K "_law_stirred" sStirred aStir cStir) (dDraw : TD K "_law_draw" sDraw aDraw cDraw) (dPick : TD K "_law_pick" sPick aPick cPick) (dShuf : TD K "_law_shuffled" sShuf aShuf cShuf) (dVers : TD K "_law_version" sVersion aVers cVers) (dLater : TD K "_law_later" sLater aLater cLater) (dVeri : TD K "_law_versions" sVersions aVeri cVeri) (dCaug : TD K "_law_caught" sCaught aCaug cCaug) (dRuns : TD K "_law_runs" sLRuns aRuns cRuns) (dTurn : TD K "_law_turns" sLTurns aTurn cTurn) (dIsTu : TD K "_law_is_turns" sIsTurns aIsTu cIsTu) (dJudg : TD K "_law_judged_right" sJudged aJudg cJudg) (dMany : TD K "_law_many_right" sMany aMany cMany) (dLaw : TD K "law" sLaw7 aLaw cLaw) (dIsVs : TD K "is_versions" sIsVs aIsVs cIsVs) (dChSd : TD K "check_sides" sChkSd aChSd cChSd) (dRunO : TD K "runs_of" sRunsOf aRunO cRunO) (dPart : TD K "parting" sParting aPart cPart) (dWide : TD K "widest_parting" sWidest aWide cWide) (dAlte : TD K "alternation" sAlt aAlte cAlte) (dRisi : TD K "is_rising" sRising aRisi cRisi) (dIsAl : TD K "is_alternation" sIsAlt aIsAl cIsAl) (dChkV : TD K "check_version" sChkV aChkV cChkV) (dNexV : TD K "next_version" sNextV aNexV cNexV) (dLatE : TD K "later_end" sLaterE aLatE cLatE) (dEarE : TD K "earlier_end" sEarlyE aEarE cEarE) (dNF : TD K "normal_form" sNF aNF cNF) (dCom : TD K "common" sCom aCom cCom) (dBut : TD K "all_but" sBut aBut cBut) (dIsNu : TD K "is_number" sIsNum aIsNu cIsNu) (dIsLi : TD K "is_list" sIsList aIsLi cIsLi) (dTupO : TD K "is_tuple_of" sTupOf aTupO cTupO) (dIsVe : TD K "is_version" sIsVer aIsVe cIsVe) (dChkR : TD K "check_range" sChkR aChkR cChkR) (dIsSt : TD K "is_stretch" sIsStr aIsSt cIsSt) (dChkS : TD K "check_stretches" sChkS aChkS cChkS)
    (z_len : PySem.W.nsIn K mainGlobals "len" = some none) (z_range : PySem.W.nsIn K mainGlobals "range" = some none) (z_min : PySem.W.nsIn K mainGlobals "min" = some none) (z_max : PySem.W.nsIn K mainGlobals "max" = some none) (z_isinstance : PySem.W.nsIn K mainGlobals "isinstance" = some none) (z_tuple : PySem.W.nsIn K mainGlobals "tuple" = some none) (z_list : PySem.W.nsIn K mainGlobals "list" = some none) (z_set : PySem.W.nsIn K mainGlobals "set" = some none) (z_sorted : PySem.W.nsIn K mainGlobals "sorted" = some none) (z_enumerate : PySem.W.nsIn K mainGlobals "enumerate" = some none) (z_int : PySem.W.nsIn K mainGlobals "int" = some none) (z_bool : PySem.W.nsIn K mainGlobals "bool" = some none) (z_abs : PySem.W.nsIn K mainGlobals "abs" = some none) (z_all : PySem.W.nsIn K mainGlobals "all" = some none) (z_any : PySem.W.nsIn K mainGlobals "any" = some none) (z_super : PySem.W.nsIn K mainGlobals "super" = some none) (z_repr : PySem.W.nsIn K mainGlobals "repr" = some none) (z_zip : PySem.W.nsIn K mainGlobals "zip" = some none)
    {tM : Tok} (mM : PySem.W.nsIn K mainGlobals "MOST_STRETCHES" = some (some (.int 40 tM))) {tW : Tok} (mW : PySem.W.nsIn K mainGlobals "MOST_VERSIONS" = some (some (.int 40 tW)))
    (R : RngF K CR f0 f1 f2 f3 pp) {rest : List Value} (rc : PySem.W.recIn K pp "property" = some (.ref f1 :: rest))
    {oc0 kV0 doc0 pm0 cdv0 ct0 : Value} {od0 an0 : Option Addr} {osl0 : Array (Option Value)} (l0 : K.lookup f0 = some ⟨oc0, od0, .func (PySem.W.fnOf "__init__" "Range.__init__" (defArgs sInit) (defBody sInit) (defScope sInit) (.ref TI) kV0 doc0 pm0 an0 cdv0 ct0), osl0⟩) (c0 : PySem.W.codeIn K cdv0 "Range.__init__" = true)
    {oT : Obj} {nI : Nat} (lT : K.lookup TI = some oT) (sT : oT.data = .seq #[.ref d0] nI)
    {oZ : Obj} {tz1 tz2 tz3 : Tok} {nZ : Nat} (gZ : PySem.W.nsIn K mainGlobals "ZERO" = some (some (.ref Z))) (lZ : K.lookup Z = some oZ) (cZ : oZ.cls = .type "tuple") (sZ : oZ.data = .seq #[.int 0 tz1, .int 0 tz2, .int 0 tz3] nZ)
    (m1 : ∃ fd, Fun K "stretches" "Range.stretches" sGet f1 fd) (m2 : ∃ fd, Fun K "__contains__" "Range.__contains__" sHasR f2 fd) (m3 : ∃ fd, Fun K "__eq__" "Range.__eq__" sEqR f3 fd)
    (mA : ∃ fd, Fun K "__and__" "Range.__and__" sAnd fA fd) (mO : ∃ fd, Fun K "__or__" "Range.__or__" sOr fO fd) (mS : ∃ fd, Fun K "__sub__" "Range.__sub__" sSub fS fd) (mI : ∃ fd, Fun K "__invert__" "Range.__invert__" sInv fI fd) (mN : ∃ fd, Fun K "__init__" "Normal.__init__" sNorm fN fd) (O : OpF K CR CN CX fA fO fS fI fN)
    (gN : PySem.W.nsIn K mainGlobals "Normal" = some (some (.ref CN))) (noN : ∀ T ∈ ["NoneType", "bool", "int", "str", "dict", "list", "tuple"], PySem.W.kitOne K (.type T) (.ref CN) = some false)
    (gK : PySem.W.nsIn K mainGlobals "KitError" = some (some (.ref CK))) (eE : ErrF K "BadRange" CE CK) (eX : ErrF K "NotRange" CX CK) (xX : PySem.W.excIn K CX [.type "ValueError", .type "Exception", .type "BaseException", .type "object"] "ValueError.__new__" = true) (eV : ErrF K "BadVersion" CV CK) (xV : PySem.W.excIn K CV [.type "ValueError", .type "Exception", .type "BaseException", .type "object"] "ValueError.__new__" = true)
    (sup : ∃ (fI cc cd : Addr) (qual : Str), Ks.SupTxt l.prog K mg CE fI cc cd qual) (hno : PySem.W.findIn K (.ref CE) "at" = some none)
    (eB : ErrF K "BadVersions" CB CK) (supB : ∃ (fI cc cd : Addr) (qual : Str), Ksv.SupTxt l.prog K mg CB fI cc cd qual) (hnoB : PySem.W.findIn K (.ref CB) "part" = some none)
    (tN : TabF K h cNF PN) (tL' : TabF K h cJudg PL) (n2 : PN ≠ PL) : LawG l w K 16 mg fa h := by
  have g : Glo K mg := ⟨fun n v e => PySem.W.mg_of X G e, fun n e => PySem.W.mg_none_of X G e⟩
  have efa := hfa.symm.trans (g.some_ _ _ dLaw.gl)
  cases efa
  obtain ⟨fdL, FL⟩ := dLaw.ex
  obtain ⟨fdN, FN⟩ := dNF.ex
  obtain ⟨fd1, F1⟩ := m1
  obtain ⟨fd2, F2⟩ := m2
  obtain ⟨fd3, F3⟩ := m3
  obtain ⟨fdA, FA⟩ := mA
  obtain ⟨fdO', FO'⟩ := mO
  obtain ⟨fdS, FS⟩ := mS
  obtain ⟨fdI, FI⟩ := mI
  obtain ⟨fdM, FM⟩ := mN
  have cR : Cls K CR := ⟨R.pg, R.hd, R.po, R.sa⟩
  have cN : Cls K CN := ⟨O.pg, O.hd, O.po, O.sa⟩
  have mK := g.some_ _ _ gK
  have mE := g.some_ _ _ eE.gC
  have mX := g.some_ _ _ eX.gC
  have mV := g.some_ _ _ eV.gC
  have mB := g.some_ _ _ eB.gC
  have mR := g.some_ _ _ R.gR
  have mN' := g.some_ _ _ gN
  have mem : ∀ {p : Addr × Addr}, p ∈ [(cNF, PN), (cJudg, PL)] → p = (cNF, PN) ∨ p = (cJudg, PL) := fun hp => by simpa using hp
  have memB : ∀ {b : Addr}, b ∈ [(cNF, PN), (cJudg, PL)].map (·.2) → b = PN ∨ b = PL := fun hp => by simpa using hp
  refine ⟨fdL, [(cNF, PN), (cJudg, PL)], [(PN, ("normal_form" : Str) ++ ".<locals>." ++ "<lambda>"), (PL, ("_law_judged_right" : Str) ++ ".<locals>." ++ "<lambda>")], fun b hb => ?_, fun b hb => ?_, fun p hp => ?_, fun p hp => ?_, fun s u => ?_, fun base X' G' TB => ?_⟩
  · rcases memB hb with rfl | rfl
    · exact tN.tab
    · exact tL'.tab
  · rcases memB hb with rfl | rfl
    · exact tN.no
    · exact tL'.no
  · rcases mem hp with rfl | rfl
    · exact PySem.W.codeHd_of_K X tN.hd
    · exact PySem.W.codeHd_of_K X tL'.hd
  · simp only [List.mem_cons, List.not_mem_nil, or_false] at hp
    rcases hp with rfl | rfl <;> simp
  · obtain ⟨oc, od, kV, doc, pm, an, ct, osl, rfl, lk, hcd⟩ := FL.ex
    exact .of_eq rfl
  have bN := TB _ (List.mem_cons_self)
  have bL := TB (cJudg, PL) (by simp)
  have d1 : Def l.prog w K mg base "_law_stirred" CX0 1 ["_law_state"] spStirred := dStir.def1 g (fun fd F => ok_stirred (k := 0) F (g.none_ _ z_int)) 1 (by decide) fun _ _ _ _ _ _ _ => rfl
  have d2 : Def l.prog w K mg base "_law_draw" CX0 2 ["_law_state", "_law_size"] spDraw := dDraw.def2 g (fun fd F => ok_draw F (g.none_ _ z_int) d1) 2 (by decide) fun _ _ _ _ _ _ _ _ => rfl
  have d3 : Def l.prog w K mg base "_law_pick" CX0 3 ["_law_state", "_law_some"] spPick := dPick.def2 g (fun fd F => ok_pick F (g.none_ _ z_len) d2) 3 (by decide) fun _ _ _ _ _ _ _ _ => rfl
  have d4 : Def l.prog w K mg base "_law_version" CX0 4 ["_law_state"] (spVersion K) := dVers.def1 g (fun fd F => ok_version F (g.none_ _ z_tuple) (g.none_ _ z_range) d3) 4 (by decide) fun _ _ _ _ _ _ _ => rfl
  have d5 : Def l.prog w K mg base "_law_later" CX0 3 ["_law_state", "_law_version_here"] (spLaterB K) := dLater.def2 g (fun fd F => ok_laterB F d2) 3 (by decide) fun _ _ _ _ _ _ _ _ => rfl
  have d6 : Def l.prog w K mg base "_law_versions" CX0 5 ["_law_state", "_law_many"] (spVersions K) := dVeri.def2 g (fun fd F => ok_versions F (g.none_ _ z_range) d4 (d5.up (by decide))) 5 (by decide) fun _ _ _ _ _ _ _ _ => rfl
  have d7 : Def l.prog w K mg base "_law_shuffled" CX0 3 ["_law_state", "_law_some"] (spShufV K) := dShuf.def2 g (fun fd F => ok_shufV F (g.none_ _ z_list) (g.none_ _ z_len) d2) 3 (by decide) fun _ _ _ _ _ _ _ _ => rfl
  have d8 : Def l.prog w K mg base "_law_runs" CX0 1 ["_law_inside", "_law_outside"] (spLRuns K) := dRuns.def2 g (fun fd F => ok_lruns (k := 0) F (g.none_ _ z_sorted) (g.none_ _ z_set)) 1 (by decide) fun _ _ _ _ _ _ _ _ => rfl
  have d9 : Def l.prog w K mg base "_law_turns" CX0 2 ["_law_inside", "_law_outside"] (spLTurns K) := dTurn.def2 g (fun fd F => ok_lturns F (g.none_ _ z_min) (g.none_ _ z_tuple) d8) 2 (by decide) fun _ _ _ _ _ _ _ _ => rfl
  have d10 : DefG l.prog w K mg base "_law_is_turns" 8 ["_law_inside", "_law_outside", "_law_value"] (spIsTurns K) := dIsTu.defG3 g (fun fd F => ok_isTurns (k := 0) F (g.none_ _ z_isinstance) (g.none_ _ z_tuple) (g.none_ _ z_len) (g.none_ _ z_enumerate) (g.none_ _ z_repr)) 8 (by decide) fun _ _ _ _ _ _ _ _ _ => rfl
  have d18 : Def l.prog w K mg base "_law_begun" CX0 1 ["_law_script"] (spBegun K) := dBegun.def1 g (fun fd F => ok_begun (k := 0) F (g.none_ _ z_abs)) 1 (by decide) fun _ _ _ _ _ _ _ => rfl
  have e1 : Def l.prog w K mg base "is_number" CX0 1 ["value"] (spIsNum K) := dIsNu.def1 g (fun fd F => ok_isNum (k := 0) F (g.none_ _ z_isinstance) (g.none_ _ z_int) (g.none_ _ z_bool)) 1 (by decide) fun _ _ _ _ _ _ _ => rfl
  have e2 : Def l.prog w K mg base "is_tuple_of" CX0 1 ["value", "many"] (spTupOf K) := dTupO.def2 g (fun fd F => ok_tupOf (k := 0) F (g.none_ _ z_isinstance) (g.none_ _ z_tuple) (g.none_ _ z_len)) 1 (by decide) fun _ _ _ _ _ _ _ _ => rfl
  have oV : ∀ fd, Fun K "is_version" "is_version" sIsVer aIsVe fd → FnOk l.prog w K mg base CX0 2 aIsVe fd ["value"] (spVerB K) := fun fd F => (ok_isVer F (g.none_ _ z_all) e2 e1).imp verB_of
  have e3 : Def l.prog w K mg base "is_version" CX0 2 ["value"] (spVerB K) := dIsVe.def1 g oV 2 (by decide) fun _ _ _ _ _ _ _ => rfl
  have e5 : Def l.prog w K mg base "is_list" CX0 1 ["value"] (spIsList K) := dIsLi.def1 g (fun fd F => ok_isList (k := 0) F (g.none_ _ z_isinstance) (g.none_ _ z_list) (g.none_ _ z_tuple)) 1 (by decide) fun _ _ _ _ _ _ _ => rfl
  have e6 : Def l.prog w K mg base "is_stretch" CX0 3 ["value"] (spStrB K) := dIsSt.def1 g (fun fd F => ok_isStr F (e2.up (by decide)) e3) 3 (by decide) fun _ _ _ _ _ _ _ => rfl
  have e7 : Def l.prog w K mg base "later_end" CX0 1 ["one", "other"] (spLaterE K) := dLatE.def2 g (fun fd F => ok_laterE (k := 0) F (g.none_ _ z_max)) 1 (by decide) fun _ _ _ _ _ _ _ _ => rfl
  have own : OwnErr K mg "NotRange" CX := ⟨⟨_, _, _, _, PySem.F.excBase_ValueError, xX⟩, mX, eX.kC, eX.sub, eX.ty⟩
  have supE : SupErr l.prog K mg "BadRange" CE := ⟨sup, mE, eE.kC, eE.sub, eE.ty⟩
  have e10 : Def l.prog w K mg base "check_stretches" (L2.CX l.prog w) 4 ["stretches"] (spChkS K CE) := dChkS.def1 g (fun fd F => ok_chkS F supE (g.none_ _ z_len) (g.none_ _ z_enumerate) (g.some_ _ _ mM) (e5.up (by decide)) e6) 4 (by decide) fun _ _ _ _ _ _ _ => rfl
  generalize hTT : [(PN, ("normal_form" : Str) ++ ".<locals>." ++ "<lambda>"), (PL, ("_law_judged_right" : Str) ++ ".<locals>." ++ "<lambda>")] = TT
  have memT : ∀ p ∈ TT, p = (PN, ("normal_form" : Str) ++ ".<locals>." ++ "<lambda>") ∨ p = (PL, ("_law_judged_right" : Str) ++ ".<locals>." ++ "<lambda>") := fun p hp => by
    rw [← hTT] at hp
    simpa only [List.mem_cons, List.not_mem_nil, or_false] using hp
  have inN : (PN, ("normal_form" : Str) ++ ".<locals>." ++ "<lambda>") ∈ TT := by rw [← hTT]; exact List.mem_cons_self
  have inL : (PL, ("_law_judged_right" : Str) ++ ".<locals>." ++ "<lambda>") ∈ TT := by rw [← hTT]; exact List.mem_cons_of_mem _ List.mem_cons_self
  have huN : ∀ p ∈ TT, p.1 = PN → p.2 = ("normal_form" : Str) ++ ".<locals>." ++ "<lambda>" := fun p hp e => by
    rcases memT p hp with rfl | rfl
    · rfl
    · exact absurd e.symm n2
  have huL : ∀ p ∈ TT, p.1 = PL → p.2 = ("_law_judged_right" : Str) ++ ".<locals>." ++ "<lambda>" := fun p hp e => by
    rcases memT p hp with rfl | rfl
    · exact absurd e n2
    · rfl
  clear hTT memT
  have nf : Def l.prog w K mg base "normal_form" CX0 4 ["stretches"] (spNF K TT) := ⟨aNF, fdN, ok_nf (k := 0) FN (g.none_ _ z_sorted) (g.none_ _ z_tuple) bN inN huN (e7.up (by decide)), g.some_ _ _ dNF.gl, FN.kp, Binds1 FN.fn fun _ _ _ _ _ _ _ => rfl⟩
  have iOk := ok_init (k := 4) (T := TT) (CR := CR) (CE := CE) (P := l.prog) (w := w) (base := base) (mg := mg) ⟨⟨oc0, od0, .ref TI, kV0, doc0, pm0, an0, cdv0, ct0, osl0, rfl, l0, c0⟩⟩ (g.none_ _ z_isinstance) (g.some_ _ _ gN) cR R.nA noN e10.x nf
  have mk0 : Mk K CR f0 := ⟨R.mkk, R.a0, R.i0, R.kp⟩
  have M5 : RangeMk l.prog w K mg base CR CE TT 5 := ⟨⟨f0, _, iOk, mk0, init_binds rfl lT sT rfl⟩, mR⟩
  have M12 : RangeMk l.prog w K mg base CR CE TT 12 := ⟨⟨f0, _, iOk.mono (by decide), mk0, init_binds rfl lT sT rfl⟩, mR⟩
  have v1 : FunV K "stretches" "Range.stretches" sGet f1 fd1 := by
    obtain ⟨oc, od, kV, doc, pm, an, cdv, ct, osl, q1, q2, q3⟩ := F1.ex
    exact ⟨⟨oc, od, .none, kV, doc, pm, an, cdv, ct, osl, q1, q2, q3⟩⟩
  have G8 : RangeGet l.prog w K mg base CR 8 := ⟨⟨pp, f1, fd1, ⟨R.a1, R.sp, R.tk, ⟨rest, rc⟩⟩, (ok_getR (k := 0) v1 cR R.nA).mono (by decide), Binds1 F1 fun _ _ _ _ _ _ _ => rfl⟩, cR⟩
  have G12 : RangeGet l.prog w K mg base CR 12 := ⟨⟨pp, f1, fd1, ⟨R.a1, R.sp, R.tk, ⟨rest, rc⟩⟩, (ok_getR (k := 0) v1 cR R.nA).mono (by decide), Binds1 F1 fun _ _ _ _ _ _ _ => rfl⟩, cR⟩
  have H8 : RangeHas l.prog w K mg base CR 8 := ⟨⟨f2, fd2, (ok_hasR (k := 2) F2 (g.none_ _ z_any) cR R.nA e3).mono (by decide), R.a2, R.i2, Binds2 F2 fun _ _ _ _ _ _ _ _ => rfl⟩⟩
  have H12 : RangeHas l.prog w K mg base CR 12 := ⟨⟨f2, fd2, (ok_hasR (k := 2) F2 (g.none_ _ z_any) cR R.nA e3).mono (by decide), R.a2, R.i2, Binds2 F2 fun _ _ _ _ _ _ _ _ => rfl⟩⟩
  have rty : RTy K CR := ⟨fun H a dx fs e => .base (.ins e cR R.ha eE.hn eE.ht R.ob), R.kR, O.no⟩
  have hZ : ∀ H : Hp, IsVer K H (.ref Z) v000 := fun H => ⟨Z, rfl, .inr ⟨oZ, _, nZ, lZ, cZ, sZ, by show 3 ≤ sizeLine; decide, .cons ⟨_, rfl⟩ (.cons ⟨_, rfl⟩ (.cons ⟨_, rfl⟩ .nil))⟩⟩
  have dE := dEarE.def2 g (fun fd F => ok_earlyE (P := l.prog) (w := w) (base := base) (k := 0) F (g.none_ _ z_min)) 1 (by decide) fun _ _ _ _ _ _ _ _ => rfl
  have dC : Def l.prog w K mg base "common" CX0 6 ["ones", "others"] (spCom K) := dCom.def2 g (fun fd F => ok_com F (g.none_ _ z_len) (g.none_ _ z_max) (g.none_ _ z_tuple) dE) 6 (by decide) fun _ _ _ _ _ _ _ _ => rfl
  have dB : Def l.prog w K mg base "all_but" CX0 6 ["stretches"] (spBut K) := dBut.def1 g (fun fd F => ok_but (k := 0) F (g.none_ _ z_tuple) (g.some_ _ _ gZ) hZ) 6 (by decide) fun _ _ _ _ _ _ _ => rfl
  have dK : Def l.prog w K mg base "check_range" (L2.CX l.prog w) 6 ["ranged"] (spChkR K CR CX) := dChkR.def1 g (fun fd F => ok_chkR (k := 0) F own (g.none_ _ z_isinstance) mR rty) 6 (by decide) fun _ _ _ _ _ _ _ => rfl
  have iN := ok_initN (k := 4) (T := TT) (CR := CR) (CN := CN) (CE := CE) (P := l.prog) (w := w) (base := base) (mg := mg) ⟨⟨oc0, od0, .ref TI, kV0, doc0, pm0, an0, cdv0, ct0, osl0, rfl, l0, c0⟩⟩ (g.none_ _ z_isinstance) mN' cR R.nA cN O.nA (fun H a dx fs e => .base (.ins e cN O.ha eE.hn eE.ht O.ob)) O.kN e10.x nf
  have NM : NormMk l.prog w K mg base CR CN 5 := ⟨⟨fN, fdM, (ok_norm (k := 0) FM cN O.nA).mono (by decide), ⟨O.mkk, O.a0, O.i0, O.kp⟩, Binds2 FM fun _ _ _ _ _ _ _ _ => rfl⟩, ⟨f0, _, iN, mk0, init_binds rfl lT sT rfl⟩, mN', mR⟩
  have oA := ok_and cR R.nA dK.x dC dB NM FA
  have oO := ok_or cR R.nA dK.x dC dB NM FO'
  have oS := ok_sub cR R.nA dK.x dC dB NM FS
  have oI := ok_inv cR R.nA dK.x dC dB NM FI
  have oE := ok_eqG (P := l.prog) (w := w) (base := base) (k := 0) F3 (g.none_ _ z_isinstance) mR cR R.nA rty
  have ops : ∀ k, 7 ≤ k → ROps l.prog w K mg base CR CX k := fun k hk => ⟨⟨fA, fdA, oA.mono hk, O.ba, Binds2 FA fun _ _ _ _ _ _ _ _ => rfl⟩, ⟨fO, fdO', oO.mono hk, O.bo, Binds2 FO' fun _ _ _ _ _ _ _ _ => rfl⟩, ⟨fS, fdS, oS.mono hk, O.bs, Binds2 FS fun _ _ _ _ _ _ _ _ => rfl⟩, ⟨fI, fdI, oI.mono hk, O.vi, O.ii, Binds1 FI fun _ _ _ _ _ _ _ => rfl⟩,
    ⟨f3, fd3, oE.mono (by omega), R.a3, R.i3, Binds2 F3 fun _ _ _ _ _ _ _ _ => rfl, R.ne, R.ob⟩, O.nf⟩
  obtain ⟨fdC, FC⟩ := dCaug.ex
  have C : CaughtD K mg CK := ⟨⟨aCaug, fdC, FC.fn, g.some_ _ _ dCaug.gl, FC.kp, Binds1 FC.fn fun _ _ _ _ _ _ _ => rfl⟩, mK⟩
  have ownV : OwnErr K mg "BadVersion" CV := ⟨⟨_, _, _, _, PySem.F.excBase_ValueError, xV⟩, mV, eV.kC, eV.sub, eV.ty⟩
  have dV : Def l.prog w K mg base "check_version" (L2.CX l.prog w) 3 ["version"] (spChkV K CV) := dChkV.def1 g (fun fd F => ok_chkV F ownV e3) 3 (by decide) fun _ _ _ _ _ _ _ => rfl
  have dX : Def l.prog w K mg base "next_version" (L2.CX l.prog w) 5 ["version"] (spNextV K CV) := dNexV.def1 g (fun fd F => ok_nextV (k := 4) F (dV.up (by decide)).x) 5 (by decide) fun _ _ _ _ _ _ _ => rfl
  have ownB : PartErr l.prog K mg "BadVersions" CB := ⟨supB, mB, eB.kC, eB.sub, eB.ty⟩
  have f1 : Def l.prog w K mg base "is_versions" CX0 3 ["value"] (spIsVs K) := dIsVs.def1 g (fun fd F => ok_isVs F (g.none_ _ z_len) (g.none_ _ z_all) (g.some_ _ _ mW) (e5.up (by decide)) e3) 3 (by decide) fun _ _ _ _ _ _ _ => rfl
  have f2 : Def l.prog w K mg base "check_sides" (L2.CX l.prog w) 4 ["inside", "outside"] (spChkSd K CB) := dChSd.def2 g (fun fd F => ok_chkSd F ownB f1) 4 (by decide) fun _ _ _ _ _ _ _ _ => rfl
  have f3 : Def l.prog w K mg base "runs_of" CX0 1 ["inside", "outside"] (spRuns K) := dRunO.def2 g (fun fd F => ok_runsOf (k := 0) F (g.none_ _ z_sorted)) 1 (by decide) fun _ _ _ _ _ _ _ _ => rfl
  have f4 : Def l.prog w K mg base "is_rising" CX0 1 ["row"] (spRising K) := dRisi.def1 g (fun fd F => ok_rising (k := 0) F (g.none_ _ z_all) (g.none_ _ z_zip)) 1 (by decide) fun _ _ _ _ _ _ _ => rfl
  have oP : ∀ fd, Fun K "parting" "parting" sParting aPart fd → FnOk l.prog w K mg base (L2.CX l.prog w) 7 aPart fd ["inside", "outside"] (spParting K TT CR CB) := fun fd F => ok_parting (k := 5) F (f2.up (by decide)).x (g.none_ _ z_any) M5 (f3.up (by decide)) dX.x
  have bP := dPart.def2 g oP 7 (by decide) fun _ _ _ _ _ _ _ _ => rfl
  have oW : ∀ fd, Fun K "widest_parting" "widest_parting" sWidest aWide fd → FnOk l.prog w K mg base (L2.CX l.prog w) 8 aWide fd ["inside", "outside"] (spWidest K TT CR CB) := fun fd F => ok_widest (k := 7) F (f2.up (by decide)).x bP.x (ops 7 (by decide))
  have bW := dWide.def2 g oW 8 (by decide) fun _ _ _ _ _ _ _ _ => rfl
  have oL : ∀ fd, Fun K "alternation" "alternation" sAlt aAlte fd → FnOk l.prog w K mg base (L2.CX l.prog w) 5 aAlte fd ["inside", "outside"] (spAlt K TT CB) := fun fd F => ok_alt (k := 4) F f2.x (g.none_ _ z_any) (g.none_ _ z_enumerate) (g.none_ _ z_tuple) (f3.up (by decide))
  have bL' := dAlte.def2 g oL 8 (by decide) fun _ _ _ _ _ _ _ _ => rfl
  have oI' : ∀ fd, Fun K "is_alternation" "is_alternation" sIsAlt aIsAl fd → FnOk l.prog w K mg base (L2.CX l.prog w) 5 aIsAl fd ["inside", "outside", "value"] (spIsAlt K CB) := fun fd F => ok_isAlt (k := 4) F f2.x (g.none_ _ z_isinstance) (g.none_ _ z_tuple) (g.none_ _ z_all) (g.none_ _ z_len) (g.none_ _ z_enumerate) (e3.up (by decide)) (f4.up (by decide))
  have bI := dIsAl.def3 g oI' 8 (by decide) fun _ _ _ _ _ _ _ _ _ => rfl
  have wI := dIsAl.defW3 g oI' 8 (by decide) fun _ _ _ _ _ _ _ _ _ => rfl
  have wP := dPart.defW g oP 12 (by decide) fun _ _ _ _ _ _ _ _ => rfl
  have wW := dWide.defW g oW 12 (by decide) fun _ _ _ _ _ _ _ _ => rfl
  have wL := dAlte.defW g oL 12 (by decide) fun _ _ _ _ _ _ _ _ => rfl
  have dJ : DefG l.prog w K mg base "_law_judged_right" 12 ["_law_state", "_law_some", "_law_inside", "_law_outside", "_law_told"] (spJudged K TT) := dJudg.defG5 g (fun fd F => ok_judged (k := 8) F (g.none_ _ z_range) (g.none_ _ z_tuple) (g.none_ _ z_sorted) (g.none_ _ z_list) (g.none_ _ z_repr) (g.none_ _ z_isinstance) mB bL inL huL (d7.up (by decide)) (d2.up (by decide)) (d3.up (by decide)) d10 bI.x wI (bP.up (by decide)).x bW.x bL'.x C eB.c eB.f hnoB eB.ex eB.kk) 12 (by decide) fun _ _ _ _ _ _ _ _ _ _ _ => rfl
  have dY : Def l.prog w K mg base "_law_many_right" CX0 12 [] (spTrue TT) := by
    obtain ⟨fd, F⟩ := dMany.ex
    exact ⟨aMany, fd, (ok_many (k := 8) F.fn (g.none_ _ z_range) (g.none_ _ z_len) G8 H8 (ops 8 (by decide)) (bP.up (by decide)).x bW.x bL'.x).mono (by decide), g.some_ _ _ dMany.gl, F.kp, F.fn.binds fun kV doc pm an cdv ct us hl => by cases us with | nil => rfl | cons u us => simp at hl⟩
  exact ok_law7 (k := 12) (g.none_ _ z_len) (g.none_ _ z_range) (g.none_ _ z_min) (g.none_ _ z_max) (g.none_ _ z_tuple) (g.none_ _ z_int) (d18.up (by decide)) dY (d7.up (by decide)) (d6.up (by decide)) (d4.up (by decide)) (d2.up (by decide)) (d3.up (by decide)) (d8.up (by decide)) (d9.up (by decide)) dJ M12 G12 H12 (ops 12 (by decide))
    (bP.up (by decide)).x (bW.up (by decide)).x (bL'.up (by decide)).x wP wW wL FL
end Kw
set_option maxHeartbeats 2000000
namespace Kw
open PySem PySem.Spec PyProof.Rows L2 LamX SX PySem.HandSPX
theorem sup_mk {prog : Program} {K : PySem.W.Frag} {mg : Str → Option Value} {C fI cc cd N : Addr} {nm q qual : Str} {bs bm sub : List Value} {sn : List Str} {ab : Bool} {col : Option Bool} {dd : Option Addr} {k0 k1 k2 k3 k5 : Option Value}
    (h1 : K.lookup C = some (excClassObj nm q C N bs bm true sn sub ab col dd k0 k1 k2 k3 k5 "ValueError.__new__")) (h2 : refsVE bm = true) (sa : PySem.W.findIn K (.ref C) "__setattr__" = some (some (.builtin "object.__setattr__"))) (noA : PySem.W.findIn K (.ref C) "at" = some none)
    (iC : PySem.W.findIn K (.ref C) "__init__" = some (some (.ref fI))) (tI : PySem.W.typeIn K (.ref fI) = some (.type "function")) (subV : PySem.W.subIn K (.ref C) (.type "ValueError") = some true) (subC : PySem.W.mroIn K C (.ref C) = some true) (opq : PySem.W.nsIn K cStatics "thirdparty.any" = some none)
    (sp : PySem.W.ks_superIn K C C "__init__" = some (some (.builtin "ValueError.__init__"))) {oc doc pm ct : Value} {od an : Option Addr} {osl : Array (Option Value)} (fn : K.lookup fI = some ⟨oc, od, .func (PySem.W.ksFn "__init__" qual Ks.iP Ks.iBody Ks.iScope .none .none doc pm an (.ref cd) ct cc), osl⟩) (fc : PySem.W.codeIn K (.ref cd) qual = true)
    {ccl : Value} {cdd : Option Addr} {vs : Array Value} {ccs : Array (Option Value)} {file : Str} {tf : Tok} (co : K.lookup cd = some ⟨ccl, cdd, .fields vs, ccs⟩) (v2 : vs[2]? = some (.str file tf)) (fe : ((prog.main.file : Str) == file) = true)
    {cl : Value} {cld : Option Addr} {csl : Array (Option Value)} (ce : K.lookup cc = some ⟨cl, cld, .cell (some (.ref C)), csl⟩) (ms : mg "super" = none) (tp : (prog.main.scope.names.lookup ("super" : Str)).isSome = false) : ∃ (fI cc cd : Addr) (qual : Str), Ks.SupTxt prog K mg C fI cc cd qual :=
  ⟨fI, cc, cd, qual, ⟨_, _, _, _, _, _, _, _, _, _, _, _, _, _, _, h1, h2⟩, sa, noA, iC, tI, subV, subC, opq, sp, ⟨_, _, _, _, _, _, _, fn, fc⟩, ⟨_, _, _, _, _, _, co, v2, fe⟩, ⟨_, _, _, ce⟩, ms, tp⟩
theorem tab_mk {K : PySem.W.Frag} {h : Heap} {c T : Addr} {a1 : Value} {a2 : Option Addr} {vs : Array Value} {a4 : Array (Option Value)} (lc : K.lookup c = some ⟨a1, a2, .fields vs, a4⟩) (v : vs[11]? = some (.ref T)) (hd : PySem.W.codeHdIn K c T = true) (tab : h.get? T = some (PySem.W.tabObj #[])) (no : K.lookup T = none) : TabF K h c T := ⟨hd, tab, no⟩
theorem sup_mkV {prog : Program} {K : PySem.W.Frag} {mg : Str → Option Value} {C fI cc cd N : Addr} {nm q qual : Str} {bs bm sub : List Value} {sn : List Str} {ab : Bool} {col : Option Bool} {dd : Option Addr} {k0 k1 k2 k3 k5 : Option Value}
    (h1 : K.lookup C = some (excClassObj nm q C N bs bm true sn sub ab col dd k0 k1 k2 k3 k5 "ValueError.__new__")) (h2 : refsVE bm = true) (sa : PySem.W.findIn K (.ref C) "__setattr__" = some (some (.builtin "object.__setattr__"))) (noA : PySem.W.findIn K (.ref C) "part" = some none)
    (iC : PySem.W.findIn K (.ref C) "__init__" = some (some (.ref fI))) (tI : PySem.W.typeIn K (.ref fI) = some (.type "function")) (subV : PySem.W.subIn K (.ref C) (.type "ValueError") = some true) (subC : PySem.W.mroIn K C (.ref C) = some true) (opq : PySem.W.nsIn K cStatics "thirdparty.any" = some none)
    (sp : PySem.W.ks_superIn K C C "__init__" = some (some (.builtin "ValueError.__init__"))) {oc doc pm ct : Value} {od an : Option Addr} {osl : Array (Option Value)} (fn : K.lookup fI = some ⟨oc, od, .func (PySem.W.ksFn "__init__" qual Ksv.iP Ksv.iBody Ksv.iScope .none .none doc pm an (.ref cd) ct cc), osl⟩) (fc : PySem.W.codeIn K (.ref cd) qual = true)
    {ccl : Value} {cdd : Option Addr} {vs : Array Value} {ccs : Array (Option Value)} {file : Str} {tf : Tok} (co : K.lookup cd = some ⟨ccl, cdd, .fields vs, ccs⟩) (v2 : vs[2]? = some (.str file tf)) (fe : ((prog.main.file : Str) == file) = true)
    {cl : Value} {cld : Option Addr} {csl : Array (Option Value)} (ce : K.lookup cc = some ⟨cl, cld, .cell (some (.ref C)), csl⟩) (ms : mg "super" = none) (tp : (prog.main.scope.names.lookup ("super" : Str)).isSome = false) : ∃ (fI cc cd : Addr) (qual : Str), Ksv.SupTxt prog K mg C fI cc cd qual :=
  ⟨fI, cc, cd, qual, ⟨_, _, _, _, _, _, _, _, _, _, _, _, _, _, _, h1, h2⟩, sa, noA, iC, tI, subV, subC, opq, sp, ⟨_, _, _, _, _, _, _, fn, fc⟩, ⟨_, _, _, _, _, _, co, v2, fe⟩, ⟨_, _, _, ce⟩, ms, tp⟩
end Kw
open PySem PySem.W PyProof.Rows
set_option maxHeartbeats 0
open_top k07_head for PySem.Challenge.rw_kitwright_k07_versions_parted
open PySem PySem.W PyProof.Rows
set_option maxRecDepth 100000 in
set_option maxHeartbeats 0 in
theorem PySem.Challenge.cw_kitwright_k07_versions_parted_holds : PySem.Challenge.rw_kitwright_k07_versions_parted.Holds :=
  k07_head (by
  k_fill
  refine Kw.walkG (l := PySem.Challenge.rw_kitwright_k07_versions_parted) (k := 16) rfl rfl ⟨rfl, by decide, by decide⟩ (fun w h Y => PySem.W.km_in_of Y) ?F
  case F =>
    intro w mg fa h Y KX G hmg
    have hT8 := PySem.W.km_tabs_of Y
    refine' Kw.all_law7 KX G hmg ?dBegun ?dStir ?dDraw ?dPick ?dShuf ?dVers ?dLater ?dVeri ?dCaug ?dRuns ?dTurn ?dIsTu ?dJudg ?dMany ?dLaw ?dIsVs ?dChSd ?dRunO ?dPart ?dWide ?dAlte ?dRisi ?dIsAl ?dChkV ?dNexV ?dLatE ?dEarE ?dNF ?dCom ?dBut ?dIsNu ?dIsLi ?dTupO ?dIsVe ?dChkR ?dIsSt ?dChkS ?z_len ?z_range ?z_min ?z_max ?z_isinstance ?z_tuple ?z_list ?z_set ?z_sorted ?z_enumerate ?z_int ?z_bool ?z_abs ?z_all ?z_any ?z_super ?z_repr ?z_zip ?mM ?mW ?R ?rc ?l0 ?c0 ?lT ?sT ?gZ ?lZ ?cZ ?sZ ?m1 ?m2 ?m3 ?mA ?mO ?mS ?mI ?mN ?O ?gN ?noN ?gK ?eE ?eX ?xX ?eV ?xV ?sup ?hno ?eB ?supB ?hnoB ?tN ?tL ?n2
    (case dBegun => refine' Kw.td_mk ?a ?l ?c ?k; (case a => k_is); (case l => k_is); (case c => k_is); (case k => k_is))
    (case dStir => refine' Kw.td_mk ?a ?l ?c ?k; (case a => k_is); (case l => k_is); (case c => k_is); (case k => k_is))
    (case dDraw => refine' Kw.td_mk ?a ?l ?c ?k; (case a => k_is); (case l => k_is); (case c => k_is); (case k => k_is))
    (case dPick => refine' Kw.td_mk ?a ?l ?c ?k; (case a => k_is); (case l => k_is); (case c => k_is); (case k => k_is))
    (case dShuf => refine' Kw.td_mk ?a ?l ?c ?k; (case a => k_is); (case l => k_is); (case c => k_is); (case k => k_is))
    (case dVers => refine' Kw.td_mk ?a ?l ?c ?k; (case a => k_is); (case l => k_is); (case c => k_is); (case k => k_is))
    (case dLater => refine' Kw.td_mk ?a ?l ?c ?k; (case a => k_is); (case l => k_is); (case c => k_is); (case k => k_is))
    (case dVeri => refine' Kw.td_mk ?a ?l ?c ?k; (case a => k_is); (case l => k_is); (case c => k_is); (case k => k_is))
    (case dCaug => refine' Kw.td_mk ?a ?l ?c ?k; (case a => k_is); (case l => k_is); (case c => k_is); (case k => k_is))
    (case dRuns => refine' Kw.td_mk ?a ?l ?c ?k; (case a => k_is); (case l => k_is); (case c => k_is); (case k => k_is))
    (case dTurn => refine' Kw.td_mk ?a ?l ?c ?k; (case a => k_is); (case l => k_is); (case c => k_is); (case k => k_is))
    (case dIsTu => refine' Kw.td_mk ?a ?l ?c ?k; (case a => k_is); (case l => k_is); (case c => k_is); (case k => k_is))
    (case dJudg => refine' Kw.td_mk ?a ?l ?c ?k; (case a => k_is); (case l => k_is); (case c => k_is); (case k => k_is))
    (case dMany => refine' Kw.td_mk ?a ?l ?c ?k; (case a => k_is); (case l => k_is); (case c => k_is); (case k => k_is))
    (case dLaw => refine' Kw.td_mk ?a ?l ?c ?k; (case a => k_is); (case l => k_is); (case c => k_is); (case k => k_is))
    (case dIsVs => refine' Kw.td_mk ?a ?l ?c ?k; (case a => k_is); (case l => k_is); (case c => k_is); (case k => k_is))
    (case dChSd => refine' Kw.td_mk ?a ?l ?c ?k; (case a => k_is); (case l => k_is); (case c => k_is); (case k => k_is))
    (case dRunO => refine' Kw.td_mk ?a ?l ?c ?k; (case a => k_is); (case l => k_is); (case c => k_is); (case k => k_is))
    (case dPart => refine' Kw.td_mk ?a ?l ?c ?k; (case a => k_is); (case l => k_is); (case c => k_is); (case k => k_is))
    (case dWide => refine' Kw.td_mk ?a ?l ?c ?k; (case a => k_is); (case l => k_is); (case c => k_is); (case k => k_is))
    (case dAlte => refine' Kw.td_mk ?a ?l ?c ?k; (case a => k_is); (case l => k_is); (case c => k_is); (case k => k_is))
    (case dRisi => refine' Kw.td_mk ?a ?l ?c ?k; (case a => k_is); (case l => k_is); (case c => k_is); (case k => k_is))
    (case dIsAl => refine' Kw.td_mk ?a ?l ?c ?k; (case a => k_is); (case l => k_is); (case c => k_is); (case k => k_is))
    (case dChkV => refine' Kw.td_mk ?a ?l ?c ?k; (case a => k_is); (case l => k_is); (case c => k_is); (case k => k_is))
    (case dNexV => refine' Kw.td_mk ?a ?l ?c ?k; (case a => k_is); (case l => k_is); (case c => k_is); (case k => k_is))
    (case dLatE => refine' Kw.td_mk ?a ?l ?c ?k; (case a => k_is); (case l => k_is); (case c => k_is); (case k => k_is))
    (case dEarE => refine' Kw.td_mk ?a ?l ?c ?k; (case a => k_is); (case l => k_is); (case c => k_is); (case k => k_is))
    (case dNF => refine' Kw.td_mk ?a ?l ?c ?k; (case a => k_is); (case l => k_is); (case c => k_is); (case k => k_is))
    (case dCom => refine' Kw.td_mk ?a ?l ?c ?k; (case a => k_is); (case l => k_is); (case c => k_is); (case k => k_is))
    (case dBut => refine' Kw.td_mk ?a ?l ?c ?k; (case a => k_is); (case l => k_is); (case c => k_is); (case k => k_is))
    (case dIsNu => refine' Kw.td_mk ?a ?l ?c ?k; (case a => k_is); (case l => k_is); (case c => k_is); (case k => k_is))
    (case dIsLi => refine' Kw.td_mk ?a ?l ?c ?k; (case a => k_is); (case l => k_is); (case c => k_is); (case k => k_is))
    (case dTupO => refine' Kw.td_mk ?a ?l ?c ?k; (case a => k_is); (case l => k_is); (case c => k_is); (case k => k_is))
    (case dIsVe => refine' Kw.td_mk ?a ?l ?c ?k; (case a => k_is); (case l => k_is); (case c => k_is); (case k => k_is))
    (case dChkR => refine' Kw.td_mk ?a ?l ?c ?k; (case a => k_is); (case l => k_is); (case c => k_is); (case k => k_is))
    (case dIsSt => refine' Kw.td_mk ?a ?l ?c ?k; (case a => k_is); (case l => k_is); (case c => k_is); (case k => k_is))
    (case dChkS => refine' Kw.td_mk ?a ?l ?c ?k; (case a => k_is); (case l => k_is); (case c => k_is); (case k => k_is))
    (case z_len => k_is)
    (case z_range => k_is)
    (case z_min => k_is)
    (case z_max => k_is)
    (case z_isinstance => k_is)
    (case z_tuple => k_is)
    (case z_list => k_is)
    (case z_set => k_is)
    (case z_sorted => k_is)
    (case z_enumerate => k_is)
    (case z_int => k_is)
    (case z_bool => k_is)
    (case z_abs => k_is)
    (case z_all => k_is)
    (case z_any => k_is)
    (case z_super => k_is)
    (case z_repr => k_is)
    (case z_zip => k_is)
    (case mM => k_is)
    (case mW => k_is)
    (case R => constructor; (case gR => k_is); (case pg => k_is); (case hd => k_is); (case po => k_is); (case sa => k_is); (case nA => k_is); (case mkk => k_is); (case a0 => k_is); (case i0 => k_is); (case kp => k_is); (case a1 => k_is); (case a2 => k_is); (case i2 => k_is); (case a3 => k_is); (case i3 => k_is); (case ne => k_is); (case ob => k_is); (case nT => k_is); (case sp => k_is); (case tk => k_is); (case kR => kit_is); (case kT => kit_is); (case ha => k_is))
    (case rc => k_is)
    (case l0 => k_is)
    (case c0 => k_is)
    (case lT => k_is)
    (case sT => rfl)
    (case gZ => k_is)
    (case lZ => k_is)
    (case cZ => rfl)
    (case sZ => rfl)
    (case m1 => refine' Kw.fm_mk ?l ?c ?k; (case l => k_is); (case c => k_is); (case k => k_is))
    (case m2 => refine' Kw.fm_mk ?l ?c ?k; (case l => k_is); (case c => k_is); (case k => k_is))
    (case m3 => refine' Kw.fm_mk ?l ?c ?k; (case l => k_is); (case c => k_is); (case k => k_is))
    (case gN => k_is)
    (case O => constructor; (case ba => (constructor; (case hc => k_is); (case hs => k_is); (case hf => k_is); (case hr => exact ⟨_, by k_is⟩); (case ht => intro T hT; simp only [List.mem_cons, List.not_mem_nil, or_false] at hT; rcases hT with rfl | rfl | rfl | rfl | rfl | rfl <;> exact ⟨_, _, by k_is, by k_is, by k_is⟩))); (case bo => (constructor; (case hc => k_is); (case hs => k_is); (case hf => k_is); (case hr => exact ⟨_, by k_is⟩); (case ht => intro T hT; simp only [List.mem_cons, List.not_mem_nil, or_false] at hT; rcases hT with rfl | rfl | rfl | rfl | rfl | rfl <;> exact ⟨_, _, by k_is, by k_is, by k_is⟩))); (case bs => (constructor; (case hc => k_is); (case hs => k_is); (case hf => k_is); (case hr => exact ⟨_, by k_is⟩); (case ht => intro T hT; simp only [List.mem_cons, List.not_mem_nil, or_false] at hT; rcases hT with rfl | rfl | rfl | rfl | rfl | rfl <;> exact ⟨_, _, by k_is, by k_is, by k_is⟩))); (case vi => k_is); (case ii => k_is); (case nf => (intro T hT; simp only [List.mem_cons, List.not_mem_nil, or_false] at hT; rcases hT with rfl | rfl | rfl | rfl | rfl | rfl <;> k_is)); (case no => (intro T hT; simp only [List.mem_cons, List.not_mem_nil, or_false] at hT; rcases hT with rfl | rfl | rfl | rfl | rfl | rfl <;> kit_is)); (case pg => k_is); (case hd => k_is); (case po => k_is); (case sa => k_is); (case nA => k_is); (case kN => kit_is); (case ha => k_is); (case ob => k_is); (case mkk => k_is); (case a0 => k_is); (case i0 => k_is); (case kp => k_is))
    (case mA => refine' Kw.fm_mk ?l ?c ?k; (case l => k_is); (case c => k_is); (case k => k_is))
    (case mO => refine' Kw.fm_mk ?l ?c ?k; (case l => k_is); (case c => k_is); (case k => k_is))
    (case mS => refine' Kw.fm_mk ?l ?c ?k; (case l => k_is); (case c => k_is); (case k => k_is))
    (case mI => refine' Kw.fm_mk ?l ?c ?k; (case l => k_is); (case c => k_is); (case k => k_is))
    (case mN => refine' Kw.fm_mk ?l ?c ?k; (case l => k_is); (case c => k_is); (case k => k_is))
    (case noN => intro T hT; simp only [List.mem_cons, List.not_mem_nil, or_false] at hT; rcases hT with rfl | rfl | rfl | rfl | rfl | rfl | rfl <;> kit_is)
    (case gK => k_is)
    (case eE => constructor; (case gC => k_is); (case kC => k_is); (case sub => k_is); (case ty => k_is); (case hg => k_is); (case hk => k_is); (case hd => k_is); (case ha => k_is); (case hn => k_is); (case ht => k_is); (case hm => k_is); (case kk => kit_is); (case ex => kernel_rfl))
    (case eX => constructor; (case gC => k_is); (case kC => k_is); (case sub => k_is); (case ty => k_is); (case hg => k_is); (case hk => k_is); (case hd => k_is); (case ha => k_is); (case hn => k_is); (case ht => k_is); (case hm => k_is); (case kk => kit_is); (case ex => kernel_rfl))
    (case eV => constructor; (case gC => k_is); (case kC => k_is); (case sub => k_is); (case ty => k_is); (case hg => k_is); (case hk => k_is); (case hd => k_is); (case ha => k_is); (case hn => k_is); (case ht => k_is); (case hm => k_is); (case kk => kit_is); (case ex => kernel_rfl))
    (case xX => kernel_rfl)
    (case xV => kernel_rfl)
    (case sup => refine' Kw.sup_mk ?h1 ?h2 ?sa ?noA ?iC ?tI ?subV ?subC ?opq ?sp ?fn ?fc ?co ?v2 ?fe ?ce ?ms ?tp; (case h1 => k_is); (case h2 => first | rfl | kernel_rfl); (case sa => k_is); (case noA => k_is); (case iC => k_is); (case tI => k_is); (case subV => k_is); (case subC => k_is); (case opq => k_is); (case sp => kernel_rfl); (case fn => k_is); (case fc => k_is); (case co => k_is); (case v2 => rfl); (case fe => first | rfl | kernel_rfl); (case ce => k_is); (case ms => exact PySem.W.mg_none_of KX G (by k_is)); (case tp => first | rfl | kernel_rfl))
    (case hno => k_is)
    (case eB => constructor; (case gC => k_is); (case kC => k_is); (case sub => k_is); (case ty => k_is); (case hg => k_is); (case hk => k_is); (case hd => k_is); (case ha => k_is); (case hn => k_is); (case ht => k_is); (case hm => k_is); (case kk => kit_is); (case ex => kernel_rfl))
    (case supB => refine' Kw.sup_mkV ?h1 ?h2 ?sa ?noA ?iC ?tI ?subV ?subC ?opq ?sp ?fn ?fc ?co ?v2 ?fe ?ce ?ms ?tp; (case h1 => k_is); (case h2 => first | rfl | kernel_rfl); (case sa => k_is); (case noA => k_is); (case iC => k_is); (case tI => k_is); (case subV => k_is); (case subC => k_is); (case opq => k_is); (case sp => kernel_rfl); (case fn => k_is); (case fc => k_is); (case co => k_is); (case v2 => rfl); (case fe => first | rfl | kernel_rfl); (case ce => k_is); (case ms => exact PySem.W.mg_none_of KX G (by k_is)); (case tp => first | rfl | kernel_rfl))
    (case hnoB => k_is)
    (case tN => refine' Kw.tab_mk ?lc ?v ?hd ?tab ?no; (case lc => k_is); (case v => rfl); (case hd => kernel_rfl); (case tab => exact hT8 _ (by decide)); (case no => kernel_rfl))
    (case tL => refine' Kw.tab_mk ?lc ?v ?hd ?tab ?no; (case lc => k_is); (case v => rfl); (case hd => kernel_rfl); (case tab => exact hT8 _ (by decide)); (case no => kernel_rfl))
    (case n2 => decide))
