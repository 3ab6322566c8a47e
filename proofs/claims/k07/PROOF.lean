import PyProof.Rows.All
import Wide.All
import OpenK.AllK
import Wide.FinOn
import HandS.Base
import HandS.Call
import HandS.List
import HandS.Dict
import HandS.Comp
import HandS.Iter
import HandS.Defaults
import HandS.More
import HandS.ForMost
import KE.KEqSeq
import HandS.Codes
import PyProof.DelItemList
import PyProof.RulesDelMore
import KE.KExcIs
import KE.KExcInit
import PyProof.ExcBaseAll.RuntimeError
import HandS.ForExc
import HandS.ExcInit
import HandS.ExcField
import HandS.ExcIs
import HandS.ExcValue
import HandS.WordsExc
import HandS.TryOnly
import HandS.Style
import HandS.MakeKw
import HandS.MakeKwOnly
import HandS.IsInst
import KE.KStateDown
import HandS.Ends
import HandS.Words
import HandS.Head0
import HandS.Head1
import HandS.Head2
import HandS.HeadEnd
import HandS.HeadHook1
import HandS.HeadHook2
import HandS.HeadHook3
import HandS.HeadHook4
import Lean
import PySem.Challenge.RW_eventledger_k07_a_store_that_falls
set_option Elab.async false
set_option linter.all false
set_option maxRecDepth 100000
namespace St7
open PySem PySem.Spec PyProof.Rows L2
def top (i : Nat) : Stmt := PySem.Challenge.pw_eventledger_k07_a_store_that_falls.main.body.getD i (.Pass ⟨0, 0, 0, 0⟩)
abbrev sPen : Stmt := top 5
abbrev sDraw : Stmt := top 6
abbrev sFellC : Stmt := top 1
abbrev sStoreC : Stmt := top 3
end St7

set_option maxHeartbeats 2000000
namespace St7
open PySem PySem.Spec PyProof.Rows L2
abbrev FnP (K : PySem.W.Frag) (x : Str) (st : Stmt) (f : Addr) (fd : FuncData) : Prop := FunD K x x (defArgs st) (defBody st) (defScope st) [] [] f fd
theorem szl : sizeLine = 16777216 := by decide
theorem same_upd {H : Hp} {p : Addr} {o : HO} (h : H p = none) : Same H (upd H p o) := fun b x e => by
  rw [upd_ne (ne_of_none e h)]
  exact e
/-- all that stood there but the objects of S stands as it stood -/
def Fr (S : List Addr) (H H' : Hp) : Prop := ∀ b o, b ∉ S → H b = some o → H' b = some o
theorem Fr.refl {S : List Addr} {H : Hp} : Fr S H H := fun _ _ _ e => e
theorem Fr.trans {S : List Addr} {H H1 H2 : Hp} (a : Fr S H H1) (b : Fr S H1 H2) : Fr S H H2 := fun c o n e => b c o n (a c o n e)
theorem Fr.mono {S T : List Addr} {H H1 : Hp} (a : Fr S H H1) (h : ∀ x ∈ S, x ∈ T) : Fr T H H1 := fun c o n e => a c o (fun z => n (h c z)) e
theorem fr_same {S : List Addr} {H H1 : Hp} (a : Same H H1) : Fr S H H1 := fun c o _ e => a c o e
theorem Fr.same {H H1 : Hp} (a : Fr [] H H1) : Same H H1 := fun c o e => a c o (by simp) e
theorem fr_upd {S : List Addr} {H : Hp} {p : Addr} {o : HO} (h : p ∈ S) : Fr S H (upd H p o) := fun c x n e => by
  rw [upd_ne (fun q => n (by rw [q]; exact h))]
  exact e
theorem fr_new {S : List Addr} {H : Hp} {p : Addr} {o : HO} (h : H p = none) : Fr S H (upd H p o) := fr_same (same_upd h)
/-- what was not there may change -/
theorem Fr.drop {S : List Addr} {H H1 : Hp} {p : Addr} (a : Fr (p :: S) H H1) (h : H p = none) : Fr S H H1 := fun c x n e => a c x (fun z => by
  rcases List.mem_cons.mp z with q | q
  · rw [q, h] at e
    cases e
  · exact n q) e
/-- a fresh place was fresh before -/
theorem Fr.free {S : List Addr} {H H1 : Hp} {p : Addr} (a : Fr S H H1) (n : p ∉ S) (h : H1 p = none) : H p = none := by
  cases q : H p with
  | none => rfl
  | some o =>
    rw [a p o n q] at h
    cases h
/-! ### the pen -/
def pk (cl : Addr) (a b : Int) : List (Key × V) := [(Sum.inr "cells", .ref cl), (Sum.inr "at", .int a), (Sum.inr "left", .int b)]
theorem pk_cells (cl : Addr) (a b : Int) : valV (pk cl a b) (Sum.inr ("cells" : Str)) = some (.ref cl) := valV_pos rfl
theorem pk_at (cl : Addr) (a b : Int) : valV (pk cl a b) (Sum.inr ("at" : Str)) = some (.int a) := by
  kernel_rfl
theorem pk_left (cl : Addr) (a b : Int) : valV (pk cl a b) (Sum.inr ("left" : Str)) = some (.int b) := by
  kernel_rfl
theorem pk_put_at (cl : Addr) (a b x : Int) : putK (pk cl a b) (Sum.inr ("at" : Str)) (.int x) = pk cl x b := by
  kernel_rfl
theorem pk_put_left (cl : Addr) (a b x : Int) : putK (pk cl a b) (Sum.inr ("left" : Str)) (.int x) = pk cl a x := by
  kernel_rfl
theorem get_cells {H : Hp} {d cl : Addr} {a b : Int} (h : H d = some (.dK (pk cl a b))) : DGet H d (.str "cells") (some (.ref cl)) := by
  have e := DGet.k (k := Sum.inr ("cells" : Str)) h
  rw [pk_cells] at e
  exact e
theorem get_at {H : Hp} {d cl : Addr} {a b : Int} (h : H d = some (.dK (pk cl a b))) : DGet H d (.str "at") (some (.int a)) := by
  have e := DGet.k (k := Sum.inr ("at" : Str)) h
  rw [pk_at] at e
  exact e
theorem get_left {H : Hp} {d cl : Addr} {a b : Int} (h : H d = some (.dK (pk cl a b))) : DGet H d (.str "left") (some (.int b)) := by
  have e := DGet.k (k := Sum.inr ("left" : Str)) h
  rw [pk_left] at e
  exact e
theorem pk_small (cl : Addr) (a b : Int) : (pk cl a b).length < sizeLine := by
  rw [szl]
  show 3 < 16777216
  omega
theorem put_at {H : Hp} {d cl : Addr} {a b : Int} (x : Int) (h : H d = some (.dK (pk cl a b))) : DPut H d (.str "at") (.int x) (upd H d (.dK (pk cl x b))) := by
  have e := DPut.k (k := Sum.inr ("at" : Str)) (v := .int x) h (pk_small _ _ _)
  rw [pk_put_at] at e
  exact e
theorem put_left {H : Hp} {d cl : Addr} {a b : Int} (x : Int) (h : H d = some (.dK (pk cl a b))) : DPut H d (.str "left") (.int x) (upd H d (.dK (pk cl a x))) := by
  have e := DPut.k (k := Sum.inr ("left" : Str)) (v := .int x) h (pk_small _ _ _)
  rw [pk_put_left] at e
  exact e
theorem pk_merge (cl : Addr) (a b : Int) : mergeK [] (pk cl a b) = pk cl a b := by
  kernel_rfl
/-- a pen: its dict at d, its cells at cl, the cells ns, at most n were drawn -/
structure Pen (H : Hp) (d cl : Addr) (ns : List Int) (n : Nat) : Prop where
  ex : ∃ a b : Int, H d = some (.dK (pk cl a b)) ∧ 0 ≤ a ∧ a ≤ (n : Int) ∧ 0 ≤ b
  cs : H cl = some (.lst (ns.map V.int))
  len : ns.length ≤ 63
theorem Pen.mono {H : Hp} {d cl : Addr} {ns : List Int} {n m : Nat} (a : Pen H d cl ns n) (k : n ≤ m) : Pen H d cl ns m := by
  obtain ⟨⟨x, y, h1, h2, h3, h4⟩, h5, h6⟩ := a
  exact ⟨⟨x, y, h1, h2, by omega, h4⟩, h5, h6⟩
theorem Pen.fr {S : List Addr} {H H1 : Hp} {d cl : Addr} {ns : List Int} {n : Nat} (a : Pen H d cl ns n) (f : Fr S H H1) (h1 : d ∉ S) (h2 : cl ∉ S) : Pen H1 d cl ns n := by
  obtain ⟨⟨x, y, e1, r⟩, e2, h6⟩ := a
  exact ⟨⟨x, y, f _ _ h1 e1, r⟩, f _ _ h2 e2, h6⟩
theorem Pen.ne {H : Hp} {d cl : Addr} {ns : List Int} {n : Nat} (a : Pen H d cl ns n) : cl ≠ d := by
  obtain ⟨⟨x, y, e1, r⟩, e2, h6⟩ := a
  exact ne_of e2 e1 (by intro z; cases z)
theorem cut_map (ns : List Int) (lo hi : Option Int) : ∃ ms : List Int, cutV (ns.map V.int) lo hi = ms.map V.int ∧ ms.length ≤ ns.length := by
  refine ⟨(ns.drop (HT.sIx (ns.map V.int).length 0 lo)).take (HT.sIx (ns.map V.int).length (ns.map V.int).length hi - HT.sIx (ns.map V.int).length 0 lo), ?_, ?_⟩
  · unfold cutV
    rw [List.map_take, List.map_drop]
  · rw [List.length_take, List.length_drop]
    omega
theorem dpAll_ints {K : PySem.W.Frag} {H : Hp} : ∀ ns : List Int, DpAll K H (ns.map V.int) (ns.map PyData.int)
  | [] => .nil
  | n :: r => .cons (.int n) (dpAll_ints r)
theorem scPen : FnScope ["script", "cell"] ["script"] (defScope sPen) := ⟨rfl, rfl, rfl, by decide +kernel, rfl, by decide +kernel, by decide +kernel⟩
def spPen (K : PySem.W.Frag) : Sp := fun vs H Q _ => ∃ (a : Addr) (ns : List Int), vs = [.ref a] ∧ SqL K H a (ns.map V.int) ∧ ns.length ≤ 63 ∧ ∀ H' d cl ms, Same H H' → H d = none → H cl = none → Pen H' d cl ms 0 → Q (.ref d) H'
theorem scDraw : FnScope ["pen", "many", "digit", "at", "cell", "number", "again"] ["pen", "many"] (defScope sDraw) := ⟨rfl, rfl, rfl, by decide +kernel, rfl, by decide +kernel, by decide +kernel⟩
def spDraw : Sp := fun vs H Q _ => ∃ (d cl : Addr) (ns : List Int) (many : Int) (n : Nat), vs = [.ref d, .int many] ∧ Pen H d cl ns n ∧ n ≤ 1000000 ∧ 0 < many ∧ many ≤ 100000000 ∧ ∀ H' k, Fr [d] H H' → Pen H' d cl ns (n + 1) → 0 ≤ k → k < many → Q (.int k) H'
section
variable {P : Program} {w : World} {K : PySem.W.Frag} {mg : Str → Option Value} {base : Heap}
theorem ok_pen {f : Addr} {fd : FuncData} {k : Nat} (F : FnP K "_law_pen" sPen f fd) : FnOk P w K mg base CX0 (k + 1) f fd ["script"] (spPen K) := by
  refine F.ok scPen (fun vs H Q E h => ?_) (fun cdv A outer s H vs Q E hr h => ?_)
  · obtain ⟨a, ns, rfl, _⟩ := h
    rfl
  · obtain ⟨a, ns, rfl, hS, hl, q⟩ := h
    refine ⟨_, PSs.nox (pss_one (ps_ret (pe_disp (pps_cons pe_str
      (pe_lc (own := [("cell", 1)]) (g := gName 1) (tt := tYes) rfl scPen.nd (pi_list (pe_slice sl_list (pv 0) po_none (po_some pe_int))) (blkOk_by (own := [("cell", 1)]) (N := ["script", "cell"]) (sc := defScope sPen) (by decide +kernel))
        (fun _ _ _ _ _ => pg_name (i := 1) scPen.nd rfl (Or.inl rfl)) (fun _ _ _ _ _ => pts_nil) (fun _ _ _ _ _ => pv 1))
      (pps_cons pe_str pe_int (pps_cons pe_str pe_int pps_nil))) (by rfl) (by rfl) (fun z => by cases z) (by decide)))), ?_⟩
    obtain ⟨ms, em, lm⟩ := cut_map ns none (some 63)
    intro d hd
    have s1 := same_upd (o := HO.dK []) hd
    refine ⟨_, rfl, 63, rfl, a, _, rfl, s1.seq hS, fun p np => ?_⟩
    have ndp : d ≠ p := ne_of_none upd_same np
    have s2 := same_upd (o := HO.lst (cutV (ns.map V.int) none (some 63))) np
    rw [em] at s2 ⊢
    refine ⟨p, rfl, ⟨_, SqL.of upd_same⟩, fun D nD => ?_⟩
    have nDp : p ≠ D := ne_of_none upd_same nD
    have nDd : d ≠ D := ne_of_none (s2 _ _ upd_same) nD
    have s3 := same_upd (o := HO.lst []) nD
    refine lc_list (K := K) (a := p) (xs := ms.map V.int) (fun i H' => Fr [D] (upd (upd H d (.dK [])) p (.lst (ms.map V.int))) H' ∧ H' D = some (.lst ((ms.take i).map V.int))) ⟨fr_upd (List.mem_singleton_self _), upd_same⟩ (fun i H' _ ⟨f, _⟩ => SqL.of (f _ _ (by simpa using nDp) upd_same)) ?_ ?_
    · rintro i x H' hx ⟨f, hD⟩
      have hi : i < ms.length := by
        have q1 := (List.getElem?_eq_some_iff.mp hx).1
        rw [List.length_map] at q1
        exact q1
      have ex : x = V.int ms[i] := by
        rw [List.getElem?_map, List.getElem?_eq_getElem hi] at hx
        exact (Option.some.inj hx).symm
      refine ⟨rfl, _, rfl, _, hD, ?_, f.trans (fr_upd (List.mem_singleton_self _)), ?_⟩
      · rw [List.length_map, List.length_take, szl]
        omega
      · rw [upd_same, ex, List.take_succ_eq_append_getElem hi, List.map_append]
        rfl
    · rintro H' ⟨f, hD⟩
      rw [List.length_map, List.take_length] at hD
      have hd' : H' d = some (.dK []) := f _ _ (by simpa using nDd) (s2 _ _ upd_same)
      refine ⟨hd', pk D 0 0, rfl, by show 3 ≤ 15; omega, ?_⟩
      have cD : H D = none := s1.free (s2.free nD)
      have all : Same H (upd H' d (.dK (mergeK [] (pk D 0 0)))) := fun b o e => by
        rw [upd_ne (ne_of_none e hd)]
        exact f _ _ (by simpa using ne_of_none e cD) (s2 _ _ (s1 _ _ e))
      refine q _ d D ms all hd cD ⟨⟨0, 0, ?_, Int.le_refl _, Int.le_refl _, Int.le_refl _⟩, ?_, by omega⟩
      · rw [upd_same, pk_merge]
      · rw [upd_ne nDd.symm]
        exact hD
theorem pw_pos : (0 : Int) < 4294967311 := by decide
theorem ok_draw {f : Addr} {fd : FuncData} {k : Nat} (F : FnP K "_law_draw" sDraw f fd) (ml : mg "len" = none) (ma : mg "abs" = none) (mr : mg "range" = none) : FnOk P w K mg base CX0 (k + 1) f fd ["pen", "many"] spDraw := by
  refine F.ok scDraw (fun vs H Q E h => ?_) (fun cdv A outer s H vs Q E hr h => ?_)
  · obtain ⟨d, cl, ns, m, n, rfl, _⟩ := h
    rfl
  · obtain ⟨d, cl, ns, m, n, rfl, hP, hn, m0, m1, q⟩ := h
    obtain ⟨⟨t, c, hd, t0, tn, c0⟩, hl, ln⟩ := id hP
    have hu := hu_of hr
    have ncd := hP.ne
    refine ⟨_, PSs.nox (pss_cons (ps_if (pt_cmpR op_gt (pe_dget hu (pv 0) pe_str (fun _ _ => rfl)) (pe_int) (nomark _)) (pss_cons (ps_set (i := 2) scDraw.nd rfl (.inl rfl) (pe_op op_modN (pe_dget hu (pv 0) pe_str (fun _ _ => rfl)) (pv 1)))
      (pss_cons (ps_dput hu (pv 0) pe_str (pe_op op_fdivN (pe_dget hu (pv 0) pe_str (fun _ _ => rfl)) (pv 1)) rfl)
      (pss_one (ps_ret (pv 2))))) pss_nil)
      (pss_cons (ps_set (i := 3) scDraw.nd rfl (.inl rfl) (pe_dget hu (pv 0) pe_str (fun _ _ => rfl)))
      (pss_cons (ps_dput hu (pv 0) pe_str (pe_op op_add (pv 3) (pe_int)) rfl)
      (pss_cons (ps_set (i := 4) scDraw.nd rfl (.inl rfl) (pe_op op_add (pe_op op_mul (pv 3) (pv 3)) (pe_int)))
      (C8.pss_cut (ps_if (pt_cmpR (op_neD hr.units) (pe_dget hu (pv 0) pe_str (fun _ _ => rfl)) (pe_lst pa_nil) (nomark _)) (pss_one (ps_set (i := 4) scDraw.nd rfl (.inl rfl) (pe_ix ix_list (pe_dget hu (pv 0) pe_str (fun _ _ => rfl)) (pe_op op_modN (pv 3) (pe_callB call_len_seq (by rfl) ml PySem.boot_len (pa_cons (pe_dget hu (pv 0) pe_str (fun _ _ => rfl)) pa_nil))) (fun _ _ => rfl)))) pss_nil)
      (C8.pss_cut (ps_if (PW.pt (pw_and (pt_cmpR op_lt (pv 3) (pe_callB call_len_seq (by rfl) ml PySem.boot_len (pa_cons (pe_dget hu (pv 0) pe_str (fun _ _ => rfl)) pa_nil)) (nomark _)) (pw_and1 (pt_cmpR op_ge (pe_callB call_abs (by rfl) ma (by decide +kernel) (pa_cons (pv 4) pa_nil)) (pe_op op_pow (pe_int) (pe_int)) (nomark _))))) (pss_cons (ps_dput hu (pv 0) pe_str (pe_op op_fdivN (pe_callB call_abs (by rfl) ma (by decide +kernel) (pa_cons (pv 4) pa_nil)) (pv 1)) rfl)
      (pss_one (ps_ret (pe_op op_modN (pe_callB call_abs (by rfl) ma (by decide +kernel) (pa_cons (pv 4) pa_nil)) (pv 1))))) pss_nil)
      (pss_cons (ps_set (i := 5) scDraw.nd rfl (.inl rfl) (pe_op op_modN (pe_op op_mul (pe_op op_add (pe_op op_add (pe_op op_modN (pv 4) (pe_int)) (pe_op op_mul (pe_int) (pv 3))) (pe_int)) (pe_int)) (pe_int)))
      (pss_cons (ps_for PassesOwn.never rfl (pi_range1 (by rfl) mr (pa_cons pe_int pa_nil)) (pg_name (i := 6) scDraw.nd rfl (.inl rfl)) (pss_cons (ps_set (i := 5) scDraw.nd rfl (.inl rfl) (pe_op op_add (pe_op op_add (pe_op op_add (pe_op op_mul (pv 5) (pv 5)) (pe_op op_mul (pe_int) (pv 5))) (pv 3)) (pv 6)))
      (pss_one (ps_set (i := 5) scDraw.nd rfl (.inl rfl) (pe_op op_modN (pv 5) (pe_int))))))
      (pss_one (ps_ret (pe_op op_modN (pe_op op_fdivN (pv 5) (pe_int)) (pv 1)))))))))))), ?_⟩
    have dm : ∀ x : Int, 0 ≤ x.fmod m ∧ x.fmod m < m := fun x => ⟨Int.fmod_nonneg_of_pos x m0, Int.fmod_lt_of_pos x m0⟩
    have mN : m ≠ 0 := by omega
    have mB : m.natAbs < 1073741824 := by omega
    have dp : ∀ x : Int, 0 ≤ x → 0 ≤ x.fdiv m := fun x h => by
      rw [Int.fdiv_eq_ediv_of_nonneg x (by omega)]
      exact Int.ediv_nonneg h (by omega)
    -- pen["left"] > 0
    refine ⟨_, rfl, d, _, rfl, get_left hd, c, 0, rfl, rfl, _, rfl, ite2 (fun e => ?_) (fun e => ?_)⟩
    · refine ⟨_, rfl, d, _, rfl, get_left hd, _, rfl, c, m, rfl, rfl, mN, ?_⟩
      refine ⟨_, rfl, d, _, rfl, get_left hd, _, rfl, c, m, rfl, rfl, ⟨mN, mB⟩, _, rfl, d, _, rfl, put_left _ hd, ?_⟩
      refine ⟨_, rfl, q _ _ (fr_upd (List.mem_singleton_self _)) ⟨⟨t, c.fdiv m, upd_same, t0, by omega, dp c c0⟩, ?_, ln⟩ (dm c).1 (dm c).2⟩
      rw [upd_ne ncd]
      exact hl
    · refine ⟨_, rfl, d, _, rfl, get_at hd, ?_⟩
      refine ⟨_, rfl, t, 1, rfl, rfl, _, rfl, d, _, rfl, put_at _ hd, ?_⟩
      refine ⟨_, rfl, _, rfl, t, t, rfl, rfl, .inl (by omega), _, 5, rfl, rfl, ?_⟩
      have hd1 : (upd H d (.dK (pk cl (t + 1) c))) d = some (.dK (pk cl (t + 1) c)) := upd_same
      have hl1 : (upd H d (.dK (pk cl (t + 1) c))) cl = some (.lst (ns.map V.int)) := by
        rw [upd_ne ncd]
        exact hl
      have b1 : Fr [d] H (upd H d (.dK (pk cl (t + 1) c))) := fr_upd (List.mem_singleton_self _)
      generalize (upd H d (.dK (pk cl (t + 1) c))) = H1 at hd1 hl1 b1
      refine ⟨fun σ' H' => ∃ cell, σ' = [some (.ref d), some (.int m), none, some (.int t), some (.int cell), none, none] ∧ H' d = some (.dK (pk cl (t + 1) c)) ∧ H' cl = some (.lst (ns.map V.int)) ∧ Fr [d] H H', ?_, ?_⟩
      · refine ⟨_, rfl, d, _, rfl, get_cells hd1, Nat.zero_le _, fun p np => ?_⟩
        have hd2 : (upd H1 p (.lst [])) d = some (.dK (pk cl (t + 1) c)) := by rw [upd_ne (ne_of_none hd1 np)]; exact hd1
        have hl2 : (upd H1 p (.lst [])) cl = some (.lst (ns.map V.int)) := by rw [upd_ne (ne_of_none hl1 np)]; exact hl1
        have b2 : Fr [d] H (upd H1 p (.lst [])) := b1.trans (fr_new np)
        have hp2 : (upd H1 p (.lst [])) p = some (.lst []) := upd_same
        generalize (upd H1 p (.lst [])) = H2 at hd2 hl2 b2 hp2
        refine ⟨.list (ns.map PyData.int), .list [], .lst (SqL.of hl2) (dpAll_ints ns), .lst (SqL.of hp2) .nil, PySem.W.ke_shaped_ints ns, by decide +kernel, _, rfl, ite2 (fun e => ?_) (fun e => ?_)⟩
        · have n0 : 0 < ns.length := by
            cases ns with
            | nil => exact absurd e (by decide +kernel)
            | cons x r => exact Nat.succ_pos _
          have hlen : ((ns.map V.int).length : Int) ≠ 0 := by rw [List.length_map]; omega
          have f0 : 0 ≤ t.fmod ((ns.map V.int).length : Int) := Int.fmod_nonneg_of_pos t (by rw [List.length_map]; omega)
          have f1 : t.fmod ((ns.map V.int).length : Int) < ((ns.map V.int).length : Int) := Int.fmod_lt_of_pos t (by rw [List.length_map]; omega)
          obtain ⟨j, ej⟩ := Int.eq_ofNat_of_zero_le f0
          have hj : j < ns.length := by
            rw [ej, List.length_map] at f1
            exact Int.ofNat_lt.mp f1
          refine ⟨_, rfl, d, _, rfl, get_cells hd2, _, rfl, _, rfl, d, _, rfl, get_cells hd2, cl, _, rfl, .inl (SqL.of hl2), t, _, rfl, rfl, hlen, cl, _, (j : Int), .int ns[j], rfl, congrArg V.int ej, SqL.of hl2, atI_nat (j := j) ?_, ns[j], rfl, hd2, hl2, b2⟩
          rw [List.getElem?_map, List.getElem?_eq_getElem hj]
          rfl
        · exact ⟨_, rfl, hd2, hl2, b2⟩
      · rintro σ' H' ⟨cell, rfl, hd3, hl3, b3⟩
        refine ⟨fun σ2 H2 => σ2 = [some (.ref d), some (.int m), none, some (.int t), some (.int cell), none, none] ∧ H2 = H', ?_, ?_⟩
        · refine ⟨_, rfl, _, rfl, d, _, rfl, get_cells hd3, cl, _, rfl, .inl (SqL.of hl3), t, _, rfl, rfl, _, rfl, ite2 (fun e => ?_) (fun e => ?_)⟩
          · refine ⟨_, rfl, cell, rfl, 10, 18, rfl, rfl, ⟨by decide, by decide, by decide⟩, _, _, rfl, rfl, _, rfl, ite2 (fun e2 => ?_) (fun e2 => ⟨rfl, rfl⟩)⟩
            have c1 : 0 ≤ (if cell < 0 then -cell else cell) := by
              by_cases z : cell < 0
              · rw [if_pos z]; omega
              · rw [if_neg z]; omega
            refine ⟨_, rfl, cell, rfl, _, rfl, _, m, rfl, rfl, ⟨mN, mB⟩, _, rfl, d, _, rfl, put_left _ hd3, ?_⟩
            refine ⟨_, rfl, cell, rfl, _, rfl, _, m, rfl, rfl, mN, q _ _ (b3.trans (fr_upd (List.mem_singleton_self _))) ⟨⟨t + 1, (if cell < 0 then -cell else cell).fdiv m, upd_same, by omega, by omega, dp _ c1⟩, ?_, ln⟩ (dm _).1 (dm _).2⟩
            rw [upd_ne ncd]
            exact hl3
          · exact iteF ⟨rfl, rfl⟩
        · rintro σ2 H2 ⟨rfl, rfl⟩
          have rb : ∀ x : Int, 0 ≤ x.fmod 4294967311 ∧ x.fmod 4294967311 < 4294967311 := fun x => ⟨Int.fmod_nonneg_of_pos _ (by decide), Int.fmod_lt_of_pos _ (by decide)⟩
          refine ⟨_, rfl, cell, 4294967311, rfl, rfl, (show (4294967311 : Int) ≠ 0 by decide), _, rfl, 65539, t, rfl, rfl, .inl (by decide), _, _, rfl, rfl, _, 17, rfl, rfl, _, 48271, rfl, rfl, .inr (by decide), _, 4294967311, rfl, rfl, (show (4294967311 : Int) ≠ 0 by decide), ?_⟩
          refine ⟨3, rfl, by decide, by decide, for_range (n := 3) (fun i σ' H3 => ∃ (x : Int) (y : Option V), σ' = [some (.ref d), some (.int m), none, some (.int t), some (.int cell), some (.int x), y] ∧ 0 ≤ x ∧ x < 4294967311 ∧ H3 = H2) ⟨_, none, rfl, (rb _).1, (rb _).2, rfl⟩ ?_ ?_⟩
          · rintro i σ' H3 hi ⟨x, y, rfl, x0, x1, rfl⟩
            refine ⟨_, rfl, _, rfl, x, x, rfl, rfl, .inl (by omega), _, rfl, 69621, x, rfl, rfl, .inl (by decide), _, _, rfl, rfl, _, rfl, _, t, rfl, rfl, _, rfl, _, _, rfl, rfl, ?_⟩
            refine ⟨_, rfl, _, 4294967311, rfl, rfl, (show (4294967311 : Int) ≠ 0 by decide), ?_⟩
            exact ⟨_, _, rfl, (rb _).1, (rb _).2, rfl⟩
          · rintro σ' H3 ⟨x, y, rfl, x0, x1, rfl⟩
            refine ⟨_, rfl, x, 32, rfl, rfl, ⟨by decide, by decide⟩, _, rfl, _, m, rfl, rfl, mN, ?_⟩
            exact q _ _ b3 ⟨⟨t + 1, c, hd3, by omega, by omega, c0⟩, hl3, ln⟩ (dm _).1 (dm _).2
end
end St7

set_option autoImplicit false
set_option maxHeartbeats 2000000
/-! del xs[a:b] of a list -/
namespace Dl
open PySem PySem.Spec PyProof.Rows L2
/-- what is left of xs behind del xs[lo:hi] -/
def leftV {α : Type} (xs : List α) (a c : Nat) : List α := xs.take a ++ xs.drop (max a c)
theorem zipIdx_filter {α : Type} {p : Nat → Bool} {a c : Nat} (hp : ∀ k, p k = decide (a ≤ k ∧ k < c)) : ∀ (xs : List α) (k : Nat),
    (xs.zipIdx k).filterMap (fun q => if p q.2 = true then none else some q.1) = xs.take (a - k) ++ xs.drop (max (a - k) (c - k))
  | [], k => by simp
  | x :: r, k => by
    have ih := zipIdx_filter hp r (k + 1)
    rw [List.zipIdx_cons, List.filterMap_cons]
    simp only [hp k, decide_eq_true_eq]
    rw [ih]
    by_cases h : a ≤ k
    · by_cases h2 : k < c
      · rw [if_pos ⟨h, h2⟩]
        have e1 : a - k = 0 := by omega
        have e2 : a - (k + 1) = 0 := by omega
        have e3 : max (a - k) (c - k) = max (a - (k + 1)) (c - (k + 1)) + 1 := by omega
        rw [e3, e1, e2]
        simp
      · rw [if_neg (fun z => h2 z.2)]
        have e1 : a - k = 0 := by omega
        have e2 : a - (k + 1) = 0 := by omega
        have e3 : max (a - k) (c - k) = 0 := by omega
        have e4 : max (a - (k + 1)) (c - (k + 1)) = 0 := by omega
        rw [e3, e4, e1, e2]
        simp
    · rw [if_neg (fun z => h z.1)]
      have e1 : a - k = (a - (k + 1)) + 1 := by omega
      have e3 : max (a - k) (c - k) = max (a - (k + 1)) (c - (k + 1)) + 1 := by omega
      rw [e3, e1]
      simp
section
variable {pr : Program} {wo : World} {Ar : Around} {Ex : Value → Shared → Prop} {sh : Shared}
/-- the deed on the list's items alone: what stands there behind it is told of any function that makes it -/
theorem delItem_slice {a sl : Addr} {xs : Array Value} {k : Nat} {v1 v2 : Value} {lo hi : Option Int} {Q : Unit → Shared → Prop}
    (ha : sh.heap.get? a = some { cls := .type "list", data := .seq xs k })
    (hsl : sh.heap.IsSliceOf sl v1 v2 .none) (p1 : IsPart v1 lo) (p2 : IsPart v2 hi) (hsz : xs.size ≤ sizeLine)
    (h : ∀ g : Array Value → Array Value, g xs = (leftV xs.toList (HT.sIx xs.size 0 lo) (HT.sIx xs.size xs.size hi)).toArray → Q () { sh with heap := sh.heap.update a (Obj.mapSeq g) }) :
    wpAny (model pr wo) Ar (delItem (.ref a) (.ref sl)) Q Ex sh := by
  have isl := PySem.IsL.isList ha
  obtain ⟨ob, hob, hcl, hdt⟩ := id hsl
  have tyS : sh.TypeIs (.ref sl) "slice" := ⟨ob, hob, hcl⟩
  obtain ⟨b1, b2, b3⟩ := slice_bounds lo hi xs.size
  have sel : ∀ {u c : Nat} (j : Nat), (if (1 : Int) > 0 then decide ((u : Int) ≤ (j : Int)) && decide ((j : Int) < (c : Int)) && (((j : Int) - (u : Int)) % 1 == 0) else false) = decide (u ≤ j ∧ j < c) := fun {u c} j => by
    rw [if_pos (by decide), show (((j : Int) - (u : Int)) % 1 == 0) = true by simp [Int.emod_one], Bool.and_true]
    simp
  have key : ∀ {p : Nat → Bool}, (∀ j, p j = decide (HT.sIx xs.size 0 lo ≤ j ∧ j < HT.sIx xs.size xs.size hi)) →
      (xs.toList.zipIdx.filterMap fun q => if p q.2 = true then none else some q.1).toArray = (leftV xs.toList (HT.sIx xs.size 0 lo) (HT.sIx xs.size xs.size hi)).toArray := fun hp => by
    rw [zipIdx_filter hp xs.toList 0]
    simp [leftV]
  refine wpAny_delItem_slot isl.typeIs (by decide) PySem.F.slot_list_delitem (wpAny_call_entry PySem.F.slot_list_delitem isl.typeIs PySem.F.entry_list_delitem ?_ (PySem.F.args_list_delitem_2 _ _))
  -- a slice is no number: it is asked for its parts
  show wpAny _ _ (Builtin.List.listSubscript? (.ref sl) >>= _) _ _ sh
  refine wpAny_bind (show wpAny _ _ (Builtin.List.listSubscript? (.ref sl)) _ _ sh from ?_)
  unfold Builtin.List.listSubscript?
  refine wpAny_bind (wpAny_specialOf tyS slice_no_index ?_)
  rw [if_pos (by rfl)]
  refine wpAny_pure (show wpAny _ _ (typeOf (.ref sl) >>= _) _ _ sh from wpAny_bind (wpAny_typeOf tyS ?_))
  refine PySem.W.KFB.if_not (show (Value.type "slice" != Value.type "slice") = false by decide) ?_
  rw [listSliceParts_eq]
  refine wpAny_bind (wpAny_bind (wpAny_field hob hdt (x := .none) rfl (wpAny_bind (wpAny_listPart .none ?_))))
  rw [if_neg (show ¬ ((rawPart none == rawInt 0) = true) from Bool.false_ne_true)]
  refine wpAny_bind (wpAny_field hob hdt (x := v1) rfl (wpAny_bind (wpAny_listPart p1 (wpAny_bind (wpAny_field hob hdt (x := v2) rfl (wpAny_bind (wpAny_listPart p2 (wpAny_pure ?_))))))))
  unfold Builtin.List.listItems
  refine wpAny_bind (wpAny_bind (wpAny_seqItems ha rfl (wpAny_pure (wpAny_bind (wpAny_of_eq (sliceIndices_raw lo hi none xs.size (by simp)) ?_)))))
  generalize sliceBounds lo hi none xs.size = B at b1 b2 b3
  obtain ⟨B1, B2, B3⟩ := B
  simp only at b1 b2 b3
  subst b1 b2 b3
  refine wpAny_bind (wpAny_rule (show wpAny _ _ _ _ _ _ from wpAny_bind ?_))
  unfold Builtin.List.listUpdate
  refine wpAny_updateSeq (f := _) ha rfl ?_ hsz ?_
  · exact wpAny_bind (wpAny_letGo (wpAny_pure ⟨.none, rfl, h _ (key fun j => sel j)⟩))
  · have e0 := key (p := fun j => _) (fun j => sel j)
    refine Nat.le_succ_of_le (Nat.le_trans (Nat.le_of_eq (congrArg Array.size e0)) ?_)
    simp only [List.size_toArray, leftV, List.length_append, List.length_take, List.length_drop, Array.length_toList]
    omega
end
section
variable {X : Cx} {pos : Pos}
theorem del_slice {pins : List (Addr × Obj)} {sh : Shared} {σ : L2.St} {H : Hp} {a sl : Addr} {xs : List V} {lo hi : Option Int} {v1 v2 : Value} {Q : Unit → Shared → Prop} (I : Inv X pins σ H sh)
    (hH : H a = some (.lst xs)) (hsl : sh.heap.IsSliceOf sl v1 v2 .none) (p1 : IsPart v1 lo) (p2 : IsPart v2 hi)
    (h : ∀ s', Inv X pins σ (upd H a (.lst (leftV xs (HT.sIx xs.length 0 lo) (HT.sIx xs.length xs.length hi)))) s' → Q () s') :
    wpAny (model X.prog X.w) X.A (delItem (.ref a) (.ref sl)) Q X.xe sh := by
  obtain ⟨size, us, cap, vals, len, at_⟩ := I.lstM hH
  have e : us.toArray.size = xs.length := by rw [List.size_toArray, ← len]
  refine delItem_slice (lo := lo) (hi := hi) at_ hsl p1 p2 (by rw [e]; omega) fun g hg => h _ ?_
  rw [e] at hg
  refine I.lset (its' := leftV us (HT.sIx xs.length 0 lo) (HT.sIx xs.length xs.length hi)) (t' := sh.toks) hH at_ hg (Vals.append (vals.take _) (vals.drop _)) ?_
  show (leftV xs _ _).length ≤ _
  unfold leftV
  rw [List.length_append, List.length_take, List.length_drop]
  omega
/-- del o[lo:hi] of a list -/
def tDelSl (to : TE) (tl th : TO) : TS := fun D σ H => to σ H fun x H1 => tl σ H1 fun lo H2 => th σ H2 fun hi H3 => ∃ (l : Addr) (xs : List V), x = .ref l ∧ H3 l = some (.lst xs) ∧
  D.nx σ (upd H3 l (.lst (leftV xs (HT.sIx xs.length 0 lo) (HT.sIx xs.length xs.length hi))))
theorem ps_delSl {o : Expr} {lo hi : Option Expr} {to : TE} {tl th : TO} {tpos p2 : Pos} (ho : PE X o to) (hl : PO X lo tl) (hu : PO X hi th) : PS X (.Delete [.Subscript o (.Slice lo hi none p2) tpos] pos) (tDelSl to tl th) := by
  refine ⟨fun pins sh σ H D I h => ?_⟩
  refine wpAny_Delete (wpAny_deleteEach_cons (wpAny_delete_Subscript (thn (ho.run pins sh σ H _ I h) fun u s1 ⟨x, H1, I1, rx, q1⟩ => ?_)))
  refine wpAny_Slice (thn (hl.run pins s1 σ H1 _ I1 q1) fun vl s2 ⟨l, H2, I2, pl, q2⟩ => thn (hu.run pins s2 σ H2 _ I2 q2) fun vu s3 ⟨w, H3, I3, pu, q3⟩ => ?_)
  rw [evalPart_none]
  refine wpAny_pure ?_
  obtain ⟨a, xs, ex, hH, q4⟩ := q3
  subst ex
  cases (show u = Value.ref a from rx)
  exact del_slice (sh := { s3 with heap := s3.heap.push { cls := .type "slice", data := .fields #[vl, vu, .none] } }) (I3.kept (t' := s3.toks) fun b ob q => Heap.get?_push_of_some _ q) hH (Heap.IsSliceOf.new ..) pl pu fun s5 I5 => wpAny_deleteEach_nil ⟨σ, _, I5, q4⟩
end
end Dl

set_option autoImplicit false
set_option maxHeartbeats 4000000
namespace Kx
open PySem PySem.Spec PyProof.Rows L2
abbrev reB : List Value := [.type "RuntimeError", .type "Exception", .type "BaseException", .type "object"]
/-- what the written part says of a class over RuntimeError with an __init__ of its own -/
structure RexC (K : PySem.W.Frag) (C : Addr) : Prop where
  ini : PySem.W.excInitIn K C reB "RuntimeError.__new__" = true
  ovr : PySem.W.excOver K C reB = true
  hd : PySem.W.hasDictIn K C = true
  sa : PySem.W.findIn K (.ref C) "__setattr__" = some (some (.builtin "object.__setattr__"))
  exC : PySem.W.subIn K (.ref C) (.type "BaseException") = some true
  tyC : PySem.W.typeIn K (.ref C) = some (.type "type")
  kC : PySem.W.keepIn K (.ref C) = true
section
open Builtin Builtin.ObjectAttr PySem.W
variable {prog : Program} {w : World} {A : Around} {R : Result → Shared → Prop} {hp : Heap} {g : Array GenState} {d : Drawn} {t : Nat} {os : OsState}
/-- the first field of an exception, whatever its built-in base -/
theorem first_field {B : String} {bmB : List Value} (SF : StoreFacts B bmB "object.__setattr__" "object") {K : PySem.W.Frag} {name : Str} {tk : Tok} {v : Value} {x C : Addr} {fv : Array Value} (X : K.In hp) (hx : hp.get? x = some { cls := .ref C, data := .fields fv })
    (ov : PySem.W.excOver K C bmB = true) (hd : PySem.W.hasDictIn K C = true) (ht : PySem.W.takerIn K C name = some none)
    (hq : ∀ h' tk' dx, (∀ b o, b ≠ x → hp.get? b = some o → h'.get? b = some o) → hp.objs.size ≤ dx → dx ≠ x → h'.get? x = some { cls := .ref C, dict := some dx, data := .fields fv } →
      h'.Ns1 dx (fun y => if y = name then some v else none) → R (.ok (.ret .none)) ⟨h', g, d, tk', os⟩) :
    codeAny (model prog w) A (.call (.builtin "object.__setattr__") ⟨[.ref x, .str name tk, v], []⟩) R ⟨hp, g, d, t, os⟩ := by
  have I : PySem.W.InstAt hp x { cls := .ref C, data := .fields fv } C none := ⟨hx, rfl, rfl, trivial⟩
  have hxs : x ≠ hp.objs.size := Nat.ne_of_lt (Heap.lt_size hx)
  refine PySem.W.osa_openX (s := ⟨hp, g, d, t, os⟩) SF X I ov ht fun b => ?_
  obtain ⟨cd, hc, hh⟩ := PySem.W.any_some hd
  have hcls : PySem.W.Looks (model prog w) hp (classData C) cd := PySem.W.looks_clsIn X hc
  obtain ⟨nm, bs, mro, ns, qn, hd1, sn, sb, ab, col, del⟩ := cd
  dsimp only at hh
  subst hh
  unfold storeInOwnDict ownDictForStores
  repeat (first | with_reducible refine PySem.HandSPX.store_in_new ?_ ?_ | with_reducible refine wpAny_loadPart_at hx ?_ | with_reducible refine hcls.at ?_ | wp_step)
  · exact ⟨_, #[], _, (Heap.get?_update_ne _ _ _ _ hxs.symm).trans (Heap.get?_push_at rfl rfl), rfl, fun e he => absurd he (by simp), fun _ => rfl⟩
  · intro h' tk' hn' hs
    have hx₁ : (hp.push { cls := .type "dict", data := .dict #[] }).get? x = some { cls := .ref C, data := .fields fv } := Heap.get?_push_of_some _ hx
    refine hq h' tk' hp.objs.size (fun b o hb ho => ?_) (Nat.le_refl _) hxs.symm ?_ hn'
    · exact (hs.2 b (Nat.ne_of_lt (Heap.lt_size ho))).trans ((Heap.get?_update_ne _ _ _ _ hb).trans (Heap.get?_push_of_some _ ho))
    · exact (hs.2 x hxs).trans (Heap.get?_update_self _ hx₁ rfl)
end
section
variable {X : Cx} {pins : List (Addr × Obj)} {σ : L2.St} {H : Hp} {s : Shared} {a C dx : Addr} {f : Str} {y : V} {u : Value} {Q : Unit → Shared → Prop} {E : Value → Shared → Prop} {A : Around}
theorem osr_new (T : RexC X.K C) (I : Inv X pins σ H s) (e : H a = some (exo a C none)) (hno : PySem.W.takerIn X.K C f = some none) (ry : RelV y u)
    (h : ∀ dx s', H dx = none → dx ≠ a → Inv X pins σ (upd (upd H dx (exd dx [(f, y)])) a (exo a C (some dx))) s' → Q () s') : wpAny (model X.prog X.w) A (setAttr (.ref a) f u) Q E s := by
  obtain ⟨t1, ho⟩ := exo_at I.hok e
  obtain ⟨hp, g, d, t, os⟩ := s
  refine PySem.W.set_plain I.kIn (ox := { cls := .ref C, dict := none, data := .fields #[.ref t1, .none, .none, .none, .bool false, .none] }) (od := none) ⟨ho, rfl, rfl, trivial⟩ T.sa ?_
  refine first_field PySem.F.store_RuntimeError I.kIn ho T.ovr T.hd hno (fun h' tk' dx k dn dne hx hn => ?_)
  have hnd : H dx = none := I.hok.fresh dn
  have nd : ∀ {b : Addr} {o : Obj}, hp.get? b = some o → b ≠ dx := fun {b o} q => Nat.ne_of_lt (Nat.lt_of_lt_of_le (Heap.lt_size q) dn)
  have na : ∀ {b : Addr}, H b = none → b ≠ a := fun {b} n z => by
    rw [z, e] at n
    cases n
  refine h dx _ hnd dne (I.un (t' := tk') {
    keep := fun b o q n _ _ => k b o (na n) q
    slot := fun b o q n _ _ => ⟨o.slots, k b o (na n) q⟩
    free := fun b o q n _ => by rw [upd_ne (na n), upd_ne (nd q)]; exact n
    there := fun b o q _ => by
      by_cases hb : b = a
      · exact ⟨_, by rw [hb]; exact hx⟩
      · exact ⟨o, k b o hb q⟩
    tups := fun b xs q => by rw [upd_ne (at_ne e q exo_tup), upd_ne (ne_of_none q hnd)]; exact q
    frzs := fun b o v q => by rw [upd_ne (at_ne e q exo_frz), upd_ne (ne_of_none q hnd)]; exact q
    tbls := fun b ps q => ⟨#[], by rw [upd_ne (at_ne e q exo_tbl), upd_ne (ne_of_none q hnd), q]; simp⟩ } fun b o q => ?_)
  by_cases hb : b = a
  · subst hb
    rw [upd_same] at q
    cases q
    exact exo_ok hx
  · rw [upd_ne hb] at q
    by_cases hd : b = dx
    · subst hd
      rw [upd_same] at q
      cases q
      exact exd_ok hn (relO_put (fs := []) ry fun g => True.intro)
    · rw [upd_ne hd] at q
      exact (I.hok b o q).stay (fun c v hc z => k c v (by
          rcases hc with hc | hc
          · rw [hc]
            exact hb
          · exact at_ne e hc exo_own) z)
        (fun c hc => by rw [upd_ne (at_ne e hc exo_own), upd_ne (ne_of_none hc hnd)]; exact hc) (fun c xs hc => by rw [upd_ne (at_ne e hc exo_tup), upd_ne (ne_of_none hc hnd)]; exact hc)
end
def tOsr (K : PySem.W.Frag) (f : Str) (to te : TE) : TS := fun D σ H => te σ H fun y H1 => to σ H1 fun x H2 => ∃ a C : Addr, x = .ref a ∧ RexC K C ∧ PySem.W.takerIn K C f = some none ∧
  H2 a = some (exo a C none) ∧ ∀ dx, H2 dx = none → dx ≠ a → D.nx σ (upd (upd H2 dx (exd dx [(f, y)])) a (exo a C (some dx)))
section
variable {X : Cx} {o e : Expr} {es : List Expr} {to te : TE} {ta : TA} {f : Str} {p p' p1 p2 pos : Pos}
/-- self.f = e in the __init__ of such a class -/
theorem ps_osr (ho : PE X o to) (he : PE X e te) (hs : swapsWith e (some (.Attribute o f p')) pos.line X.env = pure false := by rfl) : PS X (.Assign [.Attribute o f p'] e pos) (tOsr X.K f to te) := by
  refine ⟨fun pins s σ H D I h => ?_⟩
  refine plainObj_wpAny_Assign_Attribute (thn (he.run pins s σ H _ I h) fun v s1 ⟨y, H1, I1, r1, q1⟩ => thn (ho.run pins s1 σ H1 _ I1 q1) fun u s2 ⟨x, H2, I2, r2, a, C, ex, T, hno, ea, q⟩ => ?_) hs
  subst ex
  obtain rfl : u = Value.ref a := r2
  exact osr_new T I2 ea hno r1 fun dx s' n ne J => ⟨σ, _, J, q dx n ne⟩
/-- such a class, called -/
theorem pmk_rex {CX : CXT} {x : Str} {C fI : Addr} {k : Nat} {fd : FuncData} {ps : List Str} {sp : Sp} {ds : List Value} {dvs : List V} (T : RexC X.K C) (iC : PySem.W.findIn X.K (.ref C) "__init__" = some (some (.ref fI))) (tI : PySem.W.typeIn X.K (.ref fI) = some (.type "function"))
    (F1 : FnOk X.prog X.w X.K X.mg X.base CX k fI fd ps sp) (hr : Room (k + 1) X.A) (hb : Binds X.K fd ps ds) (hd : Vals dvs ds) (hx : Passes CX X (fun _ _ _ => False)) (hg : Gl X x) (hm : X.mg x = some (.ref C)) (ha : PA X (e :: es) ta)
    (hdb : (x == ("__debug__" : Str)) = false := by decide) (he : starEach (e :: es) X.env = (false, eval e X.env) :: starEach es X.env := by rfl) (hpl : (backTo pos (starEach es X.env)).any (·.1) = false := by rfl) :
    PMk X (.Call (.Name x p) (e :: es) [] pos) (tMkO C sp dvs ta) := by
  intro pins s σ H Q I h
  refine wpAny_Call_Name_kw (ld_glob I hg hm ?_ hdb)
  refine PySem.W.callWith_K (h₀ := X.base) I.ok.mod.kin T.kC (thn (ha.run pos pins s σ H _ I h) fun us s1 ⟨vs, H1, I1, r1, hz, q1⟩ => ⟨I1.kIn, ?_⟩) he hpl
  show wpAny _ _ (call (.ref C) us) _ _ _
  obtain ⟨hp, g, dr, tk, os⟩ := s1
  obtain ⟨nm, N, qn, bs, bm, hdct, sn, sub, ab, col, dd, k0, k1, k2, k3, k5, hC, hT⟩ := PySem.W.excInit_of I1.kIn T.ini
  have hsz : hp.objs.size ≤ hp.objs.size + 1 := Nat.le_succ _
  have hn : H1 (hp.objs.size + 1) = none := I1.hok.fresh hsz
  have hq := q1 (hp.objs.size + 1) hn
  have kk : ∀ b o, hp.get? b = some o → ((hp.push (PySem.W.kdv_tup us)).push (PySem.HandSPX.excO C hp.objs.size)).get? b = some o := fun b o e => Heap.get?_push_of_some _ (Heap.get?_push_of_some _ e)
  have hget : ((hp.push (PySem.W.kdv_tup us)).push (PySem.HandSPX.excO C hp.objs.size)).get? (hp.objs.size + 1) = some (PySem.HandSPX.excO C hp.objs.size) := by heap_get
  have I2 : Inv X pins σ (upd H1 (hp.objs.size + 1) (exo (hp.objs.size + 1) C none)) ⟨(hp.push (PySem.W.kdv_tup us)).push (PySem.HandSPX.excO C hp.objs.size), g, dr, tk, os⟩ :=
    I1.laid (t' := tk) (a := hp.objs.size + 1) (o := exo (hp.objs.size + 1) C none) (h' := (hp.push (PySem.W.kdv_tup us)).push (PySem.HandSPX.excO C hp.objs.size)) kk hsz (exo_ok hget)
  have r2 : Vals (V.ref (hp.objs.size + 1) :: (vs ++ dvs)) (Value.ref (hp.objs.size + 1) :: (us ++ ds)) := .cons rfl (r1.append hd)
  have hl : (Value.ref (hp.objs.size + 1) :: us ++ ds).length = ps.length := by
    have e := r2.length
    rw [F1.len _ _ _ _ hq] at e
    exact e.symm
  have hus : us.length ≤ sizeLine := by
    rw [← Paired.length r1, sizeLine_eq]
    omega
  refine wpAny_call (PySem.HandSPX.call_own F.excBase_RuntimeError hT hC (PySem.W.looks_findIn I1.kIn iC) (fun self => PySem.W.bind_fn I1.kIn self tI) hus
    (codeAny_mono (F1.run _ X.stack _ _ ⟨Value.ref (hp.objs.size + 1) :: us, []⟩ (Value.ref (hp.objs.size + 1) :: (us ++ ds)) _ _ (fun _ _ _ => False) (hr.make C us []) (I2.env0.make C us []) (hb _ (Value.ref (hp.objs.size + 1) :: us) I2.kIn hl) r2 hq) fun r s' hq' => ?_))
  cases r with
  | error er => exact hx pins σ _ _ er s' I2 hq'
  | ok fl =>
    cases fl with
    | ret u =>
      obtain ⟨v, H2, os2, bare2, un2, hok2, rv, ev, d, fs, ea, ed, hd1, q2⟩ := hq'
      subst ev
      obtain ⟨h2, g2, d2, t2, os'⟩ := s'
      exact ⟨rv, mk_end (raises_own T.exC T.tyC) I1 hsz kk un2 hok2 os2 bare2 ea ed hd1 q2⟩
    | next => exact False.elim hq'
    | brk => exact False.elim hq'
    | cont => exact False.elim hq'
end
/-! ### a caught exception, kept behind its handler -/
def Exh (cls : Value) (d : Option Addr) (a : Addr) : HO := .ext fun h => ∃ (oe : Obj) (vs : Array Value), h.get? a = some oe ∧ Zc cls d oe ∧ oe.data = .fields vs
theorem exh_ok {P : Program} {w : World} {H : Hp} {h : Heap} {a : Addr} {cls : Value} {d : Option Addr} {oe : Obj} {vs : Array Value} (e : h.get? a = some oe) (z : Zc cls d oe) (dd : oe.data = .fields vs) : ObjOk P w H h a (Exh cls d a) :=
  ⟨⟨oe, vs, e, z, dd⟩, ⟨oe, e⟩, fun _ _ ⟨o, v, q, r⟩ k => ⟨o, v, k o q, r⟩⟩
theorem exh_at {P : Program} {w : World} {H : Hp} {h : Heap} {a : Addr} {cls : Value} {d : Option Addr} (hok : HOk P w H h) (e : H a = some (Exh cls d a)) : ∃ (oe : Obj) (vs : Array Value), h.get? a = some oe ∧ Zc cls d oe ∧ oe.data = .fields vs := by
  have x : ObjOk P w H h a (Exh cls d a) := hok a _ e
  exact x.1
section
variable {X : Cx} {pins : List (Addr × Obj)} {σ : L2.St} {H : Hp} {s : Shared}
theorem Inv.track (I : L2.Inv X pins σ H s) {a : Addr} {cls : Value} {d : Option Addr} {oe : Obj} {vs : Array Value} (na : H a = none) (n0 : X.s_0.heap.get? a = none) (he : s.heap.get? a = some oe) (hz : Zc cls d oe) (hd : oe.data = .fields vs)
    (nL : a ≠ X.env.locals) (np : ∀ p ∈ X.pn ++ pins, p.1 ≠ a) : L2.Inv X pins σ (upd H a (Exh cls d a)) s := by
  have U := I.base
  refine ⟨I.ok, I.os, I.bare, ⟨U.keep, U.slot, fun b o q n hx => ?_, U.there, fun b xs q => ?_, fun b o v q => ?_, fun b ps q => ?_⟩, I.loc, I.cell, ?_, fun x c e => ?_, fun p hp => ?_, HOk.laidN I.hok (fun _ _ e => e) na (exh_ok he hz hd), I.len⟩
  · rw [upd_ne (fun z => by rw [z, n0] at q; cases q)]
    exact U.free b o q n hx
  · have z := U.tups b xs q
    rw [upd_ne (ne_of_none z na)]
    exact z
  · have z := U.frzs b o v q
    rw [upd_ne (ne_of_none z na)]
    exact z
  · obtain ⟨m, z⟩ := U.tbls b ps q
    exact ⟨m, by rw [upd_ne (ne_of_none z na)]; exact z⟩
  · rw [upd_ne (Ne.symm nL)]
    exact I.free
  · have nc : c ≠ a := fun z => by
      obtain ⟨v, o, ho, hc⟩ := I.cell x c e
      rw [z, he] at ho
      cases ho
      rw [hd] at hc
      cases hc
    rw [upd_ne nc]
    exact I.freeC x c e
  · obtain ⟨e1, n1, n2, n3, n4⟩ := I.pin p hp
    exact ⟨e1, by rw [upd_ne (np p hp)]; exact n1, n2, n3, n4⟩
end
/-- as wAs, but what was caught stays told of behind the suite -/
def wKeep (K : PySem.W.Frag) (c : Value) (i : Nat) (ts : Addr → Value → Option Addr → TS) (Wout : WX) (D : Ends) : WX := fun cls d σ H =>
  ∃ b, PySem.W.exmOne K cls c = some b ∧ (b = true → ∀ a, H a = none → ts a cls d { nx := fun σ' H' => D.nx (σ'.set i none) (upd H' a (Exh cls d a)), rt := D.rt, bk := fun σ' H' => D.bk (σ'.set i none) H', ct := fun σ' H' => D.ct (σ'.set i none) H' } (σ.set i (some (.ref a))) H) ∧
    (b = false → Wout cls d σ H)
section
variable {X : Cx} {x n : Str} {c : Value} {i : Nat} {body suite : List Stmt} {b₀ : Stmt} {np pos pos' : Pos} {tb : WX → TS} {ts : Addr → Value → Option Addr → TS} {Wout : WX}
theorem ps_try_keep (hs : X.stack = X.env :: X.outer) (hf : X.env.frame = some X.env.locals) (hex : X.ex = []) (hN : X.N.Nodup) (hi : X.N[i]? = some n) (hln : X.env.kindOf n = some .local) (hc : Names X x c) (tk : Takes X Wout)
    (hb : ∀ (W : WX) (pn : List (Addr × Obj)) (xe : Value → Shared → Prop), Takes (X.tr pn xe) W → PassesOwn (model X.prog X.w) X.A X.env xe → PSs (X.tr pn xe) body (tb W))
    (hsu : ∀ (a : Addr) (oe : Obj) (cls : Value) (d : Option Addr) (pn : List (Addr × Obj)), Zc cls d oe → (∃ vs, oe.data = .fields vs) → PSs (X.suite a ((a, oe) :: pn)) (b₀ :: suite) (ts a cls d)) :
    PS X (.Try body [.ExceptHandler (some (.Name x np)) (some n) (b₀ :: suite) pos'] [] [] pos) (fun D σ H => tb (wKeep X.K c i ts Wout D) D σ H) := by
  refine ⟨fun pins s σ H D I h => ?_⟩
  have ok := I.ok
  have hfr : X.A.frames = some (X.env :: X.outer) := by rw [ok.frames, hs]
  have hloc : Loc X.env.scope n := .inl hln
  refine wpAny_Try_except ?_
  refine wpAny_mono ((hb (wKeep X.K c i ts Wout D) (X.pn ++ pins) (fun e s₁ => wpAny (model X.prog X.w) X.A (noteFrame e X.env) (fun _ s₂ => wpAny (model X.prog X.w) X.A (setFlight e none) (fun _ s₃ =>
    wpAny (model X.prog X.w) X.A (handleBy e X.env [.ExceptHandler (some (.Name x np)) (some n) (b₀ :: suite) pos']) (SP X pins D) X.xe s₃) X.xe s₂) X.xe s₁) (fun u s' xx => ?_) PassesOwn.looking).run [] s σ H D (I.toTry _) h) (fun f s1 hsp => ?_) (fun e s1 he => he)
  · obtain ⟨a, B, sI, pins', σ', H', cls, d, rfl, J', nb, up, sky, na, os, ag, b, hb1, hyes, hno⟩ := xx
    have J : L2.Inv X pins σ' H' sI := J'.ofTry ok
    have sky' : Sky B (X.env :: X.outer) a (Zc cls d) X.env.locals s'.heap := by rw [← hs]; exact sky
    show wpAny (model X.prog X.w) X.A (noteFrame (.ref a) X.env) _ _ _
    refine Sky.land Zc.steady hfr hf sky' fun h3 fl3 up3 => ?_
    have J3 : L2.Inv X pins σ' H' { s' with heap := h3 } := J.landed nb fl3.1 (up.trans up3) os ag
    obtain ⟨oe3, vs3, he3, hz3, hd3⟩ := fl3.there
    have nfr : a ∉ frs (X.env :: X.outer) := fun hm => by
      obtain ⟨_, o', e', hnf⟩ := fl3.2.2.1.mem hm
      rw [he3] at e'; cases e'
      exact hnf _ hd3
    have nI : sI.heap.get? a = none := by
      cases q : sI.heap.get? a with
      | none => rfl
      | some o =>
        have z := nb a o q (by rw [hs]; exact nfr)
        rw [fl3.2.1] at z
        cases z
    have n0 : X.s_0.heap.get? a = none := by
      cases q : X.s_0.heap.get? a with
      | none => rfl
      | some o =>
        obtain ⟨o', z⟩ := J.base.there a o q (by rw [hex]; exact fun z => nomatch z)
        rw [nI] at z
        cases z
    have nP : ∀ p ∈ X.pn ++ pins, p.1 ≠ a := fun p hp z => by
      obtain ⟨e1, _⟩ := J.pin p hp
      rw [z, nI] at e1
      cases e1
    have nL : a ≠ X.env.locals := fun z => nfr (List.mem_filterMap.mpr ⟨X.env, List.mem_cons_self, by rw [hf, z]⟩)
    have nF : a ∉ X.fs := fun hm => by
      obtain ⟨e, he, q⟩ := List.mem_filterMap.mp hm
      exact nfr (List.mem_filterMap.mpr ⟨e, List.mem_cons_of_mem _ he, q⟩)
    have S3 := J3.suite he3 hd3 na nL nF
    refine wpAny_handleBy_cons (codeAny_handlers_test ?_) (by intro q; cases q)
    have LT : PySem.W.Looks (model X.prog X.w) h3 (typeOf (.ref a)) cls := fun A Q E s k q => wpAny_typeOf_ref (k _ _ he3) (by rw [hz3.1]; exact q)
    have LM := PySem.W.exm_one (M := model X.prog X.w) (J3.kIn) LT hb1
    have test : ∀ {Q : Value → Shared → Prop} {E : Value → Shared → Prop}, Q c { s' with heap := h3 } → wpAny (model X.prog X.w) (X.A.mark (some (.ref a))) (eval (.Name x np) X.env) Q E { s' with heap := h3 } := fun {Q E} q => by
      obtain ⟨hg, hdbg, hm | ⟨hm, hv, hnn⟩⟩ := hc
      · exact ld_glob (X := X.suite a ((a, oe3) :: (X.pn ++ pins))) S3 hg hm q hdbg
      · exact ld_blt (X := X.suite a ((a, oe3) :: (X.pn ++ pins))) S3 hg hm hv q hnn hdbg
    refine test (LM.here ?_)
    cases b with
    | true =>
      refine codeAny_handlers_suite_as ?_
      refine HandSPX.lands_againZ fl3 fun h4 fl4 up4 => ?_
      have J4 : L2.Inv X pins σ' H' { s' with heap := h4 } := J.landed nb fl4.1 ((up.trans up3).trans up4) os ag
      obtain ⟨oe4, vs4, he4, hz4, hd4⟩ := fl4.there
      have S4 := J4.suite he4 hd4 na nL nF
      refine store_ok (X := X.suite a ((a, oe4) :: (X.pn ++ pins))) (v := .ref a) S4 hN hi hloc rfl (fun s5 S5 => ?_) (.inr hln)
      refine wpAny_mono ((hsu a oe4 cls d (X.pn ++ pins) hz4 ⟨_, hd4⟩).run [] s5 _ H' _ S5 (hyes rfl a na)) (fun f s6 hsp => ?_) (fun _ _ z => False.elim z)
      have end_ : ∀ {σ6 : L2.St} {H6 : Hp} {Q : Shared → Prop}, L2.Inv (X.suite a ((a, oe4) :: (X.pn ++ pins))) [] σ6 H6 s6 → (∀ s7, L2.Inv X pins (σ6.set i none) H6 s7 → Q s7) →
          wpAny (model X.prog X.w) X.A (do bindName X.env n .none; unbindBehindTheSuite X.env n pos') (fun _ s7 => Q s7) X.xe s6 := fun {σ6 H6 Q} S6 hq => gone_ok (S6.unsuite ok) hN hi hln hq
      cases f with
      | next =>
        obtain ⟨σ6, H6, S6, q6⟩ := hsp
        obtain ⟨p1, p2, _⟩ := S6.pin (a, oe4) (List.mem_append_left _ List.mem_cons_self)
        have T6 : L2.Inv X pins σ6 (upd H6 a (Exh cls d a)) s6 := Inv.track (S6.unsuite ok) p2 n0 p1 hz4 hd4 nL nP
        exact gone_ok T6 hN hi hln fun s7 J7 => ⟨_, _, J7, q6⟩
      | brk =>
        obtain ⟨σ6, H6, S6, q6⟩ := hsp
        exact end_ S6 fun s7 J7 => ⟨_, _, J7, q6⟩
      | cont =>
        obtain ⟨σ6, H6, S6, q6⟩ := hsp
        exact end_ S6 fun s7 J7 => ⟨_, _, J7, q6⟩
      | ret u =>
        obtain ⟨v6, σ6, H6, S6, r6, q6⟩ := hsp
        exact end_ S6 fun s7 J7 => ⟨_, _, _, J7, r6, q6⟩
    | false =>
      show wpAny _ X.A (handleBy (.ref a) X.env []) _ _ _
      refine wpAny_handleBy_nil ?_
      obtain ⟨k1, k2, k3, oe, vs, T, oT, ts', he, hz, hd, h1, hr⟩ := id fl3
      unfold PySem.passOn
      refine wpAny_bind (wpAny_field he hd h1 ?_)
      rw [if_neg (show ¬ ((Value.ref T == Value.none) = true) from by simp)]
      have fin : wpAny (model X.prog X.w) X.A (setFlight (.ref a) X.env.frame) (fun _ s4 => wpAny (model X.prog X.w) X.A (throw (.ref a) : Sem Flow) (SP X pins D) X.xe s4) X.xe { s' with heap := h3 } := by
        rw [hf]
        refine HandSPX.setFlight_upZ fl3 fun h4 hh4 up4 => wpAny_throw (tk _ _ ?_)
        exact ⟨a, B, sI, pins, σ', H', cls, d, rfl, J, nb, (up.trans up3).trans up4, .inr (.inr (by rw [hs]; exact hh4)), na, os, ag, hno rfl⟩
      first
        | exact wpAny_bind (wpAny_pure (wpAny_bind fin))
        | exact wpAny_bind fin
  · cases f with
    | next =>
      obtain ⟨σ', H', J', q⟩ := hsp
      exact wpAny_execs_nil ⟨σ', H', J'.ofTry ok, q⟩
    | brk =>
      obtain ⟨σ', H', J', q⟩ := hsp
      exact ⟨σ', H', J'.ofTry ok, q⟩
    | cont =>
      obtain ⟨σ', H', J', q⟩ := hsp
      exact ⟨σ', H', J'.ofTry ok, q⟩
    | ret u =>
      obtain ⟨v, σ', H', J', r, q⟩ := hsp
      exact ⟨v, σ', H', J'.ofTry ok, r, q⟩
end
/-- e.f, e a kept exception of an own class -/
def tXh (K : PySem.W.Frag) (f : Str) (te : TE) : TE := fun σ H Q => te σ H fun x H1 => ∃ (a C dd : Addr) (fs : List (Str × V)) (v : V), x = .ref a ∧ H1 a = some (Exh (.ref C) (some dd) a) ∧ XfC K C ∧ PySem.W.findIn K (.ref C) f = some none ∧ H1 dd = some (.xd fs) ∧ fs.lookup f = some v ∧ Q v H1
/-- isinstance(e, c), e a kept exception of an own class -/
def rIsH (K : PySem.W.Frag) : List V → Hp → VK → Prop := fun xs H Q => ∃ (a D dd : Addr) (fs : List (Str × V)) (c : V) (cv : Value) (b : Bool), xs = [.ref a, c] ∧ H a = some (Exh (.ref D) (some dd) a) ∧ H dd = some (.xd fs) ∧ ExcC K D ∧ (PySem.W.clsIn K D).isSome = true ∧ (∀ u, RelV c u → u = cv) ∧ PySem.W.kitOne K (.ref D) cv = some b ∧ Q (.bl b) H
section
variable {X : Cx}
theorem pe_xh {e : Expr} {te : TE} {pos : Pos} {n : Str} (he : PE X e te) (hb : attributeBase e n X.env (eval e X.env) = eval e X.env := by rfl) : PE X (.Attribute e n pos) (tXh X.K n te) := by
  refine ⟨fun pins s σ H Q I h => ?_⟩
  refine attr_of hb (thn (he.run pins s σ H _ I h) fun u s1 hh => ?_)
  obtain ⟨x, H1, I1, rx, a, C, dd, fs, v, ex, eh, T, hno, ea, l, q⟩ := hh
  subst ex
  obtain rfl : u = Value.ref a := rx
  obtain ⟨oe, vs, ha, hz, hd⟩ := exh_at I1.hok eh
  have hx : ObjOk X.prog X.w H1 s1.heap dd (.xd fs) := I1.hok dd _ ea
  obtain ⟨mA, hns, hr⟩ := hx
  obtain ⟨od, ho, hl⟩ := lookIn_ns hns
  obtain ⟨u, hu, ru⟩ := RelO.some_of (v := v) (o := mA n) (by rw [← l]; exact hr n)
  have J : PySem.W.InstAt s1.heap a oe C (some od) := ⟨ha, hz.1, by unfold PySem.W.notCls; rw [hd] <;> rfl, by rw [hz.2]; exact ho⟩
  exact HandSPX.exc_get I1.kIn J T.ga T.gg T.exC (PySem.W.findObj_own T.hdC hno rfl (by rw [hl, hu])) (handed_of ru) ⟨v, H1, I1.tok _, ru, q⟩
theorem call_isH : CallR X (.builtin "isinstance") (rIsH X.K) := by
  intro pins s σ H xs us Q I r h
  obtain ⟨a, D, dd, fs, c, cv, b, rfl, eh, ed, C, cl, hcv, e, q⟩ := h
  cases r with
  | cons rx rr =>
    cases rr with
    | cons rt rr =>
      cases rr
      cases rx
      have ec := hcv _ rt
      subst ec
      obtain ⟨oe, vs, ha, hz, hd⟩ := exh_at I.hok eh
      have hx : ObjOk X.prog X.w H s.heap dd (.xd fs) := I.hok dd _ ed
      obtain ⟨mA, hns, hr⟩ := hx
      obtain ⟨od, ho, hl⟩ := lookIn_ns hns
      have J : PySem.W.InstAt s.heap a oe D (some od) := ⟨ha, hz.1, by unfold PySem.W.notCls; rw [hd] <;> rfl, by rw [hz.2]; exact ho⟩
      exact PySem.W.kia_one (PySem.W.kitx_exc cl C.hg C.hk C.hs C.ha C.hn C.ht C.hm) I.kIn J e (fun z => nomatch z) fun tk => ⟨.bl b, H, I.kept (t' := tk) fun _ _ z => z, rfl, q⟩
end
end Kx

set_option autoImplicit false
set_option maxHeartbeats 2000000
namespace St7
open PySem PySem.Spec PyProof.Rows L2 Dl Kx
def inCls (s : Stmt) (i : Nat) : Stmt := match s with
  | .ClassDef _ _ _ b _ _ _ _ _ _ _ => b.getD i (.Pass ⟨0, 0, 0, 0⟩)
  | _ => .Pass ⟨0, 0, 0, 0⟩
abbrev sFInit : Stmt := inCls sFellC 0
abbrev sInit : Stmt := inCls sStoreC 0
abbrev sWrite : Stmt := inCls sStoreC 1
abbrev sLetGo : Stmt := inCls sStoreC 2
abbrev sCut : Stmt := inCls sStoreC 3
abbrev sRows : Stmt := inCls sStoreC 4
abbrev sSteps : Stmt := inCls sStoreC 5
abbrev sIsUp : Stmt := inCls sStoreC 6
abbrev sFallAt : Stmt := inCls sStoreC 7
abbrev sFalls : Stmt := inCls sStoreC 8
abbrev sBegin : Stmt := inCls sStoreC 9
/-! ### the refusal -/
theorem scFInit : FnScope ["self", "step"] ["self", "step"] (defScope sFInit) := ⟨rfl, rfl, rfl, by decide +kernel, rfl, by decide +kernel, by decide +kernel⟩
def spFInit (K : PySem.W.Frag) (C : Addr) : Sp := fun vs H Q _ => ∃ (a : Addr) (v : V), vs = [.ref a, v] ∧ H a = some (exo a C none) ∧ ∀ dx, H dx = none → dx ≠ a → Q .non (upd (upd H dx (exd dx [("step", v)])) a (exo a C (some dx)))
structure FellT (K : PySem.W.Frag) (mg : Str → Option Value) (C fI : Addr) (fdI : FuncData) : Prop where
  ox : RexC K C
  tk : PySem.W.takerIn K C "step" = some none
  g : mg "Fell" = some (.ref C)
  noAt : PySem.W.findIn K (.ref C) "step" = some none
  iC : PySem.W.findIn K (.ref C) "__init__" = some (some (.ref fI))
  tI : PySem.W.typeIn K (.ref fI) = some (.type "function")
  fn : FunD K "__init__" "Fell.__init__" (defArgs sFInit) (defBody sFInit) (defScope sFInit) [] [] fI fdI
/-! ### a store -/
structure SM where
  rows : List Str
  steps : Nat
  fall : Option Int
  signs : Int
  fell : Option Nat
def oV : Option Int → V
  | none => .non
  | some i => .int i
def oN : Option Nat → V
  | none => .non
  | some i => .int (i : Int)
def sfr (l : Addr) (a f g e : V) : List (Str × V) := [("_rows", .ref l), ("_steps", a), ("_fall", f), ("_signs", g), ("_fell", e)]
abbrev sf (l : Addr) (m : SM) : List (Str × V) := sfr l (.int (m.steps : Int)) (oV m.fall) (.int m.signs) (oN m.fell)
theorem sf_rows (l : Addr) (a f g e : V) : (sfr l a f g e).lookup ("_rows" : Str) = some (.ref l) := by kernel_rfl
theorem sf_steps (l : Addr) (a f g e : V) : (sfr l a f g e).lookup ("_steps" : Str) = some a := by kernel_rfl
theorem sf_fall (l : Addr) (a f g e : V) : (sfr l a f g e).lookup ("_fall" : Str) = some f := by kernel_rfl
theorem sf_signs (l : Addr) (a f g e : V) : (sfr l a f g e).lookup ("_signs" : Str) = some g := by kernel_rfl
theorem sf_fell (l : Addr) (a f g e : V) : (sfr l a f g e).lookup ("_fell" : Str) = some e := by kernel_rfl
theorem sf_put_steps (l : Addr) (a f g e x : V) : putF "_steps" x (sfr l a f g e) = sfr l x f g e := by kernel_rfl
theorem sf_put_fall (l : Addr) (a f g e x : V) : putF "_fall" x (sfr l a f g e) = sfr l a x g e := by kernel_rfl
theorem sf_put_signs (l : Addr) (a f g e x : V) : putF "_signs" x (sfr l a f g e) = sfr l a f x e := by kernel_rfl
theorem sf_put_fell (l : Addr) (a f g e x : V) : putF "_fell" x (sfr l a f g e) = sfr l a f g x := by kernel_rfl
theorem sf_make (l : Addr) (a f g e : V) : putF "_fell" e (putF "_signs" g (putF "_fall" f (putF "_steps" a (putF "_rows" (.ref l) [])))) = sfr l a f g e := by kernel_rfl
theorem sf_no1 (l : Addr) (a f g e : V) : (sfr l a f g e).lookup ("write" : Str) = none := by kernel_rfl
theorem sf_no2 (l : Addr) (a f g e : V) : (sfr l a f g e).lookup ("let_go" : Str) = none := by kernel_rfl
theorem sf_no3 (l : Addr) (a f g e : V) : (sfr l a f g e).lookup ("cut" : Str) = none := by kernel_rfl
theorem sf_no4 (l : Addr) (a f g e : V) : (sfr l a f g e).lookup ("rows" : Str) = none := by kernel_rfl
theorem sf_no5 (l : Addr) (a f g e : V) : (sfr l a f g e).lookup ("steps" : Str) = none := by kernel_rfl
theorem sf_no6 (l : Addr) (a f g e : V) : (sfr l a f g e).lookup ("is_up" : Str) = none := by kernel_rfl
theorem sf_no7 (l : Addr) (a f g e : V) : (sfr l a f g e).lookup ("fall_at" : Str) = none := by kernel_rfl
theorem sf_no8 (l : Addr) (a f g e : V) : (sfr l a f g e).lookup ("_falls_now" : Str) = none := by kernel_rfl
theorem sf_no9 (l : Addr) (a f g e : V) : (sfr l a f g e).lookup ("_begin_step" : Str) = none := by kernel_rfl
theorem sf_len (l : Addr) (a f g e : V) : (sfr l a f g e).length < 1000 := by show 5 < 1000; omega
structure StAt (C : Addr) (H : Hp) (p l : Addr) (m : SM) : Prop where
  ins : ∃ dx, H p = some (.ins C dx (sf l m))
  rows : H l = some (.lst (m.rows.map V.str))
  small : m.rows.length ≤ 1000
theorem StAt.ne {C : Addr} {H : Hp} {p l : Addr} {m : SM} (a : StAt C H p l m) : l ≠ p := by
  obtain ⟨dx, e⟩ := a.ins
  exact ne_of a.rows e (by intro z; cases z)
theorem StAt.fr {S : List Addr} {C : Addr} {H H1 : Hp} {p l : Addr} {m : SM} (a : StAt C H p l m) (f : Fr S H H1) (h1 : p ∉ S) (h2 : l ∉ S) : StAt C H1 p l m := by
  obtain ⟨⟨dx, e⟩, e2, s⟩ := a
  exact ⟨⟨dx, f _ _ h1 e⟩, f _ _ h2 e2, s⟩
/-- does the next step fall -/
def SM.falls (m : SM) : Bool := decide (m.fell = none) && decide (m.fall = some (m.steps : Int))
/-- what a step makes of the counts, and with which number it is refused -/
def SM.begin (m : SM) : SM × Option Nat := if m.falls = true then ({ m with fell := some m.steps }, some m.steps) else match m.fell with
  | some k => (m, some k)
  | none => ({ m with steps := m.steps + 1 }, none)
structure StoreT (K : PySem.W.Frag) (mg : Str → Option Value) (C : Addr) : Prop where
  cl : Cls K C
  nR : NoAttr K C "_rows"
  nS : NoAttr K C "_steps"
  nF : NoAttr K C "_fall"
  nG : NoAttr K C "_signs"
  nE : NoAttr K C "_fell"
  g : mg "Store" = some (.ref C)
  list : mg "list" = none
abbrev MtP (K : PySem.W.Frag) (m q : Str) (st : Stmt) (f : Addr) (fd : FuncData) : Prop := FunD K m q (defArgs st) (defBody st) (defScope st) [] [] f fd
theorem scWrite : FnScope ["self", "row"] ["self", "row"] (defScope sWrite) := ⟨rfl, rfl, rfl, by decide +kernel, rfl, by decide +kernel, by decide +kernel⟩
theorem scLetGo : FnScope ["self", "many"] ["self", "many"] (defScope sLetGo) := ⟨rfl, rfl, rfl, by decide +kernel, rfl, by decide +kernel, by decide +kernel⟩
theorem scCut : FnScope ["self"] ["self"] (defScope sCut) := ⟨rfl, rfl, rfl, by decide +kernel, rfl, by decide +kernel, by decide +kernel⟩
theorem scRows : FnScope ["self"] ["self"] (defScope sRows) := ⟨rfl, rfl, rfl, by decide +kernel, rfl, by decide +kernel, by decide +kernel⟩
theorem scSteps : FnScope ["self"] ["self"] (defScope sSteps) := ⟨rfl, rfl, rfl, by decide +kernel, rfl, by decide +kernel, by decide +kernel⟩
theorem scIsUp : FnScope ["self"] ["self"] (defScope sIsUp) := ⟨rfl, rfl, rfl, by decide +kernel, rfl, by decide +kernel, by decide +kernel⟩
theorem scFalls : FnScope ["self"] ["self"] (defScope sFalls) := ⟨rfl, rfl, rfl, by decide +kernel, rfl, by decide +kernel, by decide +kernel⟩
theorem scBegin : FnScope ["self"] ["self"] (defScope sBegin) := ⟨rfl, rfl, rfl, by decide +kernel, rfl, by decide +kernel, by decide +kernel⟩
theorem scInit : FnScope ["self", "rows", "fall", "signs"] ["self", "rows", "fall", "signs"] (defScope sInit) := ⟨rfl, rfl, rfl, by decide +kernel, rfl, by decide +kernel, by decide +kernel⟩
def spFalls (C : Addr) : Sp := fun vs H Q _ => ∃ (p l : Addr) (m : SM), vs = [.ref p] ∧ StAt C H p l m ∧ Q (.bl m.falls) H
/-- how a step ends: done, or refused with its number -/
def Ends2 (C CF : Addr) (S : List Addr) (H : Hp) (p l : Addr) (m' : SM) (o : Option Nat) (Q : VK) (E : XK) : Prop :=
  match o with
  | none => ∀ H', Fr S H H' → StAt C H' p l m' → Q .non H'
  | some k => ∀ H' d, Fr S H H' → StAt C H' p l m' → H d = none → H' d = some (.xd [("step", .int (k : Int))]) → E (.ref CF) (some d) H'
def spBegin (C CF : Addr) : Sp := fun vs H Q E => ∃ (p l : Addr) (m : SM), vs = [.ref p] ∧ StAt C H p l m ∧ Ends2 C CF [p] H p l m.begin.1 m.begin.2 Q E
def spSteps (C : Addr) : Sp := fun vs H Q _ => ∃ (p l : Addr) (m : SM), vs = [.ref p] ∧ StAt C H p l m ∧ Q (.int (m.steps : Int)) H
def spIsUp (C : Addr) : Sp := fun vs H Q _ => ∃ (p l : Addr) (m : SM), vs = [.ref p] ∧ StAt C H p l m ∧ Q (.bl (decide (m.fell = none))) H
def spRows (C : Addr) : Sp := fun vs H Q _ => ∃ (p l : Addr) (m : SM), vs = [.ref p] ∧ StAt C H p l m ∧ ∀ H' x, Same H H' → H x = none → H' x = some (.lst (m.rows.map V.str)) → Q (.ref x) H'
def spInit (K : PySem.W.Frag) (C : Addr) : Sp := fun vs H Q _ => ∃ (H0 : Hp) (p dx r : Addr) (rows : List Str) (vf : Option Int) (g : Int), vs = [.ref p, .ref r, oV vf, .int g] ∧ Same H0 H ∧ H0 p = none ∧ H p = some (.ins C dx []) ∧
  (SqL K H r (rows.map V.str) ∨ SqT K H r (rows.map V.str)) ∧ rows.length ≤ 900 ∧ ∀ H' l, Same H0 H' → H0 l = none → StAt C H' p l ⟨rows, 0, vf, g, none⟩ → Q .non H'
/-- the rows behind a step: f of them where it doesn't fall -/
def SM.after (m : SM) (f : List Str → List Str) : SM × Option Nat := match m.begin with
  | (m2, some k) => (m2, some k)
  | (m2, none) => ({ m2 with rows := f m2.rows }, none)
/-- of a row that would be written at the step at which it falls some signs stay -/
def SM.ahead (m : SM) (row : Str) : SM := if m.falls = true ∧ 0 < m.signs then { m with rows := m.rows ++ [cutS row none (some m.signs)] } else m
def spWrite (C CF : Addr) : Sp := fun vs H Q E => ∃ (p l : Addr) (m : SM) (row : Str), vs = [.ref p, .str row] ∧ StAt C H p l m ∧ m.rows.length ≤ 900 ∧ row.length ≤ 1000 ∧
  Ends2 C CF [p, l] H p l ((m.ahead row).after fun r => r ++ [row]).1 ((m.ahead row).after fun r => r ++ [row]).2 Q E
def spLetGo (C CF : Addr) : Sp := fun vs H Q E => ∃ (p l : Addr) (m : SM) (k : Nat), vs = [.ref p, .int (k : Int)] ∧ StAt C H p l m ∧
  Ends2 C CF [p, l] H p l (m.after fun r => r.drop k).1 (m.after fun r => r.drop k).2 Q E
def spCut (C CF : Addr) : Sp := fun vs H Q E => ∃ (p l : Addr) (m : SM), vs = [.ref p] ∧ StAt C H p l m ∧
  Ends2 C CF [p, l] H p l (m.after fun r => r.dropLast).1 (m.after fun r => r.dropLast).2 Q E
section
variable {P : Program} {w : World} {K : PySem.W.Frag} {mg : Str → Option Value} {base : Heap}
theorem ok_finit {C fI : Addr} {fdI : FuncData} (T : FellT K mg C fI fdI) : FnOk P w K mg base CX0 1 fI fdI ["self", "step"] (spFInit K C) := by
  refine T.fn.ok scFInit (fun vs H Q E h => ?_) (fun cdv A outer s H vs Q E hr h => ?_)
  · obtain ⟨a, v, rfl, _⟩ := h
    rfl
  · obtain ⟨a, v, rfl, ha, q⟩ := h
    refine ⟨_, PSs.nox (pss_one (ps_osr (pv 0) (pv 1))), ?_⟩
    exact ⟨_, rfl, _, rfl, a, C, rfl, T.ox, T.tk, ha, fun dx hd hn => q dx hd hn⟩
def Out (C : Addr) (E : XK) (H : Hp) (n : Nat) : Prop := ∀ (H' : Hp) (d : Addr), Same H H' → H d = none → H' d = some (.xd [("step", .int (n : Int))]) → E (.ref C) (some d) H'
theorem out_of {C : Addr} {H1 : Hp} {W : XK} {n : Nat} (h : Out C W H1 n) : ([V.int (n : Int)] : List V).length ≤ 1000 ∧ ∀ a, H1 a = none →
    spFInit K C (.ref a :: ([V.int (n : Int)] ++ [])) (upd H1 a (exo a C none)) (fun v H2 => v = .non ∧ ∃ (d : Addr) (fs : List (Str × V)), H2 a = some (exo a C (some d)) ∧ H2 d = some (exd d fs) ∧ H1 d = none ∧ W (.ref C) (some d) (upd (del H2 a) d (.xd fs))) (fun _ _ _ => False) := by
  refine ⟨by simp, fun a na => ⟨a, .int (n : Int), rfl, upd_same, fun dx hd hn => ?_⟩⟩
  have hd1 : H1 dx = none := by rw [← hd, upd_ne hn]
  refine ⟨rfl, dx, [("step", .int (n : Int))], upd_same, by rw [upd_ne hn, upd_same], hd1, h _ dx (fun b x e => ?_) hd1 upd_same⟩
  have nb : b ≠ dx := ne_of_none e hd1
  have na : b ≠ a := ne_of_none e na
  rw [upd_ne nb]
  show (if b = a then none else _) = _
  rw [if_neg na, upd_ne na, upd_ne nb, upd_ne na]
  exact e
theorem bindF {C fI : Addr} {fdI : FuncData} (T : FellT K mg C fI fdI) : Binds K fdI ["self", "step"] [] := T.fn.bindsN fun _ _ _ _ _ _ us hl => match us, hl with | [_, _], _ => rfl
theorem ok_falls {C : Addr} (T : StoreT K mg C) {f : Addr} {fd : FuncData} {k : Nat} (F : MtP K "_falls_now" "Store._falls_now" sFalls f fd) : FnOk P w K mg base CX0 (k + 1) f fd ["self"] (spFalls C) := by
  refine F.ok scFalls (fun vs H Q E h => ?_) (fun cdv A outer s H vs Q E hr h => ?_)
  · obtain ⟨p, l, m, rfl, _⟩ := h
    rfl
  · obtain ⟨p, l, m, rfl, hS, q⟩ := h
    obtain ⟨⟨dx, hp⟩, hl, hz⟩ := id hS
    refine ⟨_, PSs.nox (pss_one (ps_ret (pe_and (pe_cmpR op_isN (pe_fld (pv 0) rfl) pe_non (nomark _)) (pe_one (pe_cmpR op_eq (pe_fld (pv 0) rfl) (pe_fld (pv 0) rfl) (nomark _)))))), ?_⟩
    refine ⟨_, rfl, p, C, dx, _, _, rfl, hp, T.cl, T.nE, sf_fell _ _ _ _ _, rfl, ?_⟩
    refine ⟨_, rfl, ?_⟩
    have e1 : decide (oN m.fell = V.non) = decide (m.fell = none) := by cases m.fell <;> simp [oN]
    rw [e1]
    unfold SM.falls at q
    cases h : decide (m.fell = none) with
    | false =>
      rw [h] at q
      exact iteF q
    | true =>
      rw [h] at q
      refine iteT ⟨_, rfl, p, C, dx, _, _, rfl, hp, T.cl, T.nF, sf_fall _ _ _ _ _, _, rfl, p, C, dx, _, _, rfl, hp, T.cl, T.nS, sf_steps _ _ _ _ _, by cases m.fall <;> rfl, ?_⟩
      have e2 : decide (oV m.fall = V.int (m.steps : Int)) = decide (m.fall = some (m.steps : Int)) := by cases m.fall <;> simp [oV]
      show Q (.bl (decide (oV m.fall = V.int (m.steps : Int)))) H
      rw [e2]
      exact q
theorem ok_begin {C : Addr} (T : StoreT K mg C) {CF fI : Addr} {fdI : FuncData} (TF : FellT K mg CF fI fdI) {f fF : Addr} {fd fdF : FuncData} (F : MtP K "_begin_step" "Store._begin_step" sBegin f fd)
    (FF : MtP K "_falls_now" "Store._falls_now" sFalls fF fdF) (mF : Meth K C "_falls_now" fF) : FnOk P w K mg base (L2.CX P w) 3 f fd ["self"] (spBegin C CF) := by
  have bF : Binds K fdF ["self"] [] := FF.bindsN fun _ _ _ _ _ _ us hl => match us, hl with | [_], _ => rfl
  have GF : FnOk P w K mg base CX0 1 fF fdF ["self"] (spFalls C) := ok_falls T FF
  have GI : FnOk P w K mg base CX0 1 fI fdI ["self", "step"] (spFInit K CF) := ok_finit TF
  refine F.ok scBegin (fun vs H Q E h => ?_) (fun cdv A outer s H vs Q E hr h => ?_)
  · obtain ⟨p, l, m, rfl, _⟩ := h
    rfl
  · obtain ⟨p, l, m, rfl, hS, q⟩ := h
    obtain ⟨⟨dx, hp⟩, hl, hz⟩ := id hS
    have nlp := hS.ne
    have hr1 : Room 1 _ := hr.mono (by decide)
    have hr2 : Room 2 _ := hr
    refine ⟨_, pss_cons (ps_if (pt_val (pe_meth0 (pv 0) T.cl mF GF hr1 bF .nil pass0)) (pss_one (ps_fld (pv 0) (pe_fld (pv 0) rfl) rfl)) pss_nil)
      (pss_cons (ps_if (pt_cmpR op_notN (pe_fld (pv 0) rfl) pe_non (nomark _)) (pss_one (ps_raise rfl (takes_of rfl rfl rfl rfl) (pmk_rex TF.ox TF.iC TF.tI GI hr2 (bindF TF) .nil pass0 (by rfl) TF.g (pa_cons (pe_fld (pv 0) rfl) pa_nil)))) pss_nil)
      (pss_one (ps_fldaug (pv 0) pe_int in_add))), ?_⟩
    refine ⟨_, rfl, p, dx, _, rfl, hp, sf_no8 _ _ _ _ _, p, l, m, rfl, hS, ?_⟩
    refine ⟨_, rfl, ?_⟩
    unfold SM.begin at q
    cases hf : m.falls with
    | true =>
      rw [hf, if_pos rfl] at q
      refine iteT ⟨_, rfl, p, C, dx, _, _, rfl, hp, T.cl, T.nS, sf_steps _ _ _ _ _, _, rfl, p, C, dx, _, rfl, hp, T.cl, T.nE, sf_len _ _ _ _ _, ?_⟩
      rw [sf_put_fell]
      have hp1 : (upd H p (.ins C dx (sfr l (.int (m.steps : Int)) (oV m.fall) (.int m.signs) (.int (m.steps : Int))))) p = some (.ins C dx (sfr l (.int (m.steps : Int)) (oV m.fall) (.int m.signs) (.int (m.steps : Int)))) := upd_same
      have f1 : Fr [p] H (upd H p (.ins C dx (sfr l (.int (m.steps : Int)) (oV m.fall) (.int m.signs) (.int (m.steps : Int))))) := fr_upd (List.mem_singleton_self _)
      have hl1 : (upd H p (.ins C dx (sfr l (.int (m.steps : Int)) (oV m.fall) (.int m.signs) (.int (m.steps : Int))))) l = some (.lst (m.rows.map V.str)) := by rw [upd_ne nlp]; exact hl
      generalize (upd H p (.ins C dx (sfr l (.int (m.steps : Int)) (oV m.fall) (.int m.signs) (.int (m.steps : Int))))) = H1 at hp1 f1 hl1
      refine ⟨_, rfl, p, C, dx, _, _, rfl, hp1, T.cl, T.nE, sf_fell _ _ _ _ _, rfl, _, rfl, iteT ?_⟩
      refine ⟨_, rfl, p, C, dx, _, _, rfl, hp1, T.cl, T.nE, sf_fell _ _ _ _ _, out_of fun H' d sm nd hd => ?_⟩
      exact q H' d (f1.trans (fr_same sm)) ⟨⟨dx, sm _ _ hp1⟩, sm _ _ hl1, hz⟩ (f1.free (fun z => by
        rw [List.mem_singleton] at z
        rw [z, hp1] at nd
        cases nd) nd) hd
    | false =>
      rw [hf, if_neg Bool.false_ne_true] at q
      refine iteF ⟨_, rfl, p, C, dx, _, _, rfl, hp, T.cl, T.nE, sf_fell _ _ _ _ _, rfl, _, rfl, ?_⟩
      cases he : m.fell with
      | some k =>
        rw [he] at q
        refine iteT ⟨_, rfl, p, C, dx, _, _, rfl, hp, T.cl, T.nE, sf_fell _ _ _ _ _, ?_⟩
        rw [he]
        refine out_of fun H' d sm nd hd => ?_
        exact q H' d (fr_same sm) (hS.fr (fr_same sm) (S := []) (by simp) (by simp)) nd hd
      | none =>
        rw [he] at q
        refine iteF ⟨_, rfl, p, C, dx, _, _, rfl, hp, T.cl, T.nS, sf_steps _ _ _ _ _, ?_⟩
        refine ⟨_, _, rfl, rfl, dx, _, hp, sf_len _ _ _ _ _, ?_⟩
        rw [sf_put_steps]
        refine q _ (fr_upd (List.mem_singleton_self _)) ⟨⟨dx, ?_⟩, ?_, hz⟩
        · rw [upd_same, he]
          rfl
        · rw [upd_ne nlp]
          exact hl
theorem ok_steps {C : Addr} (T : StoreT K mg C) {f : Addr} {fd : FuncData} {k : Nat} (F : MtP K "steps" "Store.steps" sSteps f fd) : FnOk P w K mg base CX0 (k + 1) f fd ["self"] (spSteps C) := by
  refine F.ok scSteps (fun vs H Q E h => ?_) (fun cdv A outer s H vs Q E hr h => ?_)
  · obtain ⟨p, l, m, rfl, _⟩ := h
    rfl
  · obtain ⟨p, l, m, rfl, hS, q⟩ := h
    obtain ⟨⟨dx, hp⟩, hl, hz⟩ := id hS
    refine ⟨_, PSs.nox (pss_one (ps_ret (pe_fld (pv 0) rfl))), ?_⟩
    exact ⟨_, rfl, p, C, dx, _, _, rfl, hp, T.cl, T.nS, sf_steps _ _ _ _ _, q⟩
theorem ok_isup {C : Addr} (T : StoreT K mg C) {f : Addr} {fd : FuncData} {k : Nat} (F : MtP K "is_up" "Store.is_up" sIsUp f fd) : FnOk P w K mg base CX0 (k + 1) f fd ["self"] (spIsUp C) := by
  refine F.ok scIsUp (fun vs H Q E h => ?_) (fun cdv A outer s H vs Q E hr h => ?_)
  · obtain ⟨p, l, m, rfl, _⟩ := h
    rfl
  · obtain ⟨p, l, m, rfl, hS, q⟩ := h
    obtain ⟨⟨dx, hp⟩, hl, hz⟩ := id hS
    refine ⟨_, PSs.nox (pss_one (ps_ret (pe_cmpR op_isN (pe_fld (pv 0) rfl) pe_non (nomark _)))), ?_⟩
    refine ⟨_, rfl, p, C, dx, _, _, rfl, hp, T.cl, T.nE, sf_fell _ _ _ _ _, rfl, ?_⟩
    have e1 : decide (oN m.fell = V.non) = decide (m.fell = none) := by cases m.fell <;> simp [oN]
    rw [e1]
    exact q
theorem ok_rows {C : Addr} (T : StoreT K mg C) {f : Addr} {fd : FuncData} {k : Nat} (F : MtP K "rows" "Store.rows" sRows f fd) : FnOk P w K mg base CX0 (k + 1) f fd ["self"] (spRows C) := by
  refine F.ok scRows (fun vs H Q E h => ?_) (fun cdv A outer s H vs Q E hr h => ?_)
  · obtain ⟨p, l, m, rfl, _⟩ := h
    rfl
  · obtain ⟨p, l, m, rfl, hS, q⟩ := h
    obtain ⟨⟨dx, hp⟩, hl, hz⟩ := id hS
    refine ⟨_, PSs.nox (pss_one (ps_ret (pe_callTy call_list_of (by rfl) T.list (by decide +kernel) (pa_cons (pe_fld (pv 0) rfl) pa_nil)))), ?_⟩
    exact ⟨_, rfl, p, C, dx, _, _, rfl, hp, T.cl, T.nR, sf_rows _ _ _ _ _, l, _, rfl, .inl (SqL.of hl), fun x nx => q _ x (same_upd nx) nx upd_same⟩
theorem ok_init {C : Addr} (T : StoreT K mg C) {f : Addr} {fd : FuncData} {k : Nat} {dvs : List V} {kws : List (Str × V)} (F : FunD K "__init__" "Store.__init__" (defArgs sInit) (defBody sInit) (defScope sInit) dvs kws f fd) : FnOk P w K mg base CX0 (k + 1) f fd ["self", "rows", "fall", "signs"] (spInit K C) := by
  refine F.ok scInit (fun vs H Q E h => ?_) (fun cdv A outer s H vs Q E hr h => ?_)
  · obtain ⟨H0, p, dx, r, rows, vf, g, rfl, _⟩ := h
    rfl
  · obtain ⟨H0, p, dx, r, rows, vf, g, rfl, s0, p0, hp, hR, hz, q⟩ := h
    refine ⟨_, PSs.nox (pss_cons (ps_fld (pv 0) (pe_callTy call_list_of (by rfl) T.list (by decide +kernel) (pa_cons (pv 1) pa_nil)) rfl) (pss_cons (ps_fld (pv 0) pe_int rfl) (pss_cons (ps_fld (pv 0) (pv 2) rfl) (pss_cons (ps_fld (pv 0) (pv 3) rfl) (pss_one (ps_fld (pv 0) pe_non rfl)))))), ?_⟩
    refine ⟨_, rfl, r, _, rfl, hR, fun l nl => ?_⟩
    have npl : p ≠ l := ne_of_none hp nl
    refine ⟨_, rfl, p, C, dx, [], rfl, by rw [upd_ne npl]; exact hp, T.cl, T.nR, (by show 0 < 1000; decide), ?_⟩
    refine ⟨_, rfl, p, C, dx, _, rfl, upd_same, T.cl, T.nS, (by show 1 < 1000; decide), ?_⟩
    refine ⟨_, rfl, _, rfl, p, C, dx, _, rfl, upd_same, T.cl, T.nF, (by show 2 < 1000; decide), ?_⟩
    refine ⟨_, rfl, _, rfl, p, C, dx, _, rfl, upd_same, T.cl, T.nG, (by show 3 < 1000; decide), ?_⟩
    refine ⟨_, rfl, p, C, dx, _, rfl, upd_same, T.cl, T.nE, (by show 4 < 1000; decide), ?_⟩
    refine q _ l (fun b o e => ?_) (s0.free nl) ⟨⟨dx, ?_⟩, ?_, Nat.le_trans hz (by omega)⟩
    · have nb : b ≠ p := fun z => by
        rw [z, p0] at e
        cases e
      rw [upd_ne nb, upd_ne nb, upd_ne nb, upd_ne nb, upd_ne nb, upd_ne (ne_of_none (s0 _ _ e) nl)]
      exact s0 _ _ e
    · rw [upd_same]
      exact congrArg (fun z => some (HO.ins C dx z)) (sf_make l (.int 0) (oV vf) (.int g) .non)
    · rw [upd_ne npl.symm, upd_ne npl.symm, upd_ne npl.symm, upd_ne npl.symm, upd_ne npl.symm, upd_same]
theorem left_drop (xs : List Str) (k : Nat) : leftV (xs.map V.str) (HT.sIx (xs.map V.str).length 0 none) (HT.sIx (xs.map V.str).length (xs.map V.str).length (some (k : Int))) = (xs.drop k).map V.str := by
  rw [HT.sIx_none, HT.sIx_nat, List.length_map]
  unfold leftV
  rw [List.take_zero, List.nil_append, List.map_drop]
  by_cases h : k ≤ xs.length
  · rw [show max 0 (min k xs.length) = k by omega]
  · rw [show max 0 (min k xs.length) = xs.length by omega, List.drop_eq_nil_of_le (by rw [List.length_map]; omega), List.drop_eq_nil_of_le (by rw [List.length_map]; omega)]
theorem left_last (xs : List Str) : leftV (xs.map V.str) (HT.sIx (xs.map V.str).length 0 (some (-1))) (HT.sIx (xs.map V.str).length (xs.map V.str).length none) = (xs.dropLast).map V.str := by
  rw [HT.sIx_none, List.length_map]
  have e : HT.sIx xs.length 0 (some (-1)) = xs.length - 1 := by
    show (if (-1 : Int) < 0 then ((-1 : Int) + (xs.length : Int)).toNat else min (-1 : Int).toNat xs.length) = _
    rw [if_pos (by decide)]
    omega
  rw [e]
  unfold leftV
  rw [List.drop_eq_nil_of_le (by rw [List.length_map]; omega), List.append_nil, List.map_dropLast, List.dropLast_eq_take, List.length_map]
theorem begin_rows (m : SM) : m.begin.1.rows = m.rows := by
  unfold SM.begin
  by_cases h : m.falls = true
  · rw [if_pos h]
  · rw [if_neg h]
    cases m.fell <;> rfl
/-- a step, then what is done to the rows -/
theorem ends_after {C CF : Addr} {H H1 : Hp} {p l : Addr} {m : SM} {g : List Str → List Str} {Q : VK} {E : XK} {N : Hp → Prop} (f1 : Fr [p, l] H H1) (s1 : StAt C H1 p l m) (q : Ends2 C CF [p, l] H p l (m.after g).1 (m.after g).2 Q E)
    (hN : ∀ H2, Fr [p, l] H H2 → StAt C H2 p l m.begin.1 → (∀ H3, Fr [p, l] H2 H3 → StAt C H3 p l { m.begin.1 with rows := g m.begin.1.rows } → Q .non H3) → N H2) : Ends2 C CF [p] H1 p l m.begin.1 m.begin.2 (fun _ H2 => N H2) E := by
  unfold SM.after at q
  unfold Ends2
  have sub : ∀ x ∈ [p], x ∈ [p, l] := fun x hx => by
    rw [List.mem_singleton.mp hx]
    simp
  generalize m.begin = B at q hN ⊢
  obtain ⟨m2, o⟩ := B
  cases o with
  | none => exact fun H2 f2 s2 => hN H2 (f1.trans (f2.mono sub)) s2 fun H3 f3 s3 => q H3 ((f1.trans (f2.mono sub)).trans f3) s3
  | some k => exact fun H2 d f2 s2 nd hd => q H2 d (f1.trans (f2.mono sub)) s2 (f1.free (fun z => by
      rcases List.mem_cons.mp z with e | e
      · obtain ⟨dx, hp⟩ := s1.ins
        rw [e, hp] at nd
        cases nd
      · rw [List.mem_singleton.mp e, s1.rows] at nd
        cases nd) nd) hd
theorem ok_write {C : Addr} (T : StoreT K mg C) {CF fI : Addr} {fdI : FuncData} (TF : FellT K mg CF fI fdI) {f fF fB : Addr} {fd fdF fdB : FuncData} (F : MtP K "write" "Store.write" sWrite f fd)
    (FF : MtP K "_falls_now" "Store._falls_now" sFalls fF fdF) (mF : Meth K C "_falls_now" fF) (FB : MtP K "_begin_step" "Store._begin_step" sBegin fB fdB) (mB : Meth K C "_begin_step" fB) : FnOk P w K mg base (L2.CX P w) 4 f fd ["self", "row"] (spWrite C CF) := by
  have bF : Binds K fdF ["self"] [] := FF.bindsN fun _ _ _ _ _ _ us hl => match us, hl with | [_], _ => rfl
  have bB : Binds K fdB ["self"] [] := FB.bindsN fun _ _ _ _ _ _ us hl => match us, hl with | [_], _ => rfl
  have GF : FnOk P w K mg base CX0 1 fF fdF ["self"] (spFalls C) := ok_falls T FF
  have GB : FnOk P w K mg base (L2.CX P w) 3 fB fdB ["self"] (spBegin C CF) := ok_begin T TF FB FF mF
  refine F.ok scWrite (fun vs H Q E h => ?_) (fun cdv A outer s H vs Q E hr h => ?_)
  · obtain ⟨p, l, m, row, rfl, _⟩ := h
    rfl
  · obtain ⟨p, l, m, row, rfl, hS, hm, hw, q⟩ := h
    obtain ⟨⟨dx, hp⟩, hl, hz⟩ := id hS
    have nlp := hS.ne
    have hs := szl
    have hr1 : Room 1 _ := hr.mono (by decide)
    refine ⟨_, C8.pss_cut (ps_if (PW.pt (pw_and (pt_val (pe_meth0 (pv 0) T.cl mF GF hr1 bF .nil pass0)) (pw_and1 (pt_cmpR op_gt (pe_fld (pv 0) rfl) pe_int (nomark _)))))
        (pss_one (ps_expr (pe_bm PySem.F.plainAttrs_list PySem.F.slot_list_append PySem.F.type_list_append mt_append (pe_fld (pv 0) rfl) (pa_cons (pe_slice sl_str (pv 1) po_none (po_some (pe_fld (pv 0) rfl))) pa_nil)))) pss_nil)
      (pss_cons (ps_expr (pe_meth0 (pv 0) T.cl mB GB hr bB .nil (passes_call (takes_of rfl rfl rfl rfl) (fun _ _ _ _ z => z))))
      (pss_one (ps_expr (pe_bm PySem.F.plainAttrs_list PySem.F.slot_list_append PySem.F.type_list_append mt_append (pe_fld (pv 0) rfl) (pa_cons (pv 1) pa_nil))))), ?_⟩
    refine ⟨fun σ' H' => σ' = [some (.ref p), some (.str row)] ∧ Fr [p, l] H H' ∧ StAt C H' p l (m.ahead row), ?_, ?_⟩
    · refine ⟨_, rfl, p, dx, _, rfl, hp, sf_no8 _ _ _ _ _, p, l, m, rfl, hS, _, rfl, ?_⟩
      cases hf : m.falls with
      | false =>
        have ea : m.ahead row = m := by
          unfold SM.ahead
          rw [if_neg (fun z => by rw [hf] at z; exact Bool.false_ne_true z.1)]
        exact iteF ⟨rfl, Fr.refl, by rw [ea]; exact hS⟩
      | true =>
        refine iteT ⟨_, rfl, p, C, dx, _, _, rfl, hp, T.cl, T.nG, sf_signs _ _ _ _ _, _, _, rfl, rfl, _, rfl, ite2 (fun e => ?_) (fun e => ?_)⟩
        · have e' : 0 < m.signs := of_decide_eq_true e
          have ea : m.ahead row = { m with rows := m.rows ++ [cutS row none (some m.signs)] } := by
            unfold SM.ahead
            rw [if_pos ⟨hf, e'⟩]
          refine ⟨_, rfl, p, C, dx, _, _, rfl, hp, T.cl, T.nR, sf_rows _ _ _ _ _, .inl ⟨rfl, _, SqL.of hl⟩, _, rfl, _, rfl, p, C, dx, _, _, rfl, hp, T.cl, T.nG, sf_signs _ _ _ _ _, _, rfl, row, rfl, by omega, l, _, _, rfl, rfl, hl, by rw [List.length_map]; omega, ?_⟩
          refine ⟨rfl, fr_upd (by simp), ?_⟩
          rw [ea]
          refine ⟨⟨dx, ?_⟩, ?_, ?_⟩
          · rw [upd_ne nlp.symm]
            exact hp
          · rw [upd_same, List.map_append]
            rfl
          · show (m.rows ++ [_]).length ≤ 1000
            rw [List.length_append, List.length_singleton]
            omega
        · have ea : m.ahead row = m := by
            unfold SM.ahead
            rw [if_neg (fun z => e (decide_eq_true z.2))]
          exact ⟨rfl, Fr.refl, by rw [ea]; exact hS⟩
    · rintro σ' H1 ⟨rfl, f1, hS1⟩
      have ha : (m.ahead row).rows.length ≤ 901 := by
        unfold SM.ahead
        by_cases c : m.falls = true ∧ 0 < m.signs
        · rw [if_pos c]
          show (m.rows ++ [_]).length ≤ 901
          rw [List.length_append, List.length_singleton]
          omega
        · rw [if_neg c]
          omega
      generalize m.ahead row = m1 at hS1 q ha
      obtain ⟨⟨dx1, hp1⟩, hl1, hz1⟩ := id hS1
      refine ⟨_, rfl, p, dx1, _, rfl, hp1, sf_no9 _ _ _ _ _, p, l, m1, rfl, hS1, ?_⟩
      exact ends_after (g := fun r => r ++ [row]) f1 hS1 q fun H2 f2 hS2 eb => by
        obtain ⟨⟨dx2, hp2⟩, hl2, hz2⟩ := id hS2
        have l2 := begin_rows m1
        refine ⟨_, rfl, p, C, dx2, _, _, rfl, hp2, T.cl, T.nR, sf_rows _ _ _ _ _, .inl ⟨rfl, _, SqL.of hl2⟩, _, rfl, l, _, _, rfl, rfl, hl2, by rw [List.length_map]; omega, ?_⟩
        refine eb _ (fr_upd (by simp)) ⟨⟨dx2, ?_⟩, ?_, ?_⟩
        · rw [upd_ne nlp.symm]
          exact hp2
        · rw [upd_same]
          show _ = some (HO.lst ((m1.begin.1.rows ++ [row]).map V.str))
          rw [List.map_append]
          rfl
        · show (m1.begin.1.rows ++ [row]).length ≤ 1000
          rw [List.length_append, List.length_singleton, l2]
          omega
theorem ok_letgo {C : Addr} (T : StoreT K mg C) {CF fI : Addr} {fdI : FuncData} (TF : FellT K mg CF fI fdI) {f fF fB : Addr} {fd fdF fdB : FuncData} (F : MtP K "let_go" "Store.let_go" sLetGo f fd)
    (FF : MtP K "_falls_now" "Store._falls_now" sFalls fF fdF) (mF : Meth K C "_falls_now" fF) (FB : MtP K "_begin_step" "Store._begin_step" sBegin fB fdB) (mB : Meth K C "_begin_step" fB) : FnOk P w K mg base (L2.CX P w) 4 f fd ["self", "many"] (spLetGo C CF) := by
  have bB : Binds K fdB ["self"] [] := FB.bindsN fun _ _ _ _ _ _ us hl => match us, hl with | [_], _ => rfl
  have GB : FnOk P w K mg base (L2.CX P w) 3 fB fdB ["self"] (spBegin C CF) := ok_begin T TF FB FF mF
  refine F.ok scLetGo (fun vs H Q E h => ?_) (fun cdv A outer s H vs Q E hr h => ?_)
  · obtain ⟨p, l, m, k, rfl, _⟩ := h
    rfl
  · obtain ⟨p, l, m, k, rfl, hS, q⟩ := h
    obtain ⟨⟨dx, hp⟩, hl, hz⟩ := id hS
    have nlp := hS.ne
    refine ⟨_, pss_cons (ps_expr (pe_meth0 (pv 0) T.cl mB GB hr bB .nil (passes_call (takes_of rfl rfl rfl rfl) (fun _ _ _ _ z => z))))
      (pss_one (ps_delSl (pe_fld (pv 0) rfl) po_none (po_some (pv 1)))), ?_⟩
    refine ⟨_, rfl, p, dx, _, rfl, hp, sf_no9 _ _ _ _ _, p, l, m, rfl, hS, ?_⟩
    exact ends_after (g := fun r => r.drop k) Fr.refl hS q fun H2 f2 hS2 eb => by
      obtain ⟨⟨dx2, hp2⟩, hl2, hz2⟩ := id hS2
      refine ⟨_, rfl, p, C, dx2, _, _, rfl, hp2, T.cl, T.nR, sf_rows _ _ _ _ _, _, rfl, _, rfl, l, _, rfl, hl2, ?_⟩
      refine eb _ (fr_upd (by simp)) ⟨⟨dx2, ?_⟩, ?_, ?_⟩
      · rw [upd_ne nlp.symm]
        exact hp2
      · rw [upd_same, left_drop]
      · show (m.begin.1.rows.drop k).length ≤ 1000
        rw [List.length_drop, begin_rows]
        omega
theorem ok_cut {C : Addr} (T : StoreT K mg C) {CF fI : Addr} {fdI : FuncData} (TF : FellT K mg CF fI fdI) {f fF fB : Addr} {fd fdF fdB : FuncData} (F : MtP K "cut" "Store.cut" sCut f fd)
    (FF : MtP K "_falls_now" "Store._falls_now" sFalls fF fdF) (mF : Meth K C "_falls_now" fF) (FB : MtP K "_begin_step" "Store._begin_step" sBegin fB fdB) (mB : Meth K C "_begin_step" fB) : FnOk P w K mg base (L2.CX P w) 4 f fd ["self"] (spCut C CF) := by
  have bB : Binds K fdB ["self"] [] := FB.bindsN fun _ _ _ _ _ _ us hl => match us, hl with | [_], _ => rfl
  have GB : FnOk P w K mg base (L2.CX P w) 3 fB fdB ["self"] (spBegin C CF) := ok_begin T TF FB FF mF
  refine F.ok scCut (fun vs H Q E h => ?_) (fun cdv A outer s H vs Q E hr h => ?_)
  · obtain ⟨p, l, m, rfl, _⟩ := h
    rfl
  · obtain ⟨p, l, m, rfl, hS, q⟩ := h
    obtain ⟨⟨dx, hp⟩, hl, hz⟩ := id hS
    have nlp := hS.ne
    refine ⟨_, pss_cons (ps_expr (pe_meth0 (pv 0) T.cl mB GB hr bB .nil (passes_call (takes_of rfl rfl rfl rfl) (fun _ _ _ _ z => z))))
      (pss_one (ps_delSl (pe_fld (pv 0) rfl) (po_some (pe_un un_neg pe_int)) po_none)), ?_⟩
    refine ⟨_, rfl, p, dx, _, rfl, hp, sf_no9 _ _ _ _ _, p, l, m, rfl, hS, ?_⟩
    exact ends_after (g := fun r => r.dropLast) Fr.refl hS q fun H2 f2 hS2 eb => by
      obtain ⟨⟨dx2, hp2⟩, hl2, hz2⟩ := id hS2
      refine ⟨_, rfl, p, C, dx2, _, _, rfl, hp2, T.cl, T.nR, sf_rows _ _ _ _ _, _, rfl, -1, rfl, l, _, rfl, hl2, ?_⟩
      refine eb _ (fr_upd (by simp)) ⟨⟨dx2, ?_⟩, ?_, ?_⟩
      · rw [upd_ne nlp.symm]
        exact hp2
      · rw [upd_same, left_last]
      · show (m.begin.1.rows.dropLast).length ≤ 1000
        rw [List.length_dropLast, begin_rows]
        omega
end
end St7

set_option autoImplicit false
set_option maxHeartbeats 2000000
namespace Kx
open PySem PySem.Spec PyProof.Rows L2
def tMthS (C : Addr) (m : Str) (sp : Sp) (E : L2.St → XK) (ta : TE) (t : TA) : TE := fun σ H Q => ta σ H fun x H1 => ∃ a dx fs, x = .ref a ∧ H1 a = some (.ins C dx fs) ∧ fs.lookup m = none ∧ t σ H1 fun vs H2 => sp (x :: vs) H2 Q (E σ)
def tMthK (C : Addr) (m : Str) (n k : Nat) (sp : Sp) (gV : List V → List V → List V) (E : XK) (ta : TE) (t tk : TA) : TE := fun σ H Q => ta σ H fun x H1 => ∃ a dx fs, x = .ref a ∧ H1 a = some (.ins C dx fs) ∧ fs.lookup m = none ∧
  t σ H1 fun vs H2 => tk σ H2 fun zs H3 => vs.length = n ∧ zs.length = k ∧ sp (gV (x :: vs) zs) H3 Q E
section
variable {X : Cx} {CX : CXT} {k n : Nat} {f C : Addr} {fd : FuncData} {ps ks : List Str} {sp : Sp} {E : XK} {Eσ : L2.St → XK} {m : Str} {pos apos : Pos} {e o : Expr} {es : List Expr} {kws : List Keyword} {ta : TE} {t tk : TA} {g : List Value → List Value → List Value} {gV : List V → List V → List V}
/-- o.m(e, ..) in a try, m a method that may raise -/
theorem pe_mthS {pl : Sem Bool} (he : PE X o ta) (c : Cls X.K C) (hm : Meth X.K C m f) (F : FnOk X.prog X.w X.K X.mg X.base CX k f fd ps sp) (hr : Room k X.A) (hb : Binds X.K fd ps []) (hx : ∀ σ, PassesAt CX X σ (Eσ σ)) (ha : PA X (e :: es) t)
    (hst : starEach (e :: es) X.env = (false, eval e X.env) :: starEach es X.env := by rfl) (hpl : (backTo pos (starEach es X.env)).any (·.1) = false := by rfl)
    (ht : eval (.Call (.Attribute o m apos) (e :: es) [] pos) X.env = (do
      let ov ← eval o X.env
      standAt apos.atName
      let (f, first) ← holding [ov] (getMethod ov m pl)
      callWith pos f first (backTo pos (starEach (e :: es) X.env)) (backToKw pos (keywordEach [] X.env))) := by rfl) :
    PE X (.Call (.Attribute o m apos) (e :: es) [] pos) (tMthS C m sp Eσ ta t) := by
  refine ⟨fun pins s σ H Q I h => ?_⟩
  refine PySem.W.methodCall_KW (pl := pl) (thn (he.run pins s σ H _ I h) fun u s1 ⟨x, H1, I1, rx, a, dx, fs, ex, ea, l, q⟩ => ?_) ht
  subst ex
  obtain rfl : u = Value.ref a := rx
  refine getmeth_ok I1 ea c hm l ?_
  refine PySem.W.callWith_K (first := [.ref a]) (h₀ := X.base) I.ok.mod.kin hm.kp (thn (ha.run pos pins s1 σ H1 _ I1 q) fun us s2 ⟨vs, H2, I2, r, q2⟩ => ⟨I2.kIn, ?_⟩) hst hpl
  exact run_fnS (us := .ref a :: us) (vs := .ref a :: vs) F hr hb (hx σ) I2 (.cons rfl r) q2
theorem pe_mthS0 {pl : Sem Bool} (he : PE X o ta) (c : Cls X.K C) (hm : Meth X.K C m f) (F : FnOk X.prog X.w X.K X.mg X.base CX k f fd ps sp) (hr : Room k X.A) (hb : Binds X.K fd ps []) (hx : ∀ σ, PassesAt CX X σ (Eσ σ))
    (ht : eval (.Call (.Attribute o m apos) [] [] pos) X.env = (do
      let ov ← eval o X.env
      standAt apos.atName
      let (f, first) ← holding [ov] (getMethod ov m pl)
      callWith pos f first (backTo pos (starEach [] X.env)) (backToKw pos (keywordEach [] X.env))) := by rfl) :
    PE X (.Call (.Attribute o m apos) [] [] pos) (tMthS C m sp Eσ ta tNil) := by
  refine ⟨fun pins s σ H Q I h => ?_⟩
  refine PySem.W.methodCall_KW (pl := pl) (thn (he.run pins s σ H _ I h) fun u s1 ⟨x, H1, I1, rx, a, dx, fs, ex, ea, l, q⟩ => ?_) ht
  subst ex
  obtain rfl : u = Value.ref a := rx
  refine getmeth_ok I1 ea c hm l ?_
  exact PySem.W.callWith_K0 (first := [.ref a]) I1.kIn hm.kp (run_fnS (us := [.ref a]) (vs := [.ref a]) F hr hb (hx σ) I1 (.cons rfl .nil) q)
/-- o.m(e, .., k = v, ..) -/
theorem pe_mthK {pl : Sem Bool} (he : PE X o ta) (c : Cls X.K C) (hm : Meth X.K C m f) (F : FnOk X.prog X.w X.K X.mg X.base CX k f fd ps sp) (hr : Room k X.A) (hb : KBn X.K fd ps (n + 1) ks g gV) (hx : Passes CX X E) (ha : PA X (e :: es) t) (hkw : PK X kws tk)
    (hall : (backToKw pos (keywordEach kws X.env)).all (·.1.isSome) = true := by rfl) (hks : (backToKw pos (keywordEach kws X.env)).filterMap (·.1) = ks := by rfl)
    (hst : starEach (e :: es) X.env = (false, eval e X.env) :: starEach es X.env := by rfl) (hpl : ((backTo pos (starEach (e :: es) X.env)).any (·.1) || (backToKw pos (keywordEach kws X.env)).any (·.1.isNone)) = false := by rfl)
    (ht : eval (.Call (.Attribute o m apos) (e :: es) kws pos) X.env = (do
      let ov ← eval o X.env
      standAt apos.atName
      let (f, first) ← holding [ov] (getMethod ov m pl)
      callWith pos f first (backTo pos (starEach (e :: es) X.env)) (backToKw pos (keywordEach kws X.env))) := by rfl) :
    PE X (.Call (.Attribute o m apos) (e :: es) kws pos) (tMthK C m n ks.length sp gV E ta t tk) := by
  refine ⟨fun pins s σ H Q I h => ?_⟩
  refine PySem.W.methodCall_KW (pl := pl) (thn (he.run pins s σ H _ I h) fun u s1 ⟨x, H1, I1, rx, a, dx, fs, ex, ea, l, q⟩ => ?_) ht
  subst ex
  obtain rfl : u = Value.ref a := rx
  refine getmeth_ok I1 ea c hm l ?_
  refine PySem.W.callWith_KW (first := [.ref a]) (h₀ := X.base) I.ok.mod.kin hm.kp hall (thn (ha.run pos pins s1 σ H1 _ I1 q) fun us s2 ⟨vs, H2, I2, r, q2⟩ => ?_) hpl hst
  refine thn (hkw.run pos pins s2 σ H2 _ I2 q2) fun ws s3 ⟨zs, H3, I3, rz, l1, l2, q3⟩ => ⟨I3.kIn, ?_⟩
  rw [hks]
  have r1 : Vals (V.ref a :: vs) (Value.ref a :: us) := .cons rfl r
  have r2 := hb.rel r1 rz
  refine wpAny_call (codeAny_mono (F.run X.A X.stack s3 H3 ⟨Value.ref a :: us, ks.zip ws⟩ (g (Value.ref a :: us) ws) (gV (V.ref a :: vs) zs) Q E hr I3.env0 (hb.to s3 (Value.ref a :: us) ws I3.kIn (r1.length.symm.trans (congrArg Nat.succ l1)) (rz.length.symm.trans l2)) r2 q3) fun rr s' hq => ?_)
  cases rr with
  | error er => exact hx pins σ H3 s3 er s' I3 hq
  | ok fl =>
    cases fl with
    | ret u => exact I3.after hq
    | next => exact False.elim hq
    | brk => exact False.elim hq
    | cont => exact False.elim hq
end
end Kx
namespace St7
open PySem PySem.Spec PyProof.Rows L2 Dl Kx
abbrev FallF (K : PySem.W.Frag) (f : Addr) (fd : FuncData) : Prop := FunD K "fall_at" "Store.fall_at" (defArgs sFallAt) (defBody sFallAt) (defScope sFallAt) [] [("signs", .int 0)] f fd
theorem scFallAt : FnScope ["self", "step", "signs"] ["self", "step", "signs"] (defScope sFallAt) := ⟨rfl, rfl, rfl, by decide +kernel, rfl, by decide +kernel, by decide +kernel⟩
def spFallAt (C : Addr) : Sp := fun vs H Q _ => ∃ (p l : Addr) (m : SM) (vf : Option Int) (g : Int), vs = [.ref p, oV vf, .int g] ∧ StAt C H p l m ∧ ∀ H', Fr [p] H H' → StAt C H' p l { m with fall := vf, signs := g } → Q .non H'
theorem fall0 {K : PySem.W.Frag} {f : Addr} {fd : FuncData} (F : FallF K f fd) : ∃ ds, Vals [V.int 0] ds ∧ Binds K fd ["self", "step", "signs"] ds :=
  F.binds0 2 (by simp) rfl (fun D doc pm an cdv ct us ks hl hk => match us, hl, ks, hk with | [_, _], _, [_], _ => ⟨_, _, _, _, _, _, rfl, rfl, rfl⟩)
theorem fallK {K : PySem.W.Frag} {f : Addr} {fd : FuncData} (F : FallF K f fd) : ∃ g gV, KBn K fd ["self", "step", "signs"] 2 ["signs"] g gV ∧ ∀ x y z : V, gV [x, y] [z] = [x, y, z] := by
  obtain ⟨mv, kb⟩ := F.kbinds0 (ps := ["self", "step", "signs"]) 2 ["signs"] [] (fun us mv ws => us ++ ws ++ mv) (by simp) (by simp) (fun r1 r2 r3 => (r1.append r3).append r2)
    (fun D doc pm an cdv ct us mv ws hl hm hw => match us, hl, mv, hm, ws, hw with | [_, _], _, [], _, [_], _ => rfl)
  exact ⟨_, _, kb, fun x y z => rfl⟩
section
variable {P : Program} {w : World} {K : PySem.W.Frag} {mg : Str → Option Value} {base : Heap}
theorem ok_fallat {C : Addr} (T : StoreT K mg C) {f : Addr} {fd : FuncData} {k : Nat} (F : FallF K f fd) : FnOk P w K mg base CX0 (k + 1) f fd ["self", "step", "signs"] (spFallAt C) := by
  refine F.ok scFallAt (fun vs H Q E h => ?_) (fun cdv A outer s H vs Q E hr h => ?_)
  · obtain ⟨p, l, m, vf, g, rfl, _⟩ := h
    rfl
  · obtain ⟨p, l, m, vf, g, rfl, hS, q⟩ := h
    obtain ⟨⟨dx, hp⟩, hl, hz⟩ := id hS
    have nlp := hS.ne
    refine ⟨_, PSs.nox (pss_cons (ps_fld (pv 0) (pv 1) rfl) (pss_one (ps_fld (pv 0) (pv 2) rfl))), ?_⟩
    refine ⟨_, rfl, _, rfl, p, C, dx, _, rfl, hp, T.cl, T.nF, sf_len _ _ _ _ _, ?_⟩
    rw [sf_put_fall]
    refine ⟨_, rfl, _, rfl, p, C, dx, _, rfl, upd_same, T.cl, T.nG, sf_len _ _ _ _ _, ?_⟩
    rw [sf_put_signs]
    refine q _ ((fr_upd (List.mem_singleton_self _)).trans (fr_upd (List.mem_singleton_self _))) ⟨⟨dx, ?_⟩, ?_, hz⟩
    · rw [upd_same]
    · rw [upd_ne nlp, upd_ne nlp]
      exact hl
end
end St7

set_option autoImplicit false
set_option maxHeartbeats 2000000
namespace St7
open PySem PySem.Spec PyProof.Rows L2 Dl Kx TL
abbrev sDone : Stmt := top 7
abbrev sLFall : Stmt := top 8
abbrev sLaw : Stmt := top 9
def SM.step (m : SM) (way : Nat) (row : Str) : SM × Option Nat := if way = 0 then (m.ahead row).after fun r => r ++ [row] else if way = 1 then m.after fun r => r.drop 1 else m.after fun r => r.dropLast
theorem scDone : FnScope ["store", "way", "row", "wrong", "e"] ["store", "way", "row"] (defScope sDone) := ⟨rfl, rfl, rfl, by decide +kernel, rfl, by decide +kernel, by decide +kernel⟩
theorem scLFall : FnScope ["store", "limit", "a_signs"] ["store", "limit", "a_signs"] (defScope sLFall) := ⟨rfl, rfl, rfl, by decide +kernel, rfl, by decide +kernel, by decide +kernel⟩
def spDone (C : Addr) : Sp := fun vs H Q _ => ∃ (p l : Addr) (m : SM) (row : Str) (way : Nat), vs = [.ref p, .int (way : Int), .str row] ∧ way ≤ 2 ∧ StAt C H p l m ∧ m.rows.length ≤ 900 ∧ row.length ≤ 1000 ∧
  ∀ H', Fr [p, l] H H' → StAt C H' p l (m.step way row).1 → Q (oN (m.step way row).2) H'
def spLFall (C : Addr) : Sp := fun vs H Q _ => ∃ (p l : Addr) (m : SM) (vf : Option Int) (g : Int), vs = [.ref p, oV vf, .int g] ∧ StAt C H p l m ∧ ∀ H', Fr [p] H H' → StAt C H' p l { m with fall := vf, signs := g } → Q .non H'
/-- what the class of the refusal is asked for -/
structure FellX (K : PySem.W.Frag) (CF : Addr) : Prop where
  xf : XfC K CF
  ec : ExcC K CF
  noAt : PySem.W.findIn K (.ref CF) "step" = some none
  cl : (PySem.W.clsIn K CF).isSome = true
  kit : PySem.W.kitOne K (.ref CF) (.type "RuntimeError") = some true
  exm : PySem.W.exmOne K (.ref CF) (.ref CF) = some true
section
variable {P : Program} {w : World} {K : PySem.W.Frag} {mg : Str → Option Value} {base : Heap}
theorem ok_lfall {C : Addr} (T : StoreT K mg C) {f fA : Addr} {fd fdA : FuncData} (F : FnP K "_law_fall_at" sLFall f fd) (FA : FallF K fA fdA) (mA : Meth K C "fall_at" fA) : FnOk P w K mg base CX0 2 f fd ["store", "limit", "a_signs"] (spLFall C) := by
  obtain ⟨ds0, v0, b0⟩ := fall0 FA
  obtain ⟨kg, kgV, bK, eK⟩ := fallK FA
  have GA : FnOk P w K mg base CX0 1 fA fdA ["self", "step", "signs"] (spFallAt C) := ok_fallat T FA
  refine F.ok scLFall (fun vs H Q E h => ?_) (fun cdv A outer s H vs Q E hr h => ?_)
  · obtain ⟨p, l, m, vf, g, rfl, _⟩ := h
    rfl
  · obtain ⟨p, l, m, vf, g, rfl, hS, q⟩ := h
    obtain ⟨⟨dx, hp⟩, hl, hz⟩ := id hS
    refine ⟨_, PSs.nox (pss_one (ps_if (pt_cmpR op_eq (pv 2) pe_int (nomark _)) (pss_one (ps_expr (pe_meth (pv 0) T.cl mA GA hr b0 v0 pass0 (pa_cons (pv 1) pa_nil)))) (pss_one (ps_expr (pe_mthK (n := 1) (pv 0) T.cl mA GA hr bK pass0 (pa_cons (pv 1) pa_nil) (pk_cons (pv 2) pk_nil)))))), ?_⟩
    refine ⟨_, rfl, rfl, _, rfl, ite2 (fun e => ?_) (fun e => ?_)⟩
    · have e0 : g = 0 := V.int.inj (of_decide_eq_true e)
      refine ⟨_, rfl, p, dx, _, rfl, hp, sf_no7 _ _ _ _ _, _, rfl, p, l, m, vf, 0, rfl, hS, fun H' f' S' => ?_⟩
      exact q H' f' (by rw [e0]; exact S')
    · refine ⟨_, rfl, p, dx, _, rfl, hp, sf_no7 _ _ _ _ _, _, rfl, _, rfl, rfl, rfl, p, l, m, vf, g, eK _ _ _, hS, fun H' f' S' => q H' f' S'⟩
theorem ok_done {C : Addr} (T : StoreT K mg C) {CF fI : Addr} {fdI : FuncData} (TF : FellT K mg CF fI fdI) (TX : FellX K CF) {f fW fL fC fF fB : Addr} {fd fdW fdL fdC fdF fdB : FuncData} (F : FnP K "_law_done" sDone f fd)
    (FW : MtP K "write" "Store.write" sWrite fW fdW) (mW : Meth K C "write" fW) (FL : MtP K "let_go" "Store.let_go" sLetGo fL fdL) (mL : Meth K C "let_go" fL) (FC : MtP K "cut" "Store.cut" sCut fC fdC) (mC : Meth K C "cut" fC)
    (FF : MtP K "_falls_now" "Store._falls_now" sFalls fF fdF) (mF : Meth K C "_falls_now" fF) (FB : MtP K "_begin_step" "Store._begin_step" sBegin fB fdB) (mB : Meth K C "_begin_step" fB) (mi : mg "isinstance" = none) (mR : mg "RuntimeError" = none) :
    FnOk P w K mg base CX0 5 f fd ["store", "way", "row"] (spDone C) := by
  have bW : Binds K fdW ["self", "row"] [] := FW.bindsN fun _ _ _ _ _ _ us hl => match us, hl with | [_, _], _ => rfl
  have bL : Binds K fdL ["self", "many"] [] := FL.bindsN fun _ _ _ _ _ _ us hl => match us, hl with | [_, _], _ => rfl
  have bC : Binds K fdC ["self"] [] := FC.bindsN fun _ _ _ _ _ _ us hl => match us, hl with | [_], _ => rfl
  have GW : FnOk P w K mg base (L2.CX P w) 4 fW fdW ["self", "row"] (spWrite C CF) := ok_write T TF FW FF mF FB mB
  have GL : FnOk P w K mg base (L2.CX P w) 4 fL fdL ["self", "many"] (spLetGo C CF) := ok_letgo T TF FL FF mF FB mB
  have GC : FnOk P w K mg base (L2.CX P w) 4 fC fdC ["self"] (spCut C CF) := ok_cut T TF FC FF mF FB mB
  refine F.ok scDone (fun vs H Q E h => ?_) (fun cdv A outer s H vs Q E hr h => ?_)
  · obtain ⟨p, l, m, row, way, rfl, _⟩ := h
    rfl
  · obtain ⟨p, l, m, row, way, rfl, hw, hS, hm, hrw, q⟩ := h
    obtain ⟨⟨dx, hp⟩, hl, hz⟩ := id hS
    refine ⟨_, pss_cons (ps_set (i := 3) scDone.nd rfl (.inl rfl) pe_non)
      (pss_cons (ps_try_keep (i := 4) (Wout := fun _ _ _ _ => False) rfl rfl rfl scDone.nd rfl rfl ⟨rfl, by decide, .inl TF.g⟩ takes0
        (fun W pn xe tk _ => pss_one (ps_if (pt_cmpR op_eq (pv 1) pe_int (nomark _)) (pss_one (ps_expr (pe_mthS (pv 0) T.cl mW GW hr bW (fun σ => passAt tk σ) (pa_cons (pv 2) pa_nil))))
          (pss_one (ps_if (pt_cmpR op_eq (pv 1) pe_int (nomark _)) (pss_one (ps_expr (pe_mthS (pv 0) T.cl mL GL hr bL (fun σ => passAt tk σ) (pa_cons pe_int pa_nil))))
            (pss_one (ps_expr (pe_mthS0 (pv 0) T.cl mC GC hr bC (fun σ => passAt tk σ))))))))
        (fun a oe cls d pn hz hf => pss_one (ps_set (i := 3) scDone.nd rfl (.inl rfl) (pv 4))))
      (pss_cons (ps_if (pt_cmpR op_isN (pv 3) pe_non (nomark _)) (pss_one (ps_ret pe_non)) pss_nil)
      (pss_one (ps_ret (pe_ifExp (pt_val (pe_callB call_isH (by rfl) mi PyProof.Rows.boot_isinstance (pa_cons (pv 3) (pa_cons (pe_bltn (v := .ty "RuntimeError") (u := .type "RuntimeError") (by rfl) mR (by decide +kernel) rfl) pa_nil)))) (pe_xh (pv 3)) (pe_un un_neg pe_int)))))), ?_⟩
    have ret0 : ∀ H' (o : Option Nat), o = none → (H' : Hp) = H' → Q (oN o) H' → Q .non H' := fun H' o e _ z => by
      rw [e] at z
      exact z
    have done : ∀ (H1 : Hp) (o : Option Nat), Fr [p, l] H H1 → StAt C H1 p l (m.step way row).1 → (m.step way row).2 = o → o = none → Q .non H1 := fun H1 o f1 s1 e1 e2 => by
      have z := q H1 f1 s1
      rw [e1, e2] at z
      exact z
    have fell : ∀ (H1 : Hp) (k : Nat) (a d : Addr), Fr [p, l] H H1 → StAt C H1 p l (m.step way row).1 → (m.step way row).2 = some k → H1 a = none → Q (.int (k : Int)) (upd H1 a (Exh (.ref CF) (some d) a)) := fun H1 k a d f1 s1 e1 na => by
      have sm : Same H1 (upd H1 a (Exh (.ref CF) (some d) a)) := same_upd na
      have z := q _ (f1.trans (fr_same sm)) (s1.fr (fr_same (S := []) sm) (by simp) (by simp))
      rw [e1] at z
      exact z
    have back : ∀ (N : Hp → Prop) (EE : XK) (o : SM × Option Nat), m.step way row = o → (∀ H1, Q .non H1 → N H1) → (∀ H1 k d, H1 d = some (.xd [("step", .int (k : Int))]) → (∀ a, H1 a = none → Q (.int (k : Int)) (upd H1 a (Exh (.ref CF) (some d) a))) → EE (.ref CF) (some d) H1) →
        Ends2 C CF [p, l] H p l o.1 o.2 (fun _ H1 => N H1) EE := fun N EE o eo hN hE => by
      obtain ⟨m', r⟩ := o
      cases r with
      | none => exact fun H1 f1 s1 => hN H1 (done H1 none f1 (by rw [eo]; exact s1) (by rw [eo]) rfl)
      | some k => exact fun H1 d f1 s1 nd hd => hE H1 k d hd fun a na => fell H1 k a d f1 (by rw [eo]; exact s1) (by rw [eo]) na
    have okEnd : ∀ (H1 : Hp), Q .non H1 → if decide (V.non = V.non) = true then Q .non H1 else False := fun H1 z => iteT z
    refine ⟨_, rfl, rfl, _, rfl, ite2 (fun e => ?_) (fun e => ?_)⟩
    · have e0 : way = 0 := by
        have := V.int.inj (of_decide_eq_true e)
        omega
      refine ⟨_, rfl, p, dx, _, rfl, hp, sf_no1 _ _ _ _ _, _, rfl, p, l, m, row, rfl, hS, hm, hrw, ?_⟩
      refine back _ _ _ (by unfold SM.step; rw [if_pos e0]) (fun H1 z => ⟨_, rfl, rfl, _, rfl, iteT z⟩) (fun H1 k d hd z => ⟨true, TX.exm, fun _ a na => ?_, fun y => Bool.noConfusion y⟩)
      have sm := same_upd (o := Exh (.ref CF) (some d) a) na
      exact ⟨_, rfl, _, rfl, rfl, _, rfl, iteF ⟨_, rfl, a, CF, d, _, .ty "RuntimeError", .type "RuntimeError", true, rfl, upd_same, sm _ _ hd, TX.ec, TX.cl, fun u r => r, TX.kit, _, rfl, iteT ⟨_, rfl, a, CF, d, _, .int (k : Int), rfl, upd_same, TX.xf, TX.noAt, sm _ _ hd, rfl, z a na⟩⟩⟩
    · have n0 : ¬ way = 0 := fun z => e (by rw [z]; rfl)
      refine ⟨_, rfl, rfl, _, rfl, ite2 (fun e => ?_) (fun e => ?_)⟩
      · have e1 : way = 1 := by
          have := V.int.inj (of_decide_eq_true e)
          omega
        refine ⟨_, rfl, p, dx, _, rfl, hp, sf_no2 _ _ _ _ _, p, l, m, 1, rfl, hS, ?_⟩
        refine back _ _ _ (by unfold SM.step; rw [if_neg n0, if_pos e1]) (fun H1 z => ⟨_, rfl, rfl, _, rfl, iteT z⟩) (fun H1 k d hd z => ⟨true, TX.exm, fun _ a na => ?_, fun y => Bool.noConfusion y⟩)
        have sm := same_upd (o := Exh (.ref CF) (some d) a) na
        exact ⟨_, rfl, _, rfl, rfl, _, rfl, iteF ⟨_, rfl, a, CF, d, _, .ty "RuntimeError", .type "RuntimeError", true, rfl, upd_same, sm _ _ hd, TX.ec, TX.cl, fun u r => r, TX.kit, _, rfl, iteT ⟨_, rfl, a, CF, d, _, .int (k : Int), rfl, upd_same, TX.xf, TX.noAt, sm _ _ hd, rfl, z a na⟩⟩⟩
      · have n1 : ¬ way = 1 := fun z => e (by rw [z]; rfl)
        refine ⟨_, rfl, p, dx, _, rfl, hp, sf_no3 _ _ _ _ _, p, l, m, rfl, hS, ?_⟩
        refine back _ _ _ (by unfold SM.step; rw [if_neg n0, if_neg n1]) (fun H1 z => ⟨_, rfl, rfl, _, rfl, iteT z⟩) (fun H1 k d hd z => ⟨true, TX.exm, fun _ a na => ?_, fun y => Bool.noConfusion y⟩)
        have sm := same_upd (o := Exh (.ref CF) (some d) a) na
        exact ⟨_, rfl, _, rfl, rfl, _, rfl, iteF ⟨_, rfl, a, CF, d, _, .ty "RuntimeError", .type "RuntimeError", true, rfl, upd_same, sm _ _ hd, TX.ec, TX.cl, fun u r => r, TX.kit, _, rfl, iteT ⟨_, rfl, a, CF, d, _, .int (k : Int), rfl, upd_same, TX.xf, TX.noAt, sm _ _ hd, rfl, z a na⟩⟩⟩
end
end St7

set_option autoImplicit false
set_option maxHeartbeats 4000000
namespace St7
open PySem PySem.Spec PyProof.Rows L2 Dl Kx TL
abbrev InitF (K : PySem.W.Frag) (e0 fI : Addr) (fdI : FuncData) : Prop := FunD K "__init__" "Store.__init__" (defArgs sInit) (defBody sInit) (defScope sInit) [.ref e0] [("fall", .non), ("signs", .int 0)] fI fdI
section
variable {K : PySem.W.Frag} {e0 fI : Addr} {fdI : FuncData}
theorem bindR (F : InitF K e0 fI fdI) : ∃ ds, Vals [V.non, .int 0] ds ∧ Binds K fdI ["self", "rows", "fall", "signs"] ds :=
  F.binds 2 1 (by simp) rfl (fun T D doc pm an cdv ct us its ks hl hi hk => match us, hl, its, hi, ks, hk with | [_, _], _, [_], _, [_, _], _ => ⟨_, rfl, ⟨_, _, _, _, _, _, rfl, rfl, ⟨_, _, _, _, _, _, rfl, rfl, rfl⟩⟩⟩) (by simp)
theorem bindK1 (F : InitF K e0 fI fdI) : ∃ g gV, KBn K fdI ["self", "rows", "fall", "signs"] 2 ["fall"] g gV ∧ ∀ x y z : V, gV [x, y] [z] = [x, y, z, .int 0] := by
  obtain ⟨its, mv, kb⟩ := F.kbinds (ps := ["self", "rows", "fall", "signs"]) 2 ["fall"] [("signs", .int 0)] (fun us _ mv ws => us ++ ws ++ mv) (by simp) (by simp) (fun q hq => by
      rw [List.mem_singleton.mp hq]
      simp) (fun r1 _ r3 r4 => (r1.append r4).append r3)
    (fun T D doc pm an cdv ct us its mv ws hl hi hm hw => match us, hl, its, hi, mv, hm, ws, hw with | [_, _], _, [_], _, [_], _, [_], _ => ⟨_, rfl, ⟨_, _, _, _, _, _, rfl, rfl, rfl⟩⟩)
  exact ⟨_, _, kb, fun x y z => rfl⟩
theorem bindK2 (F : InitF K e0 fI fdI) : ∃ g gV, KBn K fdI ["self", "rows", "fall", "signs"] 2 ["fall", "signs"] g gV ∧ ∀ x y z u : V, gV [x, y] [z, u] = [x, y, z, u] := by
  obtain ⟨its, mv, kb⟩ := F.kbinds (ps := ["self", "rows", "fall", "signs"]) 2 ["fall", "signs"] [] (fun us _ mv ws => us ++ ws ++ mv) (by simp) (by simp) (by simp) (fun r1 _ r3 r4 => (r1.append r4).append r3)
    (fun T D doc pm an cdv ct us its mv ws hl hi hm hw => match us, hl, its, hi, mv, hm, ws, hw with | [_, _], _, [_], _, [], _, [_, _], _ => ⟨_, rfl, rfl⟩)
  exact ⟨_, _, kb, fun x y z u => rfl⟩
end
theorem atI_in {α : Type} {xs : List α} {d : Int} (h0 : 0 ≤ d) (h1 : d < (xs.length : Int)) : ∃ v, atI xs d = some v ∧ v ∈ xs := by
  obtain ⟨j, rfl⟩ := Int.eq_ofNat_of_zero_le h0
  have hj : j < xs.length := Int.ofNat_lt.mp h1
  exact ⟨xs[j], atI_nat (List.getElem?_eq_getElem hj), List.getElem_mem hj⟩
def Ok (ns : List Str) : Prop := ∀ z ∈ ns, PyData.strOk z = true
theorem dpAll_strs {K : PySem.W.Frag} {H : Hp} : ∀ ns : List Str, DpAll K H (ns.map V.str) (ns.map PyData.str)
  | [] => .nil
  | n :: r => .cons (.str n) (dpAll_strs r)
theorem eqv_strs : ∀ ns : List Str, PyData.eqvAll (ns.map PyData.str) (ns.map PyData.str) = true
  | [] => by simp [PyData.eqvAll]
  | n :: r => by
    have ih := eqv_strs r
    simp [PyData.eqvAll, PyData.eqv]
    exact ih
theorem can_strs : ∀ ns : List Str, Ok ns → PyData.canLayAll0 (ns.map PyData.str) = true
  | [], _ => rfl
  | x :: r, h => by
    have h1 := h x (List.mem_cons_self ..)
    have h2 := can_strs r fun z hz => h z (List.mem_cons_of_mem _ hz)
    simp [PyData.canLayAll0, PyData.canLay0, h1, h2]
theorem depth_strs : ∀ ns : List Str, PyData.depthAll (ns.map PyData.str) = 0
  | [] => rfl
  | _ :: r => by simp [PyData.depthAll, PyData.depth, depth_strs r]
theorem shaped_strs {ns : List Str} (h : Ok ns) : SeqAt.shaped (.list (ns.map PyData.str)) = true := by
  simp [SeqAt.shaped, PyData.canLay0, PyData.depth, can_strs ns h, depth_strs]
theorem cut_drop (xs : List Str) (j : Nat) : cutV (xs.map V.str) (some (j : Int)) none = (xs.drop j).map V.str := by
  unfold cutV
  rw [HT.sIx_none, HT.sIx_nat, List.length_map, List.take_of_length_le (by rw [List.length_drop, List.length_map]; omega), List.map_drop]
  by_cases h : j ≤ xs.length
  · rw [show min j xs.length = j by omega]
  · rw [show min j xs.length = xs.length by omega, List.drop_eq_nil_of_le (by rw [List.length_map]; omega), List.drop_eq_nil_of_le (by rw [List.length_map]; omega)]
theorem cut_last (xs : List Str) : cutV (xs.map V.str) none (some (-1)) = xs.dropLast.map V.str := by
  unfold cutV
  have e : HT.sIx xs.length xs.length (some (-1)) = xs.length - 1 := by
    show (if (-1 : Int) < 0 then ((-1 : Int) + (xs.length : Int)).toNat else min (-1 : Int).toNat xs.length) = _
    rw [if_pos (by decide)]
    omega
  rw [HT.sIx_none, List.length_map, e, List.drop_zero, List.map_dropLast, List.dropLast_eq_take, List.length_map]
  rfl

/-- rows and counts behind a step, as the law counts them -/
def SM.fl (m : SM) : Option Nat := if m.falls = true then some m.steps else m.fell
def SM.z1 (m : SM) (way : Nat) (row : Str) : List Str := if m.falls = true ∧ way = 0 ∧ 0 < m.signs then m.rows ++ [cutS row none (some m.signs)] else m.rows
def pick3 (way : Nat) (row : Str) (z : List Str) : List Str := if way = 0 then z ++ [row] else if way = 1 then z.drop 1 else z.dropLast
def SM.nx (m : SM) (way : Nat) (row : Str) : SM := match m.fl with
  | some k => ⟨m.z1 way row, m.steps, m.fall, m.signs, some k⟩
  | none => ⟨pick3 way row (m.z1 way row), m.steps + 1, m.fall, m.signs, none⟩
theorem step_nx (m : SM) (way : Nat) (row : Str) : m.step way row = (m.nx way row, m.fl) := by
  obtain ⟨rows, steps, fall, signs, fell⟩ := m
  cases fell with
  | some k =>
    have hf : (SM.mk rows steps fall signs (some k)).falls = false := by simp [SM.falls]
    simp only [SM.step, SM.nx, SM.fl, SM.z1, SM.ahead, SM.after, SM.begin, hf, Bool.false_eq_true, false_and, if_false]
    split
    · rfl
    · split <;> rfl
  | none =>
    cases hf : (SM.mk rows steps fall signs none).falls with
    | false =>
      simp only [SM.step, SM.nx, SM.fl, SM.z1, SM.ahead, SM.after, SM.begin, hf, Bool.false_eq_true, false_and, if_false, pick3]
      split
      · rfl
      · split <;> rfl
    | true =>
      simp only [SM.step, SM.nx, SM.fl, SM.z1, SM.ahead, SM.after, SM.begin, hf, true_and, if_true]
      by_cases h0 : way = 0
      · rw [if_pos h0]
        by_cases h1 : 0 < signs
        · have hg : (SM.mk (rows ++ [cutS row none (some signs)]) steps fall signs none).falls = true := by
            simpa [SM.falls] using hf
          simp [h0, h1, hg]
        · simp [h0, h1, hf]
      · rw [if_neg h0]
        by_cases h1 : way = 1 <;> simp [h0, h1, hf]
def rowAt (i : Nat) : Str := (Str.ofString "row ") ++ Str.ofString (toString (i : Int))

abbrev sg (a d : Addr) (v2 : Option V) (r : Addr) (lim : Option Int) (g : Int) (p : Addr) (dn : Option Nat) (c : Nat) (v9 v10 v11 v12 v13 : Option V) : L2.St :=
  [some (.ref a), some (.ref d), v2, some (.ref r), some (oV lim), some (.int g), some (.ref p), some (oN dn), some (.int (c : Int)), v9, v10, v11, v12, v13]
structure I7 (C : Addr) (H : Hp) (d cl : Addr) (ns : List Int) (n : Nat) (p l r : Addr) (m : SM) (z : List Str) (k : Nat) : Prop where
  pen : Pen H d cl ns n
  st : StAt C H p l m
  rr : H r = some (.lst (z.map V.str))
  ok : Ok z
  sz : z.length ≤ k
  rl : r ≠ l
  cn : cl ≠ l
section
variable {C : Addr} {H H1 : Hp} {d cl : Addr} {ns : List Int} {n n1 : Nat} {p l r : Addr} {m : SM} {z : List Str} {k : Nat}
theorem I7.ne (I : I7 C H d cl ns n p l r m z k) : p ≠ d ∧ l ≠ d ∧ cl ≠ p ∧ r ≠ p ∧ r ≠ d := by
  obtain ⟨⟨xa, xb, hd, _⟩, hc, _⟩ := I.pen
  obtain ⟨⟨dx, hp⟩, hl, _⟩ := I.st
  exact ⟨ne_of hp hd (by intro z; cases z), ne_of hl hd (by intro z; cases z), ne_of hc hp (by intro z; cases z), ne_of I.rr hp (by intro z; cases z), ne_of I.rr hd (by intro z; cases z)⟩
theorem I7.draw (I : I7 C H d cl ns n p l r m z k) (f : Fr [d] H H1) (P : Pen H1 d cl ns n1) : I7 C H1 d cl ns n1 p l r m z k := by
  obtain ⟨h1, h2, h3, h4, h5⟩ := I.ne
  exact ⟨P, I.st.fr f (by simpa using h1) (by simpa using h2), f _ _ (by simpa using h5) I.rr, I.ok, I.sz, I.rl, I.cn⟩
theorem I7.same (I : I7 C H d cl ns n p l r m z k) (s : Same H H1) : I7 C H1 d cl ns n p l r m z k := I.draw (fr_same s) (I.pen.fr (fr_same (S := []) s) (by simp) (by simp))
theorem I7.mono (I : I7 C H d cl ns n p l r m z k) {n2 k2 : Nat} (h1 : n ≤ n2) (h2 : k ≤ k2) : I7 C H d cl ns n2 p l r m z k2 := ⟨I.pen.mono h1, I.st, I.rr, I.ok, Nat.le_trans I.sz h2, I.rl, I.cn⟩
theorem I7.done (I : I7 C H d cl ns n p l r m z k) {m' : SM} (f : Fr [p, l] H H1) (S : StAt C H1 p l m') : I7 C H1 d cl ns n p l r m' z k := by
  obtain ⟨h1, h2, h3, h4, h5⟩ := I.ne
  exact ⟨I.pen.fr f (by simp [Ne.symm h1, Ne.symm h2]) (by simp [h3, I.cn]), S, f _ _ (by simp [h4, I.rl]) I.rr, I.ok, I.sz, I.rl, I.cn⟩
theorem I7.rows (I : I7 C H d cl ns n p l r m z k) {r' : Addr} {z' : List Str} {k' : Nat} (hr : H r' = some (.lst (z'.map V.str))) (ok : Ok z') (sz : z'.length ≤ k') (ne : r' ≠ l) : I7 C H d cl ns n p l r' m z' k' := ⟨I.pen, I.st, hr, ok, sz, ne, I.cn⟩
end
theorem nx_fell (m : SM) (way : Nat) (row : Str) : (m.nx way row).fell = m.fl := by unfold SM.nx; cases m.fl <;> rfl
theorem nx_fall (m : SM) (way : Nat) (row : Str) : (m.nx way row).fall = m.fall := by unfold SM.nx; cases m.fl <;> rfl
theorem nx_signs (m : SM) (way : Nat) (row : Str) : (m.nx way row).signs = m.signs := by unfold SM.nx; cases m.fl <;> rfl
theorem row_ok : ∀ j, j < 10 → PyData.strOk (rowAt j) = true ∧ (rowAt j).length ≤ 20 := by decide +kernel
theorem row_len : ∀ j : Nat, j < 10 → (Str.ofString "row ").length + (Str.ofString (toString (j : Int))).length ≤ 20 := by decide +kernel
theorem cutS_ok {z : Str} (h : PyData.strOk z = true) (lo hi : Option Int) : PyData.strOk (cutS z lo hi) = true := by
  have h1 : z.cps.all (· < 0x110000) = true := h
  rw [← Array.all_toList, List.all_eq_true] at h1
  show (cutS z lo hi).cps.all (· < 0x110000) = true
  rw [← Array.all_toList, List.all_eq_true]
  intro e he
  unfold cutS at he
  exact h1 e (List.mem_of_mem_drop (List.mem_of_mem_take he))
theorem eqv_nil (z : List Str) : PyData.eqv (.list (z.map PyData.str)) (.list []) = decide (z = []) := by
  cases z <;> simp [PyData.eqv, PyData.eqvAll]

theorem scLaw : FnScope ["script", "pen", "turn", "rows", "limit", "a_signs", "store", "down", "counted", "step", "way", "row", "falls", "due"] ["script"] (defScope sLaw) := ⟨rfl, rfl, rfl, by decide +kernel, rfl, by decide +kernel, by decide +kernel⟩
def spLaw (K : PySem.W.Frag) : Sp := fun vs H Q _ => ∃ (a : Addr) (ns : List Int), vs = [.ref a] ∧ SqL K H a (ns.map V.int) ∧ ns.length ≤ 63 ∧ ∀ H', Q (.bl true) H'
section
variable {P : Program} {w : World} {K : PySem.W.Frag} {mg : Str → Option Value} {base : Heap}
theorem ok_law {C : Addr} (T : StoreT K mg C) {CF fJ : Addr} {fdJ : FuncData} (TF : FellT K mg CF fJ fdJ) (TX : FellX K CF)
    {f fP fD fDn fLF fI fW fL fC fR fS fU fF fB fA e0 : Addr} {fd fdP fdD fdDn fdLF fdI fdW fdL fdC fdR fdS fdU fdF fdB fdA : FuncData}
    (F : FnP K "law" sLaw f fd) (FP : FnP K "_law_pen" sPen fP fdP) (gP : mg "_law_pen" = some (.ref fP)) (FD : FnP K "_law_draw" sDraw fD fdD) (gD : mg "_law_draw" = some (.ref fD)) (FDn : FnP K "_law_done" sDone fDn fdDn) (gDn : mg "_law_done" = some (.ref fDn))
    (FLF : FnP K "_law_fall_at" sLFall fLF fdLF) (gLF : mg "_law_fall_at" = some (.ref fLF)) (MK : Mk K C fI) (FI : InitF K e0 fI fdI) (FA : FallF K fA fdA) (mA : Meth K C "fall_at" fA)
    (FW : MtP K "write" "Store.write" sWrite fW fdW) (mW : Meth K C "write" fW) (FL : MtP K "let_go" "Store.let_go" sLetGo fL fdL) (mL : Meth K C "let_go" fL) (FC : MtP K "cut" "Store.cut" sCut fC fdC) (mC : Meth K C "cut" fC)
    (FR : MtP K "rows" "Store.rows" sRows fR fdR) (mRo : Meth K C "rows" fR) (FS : MtP K "steps" "Store.steps" sSteps fS fdS) (mSt : Meth K C "steps" fS) (FU : MtP K "is_up" "Store.is_up" sIsUp fU fdU) (mU : Meth K C "is_up" fU)
    (FF : MtP K "_falls_now" "Store._falls_now" sFalls fF fdF) (mF : Meth K C "_falls_now" fF) (FB : MtP K "_begin_step" "Store._begin_step" sBegin fB fdB) (mB : Meth K C "_begin_step" fB)
    (ml : mg "len" = none) (ma : mg "abs" = none) (mr : mg "range" = none) (mI : mg "int" = none) (mS : mg "str" = none) (mm : mg "min" = none) (mi : mg "isinstance" = none) (mR : mg "RuntimeError" = none) : FnOk P w K mg base CX0 6 f fd ["script"] (spLaw K) := by
  have bP : Binds K fdP ["script"] [] := FP.bindsN fun _ _ _ _ _ _ us hl => match us, hl with | [_], _ => rfl
  have bD : Binds K fdD ["pen", "many"] [] := FD.bindsN fun _ _ _ _ _ _ us hl => match us, hl with | [_, _], _ => rfl
  have bDn : Binds K fdDn ["store", "way", "row"] [] := FDn.bindsN fun _ _ _ _ _ _ us hl => match us, hl with | [_, _, _], _ => rfl
  have bLF : Binds K fdLF ["store", "limit", "a_signs"] [] := FLF.bindsN fun _ _ _ _ _ _ us hl => match us, hl with | [_, _, _], _ => rfl
  have bRo : Binds K fdR ["self"] [] := FR.bindsN fun _ _ _ _ _ _ us hl => match us, hl with | [_], _ => rfl
  have bSt : Binds K fdS ["self"] [] := FS.bindsN fun _ _ _ _ _ _ us hl => match us, hl with | [_], _ => rfl
  have bU : Binds K fdU ["self"] [] := FU.bindsN fun _ _ _ _ _ _ us hl => match us, hl with | [_], _ => rfl
  obtain ⟨ds2, v2, b2⟩ := bindR FI
  obtain ⟨kg1, kgV1, bK1, eK1⟩ := bindK1 FI
  obtain ⟨kg2, kgV2, bK2, eK2⟩ := bindK2 FI
  have GP : FnOk P w K mg base CX0 1 fP fdP ["script"] (spPen K) := ok_pen FP
  have GD : FnOk P w K mg base CX0 1 fD fdD ["pen", "many"] spDraw := ok_draw FD ml ma mr
  have GLF : FnOk P w K mg base CX0 2 fLF fdLF ["store", "limit", "a_signs"] (spLFall C) := ok_lfall T FLF FA mA
  have GDn : FnOk P w K mg base CX0 5 fDn fdDn ["store", "way", "row"] (spDone C) := ok_done T TF TX FDn FW mW FL mL FC mC FF mF FB mB mi mR
  have GI : FnOk P w K mg base CX0 1 fI fdI ["self", "rows", "fall", "signs"] (spInit K C) := ok_init T FI
  have GRo : FnOk P w K mg base CX0 1 fR fdR ["self"] (spRows C) := ok_rows T FR
  have GSt : FnOk P w K mg base CX0 1 fS fdS ["self"] (spSteps C) := ok_steps T FS
  have GU : FnOk P w K mg base CX0 1 fU fdU ["self"] (spIsUp C) := ok_isup T FU
  refine F.ok scLaw (fun vs H Q E h => ?_) (fun cdv A outer s H vs Q E hr h => ?_)
  · obtain ⟨a, ns, rfl, _⟩ := h
    rfl
  · obtain ⟨a, ns0, rfl, hS0, hlen, q⟩ := h
    have hs := szl
    have hr1 : Room 1 _ := hr.mono (by decide)
    have hr2 : Room 2 _ := hr.mono (by decide)
    have hr5 : Room 5 _ := hr
    refine ⟨_, PSs.nox (pss_cons (ps_set (i := 1) scLaw.nd rfl (.inl rfl) (pe_call GP hr1 (by rfl) gP FP.kp bP .nil pass0 (pa_cons (pv 0) pa_nil)))
      (pss_cons (ps_for PassesOwn.never rfl (pi_range1 (by rfl) mr (pa_cons (pe_op op_add (pe_int) (pe_callB (call_min2 rfl) (by rfl) mm (by decide +kernel) (pa_cons (pe_int) (pa_cons (pe_op op_fdiv (pe_callB call_len_seq (by rfl) ml PySem.boot_len (pa_cons (pv 0) pa_nil)) (pe_int)) pa_nil)))) pa_nil)) (pg_name (i := 2) scLaw.nd rfl (.inl rfl)) (pss_cons (ps_set (i := 3) scLaw.nd rfl (.inl rfl) (pe_lst (pa_cons (pe_str) (pa_cons (pe_str) pa_nil))))
      (C8.pss_cut (ps_par (i := 4) (j := 5) rfl scLaw.nd rfl rfl (by decide) rfl rfl (pa_cons (pe_ix ix_list (pe_lst (pa_cons (pe_non) (pa_cons (pe_call GD hr1 (by rfl) gD FD.kp bD .nil pass0 (pa_cons (pv 1) (pa_cons (pe_int) pa_nil))) pa_nil))) (pe_callTy call_int1 (by rfl) mI PyProof.Rows.boot_int (pa_cons (pe_cmpR op_gt (pe_call GD hr1 (by rfl) gD FD.kp bD .nil pass0 (pa_cons (pv 1) (pa_cons (pe_int) pa_nil))) (pe_int) (nomark _)) pa_nil)) (fun _ _ => rfl)) (pa_cons (pe_call GD hr1 (by rfl) gD FD.kp bD .nil pass0 (pa_cons (pv 1) (pa_cons (pe_int) pa_nil))) pa_nil)) (by rfl))
      (pss_cons (ps_set (i := 6) scLaw.nd rfl (.inl rfl) (pe_make MK GI hr2 (by rfl) T.g b2 v2 pass0 (pa_cons (pv 3) pa_nil)))
      (C8.pss_cut (ps_if (pt_cmpR op_eq (pe_call GD hr1 (by rfl) gD FD.kp bD .nil pass0 (pa_cons (pv 1) (pa_cons (pe_int) pa_nil))) (pe_int) (nomark _)) (pss_one (ps_set (i := 6) scLaw.nd rfl (.inl rfl) (pe_ifExp (pt_cmpR op_eq (pv 5) (pe_int) (nomark _)) (pe_makeK (n := 1) MK GI hr2 (by rfl) T.g bK1 pass0 (pa_cons (pv 3) pa_nil) (pk_cons (pv 4) pk_nil)) (pe_makeK (n := 1) MK GI hr2 (by rfl) T.g bK2 pass0 (pa_cons (pv 3) pa_nil) (pk_cons (pv 4) (pk_cons (pv 5) pk_nil)))))) (pss_one (ps_expr (pe_call GLF hr2 (by rfl) gLF FLF.kp bLF .nil pass0 (pa_cons (pv 6) (pa_cons (pv 4) (pa_cons (pv 5) pa_nil)))))))
      (C8.pss_cut (ps_if (pt_cmpR op_eq (pe_call GD hr1 (by rfl) gD FD.kp bD .nil pass0 (pa_cons (pv 1) (pa_cons (pe_int) pa_nil))) (pe_int) (nomark _)) (pss_cons (ps_par (i := 4) (j := 5) rfl scLaw.nd rfl rfl (by decide) rfl rfl (pa_cons (pe_ix ix_list (pe_lst (pa_cons (pe_non) (pa_cons (pe_call GD hr1 (by rfl) gD FD.kp bD .nil pass0 (pa_cons (pv 1) (pa_cons (pe_int) pa_nil))) pa_nil))) (pe_call GD hr1 (by rfl) gD FD.kp bD .nil pass0 (pa_cons (pv 1) (pa_cons (pe_int) pa_nil))) (fun _ _ => rfl)) (pa_cons (pe_call GD hr1 (by rfl) gD FD.kp bD .nil pass0 (pa_cons (pv 1) (pa_cons (pe_int) pa_nil))) pa_nil)) (by rfl))
      (pss_one (ps_expr (pe_call GLF hr2 (by rfl) gLF FLF.kp bLF .nil pass0 (pa_cons (pv 6) (pa_cons (pv 4) (pa_cons (pv 5) pa_nil))))))) pss_nil)
      (pss_cons (ps_set (i := 7) scLaw.nd rfl (.inl rfl) (pe_non))
      (pss_cons (ps_set (i := 8) scLaw.nd rfl (.inl rfl) (pe_int))
      (pss_one (ps_for PassesOwn.never rfl (pi_range1 (by rfl) mr (pa_cons (pe_int) pa_nil)) (pg_name (i := 9) scLaw.nd rfl (.inl rfl)) (C8.pss_cut (ps_set (i := 10) scLaw.nd rfl (.inl rfl) (pe_ifExp (pt_cmpR (op_neD hr.units) (pv 3) (pe_lst pa_nil) (nomark _)) (pe_ix ix_list (pe_lst (pa_cons (pe_int) (pa_cons (pe_int) (pa_cons (pe_call GD hr1 (by rfl) gD FD.kp bD .nil pass0 (pa_cons (pv 1) (pa_cons (pe_int) pa_nil))) pa_nil)))) (pe_call GD hr1 (by rfl) gD FD.kp bD .nil pass0 (pa_cons (pv 1) (pa_cons (pe_int) pa_nil))) (fun _ _ => rfl)) pe_int))
      (pss_cons (ps_set (i := 11) scLaw.nd rfl (.inl rfl) (pe_op op_add_str (pe_str) (pe_callTy call_str_int (by rfl) mS PyProof.Rows.boot_str (pa_cons (pv 9) pa_nil))))
      (C8.pss_cut (ps_set (i := 12) scLaw.nd rfl (.inl rfl) (pe_and (pe_cmpR op_isN (pv 7) (pe_non) (nomark _)) (pe_one (pe_cmpR op_eq (pv 4) (pv 8) (nomark _)))))
      (C8.pss_cut (ps_set (i := 13) scLaw.nd rfl (.inl rfl) (pe_ifExp (pt_val (pv 12)) (pv 8) (pv 7)))
      (C8.pss_cut (ps_if (PW.pt (pw_and (pt_val (pv 12)) (pw_and (pt_cmpR op_eq (pv 10) (pe_int) (nomark _)) (pw_and1 (pt_cmpR op_gt (pv 5) (pe_int) (nomark _)))))) (pss_one (ps_set (i := 3) scLaw.nd rfl (.inl rfl) (pe_op op_cat (pv 3) (pe_lst (pa_cons (pe_slice sl_str (pv 11) po_none (po_some (pv 5))) pa_nil))))) pss_nil)
      (C8.pss_cut (ps_if (pt_val (pv 12)) (pss_one (ps_set (i := 7) scLaw.nd rfl (.inl rfl) (pv 8))) pss_nil)
      (C8.pss_cut (ps_if (pt_cmpR op_isN (pv 7) (pe_non) (nomark _)) (pss_cons (ps_set (i := 3) scLaw.nd rfl (.inl rfl) (pe_ix ix_list (pe_lst (pa_cons (pe_op op_cat (pv 3) (pe_lst (pa_cons (pv 11) pa_nil))) (pa_cons (pe_slice sl_list (pv 3) (po_some pe_int) po_none) (pa_cons (pe_slice sl_list (pv 3) po_none (po_some (pe_un un_neg pe_int))) pa_nil)))) (pv 10) (fun _ _ => rfl)))
      (pss_one (ps_set (i := 8) scLaw.nd rfl (.inl rfl) (pe_op op_add (pv 8) (pe_int))))) pss_nil)
      (C8.pss_cut (ps_if (pt_cmpR op_ne (pe_call GDn hr5 (by rfl) gDn FDn.kp bDn .nil pass0 (pa_cons (pv 6) (pa_cons (pv 10) (pa_cons (pv 11) pa_nil)))) (pv 13) (nomark _)) (pss_one (ps_ret pe_bl)) pss_nil)
      (C8.pss_cut (ps_if (PW.pt (pw_or (pt_cmpR (op_neD hr.units) (pe_meth0 (pv 6) T.cl mRo GRo hr1 bRo .nil pass0) (pv 3) (nomark _)) (pw_or (pt_cmpR op_ne (pe_meth0 (pv 6) T.cl mSt GSt hr1 bSt .nil pass0) (pv 8) (nomark _)) (pw_or1 (pt_cmpR op_ne (pe_meth0 (pv 6) T.cl mU GU hr1 bU .nil pass0) (pe_cmpR op_isN (pv 7) (pe_non) (nomark _)) (nomark _)))))) (pss_one (ps_ret pe_bl)) pss_nil)
      (pss_one (ps_if (PW.pt (pw_and (pt_cmpR op_eq (pv 9) (pe_int) (nomark _)) (pw_and1 (pt_cmpR op_eq (pe_call GD hr1 (by rfl) gD FD.kp bD .nil pass0 (pa_cons (pv 1) (pa_cons (pe_int) pa_nil))) (pe_int) (nomark _))))) (pss_cons (ps_par (i := 4) (j := 5) rfl scLaw.nd rfl rfl (by decide) rfl rfl (pa_cons (pe_call GD hr1 (by rfl) gD FD.kp bD .nil pass0 (pa_cons (pv 1) (pa_cons (pe_int) pa_nil))) (pa_cons (pe_call GD hr1 (by rfl) gD FD.kp bD .nil pass0 (pa_cons (pv 1) (pa_cons (pe_int) pa_nil))) pa_nil)) (by rfl))
      (pss_one (ps_expr (pe_call GLF hr2 (by rfl) gLF FLF.kp bLF .nil pass0 (pa_cons (pv 6) (pa_cons (pv 4) (pa_cons (pv 5) pa_nil))))))) pss_nil)))))))))))))))))))))
      (pss_one (ps_ret pe_bl)))), ?_⟩
    refine ⟨_, rfl, a, ns0, rfl, hS0, hlen, fun H1 d cl ns s1 d0 c0 P1 => ?_⟩
    have hSq : SqL K H1 a (ns0.map V.int) := s1.seq hS0
    obtain ⟨mN, em, hm⟩ : ∃ mN : Nat, (2 + (if (((ns0.map V.int).length : Nat) : Int) / 3 < 4 then (((ns0.map V.int).length : Nat) : Int) / 3 else 4)) = (mN : Int) ∧ mN ≤ 6 := by
      by_cases h : (((ns0.map V.int).length : Nat) : Int) / 3 < 4
      · rw [if_pos h]
        exact ⟨2 + (ns0.map V.int).length / 3, by omega, by omega⟩
      · rw [if_neg h]
        exact ⟨6, by omega, by omega⟩
    refine ⟨_, rfl, a, _, rfl, .inl hSq, _, 3, rfl, rfl, ?cd, 4, _, rfl, 2, _, rfl, rfl, (mN : Int), congrArg (fun x => [V.int x]) em, by omega, by omega, ?_⟩
    case cd =>
      rw [List.length_map]
      unfold CDiv
      omega
    refine for_range (lo := 0) (n := (mN : Int).toNat) (fun i σ H' => ∃ (v2 v3 v4 v5 v6 v7 v8 v9 v10 v11 v12 v13 : Option V), σ = [some (.ref a), some (.ref d), v2, v3, v4, v5, v6, v7, v8, v9, v10, v11, v12, v13] ∧ Pen H' d cl ns (200 * i))
      ⟨_, _, _, _, _, _, _, _, _, _, _, _, rfl, P1⟩ ?_ ?_
    · rintro i σ H2 hi ⟨v2, v3, v4, v5, v6, v7, v8, v9, v10, v11, v12, v13, rfl, P2⟩
      have hi6 : i < 6 := by omega
      refine ⟨by show 2 ≤ sizeLine; omega, fun r nr => ?_⟩
      have hr0 : (upd H2 r (.lst [.str "ab", .str "c"])) r = some (.lst ((["ab", "c"] : List Str).map V.str)) := upd_same
      have P3 : Pen (upd H2 r (.lst [.str "ab", .str "c"])) d cl ns (200 * i) := P2.fr (fr_same (S := []) (same_upd nr)) (by simp) (by simp)
      generalize (upd H2 r (.lst [.str "ab", .str "c"])) = H3 at hr0 P3
      have nrd : r ≠ d := by
        obtain ⟨⟨xa, xb, hd, _⟩, _⟩ := P3
        exact ne_of hr0 hd (by intro z; cases z)
      have nrc : cl ≠ r := ne_of_none P2.cs nr
      refine ⟨fun σ' H' => ∃ (lim : Option Int) (g : Int), σ' = [some (.ref a), some (.ref d), some (.int (0 + (i : Int))), some (.ref r), some (oV lim), some (.int g), v6, v7, v8, v9, v10, v11, v12, v13] ∧ Pen H' d cl ns (200 * i + 3) ∧ H' r = some (.lst ((["ab", "c"] : List Str).map V.str)), ?_, ?_⟩
      · refine ⟨_, rfl, d, cl, ns, 9, _, rfl, P3, by omega, by decide, by decide, fun H4 k4 f4 P4 k40 k41 => ?_⟩
        refine ⟨by show 2 ≤ sizeLine; omega, fun q4 nq4 => ?_⟩
        have P5 : Pen (upd H4 q4 (.lst [.non, .int k4])) d cl ns (200 * i + 1) := P4.fr (fr_same (S := []) (same_upd nq4)) (by simp) (by simp)
        have h5 : (upd H4 q4 (.lst [.non, .int k4])) q4 = some (.lst [.non, .int k4]) := upd_same
        have r5 := same_upd (o := HO.lst [.non, .int k4]) nq4 _ _ (f4 _ _ (by simpa using nrd) hr0)
        have nqd : q4 ≠ d := by
          obtain ⟨⟨xa, xb, hd, _⟩, _⟩ := P5
          exact ne_of h5 hd (by intro z; cases z)
        generalize (upd H4 q4 (.lst [.non, .int k4])) = H5 at P5 h5 r5
        refine ⟨_, rfl, d, cl, ns, 4, _, rfl, P5, by omega, by decide, by decide, fun H6 k6 f6 P6 k60 k61 => ?_⟩
        have h6 := f6 _ _ (by simpa using nqd) h5
        have r6 := f6 _ _ (by simpa using nrd) r5
        refine ⟨_, _, rfl, rfl, .inr ⟨_, rfl, ?_⟩⟩
        obtain ⟨lim, hlim⟩ : ∃ lim : Option Int, atI [V.non, .int k4] (if decide (0 < k6) = true then 1 else 0) = some (oV lim) := by
          cases decide (0 < k6)
          · exact ⟨none, rfl⟩
          · exact ⟨some k4, rfl⟩
        refine ⟨q4, _, _, _, rfl, rfl, SqL.of h6, hlim, ?_⟩
        refine ⟨_, rfl, d, cl, ns, 6, _, rfl, P6, by omega, by decide, by decide, fun H7 k7 f7 P7 k70 k71 => ?_⟩
        exact ⟨_, _, rfl, lim, k7, rfl, P7, f7 _ _ (by simpa using nrd) r6⟩
      · rintro σ' H4 ⟨lim, g, rfl, P4, r4⟩
        refine ⟨_, rfl, fun x dx nx ndx ndne => ?_⟩
        have sx : Same H4 (upd (upd H4 dx (.own x)) x (.ins C dx [])) := fun b o e => by
          rw [upd_ne (ne_of_none e nx), upd_ne (ne_of_none e ndx)]
          exact e
        refine ⟨H4, x, dx, r, ["ab", "c"], none, 0, rfl, sx, nx, upd_same, .inl (SqL.of (sx _ _ r4)), by decide, fun H5 l0 s5 nl0 st0 => ⟨rfl, ?_⟩⟩
        have hAB : Ok ["ab", "c"] := fun y hy => by
          rcases List.mem_cons.mp hy with e | hy
          · rw [e]; decide +kernel
          · rw [List.mem_singleton.mp hy]; decide +kernel
        have I5 : I7 C H5 d cl ns (200 * i + 3) x l0 r ⟨["ab", "c"], 0, none, 0, none⟩ ["ab", "c"] 2 :=
          ⟨P4.fr (fr_same (S := []) s5) (by simp) (by simp), st0, s5 _ _ r4, hAB, by decide, ne_of_none r4 nl0, ne_of_none P4.cs nl0⟩
        refine ⟨fun σ' H' => ∃ (p l : Addr), σ' = [some (.ref a), some (.ref d), some (.int (0 + (i : Int))), some (.ref r), some (oV lim), some (.int g), some (.ref p), v7, v8, v9, v10, v11, v12, v13] ∧ I7 C H' d cl ns (200 * i + 4) p l r ⟨["ab", "c"], 0, lim, g, none⟩ ["ab", "c"] 2, ?_, ?_⟩
        · refine ⟨_, rfl, d, cl, ns, 2, _, rfl, I5.pen, by omega, by decide, by decide, fun H6 k6 f6 P6 k60 k61 => ?_⟩
          have I6 := I5.draw f6 P6
          refine ⟨rfl, _, rfl, ite2 (fun e => ?_) (fun e => ?_)⟩
          · refine ⟨_, rfl, rfl, _, rfl, ite2 (fun e => ?_) (fun e => ?_)⟩
            · have e0 : g = 0 := V.int.inj (of_decide_eq_true e)
              refine ⟨_, rfl, _, rfl, rfl, rfl, fun x dx nx ndx ndne => ?_⟩
              have sx : Same H6 (upd (upd H6 dx (.own x)) x (.ins C dx [])) := fun b o e => by
                rw [upd_ne (ne_of_none e nx), upd_ne (ne_of_none e ndx)]
                exact e
              refine ⟨H6, x, dx, r, ["ab", "c"], lim, 0, eK1 _ _ _, sx, nx, upd_same, .inl (SqL.of (sx _ _ I6.rr)), by decide, fun H7 l7 s7 nl7 st7 => ⟨rfl, ?_⟩⟩
              refine ⟨x, l7, rfl, P6.fr (fr_same (S := []) s7) (by simp) (by simp), by rw [e0]; exact st7, s7 _ _ I6.rr, hAB, by decide, ne_of_none I6.rr nl7, ne_of_none P6.cs nl7⟩
            · refine ⟨_, rfl, _, rfl, _, rfl, rfl, rfl, fun x dx nx ndx ndne => ?_⟩
              have sx : Same H6 (upd (upd H6 dx (.own x)) x (.ins C dx [])) := fun b o e => by
                rw [upd_ne (ne_of_none e nx), upd_ne (ne_of_none e ndx)]
                exact e
              refine ⟨H6, x, dx, r, ["ab", "c"], lim, g, eK2 _ _ _ _, sx, nx, upd_same, .inl (SqL.of (sx _ _ I6.rr)), by decide, fun H7 l7 s7 nl7 st7 => ⟨rfl, ?_⟩⟩
              refine ⟨x, l7, rfl, P6.fr (fr_same (S := []) s7) (by simp) (by simp), st7, s7 _ _ I6.rr, hAB, by decide, ne_of_none I6.rr nl7, ne_of_none P6.cs nl7⟩
          · refine ⟨_, rfl, _, rfl, _, rfl, x, l0, _, lim, g, rfl, I6.st, fun H7 f7 st7 => ?_⟩
            exact ⟨x, l0, rfl, I6.done (f7.mono (by simp)) st7⟩
        · rintro σ' H6 ⟨p, l, rfl, I6⟩
          refine ⟨fun σ' H' => ∃ (lim : Option Int) (g : Int), σ' = [some (.ref a), some (.ref d), some (.int (0 + (i : Int))), some (.ref r), some (oV lim), some (.int g), some (.ref p), v7, v8, v9, v10, v11, v12, v13] ∧ I7 C H' d cl ns (200 * i + 10) p l r ⟨["ab", "c"], 0, lim, g, none⟩ ["ab", "c"] 2, ?_, ?_⟩
          · refine ⟨_, rfl, d, cl, ns, 3, _, rfl, I6.pen, by omega, by decide, by decide, fun H7 k7 f7 P7 k70 k71 => ?_⟩
            have J7 := I6.draw f7 P7
            refine ⟨rfl, _, rfl, ite2 (fun e => ?_) (fun e => ?_)⟩
            · refine ⟨_, rfl, d, cl, ns, 9, _, rfl, P7, by omega, by decide, by decide, fun H8 k8 f8 P8 k80 k81 => ?_⟩
              have J8 := J7.draw f8 P8
              refine ⟨by show 2 ≤ sizeLine; omega, fun q9 nq9 => ?_⟩
              have J9 := J8.same (same_upd (o := HO.lst [.non, .int k8]) nq9)
              have h9 : (upd H8 q9 (.lst [.non, .int k8])) q9 = some (.lst [.non, .int k8]) := upd_same
              generalize (upd H8 q9 (.lst [.non, .int k8])) = H9 at J9 h9
              have nqd : q9 ≠ d := by
                obtain ⟨⟨xa, xb, hd, _⟩, _⟩ := J9.pen
                exact ne_of h9 hd (by intro z; cases z)
              refine ⟨_, rfl, d, cl, ns, 2, _, rfl, J9.pen, by omega, by decide, by decide, fun H10 k10 f10 P10 k100 k101 => ?_⟩
              have J10 := J9.draw f10 P10
              obtain ⟨lim2, hlim⟩ : ∃ lim2 : Option Int, atI [V.non, .int k8] k10 = some (oV lim2) := by
                rcases (by omega : k10 = 0 ∨ k10 = 1) with e | e <;> subst e
                · exact ⟨none, rfl⟩
                · exact ⟨some k8, rfl⟩
              refine ⟨q9, _, k10, _, rfl, rfl, SqL.of (f10 _ _ (by simpa using nqd) h9), hlim, ?_⟩
              refine ⟨_, rfl, d, cl, ns, 3, _, rfl, P10, by omega, by decide, by decide, fun H11 k11 f11 P11 k110 k111 => ?_⟩
              have J11 := J10.draw f11 P11
              refine ⟨_, _, rfl, ?_⟩
              refine ⟨_, rfl, _, rfl, _, rfl, p, l, _, lim2, k11, rfl, J11.st, fun H12 f12 st12 => ?_⟩
              exact ⟨lim2, k11, rfl, (J11.done (f12.mono (by simp)) st12).mono (by omega) (Nat.le_refl _)⟩
            · exact ⟨lim, g, rfl, J7.mono (by omega) (Nat.le_refl _)⟩
          · rintro σ' H7 ⟨lim, g, rfl, J7⟩
            refine ⟨10, rfl, by decide, by decide, ?_⟩
            refine for_range (lo := 0) (n := (10 : Int).toNat) (fun j σ H' => ∃ (r : Addr) (m : SM) (v9 v10 v11 v12 v13 : Option V), σ = sg a d (some (.int (0 + (i : Int)))) r m.fall m.signs p m.fell m.steps v9 v10 v11 v12 v13 ∧ I7 C H' d cl ns (200 * i + 10 + 10 * j) p l r m m.rows (2 + 2 * j))
              ⟨r, _, _, _, _, _, _, rfl, J7⟩ ?_ ?_
            · rintro j σ H8 hj ⟨r, m, v9, v10, v11, v12, v13, rfl, J8⟩
              have hj10 : j < 10 := hj
              have hi6 : i < 6 := by omega
              refine ⟨fun σ' H' => ∃ wy : Nat, σ' = sg a d (some (.int (0 + (i : Int)))) r m.fall m.signs p m.fell m.steps (some (.int (0 + (j : Int)))) (some (.int (wy : Int))) v11 v12 v13 ∧ wy ≤ 2 ∧ I7 C H' d cl ns (200 * i + 10 + 10 * j + 2) p l r m m.rows (2 + 2 * j), ?_, ?_⟩
              · refine ⟨_, rfl, Nat.zero_le _, fun e1 ne1 => ⟨.list (m.rows.map PyData.str), .list [], .lst (SqL.of (same_upd ne1 _ _ J8.rr)) (dpAll_strs _), .lst (SqL.of upd_same) .nil, shaped_strs J8.ok, by decide +kernel, _, rfl, ?_⟩⟩
                have J9 := J8.same (same_upd (o := HO.lst []) ne1)
                generalize (upd H8 e1 (.lst [])) = H9 at J9
                refine ite2 (fun e => ?_) (fun e => ?_)
                · refine ⟨_, rfl, d, cl, ns, 3, _, rfl, J9.pen, by omega, by decide, by decide, fun H10 k10 f10 P10 k100 k101 => ?_⟩
                  have J10 := J9.draw f10 P10
                  refine ⟨by show 3 ≤ sizeLine; omega, fun q11 nq11 => ?_⟩
                  have J11 := J10.same (same_upd (o := HO.lst [.int 0, .int 0, .int k10]) nq11)
                  have h11 : (upd H10 q11 (.lst [.int 0, .int 0, .int k10])) q11 = some (.lst [.int 0, .int 0, .int k10]) := upd_same
                  generalize (upd H10 q11 (.lst [.int 0, .int 0, .int k10])) = H11 at J11 h11
                  have nqd : q11 ≠ d := by
                    obtain ⟨⟨xa, xb, hd, _⟩, _⟩ := J11.pen
                    exact ne_of h11 hd (by intro z; cases z)
                  refine ⟨_, rfl, d, cl, ns, 3, _, rfl, J11.pen, by omega, by decide, by decide, fun H12 k12 f12 P12 k120 k121 => ?_⟩
                  have J12 := J11.draw f12 P12
                  obtain ⟨wy, hwy, hle⟩ : ∃ wy : Nat, atI [V.int 0, V.int 0, V.int k10] k12 = some (.int (wy : Int)) ∧ wy ≤ 2 := by
                    obtain ⟨u, rfl⟩ := Int.eq_ofNat_of_zero_le k100
                    rcases (by omega : k12 = 0 ∨ k12 = 1 ∨ k12 = 2) with e | e | e <;> subst e
                    · exact ⟨0, rfl, by omega⟩
                    · exact ⟨0, rfl, by omega⟩
                    · exact ⟨u, rfl, by omega⟩
                  exact ⟨q11, _, k12, _, rfl, rfl, SqL.of (f12 _ _ (by simpa using nqd) h11), hwy, wy, rfl, hle, J12.mono (by omega) (Nat.le_refl _)⟩
                · exact ⟨0, rfl, by omega, J9.mono (by omega) (Nat.le_refl _)⟩
              · rintro σ' H9 ⟨wy, rfl, hwy, J9⟩
                obtain ⟨rok, rlen⟩ := row_ok j hj10
                have erow : (Str.ofString "row ") ++ Str.ofString (toString ((0 : Int) + (j : Int))) = rowAt j := by
                  rw [Int.zero_add]
                  rfl
                refine ⟨_, rfl, (0 : Int) + (j : Int), rfl, by
                  have : ((0 : Int) + (j : Int)).natAbs = j := by omega
                  rw [this]
                  have := Nat.log2_le_self j
                  omega, _, _, rfl, rfl, ?_, ?_⟩
                · rw [Int.zero_add]
                  have := row_len j hj10
                  omega
                rw [erow]
                generalize rowAt j = row at rok rlen
                refine ⟨fun σ' H' => σ' = sg a d (some (.int (0 + (i : Int)))) r m.fall m.signs p m.fell m.steps (some (.int (0 + (j : Int)))) (some (.int (wy : Int))) (some (.str row)) (some (.bl m.falls)) v13 ∧ I7 C H' d cl ns (200 * i + 10 + 10 * j + 2) p l r m m.rows (2 + 2 * j), ?_, ?_⟩
                · refine ⟨_, rfl, rfl, _, rfl, ?_⟩
                  cases hm : m.fell with
                  | some k =>
                    refine iteF ⟨?_, J9⟩
                    have hf : m.falls = false := by simp [SM.falls, hm]
                    rw [hf]
                    rfl
                  | none =>
                    refine iteT ⟨_, rfl, _, rfl, by cases m.fall <;> rfl, ?_, J9⟩
                    have hf : m.falls = decide (oV m.fall = V.int (m.steps : Int)) := by
                      unfold SM.falls
                      rw [hm]
                      cases m.fall <;> simp [oV]
                    rw [hf]
                    rfl
                · rintro σ' H10 ⟨rfl, J10⟩
                  refine ⟨fun σ' H' => σ' = sg a d (some (.int (0 + (i : Int)))) r m.fall m.signs p m.fell m.steps (some (.int (0 + (j : Int)))) (some (.int (wy : Int))) (some (.str row)) (some (.bl m.falls)) (some (oN m.fl)) ∧ I7 C H' d cl ns (200 * i + 10 + 10 * j + 2) p l r m m.rows (2 + 2 * j), ?_, ?_⟩
                  · refine ⟨_, rfl, _, rfl, ite2 (fun e => ?_) (fun e => ?_)⟩
                    · refine ⟨_, rfl, ?_, J10⟩
                      unfold SM.fl
                      rw [if_pos e]
                      rfl
                    · refine ⟨_, rfl, ?_, J10⟩
                      unfold SM.fl
                      rw [if_neg e]
                      rfl
                  rintro σ' H11 ⟨rfl, J11⟩
                  refine ⟨fun σ' H' => ∃ r1 : Addr, σ' = sg a d (some (.int (0 + (i : Int)))) r1 m.fall m.signs p m.fell m.steps (some (.int (0 + (j : Int)))) (some (.int (wy : Int))) (some (.str row)) (some (.bl m.falls)) (some (oN m.fl)) ∧ I7 C H' d cl ns (200 * i + 10 + 10 * j + 2) p l r1 m (m.z1 wy row) (2 + 2 * j + 1), ?_, ?_⟩
                  · refine ⟨_, rfl, _, rfl, ite2 (fun e => ?_) (fun e => ?_)⟩
                    · refine ⟨_, rfl, rfl, _, rfl, ite2 (fun e2 => ?_) (fun e2 => ?_)⟩
                      · refine ⟨_, rfl, _, _, rfl, rfl, _, rfl, ite2 (fun e3 => ?_) (fun e3 => ?_)⟩
                        · have ez : m.z1 wy row = m.rows ++ [cutS row none (some m.signs)] := by
                            unfold SM.z1
                            rw [if_pos ⟨e, by have := V.int.inj (of_decide_eq_true e2); omega, of_decide_eq_true e3⟩]
                          refine ⟨_, rfl, _, rfl, _, rfl, _, rfl, row, rfl, by omega, by show 1 ≤ sizeLine; omega, fun q1 nq1 => ?_⟩
                          have sq := same_upd (o := HO.lst [V.str (cutS row none (some m.signs))]) nq1
                          refine ⟨r, q1, _, _, rfl, rfl, sq _ _ J11.rr, upd_same, by rw [List.length_map]; have := J11.sz; show _ + 1 ≤ _; omega, fun r1 nr1 => ?_⟩
                          have s1' := same_upd (o := HO.lst (m.rows.map V.str ++ [V.str (cutS row none (some m.signs))])) nr1
                          refine ⟨r1, rfl, ?_⟩
                          have JJ := J11.same (sq.trans s1')
                          refine JJ.rows (by rw [upd_same, ez, List.map_append]; rfl) (fun y hy => ?_) ?_ (ne_of_none (sq _ _ J11.st.rows) nr1).symm
                          · rw [ez] at hy
                            rcases List.mem_append.mp hy with h | h
                            · exact J11.ok y h
                            · rw [List.mem_singleton.mp h]
                              exact cutS_ok rok _ _
                          · rw [ez, List.length_append, List.length_singleton]
                            have := J11.sz
                            omega
                        · have ez : m.z1 wy row = m.rows := by
                            unfold SM.z1
                            rw [if_neg (fun z => e3 (decide_eq_true z.2.2))]
                          exact ⟨r, rfl, by rw [ez]; exact J11.mono (Nat.le_refl _) (by omega)⟩
                      · have ez : m.z1 wy row = m.rows := by
                          unfold SM.z1
                          rw [if_neg (fun z => e2 (by rw [z.2.1]; rfl))]
                        exact ⟨r, rfl, by rw [ez]; exact J11.mono (Nat.le_refl _) (by omega)⟩
                    · have ez : m.z1 wy row = m.rows := by
                        unfold SM.z1
                        rw [if_neg (fun z => e z.1)]
                      exact ⟨r, rfl, by rw [ez]; exact J11.mono (Nat.le_refl _) (by omega)⟩
                  rintro σ' H12 ⟨r1, rfl, J12⟩
                  refine ⟨fun σ' H' => σ' = sg a d (some (.int (0 + (i : Int)))) r1 m.fall m.signs p m.fl m.steps (some (.int (0 + (j : Int)))) (some (.int (wy : Int))) (some (.str row)) (some (.bl m.falls)) (some (oN m.fl)) ∧ I7 C H' d cl ns (200 * i + 10 + 10 * j + 2) p l r1 m (m.z1 wy row) (2 + 2 * j + 1), ?_, ?_⟩
                  · refine ⟨_, rfl, _, rfl, ite2 (fun e => ?_) (fun e => ?_)⟩
                    · refine ⟨_, rfl, ?_, J12⟩
                      have : m.fl = some m.steps := by unfold SM.fl; rw [if_pos e]
                      rw [this]
                      rfl
                    · refine ⟨?_, J12⟩
                      have : m.fl = m.fell := by unfold SM.fl; rw [if_neg e]
                      rw [this]
                  rintro σ' H13 ⟨rfl, J13⟩
                  refine ⟨fun σ' H' => ∃ r2 : Addr, σ' = sg a d (some (.int (0 + (i : Int)))) r2 m.fall m.signs p m.fl (m.nx wy row).steps (some (.int (0 + (j : Int)))) (some (.int (wy : Int))) (some (.str row)) (some (.bl m.falls)) (some (oN m.fl)) ∧ I7 C H' d cl ns (200 * i + 10 + 10 * j + 2) p l r2 m (m.nx wy row).rows (2 + 2 * j + 2), ?_, ?_⟩
                  · refine ⟨_, rfl, rfl, _, rfl, ite2 (fun e => ?_) (fun e => ?_)⟩
                    · have efl : m.fl = none := by
                        cases h : m.fl with
                        | none => rfl
                        | some k =>
                          rw [h] at e
                          cases of_decide_eq_true e
                      have enx : m.nx wy row = ⟨pick3 wy row (m.z1 wy row), m.steps + 1, m.fall, m.signs, none⟩ := by
                        unfold SM.nx
                        rw [efl]
                      generalize m.z1 wy row = z1 at J13 enx
                      have hz1 := J13.sz
                      refine ⟨_, rfl, _, rfl, by show 1 ≤ sizeLine; omega, fun q1 nq1 => ?_⟩
                      have sq := same_upd (o := HO.lst [V.str row]) nq1
                      refine ⟨r1, q1, _, _, rfl, rfl, sq _ _ J13.rr, upd_same, by rw [List.length_map]; show _ + 1 ≤ _; omega, fun a1 na1 => ?_⟩
                      have sa1 := same_upd (o := HO.lst (z1.map V.str ++ [V.str row])) na1
                      have h1 : (upd (upd H13 q1 (.lst [V.str row])) a1 (.lst (z1.map V.str ++ [V.str row]))) a1 = some (.lst ((z1 ++ [row]).map V.str)) := by
                        rw [upd_same, List.map_append]
                        rfl
                      have S1 := sq.trans sa1
                      have n1 := sq.free na1
                      generalize (upd (upd H13 q1 (.lst [V.str row])) a1 (.lst (z1.map V.str ++ [V.str row]))) = Ha at h1 S1
                      refine ⟨_, rfl, 1, rfl, r1, _, rfl, SqL.of (S1 _ _ J13.rr), fun a2 na2 => ?_⟩
                      rw [show cutV (z1.map V.str) (some (1 : Int)) none = (z1.drop 1).map V.str from cut_drop z1 1]
                      have sa2 := same_upd (o := HO.lst ((z1.drop 1).map V.str)) na2
                      have h2 : (upd Ha a2 (.lst ((z1.drop 1).map V.str))) a2 = some (.lst ((z1.drop 1).map V.str)) := upd_same
                      have S2 := S1.trans sa2
                      have h1b := sa2 _ _ h1
                      have n2 := S1.free na2
                      generalize (upd Ha a2 (.lst ((z1.drop 1).map V.str))) = Hb at h2 S2 h1b
                      refine ⟨_, rfl, _, rfl, -1, rfl, r1, _, rfl, SqL.of (S2 _ _ J13.rr), fun a3 na3 => ?_⟩
                      rw [cut_last]
                      have sa3 := same_upd (o := HO.lst (z1.dropLast.map V.str)) na3
                      have h3 : (upd Hb a3 (.lst (z1.dropLast.map V.str))) a3 = some (.lst (z1.dropLast.map V.str)) := upd_same
                      have S3 := S2.trans sa3
                      have h1c := sa3 _ _ h1b
                      have h2c := sa3 _ _ h2
                      have n3 := S2.free na3
                      generalize (upd Hb a3 (.lst (z1.dropLast.map V.str))) = Hc at h3 S3 h1c h2c
                      refine ⟨by show 3 ≤ sizeLine; omega, fun q4 nq4 => ?_⟩
                      have sq4 := same_upd (o := HO.lst [.ref a1, .ref a2, .ref a3]) nq4
                      have S4 := S3.trans sq4
                      have nl : ∀ b, H13 b = none → b ≠ l := fun b hb => (ne_of_none J13.st.rows hb).symm
                      have go : ∀ (x : Addr) (zz : List Str), x ≠ l → (upd Hc q4 (.lst [.ref a1, .ref a2, .ref a3])) x = some (.lst (zz.map V.str)) → pick3 wy row z1 = zz → Ok zz → zz.length ≤ 2 + 2 * j + 2 →
                          I7 C (upd Hc q4 (.lst [.ref a1, .ref a2, .ref a3])) d cl ns (200 * i + 10 + 10 * j + 2) p l x m (m.nx wy row).rows (2 + 2 * j + 2) := fun x zz nx hx ez okz szz => by
                        rw [enx]
                        show I7 C _ d cl ns _ p l x m (pick3 wy row z1) _
                        rw [ez]
                        exact (J13.same S4).rows hx okz szz nx
                      have hst : (m.nx wy row).steps = m.steps + 1 := by rw [enx]
                      rcases (by omega : wy = 0 ∨ wy = 1 ∨ wy = 2) with e0 | e0 | e0
                      · subst e0
                        refine ⟨_, rfl, q4, _, 0, .ref a1, rfl, rfl, SqL.of upd_same, rfl, ?_⟩
                        refine ⟨_, rfl, _, 1, rfl, rfl, a1, ?_, ?_⟩
                        · rw [hst]
                          rfl
                        · refine go a1 (z1 ++ [row]) (nl _ n1) (sq4 _ _ h1c) rfl (fun y hy => ?_) ?_
                          · rcases List.mem_append.mp hy with h | h
                            · exact J13.ok y h
                            · rw [List.mem_singleton.mp h]
                              exact rok
                          · rw [List.length_append, List.length_singleton]
                            omega
                      · subst e0
                        refine ⟨_, rfl, q4, _, 1, .ref a2, rfl, rfl, SqL.of upd_same, rfl, ?_⟩
                        refine ⟨_, rfl, _, 1, rfl, rfl, a2, ?_, ?_⟩
                        · rw [hst]
                          rfl
                        · refine go a2 (z1.drop 1) (nl _ n2) (sq4 _ _ h2c) rfl (fun y hy => J13.ok y (List.mem_of_mem_drop hy)) ?_
                          rw [List.length_drop]
                          omega
                      · subst e0
                        refine ⟨_, rfl, q4, _, 2, .ref a3, rfl, rfl, SqL.of upd_same, rfl, ?_⟩
                        refine ⟨_, rfl, _, 1, rfl, rfl, a3, ?_, ?_⟩
                        · rw [hst]
                          rfl
                        · refine go a3 z1.dropLast (nl _ n3) (sq4 _ _ h3) rfl (fun y hy => J13.ok y (by rw [List.dropLast_eq_take] at hy; exact List.mem_of_mem_take hy)) ?_
                          rw [List.length_dropLast]
                          omega
                    · obtain ⟨k, efl⟩ : ∃ k, m.fl = some k := by
                        cases h : m.fl with
                        | none =>
                          rw [h] at e
                          exact absurd rfl e
                        | some k => exact ⟨k, rfl⟩
                      have enx : m.nx wy row = ⟨m.z1 wy row, m.steps, m.fall, m.signs, some k⟩ := by
                        unfold SM.nx
                        rw [efl]
                      refine ⟨r1, ?_, ?_⟩
                      · rw [enx]
                      · rw [enx]
                        exact J13.mono (Nat.le_refl _) (by omega)
                  rintro σ' H14 ⟨r2, rfl, J14⟩
                  refine ⟨fun σ' H' => σ' = sg a d (some (.int (0 + (i : Int)))) r2 (m.nx wy row).fall (m.nx wy row).signs p (m.nx wy row).fell (m.nx wy row).steps (some (.int (0 + (j : Int)))) (some (.int (wy : Int))) (some (.str row)) (some (.bl m.falls)) (some (oN m.fl)) ∧ I7 C H' d cl ns (200 * i + 10 + 10 * j + 2) p l r2 (m.nx wy row) (m.nx wy row).rows (2 + 2 * j + 2), ?_, ?_⟩
                  · have hrows := J11.sz
                    refine ⟨_, rfl, _, rfl, _, rfl, p, l, m, row, wy, rfl, hwy, J14.st, by omega, by omega, fun H15 f15 st15 => ?_⟩
                    rw [step_nx] at st15 ⊢
                    refine ⟨_, rfl, by cases m.fl <;> rfl, _, rfl, ?_⟩
                    have en : (!decide (oN m.fl = oN m.fl)) = false := by simp
                    show if (!decide (oN m.fl = oN m.fl)) = true then _ else _
                    rw [en]
                    refine iteF ⟨?_, J14.done f15 st15⟩
                    rw [nx_fall, nx_signs, nx_fell]
                  rintro σ' H15 ⟨rfl, J15⟩
                  have hfl : m.fl = (m.nx wy row).fell := (nx_fell m wy row).symm
                  rw [hfl]
                  generalize m.nx wy row = m1 at J15
                  refine ⟨fun σ' H' => σ' = sg a d (some (.int (0 + (i : Int)))) r2 m1.fall m1.signs p m1.fell m1.steps (some (.int (0 + (j : Int)))) (some (.int (wy : Int))) (some (.str row)) (some (.bl m.falls)) (some (oN m1.fell)) ∧ I7 C H' d cl ns (200 * i + 10 + 10 * j + 2) p l r2 m1 m1.rows (2 + 2 * j + 2), ?_, ?_⟩
                  · obtain ⟨⟨dx1, hp1⟩, _, _⟩ := id J15.st
                    refine ⟨_, rfl, p, dx1, _, rfl, hp1, sf_no4 _ _ _ _ _, p, l, m1, rfl, J15.st, fun H16 x1 s16 n16 h16 => ?_⟩
                    have J16 := J15.same s16
                    have ee : PyData.eqv (.list (m1.rows.map PyData.str)) (.list (m1.rows.map PyData.str)) = true := by
                      rw [PyData.eqv]
                      exact eqv_strs _
                    refine ⟨_, rfl, .list (m1.rows.map PyData.str), .list (m1.rows.map PyData.str), .lst (SqL.of h16) (dpAll_strs _), .lst (SqL.of J16.rr) (dpAll_strs _), shaped_strs J16.ok, shaped_strs J16.ok, _, rfl, ?_⟩
                    rw [ee]
                    refine iteF ⟨_, rfl, p, dx1, _, rfl, s16 _ _ hp1, sf_no5 _ _ _ _ _, p, l, m1, rfl, J16.st, ?_⟩
                    refine ⟨_, rfl, rfl, _, rfl, ?_⟩
                    have e1 : (!decide (V.int (m1.steps : Int) = V.int (m1.steps : Int))) = false := by simp
                    show if (!decide (V.int (m1.steps : Int) = V.int (m1.steps : Int))) = true then _ else _
                    rw [e1]
                    refine iteF ⟨_, rfl, p, dx1, _, rfl, s16 _ _ hp1, sf_no6 _ _ _ _ _, p, l, m1, rfl, J16.st, ?_⟩
                    refine ⟨_, rfl, rfl, rfl, _, rfl, ?_⟩
                    have e2 : (!decide (V.bl (decide (m1.fell = none)) = V.bl (decide (oN m1.fell = V.non)))) = false := by
                      cases m1.fell <;> simp [oN]
                    show if (!decide (V.bl (decide (m1.fell = none)) = V.bl (decide (oN m1.fell = V.non)))) = true then _ else _
                    rw [e2]
                    exact iteF ⟨rfl, J16⟩
                  rintro σ' H16 ⟨rfl, J16⟩
                  refine ⟨_, rfl, rfl, _, rfl, ite2 (fun e => ?_) (fun e => ?_)⟩
                  · refine ⟨_, rfl, d, cl, ns, 2, _, rfl, J16.pen, by omega, by decide, by decide, fun H17 k17 f17 P17 k170 k171 => ?_⟩
                    have J17 := J16.draw f17 P17
                    refine ⟨rfl, _, rfl, ite2 (fun e => ?_) (fun e => ?_)⟩
                    · refine ⟨_, rfl, d, cl, ns, 9, _, rfl, P17, by omega, by decide, by decide, fun H18 k18 f18 P18 k180 k181 => ?_⟩
                      have J18 := J17.draw f18 P18
                      refine ⟨_, rfl, d, cl, ns, 3, _, rfl, P18, by omega, by decide, by decide, fun H19 k19 f19 P19 k190 k191 => ?_⟩
                      have J19 := J18.draw f19 P19
                      refine ⟨_, _, rfl, ?_⟩
                      refine ⟨_, rfl, _, rfl, _, rfl, p, l, m1, some k18, k19, rfl, J19.st, fun H20 f20 st20 => ?_⟩
                      exact ⟨r2, _, _, _, _, _, _, rfl, (J19.done (f20.mono (by simp)) st20).mono (by omega) (by omega)⟩
                    · exact ⟨r2, m1, _, _, _, _, _, rfl, J17.mono (by omega) (by omega)⟩
                  · exact ⟨r2, m1, _, _, _, _, _, rfl, J16.mono (by omega) (by omega)⟩
            · rintro σ H8 ⟨r, m, v9, v10, v11, v12, v13, rfl, J8⟩
              exact ⟨_, _, _, _, _, _, _, _, _, _, _, _, rfl, J8.pen.mono (by omega)⟩
    · rintro σ H2 ⟨v2, v3, v4, v5, v6, v7, v8, v9, v10, v11, v12, v13, rfl, P2⟩
      exact q H2
end
end St7

set_option maxHeartbeats 0
namespace St7
open PySem PySem.Spec PyProof.Rows L2 Kx
def mkD (x : Str) (i : Nat) : He.DefD := ⟨(x, none), x, x, defArgs (top i), defBody (top i), defScope (top i), [], []⟩
def mkM (m q : Str) (st : Stmt) : He.DefD := ⟨("Store", some m), m, q, defArgs st, defBody st, defScope st, [], []⟩
def dInit : He.DefD := ⟨("Store", some "__init__"), "__init__", "Store.__init__", defArgs sInit, defBody sInit, defScope sInit, [.adr (He.dflAt ("Store", some "__init__") 0)], [("fall", .non), ("signs", .int 0)]⟩
def dFallAt : He.DefD := ⟨("Store", some "fall_at"), "fall_at", "Store.fall_at", defArgs sFallAt, defBody sFallAt, defScope sFallAt, [], [("signs", .int 0)]⟩
def dFell : He.DefD := ⟨("Fell", some "__init__"), "__init__", "Fell.__init__", defArgs sFInit, defBody sFInit, defScope sFInit, [], []⟩
def fn : List He.DefD := [mkD "_law_pen" 5, mkD "_law_draw" 6, mkD "_law_done" 7, mkD "_law_fall_at" 8, mkD "law" 9, dInit, mkM "write" "Store.write" sWrite, mkM "let_go" "Store.let_go" sLetGo, mkM "cut" "Store.cut" sCut, mkM "rows" "Store.rows" sRows,
  mkM "steps" "Store.steps" sSteps, mkM "is_up" "Store.is_up" sIsUp, mkM "_falls_now" "Store._falls_now" sFalls, mkM "_begin_step" "Store._begin_step" sBegin, dFallAt, dFell]
def fa : List He.Fa := [.glo "_law_pen", .glo "_law_draw", .glo "_law_done", .glo "_law_fall_at", .glo "law", .glo "Store", .cls "Store", .noat "Store" "_rows", .noat "Store" "_steps", .noat "Store" "_fall", .noat "Store" "_signs", .noat "Store" "_fell",
  .mkr "Store", .meth "Store" "write", .meth "Store" "let_go", .meth "Store" "cut", .meth "Store" "rows", .meth "Store" "steps", .meth "Store" "is_up", .meth "Store" "_falls_now", .meth "Store" "_begin_step", .meth "Store" "fall_at",
  .free "len", .free "abs", .free "range", .free "list", .free "int", .free "str", .free "min", .free "isinstance", .free "RuntimeError", .glo "Fell", .noat "Fell" "step", .meth "Fell" "__init__"]
def emB (K : PySem.W.Frag) (a : Addr) : Bool := match K.lookup a with
  | some ⟨.type c, _, .seq its _, _⟩ => decide (c = "tuple") && its.isEmpty
  | _ => false
theorem emB_ok {K : PySem.W.Frag} {a : Addr} (h : emB K a = true) (H : Hp) : SqT K H a [] := by
  unfold emB at h
  split at h
  · rename_i c od its n sl q
    obtain ⟨h1, h2⟩ := He.ba h
    have e1 : c = "tuple" := of_decide_eq_true h1
    have e2 : its = #[] := Array.isEmpty_iff.mp h2
    subst e1 e2
    exact .inr ⟨_, #[], n, q, rfl, rfl, Nat.zero_le _, .nil⟩
  · cases h

def rexB (K : PySem.W.Frag) (C : Addr) : Bool := PySem.W.excInitIn K C reB "RuntimeError.__new__" && (PySem.W.excOver K C reB && (PySem.W.hasDictIn K C && (decide (PySem.W.findIn K (.ref C) "__setattr__" = some (some (.builtin "object.__setattr__"))) &&
  (decide (PySem.W.subIn K (.ref C) (.type "BaseException") = some true) && (decide (PySem.W.typeIn K (.ref C) = some (.type "type")) && PySem.W.keepIn K (.ref C))))))
theorem rexB_ok {K : PySem.W.Frag} {C : Addr} (h : rexB K C = true) : RexC K C := by
  obtain ⟨h1, h⟩ := He.ba h
  obtain ⟨h2, h⟩ := He.ba h
  obtain ⟨h3, h⟩ := He.ba h
  obtain ⟨h4, h⟩ := He.ba h
  obtain ⟨h5, h⟩ := He.ba h
  obtain ⟨h6, h7⟩ := He.ba h
  exact ⟨h1, h2, h3, of_decide_eq_true h4, of_decide_eq_true h5, of_decide_eq_true h6, h7⟩
def excB (K : PySem.W.Frag) (D : Addr) : Bool := decide (PySem.W.findIn K (.ref D) "__class__" = some (some (.builtin "object.__class__"))) && (decide (PySem.W.specialIn K (.builtin "object.__class__") "__get__" = some (some (.builtin "getset_descriptor.__get__"))) &&
  (decide (PySem.W.takesIn K (.builtin "object.__class__") = some true) && (decide (PySem.W.mroIn K D (.type "object") = some true) && (PySem.W.clsIn K D).isSome)))
theorem excB_ok {K : PySem.W.Frag} {D : Addr} (x : XfC K D) (h : excB K D = true) : ExcC K D ∧ (PySem.W.clsIn K D).isSome = true := by
  obtain ⟨h1, h⟩ := He.ba h
  obtain ⟨h2, h⟩ := He.ba h
  obtain ⟨h3, h⟩ := He.ba h
  obtain ⟨h4, h5⟩ := He.ba h
  exact ⟨⟨x.ga, x.gg, x.exC, x.hdC, of_decide_eq_true h1, of_decide_eq_true h2, of_decide_eq_true h3, of_decide_eq_true h4⟩, h5⟩
def ex (K : PySem.W.Frag) : Bool := emB K (He.dflAt ("Store", some "__init__") 0 K) && (rexB K (He.ga K "Fell") && (xfB K (He.ga K "Fell") && (excB K (He.ga K "Fell") && (decide (PySem.W.kitOne K (.ref (He.ga K "Fell")) (.type "RuntimeError") = some true) &&
  decide (PySem.W.exmOne K (.ref (He.ga K "Fell")) (.ref (He.ga K "Fell")) = some true)))))
abbrev R : PySem.W.OpenRow := PySem.W.OpenLaw.row PySem.Challenge.rw_eventledger_k07_a_store_that_falls
abbrev hk : PySem.W.Hook := He.hookX 5 fa fn [] [] ex
def ob (s : PySem.W.SharedT) : He.AlX := He.obsX 5 fa fn [] [] ex (HandSHeadRun.getT s)
theorem ob_eq (s : PySem.W.SharedT) : ob s = hk.obs s.abs := He.obsX_eq (HandSHeadRun.getT_eq s)
abbrev loose : List Str := ["Fell", "Store", "_law_pen", "_law_draw", "_law_done", "_law_fall_at"]
theorem run (w : World) : HandSHeadRun.RunEq R (PySem.W.view R.prog [9]) hk ob 2000 loose w := by
  intro os
  kernel_rfl
theorem facts {P : Program} {w : World} {K : PySem.W.Frag} {h : Heap} {mg : Str → Option Value} {f : Addr} (X : K.In h) (G : h.Ns mainGlobals mg) (hfa : mg ("law" : Str) = some (.ref f)) (cx : He.SaysX fa fn [] [] ex w h K) :
    ∃ fd : FuncData, (∀ (s : Shared) (v : Value), BindsTo s fd ⟨[v], []⟩ [("script", v)]) ∧ ∀ base : Heap, K.In base → base.Ns mainGlobals mg → FnOk P w K mg base CX0 6 f fd ["script"] (spLaw K) := by
  have c := cx.t.d
  obtain ⟨fd0, F0⟩ := c.def_ 0 (d := mkD "_law_pen" 5) rfl
  obtain ⟨fd1, F1⟩ := c.def_ 1 (d := mkD "_law_draw" 6) rfl
  obtain ⟨fd2, F2⟩ := c.def_ 2 (d := mkD "_law_done" 7) rfl
  obtain ⟨fd3, F3⟩ := c.def_ 3 (d := mkD "_law_fall_at" 8) rfl
  obtain ⟨fd, F⟩ := c.def_ 4 (d := mkD "law" 9) rfl
  obtain ⟨fd5, F5⟩ := c.def_ 5 (d := dInit) rfl
  obtain ⟨fd6, F6⟩ := c.def_ 6 (d := mkM "write" "Store.write" sWrite) rfl
  obtain ⟨fd7, F7⟩ := c.def_ 7 (d := mkM "let_go" "Store.let_go" sLetGo) rfl
  obtain ⟨fd8, F8⟩ := c.def_ 8 (d := mkM "cut" "Store.cut" sCut) rfl
  obtain ⟨fd9, F9⟩ := c.def_ 9 (d := mkM "rows" "Store.rows" sRows) rfl
  obtain ⟨fd10, F10⟩ := c.def_ 10 (d := mkM "steps" "Store.steps" sSteps) rfl
  obtain ⟨fd11, F11⟩ := c.def_ 11 (d := mkM "is_up" "Store.is_up" sIsUp) rfl
  obtain ⟨fd12, F12⟩ := c.def_ 12 (d := mkM "_falls_now" "Store._falls_now" sFalls) rfl
  obtain ⟨fd13, F13⟩ := c.def_ 13 (d := mkM "_begin_step" "Store._begin_step" sBegin) rfl
  obtain ⟨fd14, F14⟩ := c.def_ 14 (d := dFallAt) rfl
  obtain ⟨fd15, F15⟩ := c.def_ 15 (d := dFell) rfl
  have e := hfa.symm.trans (He.glo_ok X G (c.fact 4 (f := .glo "law") rfl))
  cases e
  have b := FunD.bindsA (ps := ["script"]) F fun _ _ _ _ _ _ us hl => match us, hl with | [_], _ => rfl
  have T : StoreT K mg (He.ga K "Store") := ⟨He.cls_ok (c.fact 6 (f := .cls "Store") rfl), He.noat_ok (c.fact 7 (f := .noat "Store" "_rows") rfl), He.noat_ok (c.fact 8 (f := .noat "Store" "_steps") rfl), He.noat_ok (c.fact 9 (f := .noat "Store" "_fall") rfl),
    He.noat_ok (c.fact 10 (f := .noat "Store" "_signs") rfl), He.noat_ok (c.fact 11 (f := .noat "Store" "_fell") rfl), He.glo_ok X G (c.fact 5 (f := .glo "Store") rfl), He.free_ok X G (c.fact 25 (f := .free "list") rfl)⟩
  obtain ⟨ye, y⟩ := He.ba cx.more
  obtain ⟨yr, y⟩ := He.ba y
  obtain ⟨yx, y⟩ := He.ba y
  obtain ⟨yc, y⟩ := He.ba y
  obtain ⟨yk, ym⟩ := He.ba y
  have XC : XfC K (He.ga K "Fell") := xfB_ok yx
  obtain ⟨EC, cl⟩ := excB_ok XC yc
  have nA : NoAttr K (He.ga K "Fell") "step" := He.noat_ok (c.fact 32 (f := .noat "Fell" "step") rfl)
  have mI := He.meth_ok (c.fact 33 (f := .meth "Fell" "__init__") rfl)
  have TF : FellT K mg (He.ga K "Fell") (He.ma K (He.ga K "Fell") "__init__") fd15 := ⟨rexB_ok yr, nA.taker, He.glo_ok X G (c.fact 31 (f := .glo "Fell") rfl), nA, mI.at_, beq_iff_eq.mp mI.fn, F15⟩
  have TX : FellX K (He.ga K "Fell") := ⟨XC, EC, nA, cl, of_decide_eq_true yk, of_decide_eq_true ym⟩
  exact ⟨fd, fun s v => b s [v] rfl, fun base _ _ => ok_law T TF TX F F0 (He.glo_ok X G (c.fact 0 (f := .glo "_law_pen") rfl)) F1 (He.glo_ok X G (c.fact 1 (f := .glo "_law_draw") rfl)) F2 (He.glo_ok X G (c.fact 2 (f := .glo "_law_done") rfl)) F3 (He.glo_ok X G (c.fact 3 (f := .glo "_law_fall_at") rfl))
    (He.mkr_ok (c.fact 12 (f := .mkr "Store") rfl)) F5 F14 (He.meth_ok (c.fact 21 (f := .meth "Store" "fall_at") rfl)) F6 (He.meth_ok (c.fact 13 (f := .meth "Store" "write") rfl)) F7 (He.meth_ok (c.fact 14 (f := .meth "Store" "let_go") rfl)) F8 (He.meth_ok (c.fact 15 (f := .meth "Store" "cut") rfl))
    F9 (He.meth_ok (c.fact 16 (f := .meth "Store" "rows") rfl)) F10 (He.meth_ok (c.fact 17 (f := .meth "Store" "steps") rfl)) F11 (He.meth_ok (c.fact 18 (f := .meth "Store" "is_up") rfl)) F12 (He.meth_ok (c.fact 19 (f := .meth "Store" "_falls_now") rfl)) F13 (He.meth_ok (c.fact 20 (f := .meth "Store" "_begin_step") rfl))
    (He.free_ok X G (c.fact 22 (f := .free "len") rfl)) (He.free_ok X G (c.fact 23 (f := .free "abs") rfl)) (He.free_ok X G (c.fact 24 (f := .free "range") rfl)) (He.free_ok X G (c.fact 26 (f := .free "int") rfl)) (He.free_ok X G (c.fact 27 (f := .free "str") rfl)) (He.free_ok X G (c.fact 28 (f := .free "min") rfl))
    (He.free_ok X G (c.fact 29 (f := .free "isinstance") rfl)) (He.free_ok X G (c.fact 30 (f := .free "RuntimeError") rfl))⟩
end St7
open PySem PySem.W PySem.Calls PyProof.Rows
theorem PySem.Challenge.cw_eventledger_k07_a_store_that_falls_holds : PySem.Challenge.rw_eventledger_k07_a_store_that_falls.Holds := by
  w_on; o_law
  refine HandSHeadRun.head_any (r := OpenLaw.row PySem.Challenge.rw_eventledger_k07_a_store_that_falls) (q := view (OpenLaw.row PySem.Challenge.rw_eventledger_k07_a_store_that_falls).prog [9]) (H := St7.hk) (ob := St7.ob) (M := 2000) (loose := St7.loose) (d := HandSHeadRun.topDef (OpenLaw.row PySem.Challenge.rw_eventledger_k07_a_store_that_falls).prog 9) (kwd := []) St7.ob_eq
    (by kernel_rfl) (fun s => by kernel_rfl) St7.run (by kernel_rfl) (by kernel_rfl) (by kernel_rfl) (by rfl) (by first | assumption | decide +kernel) (by decide +kernel) ⟨rfl, rfl, rfl, rfl, rfl, by decide +kernel⟩ ?hw ?hc
  case hw => w_witness2
  case hc =>
    refine L2.walk_ofE (l := PySem.Challenge.rw_eventledger_k07_a_store_that_falls) (n := 63) (k := 6) (x := "script") (CX := L2.CX0) rfl (by decide) (by kernel_rfl) ⟨rfl, by decide, by decide⟩ ?F (fun _ _ _ _ z => z)
    intro w mg fa h Y G hmg0
    obtain ⟨K, KX, c⟩ := Y
    have hmg : mg ("law" : PySem.Str) = some (.ref fa) := by
      have e : (HandSHeadRun.topDef (OpenLaw.row PySem.Challenge.rw_eventledger_k07_a_store_that_falls).prog 9).name = ("law" : PySem.Str) := by kernel_rfl
      rw [← e]
      exact hmg0
    obtain ⟨fd, hb, hF⟩ := St7.facts (P := (PySem.Challenge.rw_eventledger_k07_a_store_that_falls).prog) (w := w) KX G hmg c
    exact ⟨K, fd, St7.spLaw K, KX, hb, fun H a ns hl _ hS => ⟨a, ns, rfl, hS, hl, fun _ => rfl⟩, hF⟩
