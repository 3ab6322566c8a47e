import PyProof.Rows.All
import Wide.All
import OpenK.AllK
import Wide.FinOn
import HandS.Base
import HandS.Call
import HandS.List
import HandS.Dict
import HandS.Comp
import HandS.Iter
import HandS.Defaults
import HandS.More
import HandS.ForMost
import KE.KEqSeq
import HandS.Codes
import PyProof.DelItemList
import PyProof.RulesDelMore
import HandS.ForExc
import HandS.ExcInit
import HandS.ExcField
import HandS.WordsExc
import HandS.TryOnly
import HandS.Style
import HandS.MakeKw
import HandS.MakeKwOnly
import HandS.Lambda
import KE.KStateDown
import HandS.Ends
import HandS.Words
import HandS.Head0
import HandS.Head1
import HandS.Head2
import HandS.HeadEnd
import HandS.HeadHook1
import HandS.HeadHook2
import HandS.HeadHook3
import HandS.HeadHook4
import Lean
import PySem.Challenge.RW_eventledger_k06_a_store_and_its_steps
set_option Elab.async false
set_option linter.all false
set_option maxRecDepth 100000
namespace St6
open PySem PySem.Spec PyProof.Rows L2
def top (i : Nat) : Stmt := PySem.Challenge.pw_eventledger_k06_a_store_and_its_steps.main.body.getD i (.Pass ⟨0, 0, 0, 0⟩)
abbrev sPen : Stmt := top 6
abbrev sDraw : Stmt := top 7
abbrev sFellC : Stmt := top 2
abbrev sStoreC : Stmt := top 4
end St6

set_option maxHeartbeats 2000000
namespace St6
open PySem PySem.Spec PyProof.Rows L2
abbrev FnP (K : PySem.W.Frag) (x : Str) (st : Stmt) (f : Addr) (fd : FuncData) : Prop := FunD K x x (defArgs st) (defBody st) (defScope st) [] [] f fd
theorem szl : sizeLine = 16777216 := by decide
theorem same_upd {H : Hp} {p : Addr} {o : HO} (h : H p = none) : Same H (upd H p o) := fun b x e => by
  rw [upd_ne (ne_of_none e h)]
  exact e
/-- all that stood there but the objects of S stands as it stood -/
def Fr (S : List Addr) (H H' : Hp) : Prop := ∀ b o, b ∉ S → H b = some o → H' b = some o
theorem Fr.refl {S : List Addr} {H : Hp} : Fr S H H := fun _ _ _ e => e
theorem Fr.trans {S : List Addr} {H H1 H2 : Hp} (a : Fr S H H1) (b : Fr S H1 H2) : Fr S H H2 := fun c o n e => b c o n (a c o n e)
theorem Fr.mono {S T : List Addr} {H H1 : Hp} (a : Fr S H H1) (h : ∀ x ∈ S, x ∈ T) : Fr T H H1 := fun c o n e => a c o (fun z => n (h c z)) e
theorem fr_same {S : List Addr} {H H1 : Hp} (a : Same H H1) : Fr S H H1 := fun c o _ e => a c o e
theorem Fr.same {H H1 : Hp} (a : Fr [] H H1) : Same H H1 := fun c o e => a c o (by simp) e
theorem fr_upd {S : List Addr} {H : Hp} {p : Addr} {o : HO} (h : p ∈ S) : Fr S H (upd H p o) := fun c x n e => by
  rw [upd_ne (fun q => n (by rw [q]; exact h))]
  exact e
theorem fr_new {S : List Addr} {H : Hp} {p : Addr} {o : HO} (h : H p = none) : Fr S H (upd H p o) := fr_same (same_upd h)
/-- what was not there may change -/
theorem Fr.drop {S : List Addr} {H H1 : Hp} {p : Addr} (a : Fr (p :: S) H H1) (h : H p = none) : Fr S H H1 := fun c x n e => a c x (fun z => by
  rcases List.mem_cons.mp z with q | q
  · rw [q, h] at e
    cases e
  · exact n q) e
/-- a fresh place was fresh before -/
theorem Fr.free {S : List Addr} {H H1 : Hp} {p : Addr} (a : Fr S H H1) (n : p ∉ S) (h : H1 p = none) : H p = none := by
  cases q : H p with
  | none => rfl
  | some o =>
    rw [a p o n q] at h
    cases h
/-! ### the pen -/
def pk (cl : Addr) (a b : Int) : List (Key × V) := [(Sum.inr "cells", .ref cl), (Sum.inr "at", .int a), (Sum.inr "left", .int b)]
theorem pk_cells (cl : Addr) (a b : Int) : valV (pk cl a b) (Sum.inr ("cells" : Str)) = some (.ref cl) := valV_pos rfl
theorem pk_at (cl : Addr) (a b : Int) : valV (pk cl a b) (Sum.inr ("at" : Str)) = some (.int a) := by
  kernel_rfl
theorem pk_left (cl : Addr) (a b : Int) : valV (pk cl a b) (Sum.inr ("left" : Str)) = some (.int b) := by
  kernel_rfl
theorem pk_put_at (cl : Addr) (a b x : Int) : putK (pk cl a b) (Sum.inr ("at" : Str)) (.int x) = pk cl x b := by
  kernel_rfl
theorem pk_put_left (cl : Addr) (a b x : Int) : putK (pk cl a b) (Sum.inr ("left" : Str)) (.int x) = pk cl a x := by
  kernel_rfl
theorem get_cells {H : Hp} {d cl : Addr} {a b : Int} (h : H d = some (.dK (pk cl a b))) : DGet H d (.str "cells") (some (.ref cl)) := by
  have e := DGet.k (k := Sum.inr ("cells" : Str)) h
  rw [pk_cells] at e
  exact e
theorem get_at {H : Hp} {d cl : Addr} {a b : Int} (h : H d = some (.dK (pk cl a b))) : DGet H d (.str "at") (some (.int a)) := by
  have e := DGet.k (k := Sum.inr ("at" : Str)) h
  rw [pk_at] at e
  exact e
theorem get_left {H : Hp} {d cl : Addr} {a b : Int} (h : H d = some (.dK (pk cl a b))) : DGet H d (.str "left") (some (.int b)) := by
  have e := DGet.k (k := Sum.inr ("left" : Str)) h
  rw [pk_left] at e
  exact e
theorem pk_small (cl : Addr) (a b : Int) : (pk cl a b).length < sizeLine := by
  rw [szl]
  show 3 < 16777216
  omega
theorem put_at {H : Hp} {d cl : Addr} {a b : Int} (x : Int) (h : H d = some (.dK (pk cl a b))) : DPut H d (.str "at") (.int x) (upd H d (.dK (pk cl x b))) := by
  have e := DPut.k (k := Sum.inr ("at" : Str)) (v := .int x) h (pk_small _ _ _)
  rw [pk_put_at] at e
  exact e
theorem put_left {H : Hp} {d cl : Addr} {a b : Int} (x : Int) (h : H d = some (.dK (pk cl a b))) : DPut H d (.str "left") (.int x) (upd H d (.dK (pk cl a x))) := by
  have e := DPut.k (k := Sum.inr ("left" : Str)) (v := .int x) h (pk_small _ _ _)
  rw [pk_put_left] at e
  exact e
theorem pk_merge (cl : Addr) (a b : Int) : mergeK [] (pk cl a b) = pk cl a b := by
  kernel_rfl
/-- a pen: its dict at d, its cells at cl, the cells ns, at most n were drawn -/
structure Pen (H : Hp) (d cl : Addr) (ns : List Int) (n : Nat) : Prop where
  ex : ∃ a b : Int, H d = some (.dK (pk cl a b)) ∧ 0 ≤ a ∧ a ≤ (n : Int) ∧ 0 ≤ b
  cs : H cl = some (.lst (ns.map V.int))
  len : ns.length ≤ 63
theorem Pen.mono {H : Hp} {d cl : Addr} {ns : List Int} {n m : Nat} (a : Pen H d cl ns n) (k : n ≤ m) : Pen H d cl ns m := by
  obtain ⟨⟨x, y, h1, h2, h3, h4⟩, h5, h6⟩ := a
  exact ⟨⟨x, y, h1, h2, by omega, h4⟩, h5, h6⟩
theorem Pen.fr {S : List Addr} {H H1 : Hp} {d cl : Addr} {ns : List Int} {n : Nat} (a : Pen H d cl ns n) (f : Fr S H H1) (h1 : d ∉ S) (h2 : cl ∉ S) : Pen H1 d cl ns n := by
  obtain ⟨⟨x, y, e1, r⟩, e2, h6⟩ := a
  exact ⟨⟨x, y, f _ _ h1 e1, r⟩, f _ _ h2 e2, h6⟩
theorem Pen.ne {H : Hp} {d cl : Addr} {ns : List Int} {n : Nat} (a : Pen H d cl ns n) : cl ≠ d := by
  obtain ⟨⟨x, y, e1, r⟩, e2, h6⟩ := a
  exact ne_of e2 e1 (by intro z; cases z)
theorem cut_map (ns : List Int) (lo hi : Option Int) : ∃ ms : List Int, cutV (ns.map V.int) lo hi = ms.map V.int ∧ ms.length ≤ ns.length := by
  refine ⟨(ns.drop (HT.sIx (ns.map V.int).length 0 lo)).take (HT.sIx (ns.map V.int).length (ns.map V.int).length hi - HT.sIx (ns.map V.int).length 0 lo), ?_, ?_⟩
  · unfold cutV
    rw [List.map_take, List.map_drop]
  · rw [List.length_take, List.length_drop]
    omega
theorem dpAll_ints {K : PySem.W.Frag} {H : Hp} : ∀ ns : List Int, DpAll K H (ns.map V.int) (ns.map PyData.int)
  | [] => .nil
  | n :: r => .cons (.int n) (dpAll_ints r)
theorem scPen : FnScope ["script", "cell"] ["script"] (defScope sPen) := ⟨rfl, rfl, rfl, by decide +kernel, rfl, by decide +kernel, by decide +kernel⟩
def spPen (K : PySem.W.Frag) : Sp := fun vs H Q _ => ∃ (a : Addr) (ns : List Int), vs = [.ref a] ∧ SqL K H a (ns.map V.int) ∧ ns.length ≤ 63 ∧ ∀ H' d cl ms, Same H H' → H d = none → H cl = none → Pen H' d cl ms 0 → Q (.ref d) H'
theorem scDraw : FnScope ["pen", "many", "digit", "at", "cell", "number", "again"] ["pen", "many"] (defScope sDraw) := ⟨rfl, rfl, rfl, by decide +kernel, rfl, by decide +kernel, by decide +kernel⟩
def spDraw : Sp := fun vs H Q _ => ∃ (d cl : Addr) (ns : List Int) (many : Int) (n : Nat), vs = [.ref d, .int many] ∧ Pen H d cl ns n ∧ n ≤ 1000000 ∧ 0 < many ∧ many ≤ 100000000 ∧ ∀ H' k, Fr [d] H H' → Pen H' d cl ns (n + 1) → 0 ≤ k → k < many → Q (.int k) H'
section
variable {P : Program} {w : World} {K : PySem.W.Frag} {mg : Str → Option Value} {base : Heap}
theorem ok_pen {f : Addr} {fd : FuncData} {k : Nat} (F : FnP K "_law_pen" sPen f fd) : FnOk P w K mg base CX0 (k + 1) f fd ["script"] (spPen K) := by
  refine F.ok scPen (fun vs H Q E h => ?_) (fun cdv A outer s H vs Q E hr h => ?_)
  · obtain ⟨a, ns, rfl, _⟩ := h
    rfl
  · obtain ⟨a, ns, rfl, hS, hl, q⟩ := h
    refine ⟨_, PSs.nox (pss_one (ps_ret (pe_disp (pps_cons pe_str
      (pe_lc (own := [("cell", 1)]) (g := gName 1) (tt := tYes) rfl scPen.nd (pi_list (pe_slice sl_list (pv 0) po_none (po_some pe_int))) (blkOk_by (own := [("cell", 1)]) (N := ["script", "cell"]) (sc := defScope sPen) (by decide +kernel))
        (fun _ _ _ _ _ => pg_name (i := 1) scPen.nd rfl (Or.inl rfl)) (fun _ _ _ _ _ => pts_nil) (fun _ _ _ _ _ => pv 1))
      (pps_cons pe_str pe_int (pps_cons pe_str pe_int pps_nil))) (by rfl) (by rfl) (fun z => by cases z) (by decide)))), ?_⟩
    obtain ⟨ms, em, lm⟩ := cut_map ns none (some 63)
    intro d hd
    have s1 := same_upd (o := HO.dK []) hd
    refine ⟨_, rfl, 63, rfl, a, _, rfl, s1.seq hS, fun p np => ?_⟩
    have ndp : d ≠ p := ne_of_none upd_same np
    have s2 := same_upd (o := HO.lst (cutV (ns.map V.int) none (some 63))) np
    rw [em] at s2 ⊢
    refine ⟨p, rfl, ⟨_, SqL.of upd_same⟩, fun D nD => ?_⟩
    have nDp : p ≠ D := ne_of_none upd_same nD
    have nDd : d ≠ D := ne_of_none (s2 _ _ upd_same) nD
    have s3 := same_upd (o := HO.lst []) nD
    refine lc_list (K := K) (a := p) (xs := ms.map V.int) (fun i H' => Fr [D] (upd (upd H d (.dK [])) p (.lst (ms.map V.int))) H' ∧ H' D = some (.lst ((ms.take i).map V.int))) ⟨fr_upd (List.mem_singleton_self _), upd_same⟩ (fun i H' _ ⟨f, _⟩ => SqL.of (f _ _ (by simpa using nDp) upd_same)) ?_ ?_
    · rintro i x H' hx ⟨f, hD⟩
      have hi : i < ms.length := by
        have q1 := (List.getElem?_eq_some_iff.mp hx).1
        rw [List.length_map] at q1
        exact q1
      have ex : x = V.int ms[i] := by
        rw [List.getElem?_map, List.getElem?_eq_getElem hi] at hx
        exact (Option.some.inj hx).symm
      refine ⟨rfl, _, rfl, _, hD, ?_, f.trans (fr_upd (List.mem_singleton_self _)), ?_⟩
      · rw [List.length_map, List.length_take, szl]
        omega
      · rw [upd_same, ex, List.take_succ_eq_append_getElem hi, List.map_append]
        rfl
    · rintro H' ⟨f, hD⟩
      rw [List.length_map, List.take_length] at hD
      have hd' : H' d = some (.dK []) := f _ _ (by simpa using nDd) (s2 _ _ upd_same)
      refine ⟨hd', pk D 0 0, rfl, by show 3 ≤ 15; omega, ?_⟩
      have cD : H D = none := s1.free (s2.free nD)
      have all : Same H (upd H' d (.dK (mergeK [] (pk D 0 0)))) := fun b o e => by
        rw [upd_ne (ne_of_none e hd)]
        exact f _ _ (by simpa using ne_of_none e cD) (s2 _ _ (s1 _ _ e))
      refine q _ d D ms all hd cD ⟨⟨0, 0, ?_, Int.le_refl _, Int.le_refl _, Int.le_refl _⟩, ?_, by omega⟩
      · rw [upd_same, pk_merge]
      · rw [upd_ne nDd.symm]
        exact hD
theorem pw_pos : (0 : Int) < 4294967311 := by decide
theorem ok_draw {f : Addr} {fd : FuncData} {k : Nat} (F : FnP K "_law_draw" sDraw f fd) (ml : mg "len" = none) (ma : mg "abs" = none) (mr : mg "range" = none) : FnOk P w K mg base CX0 (k + 1) f fd ["pen", "many"] spDraw := by
  refine F.ok scDraw (fun vs H Q E h => ?_) (fun cdv A outer s H vs Q E hr h => ?_)
  · obtain ⟨d, cl, ns, m, n, rfl, _⟩ := h
    rfl
  · obtain ⟨d, cl, ns, m, n, rfl, hP, hn, m0, m1, q⟩ := h
    obtain ⟨⟨t, c, hd, t0, tn, c0⟩, hl, ln⟩ := id hP
    have hu := hu_of hr
    have ncd := hP.ne
    refine ⟨_, PSs.nox (pss_cons (ps_if (pt_cmpR op_gt (pe_dget hu (pv 0) pe_str (fun _ _ => rfl)) (pe_int) (nomark _)) (pss_cons (ps_set (i := 2) scDraw.nd rfl (.inl rfl) (pe_op op_modN (pe_dget hu (pv 0) pe_str (fun _ _ => rfl)) (pv 1)))
      (pss_cons (ps_dput hu (pv 0) pe_str (pe_op op_fdivN (pe_dget hu (pv 0) pe_str (fun _ _ => rfl)) (pv 1)) rfl)
      (pss_one (ps_ret (pv 2))))) pss_nil)
      (pss_cons (ps_set (i := 3) scDraw.nd rfl (.inl rfl) (pe_dget hu (pv 0) pe_str (fun _ _ => rfl)))
      (pss_cons (ps_dput hu (pv 0) pe_str (pe_op op_add (pv 3) (pe_int)) rfl)
      (pss_cons (ps_set (i := 4) scDraw.nd rfl (.inl rfl) (pe_op op_add (pe_op op_mul (pv 3) (pv 3)) (pe_int)))
      (C8.pss_cut (ps_if (pt_cmpR (op_neD hr.units) (pe_dget hu (pv 0) pe_str (fun _ _ => rfl)) (pe_lst pa_nil) (nomark _)) (pss_one (ps_set (i := 4) scDraw.nd rfl (.inl rfl) (pe_ix ix_list (pe_dget hu (pv 0) pe_str (fun _ _ => rfl)) (pe_op op_modN (pv 3) (pe_callB call_len_seq (by rfl) ml PySem.boot_len (pa_cons (pe_dget hu (pv 0) pe_str (fun _ _ => rfl)) pa_nil))) (fun _ _ => rfl)))) pss_nil)
      (C8.pss_cut (ps_if (PW.pt (pw_and (pt_cmpR op_lt (pv 3) (pe_callB call_len_seq (by rfl) ml PySem.boot_len (pa_cons (pe_dget hu (pv 0) pe_str (fun _ _ => rfl)) pa_nil)) (nomark _)) (pw_and1 (pt_cmpR op_ge (pe_callB call_abs (by rfl) ma (by decide +kernel) (pa_cons (pv 4) pa_nil)) (pe_op op_pow (pe_int) (pe_int)) (nomark _))))) (pss_cons (ps_dput hu (pv 0) pe_str (pe_op op_fdivN (pe_callB call_abs (by rfl) ma (by decide +kernel) (pa_cons (pv 4) pa_nil)) (pv 1)) rfl)
      (pss_one (ps_ret (pe_op op_modN (pe_callB call_abs (by rfl) ma (by decide +kernel) (pa_cons (pv 4) pa_nil)) (pv 1))))) pss_nil)
      (pss_cons (ps_set (i := 5) scDraw.nd rfl (.inl rfl) (pe_op op_modN (pe_op op_mul (pe_op op_add (pe_op op_add (pe_op op_modN (pv 4) (pe_int)) (pe_op op_mul (pe_int) (pv 3))) (pe_int)) (pe_int)) (pe_int)))
      (pss_cons (ps_for PassesOwn.never rfl (pi_range1 (by rfl) mr (pa_cons pe_int pa_nil)) (pg_name (i := 6) scDraw.nd rfl (.inl rfl)) (pss_cons (ps_set (i := 5) scDraw.nd rfl (.inl rfl) (pe_op op_add (pe_op op_add (pe_op op_add (pe_op op_mul (pv 5) (pv 5)) (pe_op op_mul (pe_int) (pv 5))) (pv 3)) (pv 6)))
      (pss_one (ps_set (i := 5) scDraw.nd rfl (.inl rfl) (pe_op op_modN (pv 5) (pe_int))))))
      (pss_one (ps_ret (pe_op op_modN (pe_op op_fdivN (pv 5) (pe_int)) (pv 1)))))))))))), ?_⟩
    have dm : ∀ x : Int, 0 ≤ x.fmod m ∧ x.fmod m < m := fun x => ⟨Int.fmod_nonneg_of_pos x m0, Int.fmod_lt_of_pos x m0⟩
    have mN : m ≠ 0 := by omega
    have mB : m.natAbs < 1073741824 := by omega
    have dp : ∀ x : Int, 0 ≤ x → 0 ≤ x.fdiv m := fun x h => by
      rw [Int.fdiv_eq_ediv_of_nonneg x (by omega)]
      exact Int.ediv_nonneg h (by omega)
    -- pen["left"] > 0
    refine ⟨_, rfl, d, _, rfl, get_left hd, c, 0, rfl, rfl, _, rfl, ite2 (fun e => ?_) (fun e => ?_)⟩
    · refine ⟨_, rfl, d, _, rfl, get_left hd, _, rfl, c, m, rfl, rfl, mN, ?_⟩
      refine ⟨_, rfl, d, _, rfl, get_left hd, _, rfl, c, m, rfl, rfl, ⟨mN, mB⟩, _, rfl, d, _, rfl, put_left _ hd, ?_⟩
      refine ⟨_, rfl, q _ _ (fr_upd (List.mem_singleton_self _)) ⟨⟨t, c.fdiv m, upd_same, t0, by omega, dp c c0⟩, ?_, ln⟩ (dm c).1 (dm c).2⟩
      rw [upd_ne ncd]
      exact hl
    · refine ⟨_, rfl, d, _, rfl, get_at hd, ?_⟩
      refine ⟨_, rfl, t, 1, rfl, rfl, _, rfl, d, _, rfl, put_at _ hd, ?_⟩
      refine ⟨_, rfl, _, rfl, t, t, rfl, rfl, .inl (by omega), _, 5, rfl, rfl, ?_⟩
      have hd1 : (upd H d (.dK (pk cl (t + 1) c))) d = some (.dK (pk cl (t + 1) c)) := upd_same
      have hl1 : (upd H d (.dK (pk cl (t + 1) c))) cl = some (.lst (ns.map V.int)) := by
        rw [upd_ne ncd]
        exact hl
      have b1 : Fr [d] H (upd H d (.dK (pk cl (t + 1) c))) := fr_upd (List.mem_singleton_self _)
      generalize (upd H d (.dK (pk cl (t + 1) c))) = H1 at hd1 hl1 b1
      refine ⟨fun σ' H' => ∃ cell, σ' = [some (.ref d), some (.int m), none, some (.int t), some (.int cell), none, none] ∧ H' d = some (.dK (pk cl (t + 1) c)) ∧ H' cl = some (.lst (ns.map V.int)) ∧ Fr [d] H H', ?_, ?_⟩
      · refine ⟨_, rfl, d, _, rfl, get_cells hd1, Nat.zero_le _, fun p np => ?_⟩
        have hd2 : (upd H1 p (.lst [])) d = some (.dK (pk cl (t + 1) c)) := by rw [upd_ne (ne_of_none hd1 np)]; exact hd1
        have hl2 : (upd H1 p (.lst [])) cl = some (.lst (ns.map V.int)) := by rw [upd_ne (ne_of_none hl1 np)]; exact hl1
        have b2 : Fr [d] H (upd H1 p (.lst [])) := b1.trans (fr_new np)
        have hp2 : (upd H1 p (.lst [])) p = some (.lst []) := upd_same
        generalize (upd H1 p (.lst [])) = H2 at hd2 hl2 b2 hp2
        refine ⟨.list (ns.map PyData.int), .list [], .lst (SqL.of hl2) (dpAll_ints ns), .lst (SqL.of hp2) .nil, PySem.W.ke_shaped_ints ns, by decide +kernel, _, rfl, ite2 (fun e => ?_) (fun e => ?_)⟩
        · have n0 : 0 < ns.length := by
            cases ns with
            | nil => exact absurd e (by decide +kernel)
            | cons x r => exact Nat.succ_pos _
          have hlen : ((ns.map V.int).length : Int) ≠ 0 := by rw [List.length_map]; omega
          have f0 : 0 ≤ t.fmod ((ns.map V.int).length : Int) := Int.fmod_nonneg_of_pos t (by rw [List.length_map]; omega)
          have f1 : t.fmod ((ns.map V.int).length : Int) < ((ns.map V.int).length : Int) := Int.fmod_lt_of_pos t (by rw [List.length_map]; omega)
          obtain ⟨j, ej⟩ := Int.eq_ofNat_of_zero_le f0
          have hj : j < ns.length := by
            rw [ej, List.length_map] at f1
            exact Int.ofNat_lt.mp f1
          refine ⟨_, rfl, d, _, rfl, get_cells hd2, _, rfl, _, rfl, d, _, rfl, get_cells hd2, cl, _, rfl, .inl (SqL.of hl2), t, _, rfl, rfl, hlen, cl, _, (j : Int), .int ns[j], rfl, congrArg V.int ej, SqL.of hl2, atI_nat (j := j) ?_, ns[j], rfl, hd2, hl2, b2⟩
          rw [List.getElem?_map, List.getElem?_eq_getElem hj]
          rfl
        · exact ⟨_, rfl, hd2, hl2, b2⟩
      · rintro σ' H' ⟨cell, rfl, hd3, hl3, b3⟩
        refine ⟨fun σ2 H2 => σ2 = [some (.ref d), some (.int m), none, some (.int t), some (.int cell), none, none] ∧ H2 = H', ?_, ?_⟩
        · refine ⟨_, rfl, _, rfl, d, _, rfl, get_cells hd3, cl, _, rfl, .inl (SqL.of hl3), t, _, rfl, rfl, _, rfl, ite2 (fun e => ?_) (fun e => ?_)⟩
          · refine ⟨_, rfl, cell, rfl, 10, 18, rfl, rfl, ⟨by decide, by decide, by decide⟩, _, _, rfl, rfl, _, rfl, ite2 (fun e2 => ?_) (fun e2 => ⟨rfl, rfl⟩)⟩
            have c1 : 0 ≤ (if cell < 0 then -cell else cell) := by
              by_cases z : cell < 0
              · rw [if_pos z]; omega
              · rw [if_neg z]; omega
            refine ⟨_, rfl, cell, rfl, _, rfl, _, m, rfl, rfl, ⟨mN, mB⟩, _, rfl, d, _, rfl, put_left _ hd3, ?_⟩
            refine ⟨_, rfl, cell, rfl, _, rfl, _, m, rfl, rfl, mN, q _ _ (b3.trans (fr_upd (List.mem_singleton_self _))) ⟨⟨t + 1, (if cell < 0 then -cell else cell).fdiv m, upd_same, by omega, by omega, dp _ c1⟩, ?_, ln⟩ (dm _).1 (dm _).2⟩
            rw [upd_ne ncd]
            exact hl3
          · exact iteF ⟨rfl, rfl⟩
        · rintro σ2 H2 ⟨rfl, rfl⟩
          have rb : ∀ x : Int, 0 ≤ x.fmod 4294967311 ∧ x.fmod 4294967311 < 4294967311 := fun x => ⟨Int.fmod_nonneg_of_pos _ (by decide), Int.fmod_lt_of_pos _ (by decide)⟩
          refine ⟨_, rfl, cell, 4294967311, rfl, rfl, (show (4294967311 : Int) ≠ 0 by decide), _, rfl, 65539, t, rfl, rfl, .inl (by decide), _, _, rfl, rfl, _, 17, rfl, rfl, _, 48271, rfl, rfl, .inr (by decide), _, 4294967311, rfl, rfl, (show (4294967311 : Int) ≠ 0 by decide), ?_⟩
          refine ⟨3, rfl, by decide, by decide, for_range (n := 3) (fun i σ' H3 => ∃ (x : Int) (y : Option V), σ' = [some (.ref d), some (.int m), none, some (.int t), some (.int cell), some (.int x), y] ∧ 0 ≤ x ∧ x < 4294967311 ∧ H3 = H2) ⟨_, none, rfl, (rb _).1, (rb _).2, rfl⟩ ?_ ?_⟩
          · rintro i σ' H3 hi ⟨x, y, rfl, x0, x1, rfl⟩
            refine ⟨_, rfl, _, rfl, x, x, rfl, rfl, .inl (by omega), _, rfl, 69621, x, rfl, rfl, .inl (by decide), _, _, rfl, rfl, _, rfl, _, t, rfl, rfl, _, rfl, _, _, rfl, rfl, ?_⟩
            refine ⟨_, rfl, _, 4294967311, rfl, rfl, (show (4294967311 : Int) ≠ 0 by decide), ?_⟩
            exact ⟨_, _, rfl, (rb _).1, (rb _).2, rfl⟩
          · rintro σ' H3 ⟨x, y, rfl, x0, x1, rfl⟩
            refine ⟨_, rfl, x, 32, rfl, rfl, ⟨by decide, by decide⟩, _, rfl, _, m, rfl, rfl, mN, ?_⟩
            exact q _ _ b3 ⟨⟨t + 1, c, hd3, by omega, by omega, c0⟩, hl3, ln⟩ (dm _).1 (dm _).2
end
end St6

set_option autoImplicit false
set_option maxHeartbeats 2000000
/-! del xs[a:b] of a list -/
namespace Dl
open PySem PySem.Spec PyProof.Rows L2
/-- what is left of xs behind del xs[lo:hi] -/
def leftV {α : Type} (xs : List α) (a c : Nat) : List α := xs.take a ++ xs.drop (max a c)
theorem zipIdx_filter {α : Type} {p : Nat → Bool} {a c : Nat} (hp : ∀ k, p k = decide (a ≤ k ∧ k < c)) : ∀ (xs : List α) (k : Nat),
    (xs.zipIdx k).filterMap (fun q => if p q.2 = true then none else some q.1) = xs.take (a - k) ++ xs.drop (max (a - k) (c - k))
  | [], k => by simp
  | x :: r, k => by
    have ih := zipIdx_filter hp r (k + 1)
    rw [List.zipIdx_cons, List.filterMap_cons]
    simp only [hp k, decide_eq_true_eq]
    rw [ih]
    by_cases h : a ≤ k
    · by_cases h2 : k < c
      · rw [if_pos ⟨h, h2⟩]
        have e1 : a - k = 0 := by omega
        have e2 : a - (k + 1) = 0 := by omega
        have e3 : max (a - k) (c - k) = max (a - (k + 1)) (c - (k + 1)) + 1 := by omega
        rw [e3, e1, e2]
        simp
      · rw [if_neg (fun z => h2 z.2)]
        have e1 : a - k = 0 := by omega
        have e2 : a - (k + 1) = 0 := by omega
        have e3 : max (a - k) (c - k) = 0 := by omega
        have e4 : max (a - (k + 1)) (c - (k + 1)) = 0 := by omega
        rw [e3, e4, e1, e2]
        simp
    · rw [if_neg (fun z => h z.1)]
      have e1 : a - k = (a - (k + 1)) + 1 := by omega
      have e3 : max (a - k) (c - k) = max (a - (k + 1)) (c - (k + 1)) + 1 := by omega
      rw [e3, e1]
      simp
section
variable {pr : Program} {wo : World} {Ar : Around} {Ex : Value → Shared → Prop} {sh : Shared}
/-- the deed on the list's items alone: what stands there behind it is told of any function that makes it -/
theorem delItem_slice {a sl : Addr} {xs : Array Value} {k : Nat} {v1 v2 : Value} {lo hi : Option Int} {Q : Unit → Shared → Prop}
    (ha : sh.heap.get? a = some { cls := .type "list", data := .seq xs k })
    (hsl : sh.heap.IsSliceOf sl v1 v2 .none) (p1 : IsPart v1 lo) (p2 : IsPart v2 hi) (hsz : xs.size ≤ sizeLine)
    (h : ∀ g : Array Value → Array Value, g xs = (leftV xs.toList (HT.sIx xs.size 0 lo) (HT.sIx xs.size xs.size hi)).toArray → Q () { sh with heap := sh.heap.update a (Obj.mapSeq g) }) :
    wpAny (model pr wo) Ar (delItem (.ref a) (.ref sl)) Q Ex sh := by
  have isl := PySem.IsL.isList ha
  obtain ⟨ob, hob, hcl, hdt⟩ := id hsl
  have tyS : sh.TypeIs (.ref sl) "slice" := ⟨ob, hob, hcl⟩
  obtain ⟨b1, b2, b3⟩ := slice_bounds lo hi xs.size
  have sel : ∀ {u c : Nat} (j : Nat), (if (1 : Int) > 0 then decide ((u : Int) ≤ (j : Int)) && decide ((j : Int) < (c : Int)) && (((j : Int) - (u : Int)) % 1 == 0) else false) = decide (u ≤ j ∧ j < c) := fun {u c} j => by
    rw [if_pos (by decide), show (((j : Int) - (u : Int)) % 1 == 0) = true by simp [Int.emod_one], Bool.and_true]
    simp
  have key : ∀ {p : Nat → Bool}, (∀ j, p j = decide (HT.sIx xs.size 0 lo ≤ j ∧ j < HT.sIx xs.size xs.size hi)) →
      (xs.toList.zipIdx.filterMap fun q => if p q.2 = true then none else some q.1).toArray = (leftV xs.toList (HT.sIx xs.size 0 lo) (HT.sIx xs.size xs.size hi)).toArray := fun hp => by
    rw [zipIdx_filter hp xs.toList 0]
    simp [leftV]
  refine wpAny_delItem_slot isl.typeIs (by decide) PySem.F.slot_list_delitem (wpAny_call_entry PySem.F.slot_list_delitem isl.typeIs PySem.F.entry_list_delitem ?_ (PySem.F.args_list_delitem_2 _ _))
  -- a slice is no number: it is asked for its parts
  show wpAny _ _ (Builtin.List.listSubscript? (.ref sl) >>= _) _ _ sh
  refine wpAny_bind (show wpAny _ _ (Builtin.List.listSubscript? (.ref sl)) _ _ sh from ?_)
  unfold Builtin.List.listSubscript?
  refine wpAny_bind (wpAny_specialOf tyS slice_no_index ?_)
  rw [if_pos (by rfl)]
  refine wpAny_pure (show wpAny _ _ (typeOf (.ref sl) >>= _) _ _ sh from wpAny_bind (wpAny_typeOf tyS ?_))
  refine PySem.W.KFB.if_not (show (Value.type "slice" != Value.type "slice") = false by decide) ?_
  rw [listSliceParts_eq]
  refine wpAny_bind (wpAny_bind (wpAny_field hob hdt (x := .none) rfl (wpAny_bind (wpAny_listPart .none ?_))))
  rw [if_neg (show ¬ ((rawPart none == rawInt 0) = true) from Bool.false_ne_true)]
  refine wpAny_bind (wpAny_field hob hdt (x := v1) rfl (wpAny_bind (wpAny_listPart p1 (wpAny_bind (wpAny_field hob hdt (x := v2) rfl (wpAny_bind (wpAny_listPart p2 (wpAny_pure ?_))))))))
  unfold Builtin.List.listItems
  refine wpAny_bind (wpAny_bind (wpAny_seqItems ha rfl (wpAny_pure (wpAny_bind (wpAny_of_eq (sliceIndices_raw lo hi none xs.size (by simp)) ?_)))))
  generalize sliceBounds lo hi none xs.size = B at b1 b2 b3
  obtain ⟨B1, B2, B3⟩ := B
  simp only at b1 b2 b3
  subst b1 b2 b3
  refine wpAny_bind (wpAny_rule (show wpAny _ _ _ _ _ _ from wpAny_bind ?_))
  unfold Builtin.List.listUpdate
  refine wpAny_updateSeq (f := _) ha rfl ?_ hsz ?_
  · exact wpAny_bind (wpAny_letGo (wpAny_pure ⟨.none, rfl, h _ (key fun j => sel j)⟩))
  · have e0 := key (p := fun j => _) (fun j => sel j)
    refine Nat.le_succ_of_le (Nat.le_trans (Nat.le_of_eq (congrArg Array.size e0)) ?_)
    simp only [List.size_toArray, leftV, List.length_append, List.length_take, List.length_drop, Array.length_toList]
    omega
end
section
variable {X : Cx} {pos : Pos}
theorem del_slice {pins : List (Addr × Obj)} {sh : Shared} {σ : L2.St} {H : Hp} {a sl : Addr} {xs : List V} {lo hi : Option Int} {v1 v2 : Value} {Q : Unit → Shared → Prop} (I : Inv X pins σ H sh)
    (hH : H a = some (.lst xs)) (hsl : sh.heap.IsSliceOf sl v1 v2 .none) (p1 : IsPart v1 lo) (p2 : IsPart v2 hi)
    (h : ∀ s', Inv X pins σ (upd H a (.lst (leftV xs (HT.sIx xs.length 0 lo) (HT.sIx xs.length xs.length hi)))) s' → Q () s') :
    wpAny (model X.prog X.w) X.A (delItem (.ref a) (.ref sl)) Q X.xe sh := by
  obtain ⟨size, us, cap, vals, len, at_⟩ := I.lstM hH
  have e : us.toArray.size = xs.length := by rw [List.size_toArray, ← len]
  refine delItem_slice (lo := lo) (hi := hi) at_ hsl p1 p2 (by rw [e]; omega) fun g hg => h _ ?_
  rw [e] at hg
  refine I.lset (its' := leftV us (HT.sIx xs.length 0 lo) (HT.sIx xs.length xs.length hi)) (t' := sh.toks) hH at_ hg (Vals.append (vals.take _) (vals.drop _)) ?_
  show (leftV xs _ _).length ≤ _
  unfold leftV
  rw [List.length_append, List.length_take, List.length_drop]
  omega
/-- del o[lo:hi] of a list -/
def tDelSl (to : TE) (tl th : TO) : TS := fun D σ H => to σ H fun x H1 => tl σ H1 fun lo H2 => th σ H2 fun hi H3 => ∃ (l : Addr) (xs : List V), x = .ref l ∧ H3 l = some (.lst xs) ∧
  D.nx σ (upd H3 l (.lst (leftV xs (HT.sIx xs.length 0 lo) (HT.sIx xs.length xs.length hi))))
theorem ps_delSl {o : Expr} {lo hi : Option Expr} {to : TE} {tl th : TO} {tpos p2 : Pos} (ho : PE X o to) (hl : PO X lo tl) (hu : PO X hi th) : PS X (.Delete [.Subscript o (.Slice lo hi none p2) tpos] pos) (tDelSl to tl th) := by
  refine ⟨fun pins sh σ H D I h => ?_⟩
  refine wpAny_Delete (wpAny_deleteEach_cons (wpAny_delete_Subscript (thn (ho.run pins sh σ H _ I h) fun u s1 ⟨x, H1, I1, rx, q1⟩ => ?_)))
  refine wpAny_Slice (thn (hl.run pins s1 σ H1 _ I1 q1) fun vl s2 ⟨l, H2, I2, pl, q2⟩ => thn (hu.run pins s2 σ H2 _ I2 q2) fun vu s3 ⟨w, H3, I3, pu, q3⟩ => ?_)
  rw [evalPart_none]
  refine wpAny_pure ?_
  obtain ⟨a, xs, ex, hH, q4⟩ := q3
  subst ex
  cases (show u = Value.ref a from rx)
  exact del_slice (sh := { s3 with heap := s3.heap.push { cls := .type "slice", data := .fields #[vl, vu, .none] } }) (I3.kept (t' := s3.toks) fun b ob q => Heap.get?_push_of_some _ q) hH (Heap.IsSliceOf.new ..) pl pu fun s5 I5 => wpAny_deleteEach_nil ⟨σ, _, I5, q4⟩
end
end Dl

set_option autoImplicit false
set_option maxHeartbeats 2000000
namespace St6
open PySem PySem.Spec PyProof.Rows L2 Dl
def inCls (s : Stmt) (i : Nat) : Stmt := match s with
  | .ClassDef _ _ _ b _ _ _ _ _ _ _ => b.getD i (.Pass ⟨0, 0, 0, 0⟩)
  | _ => .Pass ⟨0, 0, 0, 0⟩
abbrev sFInit : Stmt := inCls sFellC 0
abbrev sInit : Stmt := inCls sStoreC 0
abbrev sWrite : Stmt := inCls sStoreC 1
abbrev sLetGo : Stmt := inCls sStoreC 2
abbrev sCut : Stmt := inCls sStoreC 3
abbrev sRows : Stmt := inCls sStoreC 4
abbrev sSteps : Stmt := inCls sStoreC 5
abbrev sIsUp : Stmt := inCls sStoreC 6
abbrev sFallAt : Stmt := inCls sStoreC 7
abbrev sFalls : Stmt := inCls sStoreC 8
abbrev sBegin : Stmt := inCls sStoreC 9
/-! ### a store -/
structure SM where
  rows : List Str
  steps : Nat
  fall : Option Int
  signs : Int
  fell : Option Nat
def oV : Option Int → V
  | none => .non
  | some i => .int i
def oN : Option Nat → V
  | none => .non
  | some i => .int (i : Int)
def sfr (l : Addr) (a f g e : V) : List (Str × V) := [("_rows", .ref l), ("_steps", a), ("_fall", f), ("_signs", g), ("_fell", e)]
abbrev sf (l : Addr) (m : SM) : List (Str × V) := sfr l (.int (m.steps : Int)) (oV m.fall) (.int m.signs) (oN m.fell)
theorem sf_rows (l : Addr) (a f g e : V) : (sfr l a f g e).lookup ("_rows" : Str) = some (.ref l) := by kernel_rfl
theorem sf_steps (l : Addr) (a f g e : V) : (sfr l a f g e).lookup ("_steps" : Str) = some a := by kernel_rfl
theorem sf_fall (l : Addr) (a f g e : V) : (sfr l a f g e).lookup ("_fall" : Str) = some f := by kernel_rfl
theorem sf_signs (l : Addr) (a f g e : V) : (sfr l a f g e).lookup ("_signs" : Str) = some g := by kernel_rfl
theorem sf_fell (l : Addr) (a f g e : V) : (sfr l a f g e).lookup ("_fell" : Str) = some e := by kernel_rfl
theorem sf_put_steps (l : Addr) (a f g e x : V) : putF "_steps" x (sfr l a f g e) = sfr l x f g e := by kernel_rfl
theorem sf_put_fall (l : Addr) (a f g e x : V) : putF "_fall" x (sfr l a f g e) = sfr l a x g e := by kernel_rfl
theorem sf_put_signs (l : Addr) (a f g e x : V) : putF "_signs" x (sfr l a f g e) = sfr l a f x e := by kernel_rfl
theorem sf_put_fell (l : Addr) (a f g e x : V) : putF "_fell" x (sfr l a f g e) = sfr l a f g x := by kernel_rfl
theorem sf_make (l : Addr) (a f g e : V) : putF "_fell" e (putF "_signs" g (putF "_fall" f (putF "_steps" a (putF "_rows" (.ref l) [])))) = sfr l a f g e := by kernel_rfl
theorem sf_no1 (l : Addr) (a f g e : V) : (sfr l a f g e).lookup ("write" : Str) = none := by kernel_rfl
theorem sf_no2 (l : Addr) (a f g e : V) : (sfr l a f g e).lookup ("let_go" : Str) = none := by kernel_rfl
theorem sf_no3 (l : Addr) (a f g e : V) : (sfr l a f g e).lookup ("cut" : Str) = none := by kernel_rfl
theorem sf_no4 (l : Addr) (a f g e : V) : (sfr l a f g e).lookup ("rows" : Str) = none := by kernel_rfl
theorem sf_no5 (l : Addr) (a f g e : V) : (sfr l a f g e).lookup ("steps" : Str) = none := by kernel_rfl
theorem sf_no6 (l : Addr) (a f g e : V) : (sfr l a f g e).lookup ("is_up" : Str) = none := by kernel_rfl
theorem sf_no7 (l : Addr) (a f g e : V) : (sfr l a f g e).lookup ("fall_at" : Str) = none := by kernel_rfl
theorem sf_no8 (l : Addr) (a f g e : V) : (sfr l a f g e).lookup ("_falls_now" : Str) = none := by kernel_rfl
theorem sf_no9 (l : Addr) (a f g e : V) : (sfr l a f g e).lookup ("_begin_step" : Str) = none := by kernel_rfl
theorem sf_len (l : Addr) (a f g e : V) : (sfr l a f g e).length < 1000 := by show 5 < 1000; omega
structure StAt (C : Addr) (H : Hp) (p l : Addr) (m : SM) : Prop where
  ins : ∃ dx, H p = some (.ins C dx (sf l m))
  rows : H l = some (.lst (m.rows.map V.str))
  small : m.rows.length ≤ 1000
theorem StAt.ne {C : Addr} {H : Hp} {p l : Addr} {m : SM} (a : StAt C H p l m) : l ≠ p := by
  obtain ⟨dx, e⟩ := a.ins
  exact ne_of a.rows e (by intro z; cases z)
theorem StAt.fr {S : List Addr} {C : Addr} {H H1 : Hp} {p l : Addr} {m : SM} (a : StAt C H p l m) (f : Fr S H H1) (h1 : p ∉ S) (h2 : l ∉ S) : StAt C H1 p l m := by
  obtain ⟨⟨dx, e⟩, e2, s⟩ := a
  exact ⟨⟨dx, f _ _ h1 e⟩, f _ _ h2 e2, s⟩
/-- does the next step fall -/
def SM.falls (m : SM) : Bool := decide (m.fell = none) && decide (m.fall = some (m.steps : Int))
/-- what a step makes of the counts, and with which number it is refused -/
def SM.begin (m : SM) : SM × Option Nat := if m.falls = true then ({ m with fell := some m.steps }, some m.steps) else match m.fell with
  | some k => (m, some k)
  | none => ({ m with steps := m.steps + 1 }, none)
structure StoreT (K : PySem.W.Frag) (mg : Str → Option Value) (C : Addr) : Prop where
  cl : Cls K C
  nR : NoAttr K C "_rows"
  nS : NoAttr K C "_steps"
  nF : NoAttr K C "_fall"
  nG : NoAttr K C "_signs"
  nE : NoAttr K C "_fell"
  g : mg "Store" = some (.ref C)
  list : mg "list" = none
abbrev MtP (K : PySem.W.Frag) (m q : Str) (st : Stmt) (f : Addr) (fd : FuncData) : Prop := FunD K m q (defArgs st) (defBody st) (defScope st) [] [] f fd
theorem scWrite : FnScope ["self", "row"] ["self", "row"] (defScope sWrite) := ⟨rfl, rfl, rfl, by decide +kernel, rfl, by decide +kernel, by decide +kernel⟩
theorem scLetGo : FnScope ["self", "many"] ["self", "many"] (defScope sLetGo) := ⟨rfl, rfl, rfl, by decide +kernel, rfl, by decide +kernel, by decide +kernel⟩
theorem scCut : FnScope ["self"] ["self"] (defScope sCut) := ⟨rfl, rfl, rfl, by decide +kernel, rfl, by decide +kernel, by decide +kernel⟩
theorem scRows : FnScope ["self"] ["self"] (defScope sRows) := ⟨rfl, rfl, rfl, by decide +kernel, rfl, by decide +kernel, by decide +kernel⟩
theorem scSteps : FnScope ["self"] ["self"] (defScope sSteps) := ⟨rfl, rfl, rfl, by decide +kernel, rfl, by decide +kernel, by decide +kernel⟩
theorem scIsUp : FnScope ["self"] ["self"] (defScope sIsUp) := ⟨rfl, rfl, rfl, by decide +kernel, rfl, by decide +kernel, by decide +kernel⟩
theorem scFalls : FnScope ["self"] ["self"] (defScope sFalls) := ⟨rfl, rfl, rfl, by decide +kernel, rfl, by decide +kernel, by decide +kernel⟩
theorem scBegin : FnScope ["self"] ["self"] (defScope sBegin) := ⟨rfl, rfl, rfl, by decide +kernel, rfl, by decide +kernel, by decide +kernel⟩
theorem scInit : FnScope ["self", "rows", "fall", "signs"] ["self", "rows", "fall", "signs"] (defScope sInit) := ⟨rfl, rfl, rfl, by decide +kernel, rfl, by decide +kernel, by decide +kernel⟩
def spFalls (C : Addr) : Sp := fun vs H Q _ => ∃ (p l : Addr) (m : SM), vs = [.ref p] ∧ StAt C H p l m ∧ Q (.bl m.falls) H
/-- how a step ends that isn't refused -/
def Ends2 (C : Addr) (S : List Addr) (H : Hp) (p l : Addr) (m' : SM) (o : Option Nat) (Q : VK) : Prop := o = none ∧ ∀ H', Fr S H H' → StAt C H' p l m' → Q .non H'
def spBegin (C : Addr) : Sp := fun vs H Q _ => ∃ (p l : Addr) (m : SM), vs = [.ref p] ∧ StAt C H p l m ∧ Ends2 C [p] H p l m.begin.1 m.begin.2 Q
def spSteps (C : Addr) : Sp := fun vs H Q _ => ∃ (p l : Addr) (m : SM), vs = [.ref p] ∧ StAt C H p l m ∧ Q (.int (m.steps : Int)) H
def spIsUp (C : Addr) : Sp := fun vs H Q _ => ∃ (p l : Addr) (m : SM), vs = [.ref p] ∧ StAt C H p l m ∧ Q (.bl (decide (m.fell = none))) H
def spRows (C : Addr) : Sp := fun vs H Q _ => ∃ (p l : Addr) (m : SM), vs = [.ref p] ∧ StAt C H p l m ∧ ∀ H' x, Same H H' → H x = none → H' x = some (.lst (m.rows.map V.str)) → Q (.ref x) H'
def spInit (K : PySem.W.Frag) (C : Addr) : Sp := fun vs H Q _ => ∃ (H0 : Hp) (p dx r : Addr) (rows : List Str) (vf : Option Int) (g : Int), vs = [.ref p, .ref r, oV vf, .int g] ∧ Same H0 H ∧ H0 p = none ∧ H p = some (.ins C dx []) ∧
  (SqL K H r (rows.map V.str) ∨ SqT K H r (rows.map V.str)) ∧ rows.length ≤ 900 ∧ ∀ H' l, Same H0 H' → H0 l = none → StAt C H' p l ⟨rows, 0, vf, g, none⟩ → Q .non H'
/-- the rows behind a step: f of them where it doesn't fall -/
def SM.after (m : SM) (f : List Str → List Str) : SM × Option Nat := match m.begin with
  | (m2, some k) => (m2, some k)
  | (m2, none) => ({ m2 with rows := f m2.rows }, none)
/-- of a row that would be written at the step at which it falls some signs stay -/
def SM.ahead (m : SM) (row : Str) : SM := if m.falls = true ∧ 0 < m.signs then { m with rows := m.rows ++ [cutS row none (some m.signs)] } else m
def spWrite (C : Addr) : Sp := fun vs H Q _ => ∃ (p l : Addr) (m : SM) (row : Str), vs = [.ref p, .str row] ∧ StAt C H p l m ∧ m.rows.length ≤ 900 ∧ row.length ≤ 1000 ∧
  Ends2 C [p, l] H p l ((m.ahead row).after fun r => r ++ [row]).1 ((m.ahead row).after fun r => r ++ [row]).2 Q
def spLetGo (C : Addr) : Sp := fun vs H Q _ => ∃ (p l : Addr) (m : SM) (k : Nat), vs = [.ref p, .int (k : Int)] ∧ StAt C H p l m ∧
  Ends2 C [p, l] H p l (m.after fun r => r.drop k).1 (m.after fun r => r.drop k).2 Q
def spCut (C : Addr) : Sp := fun vs H Q _ => ∃ (p l : Addr) (m : SM), vs = [.ref p] ∧ StAt C H p l m ∧
  Ends2 C [p, l] H p l (m.after fun r => r.dropLast).1 (m.after fun r => r.dropLast).2 Q
section
variable {P : Program} {w : World} {K : PySem.W.Frag} {mg : Str → Option Value} {base : Heap}
theorem ok_falls {C : Addr} (T : StoreT K mg C) {f : Addr} {fd : FuncData} {k : Nat} (F : MtP K "_falls_now" "Store._falls_now" sFalls f fd) : FnOk P w K mg base CX0 (k + 1) f fd ["self"] (spFalls C) := by
  refine F.ok scFalls (fun vs H Q E h => ?_) (fun cdv A outer s H vs Q E hr h => ?_)
  · obtain ⟨p, l, m, rfl, _⟩ := h
    rfl
  · obtain ⟨p, l, m, rfl, hS, q⟩ := h
    obtain ⟨⟨dx, hp⟩, hl, hz⟩ := id hS
    refine ⟨_, PSs.nox (pss_one (ps_ret (pe_and (pe_cmpR op_isN (pe_fld (pv 0) rfl) pe_non (nomark _)) (pe_one (pe_cmpR op_eq (pe_fld (pv 0) rfl) (pe_fld (pv 0) rfl) (nomark _)))))), ?_⟩
    refine ⟨_, rfl, p, C, dx, _, _, rfl, hp, T.cl, T.nE, sf_fell _ _ _ _ _, rfl, ?_⟩
    refine ⟨_, rfl, ?_⟩
    have e1 : decide (oN m.fell = V.non) = decide (m.fell = none) := by cases m.fell <;> simp [oN]
    rw [e1]
    unfold SM.falls at q
    cases h : decide (m.fell = none) with
    | false =>
      rw [h] at q
      exact iteF q
    | true =>
      rw [h] at q
      refine iteT ⟨_, rfl, p, C, dx, _, _, rfl, hp, T.cl, T.nF, sf_fall _ _ _ _ _, _, rfl, p, C, dx, _, _, rfl, hp, T.cl, T.nS, sf_steps _ _ _ _ _, by cases m.fall <;> rfl, ?_⟩
      have e2 : decide (oV m.fall = V.int (m.steps : Int)) = decide (m.fall = some (m.steps : Int)) := by cases m.fall <;> simp [oV]
      show Q (.bl (decide (oV m.fall = V.int (m.steps : Int)))) H
      rw [e2]
      exact q
theorem ok_begin {C : Addr} (T : StoreT K mg C) {f fF : Addr} {fd fdF : FuncData} (F : MtP K "_begin_step" "Store._begin_step" sBegin f fd)
    (FF : MtP K "_falls_now" "Store._falls_now" sFalls fF fdF) (mF : Meth K C "_falls_now" fF) : FnOk P w K mg base CX0 3 f fd ["self"] (spBegin C) := by
  have bF : Binds K fdF ["self"] [] := FF.bindsN fun _ _ _ _ _ _ us hl => match us, hl with | [_], _ => rfl
  have GF : FnOk P w K mg base CX0 1 fF fdF ["self"] (spFalls C) := ok_falls T FF
  refine F.ok scBegin (fun vs H Q E h => ?_) (fun cdv A outer s H vs Q E hr h => ?_)
  · obtain ⟨p, l, m, rfl, _⟩ := h
    rfl
  · obtain ⟨p, l, m, rfl, hS, q⟩ := h
    obtain ⟨⟨dx, hp⟩, hl, hz⟩ := id hS
    have nlp := hS.ne
    have hr1 : Room 1 _ := hr.mono (by decide)
    have hr2 : Room 2 _ := hr
    refine ⟨_, PSs.nox (pss_cons (ps_if (pt_val (pe_meth0 (pv 0) T.cl mF GF hr1 bF .nil pass0)) (pss_one (ps_fld (pv 0) (pe_fld (pv 0) rfl) rfl)) pss_nil)
      (pss_cons (ps_if (pt_cmpR op_notN (pe_fld (pv 0) rfl) pe_non (nomark _)) (pss_one ps_never) pss_nil)
      (pss_one (ps_fldaug (pv 0) pe_int in_add)))), ?_⟩
    refine ⟨_, rfl, p, dx, _, rfl, hp, sf_no8 _ _ _ _ _, p, l, m, rfl, hS, ?_⟩
    refine ⟨_, rfl, ?_⟩
    unfold SM.begin at q
    cases hf : m.falls with
    | true =>
      rw [hf, if_pos rfl] at q
      cases q.1
    | false =>
      rw [hf, if_neg Bool.false_ne_true] at q
      refine iteF ⟨_, rfl, p, C, dx, _, _, rfl, hp, T.cl, T.nE, sf_fell _ _ _ _ _, rfl, _, rfl, ?_⟩
      cases he : m.fell with
      | some k =>
        rw [he] at q
        cases q.1
      | none =>
        rw [he] at q
        refine iteF ⟨_, rfl, p, C, dx, _, _, rfl, hp, T.cl, T.nS, sf_steps _ _ _ _ _, ?_⟩
        refine ⟨_, _, rfl, rfl, dx, _, hp, sf_len _ _ _ _ _, ?_⟩
        rw [sf_put_steps]
        refine q.2 _ (fr_upd (List.mem_singleton_self _)) ⟨⟨dx, ?_⟩, ?_, hz⟩
        · rw [upd_same, he]
          rfl
        · rw [upd_ne nlp]
          exact hl
theorem ok_steps {C : Addr} (T : StoreT K mg C) {f : Addr} {fd : FuncData} {k : Nat} (F : MtP K "steps" "Store.steps" sSteps f fd) : FnOk P w K mg base CX0 (k + 1) f fd ["self"] (spSteps C) := by
  refine F.ok scSteps (fun vs H Q E h => ?_) (fun cdv A outer s H vs Q E hr h => ?_)
  · obtain ⟨p, l, m, rfl, _⟩ := h
    rfl
  · obtain ⟨p, l, m, rfl, hS, q⟩ := h
    obtain ⟨⟨dx, hp⟩, hl, hz⟩ := id hS
    refine ⟨_, PSs.nox (pss_one (ps_ret (pe_fld (pv 0) rfl))), ?_⟩
    exact ⟨_, rfl, p, C, dx, _, _, rfl, hp, T.cl, T.nS, sf_steps _ _ _ _ _, q⟩
theorem ok_isup {C : Addr} (T : StoreT K mg C) {f : Addr} {fd : FuncData} {k : Nat} (F : MtP K "is_up" "Store.is_up" sIsUp f fd) : FnOk P w K mg base CX0 (k + 1) f fd ["self"] (spIsUp C) := by
  refine F.ok scIsUp (fun vs H Q E h => ?_) (fun cdv A outer s H vs Q E hr h => ?_)
  · obtain ⟨p, l, m, rfl, _⟩ := h
    rfl
  · obtain ⟨p, l, m, rfl, hS, q⟩ := h
    obtain ⟨⟨dx, hp⟩, hl, hz⟩ := id hS
    refine ⟨_, PSs.nox (pss_one (ps_ret (pe_cmpR op_isN (pe_fld (pv 0) rfl) pe_non (nomark _)))), ?_⟩
    refine ⟨_, rfl, p, C, dx, _, _, rfl, hp, T.cl, T.nE, sf_fell _ _ _ _ _, rfl, ?_⟩
    have e1 : decide (oN m.fell = V.non) = decide (m.fell = none) := by cases m.fell <;> simp [oN]
    rw [e1]
    exact q
theorem ok_rows {C : Addr} (T : StoreT K mg C) {f : Addr} {fd : FuncData} {k : Nat} (F : MtP K "rows" "Store.rows" sRows f fd) : FnOk P w K mg base CX0 (k + 1) f fd ["self"] (spRows C) := by
  refine F.ok scRows (fun vs H Q E h => ?_) (fun cdv A outer s H vs Q E hr h => ?_)
  · obtain ⟨p, l, m, rfl, _⟩ := h
    rfl
  · obtain ⟨p, l, m, rfl, hS, q⟩ := h
    obtain ⟨⟨dx, hp⟩, hl, hz⟩ := id hS
    refine ⟨_, PSs.nox (pss_one (ps_ret (pe_callTy call_list_of (by rfl) T.list (by decide +kernel) (pa_cons (pe_fld (pv 0) rfl) pa_nil)))), ?_⟩
    exact ⟨_, rfl, p, C, dx, _, _, rfl, hp, T.cl, T.nR, sf_rows _ _ _ _ _, l, _, rfl, .inl (SqL.of hl), fun x nx => q _ x (same_upd nx) nx upd_same⟩
theorem ok_init {C : Addr} (T : StoreT K mg C) {f : Addr} {fd : FuncData} {k : Nat} {dvs : List V} {kws : List (Str × V)} (F : FunD K "__init__" "Store.__init__" (defArgs sInit) (defBody sInit) (defScope sInit) dvs kws f fd) : FnOk P w K mg base CX0 (k + 1) f fd ["self", "rows", "fall", "signs"] (spInit K C) := by
  refine F.ok scInit (fun vs H Q E h => ?_) (fun cdv A outer s H vs Q E hr h => ?_)
  · obtain ⟨H0, p, dx, r, rows, vf, g, rfl, _⟩ := h
    rfl
  · obtain ⟨H0, p, dx, r, rows, vf, g, rfl, s0, p0, hp, hR, hz, q⟩ := h
    refine ⟨_, PSs.nox (pss_cons (ps_fld (pv 0) (pe_callTy call_list_of (by rfl) T.list (by decide +kernel) (pa_cons (pv 1) pa_nil)) rfl) (pss_cons (ps_fld (pv 0) pe_int rfl) (pss_cons (ps_fld (pv 0) (pv 2) rfl) (pss_cons (ps_fld (pv 0) (pv 3) rfl) (pss_one (ps_fld (pv 0) pe_non rfl)))))), ?_⟩
    refine ⟨_, rfl, r, _, rfl, hR, fun l nl => ?_⟩
    have npl : p ≠ l := ne_of_none hp nl
    refine ⟨_, rfl, p, C, dx, [], rfl, by rw [upd_ne npl]; exact hp, T.cl, T.nR, (by show 0 < 1000; decide), ?_⟩
    refine ⟨_, rfl, p, C, dx, _, rfl, upd_same, T.cl, T.nS, (by show 1 < 1000; decide), ?_⟩
    refine ⟨_, rfl, _, rfl, p, C, dx, _, rfl, upd_same, T.cl, T.nF, (by show 2 < 1000; decide), ?_⟩
    refine ⟨_, rfl, _, rfl, p, C, dx, _, rfl, upd_same, T.cl, T.nG, (by show 3 < 1000; decide), ?_⟩
    refine ⟨_, rfl, p, C, dx, _, rfl, upd_same, T.cl, T.nE, (by show 4 < 1000; decide), ?_⟩
    refine q _ l (fun b o e => ?_) (s0.free nl) ⟨⟨dx, ?_⟩, ?_, Nat.le_trans hz (by omega)⟩
    · have nb : b ≠ p := fun z => by
        rw [z, p0] at e
        cases e
      rw [upd_ne nb, upd_ne nb, upd_ne nb, upd_ne nb, upd_ne nb, upd_ne (ne_of_none (s0 _ _ e) nl)]
      exact s0 _ _ e
    · rw [upd_same]
      exact congrArg (fun z => some (HO.ins C dx z)) (sf_make l (.int 0) (oV vf) (.int g) .non)
    · rw [upd_ne npl.symm, upd_ne npl.symm, upd_ne npl.symm, upd_ne npl.symm, upd_ne npl.symm, upd_same]
theorem left_drop (xs : List Str) (k : Nat) : leftV (xs.map V.str) (HT.sIx (xs.map V.str).length 0 none) (HT.sIx (xs.map V.str).length (xs.map V.str).length (some (k : Int))) = (xs.drop k).map V.str := by
  rw [HT.sIx_none, HT.sIx_nat, List.length_map]
  unfold leftV
  rw [List.take_zero, List.nil_append, List.map_drop]
  by_cases h : k ≤ xs.length
  · rw [show max 0 (min k xs.length) = k by omega]
  · rw [show max 0 (min k xs.length) = xs.length by omega, List.drop_eq_nil_of_le (by rw [List.length_map]; omega), List.drop_eq_nil_of_le (by rw [List.length_map]; omega)]
theorem left_last (xs : List Str) : leftV (xs.map V.str) (HT.sIx (xs.map V.str).length 0 (some (-1))) (HT.sIx (xs.map V.str).length (xs.map V.str).length none) = (xs.dropLast).map V.str := by
  rw [HT.sIx_none, List.length_map]
  have e : HT.sIx xs.length 0 (some (-1)) = xs.length - 1 := by
    show (if (-1 : Int) < 0 then ((-1 : Int) + (xs.length : Int)).toNat else min (-1 : Int).toNat xs.length) = _
    rw [if_pos (by decide)]
    omega
  rw [e]
  unfold leftV
  rw [List.drop_eq_nil_of_le (by rw [List.length_map]; omega), List.append_nil, List.map_dropLast, List.dropLast_eq_take, List.length_map]
theorem begin_rows (m : SM) : m.begin.1.rows = m.rows := by
  unfold SM.begin
  by_cases h : m.falls = true
  · rw [if_pos h]
  · rw [if_neg h]
    cases m.fell <;> rfl
/-- a step, then what is done to the rows -/
theorem ends_after {C : Addr} {H H1 : Hp} {p l : Addr} {m : SM} {g : List Str → List Str} {Q : VK} {N : Hp → Prop} (f1 : Fr [p, l] H H1) (q : Ends2 C [p, l] H p l (m.after g).1 (m.after g).2 Q)
    (hN : ∀ H2, Fr [p, l] H H2 → StAt C H2 p l m.begin.1 → (∀ H3, Fr [p, l] H2 H3 → StAt C H3 p l { m.begin.1 with rows := g m.begin.1.rows } → Q .non H3) → N H2) : Ends2 C [p] H1 p l m.begin.1 m.begin.2 (fun _ H2 => N H2) := by
  unfold SM.after at q
  unfold Ends2 at q ⊢
  have sub : ∀ x ∈ [p], x ∈ [p, l] := fun x hx => by
    rw [List.mem_singleton.mp hx]
    simp
  generalize m.begin = B at q hN ⊢
  obtain ⟨m2, o⟩ := B
  cases o with
  | none => exact ⟨rfl, fun H2 f2 s2 => hN H2 (f1.trans (f2.mono sub)) s2 fun H3 f3 s3 => q.2 H3 ((f1.trans (f2.mono sub)).trans f3) s3⟩
  | some k => cases q.1
theorem ok_write {C : Addr} (T : StoreT K mg C) {f fF fB : Addr} {fd fdF fdB : FuncData} (F : MtP K "write" "Store.write" sWrite f fd)
    (FF : MtP K "_falls_now" "Store._falls_now" sFalls fF fdF) (mF : Meth K C "_falls_now" fF) (FB : MtP K "_begin_step" "Store._begin_step" sBegin fB fdB) (mB : Meth K C "_begin_step" fB) : FnOk P w K mg base CX0 4 f fd ["self", "row"] (spWrite C) := by
  have bF : Binds K fdF ["self"] [] := FF.bindsN fun _ _ _ _ _ _ us hl => match us, hl with | [_], _ => rfl
  have bB : Binds K fdB ["self"] [] := FB.bindsN fun _ _ _ _ _ _ us hl => match us, hl with | [_], _ => rfl
  have GF : FnOk P w K mg base CX0 1 fF fdF ["self"] (spFalls C) := ok_falls T FF
  have GB : FnOk P w K mg base CX0 3 fB fdB ["self"] (spBegin C) := ok_begin T FB FF mF
  refine F.ok scWrite (fun vs H Q E h => ?_) (fun cdv A outer s H vs Q E hr h => ?_)
  · obtain ⟨p, l, m, row, rfl, _⟩ := h
    rfl
  · obtain ⟨p, l, m, row, rfl, hS, hm, hw, q⟩ := h
    obtain ⟨⟨dx, hp⟩, hl, hz⟩ := id hS
    have nlp := hS.ne
    have hs := szl
    have hr1 : Room 1 _ := hr.mono (by decide)
    refine ⟨_, PSs.nox (C8.pss_cut (ps_if (PW.pt (pw_and (pt_val (pe_meth0 (pv 0) T.cl mF GF hr1 bF .nil pass0)) (pw_and1 (pt_cmpR op_gt (pe_fld (pv 0) rfl) pe_int (nomark _)))))
        (pss_one (ps_expr (pe_bm PySem.F.plainAttrs_list PySem.F.slot_list_append PySem.F.type_list_append mt_append (pe_fld (pv 0) rfl) (pa_cons (pe_slice sl_str (pv 1) po_none (po_some (pe_fld (pv 0) rfl))) pa_nil)))) pss_nil)
      (pss_cons (ps_expr (pe_meth0 (pv 0) T.cl mB GB hr bB .nil pass0))
      (pss_one (ps_expr (pe_bm PySem.F.plainAttrs_list PySem.F.slot_list_append PySem.F.type_list_append mt_append (pe_fld (pv 0) rfl) (pa_cons (pv 1) pa_nil)))))), ?_⟩
    refine ⟨fun σ' H' => σ' = [some (.ref p), some (.str row)] ∧ Fr [p, l] H H' ∧ StAt C H' p l (m.ahead row), ?_, ?_⟩
    · refine ⟨_, rfl, p, dx, _, rfl, hp, sf_no8 _ _ _ _ _, p, l, m, rfl, hS, _, rfl, ?_⟩
      cases hf : m.falls with
      | false =>
        have ea : m.ahead row = m := by
          unfold SM.ahead
          rw [if_neg (fun z => by rw [hf] at z; exact Bool.false_ne_true z.1)]
        exact iteF ⟨rfl, Fr.refl, by rw [ea]; exact hS⟩
      | true =>
        refine iteT ⟨_, rfl, p, C, dx, _, _, rfl, hp, T.cl, T.nG, sf_signs _ _ _ _ _, _, _, rfl, rfl, _, rfl, ite2 (fun e => ?_) (fun e => ?_)⟩
        · have e' : 0 < m.signs := of_decide_eq_true e
          have ea : m.ahead row = { m with rows := m.rows ++ [cutS row none (some m.signs)] } := by
            unfold SM.ahead
            rw [if_pos ⟨hf, e'⟩]
          refine ⟨_, rfl, p, C, dx, _, _, rfl, hp, T.cl, T.nR, sf_rows _ _ _ _ _, .inl ⟨rfl, _, SqL.of hl⟩, _, rfl, _, rfl, p, C, dx, _, _, rfl, hp, T.cl, T.nG, sf_signs _ _ _ _ _, _, rfl, row, rfl, by omega, l, _, _, rfl, rfl, hl, by rw [List.length_map]; omega, ?_⟩
          refine ⟨rfl, fr_upd (by simp), ?_⟩
          rw [ea]
          refine ⟨⟨dx, ?_⟩, ?_, ?_⟩
          · rw [upd_ne nlp.symm]
            exact hp
          · rw [upd_same, List.map_append]
            rfl
          · show (m.rows ++ [_]).length ≤ 1000
            rw [List.length_append, List.length_singleton]
            omega
        · have ea : m.ahead row = m := by
            unfold SM.ahead
            rw [if_neg (fun z => e (decide_eq_true z.2))]
          exact ⟨rfl, Fr.refl, by rw [ea]; exact hS⟩
    · rintro σ' H1 ⟨rfl, f1, hS1⟩
      have ha : (m.ahead row).rows.length ≤ 901 := by
        unfold SM.ahead
        by_cases c : m.falls = true ∧ 0 < m.signs
        · rw [if_pos c]
          show (m.rows ++ [_]).length ≤ 901
          rw [List.length_append, List.length_singleton]
          omega
        · rw [if_neg c]
          omega
      generalize m.ahead row = m1 at hS1 q ha
      obtain ⟨⟨dx1, hp1⟩, hl1, hz1⟩ := id hS1
      refine ⟨_, rfl, p, dx1, _, rfl, hp1, sf_no9 _ _ _ _ _, p, l, m1, rfl, hS1, ?_⟩
      exact ends_after (g := fun r => r ++ [row]) f1 q fun H2 f2 hS2 eb => by
        obtain ⟨⟨dx2, hp2⟩, hl2, hz2⟩ := id hS2
        have l2 := begin_rows m1
        refine ⟨_, rfl, p, C, dx2, _, _, rfl, hp2, T.cl, T.nR, sf_rows _ _ _ _ _, .inl ⟨rfl, _, SqL.of hl2⟩, _, rfl, l, _, _, rfl, rfl, hl2, by rw [List.length_map]; omega, ?_⟩
        refine eb _ (fr_upd (by simp)) ⟨⟨dx2, ?_⟩, ?_, ?_⟩
        · rw [upd_ne nlp.symm]
          exact hp2
        · rw [upd_same]
          show _ = some (HO.lst ((m1.begin.1.rows ++ [row]).map V.str))
          rw [List.map_append]
          rfl
        · show (m1.begin.1.rows ++ [row]).length ≤ 1000
          rw [List.length_append, List.length_singleton, l2]
          omega
theorem ok_letgo {C : Addr} (T : StoreT K mg C) {f fF fB : Addr} {fd fdF fdB : FuncData} (F : MtP K "let_go" "Store.let_go" sLetGo f fd)
    (FF : MtP K "_falls_now" "Store._falls_now" sFalls fF fdF) (mF : Meth K C "_falls_now" fF) (FB : MtP K "_begin_step" "Store._begin_step" sBegin fB fdB) (mB : Meth K C "_begin_step" fB) : FnOk P w K mg base CX0 4 f fd ["self", "many"] (spLetGo C) := by
  have bB : Binds K fdB ["self"] [] := FB.bindsN fun _ _ _ _ _ _ us hl => match us, hl with | [_], _ => rfl
  have GB : FnOk P w K mg base CX0 3 fB fdB ["self"] (spBegin C) := ok_begin T FB FF mF
  refine F.ok scLetGo (fun vs H Q E h => ?_) (fun cdv A outer s H vs Q E hr h => ?_)
  · obtain ⟨p, l, m, k, rfl, _⟩ := h
    rfl
  · obtain ⟨p, l, m, k, rfl, hS, q⟩ := h
    obtain ⟨⟨dx, hp⟩, hl, hz⟩ := id hS
    have nlp := hS.ne
    refine ⟨_, PSs.nox (pss_cons (ps_expr (pe_meth0 (pv 0) T.cl mB GB hr bB .nil pass0))
      (pss_one (ps_delSl (pe_fld (pv 0) rfl) po_none (po_some (pv 1))))), ?_⟩
    refine ⟨_, rfl, p, dx, _, rfl, hp, sf_no9 _ _ _ _ _, p, l, m, rfl, hS, ?_⟩
    exact ends_after (g := fun r => r.drop k) Fr.refl q fun H2 f2 hS2 eb => by
      obtain ⟨⟨dx2, hp2⟩, hl2, hz2⟩ := id hS2
      refine ⟨_, rfl, p, C, dx2, _, _, rfl, hp2, T.cl, T.nR, sf_rows _ _ _ _ _, _, rfl, _, rfl, l, _, rfl, hl2, ?_⟩
      refine eb _ (fr_upd (by simp)) ⟨⟨dx2, ?_⟩, ?_, ?_⟩
      · rw [upd_ne nlp.symm]
        exact hp2
      · rw [upd_same, left_drop]
      · show (m.begin.1.rows.drop k).length ≤ 1000
        rw [List.length_drop, begin_rows]
        omega
theorem ok_cut {C : Addr} (T : StoreT K mg C) {f fF fB : Addr} {fd fdF fdB : FuncData} (F : MtP K "cut" "Store.cut" sCut f fd)
    (FF : MtP K "_falls_now" "Store._falls_now" sFalls fF fdF) (mF : Meth K C "_falls_now" fF) (FB : MtP K "_begin_step" "Store._begin_step" sBegin fB fdB) (mB : Meth K C "_begin_step" fB) : FnOk P w K mg base CX0 4 f fd ["self"] (spCut C) := by
  have bB : Binds K fdB ["self"] [] := FB.bindsN fun _ _ _ _ _ _ us hl => match us, hl with | [_], _ => rfl
  have GB : FnOk P w K mg base CX0 3 fB fdB ["self"] (spBegin C) := ok_begin T FB FF mF
  refine F.ok scCut (fun vs H Q E h => ?_) (fun cdv A outer s H vs Q E hr h => ?_)
  · obtain ⟨p, l, m, rfl, _⟩ := h
    rfl
  · obtain ⟨p, l, m, rfl, hS, q⟩ := h
    obtain ⟨⟨dx, hp⟩, hl, hz⟩ := id hS
    have nlp := hS.ne
    refine ⟨_, PSs.nox (pss_cons (ps_expr (pe_meth0 (pv 0) T.cl mB GB hr bB .nil pass0))
      (pss_one (ps_delSl (pe_fld (pv 0) rfl) (po_some (pe_un un_neg pe_int)) po_none))), ?_⟩
    refine ⟨_, rfl, p, dx, _, rfl, hp, sf_no9 _ _ _ _ _, p, l, m, rfl, hS, ?_⟩
    exact ends_after (g := fun r => r.dropLast) Fr.refl q fun H2 f2 hS2 eb => by
      obtain ⟨⟨dx2, hp2⟩, hl2, hz2⟩ := id hS2
      refine ⟨_, rfl, p, C, dx2, _, _, rfl, hp2, T.cl, T.nR, sf_rows _ _ _ _ _, _, rfl, -1, rfl, l, _, rfl, hl2, ?_⟩
      refine eb _ (fr_upd (by simp)) ⟨⟨dx2, ?_⟩, ?_, ?_⟩
      · rw [upd_ne nlp.symm]
        exact hp2
      · rw [upd_same, left_last]
      · show (m.begin.1.rows.dropLast).length ≤ 1000
        rw [List.length_dropLast, begin_rows]
        omega
end
end St6

set_option autoImplicit false
set_option maxHeartbeats 2000000
namespace St6
open PySem PySem.Spec PyProof.Rows L2 Dl TL
abbrev sText : Stmt := top 8
abbrev sIs : Stmt := top 9
abbrev sLaw : Stmt := top 10
theorem atI_in {α : Type} {xs : List α} {d : Int} (h0 : 0 ≤ d) (h1 : d < (xs.length : Int)) : ∃ v, atI xs d = some v ∧ v ∈ xs := by
  obtain ⟨j, rfl⟩ := Int.eq_ofNat_of_zero_le h0
  have hj : j < xs.length := Int.ofNat_lt.mp h1
  exact ⟨xs[j], atI_nat (List.getElem?_eq_getElem hj), List.getElem_mem hj⟩
def Ok (ns : List Str) : Prop := ∀ z ∈ ns, PyData.strOk z = true
theorem joinL_len : ∀ ls : List (List Nat), (joinL [] ls).length = (ls.map List.length).sum
  | [] => rfl
  | [p] => by simp [joinL]
  | p :: q :: r => by
    have ih := joinL_len (q :: r)
    show (p ++ ([] ++ joinL [] (q :: r))).length = _
    rw [List.nil_append, List.length_append, ih]
    simp
theorem joinL_mem : ∀ (ls : List (List Nat)) (e : Nat), e ∈ joinL [] ls → ∃ y ∈ ls, e ∈ y
  | [], e, h => by cases h
  | [p], e, h => ⟨p, List.mem_singleton_self _, h⟩
  | p :: q :: r, e, h => by
    have h2 : e ∈ p ++ ([] ++ joinL [] (q :: r)) := h
    rw [List.nil_append] at h2
    rcases List.mem_append.mp h2 with h3 | h3
    · exact ⟨p, List.mem_cons_self .., h3⟩
    · obtain ⟨y, hy, he⟩ := joinL_mem (q :: r) e h3
      exact ⟨y, List.mem_cons_of_mem _ hy, he⟩
theorem scText : FnScope ["pen", "signs", "k"] ["pen"] (defScope sText) := ⟨rfl, rfl, rfl, by decide +kernel, rfl, by decide +kernel, by decide +kernel⟩
def spText : Sp := fun vs H Q _ => ∃ (d cl : Addr) (ns : List Int) (n : Nat), vs = [.ref d] ∧ Pen H d cl ns n ∧ n ≤ 900000 ∧ ∀ H' z, Fr [d] H H' → Pen H' d cl ns (n + 9) → z.length ≤ 8 → PyData.strOk z = true → Q (.str z) H'
theorem scIs : FnScope ["store", "a_rows", "many"] ["store", "a_rows", "many"] (defScope sIs) := ⟨rfl, rfl, rfl, by decide +kernel, rfl, by decide +kernel, by decide +kernel⟩
def spIs (K : PySem.W.Frag) (C : Addr) : Sp := fun vs H Q _ => ∃ (p l r : Addr) (m : SM), vs = [.ref p, .ref r, .int (m.steps : Int)] ∧ StAt C H p l m ∧ H r = some (.lst (m.rows.map V.str)) ∧ m.fell = none ∧ Ok m.rows ∧ ∀ H', Same H H' → Q (.bl true) H'
theorem dpAll_strs {K : PySem.W.Frag} {H : Hp} : ∀ ns : List Str, DpAll K H (ns.map V.str) (ns.map PyData.str)
  | [] => .nil
  | n :: r => .cons (.str n) (dpAll_strs r)
theorem eqv_strs : ∀ ns : List Str, PyData.eqvAll (ns.map PyData.str) (ns.map PyData.str) = true
  | [] => by simp [PyData.eqvAll]
  | n :: r => by
    have ih := eqv_strs r
    simp [PyData.eqvAll, PyData.eqv]
    exact ih
theorem can_strs : ∀ ns : List Str, Ok ns → PyData.canLayAll0 (ns.map PyData.str) = true
  | [], _ => rfl
  | x :: r, h => by
    have h1 := h x (List.mem_cons_self ..)
    have h2 := can_strs r fun z hz => h z (List.mem_cons_of_mem _ hz)
    simp [PyData.canLayAll0, PyData.canLay0, h1, h2]
theorem depth_strs : ∀ ns : List Str, PyData.depthAll (ns.map PyData.str) = 0
  | [] => rfl
  | _ :: r => by simp [PyData.depthAll, PyData.depth, depth_strs r]
theorem shaped_strs {ns : List Str} (h : Ok ns) : SeqAt.shaped (.list (ns.map PyData.str)) = true := by
  simp [SeqAt.shaped, PyData.canLay0, PyData.depth, can_strs ns h, depth_strs]
section
variable {P : Program} {w : World} {K : PySem.W.Frag} {mg : Str → Option Value} {base : Heap}
theorem ok_text {f fD : Addr} {fd fdD : FuncData} {k : Nat} (F : FnP K "_law_text" sText f fd) (FD : FnP K "_law_draw" sDraw fD fdD) (gD : mg "_law_draw" = some (.ref fD)) (GD : FnOk P w K mg base CX0 k fD fdD ["pen", "many"] spDraw) (mr : mg "range" = none) :
    FnOk P w K mg base CX0 (k + 1) f fd ["pen"] spText := by
  have bD : Binds K fdD ["pen", "many"] [] := FD.bindsN fun _ _ _ _ _ _ us hl => match us, hl with | [_, _], _ => rfl
  refine F.ok scText (fun vs H Q E h => ?_) (fun cdv A outer s H vs Q E hr h => ?_)
  · obtain ⟨d, cl, ns, n, rfl, _⟩ := h
    rfl
  · obtain ⟨d, cl, ns, n, rfl, hP, hn, q⟩ := h
    have hs := szl
    refine ⟨_, PSs.nox (pss_cons (ps_set (i := 1) scText.nd rfl (.inr rfl) pe_str)
      (pss_one (ps_ret (pe_join pe_str (pe_lc (own := [("k", 2)]) (g := gName 2) (tt := tYes) rfl scText.nd (pi_range1 (by rfl) mr (pa_cons (pe_call GD hr (by rfl) gD FD.kp bD .nil pass0 (pa_cons (pv 0) (pa_cons pe_int pa_nil))) pa_nil))
        (blkOk_by (own := [("k", 2)]) (N := ["pen", "signs", "k"]) (sc := defScope sText) (by decide +kernel)) (fun _ _ _ _ _ => pg_name (i := 2) scText.nd rfl (Or.inl rfl)) (fun _ _ _ _ _ => pts_nil)
        (fun _ _ _ _ _ => pe_ix ix_str (pv 1) (pe_call GD hr (by rfl) gD FD.kp bD .nil pass0 (pa_cons (pv 0) (pa_cons pe_int pa_nil))) (fun _ _ => rfl))))))), ?_⟩
    refine ⟨⟨_, rfl⟩, _, rfl, d, cl, ns, 9, n, rfl, hP, by omega, by decide, by decide, fun H1 k1 f1 P1 k10 k11 => ?_⟩
    obtain ⟨c, rfl⟩ := Int.eq_ofNat_of_zero_le k10
    refine ⟨_, rfl, by omega, by omega, fun L nL => ?_⟩
    obtain ⟨⟨xa, xb, hd1, _⟩, hc1, _⟩ := id P1
    have nLd : d ≠ L := ne_of_none hd1 nL
    have nLc : cl ≠ L := ne_of_none hc1 nL
    refine lc_range (lo := 0) (n := (c : Int).toNat) (fun i H' => ∃ zs : List Str, H' L = some (.lst (zs.map V.str)) ∧ zs.length = i ∧ (∀ z ∈ zs, z.length = 1 ∧ ∀ e ∈ tl z, e < 1114112) ∧ Fr [d, L] H1 H' ∧ Pen H' d cl ns (n + 1 + i))
      ⟨[], upd_same, rfl, (fun _ z => by cases z), fr_upd (by simp), P1.fr (fr_new (S := []) nL) (by simp) (by simp)⟩ ?_ ?_
    · rintro i H2 hi ⟨zs, hL, hl, h1, f2, P2⟩
      have hi8 : i < 8 := by omega
      refine ⟨rfl, _, rfl, _, rfl, d, cl, ns, 7, _, rfl, P2, by omega, by decide, by decide, fun H4 d4 f4 P4 d40 d41 => ?_⟩
      obtain ⟨e4, x4, mm4⟩ := atI_in (xs := (Str.ofString "a0 (\"-z").cps.toList) d40 (by rw [show (Str.ofString "a0 (\"-z").cps.toList.length = 7 by decide +kernel]; exact d41)
      have hL4 : H4 L = some (.lst (zs.map V.str)) := f4 _ _ (by simpa using nLd.symm) hL
      refine ⟨_, d4, e4, rfl, rfl, by rw [show (Str.ofString "a0 (\"-z").length = 7 by decide +kernel]; omega, x4, _, hL4, by rw [List.length_map]; omega, zs ++ [⟨#[e4]⟩], ?_, ?_, ?_, ?_, ?_⟩
      · rw [upd_same, List.map_append]
        rfl
      · rw [List.length_append, hl]
        rfl
      · intro z hz
        rcases List.mem_append.mp hz with h | h
        · exact h1 z h
        · rw [List.mem_singleton.mp h]
          refine ⟨rfl, fun e he => ?_⟩
          have he2 : e = e4 := List.mem_singleton.mp he
          rw [he2]
          exact (show ∀ e ∈ (Str.ofString "a0 (\"-z").cps.toList, e < 1114112 by decide +kernel) e4 mm4
      · exact (f2.trans (f4.mono (by simp))).trans (fr_upd (by simp))
      · exact (P4.fr (S := [L]) (fr_upd (by simp)) (by simpa using nLd) (by simpa using nLc)).mono (by omega)
    · rintro H2 ⟨zs, hL, hl, h1, f2, P2⟩
      have hsum : ∀ ys : List Str, (∀ z ∈ ys, z.length = 1) → (ys.map (·.length)).sum = ys.length := by
        intro ys
        induction ys with
        | nil => intro _; rfl
        | cons y r ih =>
          intro hy
          rw [List.map_cons, List.sum_cons, ih fun z hz => hy z (List.mem_cons_of_mem _ hz), hy y (List.mem_cons_self ..), List.length_cons]
          omega
      have e0 : (Str.ofString "").length = 0 := by decide +kernel
      have t0 : tl (Str.ofString "") = [] := by decide +kernel
      have hlen : zs.length ≤ 8 := by omega
      refine ⟨_, L, zs, rfl, rfl, .inl (SqL.of hL), by rw [hsum zs fun z hz => (h1 z hz).1, e0]; omega, ?_⟩
      have fA : Fr [d] H H2 := Fr.drop (p := L) (S := [d]) ((f1.mono (by simp)).trans (f2.mono (by simp))) (f1.free (by simpa using nLd.symm) nL)
      have h1' : ∀ z ∈ zs, z.length = 1 := fun z hz => (h1 z hz).1
      refine q H2 _ fA (P2.mono (by omega)) ?_ ?_
      · rw [len_tl, join_eq, tl_join, t0, joinL_len]
        have : ((zs.map tl).map List.length) = zs.map (·.length) := by
          rw [List.map_map]
          exact List.map_congr_left fun z _ => (len_tl z).symm
        rw [this, hsum zs h1']
        exact hlen
      · have key : ∀ e ∈ tl (Txt.join (Str.ofString "") zs), e < 1114112 := by
          rw [join_eq, tl_join, t0]
          intro e he
          obtain ⟨y, hy, hey⟩ := joinL_mem _ _ he
          obtain ⟨z, hz, rfl⟩ := List.mem_map.mp hy
          exact (h1 z hz).2 e hey
        show (Txt.join (Str.ofString "") zs).cps.all (· < 0x110000) = true
        rw [← Array.all_toList, List.all_eq_true]
        intro e he
        exact decide_eq_true (key e he)
theorem ok_is {C : Addr} (T : StoreT K mg C) {f fR fS fU : Addr} {fd fdR fdS fdU : FuncData} (F : FnP K "_law_is" sIs f fd) (FR : MtP K "rows" "Store.rows" sRows fR fdR) (mR : Meth K C "rows" fR)
    (FS : MtP K "steps" "Store.steps" sSteps fS fdS) (mS : Meth K C "steps" fS) (FU : MtP K "is_up" "Store.is_up" sIsUp fU fdU) (mU : Meth K C "is_up" fU) : FnOk P w K mg base CX0 2 f fd ["store", "a_rows", "many"] (spIs K C) := by
  have bR : Binds K fdR ["self"] [] := FR.bindsN fun _ _ _ _ _ _ us hl => match us, hl with | [_], _ => rfl
  have bS : Binds K fdS ["self"] [] := FS.bindsN fun _ _ _ _ _ _ us hl => match us, hl with | [_], _ => rfl
  have bU : Binds K fdU ["self"] [] := FU.bindsN fun _ _ _ _ _ _ us hl => match us, hl with | [_], _ => rfl
  have GR : FnOk P w K mg base CX0 1 fR fdR ["self"] (spRows C) := ok_rows T FR
  have GS : FnOk P w K mg base CX0 1 fS fdS ["self"] (spSteps C) := ok_steps T FS
  have GU : FnOk P w K mg base CX0 1 fU fdU ["self"] (spIsUp C) := ok_isup T FU
  refine F.ok scIs (fun vs H Q E h => ?_) (fun cdv A outer s H vs Q E hr h => ?_)
  · obtain ⟨p, l, r, m, rfl, _⟩ := h
    rfl
  · obtain ⟨p, l, r, m, rfl, hS, hr0, hf, hok, q⟩ := h
    have hs := szl
    obtain ⟨⟨dx, hp⟩, hl, hz⟩ := id hS
    refine ⟨_, PSs.nox (pss_cons (ps_if (PW.pt (pw_or (pt_cmpR (op_neD hr.units) (pe_meth0 (pv 0) T.cl mR GR hr bR .nil pass0) (pv 1) (nomark _))
        (pw_or (pt_cmpR op_ne (pe_meth0 (pv 0) T.cl mS GS hr bS .nil pass0) (pv 2) (nomark _)) (pw_or1 (pt_cmpR op_notBl (pe_meth0 (pv 0) T.cl mU GU hr bU .nil pass0) pe_bl (nomark _))))))
        (pss_one (ps_ret pe_bl)) pss_nil)
      (pss_cons (ps_expr (pe_bm PySem.F.plainAttrs_list PySem.F.slot_list_append PySem.F.type_list_append mt_append (pe_meth0 (pv 0) T.cl mR GR hr bR .nil pass0) (pa_cons pe_str pa_nil)))
      (pss_one (ps_ret (pe_cmpR (op_eqD hr.units) (pe_meth0 (pv 0) T.cl mR GR hr bR .nil pass0) (pv 1) (nomark _)))))), ?_⟩
    refine ⟨_, rfl, p, dx, _, rfl, hp, sf_no4 _ _ _ _ _, p, l, m, rfl, hS, fun H1 x1 s1 n1 h1 => ?_⟩
    refine ⟨_, rfl, .list (m.rows.map PyData.str), .list (m.rows.map PyData.str), .lst (SqL.of h1) (dpAll_strs _), .lst (SqL.of (s1 _ _ hr0)) (dpAll_strs _), shaped_strs hok, shaped_strs hok, _, rfl, ?_⟩
    have ee : PyData.eqv (.list (m.rows.map PyData.str)) (.list (m.rows.map PyData.str)) = true := by
      rw [PyData.eqv]
      exact eqv_strs _
    rw [ee]
    refine iteF ⟨_, rfl, p, dx, _, rfl, s1 _ _ hp, sf_no5 _ _ _ _ _, p, l, m, rfl, hS.fr (fr_same (S := []) s1) (by simp) (by simp), ?_⟩
    refine ⟨_, rfl, rfl, _, rfl, ?_⟩
    have e1 : (!decide (V.int (m.steps : Int) = V.int (m.steps : Int))) = false := by simp
    show if (!decide (V.int (m.steps : Int) = V.int (m.steps : Int))) = true then _ else _
    rw [e1]
    refine iteF ⟨_, rfl, p, dx, _, rfl, s1 _ _ hp, sf_no6 _ _ _ _ _, p, l, m, rfl, hS.fr (fr_same (S := []) s1) (by simp) (by simp), ?_⟩
    refine ⟨_, _, rfl, rfl, _, rfl, ?_⟩
    have e2 : (!decide (decide (m.fell = none) = true)) = false := by rw [hf]; simp
    rw [e2]
    refine iteF ⟨_, rfl, p, dx, _, rfl, s1 _ _ hp, sf_no4 _ _ _ _ _, p, l, m, rfl, hS.fr (fr_same (S := []) s1) (by simp) (by simp), fun H2 x2 s2 n2 h2 => ?_⟩
    refine ⟨.inl ⟨rfl, _, SqL.of h2⟩, x2, _, _, rfl, rfl, h2, by rw [List.length_map]; omega, ?_⟩
    have n2' : H x2 = none := s1.free n2
    have s3 : Same H (upd H2 x2 (.lst (m.rows.map V.str ++ [.str "more"]))) := fun b o e => by
      rw [upd_ne (ne_of_none e n2')]
      exact s2 _ _ (s1 _ _ e)
    refine ⟨_, rfl, p, dx, _, rfl, s3 _ _ hp, sf_no4 _ _ _ _ _, p, l, m, rfl, hS.fr (fr_same (S := []) s3) (by simp) (by simp), fun H4 x4 s4 n4 h4 => ?_⟩
    refine ⟨_, rfl, .list (m.rows.map PyData.str), .list (m.rows.map PyData.str), .lst (SqL.of h4) (dpAll_strs _), .lst (SqL.of (s4 _ _ (s3 _ _ hr0))) (dpAll_strs _), shaped_strs hok, shaped_strs hok, ?_⟩
    rw [ee]
    exact q H4 (s3.trans s4)
end
end St6

set_option autoImplicit false
set_option maxHeartbeats 2000000
namespace St6
open PySem PySem.Spec PyProof.Rows L2 Dl TL
abbrev InitF (K : PySem.W.Frag) (e0 fI : Addr) (fdI : FuncData) : Prop := FunD K "__init__" "Store.__init__" (defArgs sInit) (defBody sInit) (defScope sInit) [.ref e0] [("fall", .non), ("signs", .int 0)] fI fdI
section
variable {K : PySem.W.Frag} {e0 fI : Addr} {fdI : FuncData}
theorem bindR (F : InitF K e0 fI fdI) : ∃ ds, Vals [V.non, .int 0] ds ∧ Binds K fdI ["self", "rows", "fall", "signs"] ds :=
  F.binds 2 1 (by simp) rfl (fun T D doc pm an cdv ct us its ks hl hi hk => match us, hl, its, hi, ks, hk with | [_, _], _, [_], _, [_, _], _ => ⟨_, rfl, ⟨_, _, _, _, _, _, rfl, rfl, ⟨_, _, _, _, _, _, rfl, rfl, rfl⟩⟩⟩) (by simp)
theorem bind0 (F : InitF K e0 fI fdI) : ∃ ds, Vals [V.ref e0, V.non, .int 0] ds ∧ Binds K fdI ["self", "rows", "fall", "signs"] ds :=
  F.binds 1 0 (by simp) rfl (fun T D doc pm an cdv ct us its ks hl hi hk => match us, hl, its, hi, ks, hk with | [_], _, [_], _, [_, _], _ => ⟨_, rfl, ⟨_, _, _, _, _, _, rfl, rfl, ⟨_, _, _, _, _, _, rfl, rfl, rfl⟩⟩⟩) (by simp)
theorem bindK (F : InitF K e0 fI fdI) : ∃ g gV, KBn K fdI ["self", "rows", "fall", "signs"] 1 ["rows"] g gV ∧ ∀ x y : V, gV [x] [y] = [x, y, .non, .int 0] := by
  obtain ⟨its, mv, kb⟩ := F.kbinds (ps := ["self", "rows", "fall", "signs"]) 1 ["rows"] [("fall", .non), ("signs", .int 0)] (fun us _ mv ws => us ++ ws ++ mv) (by simp) (by simp) (fun q hq => hq) (fun r1 _ r3 r4 => (r1.append r4).append r3)
    (fun T D doc pm an cdv ct us its mv ws hl hi hm hw => match us, hl, its, hi, mv, hm, ws, hw with | [_], _, [_], _, [_, _], _, [_], _ => ⟨_, rfl, ⟨_, _, _, _, _, _, rfl, rfl, ⟨_, _, _, _, _, _, rfl, rfl, rfl⟩⟩⟩)
  exact ⟨_, _, kb, fun x y => rfl⟩
end
end St6

set_option autoImplicit false
set_option maxHeartbeats 4000000
namespace St6
open PySem PySem.Spec PyProof.Rows L2 Dl TL
def scA : Scope := match (defBody sLaw).getD 1 (.Pass ⟨0, 0, 0, 0⟩) with
  | .Assign _ (.ListComp _ _ sc _) _ => sc
  | _ => defScope sLaw
/-- names whose kinds are told anew, asked -/
theorem look_map {g : Str × NameKind → Str × NameKind} (hg : ∀ q, (g q).1 = q.1) {x : Str} {k : NameKind} : ∀ {l : List (Str × NameKind)}, l.lookup x = some k → ∃ n, (l.map g).lookup x = some (g (n, k)).2
  | [], h => by cases h
  | q :: r, h => by
    rw [List.map_cons, List.lookup_cons, hg q]
    rw [List.lookup_cons] at h
    by_cases e : (x == q.1) = true
    · rw [e] at h ⊢
      exact ⟨q.1, by rw [← Option.some.inj h]⟩
    · have e2 : (x == q.1) = false := by simpa using e
      rw [e2] at h ⊢
      exact look_map hg h
/-- a comprehension within another one -/
theorem blkOk_rel {N : List Str} {sc scope : Scope} {own : List (Str × Nat)} {env : Env} (h : blkC N sc scope own = true) : BlkOk N (relabel sc env) scope own := by
  have b := blkOk_by h
  refine ⟨b.kind, b.uniq, b.ix, fun y hy e => ?_, b.own⟩
  have hg : ∀ q : Str × NameKind, ((fun (q : Str × NameKind) => if (q.2 == .free && env.scope.kind == .function && env.kindOf q.1 == some .cell) then (q.1, NameKind.cell) else (q.1, q.2)) q).1 = q.1 := fun q => by
    show (if _ then (q.1, NameKind.cell) else (q.1, q.2)).1 = q.1
    split <;> rfl
  rcases b.free y hy e with f | f
  · obtain ⟨n, e1⟩ := look_map hg f
    exact .inl (e1.trans (congrArg some (by simp)))
  · obtain ⟨n, e1⟩ := look_map hg f
    by_cases c : (env.scope.kind == .function && env.kindOf n == some .cell) = true
    · exact .inl (e1.trans (congrArg some (by simp at c; simp [c])))
    · exact .inr (e1.trans (congrArg some (by simp at c; simp; rw [if_neg (fun z => c z.1 z.2)])))
theorem ixl {X : Cx} {K : PySem.W.Frag} (h : X.K = K) : IxR X (rIxL K) := by
  rw [← h]
  exact ix_list
theorem listOf {X : Cx} {K : PySem.W.Frag} (h : X.K = K) : CallR X (.type "list") (fun xs H Q => ∃ p ys, xs = [.ref p] ∧ (SqL K H p ys ∨ SqT K H p ys) ∧ ∀ l, H l = none → Q (.ref l) (upd H l (.lst ys))) := by
  rw [← h]
  exact call_list_of
theorem scLaw : FnScope ["script", "pen", "k", "lots", "handed", "stores", "counts", "step", "way", "told", "row", "many", "again", "a_rows", "j"] ["script"] (defScope sLaw) := ⟨rfl, rfl, rfl, by decide +kernel, rfl, by decide +kernel, by decide +kernel⟩
def spLaw (K : PySem.W.Frag) : Sp := fun vs H Q _ => ∃ (a : Addr) (ns : List Int), vs = [.ref a] ∧ SqL K H a (ns.map V.int) ∧ ns.length ≤ 63 ∧ ∀ H', Q (.bl true) H'
/-- two things, by their places -/
def l2 (f : Nat → V) : List V := [f 0, f 1]
def up {α : Type} (f : Nat → α) (k : Nat) (x : α) : Nat → α := fun i => if i = k then x else f i
theorem up_at {α : Type} {f : Nat → α} {k : Nat} {x : α} : up f k x k = x := if_pos rfl
theorem up_ne {α : Type} {f : Nat → α} {k i : Nat} {x : α} (h : i ≠ k) : up f k x i = f i := if_neg h
theorem rng_up {α : Type} (f : Nat → α) (g : α → V) (i : Nat) (x : α) : (List.range (i + 1)).map (fun j => g (up f i x j)) = (List.range i).map (fun j => g (f j)) ++ [g x] := by
  rw [List.range_succ, List.map_append]
  congr 1
  · exact List.map_congr_left fun j hj => by rw [up_ne (Nat.ne_of_lt (List.mem_range.mp hj))]
  · rw [List.map_singleton, up_at]
theorem Fr.out {S T : List Addr} {H H1 : Hp} {p : Addr} (a : Fr T H H1) (h : H p = none) (hs : ∀ x ∈ T, x = p ∨ x ∈ S) : Fr S H H1 := (a.mono (T := p :: S) fun x hx => by
  rcases hs x hx with e | e
  · rw [e]; exact List.mem_cons_self ..
  · exact List.mem_cons_of_mem _ e).drop h
def sm0 (z : List Str) (c : Nat) : SM := ⟨z, c, none, 0, none⟩
structure Inv6 (C : Addr) (H : Hp) (d cl : Addr) (ns : List Int) (n : Nat) (aS aL aC : Addr) (p l r : Nat → Addr) (z : Nat → List Str) (cc c : Nat → Nat) (m : Nat) : Prop where
  pen : Pen H d cl ns n
  hS : H aS = some (.lst (l2 fun i => .ref (p i)))
  hL : H aL = some (.lst (l2 fun i => .ref (r i)))
  hC : H aC = some (.lst (l2 fun i => .int (cc i : Int)))
  st : ∀ i, i < 2 → StAt C H (p i) (l i) (sm0 (z i) (c i))
  rr : ∀ i, i < 2 → H (r i) = some (.lst ((z i).map V.str))
  ok : ∀ i, i < 2 → Ok (z i)
  sz : ∀ i, i < 2 → (z i).length ≤ m
  nd : [d, cl, aS, aL, aC].Nodup
  np : ∀ i, i < 2 → p i ∉ [d, cl, aS, aL, aC] ∧ l i ∉ [d, cl, aS, aL, aC] ∧ r i ∉ [d, cl, aS, aL, aC]
  pp : p 0 ≠ p 1
  ll : l 0 ≠ l 1
  rl : ∀ i j, i < 2 → j < 2 → r i ≠ l j ∧ r i ≠ p j ∧ l i ≠ p j
theorem l2_set (f : Nat → V) (x : V) {k : Nat} (hk : k < 2) : (l2 f).set k x = l2 (up f k x) := by
  rcases (by omega : k = 0 ∨ k = 1) with e | e <;> subst e <;> simp [l2, up]
theorem l2_get (f : Nat → V) {k : Nat} (hk : k < 2) : (l2 f)[k]? = some (f k) := by
  rcases (by omega : k = 0 ∨ k = 1) with e | e <;> subst e <;> rfl
theorem l2_ix (f : Nat → V) {k : Nat} (hk : k < 2) : ixN (l2 f).length (k : Int) = some k := by
  rcases (by omega : k = 0 ∨ k = 1) with e | e <;> subst e <;> rfl
theorem up_ref (r : Nat → Addr) (k : Nat) (x : Addr) : up (fun i => V.ref (r i)) k (.ref x) = fun i => .ref (up r k x i) := by
  funext i
  by_cases h : i = k
  · rw [h, up_at, up_at]
  · rw [up_ne h, up_ne h]
theorem up_int (c : Nat → Nat) (k x : Nat) : up (fun i => V.int (c i : Int)) k (.int (x : Int)) = fun i => .int ((up c k x i : Nat) : Int) := by
  funext i
  by_cases h : i = k
  · rw [h, up_at, up_at]
  · rw [up_ne h, up_ne h]
theorem two_ne {α : Type} {p : Nat → α} (h : p 0 ≠ p 1) {i k : Nat} (hi : i < 2) (hk : k < 2) (n : i ≠ k) : p i ≠ p k := by
  rcases (by omega : (i = 0 ∧ k = 1) ∨ (i = 1 ∧ k = 0)) with ⟨e1, e2⟩ | ⟨e1, e2⟩ <;> subst e1 <;> subst e2
  · exact h
  · exact h.symm
theorem cut_drop (xs : List Str) (j : Nat) : cutV (xs.map V.str) (some (j : Int)) none = (xs.drop j).map V.str := by
  unfold cutV
  rw [HT.sIx_none, HT.sIx_nat, List.length_map, List.take_of_length_le (by rw [List.length_drop, List.length_map]; omega), List.map_drop]
  by_cases h : j ≤ xs.length
  · rw [show min j xs.length = j by omega]
  · rw [show min j xs.length = xs.length by omega, List.drop_eq_nil_of_le (by rw [List.length_map]; omega), List.drop_eq_nil_of_le (by rw [List.length_map]; omega)]
theorem cut_last (xs : List Str) : cutV (xs.map V.str) none (some (-1)) = xs.dropLast.map V.str := by
  unfold cutV
  have e : HT.sIx xs.length xs.length (some (-1)) = xs.length - 1 := by
    show (if (-1 : Int) < 0 then ((-1 : Int) + (xs.length : Int)).toNat else min (-1 : Int).toNat xs.length) = _
    rw [if_pos (by decide)]
    omega
  rw [HT.sIx_none, List.length_map, e, List.drop_zero, List.map_dropLast, List.dropLast_eq_take, List.length_map]
  rfl
theorem mk_falls (z : List Str) (c : Nat) : (sm0 z c).falls = false := by simp [SM.falls, sm0]
theorem mk_ahead (z : List Str) (c : Nat) (row : Str) : (sm0 z c).ahead row = sm0 z c := by
  unfold SM.ahead
  rw [if_neg (fun h => by rw [mk_falls] at h; exact Bool.false_ne_true h.1)]
theorem mk_after (z : List Str) (c : Nat) (f : List Str → List Str) : (sm0 z c).after f = (sm0 (f z) (c + 1), none) := by
  unfold SM.after SM.begin
  rw [if_neg (by rw [mk_falls]; exact Bool.false_ne_true)]
  rfl
theorem Inv6.draw {C : Addr} {H H1 : Hp} {d cl : Addr} {ns : List Int} {n n1 : Nat} {aS aL aC : Addr} {p l r : Nat → Addr} {z : Nat → List Str} {cc c : Nat → Nat} {m : Nat} (I : Inv6 C H d cl ns n aS aL aC p l r z cc c m) (f : Fr [d] H H1) (P : Pen H1 d cl ns n1) : Inv6 C H1 d cl ns n1 aS aL aC p l r z cc c m := by
  have nd := I.nd
  simp only [List.nodup_cons, List.mem_cons, List.mem_nil_iff, not_or] at nd
  refine ⟨P, f _ _ ?_ I.hS, f _ _ ?_ I.hL, f _ _ ?_ I.hC, fun i hi => (I.st i hi).fr f ?_ ?_, fun i hi => f _ _ ?_ (I.rr i hi), I.ok, I.sz, I.nd, I.np, I.pp, I.ll, I.rl⟩
  · simp [Ne.symm nd.1.2.1]
  · simp [Ne.symm nd.1.2.2.1]
  · simp [Ne.symm nd.1.2.2.2.1]
  · have h := (I.np i hi).1
    simp at h
    simp [h.1]
  · have h := (I.np i hi).2.1
    simp at h
    simp [h.1]
  · have h := (I.np i hi).2.2
    simp at h
    simp [h.1]
/-- a step of store k -/
theorem Inv6.turn {C : Addr} {H H1 : Hp} {d cl : Addr} {ns : List Int} {n n1 : Nat} {aS aL aC : Addr} {p l r : Nat → Addr} {z : Nat → List Str} {c : Nat → Nat} {m : Nat} (I : Inv6 C H d cl ns n aS aL aC p l r z c c m) {k : Nat} (hk : k < 2) {r1 : Addr} {z1 : List Str}
    (f : Fr [d, aL, p k, l k] H H1) (P : Pen H1 d cl ns n1) (hL : H1 aL = some (.lst ((l2 fun i => .ref (r i)).set k (.ref r1)))) (nr : H r1 = none) (hr : H1 r1 = some (.lst (z1.map V.str))) (st : StAt C H1 (p k) (l k) (sm0 z1 (c k + 1)))
    (ok : Ok z1) (sz : z1.length ≤ m + 1) : Inv6 C H1 d cl ns n1 aS aL aC p l (up r k r1) (up z k z1) c (up c k (c k + 1)) (m + 1) := by
  have nd := I.nd
  simp only [List.nodup_cons, List.mem_cons, List.mem_nil_iff, not_or] at nd
  have nk := I.np k hk
  simp only [List.mem_cons, List.mem_nil_iff, not_or] at nk
  obtain ⟨⟨xa, xb, hd, _⟩, hc, _⟩ := I.pen
  refine ⟨P, f _ _ ?_ I.hS, ?_, f _ _ ?_ I.hC, fun i hi => ?_, fun i hi => ?_, fun i hi => ?_, fun i hi => ?_, I.nd, fun i hi => ?_, I.pp, I.ll, fun i j hi hj => ?_⟩
  · simp [Ne.symm nd.1.2.1, nd.2.2.1.1, Ne.symm nk.1.2.2.1, Ne.symm nk.2.1.2.2.1]
  · rw [hL, l2_set _ _ hk, up_ref]
  · simp [Ne.symm nd.1.2.2.2.1, Ne.symm nd.2.2.2.1.1, Ne.symm nk.1.2.2.2.2.1, Ne.symm nk.2.1.2.2.2.2.1]
  · by_cases e : i = k
    · rw [e, up_at, up_at]
      exact st
    · rw [up_ne e, up_ne e]
      have ni := I.np i hi
      simp only [List.mem_cons, List.mem_nil_iff, not_or] at ni
      refine (I.st i hi).fr f ?_ ?_
      · simp [ni.1.1, ni.1.2.2.2.1, two_ne I.pp hi hk e, Ne.symm (I.rl k i hk hi).2.2]
      · simp [ni.2.1.1, ni.2.1.2.2.2.1, two_ne I.ll hi hk e, (I.rl i k hi hk).2.2]
  · by_cases e : i = k
    · rw [e, up_at, up_at]
      exact hr
    · rw [up_ne e, up_ne e]
      have ni := I.np i hi
      simp only [List.mem_cons, List.mem_nil_iff, not_or] at ni
      refine f _ _ ?_ (I.rr i hi)
      simp [ni.2.2.1, ni.2.2.2.2.2.1, (I.rl i k hi hk).1, (I.rl i k hi hk).2.1]
  · by_cases e : i = k
    · rw [e, up_at]
      exact ok
    · rw [up_ne e]
      exact I.ok i hi
  · by_cases e : i = k
    · rw [e, up_at]
      exact sz
    · rw [up_ne e]
      exact Nat.le_succ_of_le (I.sz i hi)
  · have ni := I.np i hi
    refine ⟨ni.1, ni.2.1, ?_⟩
    by_cases e : i = k
    · rw [e, up_at]
      simp [(ne_of_none hd nr).symm, (ne_of_none hc nr).symm, (ne_of_none I.hS nr).symm, (ne_of_none I.hL nr).symm, (ne_of_none I.hC nr).symm]
    · rw [up_ne e]
      exact ni.2.2
  · have nj := I.rl i j hi hj
    refine ⟨?_, ?_, nj.2.2⟩
    · by_cases e : i = k
      · rw [e, up_at]
        exact (ne_of_none (I.st j hj).rows nr).symm
      · rw [up_ne e]
        exact nj.1
    · by_cases e : i = k
      · rw [e, up_at]
        obtain ⟨dx, hx⟩ := (I.st j hj).ins
        exact (ne_of_none hx nr).symm
      · rw [up_ne e]
        exact nj.2.1
/-- the count of store k -/
theorem Inv6.count {C : Addr} {H : Hp} {d cl : Addr} {ns : List Int} {n : Nat} {aS aL aC : Addr} {p l r : Nat → Addr} {z : Nat → List Str} {cc c : Nat → Nat} {m : Nat} (I : Inv6 C H d cl ns n aS aL aC p l r z cc c m) {k : Nat} (hk : k < 2) {x : Nat} :
    Inv6 C (upd H aC (.lst ((l2 fun i => .int (cc i : Int)).set k (.int (x : Int))))) d cl ns n aS aL aC p l r z (up cc k x) c m := by
  have nd := I.nd
  simp only [List.nodup_cons, List.mem_cons, List.mem_nil_iff, not_or] at nd
  have f : Fr [aC] H (upd H aC (.lst ((l2 fun i => .int (cc i : Int)).set k (.int (x : Int))))) := fr_upd (by simp)
  refine ⟨I.pen.fr f (by simp [nd.1.2.2.2.1]) (by simp [nd.2.1.2.2.1]), f _ _ (by simp [nd.2.2.1.2.1]) I.hS, f _ _ (by simp [nd.2.2.2.1.1]) I.hL, ?_, fun i hi => ?_, fun i hi => ?_, I.ok, I.sz, I.nd, I.np, I.pp, I.ll, I.rl⟩
  · rw [upd_same, l2_set _ _ hk, up_int]
  · have ni := I.np i hi
    simp only [List.mem_cons, List.mem_nil_iff, not_or] at ni
    exact (I.st i hi).fr f (by simp [ni.1.2.2.2.2.1]) (by simp [ni.2.1.2.2.2.2.1])
  · have ni := I.np i hi
    simp only [List.mem_cons, List.mem_nil_iff, not_or] at ni
    exact f _ _ (by simp [ni.2.2.2.2.2.2.1]) (I.rr i hi)
section
variable {P : Program} {w : World} {K : PySem.W.Frag} {mg : Str → Option Value} {base : Heap}
theorem ok_law {C : Addr} (T : StoreT K mg C)
    {f fP fD fT fIs fI fW fL fC fR fS fU fF fB e0 : Addr} {fd fdP fdD fdT fdIs fdI fdW fdL fdC fdR fdS fdU fdF fdB : FuncData}
    (F : FnP K "law" sLaw f fd) (FP : FnP K "_law_pen" sPen fP fdP) (gP : mg "_law_pen" = some (.ref fP)) (FD : FnP K "_law_draw" sDraw fD fdD) (gD : mg "_law_draw" = some (.ref fD)) (FT : FnP K "_law_text" sText fT fdT) (gT : mg "_law_text" = some (.ref fT))
    (FIs : FnP K "_law_is" sIs fIs fdIs) (gIs : mg "_law_is" = some (.ref fIs)) (MK : Mk K C fI) (FI : InitF K e0 fI fdI) (hE : ∀ H, SqT K H e0 [])
    (FW : MtP K "write" "Store.write" sWrite fW fdW) (mW : Meth K C "write" fW) (FL : MtP K "let_go" "Store.let_go" sLetGo fL fdL) (mL : Meth K C "let_go" fL) (FC : MtP K "cut" "Store.cut" sCut fC fdC) (mC : Meth K C "cut" fC)
    (FR : MtP K "rows" "Store.rows" sRows fR fdR) (mR : Meth K C "rows" fR) (FS : MtP K "steps" "Store.steps" sSteps fS fdS) (mS : Meth K C "steps" fS) (FU : MtP K "is_up" "Store.is_up" sIsUp fU fdU) (mU : Meth K C "is_up" fU)
    (FF : MtP K "_falls_now" "Store._falls_now" sFalls fF fdF) (mF : Meth K C "_falls_now" fF) (FB : MtP K "_begin_step" "Store._begin_step" sBegin fB fdB) (mB : Meth K C "_begin_step" fB)
    (ml : mg "len" = none) (ma : mg "abs" = none) (mr : mg "range" = none) (mt : mg "tuple" = none) (mm : mg "min" = none) : FnOk P w K mg base CX0 5 f fd ["script"] (spLaw K) := by
  have bP : Binds K fdP ["script"] [] := FP.bindsN fun _ _ _ _ _ _ us hl => match us, hl with | [_], _ => rfl
  have bD : Binds K fdD ["pen", "many"] [] := FD.bindsN fun _ _ _ _ _ _ us hl => match us, hl with | [_, _], _ => rfl
  have bT : Binds K fdT ["pen"] [] := FT.bindsN fun _ _ _ _ _ _ us hl => match us, hl with | [_], _ => rfl
  have bIs : Binds K fdIs ["store", "a_rows", "many"] [] := FIs.bindsN fun _ _ _ _ _ _ us hl => match us, hl with | [_, _, _], _ => rfl
  have bW : Binds K fdW ["self", "row"] [] := FW.bindsN fun _ _ _ _ _ _ us hl => match us, hl with | [_, _], _ => rfl
  have bL : Binds K fdL ["self", "many"] [] := FL.bindsN fun _ _ _ _ _ _ us hl => match us, hl with | [_, _], _ => rfl
  have bC : Binds K fdC ["self"] [] := FC.bindsN fun _ _ _ _ _ _ us hl => match us, hl with | [_], _ => rfl
  obtain ⟨ds2, v2, b2⟩ := bindR FI
  obtain ⟨ds0, v0, b0⟩ := bind0 FI
  obtain ⟨kg, kgV, bK, eK⟩ := bindK FI
  have GP : FnOk P w K mg base CX0 1 fP fdP ["script"] (spPen K) := ok_pen FP
  have GD : FnOk P w K mg base CX0 1 fD fdD ["pen", "many"] spDraw := ok_draw FD ml ma mr
  have GT : FnOk P w K mg base CX0 2 fT fdT ["pen"] spText := ok_text FT FD gD GD mr
  have GIs : FnOk P w K mg base CX0 2 fIs fdIs ["store", "a_rows", "many"] (spIs K C) := ok_is T FIs FR mR FS mS FU mU
  have GI : FnOk P w K mg base CX0 1 fI fdI ["self", "rows", "fall", "signs"] (spInit K C) := ok_init T FI
  have GW : FnOk P w K mg base CX0 4 fW fdW ["self", "row"] (spWrite C) := ok_write T FW FF mF FB mB
  have GL : FnOk P w K mg base CX0 4 fL fdL ["self", "many"] (spLetGo C) := ok_letgo T FL FF mF FB mB
  have GC : FnOk P w K mg base CX0 4 fC fdC ["self"] (spCut C) := ok_cut T FC FF mF FB mB
  refine F.ok scLaw (fun vs H Q E h => ?_) (fun cdv A outer s H vs Q E hr h => ?_)
  · obtain ⟨a, ns, rfl, _⟩ := h
    rfl
  · obtain ⟨a, ns0, rfl, hS0, hlen, q⟩ := h
    have hs := szl
    have hr1 : Room 1 _ := hr.mono (by decide)
    have hr2 : Room 2 _ := hr.mono (by decide)
    have hr4 : Room 4 _ := hr
    refine ⟨_, PSs.nox (pss_cons (ps_set (i := 1) scLaw.nd rfl (.inr rfl) (pe_call GP hr1 (by rfl) gP FP.kp bP .nil pass0 (pa_cons (pv 0) pa_nil)))
      (C8.pss_cut (ps_set (i := 3) scLaw.nd rfl (.inr rfl) (pe_lc (own := [("again", 12)]) (g := gName 12) (tt := tYes) rfl scLaw.nd (pi_range1 (by rfl) mr (pa_cons (pe_int) pa_nil)) (blkOk_by (own := [("again", 12)]) (N := ["script", "pen", "k", "lots", "handed", "stores", "counts", "step", "way", "told", "row", "many", "again", "a_rows", "j"]) (sc := (defScope sLaw)) (by decide +kernel)) (fun _ _ _ _ _ => pg_name (i := 12) scLaw.nd rfl (Or.inl rfl)) (fun _ _ _ _ _ => pts_nil) (fun _ _ _ _ _ => pe_lc (own := [("k", 2)]) (g := gName 2) (tt := tYes) rfl scLaw.nd (pi_range1 (by rfl) mr (pa_cons (pe_call GD hr1 (by rfl) gD FD.kp bD .nil pass0 (pa_cons (pv 1) (pa_cons (pe_int) pa_nil))) pa_nil)) (blkOk_rel (own := [("k", 2)]) (N := ["script", "pen", "k", "lots", "handed", "stores", "counts", "step", "way", "told", "row", "many", "again", "a_rows", "j"]) (sc := scA) (by decide +kernel)) (fun _ _ _ _ _ => pg_name (i := 2) scLaw.nd rfl (Or.inl rfl)) (fun _ _ _ _ _ => pts_nil) (fun _ _ _ _ _ => pe_call GT hr2 (by rfl) gT FT.kp bT .nil pass0 (pa_cons (pv 1) pa_nil)))))
      (C8.pss_cut (ps_setLc (i := 4) (own := [("a_rows", 13)]) (g := gName 13) (tt := tYes) rfl scLaw.nd rfl rfl (sw_true rfl rfl rfl (by decide +kernel)) (pi_list (pv 3)) (blkOk_by (own := [("a_rows", 13)]) (N := ["script", "pen", "k", "lots", "handed", "stores", "counts", "step", "way", "told", "row", "many", "again", "a_rows", "j"]) (sc := (defScope sLaw)) (by decide +kernel)) (fun _ _ _ _ _ => pg_name (i := 13) scLaw.nd rfl (Or.inl rfl)) (fun _ _ _ _ _ => pts_nil) (fun _ _ _ _ _ => pe_callTy (listOf (K := K) rfl) (by rfl) T.list PyProof.Rows.boot_list (pa_cons (pv 13) pa_nil)))
      (C8.pss_cut (ps_set (i := 5) scLaw.nd rfl (.inr rfl) (pe_lst (pa_cons (pe_make MK GI hr2 (by rfl) T.g b2 v2 pass0 (pa_cons (pe_ix ix_list (pv 4) (pe_int) (fun _ _ => rfl)) pa_nil)) (pa_cons (pe_makeK0 MK GI hr2 (by rfl) T.g bK pass0 (pk_cons (pe_callTy call_tuple_of (by rfl) mt PyProof.Rows.boot_tuple (pa_cons (pe_ix ix_list (pv 4) (pe_int) (fun _ _ => rfl)) pa_nil)) pk_nil)) pa_nil))))
      (pss_cons (ps_expr (pe_bm PySem.F.plainAttrs_list PySem.F.slot_list_append PySem.F.type_list_append mt_append (pe_ix ix_list (pv 4) (pe_int) (fun _ _ => rfl)) (pa_cons (pe_str) pa_nil)))
      (pss_cons (ps_set (i := 6) scLaw.nd rfl (.inr rfl) (pe_lst (pa_cons (pe_int) (pa_cons (pe_int) pa_nil))))
      (pss_cons (ps_for PassesOwn.never rfl (pi_range1 (by rfl) mr (pa_cons (pe_op op_add (pe_int) (pe_callB (call_min2 rfl) (by rfl) mm (by decide +kernel) (pa_cons (pe_int) (pa_cons (pe_callB call_len_seq (by rfl) ml PySem.boot_len (pa_cons (pv 0) pa_nil)) pa_nil)))) pa_nil)) (pg_name (i := 7) scLaw.nd rfl (.inl rfl)) (pss_cons (ps_set (i := 2) scLaw.nd rfl (.inl rfl) (pe_call GD hr1 (by rfl) gD FD.kp bD .nil pass0 (pa_cons (pv 1) (pa_cons (pe_int) pa_nil))))
      (pss_cons (ps_set (i := 8) scLaw.nd rfl (.inl rfl) (pe_call GD hr1 (by rfl) gD FD.kp bD .nil pass0 (pa_cons (pv 1) (pa_cons (pe_int) pa_nil))))
      (pss_cons (ps_set (i := 9) scLaw.nd rfl (.inl rfl) (pe_non))
      (C8.pss_cut (ps_if (PW.pt (pw_or (pt_cmpR op_lt (pv 8) (pe_int) (nomark _)) (pw_or1 (pt_cmpR (op_eqD hr.units) (pe_ix ix_list (pv 3) (pv 2) (fun _ _ => rfl)) (pe_lst pa_nil) (nomark _))))) (pss_cons (ps_set (i := 10) scLaw.nd rfl (.inl rfl) (pe_call GT hr2 (by rfl) gT FT.kp bT .nil pass0 (pa_cons (pv 1) pa_nil)))
      (pss_cons (ps_asg (pe_op op_cat (pe_ix ix_list (pv 3) (pv 2) (fun _ _ => rfl)) (pe_lst (pa_cons (pv 10) pa_nil))) (pg_sub (pv 3) (pv 2) set_list))
      (pss_one (ps_set (i := 9) scLaw.nd rfl (.inl rfl) (pe_meth (pe_ix ix_list (pv 5) (pv 2) (fun _ _ => rfl)) T.cl mW GW hr4 bW .nil pass0 (pa_cons (pv 10) pa_nil)))))) (pss_one (ps_if (pt_cmpR op_eq (pv 8) (pe_int) (nomark _)) (pss_cons (ps_set (i := 11) scLaw.nd rfl (.inl rfl) (pe_call GD hr1 (by rfl) gD FD.kp bD .nil pass0 (pa_cons (pv 1) (pa_cons (pe_op op_add (pe_callB call_len_seq (by rfl) ml PySem.boot_len (pa_cons (pe_ix ix_list (pv 3) (pv 2) (fun _ _ => rfl)) pa_nil)) (pe_int)) pa_nil))))
      (pss_cons (ps_asg (pe_slice sl_list (pe_ix ix_list (pv 3) (pv 2) (fun _ _ => rfl)) (po_some (pv 11)) po_none) (pg_sub (pv 3) (pv 2) set_list))
      (pss_one (ps_set (i := 9) scLaw.nd rfl (.inl rfl) (pe_meth (pe_ix ix_list (pv 5) (pv 2) (fun _ _ => rfl)) T.cl mL GL hr4 bL .nil pass0 (pa_cons (pv 11) pa_nil)))))) (pss_cons (ps_asg (pe_slice sl_list (pe_ix ix_list (pv 3) (pv 2) (fun _ _ => rfl)) po_none (po_some (pe_un un_neg pe_int))) (pg_sub (pv 3) (pv 2) set_list))
      (pss_one (ps_set (i := 9) scLaw.nd rfl (.inl rfl) (pe_meth0 (pe_ix ix_list (pv 5) (pv 2) (fun _ _ => rfl)) T.cl mC GC hr4 bC .nil pass0)))))))
      (pss_cons (ps_asg (pe_op op_add (pe_ix ix_list (pv 6) (pv 2) (fun _ _ => rfl)) (pe_int)) (pg_sub (pv 6) (pv 2) set_list))
      (pss_cons (ps_if (pt_cmpR op_notN (pv 9) (pe_non) (nomark _)) (pss_one (ps_ret (pe_bl))) pss_nil)
      (pss_one (ps_if (pt_cmpR (op_neD hr.units) (pe_lc (own := [("j", 14)]) (g := gName 14) (tt := _) rfl scLaw.nd (pi_range1 (by rfl) mr (pa_cons (pe_int) pa_nil)) (blkOk_by (own := [("j", 14)]) (N := ["script", "pen", "k", "lots", "handed", "stores", "counts", "step", "way", "told", "row", "many", "again", "a_rows", "j"]) (sc := (defScope sLaw)) (by decide +kernel)) (fun _ _ _ _ _ => pg_name (i := 14) scLaw.nd rfl (Or.inl rfl)) (fun _ _ _ _ _ => pts_one (pt_not (pt_val (pe_call GIs hr2 (by rfl) gIs FIs.kp bIs .nil pass0 (pa_cons (pe_ix (ixl (K := K) rfl) (pv 5) (pv 14) (fun _ _ => rfl)) (pa_cons (pe_ix (ixl (K := K) rfl) (pv 3) (pv 14) (fun _ _ => rfl)) (pa_cons (pe_ix (ixl (K := K) rfl) (pv 6) (pv 14) (fun _ _ => rfl)) pa_nil))))))) (fun _ _ _ _ _ => pv 14)) (pe_lst pa_nil) (nomark _)) (pss_one (ps_ret (pe_bl))) pss_nil)))))))))
      (pss_one (ps_ret (pe_call GIs hr2 (by rfl) gIs FIs.kp bIs .nil pass0 (pa_cons (pe_make0 MK GI hr2 (by rfl) T.g b0 v0 pass0) (pa_cons (pe_lst pa_nil) (pa_cons (pe_int) pa_nil))))))))))))), ?_⟩
    refine ⟨_, rfl, a, ns0, rfl, hS0, hlen, fun H1 d cl ns s1 d0 c0 P1 => ?_⟩
    refine ⟨fun σ' H' => ∃ (aL : Addr) (r : Nat → Addr) (z : Nat → List Str), σ' = [some (.ref a), some (.ref d), none, some (.ref aL), none, none, none, none, none, none, none, none, none, none, none] ∧ Pen H' d cl ns 56 ∧ Fr [d] H1 H' ∧ H1 aL = none ∧ H' aL = some (.lst (l2 fun i => .ref (r i))) ∧
        ∀ i, i < 2 → H1 (r i) = none ∧ r i ≠ aL ∧ H' (r i) = some (.lst ((z i).map V.str)) ∧ Ok (z i) ∧ (z i).length ≤ 3, ?_, ?_⟩
    · refine ⟨2, rfl, by decide, by decide, fun aL nL => ?_⟩
      have nLd : d ≠ aL := by
        obtain ⟨⟨xa, xb, hd1, _⟩, _, _⟩ := id P1
        exact ne_of_none hd1 nL
      have nLc : cl ≠ aL := ne_of_none P1.cs nL
      refine lc_range (lo := 0) (n := (2 : Int).toNat) (fun i H' => ∃ (r : Nat → Addr) (z : Nat → List Str), H' aL = some (.lst ((List.range i).map fun j => .ref (r j))) ∧ Fr [d, aL] H1 H' ∧ Pen H' d cl ns (28 * i) ∧
        ∀ j, j < i → H1 (r j) = none ∧ r j ≠ aL ∧ H' (r j) = some (.lst ((z j).map V.str)) ∧ Ok (z j) ∧ (z j).length ≤ 3)
        ⟨fun _ => 0, fun _ => [], upd_same, fr_upd (by simp), P1.fr (fr_new (S := []) nL) (by simp) (by simp), fun j hj => by omega⟩ ?_ ?_
      · rintro i H2 hi ⟨r, z, hL, f2, P2, hz⟩
        have hi2 : i < 2 := hi
        refine ⟨rfl, _, rfl, d, cl, ns, 4, _, rfl, P2, by omega, by decide, by decide, fun H3 k3 f3 P3 k30 k31 => ?_⟩
        obtain ⟨c, rfl⟩ := Int.eq_ofNat_of_zero_le k30
        refine ⟨_, rfl, by omega, by omega, fun D nD => ?_⟩
        have hL3 : H3 aL = _ := f3 _ _ (by simpa using nLd.symm) hL
        have nDd : d ≠ D := by
          obtain ⟨⟨xa, xb, hd3, _⟩, _, _⟩ := id P3
          exact ne_of_none hd3 nD
        have nDc : cl ≠ D := ne_of_none P3.cs nD
        have nDL : aL ≠ D := ne_of_none hL3 nD
        refine lc_range (lo := 0) (n := (c : Int).toNat) (fun j H' => ∃ zs : List Str, H' D = some (.lst (zs.map V.str)) ∧ zs.length = j ∧ Ok zs ∧ Fr [d, D] H3 H' ∧ Pen H' d cl ns (28 * i + 1 + 9 * j))
          ⟨[], upd_same, rfl, (fun _ h => by cases h), fr_upd (by simp), P3.fr (fr_new (S := []) nD) (by simp) (by simp)⟩ ?_ ?_
        · rintro j H4 hj ⟨zs, hD, hl, hk, f4, P4⟩
          have hj3 : j < 3 := by omega
          refine ⟨rfl, _, rfl, d, cl, ns, _, rfl, P4, by omega, fun H5 x f5 P5 x8 xk => ?_⟩
          refine ⟨_, f5 _ _ (by simpa using nDd.symm) hD, by rw [List.length_map]; omega, zs ++ [x], ?_, ?_, ?_, ?_, ?_⟩
          · rw [upd_same, List.map_append]
            rfl
          · rw [List.length_append, hl]
            rfl
          · intro y hy
            rcases List.mem_append.mp hy with h | h
            · exact hk y h
            · rw [List.mem_singleton.mp h]
              exact xk
          · exact (f4.trans (f5.mono (by simp))).trans (fr_upd (by simp))
          · exact (P5.fr (S := [D]) (fr_upd (by simp)) (by simpa using nDd) (by simpa using nDc)).mono (by omega)
        · rintro H4 ⟨zs, hD, hl, hk, f4, P4⟩
          have hlen3 : zs.length ≤ 3 := by omega
          have f24 : Fr [d] H2 H4 := f3.trans (f4.out nD (by simp))
          refine ⟨_, f24 _ _ (by simpa using nLd.symm) hL, by rw [List.length_map, List.length_range]; omega, up r i D, up z i zs, ?_, ?_, ?_, ?_⟩
          · rw [upd_same, rng_up r V.ref]
          · exact (f2.trans (f24.mono (by simp))).trans (fr_upd (by simp))
          · exact (P4.fr (S := [aL]) (fr_upd (by simp)) (by simpa using nLd) (by simpa using nLc)).mono (by omega)
          · intro j hj
            by_cases e : j = i
            · rw [e, up_at, up_at]
              refine ⟨(f2.trans (f3.mono (by simp))).free (by simp [nDd.symm, nDL.symm]) nD, nDL.symm, ?_, hk, hlen3⟩
              rw [upd_ne nDL.symm]
              exact hD
            · obtain ⟨e1, e2, e3, e4, e5⟩ := hz j (by omega)
              rw [up_ne e, up_ne e]
              refine ⟨e1, e2, ?_, e4, e5⟩
              rw [upd_ne e2]
              refine f24 _ _ ?_ e3
              have : r j ≠ d := fun x => by
                obtain ⟨⟨xa, xb, hd1, _⟩, _, _⟩ := id P1
                rw [x, hd1] at e1
                cases e1
              simpa using this
      · rintro H2 ⟨r, z, hL, f2, P2, hz⟩
        exact ⟨aL, r, z, rfl, P2, f2.out nL (by simp), nL, hL, fun i hi => hz i hi⟩
    · rintro σ' H2 ⟨aL, r, z, rfl, P2, f2, nL, hL, hz⟩
      have hd1 : H1 d ≠ none := by
        obtain ⟨⟨xa, xb, hd1, _⟩, _, _⟩ := id P1
        rw [hd1]
        exact fun h => by cases h
      have hc1 : H1 cl ≠ none := by
        rw [P1.cs]
        exact fun h => by cases h
      refine ⟨fun σ' H' => ∃ (aH : Addr) (hh : Nat → Addr), σ' = [some (.ref a), some (.ref d), none, some (.ref aL), some (.ref aH), none, none, none, none, none, none, none, none, none, none] ∧ Same H2 H' ∧ H2 aH = none ∧ H' aH = some (.lst (l2 fun i => .ref (hh i))) ∧
        ∀ i, i < 2 → H2 (hh i) = none ∧ hh i ≠ aH ∧ H' (hh i) = some (.lst ((z i).map V.str)), ?_, ?_⟩
      · refine ⟨_, rfl, aL, rfl, ⟨_, SqL.of hL⟩, fun D nD => ?_⟩
        have nDL : aL ≠ D := ne_of_none hL nD
        refine lc_list (K := K) (a := aL) (xs := l2 fun i => .ref (r i)) (fun i H' => ∃ hh : Nat → Addr, H' D = some (.lst ((List.range i).map fun j => .ref (hh j))) ∧ Fr [D] H2 H' ∧ ∀ j, j < i → H2 (hh j) = none ∧ hh j ≠ D ∧ H' (hh j) = some (.lst ((z j).map V.str)))
          ⟨fun _ => 0, upd_same, fr_upd (by simp), fun j hj => by omega⟩ (fun i H' _ ⟨_, _, f, _⟩ => SqL.of (f _ _ (by simpa using nDL) hL)) ?_ ?_
        · rintro i x H3 hx ⟨hh, hD, f3, hq⟩
          have hi2 : i < 2 := (List.getElem?_eq_some_iff.mp hx).1
          have ex : x = .ref (r i) := by
            rcases (by omega : i = 0 ∨ i = 1) with e | e
            · rw [e] at hx ⊢
              exact (Option.some.inj hx).symm
            · rw [e] at hx ⊢
              exact (Option.some.inj hx).symm
          obtain ⟨e1, e2, e3, e4, e5⟩ := hz i hi2
          have nrD : r i ≠ D := ne_of_none e3 nD
          refine ⟨rfl, _, rfl, r i, _, by rw [ex], .inl (SqL.of (f3 _ _ (by simpa using nrD) e3)), fun l nl => ?_⟩
          have nlD : D ≠ l := ne_of_none hD nl
          refine ⟨_, by rw [upd_ne nlD]; exact hD, by rw [List.length_map, List.length_range]; omega, up hh i l, ?_, ?_, ?_⟩
          · rw [upd_same, rng_up hh V.ref]
          · exact (f3.trans (fr_new nl)).trans (fr_upd (by simp))
          · intro j hj
            by_cases e : j = i
            · rw [e, up_at]
              refine ⟨f3.free (by simpa using nlD.symm) nl, nlD.symm, ?_⟩
              rw [upd_ne nlD.symm, upd_same]
            · obtain ⟨g1, g2, g3⟩ := hq j (by omega)
              rw [up_ne e]
              refine ⟨g1, g2, ?_⟩
              rw [upd_ne g2, upd_ne (ne_of_none g3 nl)]
              exact g3
        · rintro H3 ⟨hh, hD, f3, hq⟩
          exact ⟨D, hh, rfl, (f3.out nD (S := []) (by simp)).same, nD, hD, fun i hi => hq i hi⟩
      · rintro σ' H3 ⟨aH, hh, rfl, s3, nH, hH, hq⟩
        have f23 := fr_same (S := []) s3
        have hL3 : H3 aL = some (.lst (l2 fun i => .ref (r i))) := s3 _ _ hL
        have P3 : Pen H3 d cl ns 56 := P2.fr f23 (by simp) (by simp)
        refine ⟨fun σ' H' => ∃ (aS : Addr) (p l : Nat → Addr), σ' = [some (.ref a), some (.ref d), none, some (.ref aL), some (.ref aH), some (.ref aS), none, none, none, none, none, none, none, none, none] ∧ Same H3 H' ∧ H3 aS = none ∧
          (∀ i, i < 2 → H3 (p i) = none ∧ H3 (l i) = none ∧ aS ≠ p i ∧ aS ≠ l i ∧ StAt C H' (p i) (l i) (sm0 (z i) 0)) ∧ H' aS = some (.lst (l2 fun i => .ref (p i))) ∧ p 0 ≠ p 1 ∧ l 0 ≠ l 1, ?_, ?_⟩
        · obtain ⟨g1, g2, g3⟩ := hq 0 (by decide)
          obtain ⟨k1, k2, k3⟩ := hq 1 (by decide)
          obtain ⟨_, _, _, o0, z0⟩ := hz 0 (by decide)
          obtain ⟨_, _, _, o1, z1⟩ := hz 1 (by decide)
          refine ⟨_, rfl, aH, _, 0, .ref (hh 0), rfl, rfl, SqL.of hH, atI_nat (j := 0) rfl, fun x dx nx ndx ndne => ?_⟩
          have sx : Same H3 (upd (upd H3 dx (.own x)) x (.ins C dx [])) := fun b o e => by
            rw [upd_ne (ne_of_none e nx), upd_ne (ne_of_none e ndx)]
            exact e
          refine ⟨H3, x, dx, hh 0, z 0, none, 0, rfl, sx, nx, upd_same, .inl (SqL.of (sx _ _ g3)), by omega, fun H4 l0 s4 nl0 st0 => ⟨rfl, ?_⟩⟩
          refine ⟨_, rfl, aH, _, 1, .ref (hh 1), rfl, rfl, SqL.of (s4 _ _ hH), atI_nat (j := 1) rfl, hh 1, _, rfl, .inl ⟨SqL.of (s4 _ _ k3), fun t nt => ⟨rfl, rfl, fun y dy ny ndy ndyn => ?_⟩⟩⟩
          have st := same_upd (o := HO.tup ((z 1).map V.str)) nt
          have sy : Same (upd H4 t (.tup ((z 1).map V.str))) (upd (upd (upd H4 t (.tup ((z 1).map V.str))) dy (.own y)) y (.ins C dy [])) := fun b o e => by
            rw [upd_ne (ne_of_none e ny), upd_ne (ne_of_none e ndy)]
            exact e
          refine ⟨upd H4 t (.tup ((z 1).map V.str)), y, dy, t, z 1, none, 0, eK _ _, sy, ny, upd_same, .inr (SqT.of (sy _ _ upd_same)), by omega, fun H5 l1 s5 nl1 st1 => ⟨rfl, ?_⟩⟩
          refine ⟨by show 2 ≤ sizeLine; omega, fun aS nS => ?_⟩
          have s45 : Same H4 H5 := st.trans s5
          have s35 : Same H3 H5 := s4.trans s45
          have sS := same_upd (o := HO.lst (l2 fun i => .ref (if i = 0 then x else y))) nS
          have st05 : StAt C H5 x l0 (sm0 (z 0) 0) := st0.fr (fr_same (S := []) s45) (by simp) (by simp)
          obtain ⟨dx5, hx5⟩ := st05.ins
          obtain ⟨dy5, hy5⟩ := st1.ins
          obtain ⟨dx4, hx4⟩ := st0.ins
          have nx5 : x ≠ aS := ne_of_none hx5 nS
          have ny5 : y ≠ aS := ne_of_none hy5 nS
          have nl05 : l0 ≠ aS := ne_of_none st05.rows nS
          have nl15 : l1 ≠ aS := ne_of_none st1.rows nS
          have ny4 : H4 y = none := st.free ny
          have nl14 : H4 l1 = none := st.free nl1
          have nxy : x ≠ y := ne_of_none hx4 ny4
          have nll : l0 ≠ l1 := ne_of_none st0.rows nl14
          refine ⟨aS, fun i => if i = 0 then x else y, fun i => if i = 0 then l0 else l1, rfl, s35.trans sS, s35.free nS, ?_, ?_, ?_, ?_⟩
          · intro i hi
            rcases (by omega : i = 0 ∨ i = 1) with e | e
            · subst e
              refine ⟨nx, nl0, nx5.symm, nl05.symm, ?_⟩
              exact st05.fr (fr_same (S := []) sS) (by simp) (by simp)
            · subst e
              refine ⟨s4.free ny4, s4.free nl14, ny5.symm, nl15.symm, ?_⟩
              exact st1.fr (fr_same (S := []) sS) (by simp) (by simp)
          · exact upd_same
          · simpa using nxy
          · simpa using nll
        · rintro σ' H4 ⟨aS, p, l, rfl, s4, nS, hp, hS4, pp, ll⟩
          obtain ⟨g1, g2, g3⟩ := hq 0 (by decide)
          have hH4 := s4 _ _ hH
          have hg4 := s4 _ _ g3
          refine ⟨_, rfl, aH, _, 0, .ref (hh 0), rfl, rfl, SqL.of hH4, atI_nat (j := 0) rfl, .inl ⟨rfl, _, SqL.of hg4⟩, hh 0, _, _, rfl, rfl, hg4, by rw [List.length_map]; have := (hz 0 (by decide)).2.2.2.2; omega, ?_⟩
          have fh : Fr [hh 0] H4 (upd H4 (hh 0) (.lst ((z 0).map V.str ++ [.str "more"]))) := fr_upd (by simp)
          generalize (upd H4 (hh 0) (.lst ((z 0).map V.str ++ [.str "more"]))) = H5 at fh
          refine ⟨by show 2 ≤ sizeLine; omega, fun aC nC => ?_⟩
          have sC := same_upd (o := HO.lst (l2 fun i => V.int (((fun _ => 0 : Nat → Nat) i : Nat) : Int))) nC
          have sH : Same H H2 := (((fr_same (S := [d]) s1).trans f2).out d0 (S := []) (by simp)).same
          have hd2 : ∀ b o, H2 b = some o → b ∉ [hh 0] := fun b o e => by
            have := ne_of_none e g1
            simpa using this
          have s25 : Same H2 H5 := fun b o e => fh _ _ (hd2 b o e) (s4 _ _ (s3 _ _ e))
          have nkS : aS ≠ hh 0 := (ne_of_none g3 nS).symm
          have hSq : SqL K (upd H5 aC (.lst (l2 fun i => V.int (((fun _ => 0 : Nat → Nat) i : Nat) : Int)))) a (ns0.map V.int) := (sH.trans (s25.trans sC)).seq hS0
          have I0 : Inv6 C (upd H5 aC (.lst (l2 fun i => V.int (((fun _ => 0 : Nat → Nat) i : Nat) : Int)))) d cl ns 100 aS aL aC p l r z (fun _ => 0) (fun _ => 0) 3 := by
            obtain ⟨⟨xa, xb, hdd, _⟩, hcc, _⟩ := id P2
            have dS : d ≠ aS := ne_of_none (s3 _ _ hdd) nS
            have cS : cl ≠ aS := ne_of_none (s3 _ _ hcc) nS
            have dL : d ≠ aL := fun e => hd1 (by rw [e]; exact nL)
            have cL : cl ≠ aL := fun e => hc1 (by rw [e]; exact nL)
            have LS : aL ≠ aS := ne_of_none hL3 nS
            have dC : d ≠ aC := ne_of_none (s25 _ _ hdd) nC
            have cC : cl ≠ aC := ne_of_none (s25 _ _ hcc) nC
            have LC : aL ≠ aC := ne_of_none (s25 _ _ hL) nC
            have hS5 := fh _ _ (by simpa using nkS) hS4
            have SC : aS ≠ aC := ne_of_none hS5 nC
            have ph : ∀ i, i < 2 → p i ≠ hh 0 ∧ l i ≠ hh 0 := fun i hi => by
              obtain ⟨q1, q2, _⟩ := hp i hi
              exact ⟨(ne_of_none g3 q1).symm, (ne_of_none g3 q2).symm⟩
            have st5 : ∀ i, i < 2 → StAt C H5 (p i) (l i) (sm0 (z i) 0) := fun i hi => (hp i hi).2.2.2.2.fr fh (by simpa using (ph i hi).1) (by simpa using (ph i hi).2)
            refine ⟨(P2.fr (fr_same (S := []) (s25.trans sC)) (by simp) (by simp)).mono (by omega), sC _ _ hS5, sC _ _ (s25 _ _ hL), upd_same, fun i hi => (st5 i hi).fr (fr_same (S := []) sC) (by simp) (by simp), fun i hi => sC _ _ (s25 _ _ (hz i hi).2.2.1), fun i hi => (hz i hi).2.2.2.1, fun i hi => (hz i hi).2.2.2.2, ?_, fun i hi => ?_, pp, ll, fun i j hi hj => ?_⟩
            · simp [dS, cS, dL, cL, LS.symm, dC, cC, LC, SC, P2.ne.symm]
            · obtain ⟨q1, q2, q3, q4, q5⟩ := hp i hi
              obtain ⟨w1, w2, w3, _, _⟩ := hz i hi
              obtain ⟨dxi, hxi⟩ := (st5 i hi).ins
              have e1 : p i ≠ d := (ne_of_none (s3 _ _ hdd) q1).symm
              have e2 : p i ≠ cl := (ne_of_none (s3 _ _ hcc) q1).symm
              have e3 : p i ≠ aL := (ne_of_none hL3 q1).symm
              have e4 : p i ≠ aC := ne_of_none hxi nC
              have e5 : l i ≠ d := (ne_of_none (s3 _ _ hdd) q2).symm
              have e6 : l i ≠ cl := (ne_of_none (s3 _ _ hcc) q2).symm
              have e7 : l i ≠ aL := (ne_of_none hL3 q2).symm
              have e8 : l i ≠ aC := ne_of_none (st5 i hi).rows nC
              have e9 : r i ≠ d := fun e => hd1 (by rw [← e]; exact w1)
              have e10 : r i ≠ cl := fun e => hc1 (by rw [← e]; exact w1)
              have e11 : r i ≠ aS := ne_of_none (s3 _ _ w3) nS
              have e12 : r i ≠ aC := ne_of_none (s25 _ _ w3) nC
              simp [e1, e2, e3, e4, e5, e6, e7, e8, e9, e10, e11, e12, w2, Ne.symm q3, Ne.symm q4]
            · obtain ⟨q1, q2, q3, q4, q5⟩ := hp j hj
              obtain ⟨w1, w2, w3, _, _⟩ := hz i hi
              obtain ⟨dxj, hxj⟩ := (st5 j hj).ins
              exact ⟨ne_of_none (s3 _ _ w3) q2, ne_of_none (s3 _ _ w3) q1, ne_of (st5 i hi).rows hxj (by intro z; cases z)⟩
          have hf6 : ∃ H6, H6 = upd H5 aC (.lst (l2 fun i => V.int (((fun _ => 0 : Nat → Nat) i : Nat) : Int))) := ⟨_, rfl⟩
          obtain ⟨H6, e6⟩ := hf6
          have e6' : upd H5 aC (.lst [V.int 0, V.int 0]) = H6 := e6.symm
          rw [← e6] at I0 hSq
          show tSeq _ _ _ _ (upd H5 aC (.lst [V.int 0, V.int 0]))
          rw [e6']
          obtain ⟨mN, em, hm⟩ : ∃ m : Nat, (6 + (if (((ns0.map V.int).length : Nat) : Int) < 24 then (((ns0.map V.int).length : Nat) : Int) else 24)) = (m : Int) ∧ m ≤ 30 := by
            by_cases h : (((ns0.map V.int).length : Nat) : Int) < 24
            · rw [if_pos h]
              exact ⟨6 + (ns0.map V.int).length, by omega, by omega⟩
            · rw [if_neg h]
              exact ⟨30, by omega, by omega⟩
          refine ⟨_, rfl, a, _, rfl, .inl hSq, 24, _, rfl, 6, _, rfl, rfl, (mN : Int), congrArg (fun x => [V.int x]) em, by omega, by omega, ?_⟩
          refine for_range (lo := 0) (n := (mN : Int).toNat) (fun i σ H' => ∃ (v2 v7 v8 v9 v10 v11 : Option V) (r : Nat → Addr) (z : Nat → List Str) (c : Nat → Nat), σ = [some (.ref a), some (.ref d), v2, some (.ref aL), some (.ref aH), some (.ref aS), some (.ref aC), v7, v8, v9, v10, v11, none, none, none] ∧ Inv6 C H' d cl ns (100 + 20 * i) aS aL aC p l r z c c (3 + i))
            ⟨_, _, _, _, _, _, r, z, _, rfl, I0⟩ ?_ ?_
          · rintro i σ H5 hi ⟨v2, v7, v8, v9, v10, v11, r, z, c, rfl, I5⟩
            have hi30 : i < 30 := by omega
            refine ⟨_, rfl, d, cl, ns, 2, _, rfl, I5.pen, by omega, by decide, by decide, fun H6 k0 f6 P6 k00 k01 => ?_⟩
            obtain ⟨k, rfl⟩ := Int.eq_ofNat_of_zero_le k00
            have hk : k < 2 := by omega
            refine ⟨_, rfl, d, cl, ns, 4, _, rfl, P6, by omega, by decide, by decide, fun H7 w0 f7 P7 w00 w01 => ?_⟩
            have I7 := (I5.draw f6 P6).draw f7 P7
            refine ⟨fun σ' H' => ∃ (v8 v10 v11 : Option V) (r1 : Addr) (z1 : List Str), σ' = [some (.ref a), some (.ref d), some (.int (k : Int)), some (.ref aL), some (.ref aH), some (.ref aS), some (.ref aC), some (.int (0 + (i : Int))), v8, some .non, v10, v11, none, none, none] ∧
              Inv6 C H' d cl ns (100 + 20 * i + 20) aS aL aC p l (up r k r1) (up z k z1) c (up c k (c k + 1)) (3 + i + 1), ?_, ?_⟩
            · refine ⟨_, rfl, w0, 2, rfl, rfl, _, rfl, ite2 (fun e => ?_) (fun e => ?_)⟩
              · have sb : Same H7 H7 := fun _ _ e => e
                have PB : Pen H7 d cl ns (100 + 20 * i + 2) := P7.fr (fr_same (S := []) sb) (by simp) (by simp)
                have IB : Inv6 C H7 d cl ns (100 + 20 * i + 2) aS aL aC p l r z c c (3 + i) := I7.draw (fr_same sb) PB
                refine ⟨_, rfl, d, cl, ns, _, rfl, PB, by omega, fun H9 row f9 P9 r8 rok => ?_⟩
                have I9 := IB.draw f9 P9
                refine ⟨_, rfl, _, rfl, aL, _, (k : Int), .ref (r k), rfl, rfl, SqL.of I9.hL, atI_nat (j := k) (l2_get _ hk), _, rfl, by show 1 ≤ sizeLine; omega, fun q1 nq => ?_⟩
                have sq := same_upd (o := HO.lst [V.str row]) nq
                refine ⟨r k, q1, _, _, rfl, rfl, sq _ _ (I9.rr k hk), upd_same, by rw [List.length_map]; have := I9.sz k hk; show _ + 1 ≤ _; omega, fun r1 nr1 => ?_⟩
                have s1' := same_upd (o := HO.lst ((z k).map V.str ++ [V.str row])) nr1
                have hL9 := s1' _ _ (sq _ _ I9.hL)
                refine ⟨_, rfl, _, rfl, aL, _, (k : Int), k, rfl, rfl, hL9, l2_ix _ hk, ?_⟩
                obtain ⟨dxk, hxk⟩ := (I9.st k hk).ins
                have nkL : p k ≠ aL := fun e => (I9.np k hk).1 (by simp [e])
                have nlL : l k ≠ aL := fun e => (I9.np k hk).2.1 (by simp [e])
                have nSL : aS ≠ aL := fun e => by
                  have nd := I9.nd
                  simp [e] at nd
                have fL : Fr [aL] H9 (upd (upd (upd H9 q1 (.lst [V.str row])) r1 (.lst ((z k).map V.str ++ [V.str row]))) aL (.lst ((l2 fun i => .ref (r i)).set k (.ref r1)))) := (fr_same (sq.trans s1')).trans (fr_upd (by simp))
                have hr1 : (upd (upd (upd H9 q1 (.lst [V.str row])) r1 (.lst ((z k).map V.str ++ [V.str row]))) aL (.lst ((l2 fun i => .ref (r i)).set k (.ref r1)))) r1 = some (.lst ((z k).map V.str ++ [V.str row])) := by
                  rw [upd_ne (ne_of_none (sq _ _ I9.hL) nr1).symm, upd_same]
                have hLx : (upd (upd (upd H9 q1 (.lst [V.str row])) r1 (.lst ((z k).map V.str ++ [V.str row]))) aL (.lst ((l2 fun i => .ref (r i)).set k (.ref r1)))) aL = some (.lst ((l2 fun i => .ref (r i)).set k (.ref r1))) := upd_same
                generalize (upd (upd (upd H9 q1 (.lst [V.str row])) r1 (.lst ((z k).map V.str ++ [V.str row]))) aL (.lst ((l2 fun i => .ref (r i)).set k (.ref r1)))) = Ha at fL hr1 hLx
                refine ⟨_, rfl, _, rfl, aS, _, (k : Int), .ref (p k), rfl, rfl, SqL.of (fL _ _ (by simpa using nSL) I9.hS), atI_nat (j := k) (l2_get _ hk), p k, dxk, _, rfl, fL _ _ (by simpa using nkL) hxk, sf_no1 _ _ _ _ _, _, rfl, ?_⟩
                refine ⟨p k, l k, sm0 (z k) (c k), row, rfl, (I9.st k hk).fr fL (by simpa using nkL) (by simpa using nlL), by have := I9.sz k hk; show (z k).length ≤ 900; omega, by omega, ?_⟩
                rw [mk_ahead, mk_after]
                refine ⟨rfl, fun Hz fz sz => ?_⟩
                have nr9 : H9 r1 = none := sq.free nr1
                have npk : r1 ≠ p k := (ne_of_none hxk nr9).symm
                have nlk : r1 ≠ l k := (ne_of_none (I9.st k hk).rows nr9).symm
                refine ⟨_, _, _, r1, z k ++ [row], rfl, ?_⟩
                have nd9 : d ≠ p k ∧ d ≠ l k ∧ cl ≠ p k ∧ cl ≠ l k := by
                  have nk := I9.np k hk
                  simp only [List.mem_cons, List.mem_nil_iff, not_or] at nk
                  exact ⟨Ne.symm nk.1.1, Ne.symm nk.2.1.1, Ne.symm nk.1.2.1, Ne.symm nk.2.1.2.1⟩
                have ndL : d ≠ aL ∧ cl ≠ aL := by
                  have nd := I9.nd
                  simp only [List.nodup_cons, List.mem_cons, List.mem_nil_iff, not_or] at nd
                  exact ⟨nd.1.2.2.1, nd.2.1.2.1⟩
                refine I9.turn hk ((fL.mono (by simp)).trans (fz.mono (by simp))) (((P9.fr fL (by simp [ndL.1]) (by simp [ndL.2])).fr fz (by simp [nd9.1, nd9.2.1]) (by simp [nd9.2.2.1, nd9.2.2.2])).mono (m := 100 + 20 * i + 20) (by omega)) (fz _ _ (by simp [Ne.symm nkL, Ne.symm nlL]) hLx) nr9 (by
                  rw [List.map_append]
                  exact fz _ _ (by simp [npk, nlk]) hr1) sz (fun y hy => by
                  rcases List.mem_append.mp hy with h | h
                  · exact I9.ok k hk y h
                  · rw [List.mem_singleton.mp h]
                    exact rok) (by
                  have := I9.sz k hk
                  rw [List.length_append]
                  show _ + 1 ≤ _
                  omega)
              · refine ⟨_, rfl, _, rfl, aL, _, (k : Int), .ref (r k), rfl, rfl, SqL.of I7.hL, atI_nat (j := k) (l2_get _ hk), Nat.zero_le _, fun q0 nq0 => ?_⟩
                refine ⟨.list ((z k).map PyData.str), .list [], .lst (SqL.of (same_upd nq0 _ _ (I7.rr k hk))) (dpAll_strs _), .lst (SqL.of upd_same) .nil, shaped_strs (I7.ok k hk), by decide +kernel, _, rfl, ite2 (fun e2 => ?_) (fun e2 => ?_)⟩
                · have sb : Same H7 (upd H7 q0 (.lst [])) := same_upd nq0
                  have PB : Pen (upd H7 q0 (.lst [])) d cl ns (100 + 20 * i + 2) := P7.fr (fr_same (S := []) sb) (by simp) (by simp)
                  have IB : Inv6 C (upd H7 q0 (.lst [])) d cl ns (100 + 20 * i + 2) aS aL aC p l r z c c (3 + i) := I7.draw (fr_same sb) PB
                  refine ⟨_, rfl, d, cl, ns, _, rfl, PB, by omega, fun H9 row f9 P9 r8 rok => ?_⟩
                  have I9 := IB.draw f9 P9
                  refine ⟨_, rfl, _, rfl, aL, _, (k : Int), .ref (r k), rfl, rfl, SqL.of I9.hL, atI_nat (j := k) (l2_get _ hk), _, rfl, by show 1 ≤ sizeLine; omega, fun q1 nq => ?_⟩
                  have sq := same_upd (o := HO.lst [V.str row]) nq
                  refine ⟨r k, q1, _, _, rfl, rfl, sq _ _ (I9.rr k hk), upd_same, by rw [List.length_map]; have := I9.sz k hk; show _ + 1 ≤ _; omega, fun r1 nr1 => ?_⟩
                  have s1' := same_upd (o := HO.lst ((z k).map V.str ++ [V.str row])) nr1
                  have hL9 := s1' _ _ (sq _ _ I9.hL)
                  refine ⟨_, rfl, _, rfl, aL, _, (k : Int), k, rfl, rfl, hL9, l2_ix _ hk, ?_⟩
                  obtain ⟨dxk, hxk⟩ := (I9.st k hk).ins
                  have nkL : p k ≠ aL := fun e => (I9.np k hk).1 (by simp [e])
                  have nlL : l k ≠ aL := fun e => (I9.np k hk).2.1 (by simp [e])
                  have nSL : aS ≠ aL := fun e => by
                    have nd := I9.nd
                    simp [e] at nd
                  have fL : Fr [aL] H9 (upd (upd (upd H9 q1 (.lst [V.str row])) r1 (.lst ((z k).map V.str ++ [V.str row]))) aL (.lst ((l2 fun i => .ref (r i)).set k (.ref r1)))) := (fr_same (sq.trans s1')).trans (fr_upd (by simp))
                  have hr1 : (upd (upd (upd H9 q1 (.lst [V.str row])) r1 (.lst ((z k).map V.str ++ [V.str row]))) aL (.lst ((l2 fun i => .ref (r i)).set k (.ref r1)))) r1 = some (.lst ((z k).map V.str ++ [V.str row])) := by
                    rw [upd_ne (ne_of_none (sq _ _ I9.hL) nr1).symm, upd_same]
                  have hLx : (upd (upd (upd H9 q1 (.lst [V.str row])) r1 (.lst ((z k).map V.str ++ [V.str row]))) aL (.lst ((l2 fun i => .ref (r i)).set k (.ref r1)))) aL = some (.lst ((l2 fun i => .ref (r i)).set k (.ref r1))) := upd_same
                  generalize (upd (upd (upd H9 q1 (.lst [V.str row])) r1 (.lst ((z k).map V.str ++ [V.str row]))) aL (.lst ((l2 fun i => .ref (r i)).set k (.ref r1)))) = Ha at fL hr1 hLx
                  refine ⟨_, rfl, _, rfl, aS, _, (k : Int), .ref (p k), rfl, rfl, SqL.of (fL _ _ (by simpa using nSL) I9.hS), atI_nat (j := k) (l2_get _ hk), p k, dxk, _, rfl, fL _ _ (by simpa using nkL) hxk, sf_no1 _ _ _ _ _, _, rfl, ?_⟩
                  refine ⟨p k, l k, sm0 (z k) (c k), row, rfl, (I9.st k hk).fr fL (by simpa using nkL) (by simpa using nlL), by have := I9.sz k hk; show (z k).length ≤ 900; omega, by omega, ?_⟩
                  rw [mk_ahead, mk_after]
                  refine ⟨rfl, fun Hz fz sz => ?_⟩
                  have nr9 : H9 r1 = none := sq.free nr1
                  have npk : r1 ≠ p k := (ne_of_none hxk nr9).symm
                  have nlk : r1 ≠ l k := (ne_of_none (I9.st k hk).rows nr9).symm
                  refine ⟨_, _, _, r1, z k ++ [row], rfl, ?_⟩
                  have nd9 : d ≠ p k ∧ d ≠ l k ∧ cl ≠ p k ∧ cl ≠ l k := by
                    have nk := I9.np k hk
                    simp only [List.mem_cons, List.mem_nil_iff, not_or] at nk
                    exact ⟨Ne.symm nk.1.1, Ne.symm nk.2.1.1, Ne.symm nk.1.2.1, Ne.symm nk.2.1.2.1⟩
                  have ndL : d ≠ aL ∧ cl ≠ aL := by
                    have nd := I9.nd
                    simp only [List.nodup_cons, List.mem_cons, List.mem_nil_iff, not_or] at nd
                    exact ⟨nd.1.2.2.1, nd.2.1.2.1⟩
                  refine I9.turn hk ((fL.mono (by simp)).trans (fz.mono (by simp))) (((P9.fr fL (by simp [ndL.1]) (by simp [ndL.2])).fr fz (by simp [nd9.1, nd9.2.1]) (by simp [nd9.2.2.1, nd9.2.2.2])).mono (m := 100 + 20 * i + 20) (by omega)) (fz _ _ (by simp [Ne.symm nkL, Ne.symm nlL]) hLx) nr9 (by
                    rw [List.map_append]
                    exact fz _ _ (by simp [npk, nlk]) hr1) sz (fun y hy => by
                    rcases List.mem_append.mp hy with h | h
                    · exact I9.ok k hk y h
                    · rw [List.mem_singleton.mp h]
                      exact rok) (by
                    have := I9.sz k hk
                    rw [List.length_append]
                    show _ + 1 ≤ _
                    omega)
                · have IB : Inv6 C (upd H7 q0 (.lst [])) d cl ns (100 + 20 * i + 2) aS aL aC p l r z c c (3 + i) := I7.draw (fr_same (same_upd nq0)) (P7.fr (fr_same (S := []) (same_upd nq0)) (by simp) (by simp))
                  have PB := IB.pen
                  generalize (upd H7 q0 (.lst [])) = HB at IB PB
                  refine ⟨_, rfl, rfl, _, rfl, ite2 (fun e3 => ?_) (fun e3 => ?_)⟩
                  · refine ⟨_, rfl, _, rfl, _, rfl, aL, _, (k : Int), .ref (r k), rfl, rfl, SqL.of IB.hL, atI_nat (j := k) (l2_get _ hk), r k, _, rfl, .inl (SqL.of (IB.rr k hk)), _, 1, rfl, rfl, d, cl, ns, _, _, rfl, PB, by omega, by omega, by rw [List.length_map]; have := IB.sz k hk; omega, fun H9 m9 f9 P9 m90 m91 => ?_⟩
                    obtain ⟨j, rfl⟩ := Int.eq_ofNat_of_zero_le m90
                    have I9 := IB.draw f9 P9
                    refine ⟨_, rfl, _, rfl, aL, _, (k : Int), .ref (r k), rfl, rfl, SqL.of I9.hL, atI_nat (j := k) (l2_get _ hk), _, rfl, (j : Int), rfl, r k, _, rfl, SqL.of (I9.rr k hk), fun r1 nr1 => ?_⟩
                    rw [cut_drop]
                    have s1' := same_upd (o := HO.lst (((z k).drop j).map V.str)) nr1
                    have hL9 := s1' _ _ I9.hL
                    refine ⟨_, rfl, _, rfl, aL, _, (k : Int), k, rfl, rfl, hL9, l2_ix _ hk, ?_⟩
                    obtain ⟨dxk, hxk⟩ := (I9.st k hk).ins
                    have nkL : p k ≠ aL := fun e => (I9.np k hk).1 (by simp [e])
                    have nlL : l k ≠ aL := fun e => (I9.np k hk).2.1 (by simp [e])
                    have nSL : aS ≠ aL := fun e => by
                      have nd := I9.nd
                      simp [e] at nd
                    have fL : Fr [aL] H9 (upd (upd H9 r1 (.lst (((z k).drop j).map V.str))) aL (.lst ((l2 fun i => .ref (r i)).set k (.ref r1)))) := (fr_same s1').trans (fr_upd (by simp))
                    have hr1 : (upd (upd H9 r1 (.lst (((z k).drop j).map V.str))) aL (.lst ((l2 fun i => .ref (r i)).set k (.ref r1)))) r1 = some (.lst (((z k).drop j).map V.str)) := by
                      rw [upd_ne (ne_of_none I9.hL nr1).symm, upd_same]
                    have hLx : (upd (upd H9 r1 (.lst (((z k).drop j).map V.str))) aL (.lst ((l2 fun i => .ref (r i)).set k (.ref r1)))) aL = some (.lst ((l2 fun i => .ref (r i)).set k (.ref r1))) := upd_same
                    generalize (upd (upd H9 r1 (.lst (((z k).drop j).map V.str))) aL (.lst ((l2 fun i => .ref (r i)).set k (.ref r1)))) = Ha at fL hr1 hLx
                    refine ⟨_, rfl, _, rfl, aS, _, (k : Int), .ref (p k), rfl, rfl, SqL.of (fL _ _ (by simpa using nSL) I9.hS), atI_nat (j := k) (l2_get _ hk), p k, dxk, _, rfl, fL _ _ (by simpa using nkL) hxk, sf_no2 _ _ _ _ _, _, rfl, ?_⟩
                    refine ⟨p k, l k, sm0 (z k) (c k), j, rfl, (I9.st k hk).fr fL (by simpa using nkL) (by simpa using nlL), ?_⟩
                    rw [mk_after]
                    refine ⟨rfl, fun Hz fz sz => ?_⟩
                    have npk : r1 ≠ p k := (ne_of_none hxk nr1).symm
                    have nlk : r1 ≠ l k := (ne_of_none (I9.st k hk).rows nr1).symm
                    refine ⟨_, _, _, r1, ((z k).drop j), rfl, ?_⟩
                    have nd9 : d ≠ p k ∧ d ≠ l k ∧ cl ≠ p k ∧ cl ≠ l k := by
                      have nk := I9.np k hk
                      simp only [List.mem_cons, List.mem_nil_iff, not_or] at nk
                      exact ⟨Ne.symm nk.1.1, Ne.symm nk.2.1.1, Ne.symm nk.1.2.1, Ne.symm nk.2.1.2.1⟩
                    have ndL : d ≠ aL ∧ cl ≠ aL := by
                      have nd := I9.nd
                      simp only [List.nodup_cons, List.mem_cons, List.mem_nil_iff, not_or] at nd
                      exact ⟨nd.1.2.2.1, nd.2.1.2.1⟩
                    refine I9.turn hk ((fL.mono (by simp)).trans (fz.mono (by simp))) (((P9.fr fL (by simp [ndL.1]) (by simp [ndL.2])).fr fz (by simp [nd9.1, nd9.2.1]) (by simp [nd9.2.2.1, nd9.2.2.2])).mono (m := 100 + 20 * i + 20) (by omega)) (fz _ _ (by simp [Ne.symm nkL, Ne.symm nlL]) hLx) nr1
                      (fz _ _ (by simp [npk, nlk]) hr1) sz (fun y hy => I9.ok k hk y (List.mem_of_mem_drop hy)) (by
                      have := I9.sz k hk
                      rw [List.length_drop]
                      omega)
                  · refine ⟨_, rfl, _, rfl, aL, _, (k : Int), .ref (r k), rfl, rfl, SqL.of IB.hL, atI_nat (j := k) (l2_get _ hk), _, rfl, -1, rfl, r k, _, rfl, SqL.of (IB.rr k hk), fun r1 nr1 => ?_⟩
                    rw [cut_last]
                    have s1' := same_upd (o := HO.lst ((z k).dropLast.map V.str)) nr1
                    have hL9 := s1' _ _ IB.hL
                    refine ⟨_, rfl, _, rfl, aL, _, (k : Int), k, rfl, rfl, hL9, l2_ix _ hk, ?_⟩
                    obtain ⟨dxk, hxk⟩ := (IB.st k hk).ins
                    have nkL : p k ≠ aL := fun e => (IB.np k hk).1 (by simp [e])
                    have nlL : l k ≠ aL := fun e => (IB.np k hk).2.1 (by simp [e])
                    have nSL : aS ≠ aL := fun e => by
                      have nd := IB.nd
                      simp [e] at nd
                    have fL : Fr [aL] HB (upd (upd HB r1 (.lst ((z k).dropLast.map V.str))) aL (.lst ((l2 fun i => .ref (r i)).set k (.ref r1)))) := (fr_same s1').trans (fr_upd (by simp))
                    have hr1 : (upd (upd HB r1 (.lst ((z k).dropLast.map V.str))) aL (.lst ((l2 fun i => .ref (r i)).set k (.ref r1)))) r1 = some (.lst ((z k).dropLast.map V.str)) := by
                      rw [upd_ne (ne_of_none IB.hL nr1).symm, upd_same]
                    have hLx : (upd (upd HB r1 (.lst ((z k).dropLast.map V.str))) aL (.lst ((l2 fun i => .ref (r i)).set k (.ref r1)))) aL = some (.lst ((l2 fun i => .ref (r i)).set k (.ref r1))) := upd_same
                    generalize (upd (upd HB r1 (.lst ((z k).dropLast.map V.str))) aL (.lst ((l2 fun i => .ref (r i)).set k (.ref r1)))) = Ha at fL hr1 hLx
                    refine ⟨_, rfl, _, rfl, aS, _, (k : Int), .ref (p k), rfl, rfl, SqL.of (fL _ _ (by simpa using nSL) IB.hS), atI_nat (j := k) (l2_get _ hk), p k, dxk, _, rfl, fL _ _ (by simpa using nkL) hxk, sf_no3 _ _ _ _ _, ?_⟩
                    refine ⟨p k, l k, sm0 (z k) (c k), rfl, (IB.st k hk).fr fL (by simpa using nkL) (by simpa using nlL), ?_⟩
                    rw [mk_after]
                    refine ⟨rfl, fun Hz fz sz => ?_⟩
                    have npk : r1 ≠ p k := (ne_of_none hxk nr1).symm
                    have nlk : r1 ≠ l k := (ne_of_none (IB.st k hk).rows nr1).symm
                    refine ⟨_, _, _, r1, (z k).dropLast, rfl, ?_⟩
                    have nd9 : d ≠ p k ∧ d ≠ l k ∧ cl ≠ p k ∧ cl ≠ l k := by
                      have nk := IB.np k hk
                      simp only [List.mem_cons, List.mem_nil_iff, not_or] at nk
                      exact ⟨Ne.symm nk.1.1, Ne.symm nk.2.1.1, Ne.symm nk.1.2.1, Ne.symm nk.2.1.2.1⟩
                    have ndL : d ≠ aL ∧ cl ≠ aL := by
                      have nd := IB.nd
                      simp only [List.nodup_cons, List.mem_cons, List.mem_nil_iff, not_or] at nd
                      exact ⟨nd.1.2.2.1, nd.2.1.2.1⟩
                    refine IB.turn hk ((fL.mono (by simp)).trans (fz.mono (by simp))) (((PB.fr fL (by simp [ndL.1]) (by simp [ndL.2])).fr fz (by simp [nd9.1, nd9.2.1]) (by simp [nd9.2.2.1, nd9.2.2.2])).mono (m := 100 + 20 * i + 20) (by omega)) (fz _ _ (by simp [Ne.symm nkL, Ne.symm nlL]) hLx) nr1
                      (fz _ _ (by simp [npk, nlk]) hr1) sz (fun y hy => IB.ok k hk y (by rw [List.dropLast_eq_take] at hy; exact List.mem_of_mem_take hy)) (by
                      have := IB.sz k hk
                      rw [List.length_dropLast]
                      omega)
            · rintro σ' H8 ⟨v8, v10, v11, r1, z1, rfl, I8⟩
              refine ⟨_, rfl, _, rfl, aC, _, (k : Int), .int (c k : Int), rfl, rfl, SqL.of I8.hC, atI_nat (j := k) (l2_get _ hk), _, 1, rfl, rfl, ?_⟩
              refine ⟨_, rfl, _, rfl, aC, _, (k : Int), k, rfl, rfl, I8.hC, l2_ix _ hk, ?_⟩
              have I9 := I8.count hk (x := c k + 1)
              have e9 : (V.int (((c k + 1 : Nat)) : Int)) = V.int ((c k : Int) + 1) := by simp
              rw [e9] at I9
              generalize (upd H8 aC (.lst ((l2 fun i => .int (c i : Int)).set k (.int ((c k : Int) + 1))))) = H9 at I9
              refine ⟨_, rfl, rfl, _, rfl, iteF ?_⟩
              generalize up r k r1 = rr at I9
              generalize up z k z1 = zz at I9
              generalize up c k (c k + 1) = cc at I9
              refine ⟨2, rfl, by decide, by decide, fun D nD => ?_⟩
              refine lc_range (lo := 0) (n := (2 : Int).toNat) (fun i H' => H' D = some (.lst []) ∧ Fr [D] H9 H') ⟨upd_same, fr_upd (by simp)⟩ ?_ ?_
              · rintro j H10 hj ⟨hD, f10⟩
                have hj2 : j < 2 := hj
                have ej : (0 : Int) + (j : Int) = (j : Int) := by omega
                have nP := I9.np j hj2
                have out : ∀ b o, H9 b = some o → H10 b = some o := fun b o e => f10 _ _ (by simpa using ne_of_none e nD) e
                refine ⟨rfl, _, rfl, _, rfl, aS, _, (j : Int), .ref (p j), rfl, congrArg V.int ej, SqL.of (out _ _ I9.hS), atI_nat (j := j) (l2_get _ hj2), _, rfl, _, rfl, aL, _, (j : Int), .ref (rr j), rfl, congrArg V.int ej, SqL.of (out _ _ I9.hL), atI_nat (j := j) (l2_get _ hj2), _, rfl, _, rfl, aC, _, (j : Int), .int (cc j : Int), rfl, congrArg V.int ej, SqL.of (out _ _ I9.hC), atI_nat (j := j) (l2_get _ hj2), ?_⟩
                refine ⟨p j, l j, rr j, sm0 (zz j) (cc j), rfl, ?_, out _ _ (I9.rr j hj2), rfl, I9.ok j hj2, fun H11 s11 => ?_⟩
                · obtain ⟨⟨dx, h1⟩, h2, h3⟩ := I9.st j hj2
                  exact ⟨⟨dx, out _ _ h1⟩, out _ _ h2, h3⟩
                · exact ⟨_, rfl, iteF ⟨s11 _ _ hD, f10.trans (fr_same s11)⟩⟩
              · rintro H10 ⟨hD, f10⟩
                refine ⟨Nat.zero_le _, fun e1 ne1 => ⟨.list [], .list [], .lst (SqL.of (same_upd ne1 _ _ hD)) .nil, .lst (SqL.of upd_same) .nil, by decide +kernel, by decide +kernel, _, rfl, ?_⟩⟩
                have ee : (!PyData.eqv (.list []) (.list [])) = false := by decide +kernel
                rw [ee]
                have sm : Same H9 (upd H10 e1 (.lst [])) := ((f10.out nD (S := []) (by simp)).same).trans (same_upd ne1)
                refine iteF ⟨_, _, _, _, _, _, rr, zz, cc, rfl, ?_⟩
                exact I9.draw (fr_same sm) ((I9.pen.fr (fr_same (S := []) sm) (by simp) (by simp)).mono (by omega))
          · rintro σ H5 ⟨v2, v7, v8, v9, v10, v11, r, z, c, rfl, I5⟩
            intro x dx nx ndx ndne
            have sx : Same H5 (upd (upd H5 dx (.own x)) x (.ins C dx [])) := fun b o e => by
              rw [upd_ne (ne_of_none e nx), upd_ne (ne_of_none e ndx)]
              exact e
            refine ⟨H5, x, dx, e0, [], none, 0, rfl, sx, nx, upd_same, .inr (hE _), Nat.zero_le _, fun H6 l0 s6 nl0 st0 => ⟨rfl, ?_⟩⟩
            refine ⟨Nat.zero_le _, fun q1 nq1 => ?_⟩
            refine ⟨x, l0, q1, sm0 [] 0, rfl, st0.fr (fr_same (S := []) (same_upd nq1)) (by simp) (by simp), upd_same, rfl, (fun _ h => by cases h), fun H' _ => q H'⟩
end
end St6

set_option maxHeartbeats 0
namespace St6
open PySem PySem.Spec PyProof.Rows L2
def mkD (x : Str) (i : Nat) : He.DefD := ⟨(x, none), x, x, defArgs (top i), defBody (top i), defScope (top i), [], []⟩
def mkM (m q : Str) (st : Stmt) : He.DefD := ⟨("Store", some m), m, q, defArgs st, defBody st, defScope st, [], []⟩
def dInit : He.DefD := ⟨("Store", some "__init__"), "__init__", "Store.__init__", defArgs sInit, defBody sInit, defScope sInit, [.adr (He.dflAt ("Store", some "__init__") 0)], [("fall", .non), ("signs", .int 0)]⟩
def fn : List He.DefD := [mkD "_law_pen" 6, mkD "_law_draw" 7, mkD "_law_text" 8, mkD "_law_is" 9, mkD "law" 10, dInit, mkM "write" "Store.write" sWrite, mkM "let_go" "Store.let_go" sLetGo, mkM "cut" "Store.cut" sCut, mkM "rows" "Store.rows" sRows,
  mkM "steps" "Store.steps" sSteps, mkM "is_up" "Store.is_up" sIsUp, mkM "_falls_now" "Store._falls_now" sFalls, mkM "_begin_step" "Store._begin_step" sBegin]
def fa : List He.Fa := [.glo "_law_pen", .glo "_law_draw", .glo "_law_text", .glo "_law_is", .glo "law", .glo "Store", .cls "Store", .noat "Store" "_rows", .noat "Store" "_steps", .noat "Store" "_fall", .noat "Store" "_signs", .noat "Store" "_fell",
  .mkr "Store", .meth "Store" "write", .meth "Store" "let_go", .meth "Store" "cut", .meth "Store" "rows", .meth "Store" "steps", .meth "Store" "is_up", .meth "Store" "_falls_now", .meth "Store" "_begin_step",
  .free "len", .free "abs", .free "range", .free "list", .free "tuple", .free "min"]
def emB (K : PySem.W.Frag) (a : Addr) : Bool := match K.lookup a with
  | some ⟨.type c, _, .seq its _, _⟩ => decide (c = "tuple") && its.isEmpty
  | _ => false
theorem emB_ok {K : PySem.W.Frag} {a : Addr} (h : emB K a = true) (H : Hp) : SqT K H a [] := by
  unfold emB at h
  split at h
  · rename_i c od its n sl q
    obtain ⟨h1, h2⟩ := He.ba h
    have e1 : c = "tuple" := of_decide_eq_true h1
    have e2 : its = #[] := Array.isEmpty_iff.mp h2
    subst e1 e2
    exact .inr ⟨_, #[], n, q, rfl, rfl, Nat.zero_le _, .nil⟩
  · cases h
def ex (K : PySem.W.Frag) : Bool := emB K (He.dflAt ("Store", some "__init__") 0 K)
abbrev R : PySem.W.OpenRow := PySem.W.OpenLaw.row PySem.Challenge.rw_eventledger_k06_a_store_and_its_steps
abbrev hk : PySem.W.Hook := He.hookX 5 fa fn [] [] ex
def ob (s : PySem.W.SharedT) : He.AlX := He.obsX 5 fa fn [] [] ex (HandSHeadRun.getT s)
theorem ob_eq (s : PySem.W.SharedT) : ob s = hk.obs s.abs := He.obsX_eq (HandSHeadRun.getT_eq s)
abbrev loose : List Str := ["_wall", "Fell", "Store", "_law_pen", "_law_draw", "_law_text", "_law_is"]
theorem run (w : World) : HandSHeadRun.RunEq R (PySem.W.view R.prog [10]) hk ob 2000 loose w := by
  intro os
  kernel_rfl
theorem facts {P : Program} {w : World} {K : PySem.W.Frag} {h : Heap} {mg : Str → Option Value} {f : Addr} (X : K.In h) (G : h.Ns mainGlobals mg) (hfa : mg ("law" : Str) = some (.ref f)) (cx : He.SaysX fa fn [] [] ex w h K) :
    ∃ fd : FuncData, (∀ (s : Shared) (v : Value), BindsTo s fd ⟨[v], []⟩ [("script", v)]) ∧ ∀ base : Heap, K.In base → base.Ns mainGlobals mg → FnOk P w K mg base CX0 5 f fd ["script"] (spLaw K) := by
  have c := cx.t.d
  obtain ⟨fd0, F0⟩ := c.def_ 0 (d := mkD "_law_pen" 6) rfl
  obtain ⟨fd1, F1⟩ := c.def_ 1 (d := mkD "_law_draw" 7) rfl
  obtain ⟨fd2, F2⟩ := c.def_ 2 (d := mkD "_law_text" 8) rfl
  obtain ⟨fd3, F3⟩ := c.def_ 3 (d := mkD "_law_is" 9) rfl
  obtain ⟨fd, F⟩ := c.def_ 4 (d := mkD "law" 10) rfl
  obtain ⟨fd5, F5⟩ := c.def_ 5 (d := dInit) rfl
  obtain ⟨fd6, F6⟩ := c.def_ 6 (d := mkM "write" "Store.write" sWrite) rfl
  obtain ⟨fd7, F7⟩ := c.def_ 7 (d := mkM "let_go" "Store.let_go" sLetGo) rfl
  obtain ⟨fd8, F8⟩ := c.def_ 8 (d := mkM "cut" "Store.cut" sCut) rfl
  obtain ⟨fd9, F9⟩ := c.def_ 9 (d := mkM "rows" "Store.rows" sRows) rfl
  obtain ⟨fd10, F10⟩ := c.def_ 10 (d := mkM "steps" "Store.steps" sSteps) rfl
  obtain ⟨fd11, F11⟩ := c.def_ 11 (d := mkM "is_up" "Store.is_up" sIsUp) rfl
  obtain ⟨fd12, F12⟩ := c.def_ 12 (d := mkM "_falls_now" "Store._falls_now" sFalls) rfl
  obtain ⟨fd13, F13⟩ := c.def_ 13 (d := mkM "_begin_step" "Store._begin_step" sBegin) rfl
  have e := hfa.symm.trans (He.glo_ok X G (c.fact 4 (f := .glo "law") rfl))
  cases e
  have b := FunD.bindsA (ps := ["script"]) F fun _ _ _ _ _ _ us hl => match us, hl with | [_], _ => rfl
  have T : StoreT K mg (He.ga K "Store") := ⟨He.cls_ok (c.fact 6 (f := .cls "Store") rfl), He.noat_ok (c.fact 7 (f := .noat "Store" "_rows") rfl), He.noat_ok (c.fact 8 (f := .noat "Store" "_steps") rfl), He.noat_ok (c.fact 9 (f := .noat "Store" "_fall") rfl),
    He.noat_ok (c.fact 10 (f := .noat "Store" "_signs") rfl), He.noat_ok (c.fact 11 (f := .noat "Store" "_fell") rfl), He.glo_ok X G (c.fact 5 (f := .glo "Store") rfl), He.free_ok X G (c.fact 24 (f := .free "list") rfl)⟩
  exact ⟨fd, fun s v => b s [v] rfl, fun base _ _ => ok_law T F F0 (He.glo_ok X G (c.fact 0 (f := .glo "_law_pen") rfl)) F1 (He.glo_ok X G (c.fact 1 (f := .glo "_law_draw") rfl)) F2 (He.glo_ok X G (c.fact 2 (f := .glo "_law_text") rfl)) F3 (He.glo_ok X G (c.fact 3 (f := .glo "_law_is") rfl))
    (He.mkr_ok (c.fact 12 (f := .mkr "Store") rfl)) F5 (fun H => emB_ok cx.more H) F6 (He.meth_ok (c.fact 13 (f := .meth "Store" "write") rfl)) F7 (He.meth_ok (c.fact 14 (f := .meth "Store" "let_go") rfl)) F8 (He.meth_ok (c.fact 15 (f := .meth "Store" "cut") rfl))
    F9 (He.meth_ok (c.fact 16 (f := .meth "Store" "rows") rfl)) F10 (He.meth_ok (c.fact 17 (f := .meth "Store" "steps") rfl)) F11 (He.meth_ok (c.fact 18 (f := .meth "Store" "is_up") rfl)) F12 (He.meth_ok (c.fact 19 (f := .meth "Store" "_falls_now") rfl)) F13 (He.meth_ok (c.fact 20 (f := .meth "Store" "_begin_step") rfl))
    (He.free_ok X G (c.fact 21 (f := .free "len") rfl)) (He.free_ok X G (c.fact 22 (f := .free "abs") rfl)) (He.free_ok X G (c.fact 23 (f := .free "range") rfl)) (He.free_ok X G (c.fact 25 (f := .free "tuple") rfl)) (He.free_ok X G (c.fact 26 (f := .free "min") rfl))⟩
end St6
open PySem PySem.W PySem.Calls PyProof.Rows
theorem PySem.Challenge.cw_eventledger_k06_a_store_and_its_steps_holds : PySem.Challenge.rw_eventledger_k06_a_store_and_its_steps.Holds := by
  w_on; o_law
  refine HandSHeadRun.head_any (r := OpenLaw.row PySem.Challenge.rw_eventledger_k06_a_store_and_its_steps) (q := view (OpenLaw.row PySem.Challenge.rw_eventledger_k06_a_store_and_its_steps).prog [10]) (H := St6.hk) (ob := St6.ob) (M := 2000) (loose := St6.loose) (d := HandSHeadRun.topDef (OpenLaw.row PySem.Challenge.rw_eventledger_k06_a_store_and_its_steps).prog 10) (kwd := []) St6.ob_eq
    (by kernel_rfl) (fun s => by kernel_rfl) St6.run (by kernel_rfl) (by kernel_rfl) (by kernel_rfl) (by rfl) (by first | assumption | decide +kernel) (by decide +kernel) ⟨rfl, rfl, rfl, rfl, rfl, by decide +kernel⟩ ?hw ?hc
  case hw => w_witness2
  case hc =>
    refine L2.walk_ofE (l := PySem.Challenge.rw_eventledger_k06_a_store_and_its_steps) (n := 63) (k := 5) (x := "script") (CX := L2.CX0) rfl (by decide) (by kernel_rfl) ⟨rfl, by decide, by decide⟩ ?F (fun _ _ _ _ z => z)
    intro w mg fa h Y G hmg0
    obtain ⟨K, KX, c⟩ := Y
    have hmg : mg ("law" : PySem.Str) = some (.ref fa) := by
      have e : (HandSHeadRun.topDef (OpenLaw.row PySem.Challenge.rw_eventledger_k06_a_store_and_its_steps).prog 10).name = ("law" : PySem.Str) := by kernel_rfl
      rw [← e]
      exact hmg0
    obtain ⟨fd, hb, hF⟩ := St6.facts (P := (PySem.Challenge.rw_eventledger_k06_a_store_and_its_steps).prog) (w := w) KX G hmg c
    exact ⟨K, fd, St6.spLaw K, KX, hb, fun H a ns hl _ hS => ⟨a, ns, rfl, hS, hl, fun _ => rfl⟩, hF⟩
