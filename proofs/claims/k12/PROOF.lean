import PyProof.Rows.All
import Wide.All
import OpenK.AllK
import Wide.FinOn
import HandS.ForMost
import HandS.Strs
import HandS.SetBool
import HandS.SetKeys
import HandS.IsInst
import HandS.TupAny
import HandS.Defaults
import KE.KRevSl
import HandS.Style
import PyProof.FitsInt
import HandS.Walk
import HandS.StrMore
import HandS.FStr
import HandS.Replace
import HandS.ReplaceLit
import KE.GoesNew
import PyProof.Rows.StrRev
import KE.GoesEnumKw
import PyProof.Rows.CallKwBuiltin
import HandS.Zip
import HandS.Base
import HandS.Call
import HandS.List
import HandS.Dict
import HandS.Comp
import HandS.Iter
import HandS.More
import KE.KEqSeq
import HandS.Codes
import HandS.Text
import KE.IntTextLaws
import PyProof.Rows.StrDigitsNeg
import PyProof.Rows.StrCase
import HandS.TupMul
import KE.KStateDown
import HandS.Ends
import HandS.Words
import HandS.WordsExc
import HandS.Head0
import HandS.Head1
import HandS.Head2
import HandS.HeadEnd
import HandS.HeadHook1
import HandS.HeadHook2
import HandS.HeadHook3
import HandS.HeadHook4
import Lean
import PySem.Challenge.RW_eventledger_k12_values_that_fit
set_option Elab.async false
set_option linter.all false
set_option maxRecDepth 100000
set_option autoImplicit false
set_option maxHeartbeats 4000000
/-! sets of texts, some perhaps told several times: how many they have -/
namespace Ys
open PySem PySem.Spec PyProof.Rows L2
/-- how many unlike ones are among the first i -/
def cnt (xs : List Str) : Nat → Nat
  | 0 => 0
  | i + 1 => if (xs.take i).any (· == xs.getD i Str.empty) = true then cnt xs i else cnt xs i + 1
theorem cnt_le (xs : List Str) : ∀ i, cnt xs i ≤ i
  | 0 => Nat.le_refl _
  | i + 1 => by
    have := cnt_le xs i
    unfold cnt
    split <;> omega
theorem any_mem {xs : List Str} {x : Str} : xs.any (· == x) = true ↔ x ∈ xs := by
  rw [List.any_eq_true]
  exact ⟨fun ⟨y, h, e⟩ => by rw [← eq_of_beq e]; exact h, fun h => ⟨x, h, beq_self_eq_true x⟩⟩
theorem take_snoc {xs : List Str} {i : Nat} (h : i < xs.length) : xs.take (i + 1) = xs.take i ++ [xs.getD i Str.empty] := by
  rw [List.take_succ_eq_append_getElem h, List.getD_eq_getElem?_getD, List.getElem?_eq_getElem h]
  rfl
/-- as many as there are just where no one is told twice -/
theorem cnt_nodup (xs : List Str) : ∀ i, i ≤ xs.length → (cnt xs i = i ↔ (xs.take i).Nodup)
  | 0, _ => by simp [cnt]
  | i + 1, h => by
    have ih := cnt_nodup xs i (by omega)
    have le := cnt_le xs i
    rw [take_snoc (by omega)]
    unfold cnt
    by_cases c : (xs.take i).any (· == xs.getD i Str.empty) = true
    · rw [if_pos c]
      have hm := any_mem.mp c
      refine ⟨fun e => by omega, fun n => ?_⟩
      rw [List.nodup_append] at n
      exact absurd rfl (n.2.2 _ hm _ (List.mem_singleton.mpr rfl))
    · rw [if_neg c]
      have hm : xs.getD i Str.empty ∉ xs.take i := fun z => c (any_mem.mpr z)
      rw [List.nodup_append]
      refine ⟨fun e => ⟨ih.mp (by omega), List.nodup_cons.mpr ⟨by simp, List.nodup_nil⟩, fun a ha b hb e2 => ?_⟩, fun n => by rw [ih.mpr n.1]⟩
      rw [List.mem_singleton.mp hb] at e2
      exact hm (e2 ▸ ha)
theorem cnt_all {xs : List Str} : cnt xs xs.length = xs.length ↔ xs.Nodup := by
  have := cnt_nodup xs xs.length (Nat.le_refl _)
  rwa [List.take_length] at this
section
variable {prog : Program} {w : World} {A : Around} {R : Result → Shared → Prop} {I : Addr} {fp wr : List Addr} {G : Array GenState → Array GenState → Prop} {n : Nat} {P : Nat → Value → Prop} {St : Nat → Shared → Prop}
/-- a set of the texts that were met -/
abbrev Met (prog : Program) (w : World) (h : Heap) (S : Addr) (xs : List Str) (i : Nat) : Prop := h.SetOf (PySem.strKind prog w) S (fun k => (xs.take i).any (· == k)) (cnt xs i)
theorem Met.step {h h' : Heap} {S : Addr} {xs : List Str} {i : Nat} (hi : i < xs.length) (m : h'.SetOf (PySem.strKind prog w) S (fun j => (xs.take i).any (· == j) || decide (j = xs.getD i Str.empty)) (if (xs.take i).any (· == xs.getD i Str.empty) = true then cnt xs i else cnt xs i + 1)) : Met prog w h' S xs (i + 1) := by
  refine SetOf_congr m (fun k => ?_) rfl
  rw [take_snoc hi, List.any_append]
  by_cases e : k = xs.getD i Str.empty
  · rw [← e]
    simp
  · have e2 : (xs.getD i Str.empty == k) = false := by
      rw [beq_eq_false_iff_ne]
      exact fun z => e z.symm
    simp only [List.any_cons, List.any_nil, e2, Bool.or_false, decide_eq_false e]
theorem loopD (W : WalksS prog w A.in1 I fp wr G n P St) (S : Addr) (nS : S ∉ fp) (xs : List Str) (len : xs.length = n) (few : n < 4000)
    (val : ∀ i v, P i v → ∃ t, v = .str (xs.getD i Str.empty) t) (left : Nat) :
    ∀ (i : Nat) (s : Shared), n - i = left → i ≤ n → St i s → Met prog w s.heap S xs i →
      (∀ s', Moved (S :: wr) G s s' → Met prog w s'.heap S xs n → R (.ok (.ret .none)) s') →
      codeAny (model prog w) A (.builtin "set.update.loop" ⟨[.ref S, .ref I], []⟩) R s := by
  have nW : S ∉ wr := fun z => nS (W.sub _ z)
  have more : ∀ b ∈ wr, b ∈ S :: wr := fun b z => List.mem_cons_of_mem _ z
  have stays : ∀ {s s' : Shared} {i : Nat}, Moved wr G s s' → Met prog w s.heap S xs i → Met prog w s'.heap S xs i := fun m ⟨o, es, ep, t, ho, r⟩ => ⟨o, es, ep, t, m.heap S _ nW ho, r⟩
  induction left with
  | zero =>
    intro i s e hi st hS k
    obtain rfl : i = n := by omega
    refine codeAny_builtin PyProof.Rows.F.entry_set_update_loop ?_
    rw [Around.under_plainId PyProof.Rows.F.plain_set_update_loop _]
    show wpAny _ A.in1 (pyNext (.ref I) >>= _) _ _ s
    exact wpAny_bind (W.done s _ _ st fun s' m => (show wpAny _ A.in1 (ret Value.none) _ _ s' from wpAny_pure (k s' (m.mono more) (stays m hS))))
  | succ left ih =>
    intro i s e hi st hS k
    have lt : i < n := by omega
    refine codeAny_builtin PyProof.Rows.F.entry_set_update_loop ?_
    rw [Around.under_plainId PyProof.Rows.F.plain_set_update_loop _]
    show wpAny _ A.in1 (pyNext (.ref I) >>= _) _ _ s
    refine wpAny_bind (W.item i s _ _ lt st fun v s' hv st' m => ?_)
    obtain ⟨t, rfl⟩ := val i v hv
    have hS' := stays m hS
    show wpAny _ A.in1 (holding [Value.str (xs.getD i Str.empty) t] (setAdd S (.str (xs.getD i Str.empty) t)) >>= _) _ _ s'
    refine wpAny_bind (wpAny_holding ?_)
    unfold setAdd
    refine wpAny_holding (wpAny_bind ((PySem.strKind prog w).pyHash (k := xs.getD i Str.empty) (strKind_is _ _ _ _) ?_))
    have room : cnt xs i + 1 < scanBound := by
      have := cnt_le xs i
      unfold scanBound
      omega
    refine wpAny_setAddHashed_of (knd := PySem.strKind prog w) (s := { s' with toks := s'.toks + 1 }) (strKind_is _ _ _ _) rfl hS' room fun h' sb new => ?_
    have ahead : ∀ b, b ∈ fp → ∀ o, s'.heap.get? b = some o → h'.get? b = some o := fun b hb o q => by
      rw [sb.2 b (fun z : b = S => nS (z ▸ hb))]
      exact q
    refine wpAny_pure ⟨plainId_quiet PyProof.Rows.F.plain_set_update_loop _, ih (i + 1) _ (by omega) lt (W.frame _ s' _ _ st' (Nat.le_succ _) fun b hb o q => ahead b hb o q) (Met.step (h := s'.heap) (by omega) new) fun s2 m2 hS2 => ?_⟩
    refine k s2 (Moved.trans W.gtrans ((m.mono more).then_heap (Nat.le_succ _) fun b o hb q => ?_) m2) hS2
    rw [sb.2 b (fun z : b = S => hb (by rw [z]; exact List.mem_cons_self))]
    exact q
end
section
variable {prog : Program} {w : World} {A : Around} {E : Value → Shared → Prop} {s : Shared}
/-- set(xs), xs a list of texts -/
theorem set_of_texts {l : Addr} {items : Array Value} {xs : List Str} {Q : Value → Shared → Prop} (calm : A.handled = none) (hl : s.heap.IsList l items) (hi : StrsAre items.toList xs) (few : xs.length < 4000)
    (h : ∀ (h' : Heap) (tk : Nat), Met prog w h' s.heap.objs.size xs xs.length → (∀ b o, b < s.heap.objs.size → s.heap.get? b = some o → h'.get? b = some o) → Q (.ref s.heap.objs.size) { s with heap := h', toks := tk }) :
    wpAny (model prog w) A (call (.type "set") [.ref l]) Q E s := by
  have made := PySem.F.called_set.made
  have sub := PySem.F.called_set.sub
  obtain ⟨c, tl, mro⟩ := PySem.F.called_set.mro
  have k1 := PySem.F.called_set.notType
  have k2 := PySem.F.called_set.canCreate
  have k3 := PySem.F.typeCall_set_1 (.ref l)
  refine wpAny_call (codeAny_of_tree ?_)
  show wpAny _ _ (callAny (.type "set") _) _ _ _
  refine wpAny_pure ⟨Code.quiet_builtin _ (by decide +kernel), codeAny_builtin PySem.F.entry_type_call ?_⟩
  rw [Around.under_plain (weight_type_call_type "set" [.ref l] []) rfl]
  repeat (any_goals (first | assumption | wp_step))
  generalize hN : s.heap.objs.size = N at h ⊢
  refine codeAny_mono (code_set_new_1 (.ref l) (E := E) (Q₁ := fun x s1 => ∃ led : Bool, x = .ref N ∧ s1 = { s with heap := s.heap.push { cls := .type "set", dict := none, data := .set #[] 0 (.fresh 0 0 led) } }) fun led => ⟨led, by rw [hN], rfl⟩) fun r s1 hr => ?_
  cases r with
  | error e => exact hr
  | ok fl =>
    cases fl with
    | ret x =>
      obtain ⟨led, rfl, rfl⟩ := hr
      generalize hO : ({ cls := .type "set", dict := none, data := .set #[] 0 (.fresh 0 0 led) } : Obj) = O
      have at0 : (s.heap.push O).get? N = some O := by
        rw [← hN]
        exact Heap.get?_push_size _ (by rw [← hO]; rfl)
      have ty0 : Shared.TypeIs { s with heap := s.heap.push O } (.ref N) "set" := ⟨_, at0, by rw [← hO]⟩
      have i1 := PySem.F.called_set.init.lookup
      have i2 := PySem.F.called_set.init.bind (.ref N)
      repeat (any_goals (first | assumption | wp_step))
      refine codeAny_mono (codeAny_call_builtin (R := wants (fun r s2 => r = .none ∧ ∃ h' tk, s2 = { s with heap := h', toks := tk } ∧ Met prog w h' N xs xs.length ∧ (∀ b o, b < N → s.heap.get? b = some o → h'.get? b = some o)) E)
        PySem.F.called_set.init.plain PySem.F.entry_set_init (check_set_init_1 ty0 ?_)) fun r2 s2 hr2 => ?_
      · obtain ⟨⟨ocls, odict, odata, oslots⟩, hol, hcl, nl, hdl⟩ := id hl
        simp only at hcl hdl
        subst hcl hdl
        have lN : l < N := by
          rw [← hN]
          exact Heap.lt_size hol
        have hl1 : (s.heap.push O).IsList l items := hl.push _
        have hol1 : (s.heap.push O).get? l = some { cls := .type "list", dict := odict, data := .seq items nl, slots := oslots } := Heap.get?_push_of_some _ hol
        have q1 := PySem.F.sub_list_set
        have q2 := PySem.F.sub_list_frozenset
        have q3 : (Value.type "list" == Value.type "dict") = false := by decide
        have hIt : (s.heap.push O).objs.size = N + 1 := by rw [Heap.size_push, hN]
        have len : xs.length = items.size := by rw [← StrsAre.len_eq hi, Array.length_toList]
        have nf : N ∉ [(s.heap.push O).objs.size, l] := by
          rw [hIt]
          simp only [List.mem_cons, List.not_mem_nil, or_false, not_or]
          exact ⟨Nat.ne_of_lt (Nat.lt_succ_self _), Nat.ne_of_gt lN⟩
        have hne : l ≠ (s.heap.push O).objs.size := by
          rw [hIt]
          exact Nat.ne_of_lt (Nat.lt_succ_of_lt lN)
        have g := Heap.get?_push_of_some { cls := .type "list_iterator", data := .fields #[.ref l, .int 0 0] } at0
        have start : ∀ it : Obj, it = { cls := .type "list_iterator", data := .fields #[.ref l, .int 0 0] } → Met prog w ((s.heap.push O).push it) N xs 0 := fun it e => by
          subst e
          refine SetOf_congr (n := 0) ((setObjOf_fresh (knd := PySem.strKind prog w) led).setOf ?_ (by unfold scanBound; omega)) (fun _ => rfl) rfl
          rw [← hO] at g ⊢
          exact g
        subst hO
        unfold Builtin.«set.__init__» noKeywords Builtin.Frozenset.updateFrom
        generalize hW : pyIter = W
        wp_walk
        subst hW
        refine wpAny_pyIter_list hl1 ?_
        refine wpAny_bind (wpAny_runValue ?_)
        refine loopD ((Walks.list (by simp [calm]) _ l hne items).toS) N nf xs len (by omega) (fun i v hv => SS.strs_at hi i v (by rw [Array.getElem?_toList]; exact hv)) (items.size - 0) 0 _ (by omega) (Nat.zero_le _) ⟨⟨_, Heap.get?_push_size _ rfl, rfl, rfl⟩, hl1.push _⟩ ?_ ?_
        · exact start _ rfl
        · rintro ⟨h', g', d', tk', os'⟩ m m2
          obtain rfl : g' = s.gens := m.gens
          obtain rfl : d' = s.drawn := m.drawn
          obtain rfl : os' = s.os := m.os
          show wpAny _ _ _ _ _ _
          refine wpAny_pure ?_
          show wpAny _ _ (ret Value.none) _ _ _
          refine wpAny_pure ⟨rfl, h', tk', rfl, by rw [len]; exact m2, fun b o hb e => m.heap b o ?_ (Heap.get?_push_of_some _ (Heap.get?_push_of_some _ e))⟩
          rw [hIt]
          simp only [List.mem_cons, List.not_mem_nil, or_false, not_or]
          exact ⟨Nat.ne_of_lt hb, Nat.ne_of_lt (Nat.lt_succ_of_lt hb)⟩
      · cases r2 with
        | error e => exact hr2
        | ok fl2 =>
          cases fl2 with
          | ret y =>
            obtain ⟨rfl, h', tk, rfl, m, kk⟩ := hr2
            repeat (any_goals (first | assumption | wp_step))
            exact h _ _ m kk
          | _ => exact hr2.elim
    | _ => exact hr.elim
end
/-- len(set(xs)), xs a list of texts -/
def tLenSetD (K : PySem.W.Frag) (ta : TE) : TE := fun σ H Q => ta σ H fun x H1 => ∃ (l : Addr) (xs : List Str), x = .ref l ∧ SqL K H1 l (xs.map V.str) ∧ xs.length < 4000 ∧ Q (.int (cnt xs xs.length : Nat)) H1
theorem pe_lenSetD {X : Cx} {a : Expr} {ta : TE} {p p2 q pos : Pos} (hg : Gl X "len") (hm : X.mg "len" = none) (hg2 : Gl X "set") (hm2 : X.mg "set" = none) (ha : PE X a ta) (hc : X.calm = true := by rfl)
    (na : starEach [a] X.env = (false, eval a X.env) :: starEach [] X.env := by rfl) : PE X (.Call (.Name "len" p) [.Call (.Name "set" p2) [a] [] q] [] pos) (tLenSetD X.K ta) := by
  refine ⟨fun pins s σ H Q I h => ?_⟩
  refine Call_ (ld_blt I hg hm boot_len (PyProof.Rows.callWith_builtin1 (PyProof.Rows.args_cons ?_ rfl) rfl rfl))
  refine Call_ (ld_blt I hg2 hm2 boot_set (PyProof.Rows.callWith_type1 (PyProof.Rows.args_cons (thn (ha.run pins s σ H _ I h) fun v s1 ⟨x, H1, I1, r1, l, xs, e, hq, few, q1⟩ => PyProof.Rows.args_nil ?_) na) na rfl))
  subst e
  cases r1
  obtain ⟨its, r, pl, hz⟩ := I1.list hq
  refine set_of_texts (I1.ok.hd hc) pl.isList (by simpa using strsAre_of r) few fun h' tk ⟨o, es, ep, t, ho, hex, hd, _, _, _, hf, hn⟩ hk => PyProof.Rows.args_nil ?_
  have I2 : Inv X pins σ H1 { s1 with heap := h', toks := tk } := I1.kept fun b o e => hk b o (Heap.lt_size e) e
  have le := cnt_le xs xs.length
  exact call_len_set ho hex hd hf (by rw [hn] <;> omega) ⟨.int (cnt xs xs.length : Nat), H1, I2.tok _, ⟨_, by rw [hn]⟩, q1⟩
end Ys

set_option autoImplicit false
set_option maxHeartbeats 4000000
/-! a set of keys by a comprehension, and how many it has -/
namespace Ys
open PySem PySem.Spec PyProof.Rows L2 PpSet
/-- len(found), found a set of keys -/
theorem call_lenK {X : Cx} : CallR X (.builtin "len") (fun xs H Q => ∃ (a : Addr) (S : Key → Bool) (n : Nat), xs = [.ref a] ∧ H a = some (SetK X.prog X.w a S n) ∧ Q (.int (n : Nat)) H) := by
  intro pins s σ H xs us Q I r h
  obtain ⟨a, S, n, rfl, ha, q⟩ := h
  rw [Vals.ref1 r]
  obtain ⟨o, es, ep, t, ho, hex, hd, _, _, hb, hf, hn⟩ := setK_get I ha
  exact call_len_set ho hex hd hf (by rw [hn] at hb ⊢; unfold scanBound at hb; omega) ⟨.int (n : Nat), H, I.tok _, ⟨_, by rw [hn]⟩, q⟩
section
variable {X : Cx}
/-- one more key into the set at D -/
abbrev AddK (P : Program) (w : World) (D : Addr) (y : V) (H : Hp) (Nx : Hp → Prop) : Prop :=
  ∃ (k : Key) (S : Key → Bool) (n : Nat), y = kV k ∧ H D = some (SetK P w D S n) ∧ n + 1 < scanBound ∧ Nx (upd H D (SetK P w D (fun j => S j || decide (j = k)) (if S k = true then n else n + 1)))
/-- {elt for target in iter if ..} of keys, D the new set -/
def tScK (P : Program) (w : World) (wi : TI) (g : TG) (tt : TT) (te : TE) (vs : List Nat) : TE := fun σ H Q => wi σ H fun J H1 => ∀ D, H1 D = none → ∃ W : Nat → Nat → Hp → Prop, (∃ m, W 0 m (upd H1 D (SetK P w D (fun _ => false) 0))) ∧
  ∀ i m H, W i m H → (J.stop i H ∧ Q (.ref D) H) ∨ (J.go i H ∧ ∃ Nx : Hp → Prop, (∀ H', Nx H' → ∃ m', m' < m ∧ W (i + 1) m' H') ∧
    ∀ x H', J.yld i H x H' → g x (wipe σ vs) H' fun σ2 H2 => wipe σ2 vs = wipe σ vs ∧ tt σ2 H2 fun b H3 => if b = true then te σ2 H3 fun y H4 => AddK P w D y H4 Nx else Nx H3)
abbrev fresh (w : World) : Obj := { cls := .type "set", dict := none, data := .set #[] 0 (.fresh 0 0 (!w.params.followText "set-order")) }
theorem fresh_keys {P : Program} (w : World) (h : Heap) : (h.push (fresh w)).SetOf (mixKind P w) h.objs.size (fun _ => false) 0 :=
  ⟨fresh w, #[], 0, _, Heap.get?_push_size _ rfl, ⟨rfl, rfl, rfl⟩, rfl, (fun e he => by simp at he), (fun k => by simp), by decide, by rfl, rfl⟩
theorem pe_scK {elt tg iter : Expr} {ifs : List Expr} {scope : Scope} {own : List (PySem.Str × Nat)} {pos : Pos} {wi : TI} {g : TG} {tt : TT} {te : TE} (hc : X.calm = true) (hN : X.N.Nodup) (hi : PI X tg iter wi) (ok : BlkOk X.N X.env.scope scope own)
    (hg : ∀ (s : Shared) (H : Hp) (C : Addr) (cl : List (PySem.Str × Addr)) (fp : List Addr), PG (X.blk s H scope (compEnvC scope cl C X.env) fp) tg g)
    (ht : ∀ (s : Shared) (H : Hp) (C : Addr) (cl : List (PySem.Str × Addr)) (fp : List Addr), PTs (X.blk s H scope (compEnvC scope cl C X.env) fp) ifs tt)
    (he : ∀ (s : Shared) (H : Hp) (C : Addr) (cl : List (PySem.Str × Addr)) (fp : List Addr), PE (X.blk s H scope (compEnvC scope cl C X.env) fp) elt te)
    (hs : ∀ x, foldedSetIterable iter X.env x = pure x := by intro _; rfl) : PE X (.SetComp elt [⟨tg, iter, ifs, 0⟩] scope pos) (tScK X.prog X.w wi g tt te (own.map (·.2))) := by
  refine ⟨fun pins s σ H Q I h => ?_⟩
  rw [eval_SetComp]
  have cells : ∀ y ∈ scope.names, y.2 = .free → ∃ c, X.env.cells.lookup y.1 = some c := fun y hy e => (ok.free y hy e).elim (fun k => I.ok.has _ (.inl k)) (fun k => I.ok.has _ (.inr k))
  refine wpAny_comprehension_free rfl hs (closure_ok cells) ok.kind (fun y hy e => by rw [ok.uniq y hy, e]) (thn (hi.run pins s σ H _ I h) fun xv s1 hx => thn hx fun itv s2 ⟨it, fp, tn, J, H2, e, I2, T, st2, f2, q⟩ => ?_)
  subst e
  refine newSet_ok (newEnv_comp ?_)
  generalize hD : s2.heap.objs.size = D
  have free : H2 D = none := I2.hok.fresh (Nat.le_of_eq hD)
  obtain ⟨W, ⟨m0, w0⟩, turn⟩ := q D free
  generalize h3 : ({ s2 with heap := s2.heap.push (fresh X.w) } : Shared) = s3
  have heap3 : s3.heap = s2.heap.push (fresh X.w) := by rw [← h3]
  have I3 : Inv X pins σ (upd H2 D (SetK X.prog X.w D (fun _ => false) 0)) s3 := by
    rw [← h3]
    refine I2.laid (t' := s2.toks) (fun b o e => Heap.get?_push_of_some _ e) (Nat.le_of_eq hD) ?_
    rw [← hD]
    exact setK_new (fresh_keys X.w s2.heap)
  have f3 : ∀ b ∈ fp, FpOk X pins (upd H2 D (SetK X.prog X.w D (fun _ => false) 0)) b ∧ b < s3.heap.objs.size := fun b hb => by
    obtain ⟨o, e, _⟩ := T.obj _ _ st2 b hb
    have lt := Heap.lt_size e
    refine ⟨⟨?_, (f2 b hb).2⟩, by rw [heap3, Heap.size_push]; exact Nat.lt_succ_of_lt lt⟩
    rw [upd_ne (by rw [← hD]; exact Nat.ne_of_lt lt)]
    exact (f2 b hb).1
  have st3 : tn 0 s3.heap := T.keep _ _ _ st2 fun b _ o e => by rw [heap3]; exact Heap.get?_push_of_some _ e
  have I4 := block_start I3 ok hN f3
  generalize hC : s3.heap.objs.size = C at I4 f3 ⊢
  generalize hcl : cellsFrom (C + 1) scope.names (cloFrom X.env.cells scope.names []) = cl at I4 ⊢
  generalize hH : upd H2 D (SetK X.prog X.w D (fun _ => false) 0) = H3 at I3 I4 w0 f3
  have pg := hg s3 H3 C cl fp
  have pt := ht s3 H3 C cl fp
  have pe := he s3 H3 C cl fp
  have none3 : ∀ b ∈ fp, H3 b = none := fun b hb => (f3 b hb).1.1
  show codeAny _ _ (.compStart (.SetComp elt [⟨tg, iter, ifs, 0⟩] scope pos) 0 (.ref it) (.ref D) (compEnvC scope cl C X.env)) (compPost (model X.prog X.w) X.A X.xe none (fun v s' => EP X pins σ Q v s') (.ref D) C) { s3 with heap := pushCells (s3.heap.push { cls := .type "dict", data := .dict #[] }) scope.names }
  generalize hce : compEnvC scope cl C X.env = ce at I4 pg pt pe ⊢
  have cC : ce.locals = C := by rw [← hce]; rfl
  generalize hs4 : ({ s3 with heap := pushCells (s3.heap.push { cls := .type "dict", data := .dict #[] }) scope.names } : Shared) = s4 at I4 ⊢
  have st4 : tn 0 s4.heap := T.keep _ _ _ st3 fun b _ o e => by rw [← hs4]; exact pushCells_keeps _ _ _ _ (Heap.get?_push_of_some _ e)
  generalize hY : X.blk s3 H3 scope ce fp = Y at I4 pg pt pe
  have eY : Y.prog = X.prog ∧ Y.w = X.w ∧ Y.A = X.A := by rw [← hY]; exact ⟨rfl, rfl, rfl⟩
  have stat : ∀ {σ' : L2.St} {H' : Hp} {s' : Shared}, Inv Y [] σ' H' s' → (∀ b ∈ fp, H' b = none) → ∀ b ∈ fp, FpOk Y [] H' b := by
    subst hY
    exact fun {σ' H' s'} J' hn b hb => ⟨hn b hb, (J'.ok.exf b hb).1, J'.ok.exfs b hb, .inl hb, fun x c e => (J'.ok.exf b hb).2 x c e, fun p hp => absurd (show p ∈ ([] : List (Addr × Obj)) ++ [] from hp) (by simp)⟩
  subst hY
  have loop : codeAny (model X.prog X.w) X.A (.compLoop (.SetComp elt [⟨tg, iter, ifs, 0⟩] scope pos) 0 (.ref it) (.ref D) ce) (compPost (model X.prog X.w) X.A X.xe none (fun v s' => EP X pins σ Q v s') (.ref D) C) s4 := by
    refine compLoopS_any (fun n s' => ∃ i H', Inv (X.blk s3 H3 scope ce fp) [] (wipe σ (own.map (·.2))) H' s' ∧ tn i s'.heap ∧ (∀ b ∈ fp, H' b = none) ∧ W i n H') ?_ m0 ⟨0, H3, I4, st4, none3, w0⟩
    rintro n s5 ⟨i, H5, I5, st5, n5, w5⟩
    rcases turn i n H5 w5 with ⟨stop, out⟩ | ⟨go, Nx, down, step⟩
    · refine thnF (T.done (X.blk s3 H3 scope ce fp) rfl rfl rfl hc i [] s5 _ H5 (fun _ _ => False) I5 (stat I5 n5) st5 stop) fun r s6 ⟨hr, I6⟩ => ?_
      subst hr
      have I7 : Inv X pins σ H5 s6 := I3.call' (ch := fp) I6.os I6.base I6.hok I6.bare fun b hb => ⟨(f3 b hb).1.2.2.2.1, (f3 b hb).1.2.1, (f3 b hb).1.2.2.2.2.1, (f3 b hb).1.2.2.2.2.2⟩
      have noneC : H5 C = none := by
        rw [← cC]
        exact I6.free
      obtain ⟨m, hn, _⟩ := I6.loc
      have hn : s6.heap.Ns C m := by
        rw [← cC]
        exact hn
      obtain ⟨f0, f1, f2, f3, f4, f5⟩ := I3.fpOk (Nat.le_of_eq hC) noneC
      exact ⟨m, hn, fun h'' sb => ⟨.ref D, H5, I7.turned (t' := s6.toks) (fun b o hb e => (sb.2 b hb).trans e) f0 f1 f3 f4 f5, rfl, out⟩⟩
    · refine thnF (T.item (X.blk s3 H3 scope ce fp) rfl rfl rfl hc i [] s5 _ H5 (fun _ _ => False) I5 (stat I5 n5) st5 go) fun r s6 ⟨u, hr, h6⟩ => ?_
      subst hr
      refine thnF h6 fun _ s7 ⟨x, H7, I7, r7, y7, st7, n7⟩ => ?_
      refine thnF (pg.run _ s7 _ H7 x u _ (I7.pinned (stat I7 n7) (T.obj _ _ st7)) r7 (step x H7 y7)) fun _ s8 ⟨σ8, H8, I8, w8, q8⟩ => ?_
      refine thnF (pt.run _ s8 σ8 H8 _ I8 q8) fun b s9 ⟨H9, I9, q9⟩ => ?_
      have next : ∀ {s' : Shared} {H' : Hp}, Inv (X.blk s3 H3 scope ce fp) ([] ++ pinsAt fp s7.heap) σ8 H' s' → Nx H' → ∃ m, m < n ∧ ∃ i H', Inv (X.blk s3 H3 scope ce fp) [] (wipe σ (own.map (·.2))) H' s' ∧ tn i s'.heap ∧ (∀ b ∈ fp, H' b = none) ∧ W i m H' := fun {s' H'} J' nx => by
        obtain ⟨m', hm, w'⟩ := down H' nx
        have pin : ∀ b ∈ fp, ∀ o, s7.heap.get? b = some o → s'.heap.get? b = some o ∧ H' b = none := fun b hb o e =>
          have z := J'.pin (b, o) (List.mem_append_right _ (List.mem_append_right _ (mem_pinsAt hb e)))
          ⟨z.1, z.2.1⟩
        refine ⟨m', hm, i + 1, H', (J'.unpinned (pins := [])).weak (by rw [← w8, wipe_length]) (fun j v e => ?_), T.keep _ _ _ st7 fun b hb o e => (pin b hb o e).1, fun b hb => ?_, w'⟩
        · rw [← w8] at e
          exact (wipe_some e).1
        · obtain ⟨o, e, _⟩ := T.obj _ _ st7 b hb
          exact (pin b hb o e).2
      cases b with
      | false =>
        simp only [Bool.false_eq_true, if_false] at q9 ⊢
        exact next I9 q9
      | true =>
        simp only [if_true] at q9 ⊢
        refine thnF (pe.run _ s9 σ8 H9 _ I9 q9) fun z s10 ⟨yv, H10, I10, r10, k, S0, n0, ey, at10, room, nx⟩ => ?_
        subst ey
        exact mt_saddK (X := X.blk s3 H3 scope ce fp) _ s10 σ8 H10 (.ref D) [kV k] (.ref D) [z] (fun _ H' => Nx H') I10 rfl (.cons r10 .nil) ⟨D, k, S0, n0, rfl, rfl, at10, room, nx⟩ |> fun m => thnF m fun _ s11 ⟨_, H11, I11, _, nx⟩ => next I11 nx
  exact codeAny_compStart_set loop (T.self X.A 0 _ _ _ st4 loop)
end
end Ys

set_option autoImplicit false
set_option maxHeartbeats 2000000
/-! what a caller has of a def; slices and sums of several kinds of things -/
namespace Cc
open PySem PySem.Spec PyProof.Rows L2
structure Cl (P : Program) (w : World) (K : PySem.W.Frag) (mg : Str → Option Value) (base : Heap) (CX : CXT) (x : Str) (k : Nat) (ps : List Str) (sp : Sp) (f : Addr) (fd : FuncData) : Prop where
  ok : FnOk P w K mg base CX k f fd ps sp
  m : mg x = some (.ref f)
  kp : PySem.W.keepIn K (.ref f) = true
  b : Binds K fd ps []
/-- a tuple (t) or a list of xs -/
def Sq (t : Bool) (K : PySem.W.Frag) (H : Hp) (a : Addr) (xs : List V) : Prop := if t = true then SqT K H a xs else SqL K H a xs
theorem Sq.same {t : Bool} {K : PySem.W.Frag} {H H1 : Hp} {a : Addr} {xs : List V} (h : Sq t K H a xs) (s : Same H H1) : Sq t K H1 a xs := by
  cases t with
  | false => exact s.seq h
  | true =>
    rcases (show SqT K H a xs from h) with (h | ⟨o, h⟩) | h
    · exact (show SqT K H1 a xs from .inl (.inl (s _ _ h)))
    · exact (show SqT K H1 a xs from .inl (.inr ⟨o, s _ _ h⟩))
    · exact (show SqT K H1 a xs from .inr h)
/-- .., a list that stands by itself -/
def SqM (t : Bool) (K : PySem.W.Frag) (H : Hp) (a : Addr) (xs : List V) : Prop := if t = true then SqT K H a xs else H a = some (.lst xs)
theorem SqM.sq {t : Bool} {K : PySem.W.Frag} {H : Hp} {a : Addr} {xs : List V} (h : SqM t K H a xs) : Sq t K H a xs := by
  cases t with
  | false => exact (show SqL K H a xs from SqL.of h)
  | true => exact h
theorem SqM.same {t : Bool} {K : PySem.W.Frag} {H H1 : Hp} {a : Addr} {xs : List V} (h : SqM t K H a xs) (s : Same H H1) : SqM t K H1 a xs := by
  cases t with
  | false => exact s _ _ h
  | true => exact Sq.same (t := true) h s
theorem newS {H : Hp} {p : Addr} {o : HO} (h : H p = none) : Same H (upd H p o) := fun b x e => by
  rw [upd_ne (ne_of_none e h)]
  exact e
section
variable {X : Cx}
/-- a list or a tuple cut -/
def rSlB (K : PySem.W.Frag) : V → Option Int → Option Int → Hp → VK → Prop := fun x lo hi H Q => ∃ t a xs, x = .ref a ∧ Sq t K H a xs ∧ ∀ p H', Same H H' → SqM t K H' p (cutV xs lo hi) → Q (.ref p) H'
theorem whole_cut {xs : List V} {lo hi : Option Int} (h : HT.sIx xs.length 0 lo = 0 ∧ HT.sIx xs.length xs.length hi = xs.length) : cutV xs lo hi = xs := by
  unfold cutV
  rw [h.1, h.2, List.drop_zero, Nat.sub_zero, List.take_length]
theorem sl_B : SlR X (rSlB X.K) := by
  intro pins s σ H x v vl vu lo hi sl Q I rx hs pl pu h
  obtain ⟨t, a, xs, rfl, hx, q⟩ := h
  cases t with
  | false => exact sl_list pins s σ H _ v vl vu lo hi sl Q I rx hs pl pu ⟨a, xs, rfl, hx, fun p np => q p _ (newS np) (show _ = _ from upd_same)⟩
  | true => exact sl_tupA pins s σ H _ v vl vu lo hi sl Q I rx hs pl pu ⟨a, xs, rfl, hx, fun w => q a H (Same.refl H) (show SqT _ _ _ _ from by rw [whole_cut w]; exact hx), fun _ p np => q p _ (newS np) (show SqT _ _ _ _ from SqT.of upd_same)⟩
/-- a text, a list, a tuple cut -/
def rSlAny (K : PySem.W.Frag) : V → Option Int → Option Int → Hp → VK → Prop := fun x lo hi H Q => rSlS x lo hi H Q ∨ rSlB K x lo hi H Q
theorem sl_any : SlR X (rSlAny X.K) := sl_str.or sl_B
/-- two lists, or two tuples, put together -/
def rCatB (K : PySem.W.Frag) : R2 := fun x y H Q => ∃ t a b xs ys, x = .ref a ∧ y = .ref b ∧ SqM t K H a xs ∧ SqM t K H b ys ∧ xs.length + ys.length ≤ sizeLine ∧ ∀ p H', Same H H' → SqM t K H' p (xs ++ ys) → Q (.ref p) H'
theorem op_catB : OpR X (binaryOp .Add) (rCatB X.K) := by
  intro pins s σ H x y v u Q I rx ry h
  obtain ⟨t, a, b, xs, ys, rfl, rfl, ha, hb, hz, q⟩ := h
  cases t with
  | false => exact op_cat pins s σ H _ _ v u Q I rx ry ⟨a, b, xs, ys, rfl, rfl, ha, hb, hz, fun p np => q p _ (newS np) (show _ = _ from upd_same)⟩
  | true => exact op_catA pins s σ H _ _ v u Q I rx ry ⟨a, b, xs, ys, rfl, rfl, ha, hb, hz, fun e => q b H (Same.refl H) (show SqT _ _ _ _ from by rw [e]; exact hb),
      fun _ e => q a H (Same.refl H) (show SqT _ _ _ _ from by rw [e, List.append_nil]; exact ha), fun _ _ p np => q p _ (newS np) (show SqT _ _ _ _ from SqT.of upd_same)⟩
/-- two texts, or two lists, or two tuples -/
theorem op_addAny : OpR X (binaryOp .Add) (fun x y H Q => (∃ i j : Str, x = .str i ∧ y = .str j ∧ i.length + j.length ≤ sizeLine ∧ Q (.str (i ++ j)) H) ∨ rCatB X.K x y H Q) := by
  intro pins s σ H x y v u Q I rx ry h
  rcases h with h | h
  · exact op_add_str pins s σ H x y v u Q I rx ry h
  · exact op_catB pins s σ H x y v u Q I rx ry h
/-- an item of a list or a tuple -/
def rIxB (K : PySem.W.Frag) : R2 := fun x y H Q => ∃ t a xs i v, x = .ref a ∧ y = .int i ∧ Sq t K H a xs ∧ atI xs i = some v ∧ Q v H
theorem ix_B : IxR X (rIxB X.K) := by
  intro value slice pins s σ H x y v u Q I rx ry h hs
  obtain ⟨t, a, xs, i, z, rfl, rfl, ha, hz, q⟩ := h
  cases t with
  | false => exact ix_list value slice pins s σ H _ _ v u Q I rx ry ⟨a, xs, i, z, rfl, rfl, ha, hz, q⟩ hs
  | true => exact ix_tup value slice pins s σ H _ _ v u Q I rx ry ⟨a, xs, i, z, rfl, rfl, ha, hz, q⟩ hs
/-! the same within a comprehension, where K is to be told -/
section
variable {K : PySem.W.Frag}
theorem ix_Bk (h : X.K = K) : IxR X (rIxB K) := by
  rw [← h]
  exact ix_B
theorem ix_listk (h : X.K = K) : IxR X (rIxL K) := by
  rw [← h]
  exact ix_list
theorem ix_tupk (h : X.K = K) : IxR X (rIxT K) := by
  rw [← h]
  exact ix_tup
theorem isik (h : X.K = K) : CallR X (.builtin "isinstance") (rIsi K) := by
  rw [← h]
  exact call_isi
end
end
end Cc

set_option autoImplicit false
set_option maxHeartbeats 4000000
/-! things[::-1], a list or a tuple -/
namespace Ys
open PySem PySem.Spec PyProof.Rows L2 Cc
section
variable {prog : Program} {w : World} {A : Around} {E : Value → Shared → Prop} {s : Shared}
theorem adjust_back (n : Nat) : Builtin.Slice.sliceAdjust none none (-1) (n : Int) = ((n : Int) - 1, -1) := by
  unfold Builtin.Slice.sliceAdjust
  first
    | rfl
    | simp
theorem places_back (n : Nat) : Builtin.Slice.slicePlaces ((n : Int) - 1) (-1) (-1) = n := by
  unfold Builtin.Slice.slicePlaces
  rw [if_neg (by decide)]
  by_cases h : (n : Int) - 1 > -1
  · rw [if_pos h, show (- -1 : Int) = 1 by decide, Int.ediv_one]
    omega
  · rw [if_neg h]
    omega
theorem back_applied {sl : Addr} {vl vu vs : Value} {n : Nat} {Q : Int × Int × Nat → Shared → Prop} (hs : s.heap.IsSliceOf sl vl vu vs) (pl : IsPart vl none) (pu : IsPart vu none) (ps : IsPart vs (some (-1))) (h : Q ((n : Int) - 1, -1, n) s) :
    wpAny (model prog w) A (Builtin.Slice.sliceApplied (.ref sl) (pure (n : Int))) Q E s := by
  obtain ⟨os, hos, hcs, hds⟩ := id hs
  unfold Builtin.Slice.sliceApplied Builtin.Slice.sliceFields
  refine wpAny_bind (wpAny_bind (wpAny_field hos hds (x := vl) rfl (wpAny_bind (wpAny_field hos hds (x := vu) rfl (wpAny_bind (wpAny_field hos hds (x := vs) rfl (wpAny_pure ?_)))))))
  refine wpAny_bind (HT.slicePart_ ps ?_)
  show wpAny _ _ (if ((-1 : Int) == 0) = true then _ else _) _ _ s
  rw [if_neg (by decide)]
  refine wpAny_bind (HT.slicePart_ pl (wpAny_bind (HT.slicePart_ pu (wpAny_bind (wpAny_pure ?_)))))
  show wpAny _ _ (match Builtin.Slice.sliceAdjust none none (-1) (n : Int) with | (lo, hi) => pure (lo, (-1 : Int), Builtin.Slice.slicePlaces lo hi (-1))) _ _ s
  rw [adjust_back]
  show wpAny _ _ (pure ((n : Int) - 1, (-1 : Int), Builtin.Slice.slicePlaces ((n : Int) - 1) (-1) (-1))) _ _ s
  rw [places_back]
  exact wpAny_pure h
theorem pick_back (xs : Array Value) : ((List.range xs.size).filterMap fun (k : Nat) => xs[((xs.size : Int) - 1 + (k : Int) * -1).toNat]?).toArray = xs.toList.reverse.toArray := by
  have e := PySem.W.krv_pick xs
  unfold slicePick at e
  rw [PySem.W.krv_bounds] at e
  rw [← e]
  show _ = ((sliceRange ((xs.size : Int) - 1) (-1) (-1)).filterMap (xs[·]?)).toArray
  rw [PySem.W.krv_sliceRange, List.filterMap_map]
  congr 1
  have cong : ∀ (l : List Nat) (f g : Nat → Option Value), (∀ k ∈ l, f k = g k) → l.filterMap f = l.filterMap g := fun l f g h => by
    induction l with
    | nil => rfl
    | cons a r ih =>
      rw [List.filterMap_cons, List.filterMap_cons, h a (List.mem_cons_self ..), ih fun k hk => h k (List.mem_cons_of_mem _ hk)]
  refine cong _ _ _ fun k hk => ?_
  have hk := List.mem_range.mp hk
  have e1 : ((xs.size : Int) - 1 + (k : Int) * -1).toNat = xs.size - 1 - k := by omega
  show xs[((xs.size : Int) - 1 + (k : Int) * -1).toNat]? = xs[xs.size - 1 - k]?
  rw [e1]
theorem tuple_back {t sl : Addr} {items : Array Value} {vl vu vs : Value} {Q : Value → Shared → Prop} (ht : IsTup s.heap t items) (hs : s.heap.IsSliceOf sl vl vu vs) (pl : IsPart vl none) (pu : IsPart vu none) (ps : IsPart vs (some (-1)))
    (h : Q (.ref s.heap.objs.size) { s with heap := s.heap.push { cls := .type "tuple", data := .seq items.toList.reverse.toArray } }) (hsz : items.size ≤ sizeLine) : wpAny (model prog w) A (getItem (.ref t) (.ref sl)) Q E s := by
  have fits : sizeOk (.seq items.toList.reverse.toArray) := by
    show items.toList.reverse.toArray.size ≤ sizeLine
    rw [List.size_toArray, List.length_reverse, Array.length_toList]
    exact hsz
  obtain ⟨os, hos, hcs, hds⟩ := id hs
  have hT : s.TypeIs (.ref sl) "slice" := ⟨os, hos, hcs⟩
  unfold getItem
  try with_reducible refine wpAny_holding ?_
  first | refine wpAny_bind (wpAny_pure ?_) | skip
  refine wpAny_bind (wpAny_sequenceKey ht.typeIs (by decide) ?_)
  refine wpAny_bind (wpAny_callSpecial?_slot (name := Str.ofString "__getitem__") ht.typeIs PyProof.Rows.slot_tuple_getitem (wpAny_call_entry PyProof.Rows.slot_tuple_getitem ht.typeIs entry_tuple_getitem ?_ (args_tuple_getitem _ _)))
  show wpAny _ _ (Builtin.Tuple.tupleItemsOf (.ref t) >>= _) _ _ s
  refine wpAny_bind (tupleItemsOf_ ht (wpAny_bind (wpAny_typeOf hT ?_)))
  rw [if_pos (by decide)]
  refine wpAny_bind (back_applied hs pl pu ps ?_)
  have no : ¬ (((items.size : Int) - 1 == 0 && (-1 : Int) == 1 && items.size == items.size) = true) := by simp
  show wpAny _ _ (if ((items.size : Int) - 1 == 0 && (-1 : Int) == 1 && items.size == items.size) = true then _ else _) _ _ s
  rw [if_neg no, pick_back]
  first
    | exact wpAny_bind (m := Builtin.Tuple.tupleExact _) (wpAny_newObj_type (wpAny_pure ⟨_, rfl, wpAny_pure h⟩) fits)
    | exact wpAny_bind (m := Builtin.Tuple.tupleExact _) (wpAny_newObj_type (wpAny_bind (wpAny_pure (wpAny_pure ⟨_, rfl, wpAny_pure h⟩))) fits)
    | exact wpAny_bind (wpAny_bind (m := Builtin.Tuple.tupleExact _) (wpAny_newObj_type (wpAny_pure (wpAny_pure ⟨_, rfl, wpAny_pure h⟩)) fits))
    | exact wpAny_bind (wpAny_bind (m := Builtin.Tuple.tupleExact _) (wpAny_newObj_type (wpAny_pure ⟨_, rfl, wpAny_pure h⟩) fits))
end
section
variable {X : Cx} {e : Expr} {te : TE}
def tRevA (K : PySem.W.Frag) (te : TE) : TE := fun σ H Q => te σ H fun x H1 => ∃ t a xs, x = .ref a ∧ Sq t K H1 a xs ∧ ∀ p H', Same H1 H' → SqM t K H' p xs.reverse → Q (.ref p) H'
theorem pe_revA {k : Nat} {p1 p2 p3 pos : Pos} (he : PE X e te) : PE X (.Subscript e (.Slice none none (some (.UnaryOp .USub (.Constant (.int 1) k p1) p2)) p3) pos) (tRevA X.K te) := by
  refine ⟨fun pins s σ H Q I h => Subscript_ (thn (he.run pins s σ H _ I h) fun v s1 ⟨x, H1, I1, r1, t, a, xs, ex, hx, q⟩ => ?_)⟩
  subst ex
  cases r1
  have hst : PO X (some (.UnaryOp .USub (.Constant (.int 1) k p1) p2)) (tPart (tUn (rU fun i => .int (-i)) (tC (.int 1)))) := po_some (pe_un un_neg pe_int)
  refine wpAny_Slice (thn (po_none.run pins s1 σ H1 (fun o H2 => o = none ∧ H2 = H1) I1 ⟨rfl, rfl⟩) fun vl s2 ⟨l, H2, I2, pl, el, e2⟩ => ?_)
  subst el e2
  refine thn (po_none.run pins s2 σ H2 (fun o H3 => o = none ∧ H3 = H2) I2 ⟨rfl, rfl⟩) fun vu s3 ⟨u, H3, I3, pu, eu, e3⟩ => ?_
  subst eu e3
  refine thn (hst.run pins s3 σ H3 (fun o H4 => o = some (-1) ∧ H4 = H3) I3 ⟨1, rfl, -1, rfl, rfl, rfl⟩) fun vs s4 ⟨o, H4, I4, ps, eo, e4⟩ => ?_
  subst eo e4
  have I5 : Inv X pins σ H4 { s4 with heap := s4.heap.push { cls := .type "slice", data := .fields #[vl, vu, vs] } } := I4.kept (t' := s4.toks) fun b ob q => Heap.get?_push_of_some _ q
  show wpAny (model X.prog X.w) X.A (subscriptTail e (.Slice none none (some (.UnaryOp .USub (.Constant (.int 1) k p1) p2)) p3) (.ref a) (.ref s4.heap.objs.size)) (EP X pins σ Q) X.xe { s4 with heap := s4.heap.push { cls := .type "slice", data := .fields #[vl, vu, vs] } }
  cases t with
  | false =>
    obtain ⟨its, r, ht, hz⟩ := I5.list hx
    refine tail_any (ops := [.ref a, .ref s4.heap.objs.size]) ht.isList.typeIs (PySem.slot_list_getitem.lookup) ?_ (by with_unfolding_all rfl)
    refine wpAny_getItem_list_slice ht.isList (Heap.IsSliceOf.new _ vl vu vs) pl pu ps (by decide) ?_ (by rw [List.size_toArray, ← r.length]; exact hz)
    rw [PySem.W.krv_pick]
    refine ⟨.ref _, _, I5.laid (t' := s4.toks) (o := .lst xs.reverse) (fun b ob q => Heap.get?_push_of_some _ q) (Nat.le_refl _) ?_, rfl, q _ _ (newS (I5.hok.fresh (Nat.le_refl _))) (show _ = _ from upd_same)⟩
    exact ⟨by rw [List.length_reverse]; exact hz, _, 0, r.reverse, Heap.get?_push_size _ rfl⟩
  | true =>
    obtain ⟨its, r, ht, hz⟩ := I5.tuple hx
    refine tail_any (ops := [.ref a, .ref s4.heap.objs.size]) ht.typeIs (PyProof.Rows.slot_tuple_getitem.lookup) ?_ (by with_unfolding_all rfl)
    refine tuple_back ht (Heap.IsSliceOf.new _ vl vu vs) pl pu ps ?_ (by rw [List.size_toArray, ← r.length]; exact hz)
    refine ⟨.ref _, _, I5.laid (t' := s4.toks) (o := .tup xs.reverse) (fun b ob q => Heap.get?_push_of_some _ q) (Nat.le_refl _) ?_, rfl, q _ _ (newS (I5.hok.fresh (Nat.le_refl _))) (show SqT _ _ _ _ from SqT.of upd_same)⟩
    exact ⟨by rw [List.length_reverse]; exact hz, its.reverse, r.reverse, ⟨_, Heap.get?_push_size _ rfl, rfl, 0, by simp⟩⟩
end
end Ys

set_option autoImplicit false
set_option maxHeartbeats 4000000
/-! things of any kind: what stands for them, what stays, how great they are -/
namespace Tg
open PySem PySem.Spec PyProof.Rows L2
/-- all that stood there stands as it stood, but greater dicts -/
def Kept (H H' : Hp) : Prop := ∀ b o, H b = some o → (∀ kvs, o = .dK kvs → kvs.length ≤ 1) → H' b = some o
theorem Kept.refl {H : Hp} : Kept H H := fun _ _ h _ => h
theorem Kept.trans {H H1 H2 : Hp} (a : Kept H H1) (b : Kept H1 H2) : Kept H H2 := fun c o h n => b c o (a c o h n) n
theorem kept_same {H H1 : Hp} (a : Same H H1) : Kept H H1 := fun c o h _ => a c o h
theorem Kept.lstH {H H1 : Hp} {a : Addr} {xs : List V} (k : Kept H H1) (h : H a = some (.lst xs)) : H1 a = some (.lst xs) := k _ _ h fun _ e => nomatch e
theorem Kept.tupH {H H1 : Hp} {a : Addr} {xs : List V} (k : Kept H H1) (h : H a = some (.tup xs)) : H1 a = some (.tup xs) := k _ _ h fun _ e => nomatch e
theorem Kept.lst {K : PySem.W.Frag} {H H1 : Hp} {a : Addr} {xs : List V} (k : Kept H H1) (h : SqL K H a xs) : SqL K H1 a xs := by
  rcases h with (h | ⟨o, h⟩) | h
  · exact .inl (.inl (k.lstH h))
  · exact .inl (.inr ⟨o, k _ _ h fun _ e => nomatch e⟩)
  · exact .inr h
theorem Kept.tup {K : PySem.W.Frag} {H H1 : Hp} {a : Addr} {xs : List V} (k : Kept H H1) (h : SqT K H a xs) : SqT K H1 a xs := by
  rcases h with (h | ⟨o, h⟩) | h
  · exact .inl (.inl (k.tupH h))
  · exact .inl (.inr ⟨o, k _ _ h fun _ e => nomatch e⟩)
  · exact .inr h
mutual
/-- v stands for the thing d -/
inductive Th (K : PySem.W.Frag) (H : Hp) : V → PyData → Prop
  | non : Th K H .non .none
  | bl (b : Bool) : Th K H (.bl b) (.bool b)
  | int (i : Int) : Th K H (.int i) (.int i)
  | str (x : Str) : Th K H (.str x) (.str x)
  | lst {a : Addr} {xs : List V} {ds : List PyData} : SqL K H a xs → ThAll K H xs ds → Th K H (.ref a) (.list ds)
  | tup {a : Addr} {xs : List V} {ds : List PyData} : SqT K H a xs → ThAll K H xs ds → Th K H (.ref a) (.tuple ds)
  | dct {a : Addr} {kvs : List (Key × V)} : H a = some (.dK kvs) → kvs.length ≤ 1 → Th K H (.ref a) (.dict [])
inductive ThAll (K : PySem.W.Frag) (H : Hp) : List V → List PyData → Prop
  | nil : ThAll K H [] []
  | cons {v : V} {vs : List V} {d : PyData} {ds : List PyData} : Th K H v d → ThAll K H vs ds → ThAll K H (v :: vs) (d :: ds)
end
mutual
theorem Th.kept {K : PySem.W.Frag} {H H1 : Hp} (k : Kept H H1) : ∀ {v : V} {d : PyData}, Th K H v d → Th K H1 v d
  | _, _, .non => .non
  | _, _, .bl b => .bl b
  | _, _, .int i => .int i
  | _, _, .str x => .str x
  | _, _, .lst h t => .lst (k.lst h) (t.kept k)
  | _, _, .tup h t => .tup (k.tup h) (t.kept k)
  | _, _, .dct h l => .dct (k _ _ h fun _ e => by cases e; exact l) l
theorem ThAll.kept {K : PySem.W.Frag} {H H1 : Hp} (k : Kept H H1) : ∀ {vs : List V} {ds : List PyData}, ThAll K H vs ds → ThAll K H1 vs ds
  | _, _, .nil => .nil
  | _, _, .cons h t => .cons (h.kept k) (t.kept k)
end
/-- the built-in class of a thing -/
def tyOf : PyData → String
  | .none => "NoneType" | .bool _ => "bool" | .int _ => "int" | .str _ => "str" | .list _ => "list" | .tuple _ => "tuple" | .dict _ => "dict"
theorem tyx_list {K : PySem.W.Frag} {H : Hp} {a : Addr} {xs : List V} (h : SqL K H a xs) : TyX K H (.ref a) (.type "list") := by
  rcases h with (h | ⟨o, h⟩) | ⟨o, its, n, h, c, _⟩
  · exact .base (.lst h)
  · exact .base (.frz h)
  · exact .kList h c
theorem tyx_tup {K : PySem.W.Frag} {H : Hp} {a : Addr} {xs : List V} (h : SqT K H a xs) : TyX K H (.ref a) (.type "tuple") := by
  rcases h with (h | ⟨o, h⟩) | ⟨o, its, n, h, c, _⟩
  · exact .base (.tup h)
  · exact .fTuple h
  · exact .kTuple h c
theorem Th.ty {K : PySem.W.Frag} {H : Hp} {v : V} {d : PyData} (h : Th K H v d) : TyX K H v (.type (tyOf d)) := by
  cases h with
  | non => exact .base .non
  | bl b => exact .base (.bl b)
  | int i => exact .base (.int i)
  | str x => exact .base (.str x)
  | lst h t => exact tyx_list h
  | tup h t => exact tyx_tup h
  | dct h l => exact .base (.dK h)
/-- isinstance of a thing and a built-in class -/
theorem isi {K : PySem.W.Frag} {H : Hp} {v : V} {d : PyData} {T : String} {b : Bool} {Q : VK} (h : Th K H v d) (e : kitB (tyOf d) T = some b) (q : Q (.bl b) H) : rIsi K [v, .ty T] H Q :=
  ⟨v, .ty T, _, _, b, rfl, .ty T, h.ty, kit_ty e, q⟩
def isTup : PyData → Bool | .tuple _ => true | _ => false
def isLst : PyData → Bool | .list _ => true | _ => false
def isStr : PyData → Bool | .str _ => true | _ => false
def isBool : PyData → Bool | .bool _ => true | _ => false
def isInt : PyData → Bool | .bool _ => true | .int _ => true | _ => false
theorem kit_tup (d : PyData) : kitB (tyOf d) "tuple" = some (isTup d) := by cases d <;> (simp only [tyOf, isTup]; decide +kernel)
theorem kit_lst (d : PyData) : kitB (tyOf d) "list" = some (isLst d) := by cases d <;> (simp only [tyOf, isLst]; decide +kernel)
theorem kit_str (d : PyData) : kitB (tyOf d) "str" = some (isStr d) := by cases d <;> (simp only [tyOf, isStr]; decide +kernel)
theorem kit_bool (d : PyData) : kitB (tyOf d) "bool" = some (isBool d) := by cases d <;> (simp only [tyOf, isBool]; decide +kernel)
theorem kit_int (d : PyData) : kitB (tyOf d) "int" = some (isInt d) := by cases d <;> (simp only [tyOf, isInt]; decide +kernel)
theorem isStr_eq {d : PyData} (h : isStr d = true) : ∃ s, d = .str s := by
  cases d with
  | str s => exact ⟨s, rfl⟩
  | _ => cases h
theorem isTup_eq {d : PyData} (h : isTup d = true) : ∃ ds, d = .tuple ds := by
  cases d with
  | tuple s => exact ⟨s, rfl⟩
  | _ => cases h
theorem isLst_eq {d : PyData} (h : isLst d = true) : ∃ ds, d = .list ds := by
  cases d with
  | list s => exact ⟨s, rfl⟩
  | _ => cases h
theorem Th.asStr {K : PySem.W.Frag} {H : Hp} {v : V} {s : Str} (h : Th K H v (.str s)) : v = .str s := by
  cases h
  rfl
theorem Th.asTup {K : PySem.W.Frag} {H : Hp} {v : V} {ds : List PyData} (h : Th K H v (.tuple ds)) : ∃ a xs, v = .ref a ∧ SqT K H a xs ∧ ThAll K H xs ds := by
  cases h with
  | tup h t => exact ⟨_, _, rfl, h, t⟩
theorem Th.asLst {K : PySem.W.Frag} {H : Hp} {v : V} {ds : List PyData} (h : Th K H v (.list ds)) : ∃ a xs, v = .ref a ∧ SqL K H a xs ∧ ThAll K H xs ds := by
  cases h with
  | lst h t => exact ⟨_, _, rfl, h, t⟩
theorem ThAll.len {K : PySem.W.Frag} {H : Hp} : ∀ {xs : List V} {ds : List PyData}, ThAll K H xs ds → xs.length = ds.length
  | _, _, .nil => rfl
  | _, _, .cons _ t => congrArg (· + 1) t.len
theorem ThAll.get {K : PySem.W.Frag} {H : Hp} : ∀ {xs : List V} {ds : List PyData} {i : Nat} {x : V}, ThAll K H xs ds → xs[i]? = some x → ∃ d, ds[i]? = some d ∧ Th K H x d
  | _, _, i, x, .nil, e => by simp at e
  | _, _, 0, x, .cons h t, e => by
    simp at e
    subst e
    exact ⟨_, rfl, h⟩
  | _, _, i + 1, x, .cons h t, e => by
    obtain ⟨d, h1, h2⟩ := t.get (i := i) (x := x) (by simpa using e)
    exact ⟨d, by simpa using h1, h2⟩
/-! ### how great things are -/
/-- signs of a text below 128 -/
def As (s : Str) : Prop := ∀ c ∈ s.cps.toList, c < 128
/-- texts and lists to N, numbers below N figures, depth to m -/
def Bd (N : Nat) : Nat → PyData → Prop
  | _, .none => True
  | _, .bool _ => True
  | _, .int i => i.natAbs < 10 ^ N
  | _, .str s => s.length ≤ N ∧ As s
  | _, .dict _ => True
  | 0, .list _ => False
  | 0, .tuple _ => False
  | m + 1, .list ds => ds.length ≤ N ∧ ∀ d ∈ ds, Bd N m d
  | m + 1, .tuple ds => ds.length ≤ N ∧ ∀ d ∈ ds, Bd N m d
theorem bd_str {N m : Nat} {s : Str} : Bd N m (.str s) ↔ s.length ≤ N ∧ As s := by cases m <;> exact Iff.rfl
theorem bd_int {N m : Nat} {i : Int} : Bd N m (.int i) ↔ i.natAbs < 10 ^ N := by cases m <;> exact Iff.rfl
theorem bd_non {N m : Nat} : Bd N m .none := by cases m <;> trivial
theorem bd_bool {N m : Nat} {b : Bool} : Bd N m (.bool b) := by cases m <;> trivial
theorem bd_dict {N m : Nat} {b : List (PyData × PyData)} : Bd N m (.dict b) := by cases m <;> trivial
theorem Bd.mono {N N' : Nat} (h : N ≤ N') : ∀ {m m' : Nat} {d : PyData}, m ≤ m' → Bd N m d → Bd N' m' d
  | _, _, .none, _, _ => bd_non
  | _, _, .bool _, _, _ => bd_bool
  | _, _, .int i, _, b => bd_int.mpr (Nat.lt_of_lt_of_le (bd_int.mp b) (Nat.pow_le_pow_right (by omega) h))
  | _, _, .str s, _, b => bd_str.mpr ⟨Nat.le_trans (bd_str.mp b).1 h, (bd_str.mp b).2⟩
  | _, _, .dict _, _, _ => bd_dict
  | 0, _, .list _, _, b => b.elim
  | 0, _, .tuple _, _, b => b.elim
  | m + 1, 0, .list _, q, b => by omega
  | m + 1, 0, .tuple _, q, b => by omega
  | m + 1, m' + 1, .list ds, q, b => ⟨Nat.le_trans b.1 h, fun d hd => (b.2 d hd).mono h (by omega)⟩
  | m + 1, m' + 1, .tuple ds, q, b => ⟨Nat.le_trans b.1 h, fun d hd => (b.2 d hd).mono h (by omega)⟩
/-- v stands for some thing, no greater than so -/
def Is (K : PySem.W.Frag) (H : Hp) (N m : Nat) (v : V) : Prop := ∃ d, Th K H v d ∧ Bd N m d
section
variable {K : PySem.W.Frag} {H H1 : Hp} {N N' m m' : Nat} {v : V} {a : Addr} {xs : List V}
theorem Is.kept (h : Is K H N m v) (k : Kept H H1) : Is K H1 N m v := by
  obtain ⟨d, h1, h2⟩ := h
  exact ⟨d, h1.kept k, h2⟩
theorem Is.mono (h : Is K H N m v) (k : N ≤ N') (j : m ≤ m') : Is K H N' m' v := by
  obtain ⟨d, h1, h2⟩ := h
  exact ⟨d, h1, h2.mono k j⟩
theorem Is.non : Is K H N m .non := ⟨_, .non, bd_non⟩
theorem Is.bl (b : Bool) : Is K H N m (.bl b) := ⟨_, .bl b, bd_bool⟩
theorem Is.int (i : Int) (h : i.natAbs < 10 ^ N) : Is K H N m (.int i) := ⟨_, .int i, bd_int.mpr h⟩
theorem Is.str (s : Str) (h : s.length ≤ N) (a : As s) : Is K H N m (.str s) := ⟨_, .str s, bd_str.mpr ⟨h, a⟩⟩
theorem Is.dct {kvs : List (Key × V)} (h : H a = some (.dK kvs)) (l : kvs.length ≤ 1) : Is K H N m (.ref a) := ⟨_, .dct h l, bd_dict⟩
theorem all_of : ∀ {xs : List V}, (∀ x ∈ xs, Is K H N m x) → ∃ ds, ThAll K H xs ds ∧ ∀ d ∈ ds, Bd N m d
  | [], _ => ⟨[], .nil, fun d h => by cases h⟩
  | x :: r, h => by
    obtain ⟨d, h1, h2⟩ := h x (List.mem_cons_self ..)
    obtain ⟨ds, h3, h4⟩ := all_of fun y hy => h y (List.mem_cons_of_mem _ hy)
    exact ⟨d :: ds, .cons h1 h3, fun e he => (List.mem_cons.mp he).elim (fun z => z ▸ h2) (h4 e)⟩
theorem of_all : ∀ {xs : List V} {ds : List PyData}, ThAll K H xs ds → (∀ d ∈ ds, Bd N m d) → ∀ x ∈ xs, Is K H N m x
  | _, _, .nil, _, x, h => by cases h
  | _, _, .cons t r, b, x, h => by
    rcases List.mem_cons.mp h with e | e
    · subst e
      exact ⟨_, t, b _ (List.mem_cons_self ..)⟩
    · exact of_all r (fun d hd => b d (List.mem_cons_of_mem _ hd)) x e
theorem Is.lst (h : SqL K H a xs) (l : xs.length ≤ N) (k : ∀ x ∈ xs, Is K H N m x) : Is K H N (m + 1) (.ref a) := by
  obtain ⟨ds, h1, h2⟩ := all_of k
  exact ⟨_, .lst h h1, by rw [← h1.len]; exact l, h2⟩
theorem Is.tup (h : SqT K H a xs) (l : xs.length ≤ N) (k : ∀ x ∈ xs, Is K H N m x) : Is K H N (m + 1) (.ref a) := by
  obtain ⟨ds, h1, h2⟩ := all_of k
  exact ⟨_, .tup h h1, by rw [← h1.len]; exact l, h2⟩
/-- the kinds of things -/
theorem Is.kinds (h : Is K H N m v) : v = .non ∨ (∃ b, v = .bl b) ∨ (∃ i, v = .int i ∧ i.natAbs < 10 ^ N) ∨ (∃ s, v = .str s ∧ s.length ≤ N ∧ As s) ∨ (∃ a kvs, v = .ref a ∧ H a = some (.dK kvs) ∧ kvs.length ≤ 1) ∨
    (∃ a xs n, v = .ref a ∧ m = n + 1 ∧ xs.length ≤ N ∧ (SqL K H a xs ∨ SqT K H a xs) ∧ ∀ x ∈ xs, Is K H N n x) := by
  obtain ⟨d, h1, h2⟩ := h
  cases h1 with
  | non => exact .inl rfl
  | bl b => exact .inr (.inl ⟨b, rfl⟩)
  | int i => exact .inr (.inr (.inl ⟨i, rfl, bd_int.mp h2⟩))
  | str s => exact .inr (.inr (.inr (.inl ⟨s, rfl, bd_str.mp h2⟩)))
  | dct e l => exact .inr (.inr (.inr (.inr (.inl ⟨_, _, rfl, e, l⟩))))
  | lst e t =>
    cases m with
    | zero => exact h2.elim
    | succ n => exact .inr (.inr (.inr (.inr (.inr ⟨_, _, n, rfl, rfl, by rw [t.len]; exact h2.1, .inl e, of_all t h2.2⟩))))
  | tup e t =>
    cases m with
    | zero => exact h2.elim
    | succ n => exact .inr (.inr (.inr (.inr (.inr ⟨_, _, n, rfl, rfl, by rw [t.len]; exact h2.1, .inr e, of_all t h2.2⟩))))
end
/-! ### names, sorts, forms -/
def smallB (n : Nat) : PyData → Bool
  | .str s => (decide (1 ≤ s.length) && decide (s.length ≤ n)) && s.cps.toList.all fun c => decide (97 ≤ c) && decide (c ≤ 122)
  | _ => false
def sortB : PyData → Bool
  | .str s => decide (s ∈ ([("code" : Str), "amount", "word", "text"] : List Str))
  | _ => false
def fieldB : PyData → Bool
  | .tuple [n, s] => smallB 12 n && sortB s
  | _ => false
def nameOf : PyData → Str
  | .tuple (.str s :: _) => s
  | _ => Str.empty
def formB : PyData → Bool
  | .tuple ds => (decide (1 ≤ ds.length) && decide (ds.length ≤ 6)) && ds.all fieldB && decide ((ds.map nameOf).Nodup)
  | _ => false
theorem small_str {n : Nat} {d : PyData} (h : smallB n d = true) : ∃ s, d = .str s := by
  cases d with
  | str s => exact ⟨s, rfl⟩
  | _ => cases h
theorem field_tup {d : PyData} (h : fieldB d = true) : ∃ s z, d = .tuple [.str s, z] ∧ smallB 12 (.str s) = true ∧ sortB z = true := by
  unfold fieldB at h
  split at h
  · rename_i n z
    rw [Bool.and_eq_true] at h
    obtain ⟨s, rfl⟩ := small_str h.1
    exact ⟨s, z, rfl, h.1, h.2⟩
  · cases h
end Tg

set_option autoImplicit false
set_option maxHeartbeats 2000000
/-! lists by a comprehension, without a test -/
namespace Cc
open PySem PySem.Spec PyProof.Rows L2
/-- one more into the list at D, that has i already -/
abbrev Push (D : Addr) (i : Nat) (Iv : Nat → List V → Hp → Prop) (y : V) (H : Hp) : Prop :=
  ∃ acc, H D = some (.lst acc) ∧ acc.length < sizeLine ∧ ∃ a2, a2.length = i + 1 ∧ Iv (i + 1) a2 (upd H D (.lst (acc ++ [y]))) ∧ upd H D (.lst (acc ++ [y])) D = some (.lst a2)
theorem push {D : Addr} {i : Nat} {Iv : Nat → List V → Hp → Prop} {y : V} {H : Hp} {acc : List V} (hD : H D = some (.lst acc)) (la : acc.length = i) (few : i < 1000000) (iv : Iv (i + 1) (acc ++ [y]) (upd H D (.lst (acc ++ [y])))) : Push D i Iv y H :=
  ⟨acc, hD, by rw [la, show sizeLine = 16777216 from by decide]; omega, acc ++ [y], by rw [List.length_append, la]; rfl, iv, upd_same⟩
section
variable {J : It} {n : Nat} {G : Hp → Prop} {Y : Nat → Hp → V → Hp → Prop} {g : TG} {te : TE} {vs : List Nat} {σ : L2.St} {H1 : Hp} {D : Addr} {Qd : Hp → Prop}
/-- by the turn, what is in the new list, and the heap -/
theorem lc_acc (w : Walk J n G Y) (Iv : Nat → List V → Hp → Prop) (h0 : Iv 0 [] (upd H1 D (.lst []))) (hG : ∀ i acc H, i ≤ n → Iv i acc H → H D = some (.lst acc) → G H)
    (hs : ∀ i x acc H H', i < n → acc.length = i → Iv i acc H → H D = some (.lst acc) → Y i H x H' → g x (wipe σ vs) H' fun σ2 H2 => wipe σ2 vs = wipe σ vs ∧ te σ2 H2 fun y H4 => Push D i Iv y H4)
    (hd : ∀ acc H, acc.length = n → Iv n acc H → H D = some (.lst acc) → Qd H) :
    ∃ W : Nat → Nat → Hp → Prop, (∃ m, W 0 m (upd H1 D (.lst []))) ∧ ∀ i m H, W i m H →
      (J.stop i H ∧ Qd H) ∨ (J.go i H ∧ ∃ Nx : Hp → Prop, (∀ H', Nx H' → ∃ m', m' < m ∧ W (i + 1) m' H') ∧ ∀ x H', J.yld i H x H' → g x (wipe σ vs) H' fun σ2 H2 => wipe σ2 vs = wipe σ vs ∧ tYes σ2 H2 fun b H3 =>
        if b = true then te σ2 H3 fun y H4 => ∃ acc, H4 D = some (.lst acc) ∧ acc.length < sizeLine ∧ Nx (upd H4 D (.lst (acc ++ [y]))) else Nx H3) := by
  refine ⟨fun i m H => m = n - i ∧ i ≤ n ∧ ∃ acc, acc.length = i ∧ Iv i acc H ∧ H D = some (.lst acc), ⟨n, by simp, Nat.zero_le _, [], rfl, h0, upd_same⟩, ?_⟩
  rintro i m H ⟨rfl, hi, acc, la, iv, hD⟩
  have q := hG i acc H hi iv hD
  by_cases lt : i < n
  · exact .inr ⟨w.goes i H lt q, fun H' => ∃ acc, acc.length = i + 1 ∧ Iv (i + 1) acc H' ∧ H' D = some (.lst acc), fun H' ⟨a2, l2, v2, d2⟩ => ⟨n - (i + 1), by omega, rfl, lt, a2, l2, v2, d2⟩, fun x H' y => hs i x acc H H' lt la iv hD (w.yields i H x H' lt q y)⟩
  · have e : i = n := by omega
    subst e
    exact .inl ⟨w.stops H q, hd acc H la iv hD⟩
end
/-- all that stood there but what is at D stands -/
def But (D : Addr) (H H' : Hp) : Prop := ∀ b o, b ≠ D → H b = some o → H' b = some o
theorem But.upd {D : Addr} {H H' : Hp} {o : HO} (h : But D H H') : But D H (upd H' D o) := fun b x n e => by
  rw [upd_ne n]
  exact h b x n e
theorem But.same {D : Addr} {H H' H2 : Hp} (h : But D H H') (s : Same H' H2) : But D H H2 := fun b x n e => s b x (h b x n e)
theorem But.new {D : Addr} {H H' : Hp} (h : But D H H') (n : H D = none) : Same H H' := fun b x e => h b x (ne_of_none e n) e
theorem But.refl {D : Addr} {H : Hp} : But D H H := fun _ _ _ e => e
end Cc

set_option autoImplicit false
set_option maxHeartbeats 2000000
/-! sets of keys by a comprehension, without a test -/
namespace Cc
open PySem PySem.Spec PyProof.Rows L2 Ys
section
variable {P : Program} {w : World}
abbrev PushK (P : Program) (w : World) (D : Addr) (i : Nat) (Iv : Nat → (Key → Bool) → Nat → Hp → Prop) (y : V) (H : Hp) : Prop :=
  AddK P w D y H fun H' => ∃ S m, Iv (i + 1) S m H' ∧ H' D = some (SetK P w D S m)
theorem pushK {D : Addr} {i : Nat} {Iv : Nat → (Key → Bool) → Nat → Hp → Prop} {y : V} {H : Hp} {S : Key → Bool} {m : Nat} (k : Key) (ey : y = kV k) (hD : H D = some (SetK P w D S m)) (few : m + 1 < scanBound)
    (iv : Iv (i + 1) (fun j => S j || decide (j = k)) (if S k = true then m else m + 1) (upd H D (SetK P w D (fun j => S j || decide (j = k)) (if S k = true then m else m + 1)))) : PushK P w D i Iv y H :=
  ⟨k, S, m, ey, hD, few, _, _, iv, upd_same⟩
variable {J : It} {n : Nat} {G : Hp → Prop} {Y : Nat → Hp → V → Hp → Prop} {g : TG} {te : TE} {vs : List Nat} {σ : L2.St} {H1 : Hp} {D : Addr} {Qd : Hp → Prop}
theorem sc_acc (wk : Walk J n G Y) (Iv : Nat → (Key → Bool) → Nat → Hp → Prop) (h0 : Iv 0 (fun _ => false) 0 (upd H1 D (SetK P w D (fun _ => false) 0))) (hG : ∀ i S m H, i ≤ n → Iv i S m H → H D = some (SetK P w D S m) → G H)
    (hs : ∀ i x S m H H', i < n → Iv i S m H → H D = some (SetK P w D S m) → Y i H x H' → g x (wipe σ vs) H' fun σ2 H2 => wipe σ2 vs = wipe σ vs ∧ te σ2 H2 fun y H4 => PushK P w D i Iv y H4)
    (hd : ∀ S m H, Iv n S m H → H D = some (SetK P w D S m) → Qd H) :
    ∃ W : Nat → Nat → Hp → Prop, (∃ m, W 0 m (upd H1 D (SetK P w D (fun _ => false) 0))) ∧ ∀ i m H, W i m H → (J.stop i H ∧ Qd H) ∨ (J.go i H ∧ ∃ Nx : Hp → Prop, (∀ H', Nx H' → ∃ m', m' < m ∧ W (i + 1) m' H') ∧
      ∀ x H', J.yld i H x H' → g x (wipe σ vs) H' fun σ2 H2 => wipe σ2 vs = wipe σ vs ∧ tYes σ2 H2 fun b H3 => if b = true then te σ2 H3 fun y H4 => AddK P w D y H4 Nx else Nx H3) := by
  refine ⟨fun i k H => k = n - i ∧ i ≤ n ∧ ∃ S m, Iv i S m H ∧ H D = some (SetK P w D S m), ⟨n, by simp, Nat.zero_le _, _, _, h0, upd_same⟩, ?_⟩
  rintro i k H ⟨rfl, hi, S, m, iv, hD⟩
  have q := hG i S m H hi iv hD
  by_cases lt : i < n
  · exact .inr ⟨wk.goes i H lt q, fun H' => ∃ S m, Iv (i + 1) S m H' ∧ H' D = some (SetK P w D S m), fun H' ⟨S2, m2, v2, d2⟩ => ⟨n - (i + 1), by omega, rfl, lt, S2, m2, v2, d2⟩, fun x H' y => hs i x S m H H' lt iv hD (wk.yields i H x H' lt q y)⟩
  · have e : i = n := by omega
    subst e
    exact .inl ⟨wk.stops H q, hd S m H iv hD⟩
/-- the names that were met: S and m tell them -/
structure Met1 (xs : List Str) (i : Nat) (S : Key → Bool) (m : Nat) : Prop where
  has : ∀ x : Str, S (Sum.inr x) = (xs.take i).any (· == x)
  many : m = cnt xs i
theorem Met1.zero {xs : List Str} : Met1 xs 0 (fun _ => false) 0 := ⟨fun x => rfl, rfl⟩
theorem Met1.next {xs : List Str} {i : Nat} {S : Key → Bool} {m : Nat} (h : Met1 xs i S m) (hi : i < xs.length) (x : Str) (ex : x = xs.getD i Str.empty) :
    Met1 xs (i + 1) (fun j => S j || decide (j = Sum.inr x)) (if S (Sum.inr x) = true then m else m + 1) := by
  subst ex
  refine ⟨fun y => ?_, ?_⟩
  · show (S (Sum.inr y) || decide ((Sum.inr y : Key) = Sum.inr (xs.getD i Str.empty))) = _
    rw [h.has, take_snoc hi, List.any_append]
    by_cases e : y = xs.getD i Str.empty
    · rw [← e]
      simp
    · have e2 : (xs.getD i Str.empty == y) = false := by
        rw [beq_eq_false_iff_ne]
        exact fun z => e z.symm
      rw [decide_eq_false (fun z => e (Sum.inr.inj z))]
      simp only [List.any_cons, List.any_nil, e2, Bool.or_false]
  · rw [h.has, h.many]
    rfl
theorem Met1.few {xs : List Str} {i : Nat} {S : Key → Bool} {m : Nat} (h : Met1 xs i S m) (hi : i < 4000) : m + 1 < scanBound := by
  have := cnt_le xs i
  rw [h.many]
  unfold scanBound
  omega
theorem Met1.all {xs : List Str} {S : Key → Bool} {m : Nat} (h : Met1 xs xs.length S m) : decide ((m : Int) = (xs.length : Nat)) = decide xs.Nodup := by
  rw [h.many]
  exact decide_eq_decide.mpr ⟨fun e => cnt_all.mp (by omega), fun e => by rw [cnt_all.mpr e]⟩
end
end Cc

set_option maxHeartbeats 2000000
namespace Ev
open PySem PySem.Spec PyProof.Rows L2
open Sem (wp)
section
variable {M : Model} {A : Around} {E : Value → Shared → Prop} {s : Shared} {env : Env}
theorem callWith_type_kwB {pos : Pos} {T : String} {first : List Value} {args : List (Bool × Sem Value)} {keywords : List (Option Str × Sem Value)} {Q : Value → Shared → Prop}
    (hplain : args.any (·.1) = false) (hkw : keywords.any (·.1.isNone) = false)
    (h : wpAny M A (evalArgs (.type T) true args keywords) (fun a s1 => wpAny M A (call (.type T) (first ++ a.pos) a.kw) Q E s1) E s) :
    wpAny M A (callWith pos (.type T) first args keywords) Q E s := by
  unfold callWith
  refine wpAny_bind (wpAny_holding (wpAny_mono h (fun a s1 h1 => wpAny_bind (wpAny_standAt ?_)) fun _ _ x => x))
  simp only [hplain, hkw, Bool.or_false]
  refine wpAny_bind (wpAny_pure ?_)
  exact wpAny_bind (wpAny_mono h1 (fun r s2 hr => wpAny_bind (wpAny_holding (wpAny_point (wpAny_pure hr)))) fun _ _ x => x)
theorem callWith_type_kw {pos : Pos} {T : String} {e : Expr} {rest : List Expr} {kws : List Keyword} {Q : Value → Shared → Prop}
    (h : wpAny M A (spliced (backTo pos (starEach (e :: rest) env))) (fun vs s1 => wpAny M A (evalAll ((backToKw pos (keywordEach kws env)).map (·.2)))
      (fun kvs s2 => wpAny M A (call (.type T) vs (((backToKw pos (keywordEach kws env)).filterMap (·.1)).zip kvs)) Q E s2) E s1) E s)
    (he : starEach (e :: rest) env = (false, eval e env) :: starEach rest env := by rfl)
    (hplain : (backTo pos (starEach (e :: rest) env)).any (·.1) = false := by rfl)
    (hall : (backToKw pos (keywordEach kws env)).all (·.1.isSome) = true := by rfl)
    (hkw : (backToKw pos (keywordEach kws env)).any (·.1.isNone) = false := by rfl) :
    wpAny M A (callWith pos (.type T) [] (backTo pos (starEach (e :: rest) env)) (backToKw pos (keywordEach kws env))) Q E s := by
  refine callWith_type_kwB hplain hkw ?_
  rw [he] at h ⊢
  exact PyProof.Rows.evalArgs_kwB hall h
end
/-- enumerate(text, start=k): each sign in a new pair -/
def ItEs (x : Str) (k : Int) : It := ⟨fun i _ => i < x.cps.size, fun i H v H' => ∃ T c, x.cps[i]? = some c ∧ v = .ref T ∧ H T = none ∧ H' = upd H T (.tup [.int (k + (i : Int)), .str ⟨#[c]⟩]), fun i _ => x.cps.size ≤ i⟩
abbrev SignP (x : Str) : Nat → Value → Prop := fun i v => ∃ c u, x.cps[i]? = some c ∧ v = .str ⟨#[c]⟩ u
theorem drawsOf {prog : Program} {w : World} {A : Around} (hh : A.handled = none) (it : Addr) (x : Str) (t : Tok) : ∃ n, Draws prog w A it [it] n (SignP x) (fun i h => h.IsStrIter it (strIterType x) x t i) ∧ n = x.cps.size := by
  refine ⟨_, ?_, rfl⟩
  unfold strIterType
  cases ha : x.cps.all (· < 128)
  · first | exact Draws.strWide hh it x t | (simp only [ha]; exact Draws.strWide hh it x t)
  · first | exact Draws.strAscii hh it x t | (simp only [ha]; exact Draws.strAscii hh it x t)
theorem turn_enumS {P : Program} {w : World} {K : PySem.W.Frag} {elts : List Expr} {kk : Nat} {tpos : Pos} (x : Str) (t : Tok) (k : Int) (e it : Addr) (hne : e ≠ it) :
    Turn P w K (.Tuple elts kk tpos) (ItEs x k) [e, it] e (fun i h => i ≤ x.cps.size ∧ (∃ old, IsEnum h e it (k + (i : Int)) old) ∧ h.IsStrIter it (strIterType x) x t i) where
  mem := by simp
  obj := fun i h st b hb => by
    obtain ⟨_, ⟨old, he⟩, ⟨o, ho, hc, hd⟩⟩ := st
    have e' : b = e ∨ b = it := by simpa using hb
    rcases e' with z | z
    · rw [z]; exact ⟨_, he, fun v q => nomatch q⟩
    · rw [z]; exact ⟨o, ho, fun v q => by rw [hd] at q; cases q⟩
  keep := fun i h h' st kk => by
    obtain ⟨hi, ⟨old, he⟩, ⟨o, ho, r⟩⟩ := st
    exact ⟨hi, ⟨old, kk e (by simp) _ he⟩, ⟨o, kk it (by simp) o ho, r⟩⟩
  item := by
    intro X hP hw hK hc i pins s σ H E I hf st hg
    subst hP hw hK
    obtain ⟨hi, st1, st2⟩ := st
    have hh : X.A.in1.handled = none := I.ok.hd hc
    obtain ⟨n, D, hn⟩ := drawsOf (prog := X.prog) (w := X.w) hh it x t
    have W := GoesN.enumFrom (elts := elts) (x1 := kk) (pos := tpos) k D e hne (by simpa using hne) (by simp)
    have hel : e < s.heap.objs.size := by obtain ⟨_, he⟩ := st1; exact Heap.lt_size he
    have hil : it < s.heap.objs.size := by obtain ⟨_, q, _⟩ := st2; exact Heap.lt_size q
    refine wpAny_mono (W.goes i s (fun v s2 => ∃ y H', Inv X pins σ H' s2 ∧ RelV y v ∧ (ItEs x k).yld i H y H' ∧ (i + 1 ≤ x.cps.size ∧ (∃ old, IsEnum s2.heap e it (k + ((i + 1 : Nat) : Int)) old) ∧ s2.heap.IsStrIter it (strIterType x) x t (i + 1)) ∧ ∀ b ∈ [e, it], H' b = none) E (by rw [hn]; exact hg) ⟨st1, st2⟩ ?_) (fun r s1 q => q) fun _ _ q => q
    rintro v h' tk ⟨T, t1, y, rfl, hT0, ⟨c, u, hcx, rfl⟩, hT⟩ ⟨he', hit'⟩ hk htk
    obtain ⟨oT, hoT, hcT, nT, hdT⟩ := hT
    have hsm : H T = none := I.hok.fresh hT0
    have new : ObjOk X.prog X.w (upd H T (.tup [.int (k + (i : Int)), .str ⟨#[c]⟩])) h' T (.tup [.int (k + (i : Int)), .str ⟨#[c]⟩]) :=
      ⟨by show 2 ≤ sizeLine; decide, [.int (k + (i : Int)) t1, .str ⟨#[c]⟩ u], .cons ⟨_, rfl⟩ (.cons ⟨_, rfl⟩ .nil), ⟨oT, hoT, hcT, nT, hdT⟩⟩
    have I1 : Inv X pins σ (upd H T (.tup [.int (k + (i : Int)), .str ⟨#[c]⟩])) { s with heap := h', toks := tk } :=
      I.turnedNew (ch := [e, it]) (fun b ob hb q => hk b ob hb q) hf hT0 new
    refine ⟨.ref T, _, I1, rfl, ⟨T, c, hcx, rfl, hsm, rfl⟩, ⟨hg, he', hit'⟩, fun b hb => ?_⟩
    have hb' : b < s.heap.objs.size := by
      have e' : b = e ∨ b = it := by simpa using hb
      rcases e' with z | z
      · rw [z]; exact hel
      · rw [z]; exact hil
    rw [upd_ne (Nat.ne_of_lt (Nat.lt_of_lt_of_le hb' hT0))]
    exact (hf b hb).1
  done := by
    intro X hP hw hK hc i pins s σ H E I hf st hg
    subst hP hw hK
    obtain ⟨hi, st1, st2⟩ := st
    have hh : X.A.in1.handled = none := I.ok.hd hc
    obtain ⟨n, D, hn⟩ := drawsOf (prog := X.prog) (w := X.w) hh it x t
    have W := GoesN.enumFrom (elts := elts) (x1 := kk) (pos := tpos) k D e hne (by simpa using hne) (by simp)
    have hin : i = n := by rw [hn]; exact Nat.le_antisymm hi hg
    subst hin
    obtain ⟨f0, f1, f2, f3, f4, f5⟩ := hf it (by simp)
    refine wpAny_mono (W.stops s (fun s1 => Inv X pins σ H s1) E ⟨st1, st2⟩ fun h' tk hk htk => ?_) (fun r s1 q => q) fun _ _ q => q
    exact I.turnedL (ch := [e, it]) hk hf
  self := fun A i s Q E st h => let ⟨_, ⟨_, he⟩, _⟩ := st; wpAny_pyIter_enum he h

def iEnumS (ta tk : TA) : TI := fun σ H R => ta σ H fun vs H1 => tk σ H1 fun zs H2 => ∃ x k, vs = [.str x] ∧ zs = [.int k] ∧ -(2 ^ 63) ≤ k ∧ k < 2 ^ 63 ∧ R (ItEs x k) H2
theorem pi_enumS {X : Cx} {e : Expr} {ta tk : TA} {p pos tpos : Pos} {elts : List Expr} {kk : Nat} {kws : List Keyword} (hg : Gl X "enumerate") (hm : X.mg "enumerate" = none) (ha : PA X [e] ta) (hk : PK X kws tk)
    (hs : starEach [e] X.env = (false, eval e X.env) :: starEach [] X.env := by rfl) (hpl : (backTo pos (starEach [e] X.env)).any (·.1) = false := by rfl)
    (hall : (backToKw pos (keywordEach kws X.env)).all (·.1.isSome) = true := by rfl) (hnone : (backToKw pos (keywordEach kws X.env)).any (·.1.isNone) = false := by rfl)
    (hks : (backToKw pos (keywordEach kws X.env)).filterMap (·.1) = [Str.ofString "start"] := by rfl) :
    PI X (.Tuple elts kk tpos) (.Call (.Name "enumerate" p) [e] kws pos) (iEnumS ta tk) := by
  refine ⟨fun pins s σ H R I h => ?_⟩
  refine wpAny_Call_Name_kw (ld_blt I hg hm boot_enumerate ?_)
  refine callWith_type_kw (thn (ha.run pos pins s σ H _ I h) fun us s1 ⟨vs, H1, I1, r1, q1⟩ => thn (hk.run pos pins s1 σ H1 _ I1 q1) fun ws s2 ⟨zs, H2, I2, r2, q2⟩ => ?_) hs hpl hall hnone
  rw [hks]
  obtain ⟨x, k, rfl, rfl, k0, k1, q⟩ := q2
  cases r1 with
  | cons ra rr =>
  cases rr
  cases r2 with
  | cons rb rr =>
  cases rr
  obtain ⟨t, rfl⟩ := ra
  obtain ⟨t2, rfl⟩ := rb
  show wpAny _ _ (call (.type "enumerate") [.str x t] [(Str.ofString "start", .int k t2)]) _ _ _
  refine enum_begins_start (begins_text x t) trivial k0 k1 fun h' he hit hsz hkeep => wpAny_pyIter_enum he ?_
  have I3 : Inv X pins σ H2 { s2 with heap := h' } := I2.kept (t' := s2.toks) hkeep
  refine ⟨s2.heap.objs.size + 1, [s2.heap.objs.size + 1, s2.heap.objs.size], _, _, H2, rfl, I3, turn_enumS x t k (s2.heap.objs.size + 1) s2.heap.objs.size (Nat.succ_ne_self _), ⟨Nat.zero_le _, ⟨.none, ?_⟩, ⟨_, hit, rfl, ?_⟩⟩, fun b hb => ?_, q⟩
  · simpa using he
  · rfl
  · have e' : b = s2.heap.objs.size + 1 ∨ b = s2.heap.objs.size := by simpa using hb
    have hle : s2.heap.objs.size ≤ b := by
      rcases e' with z | z
      · rw [z]; exact Nat.le_add_right _ _
      · rw [z]; exact Nat.le_refl _
    exact I2.fpOk hle (I2.hok.fresh hle)
/-! ### text * int -/
theorem mul_len {x : Str} {n : Int} (h0 : 0 ≤ n) : (Txt.mul x n).length ≤ x.length * n.toNat := by
  unfold Txt.mul
  by_cases h1 : n < 1
  · rw [if_pos h1]; exact Nat.zero_le _
  · rw [if_neg h1]
    by_cases h2 : (n == 1 || x.length == 0) = true
    · rw [if_pos h2]
      have : 1 ≤ n.toNat := by omega
      exact Nat.le_mul_of_pos_right _ this
    · rw [if_neg h2]
      show ((List.replicate n.toNat x.cps).foldl (· ++ ·) #[]).size ≤ x.length * n.toNat
      rw [size_reps]
      show 0 + n.toNat * x.cps.size ≤ x.cps.size * n.toNat
      rw [Nat.mul_comm]
      omega
theorem op_mulS {X : Cx} : OpR X (binaryOp .Mult) (fun x y H Q => ∃ z k, x = .str z ∧ y = .int k ∧ 0 ≤ k ∧ k ≤ 16777216 ∧ z.length * k.toNat ≤ sizeLine ∧ Q (.str (Txt.mul z k)) H) := by
  intro pins s σ H x y v u Q I rx ry h
  obtain ⟨z, k, rfl, rfl, k0, k1, hz, q⟩ := h
  obtain ⟨t, rfl⟩ := rx
  obtain ⟨t', rfl⟩ := ry
  refine SB.mul ⟨?_, fun h1 h2 h3 => ?_, fun _ _ => ?_⟩ fun t2 tk => ⟨.str (Txt.mul z k), H, I.tok _, ⟨_, rfl⟩, q⟩
  · rw [decide_eq_false (by omega), decide_eq_false (by omega)]; rfl
  · have hk1 : 1 ≤ k.toNat := by omega
    have h4 : z.length ≤ z.length * k.toNat := Nat.le_mul_of_pos_right _ hk1
    have h5 : sizeLine = 16777216 := by decide
    have e : ((z.length * k.toNat : Nat) : Int) = (z.length : Int) * k := by rw [Int.natCast_mul, Int.toNat_of_nonneg k0]
    have h6 : (z.length : Int) ≤ (2 ^ 63 - 1) / k := Int.le_ediv_of_mul_le (by omega) (by omega)
    omega
  · unfold Builtin.Str.tooLong
    exact decide_eq_false (by omega)
/-! ### text[::-1] -/
def revS (x : Str) : Str := ⟨x.cps.toList.reverse.toArray⟩
theorem revS_len (x : Str) : (revS x).length = x.length := by
  show x.cps.toList.reverse.toArray.size = x.cps.size
  simp
theorem sliceBy_rev (x : Str) (u : Tok) : Txt.sliceBy x none none (-1, u) = revS x := by
  refine TL.ext_tl ?_
  show (Txt.sliceBy x none none (-1, u)).cps.toList = x.cps.toList.reverse
  rw [step_rev_list]
  refine List.ext_getElem (by simp [Str.length]) fun i h1 h2 => ?_
  have hi : i < x.cps.size := by simpa [Str.length] using h1
  have hj : x.length - 1 - i < x.cps.size := by
    show x.cps.size - 1 - i < x.cps.size
    omega
  simp only [List.getElem_map, List.getElem_range, List.getElem_reverse, Array.getElem_toList]
  show x.cps.getD (x.length - 1 - i) 0 = _
  unfold Array.getD
  rw [dif_pos hj]
  rfl
def tRevS (te : TE) : TE := fun σ H Q => te σ H fun x H1 => ∃ z, x = .str z ∧ z.length ≤ sizeLine ∧ Q (.str (revS z)) H1
theorem pe_revS {X : Cx} {e : Expr} {te : TE} {k : Nat} {p1 p2 p3 pos : Pos} (he : PE X e te) : PE X (.Subscript e (.Slice none none (some (.UnaryOp .USub (.Constant (.int 1) k p1) p2)) p3) pos) (tRevS te) := by
  refine ⟨fun pins s σ H Q I h => ?_⟩
  refine Subscript_ (thn (he.run pins s σ H _ I h) fun v s1 ⟨x, H1, I1, r1, q1⟩ => ?_)
  obtain ⟨z, rfl, hz, q⟩ := q1
  obtain ⟨t, rfl⟩ := r1
  have hst : PO X (some (.UnaryOp .USub (.Constant (.int 1) k p1) p2)) (tPart (tUn (rU fun i => .int (-i)) (tC (.int 1)))) := po_some (pe_un un_neg pe_int)
  refine wpAny_Slice (thn (po_none.run pins s1 σ H1 (fun o H2 => o = none ∧ H2 = H1) I1 ⟨rfl, rfl⟩) fun vl s2 ⟨l, H2, I2, pl, el, e2⟩ => ?_)
  subst el e2
  refine thn (po_none.run pins s2 σ H2 (fun o H3 => o = none ∧ H3 = H2) I2 ⟨rfl, rfl⟩) fun vu s3 ⟨u, H3, I3, pu, eu, e3⟩ => ?_
  subst eu e3
  refine thn (hst.run pins s3 σ H3 (fun o H4 => o = some (-1) ∧ H4 = H3) I3 ⟨1, rfl, -1, rfl, rfl, rfl⟩) fun vs s4 ⟨o, H4, I4, ps, eo, e4⟩ => ?_
  subst eo e4
  have I5 : Inv X pins σ H4 { s4 with heap := s4.heap.push { cls := .type "slice", data := .fields #[vl, vu, vs] } } := I4.kept (t' := s4.toks) fun b ob q => Heap.get?_push_of_some _ q
  obtain ⟨l, rfl, hl⟩ := IsPart.raw pl
  obtain ⟨w, rfl, hw⟩ := IsPart.raw pu
  obtain ⟨st, rfl, hst2⟩ := IsPart.raw ps
  have el : l = none := by cases l with | none => rfl | some _ => cases hl
  have ew : w = none := by cases w with | none => rfl | some _ => cases hw
  obtain ⟨tk, est⟩ : ∃ tk, st = some (-1, tk) := by
    cases st with
    | none => cases hst2
    | some p =>
      obtain ⟨a, b⟩ := p
      have : a = -1 := Option.some.inj hst2
      exact ⟨b, by rw [this]⟩
  subst el ew est
  show wpAny (model X.prog X.w) X.A (subscriptTail e (.Slice none none (some (.UnaryOp .USub (.Constant (.int 1) k p1) p2)) p3) (.str z t) (.ref s4.heap.objs.size)) (EP X pins σ Q) X.xe { s4 with heap := s4.heap.push { cls := .type "slice", data := .fields #[partValue none, partValue none, partValue (some (-1, tk))] } }
  refine tail_any (ops := [.ref s4.heap.objs.size, .str z t]) (typeIs_str _ _ _) F.slot_str_getitem.lookup ?_ (by with_unfolding_all rfl)
  refine wpAny_getItem_str_slice (l := none) (u := none) (st := some (-1, tk)) ⟨_, Heap.get?_push_size _ rfl, rfl, rfl⟩ rfl ?_
  have hlen : (Txt.sliceBy z none none (-1, tk)).length ≤ sizeLine := by rw [sliceBy_rev, revS_len]; exact hz
  have hr := sliceBy_rev z tk
  unfold Txt.sliceBy at hr hlen
  unfold sliceMade
  have hc : ¬ ((((some ((-1 : Int), tk)).map (·.1)).getD 1 == 1 && (slicePicked z none none (some (-1, tk))).length == z.length) = true) := by
    have : ((((some ((-1 : Int), tk)).map (·.1)).getD 1 == 1)) = false := rfl
    rw [this]; simp
  rw [if_neg hc] at hr hlen ⊢
  exact ⟨hlen, .str _, H4, I5.tok _, ⟨_, rfl⟩, by rw [hr]; exact q⟩
/-! ### great powers -/
def CPowB (i j : Int) : Prop := 0 ≤ j ∧ (Builtin.Int.intBits i : Int) * j ≤ 2 ^ 27
theorem op_powB {X : Cx} : OpR X (binaryOp .Pow) (rI CPowB fun i j => .int (i ^ j.toNat)) := opI fun _ _ _ _ _ _ _ hc q => pow_int hc.1 hc.2 q
/-! ### a list's items behind a written text's sum: a token is out -/
theorem pa_litAdd {X : Cx} {b : Expr} {es : List Expr} {tb : TE} {ta : TA} {x : Str} {j : Nat} {cp bp : Pos} (hb : PE X b tb) (hr : PAT X es ta)
    (hs : starEach (.BinOp (.Constant (.str x) j cp) .Add b bp :: es) X.env = (false, eval (.BinOp (.Constant (.str x) j cp) .Add b bp) X.env) :: starEach es X.env := by rfl) :
    PA X (.BinOp (.Constant (.str x) j cp) .Add b bp :: es) (tCons (tOp (fun u v H Q => ∃ i k, u = .str i ∧ v = .str k ∧ i.length + k.length ≤ sizeLine ∧ Q (.str (i ++ k)) H) (tC (.str x)) tb) ta) := by
  refine ⟨fun pos pins s σ H Q I h => ?_⟩
  rw [hs]
  show wpAny _ _ (spliced ((false, eval (.BinOp (.Constant (.str x) j cp) .Add b bp) X.env) :: backTo pos (starEach es X.env))) _ _ s
  refine Calls.spliced_cons (wpAny_BinOp (Calls.Constant_str ?_))
  have I1 : Inv X pins σ H { s with toks := s.toks + 1 } := I.tok _
  refine wpAny_mono (PySem.wpAny_toks (hb.run pins { s with toks := s.toks + 1 } σ H _ I1 h)) (fun u s2 q => ?_) fun _ _ z => z.2
  obtain ⟨hk, y, H2, I2, r2, q2⟩ := q
  refine wpAny_mono (PySem.wpAny_toks (op_add_str pins s2 σ H2 (.str x) y (.str x s.toks) u (fun w H3 => ta σ H3 fun xs H4 => Q (w :: xs) H4) I2 ⟨_, rfl⟩ r2 q2)) (fun v s3 q => ?_) fun _ _ z => z.2
  obtain ⟨hk3, w, H3, I3, r3, q3⟩ := q
  have h1 : 1 ≤ s3.toks := by
    have : s.toks + 1 ≤ s2.toks := hk
    omega
  exact thn (hr pos pins s3 σ H3 _ h1 I3 q3) fun us s4 ⟨xs, H4, I4, r4, q4⟩ => ⟨w :: xs, H4, I4, .cons r3 r4, q4⟩
end Ev

set_option autoImplicit false
set_option maxHeartbeats 2000000
/-! pairs of two tuples; names out of a tuple within a comprehension -/
namespace Cc
open PySem PySem.Spec PyProof.Rows L2 RZ
theorem walk_zipT {K : PySem.W.Frag} {a b : Addr} {xs ys : List V} {n : Nat} (hn : n = min xs.length ys.length) : Walk (ItzT K a b) n (fun H => SqT K H a xs ∧ SqT K H b ys) (YPair (fun i => xs[i]?) (fun i => ys[i]?)) := by
  subst hn
  refine ⟨fun i _ hi q => ?_, fun _ q => ⟨xs, ys, q.1, q.2, by omega⟩, fun i H v H' _ q y => ?_⟩
  · have h1 : i < xs.length := by omega
    have h2 : i < ys.length := by omega
    exact ⟨xs, ys, xs[i], ys[i], q.1, q.2, by simp [h1], by simp [h2]⟩
  · obtain ⟨T, x, z, h1, h2, h3, h4, h5⟩ := y
    exact ⟨T, x, z, h1, h2, h3, h4 xs q.1, h5 ys q.2⟩
theorem pg_tupk {X : Cx} {K : PySem.W.Frag} (hk : X.K = K) {es : List Expr} {k : Nat} {t : TGs} {n : Nat} {pos : Pos} (hc : X.calm = true) (h : PGs X es t)
    (hn : (assignEach es X.env).length = n := by rfl) (hst : (assignEach es X.env).findIdx? (·.1) = none := by rfl) : PG X (.Tuple es k pos) (gTup K n t) := by
  rw [← hk]
  exact pg_tup hc h hn hst
end Cc

namespace St6
open PySem PySem.Spec PyProof.Rows L2
def top (i : Nat) : Stmt := PySem.Challenge.pw_eventledger_k12_values_that_fit.main.body.getD i (.Pass ⟨0, 0, 0, 0⟩)
abbrev sIsSign : Stmt := top 2
abbrev sIsText : Stmt := top 3
abbrev sIsForm : Stmt := top 10
abbrev sIsField : Stmt := top 11
abbrev sFits : Stmt := top 12
abbrev sIsSort : Stmt := top 13
abbrev sIsOfSort : Stmt := top 14
abbrev sIsWhole : Stmt := top 15
abbrev sIsName : Stmt := top 16
abbrev sIsSmall : Stmt := top 17
abbrev sPen : Stmt := top 19
abbrev sDraw : Stmt := top 20
abbrev sNames : Stmt := top 21
abbrev sLawWord : Stmt := top 22
abbrev sLawText : Stmt := top 23
abbrev sLawNumber : Stmt := top 24
abbrev sLawValue : Stmt := top 25
abbrev sLawValues : Stmt := top 26
abbrev sForm : Stmt := top 27
abbrev sLawWhole : Stmt := top 28
abbrev sIsWord : Stmt := top 29
abbrev sLawOfSort : Stmt := top 30
abbrev sOdd : Stmt := top 31
abbrev sLawFits : Stmt := top 32
abbrev sBent : Stmt := top 33
abbrev sLawEdge : Stmt := top 34
abbrev sLaw : Stmt := top 35
end St6

set_option maxHeartbeats 2000000
namespace St6
open PySem PySem.Spec PyProof.Rows L2
abbrev FnP (K : PySem.W.Frag) (x : Str) (st : Stmt) (f : Addr) (fd : FuncData) : Prop := FunD K x x (defArgs st) (defBody st) (defScope st) [] [] f fd
theorem szl : sizeLine = 16777216 := by decide
theorem same_upd {H : Hp} {p : Addr} {o : HO} (h : H p = none) : Same H (upd H p o) := fun b x e => by
  rw [upd_ne (ne_of_none e h)]
  exact e
/-- all that stood there but the objects of S stands as it stood -/
def Fr (S : List Addr) (H H' : Hp) : Prop := ∀ b o, b ∉ S → H b = some o → H' b = some o
theorem Fr.refl {S : List Addr} {H : Hp} : Fr S H H := fun _ _ _ e => e
theorem Fr.trans {S : List Addr} {H H1 H2 : Hp} (a : Fr S H H1) (b : Fr S H1 H2) : Fr S H H2 := fun c o n e => b c o n (a c o n e)
theorem Fr.mono {S T : List Addr} {H H1 : Hp} (a : Fr S H H1) (h : ∀ x ∈ S, x ∈ T) : Fr T H H1 := fun c o n e => a c o (fun z => n (h c z)) e
theorem fr_same {S : List Addr} {H H1 : Hp} (a : Same H H1) : Fr S H H1 := fun c o _ e => a c o e
theorem Fr.same {H H1 : Hp} (a : Fr [] H H1) : Same H H1 := fun c o e => a c o (by simp) e
theorem fr_upd {S : List Addr} {H : Hp} {p : Addr} {o : HO} (h : p ∈ S) : Fr S H (upd H p o) := fun c x n e => by
  rw [upd_ne (fun q => n (by rw [q]; exact h))]
  exact e
theorem fr_new {S : List Addr} {H : Hp} {p : Addr} {o : HO} (h : H p = none) : Fr S H (upd H p o) := fr_same (same_upd h)
/-- what was not there may change -/
theorem Fr.drop {S : List Addr} {H H1 : Hp} {p : Addr} (a : Fr (p :: S) H H1) (h : H p = none) : Fr S H H1 := fun c x n e => a c x (fun z => by
  rcases List.mem_cons.mp z with q | q
  · rw [q, h] at e
    cases e
  · exact n q) e
/-- a fresh place was fresh before -/
theorem Fr.free {S : List Addr} {H H1 : Hp} {p : Addr} (a : Fr S H H1) (n : p ∉ S) (h : H1 p = none) : H p = none := by
  cases q : H p with
  | none => rfl
  | some o =>
    rw [a p o n q] at h
    cases h
/-! ### the pen -/
def pk (cl : Addr) (a b : Int) : List (Key × V) := [(Sum.inr "cells", .ref cl), (Sum.inr "at", .int a), (Sum.inr "left", .int b)]
theorem pk_cells (cl : Addr) (a b : Int) : valV (pk cl a b) (Sum.inr ("cells" : Str)) = some (.ref cl) := valV_pos rfl
theorem pk_at (cl : Addr) (a b : Int) : valV (pk cl a b) (Sum.inr ("at" : Str)) = some (.int a) := by
  kernel_rfl
theorem pk_left (cl : Addr) (a b : Int) : valV (pk cl a b) (Sum.inr ("left" : Str)) = some (.int b) := by
  kernel_rfl
theorem pk_put_at (cl : Addr) (a b x : Int) : putK (pk cl a b) (Sum.inr ("at" : Str)) (.int x) = pk cl x b := by
  kernel_rfl
theorem pk_put_left (cl : Addr) (a b x : Int) : putK (pk cl a b) (Sum.inr ("left" : Str)) (.int x) = pk cl a x := by
  kernel_rfl
theorem get_cells {H : Hp} {d cl : Addr} {a b : Int} (h : H d = some (.dK (pk cl a b))) : DGet H d (.str "cells") (some (.ref cl)) := by
  have e := DGet.k (k := Sum.inr ("cells" : Str)) h
  rw [pk_cells] at e
  exact e
theorem get_at {H : Hp} {d cl : Addr} {a b : Int} (h : H d = some (.dK (pk cl a b))) : DGet H d (.str "at") (some (.int a)) := by
  have e := DGet.k (k := Sum.inr ("at" : Str)) h
  rw [pk_at] at e
  exact e
theorem get_left {H : Hp} {d cl : Addr} {a b : Int} (h : H d = some (.dK (pk cl a b))) : DGet H d (.str "left") (some (.int b)) := by
  have e := DGet.k (k := Sum.inr ("left" : Str)) h
  rw [pk_left] at e
  exact e
theorem pk_small (cl : Addr) (a b : Int) : (pk cl a b).length < sizeLine := by
  rw [szl]
  show 3 < 16777216
  omega
theorem put_at {H : Hp} {d cl : Addr} {a b : Int} (x : Int) (h : H d = some (.dK (pk cl a b))) : DPut H d (.str "at") (.int x) (upd H d (.dK (pk cl x b))) := by
  have e := DPut.k (k := Sum.inr ("at" : Str)) (v := .int x) h (pk_small _ _ _)
  rw [pk_put_at] at e
  exact e
theorem put_left {H : Hp} {d cl : Addr} {a b : Int} (x : Int) (h : H d = some (.dK (pk cl a b))) : DPut H d (.str "left") (.int x) (upd H d (.dK (pk cl a x))) := by
  have e := DPut.k (k := Sum.inr ("left" : Str)) (v := .int x) h (pk_small _ _ _)
  rw [pk_put_left] at e
  exact e
theorem pk_merge (cl : Addr) (a b : Int) : mergeK [] (pk cl a b) = pk cl a b := by
  kernel_rfl
/-- a pen: its dict at d, its cells at cl, the cells ns, at most n were drawn -/
structure Pen (H : Hp) (d cl : Addr) (ns : List Int) (n : Nat) : Prop where
  ex : ∃ a b : Int, H d = some (.dK (pk cl a b)) ∧ 0 ≤ a ∧ a ≤ (n : Int) ∧ 0 ≤ b
  cs : H cl = some (.lst (ns.map V.int))
  len : ns.length ≤ 63
theorem Pen.mono {H : Hp} {d cl : Addr} {ns : List Int} {n m : Nat} (a : Pen H d cl ns n) (k : n ≤ m) : Pen H d cl ns m := by
  obtain ⟨⟨x, y, h1, h2, h3, h4⟩, h5, h6⟩ := a
  exact ⟨⟨x, y, h1, h2, by omega, h4⟩, h5, h6⟩
theorem Pen.fr {S : List Addr} {H H1 : Hp} {d cl : Addr} {ns : List Int} {n : Nat} (a : Pen H d cl ns n) (f : Fr S H H1) (h1 : d ∉ S) (h2 : cl ∉ S) : Pen H1 d cl ns n := by
  obtain ⟨⟨x, y, e1, r⟩, e2, h6⟩ := a
  exact ⟨⟨x, y, f _ _ h1 e1, r⟩, f _ _ h2 e2, h6⟩
theorem Pen.ne {H : Hp} {d cl : Addr} {ns : List Int} {n : Nat} (a : Pen H d cl ns n) : cl ≠ d := by
  obtain ⟨⟨x, y, e1, r⟩, e2, h6⟩ := a
  exact ne_of e2 e1 (by intro z; cases z)
theorem cut_map (ns : List Int) (lo hi : Option Int) : ∃ ms : List Int, cutV (ns.map V.int) lo hi = ms.map V.int ∧ ms.length ≤ ns.length := by
  refine ⟨(ns.drop (HT.sIx (ns.map V.int).length 0 lo)).take (HT.sIx (ns.map V.int).length (ns.map V.int).length hi - HT.sIx (ns.map V.int).length 0 lo), ?_, ?_⟩
  · unfold cutV
    rw [List.map_take, List.map_drop]
  · rw [List.length_take, List.length_drop]
    omega
theorem dpAll_ints {K : PySem.W.Frag} {H : Hp} : ∀ ns : List Int, DpAll K H (ns.map V.int) (ns.map PyData.int)
  | [] => .nil
  | n :: r => .cons (.int n) (dpAll_ints r)
theorem scPen : FnScope ["script", "cell"] ["script"] (defScope sPen) := ⟨rfl, rfl, rfl, by decide +kernel, rfl, by decide +kernel, by decide +kernel⟩
def spPen (K : PySem.W.Frag) : Sp := fun vs H Q _ => ∃ (a : Addr) (ns : List Int), vs = [.ref a] ∧ SqL K H a (ns.map V.int) ∧ ns.length ≤ 63 ∧ ∀ H' d cl ms, Same H H' → H d = none → H cl = none → Pen H' d cl ms 0 → Q (.ref d) H'
theorem scDraw : FnScope ["pen", "many", "digit", "at", "cell", "number", "again"] ["pen", "many"] (defScope sDraw) := ⟨rfl, rfl, rfl, by decide +kernel, rfl, by decide +kernel, by decide +kernel⟩
def spDraw : Sp := fun vs H Q _ => ∃ (d cl : Addr) (ns : List Int) (many : Int) (n : Nat), vs = [.ref d, .int many] ∧ Pen H d cl ns n ∧ n ≤ 1000000 ∧ 0 < many ∧ many ≤ 100000000 ∧ ∀ H' k, Fr [d] H H' → Pen H' d cl ns (n + 1) → 0 ≤ k → k < many → Q (.int k) H'
section
variable {P : Program} {w : World} {K : PySem.W.Frag} {mg : Str → Option Value} {base : Heap}
theorem ok_pen {f : Addr} {fd : FuncData} {k : Nat} (F : FnP K "_law_pen" sPen f fd) : FnOk P w K mg base CX0 (k + 1) f fd ["script"] (spPen K) := by
  refine F.ok scPen (fun vs H Q E h => ?_) (fun cdv A outer s H vs Q E hr h => ?_)
  · obtain ⟨a, ns, rfl, _⟩ := h
    rfl
  · obtain ⟨a, ns, rfl, hS, hl, q⟩ := h
    refine ⟨_, PSs.nox (pss_one (ps_ret (pe_disp (pps_cons pe_str
      (pe_lc (own := [("cell", 1)]) (g := gName 1) (tt := tYes) rfl scPen.nd (pi_list (pe_slice sl_list (pv 0) po_none (po_some pe_int))) (blkOk_by (own := [("cell", 1)]) (N := ["script", "cell"]) (sc := defScope sPen) (by decide +kernel))
        (fun _ _ _ _ _ => pg_name (i := 1) scPen.nd rfl (Or.inl rfl)) (fun _ _ _ _ _ => pts_nil) (fun _ _ _ _ _ => pv 1))
      (pps_cons pe_str pe_int (pps_cons pe_str pe_int pps_nil))) (by rfl) (by rfl) (fun z => by cases z) (by decide)))), ?_⟩
    obtain ⟨ms, em, lm⟩ := cut_map ns none (some 63)
    intro d hd
    have s1 := same_upd (o := HO.dK []) hd
    refine ⟨_, rfl, 63, rfl, a, _, rfl, s1.seq hS, fun p np => ?_⟩
    have ndp : d ≠ p := ne_of_none upd_same np
    have s2 := same_upd (o := HO.lst (cutV (ns.map V.int) none (some 63))) np
    rw [em] at s2 ⊢
    refine ⟨p, rfl, ⟨_, SqL.of upd_same⟩, fun D nD => ?_⟩
    have nDp : p ≠ D := ne_of_none upd_same nD
    have nDd : d ≠ D := ne_of_none (s2 _ _ upd_same) nD
    have s3 := same_upd (o := HO.lst []) nD
    refine lc_list (K := K) (a := p) (xs := ms.map V.int) (fun i H' => Fr [D] (upd (upd H d (.dK [])) p (.lst (ms.map V.int))) H' ∧ H' D = some (.lst ((ms.take i).map V.int))) ⟨fr_upd (List.mem_singleton_self _), upd_same⟩ (fun i H' _ ⟨f, _⟩ => SqL.of (f _ _ (by simpa using nDp) upd_same)) ?_ ?_
    · rintro i x H' hx ⟨f, hD⟩
      have hi : i < ms.length := by
        have q1 := (List.getElem?_eq_some_iff.mp hx).1
        rw [List.length_map] at q1
        exact q1
      have ex : x = V.int ms[i] := by
        rw [List.getElem?_map, List.getElem?_eq_getElem hi] at hx
        exact (Option.some.inj hx).symm
      refine ⟨rfl, _, rfl, _, hD, ?_, f.trans (fr_upd (List.mem_singleton_self _)), ?_⟩
      · rw [List.length_map, List.length_take, szl]
        omega
      · rw [upd_same, ex, List.take_succ_eq_append_getElem hi, List.map_append]
        rfl
    · rintro H' ⟨f, hD⟩
      rw [List.length_map, List.take_length] at hD
      have hd' : H' d = some (.dK []) := f _ _ (by simpa using nDd) (s2 _ _ upd_same)
      refine ⟨hd', pk D 0 0, rfl, by show 3 ≤ 15; omega, ?_⟩
      have cD : H D = none := s1.free (s2.free nD)
      have all : Same H (upd H' d (.dK (mergeK [] (pk D 0 0)))) := fun b o e => by
        rw [upd_ne (ne_of_none e hd)]
        exact f _ _ (by simpa using ne_of_none e cD) (s2 _ _ (s1 _ _ e))
      refine q _ d D ms all hd cD ⟨⟨0, 0, ?_, Int.le_refl _, Int.le_refl _, Int.le_refl _⟩, ?_, by omega⟩
      · rw [upd_same, pk_merge]
      · rw [upd_ne nDd.symm]
        exact hD
theorem pw_pos : (0 : Int) < 4294967311 := by decide
theorem ok_draw {f : Addr} {fd : FuncData} {k : Nat} (F : FnP K "_law_draw" sDraw f fd) (ml : mg "len" = none) (ma : mg "abs" = none) (mr : mg "range" = none) : FnOk P w K mg base CX0 (k + 1) f fd ["pen", "many"] spDraw := by
  refine F.ok scDraw (fun vs H Q E h => ?_) (fun cdv A outer s H vs Q E hr h => ?_)
  · obtain ⟨d, cl, ns, m, n, rfl, _⟩ := h
    rfl
  · obtain ⟨d, cl, ns, m, n, rfl, hP, hn, m0, m1, q⟩ := h
    obtain ⟨⟨t, c, hd, t0, tn, c0⟩, hl, ln⟩ := id hP
    have hu := hu_of hr
    have ncd := hP.ne
    refine ⟨_, PSs.nox (pss_cons (ps_if (pt_cmpR op_gt (pe_dget hu (pv 0) pe_str (fun _ _ => rfl)) (pe_int) (nomark _)) (pss_cons (ps_set (i := 2) scDraw.nd rfl (.inl rfl) (pe_op op_modN (pe_dget hu (pv 0) pe_str (fun _ _ => rfl)) (pv 1)))
      (pss_cons (ps_dput hu (pv 0) pe_str (pe_op op_fdivN (pe_dget hu (pv 0) pe_str (fun _ _ => rfl)) (pv 1)) rfl)
      (pss_one (ps_ret (pv 2))))) pss_nil)
      (pss_cons (ps_set (i := 3) scDraw.nd rfl (.inl rfl) (pe_dget hu (pv 0) pe_str (fun _ _ => rfl)))
      (pss_cons (ps_dput hu (pv 0) pe_str (pe_op op_add (pv 3) (pe_int)) rfl)
      (pss_cons (ps_set (i := 4) scDraw.nd rfl (.inl rfl) (pe_op op_add (pe_op op_mul (pv 3) (pv 3)) (pe_int)))
      (C8.pss_cut (ps_if (pt_cmpR (op_neD hr.units) (pe_dget hu (pv 0) pe_str (fun _ _ => rfl)) (pe_lst pa_nil) (nomark _)) (pss_one (ps_set (i := 4) scDraw.nd rfl (.inl rfl) (pe_ix ix_list (pe_dget hu (pv 0) pe_str (fun _ _ => rfl)) (pe_op op_modN (pv 3) (pe_callB call_len_seq (by rfl) ml PySem.boot_len (pa_cons (pe_dget hu (pv 0) pe_str (fun _ _ => rfl)) pa_nil))) (fun _ _ => rfl)))) pss_nil)
      (C8.pss_cut (ps_if (PW.pt (pw_and (pt_cmpR op_lt (pv 3) (pe_callB call_len_seq (by rfl) ml PySem.boot_len (pa_cons (pe_dget hu (pv 0) pe_str (fun _ _ => rfl)) pa_nil)) (nomark _)) (pw_and1 (pt_cmpR op_ge (pe_callB call_abs (by rfl) ma (by decide +kernel) (pa_cons (pv 4) pa_nil)) (pe_op op_pow (pe_int) (pe_int)) (nomark _))))) (pss_cons (ps_dput hu (pv 0) pe_str (pe_op op_fdivN (pe_callB call_abs (by rfl) ma (by decide +kernel) (pa_cons (pv 4) pa_nil)) (pv 1)) rfl)
      (pss_one (ps_ret (pe_op op_modN (pe_callB call_abs (by rfl) ma (by decide +kernel) (pa_cons (pv 4) pa_nil)) (pv 1))))) pss_nil)
      (pss_cons (ps_set (i := 5) scDraw.nd rfl (.inl rfl) (pe_op op_modN (pe_op op_mul (pe_op op_add (pe_op op_add (pe_op op_modN (pv 4) (pe_int)) (pe_op op_mul (pe_int) (pv 3))) (pe_int)) (pe_int)) (pe_int)))
      (pss_cons (ps_for PassesOwn.never rfl (pi_range1 (by rfl) mr (pa_cons pe_int pa_nil)) (pg_name (i := 6) scDraw.nd rfl (.inl rfl)) (pss_cons (ps_set (i := 5) scDraw.nd rfl (.inl rfl) (pe_op op_add (pe_op op_add (pe_op op_add (pe_op op_mul (pv 5) (pv 5)) (pe_op op_mul (pe_int) (pv 5))) (pv 3)) (pv 6)))
      (pss_one (ps_set (i := 5) scDraw.nd rfl (.inl rfl) (pe_op op_modN (pv 5) (pe_int))))))
      (pss_one (ps_ret (pe_op op_modN (pe_op op_fdivN (pv 5) (pe_int)) (pv 1)))))))))))), ?_⟩
    have dm : ∀ x : Int, 0 ≤ x.fmod m ∧ x.fmod m < m := fun x => ⟨Int.fmod_nonneg_of_pos x m0, Int.fmod_lt_of_pos x m0⟩
    have mN : m ≠ 0 := by omega
    have mB : m.natAbs < 1073741824 := by omega
    have dp : ∀ x : Int, 0 ≤ x → 0 ≤ x.fdiv m := fun x h => by
      rw [Int.fdiv_eq_ediv_of_nonneg x (by omega)]
      exact Int.ediv_nonneg h (by omega)
    -- pen["left"] > 0
    refine ⟨_, rfl, d, _, rfl, get_left hd, c, 0, rfl, rfl, _, rfl, ite2 (fun e => ?_) (fun e => ?_)⟩
    · refine ⟨_, rfl, d, _, rfl, get_left hd, _, rfl, c, m, rfl, rfl, mN, ?_⟩
      refine ⟨_, rfl, d, _, rfl, get_left hd, _, rfl, c, m, rfl, rfl, ⟨mN, mB⟩, _, rfl, d, _, rfl, put_left _ hd, ?_⟩
      refine ⟨_, rfl, q _ _ (fr_upd (List.mem_singleton_self _)) ⟨⟨t, c.fdiv m, upd_same, t0, by omega, dp c c0⟩, ?_, ln⟩ (dm c).1 (dm c).2⟩
      rw [upd_ne ncd]
      exact hl
    · refine ⟨_, rfl, d, _, rfl, get_at hd, ?_⟩
      refine ⟨_, rfl, t, 1, rfl, rfl, _, rfl, d, _, rfl, put_at _ hd, ?_⟩
      refine ⟨_, rfl, _, rfl, t, t, rfl, rfl, .inl (by omega), _, 5, rfl, rfl, ?_⟩
      have hd1 : (upd H d (.dK (pk cl (t + 1) c))) d = some (.dK (pk cl (t + 1) c)) := upd_same
      have hl1 : (upd H d (.dK (pk cl (t + 1) c))) cl = some (.lst (ns.map V.int)) := by
        rw [upd_ne ncd]
        exact hl
      have b1 : Fr [d] H (upd H d (.dK (pk cl (t + 1) c))) := fr_upd (List.mem_singleton_self _)
      generalize (upd H d (.dK (pk cl (t + 1) c))) = H1 at hd1 hl1 b1
      refine ⟨fun σ' H' => ∃ cell, σ' = [some (.ref d), some (.int m), none, some (.int t), some (.int cell), none, none] ∧ H' d = some (.dK (pk cl (t + 1) c)) ∧ H' cl = some (.lst (ns.map V.int)) ∧ Fr [d] H H', ?_, ?_⟩
      · refine ⟨_, rfl, d, _, rfl, get_cells hd1, Nat.zero_le _, fun p np => ?_⟩
        have hd2 : (upd H1 p (.lst [])) d = some (.dK (pk cl (t + 1) c)) := by rw [upd_ne (ne_of_none hd1 np)]; exact hd1
        have hl2 : (upd H1 p (.lst [])) cl = some (.lst (ns.map V.int)) := by rw [upd_ne (ne_of_none hl1 np)]; exact hl1
        have b2 : Fr [d] H (upd H1 p (.lst [])) := b1.trans (fr_new np)
        have hp2 : (upd H1 p (.lst [])) p = some (.lst []) := upd_same
        generalize (upd H1 p (.lst [])) = H2 at hd2 hl2 b2 hp2
        refine ⟨.list (ns.map PyData.int), .list [], .lst (SqL.of hl2) (dpAll_ints ns), .lst (SqL.of hp2) .nil, PySem.W.ke_shaped_ints ns, by decide +kernel, _, rfl, ite2 (fun e => ?_) (fun e => ?_)⟩
        · have n0 : 0 < ns.length := by
            cases ns with
            | nil => exact absurd e (by decide +kernel)
            | cons x r => exact Nat.succ_pos _
          have hlen : ((ns.map V.int).length : Int) ≠ 0 := by rw [List.length_map]; omega
          have f0 : 0 ≤ t.fmod ((ns.map V.int).length : Int) := Int.fmod_nonneg_of_pos t (by rw [List.length_map]; omega)
          have f1 : t.fmod ((ns.map V.int).length : Int) < ((ns.map V.int).length : Int) := Int.fmod_lt_of_pos t (by rw [List.length_map]; omega)
          obtain ⟨j, ej⟩ := Int.eq_ofNat_of_zero_le f0
          have hj : j < ns.length := by
            rw [ej, List.length_map] at f1
            exact Int.ofNat_lt.mp f1
          refine ⟨_, rfl, d, _, rfl, get_cells hd2, _, rfl, _, rfl, d, _, rfl, get_cells hd2, cl, _, rfl, .inl (SqL.of hl2), t, _, rfl, rfl, hlen, cl, _, (j : Int), .int ns[j], rfl, congrArg V.int ej, SqL.of hl2, atI_nat (j := j) ?_, ns[j], rfl, hd2, hl2, b2⟩
          rw [List.getElem?_map, List.getElem?_eq_getElem hj]
          rfl
        · exact ⟨_, rfl, hd2, hl2, b2⟩
      · rintro σ' H' ⟨cell, rfl, hd3, hl3, b3⟩
        refine ⟨fun σ2 H2 => σ2 = [some (.ref d), some (.int m), none, some (.int t), some (.int cell), none, none] ∧ H2 = H', ?_, ?_⟩
        · refine ⟨_, rfl, _, rfl, d, _, rfl, get_cells hd3, cl, _, rfl, .inl (SqL.of hl3), t, _, rfl, rfl, _, rfl, ite2 (fun e => ?_) (fun e => ?_)⟩
          · refine ⟨_, rfl, cell, rfl, 10, 18, rfl, rfl, ⟨by decide, by decide, by decide⟩, _, _, rfl, rfl, _, rfl, ite2 (fun e2 => ?_) (fun e2 => ⟨rfl, rfl⟩)⟩
            have c1 : 0 ≤ (if cell < 0 then -cell else cell) := by
              by_cases z : cell < 0
              · rw [if_pos z]; omega
              · rw [if_neg z]; omega
            refine ⟨_, rfl, cell, rfl, _, rfl, _, m, rfl, rfl, ⟨mN, mB⟩, _, rfl, d, _, rfl, put_left _ hd3, ?_⟩
            refine ⟨_, rfl, cell, rfl, _, rfl, _, m, rfl, rfl, mN, q _ _ (b3.trans (fr_upd (List.mem_singleton_self _))) ⟨⟨t + 1, (if cell < 0 then -cell else cell).fdiv m, upd_same, by omega, by omega, dp _ c1⟩, ?_, ln⟩ (dm _).1 (dm _).2⟩
            rw [upd_ne ncd]
            exact hl3
          · exact iteF ⟨rfl, rfl⟩
        · rintro σ2 H2 ⟨rfl, rfl⟩
          have rb : ∀ x : Int, 0 ≤ x.fmod 4294967311 ∧ x.fmod 4294967311 < 4294967311 := fun x => ⟨Int.fmod_nonneg_of_pos _ (by decide), Int.fmod_lt_of_pos _ (by decide)⟩
          refine ⟨_, rfl, cell, 4294967311, rfl, rfl, (show (4294967311 : Int) ≠ 0 by decide), _, rfl, 65539, t, rfl, rfl, .inl (by decide), _, _, rfl, rfl, _, 17, rfl, rfl, _, 48271, rfl, rfl, .inr (by decide), _, 4294967311, rfl, rfl, (show (4294967311 : Int) ≠ 0 by decide), ?_⟩
          refine ⟨3, rfl, by decide, by decide, for_range (n := 3) (fun i σ' H3 => ∃ (x : Int) (y : Option V), σ' = [some (.ref d), some (.int m), none, some (.int t), some (.int cell), some (.int x), y] ∧ 0 ≤ x ∧ x < 4294967311 ∧ H3 = H2) ⟨_, none, rfl, (rb _).1, (rb _).2, rfl⟩ ?_ ?_⟩
          · rintro i σ' H3 hi ⟨x, y, rfl, x0, x1, rfl⟩
            refine ⟨_, rfl, _, rfl, x, x, rfl, rfl, .inl (by omega), _, rfl, 69621, x, rfl, rfl, .inl (by decide), _, _, rfl, rfl, _, rfl, _, t, rfl, rfl, _, rfl, _, _, rfl, rfl, ?_⟩
            refine ⟨_, rfl, _, 4294967311, rfl, rfl, (show (4294967311 : Int) ≠ 0 by decide), ?_⟩
            exact ⟨_, _, rfl, (rb _).1, (rb _).2, rfl⟩
          · rintro σ' H3 ⟨x, y, rfl, x0, x1, rfl⟩
            refine ⟨_, rfl, x, 32, rfl, rfl, ⟨by decide, by decide⟩, _, rfl, _, m, rfl, rfl, mN, ?_⟩
            exact q _ _ b3 ⟨⟨t + 1, c, hd3, by omega, by omega, c0⟩, hl3, ln⟩ (dm _).1 (dm _).2
end
end St6

set_option autoImplicit false
set_option maxHeartbeats 4000000
namespace St6
open PySem PySem.Spec PyProof.Rows L2 Tg Cc
/-! the program's forms, told of any thing -/
abbrev Ok (d : PyData) : Prop := Bd 1000 20 d
theorem lineN {n : Nat} (h : n ≤ 1000) : n ≤ sizeLine := by
  rw [szl]
  omega
def lowC (c : Nat) : Bool := decide (97 ≤ c) && decide (c ≤ 122)
def spSmall (K : PySem.W.Frag) : Sp := fun vs H Q _ => ∃ v d n, vs = [v, .int (n : Nat)] ∧ Th K H v d ∧ Ok d ∧ ∀ H', Same H H' → Q (.bl (smallB n d)) H'
def spName (K : PySem.W.Frag) : Sp := fun vs H Q _ => ∃ v d, vs = [v] ∧ Th K H v d ∧ Ok d ∧ ∀ H', Same H H' → Q (.bl (smallB 12 d)) H'
def spSort (K : PySem.W.Frag) : Sp := fun vs H Q _ => ∃ v d, vs = [v] ∧ Th K H v d ∧ Ok d ∧ ∀ H', Same H H' → Q (.bl (sortB d)) H'
def spField (K : PySem.W.Frag) : Sp := fun vs H Q _ => ∃ v d, vs = [v] ∧ Th K H v d ∧ Ok d ∧ ∀ H', Same H H' → Q (.bl (fieldB d)) H'
def spForm (K : PySem.W.Frag) : Sp := fun vs H Q _ => ∃ v d, vs = [v] ∧ Th K H v d ∧ Ok d ∧ ∀ H', Same H H' → Q (.bl (formB d)) H'
theorem smallB_not {n : Nat} {d : PyData} (h : isStr d = false) : smallB n d = false := by
  cases d <;> first | rfl | cases h
theorem le_sign (c : Nat) : (!decide (((⟨#[c]⟩ : Str).cps.toList) < ("a" : Str).cps.toList)) = decide (97 ≤ c) := by
  show (!decide ([c] < [97])) = _
  by_cases h : c < 97
  · have e : [c] < [97] := List.Lex.rel h
    rw [decide_eq_true e, decide_eq_false (by omega)]
    rfl
  · have e : ¬ [c] < [97] := fun z => by
      cases z with
      | rel z => exact h z
      | cons z => cases z
    rw [decide_eq_false e, decide_eq_true (by omega)]
    rfl
theorem sign_le (c : Nat) : (!decide (("z" : Str).cps.toList < ((⟨#[c]⟩ : Str).cps.toList))) = decide (c ≤ 122) := by
  show (!decide ([122] < [c])) = _
  by_cases h : 122 < c
  · have e : [122] < [c] := List.Lex.rel h
    rw [decide_eq_true e, decide_eq_false (by omega)]
    rfl
  · have e : ¬ [122] < [c] := fun z => by
      cases z with
      | rel z => exact h z
      | cons z => cases z
    rw [decide_eq_false e, decide_eq_true (by omega)]
    rfl
section
variable {P : Program} {w : World} {K : PySem.W.Frag} {mg : Str → Option Value} {base : Heap}
theorem scsmall : FnScope ["thing", "longest", "sign"] ["thing", "longest"] (defScope sIsSmall) := ⟨rfl, rfl, rfl, by decide +kernel, rfl, by decide +kernel, by decide +kernel⟩
theorem ok_small {f : Addr} {fd : FuncData} (F : FnP K "_is_small" sIsSmall f fd)  (mb_isinstance : mg "isinstance" = none) (mb_str : mg "str" = none) (mb_len : mg "len" = none) (mb_all : mg "all" = none)   : FnOk P w K mg base CX0 1 f fd ["thing", "longest"] (spSmall K) := by
  refine F.ok scsmall (fun vs H Q E h => ?_) (fun cdv A outer s H vs Q E hr h => ?_)
  · obtain ⟨v, d, n, rfl, _⟩ := h
    rfl
  · obtain ⟨v, d, n, rfl, hT, hB, q⟩ := h
    have hu := hu_of hr
    refine ⟨_, PSs.nox (pss_cons (ps_if (PW.pt (pw_or (pt_not (pt_val (pe_callB call_isi (by rfl) mb_isinstance (by decide +kernel) (pa_cons (pv 0) (pa_cons (pe_bltn (v := .ty "str") (by rfl) mb_str (by decide +kernel) rfl) pa_nil))))) (pw_or1 (pt_not (pt_chain op_le op_le (pe_int) (pe_callB call_len_str (by rfl) mb_len (by decide +kernel) (pa_cons (pv 0) pa_nil)) (pv 1)))))) (pss_one (ps_ret (pe_bl))) (pss_nil))
      (pss_one (ps_ret (pe_callB (cr_all rfl) (by rfl) mb_all (by decide +kernel) (pa_cons (pe_lc (own := [("sign", 2)]) (g := gName 2) (tt := tYes) rfl scsmall.nd (pi_str (pv 0)) (blkOk_by (own := [("sign", 2)]) (N := ["thing", "longest", "sign"]) (sc := defScope sIsSmall) (by decide +kernel)) (fun _ _ _ _ _ => pg_name (i := 2) scsmall.nd rfl (Or.inl rfl)) (fun _ _ _ _ _ => pts_nil) (fun _ _ _ _ _ => pe_chain op_le_str op_le_str (pe_str) (pv 2) (pe_str))) pa_nil))))), ?_⟩
    refine ⟨_, rfl, v, .ty "str", _, _, _, rfl, .ty "str", hT.ty, kit_ty (kit_str d), _, rfl, ?_⟩
    cases hs : isStr d with
    | false =>
      refine iteT (iteT ?_)
      have e := q H (Same.refl H)
      rw [smallB_not hs] at e
      exact e
    | true =>
      obtain ⟨z, rfl⟩ := isStr_eq hs
      obtain rfl := hT.asStr
      have hz := (bd_str.mp hB).1
      refine iteF ⟨_, rfl, z, rfl, lineN hz, _, _, rfl, rfl, _, rfl, ?_⟩
      have val : smallB n (.str z) = ((decide (1 ≤ z.length) && decide (z.length ≤ n)) && z.cps.toList.all lowC) := rfl
      refine ite2 (fun e1 => ⟨_, rfl, _, _, rfl, rfl, _, rfl, ite2 (fun e2 => ?_) (fun e2 => ?_)⟩) (fun e1 => ⟨_, rfl, iteT ?_⟩)
      · have c2 : ¬ z.length ≤ n := fun y => by
          rw [decide_eq_true (show (z.length : Int) ≤ (n : Int) by omega)] at e2
          cases e2
        have e := q H (Same.refl H)
        rw [val, decide_eq_false c2, Bool.and_false, Bool.false_and] at e
        exact e
      · have c1 : 1 ≤ z.length := by
          have := of_decide_eq_true e1
          omega
        have c2 : z.length ≤ n := by
          have : (!decide ((z.length : Int) ≤ (n : Int))) = false := by simpa using e2
          rw [Bool.not_eq_false'] at this
          have := of_decide_eq_true this
          omega
        rw [val, decide_eq_true c1, decide_eq_true c2, Bool.true_and, Bool.true_and] at q
        refine ⟨_, rfl, z, rfl, fun D nD => ?_⟩
        refine lc_acc (walk_str (z := z)) (fun i acc H' => But D H H' ∧ acc = (z.cps.toList.take i).map fun c => V.bl (lowC c)) ⟨But.refl.upd, rfl⟩ (fun _ _ _ _ _ _ => trivial) ?_ ?_
        · rintro i x acc H1 H2 hi la ⟨b, ea⟩ hD ⟨rfl, c, hc, rfl⟩
          have hc2 : z.cps.toList[i]? = some c := by rw [Array.getElem?_toList]; exact hc
          have hl : z.length = z.cps.size := rfl
          have put : ∀ k : Bool, k = lowC c → Push D i (fun i acc H' => But D H H' ∧ acc = (z.cps.toList.take i).map fun c => V.bl (lowC c)) (.bl k) H2 := fun k ek => by
            refine push hD la (by omega) ⟨b.upd, ?_⟩
            rw [ea, ek, List.take_succ, hc2, List.map_append]
            rfl
          refine ⟨rfl, _, rfl, _, _, rfl, rfl, _, rfl, ite2 (fun e => ?_) (fun e => ?_)⟩
          · rw [le_sign] at e
            exact ⟨_, _, rfl, rfl, put _ (by rw [sign_le]; unfold lowC; rw [e, Bool.true_and])⟩
          · rw [le_sign] at e
            exact put _ (by unfold lowC; rw [Bool.eq_false_iff.mpr e, Bool.false_and])
        · rintro acc H' la ⟨b, rfl⟩ hD
          rw [List.take_of_length_le (by rw [Array.length_toList]; exact Nat.le_refl _)] at hD
          refine ⟨D, z.cps.toList.map lowC, rfl, SqL.of (by rw [hD, List.map_map]; rfl), ?_⟩
          rw [List.all_map]
          exact q H' (b.new nD)
      · have c1 : ¬ 1 ≤ z.length := fun y => e1 (decide_eq_true (by omega))
        have e := q H (Same.refl H)
        rw [val, decide_eq_false c1, Bool.false_and, Bool.false_and] at e
        exact e
theorem scname : FnScope ["thing"] ["thing"] (defScope sIsName) := ⟨rfl, rfl, rfl, by decide +kernel, rfl, by decide +kernel, by decide +kernel⟩
theorem ok_name {f : Addr} {fd : FuncData} (F : FnP K "is_name" sIsName f fd) {f__is_small : Addr} {fd__is_small : FuncData} (c__is_small : Cl P w K mg base CX0 "_is_small" 1 ["thing", "longest"] (spSmall K) f__is_small fd__is_small)  {u12 : Value} (m_LONGEST_NAME : mg "LONGEST_NAME" = some u12) (h12 : RelV (.int 12) u12)  : FnOk P w K mg base CX0 2 f fd ["thing"] (spName K) := by
  refine F.ok scname (fun vs H Q E h => ?_) (fun cdv A outer s H vs Q E hr h => ?_)
  · obtain ⟨v, d, rfl, _⟩ := h
    rfl
  · obtain ⟨v, d, rfl, hT, hB, q⟩ := h
    have hu := hu_of hr
    refine ⟨_, PSs.nox (pss_one (ps_ret (pe_call c__is_small.ok (hr.mono (by decide)) (by rfl) c__is_small.m c__is_small.kp c__is_small.b .nil pass0 (pa_cons (pv 0) (pa_cons (pe_glob rfl m_LONGEST_NAME h12) pa_nil))))), ?_⟩
    exact ⟨_, rfl, v, d, 12, rfl, hT, hB, q⟩
def sorts : List Str := ["code", "amount", "word", "text"]
theorem sortB_not {d : PyData} (h : isStr d = false) : sortB d = false := by
  cases d <;> first | rfl | cases h
theorem in_strs (x : Str) : ∀ l : List Str, inV (.str x) (l.map V.str) = decide (x ∈ l)
  | [] => rfl
  | y :: r => by
    have ih := in_strs x r
    unfold inV at ih ⊢
    rw [List.map_cons, List.any_cons, ih]
    by_cases h : y = x
    · subst h
      rw [show eqV (V.str y) (V.str y) = true from decide_eq_true rfl, Bool.true_or, decide_eq_true (List.mem_cons_self ..)]
    · rw [show eqV (V.str y) (V.str x) = false from decide_eq_false h, Bool.false_or]
      exact decide_eq_decide.mpr ⟨fun z => List.mem_cons_of_mem _ z, fun z => (List.mem_cons.mp z).elim (fun e => absurd e.symm h) id⟩
theorem scsort : FnScope ["thing"] ["thing"] (defScope sIsSort) := ⟨rfl, rfl, rfl, by decide +kernel, rfl, by decide +kernel, by decide +kernel⟩
theorem ok_sort {f : Addr} {fd : FuncData} (F : FnP K "is_sort" sIsSort f fd)  (mb_isinstance : mg "isinstance" = none) (mb_str : mg "str" = none) {aS : Addr} (m_SORTS : mg "SORTS" = some (.ref aS)) (hS : ∀ H, SqT K H aS (sorts.map V.str))  : FnOk P w K mg base CX0 1 f fd ["thing"] (spSort K) := by
  refine F.ok scsort (fun vs H Q E h => ?_) (fun cdv A outer s H vs Q E hr h => ?_)
  · obtain ⟨v, d, rfl, _⟩ := h
    rfl
  · obtain ⟨v, d, rfl, hT, hB, q⟩ := h
    have hu := hu_of hr
    refine ⟨_, PSs.nox (pss_one (ps_ret (pe_and (pe_callB call_isi (by rfl) mb_isinstance (by decide +kernel) (pa_cons (pv 0) (pa_cons (pe_bltn (v := .ty "str") (by rfl) mb_str (by decide +kernel) rfl) pa_nil))) (pe_one (pe_cmpR op_in_seq (pv 0) (pe_glob (v := .ref aS) rfl m_SORTS rfl) (by with_unfolding_all rfl)))))), ?_⟩
    refine ⟨_, rfl, v, .ty "str", _, _, _, rfl, .ty "str", hT.ty, kit_ty (kit_str d), _, rfl, ?_⟩
    cases hs : isStr d with
    | false =>
      have e := q H (Same.refl H)
      rw [sortB_not hs] at e
      exact iteF e
    | true =>
      obtain ⟨z, rfl⟩ := isStr_eq hs
      obtain rfl := hT.asStr
      refine iteT ⟨_, rfl, aS, _, rfl, .inr (hS H), rfl, by decide +kernel, ?_⟩
      rw [if_neg (by decide), in_strs]
      exact q H (Same.refl H)
theorem fieldB_not {d : PyData} (h : isTup d = false) : fieldB d = false := by
  cases d <;> first | rfl | cases h
theorem fieldB_len {ds : List PyData} (h : ds.length ≠ 2) : fieldB (.tuple ds) = false := by
  match ds, h with
  | [], _ => rfl
  | [_], _ => rfl
  | [_, _], h => exact absurd rfl h
  | _ :: _ :: _ :: _, _ => rfl
theorem len2 {α : Type} {l : List α} (h : l.length = 2) : ∃ a b, l = [a, b] := by
  match l, h with
  | [a, b], _ => exact ⟨a, b, rfl⟩
theorem Bd.tup {N m : Nat} {ds : List PyData} (h : Bd N m (.tuple ds)) : ds.length ≤ N ∧ ∀ d ∈ ds, Bd N m d := by
  cases m with
  | zero => exact h.elim
  | succ n => exact ⟨h.1, fun d hd => (h.2 d hd).mono (Nat.le_refl _) (Nat.le_succ _)⟩
theorem Bd.lst {N m : Nat} {ds : List PyData} (h : Bd N m (.list ds)) : ds.length ≤ N ∧ ∀ d ∈ ds, Bd N m d := by
  cases m with
  | zero => exact h.elim
  | succ n => exact ⟨h.1, fun d hd => (h.2 d hd).mono (Nat.le_refl _) (Nat.le_succ _)⟩
theorem dec_int {i j : Int} : decide (V.int i = V.int j) = decide (i = j) := decide_eq_decide.mpr ⟨fun h => V.int.inj h, fun h => by rw [h]⟩
theorem scfield : FnScope ["thing"] ["thing"] (defScope sIsField) := ⟨rfl, rfl, rfl, by decide +kernel, rfl, by decide +kernel, by decide +kernel⟩
theorem ok_field {f : Addr} {fd : FuncData} (F : FnP K "_is_field" sIsField f fd) {f_is_name : Addr} {fd_is_name : FuncData} (c_is_name : Cl P w K mg base CX0 "is_name" 2 ["thing"] (spName K) f_is_name fd_is_name) {f_is_sort : Addr} {fd_is_sort : FuncData} (c_is_sort : Cl P w K mg base CX0 "is_sort" 1 ["thing"] (spSort K) f_is_sort fd_is_sort) (mb_isinstance : mg "isinstance" = none) (mb_tuple : mg "tuple" = none) (mb_len : mg "len" = none)   : FnOk P w K mg base CX0 3 f fd ["thing"] (spField K) := by
  refine F.ok scfield (fun vs H Q E h => ?_) (fun cdv A outer s H vs Q E hr h => ?_)
  · obtain ⟨v, d, rfl, _⟩ := h
    rfl
  · obtain ⟨v, d, rfl, hT, hB, q⟩ := h
    have hu := hu_of hr
    refine ⟨_, PSs.nox (pss_one (ps_ret (pe_and (pe_callB call_isi (by rfl) mb_isinstance (by decide +kernel) (pa_cons (pv 0) (pa_cons (pe_bltn (v := .ty "tuple") (by rfl) mb_tuple (by decide +kernel) rfl) pa_nil))) (pe_and (pe_cmpR op_eq (pe_callB call_len (by rfl) mb_len (by decide +kernel) (pa_cons (pv 0) pa_nil)) (pe_int) (nomark _)) (pe_and (pe_call c_is_name.ok (hr.mono (by decide)) (by rfl) c_is_name.m c_is_name.kp c_is_name.b .nil pass0 (pa_cons (pe_ix Cc.ix_B (pv 0) (pe_int) (fun _ _ => rfl)) pa_nil)) (pe_one (pe_call c_is_sort.ok (hr.mono (by decide)) (by rfl) c_is_sort.m c_is_sort.kp c_is_sort.b .nil pass0 (pa_cons (pe_ix Cc.ix_B (pv 0) (pe_int) (fun _ _ => rfl)) pa_nil)))))))), ?_⟩
    refine ⟨_, rfl, v, .ty "tuple", _, _, _, rfl, .ty "tuple", hT.ty, kit_ty (kit_tup d), _, rfl, ?_⟩
    cases ht : isTup d with
    | false =>
      have e := q H (Same.refl H)
      rw [fieldB_not ht] at e
      exact iteF e
    | true =>
      obtain ⟨ds, rfl⟩ := isTup_eq ht
      obtain ⟨a, xs, rfl, hx, hA⟩ := hT.asTup
      have lx := hA.len
      refine iteT ⟨_, rfl, _, _, rfl, .inr ⟨_, hx, rfl⟩, rfl, _, rfl, ite2 (fun e => ?_) (fun e => ?_)⟩
      · have e2 : xs.length = 2 := by
          rw [dec_int] at e
          have := of_decide_eq_true e
          omega
        obtain ⟨x0, x1, rfl⟩ := len2 e2
        obtain ⟨d0, d1, rfl⟩ := len2 (lx.symm.trans e2)
        obtain ⟨t0, t1⟩ : Th K H x0 d0 ∧ Th K H x1 d1 := by
          cases hA with
          | cons h0 h1 =>
            cases h1 with
            | cons h1 _ => exact ⟨h0, h1⟩
        have bs := (Bd.tup hB).2
        refine ⟨_, rfl, true, a, _, 0, x0, rfl, rfl, hx, rfl, x0, d0, rfl, t0, bs d0 (by simp), fun H1 s1 => ⟨_, rfl, ?_⟩⟩
        have val : fieldB (.tuple [d0, d1]) = (smallB 12 d0 && sortB d1) := rfl
        rw [val] at q
        cases hn : smallB 12 d0 with
        | false =>
          rw [hn, Bool.false_and] at q
          exact iteF (q H1 s1)
        | true =>
          rw [hn, Bool.true_and] at q
          exact iteT ⟨_, rfl, true, a, _, 1, x1, rfl, rfl, (Sq.same (t := true) hx s1), rfl, x1, d1, rfl, t1.kept (kept_same s1), bs d1 (by simp), fun H2 s2 => q H2 (s1.trans s2)⟩
      · have e2 : ds.length ≠ 2 := fun z => e (by rw [lx, z]; decide)
        have e3 := q H (Same.refl H)
        rw [fieldB_len e2] at e3
        exact e3
theorem formB_not {d : PyData} (h : isTup d = false) : formB d = false := by
  cases d <;> first | rfl | cases h
theorem all_fields {ds : List PyData} (h : ds.all fieldB = true) {i : Nat} {d : PyData} (e : ds[i]? = some d) : fieldB d = true := List.all_eq_true.mp h d (List.mem_of_getElem? e)
theorem ThAll.get2 {H : Hp} {xs : List V} {ds : List PyData} {i : Nat} {x : V} (h : ThAll K H xs ds) (e : xs[i]? = some x) : ∃ d, ds[i]? = some d ∧ Th K H x d ∧ d ∈ ds := by
  obtain ⟨d, h1, h2⟩ := h.get e
  exact ⟨d, h1, h2, List.mem_of_getElem? h1⟩
theorem field_parts {H : Hp} {v : V} {d : PyData} (h : Th K H v d) (b : fieldB d = true) : ∃ a x1 z, v = .ref a ∧ SqT K H a [.str (nameOf d), x1] ∧ d = .tuple [.str (nameOf d), z] ∧ Th K H x1 z := by
  obtain ⟨s, z, rfl, _, _⟩ := field_tup b
  obtain ⟨a, xs, rfl, hx, hA⟩ := h.asTup
  cases hA with
  | cons h0 h1 =>
    cases h1 with
    | cons h1 h2 =>
      cases h2
      cases h0
      exact ⟨a, _, z, rfl, hx, rfl, h1⟩
theorem scform : FnScope ["thing", "part"] ["thing"] (defScope sIsForm) := ⟨rfl, rfl, rfl, by decide +kernel, rfl, by decide +kernel, by decide +kernel⟩
theorem ok_form {f : Addr} {fd : FuncData} (F : FnP K "is_form" sIsForm f fd) {f__is_field : Addr} {fd__is_field : FuncData} (c__is_field : Cl P w K mg base CX0 "_is_field" 3 ["thing"] (spField K) f__is_field fd__is_field) (mb_isinstance : mg "isinstance" = none) (mb_tuple : mg "tuple" = none) (mb_len : mg "len" = none) (mb_all : mg "all" = none) {u6 : Value} (m_MOST_FIELDS : mg "MOST_FIELDS" = some u6) (h6 : RelV (.int 6) u6)  : FnOk P w K mg base CX0 4 f fd ["thing"] (spForm K) := by
  refine F.ok scform (fun vs H Q E h => ?_) (fun cdv A outer s H vs Q E hr h => ?_)
  · obtain ⟨v, d, rfl, _⟩ := h
    rfl
  · obtain ⟨v, d, rfl, hT, hB, q⟩ := h
    have hu := hu_of hr
    refine ⟨_, PSs.nox (pss_cons (ps_if (PW.pt (pw_or (pt_not (pt_val (pe_callB call_isi (by rfl) mb_isinstance (by decide +kernel) (pa_cons (pv 0) (pa_cons (pe_bltn (v := .ty "tuple") (by rfl) mb_tuple (by decide +kernel) rfl) pa_nil))))) (pw_or1 (pt_not (pt_chain op_le op_le (pe_int) (pe_callB call_len (by rfl) mb_len (by decide +kernel) (pa_cons (pv 0) pa_nil)) (pe_glob rfl m_MOST_FIELDS h6)))))) (pss_one (ps_ret (pe_bl))) (pss_nil))
      (pss_cons (ps_if (pt_not (pt_val (pe_callB (cr_all rfl) (by rfl) mb_all (by decide +kernel) (pa_cons (pe_lc (own := [("part", 1)]) (g := gName 1) (tt := tYes) rfl scform.nd (pi_tup (pv 0)) (blkOk_by (own := [("part", 1)]) (N := ["thing", "part"]) (sc := defScope sIsForm) (by decide +kernel)) (fun _ _ _ _ _ => pg_name (i := 1) scform.nd rfl (Or.inl rfl)) (fun _ _ _ _ _ => pts_nil) (fun _ _ _ _ _ => pe_call c__is_field.ok (hr.mono (by decide)) (by rfl) c__is_field.m c__is_field.kp c__is_field.b .nil pass0 (pa_cons (pv 1) pa_nil))) pa_nil)))) (pss_one (ps_ret (pe_bl))) (pss_nil))
      (pss_one (ps_ret (pe_cmpR op_eq (pe_callB Ys.call_lenK (by rfl) mb_len (by decide +kernel) (pa_cons (Ys.pe_scK (own := [("part", 1)]) (g := gName 1) (tt := tYes) rfl scform.nd (pi_tup (pv 0)) (blkOk_by (own := [("part", 1)]) (N := ["thing", "part"]) (sc := defScope sIsForm) (by decide +kernel)) (fun _ _ _ _ _ => pg_name (i := 1) scform.nd rfl (Or.inl rfl)) (fun _ _ _ _ _ => pts_nil) (fun _ _ _ _ _ => pe_ix (Cc.ix_Bk (K := K) rfl) (pv 1) (pe_int) (fun _ _ => rfl))) pa_nil)) (pe_callB call_len (by rfl) mb_len (by decide +kernel) (pa_cons (pv 0) pa_nil)) (nomark _)))))), ?_⟩
    refine ⟨_, rfl, v, .ty "tuple", _, _, _, rfl, .ty "tuple", hT.ty, kit_ty (kit_tup d), _, rfl, ?_⟩
    cases ht : isTup d with
    | false =>
      have e := q H (Same.refl H)
      rw [formB_not ht] at e
      exact iteT (iteT e)
    | true =>
      obtain ⟨ds, rfl⟩ := isTup_eq ht
      obtain ⟨a, xs, rfl, hx, hA⟩ := hT.asTup
      have lx := hA.len
      have bs := Bd.tup hB
      have val : formB (.tuple ds) = ((decide (1 ≤ ds.length) && decide (ds.length ≤ 6)) && ds.all fieldB && decide ((ds.map nameOf).Nodup)) := rfl
      refine iteF ⟨_, rfl, _, _, rfl, .inr ⟨_, hx, rfl⟩, _, _, rfl, rfl, _, rfl, ite2 (fun e1 => ⟨_, _, rfl, rfl, _, rfl, ite2 (fun e2 => ?_) (fun e2 => ?_)⟩) (fun e1 => ⟨_, rfl, iteT ?_⟩)⟩
      · have c2 : ¬ ds.length ≤ 6 := fun y => by
          rw [decide_eq_true (show (xs.length : Int) ≤ 6 by omega)] at e2
          cases e2
        have e := q H (Same.refl H)
        rw [val, decide_eq_false c2, Bool.and_false, Bool.false_and, Bool.false_and] at e
        exact e
      · have c1 : 1 ≤ ds.length := by
          have := of_decide_eq_true e1
          omega
        have c2 : ds.length ≤ 6 := by
          have : (!decide ((xs.length : Int) ≤ 6)) = false := by simpa using e2
          rw [Bool.not_eq_false'] at this
          have := of_decide_eq_true this
          omega
        rw [val, decide_eq_true c1, decide_eq_true c2, Bool.true_and, Bool.true_and] at q
        refine ⟨_, rfl, a, rfl, ⟨xs, hx⟩, fun D nD => ?_⟩
        refine lc_acc (walk_tup (K := K) (a := a) (xs := xs)) (fun i acc H' => But D H H' ∧ acc = (ds.take i).map fun d => V.bl (fieldB d)) ⟨But.refl.upd, rfl⟩ (fun i acc H' _ ⟨b, _⟩ _ => Sq.same (t := true) hx (b.new nD)) ?_ ?_
        · rintro i x acc H1 H2 hi la ⟨b, ea⟩ hD ⟨rfl, hx2⟩
          obtain ⟨d, hd, td, md⟩ := ThAll.get2 hA hx2
          have s1 := b.new nD
          refine ⟨rfl, _, rfl, x, d, rfl, td.kept (kept_same s1), (bs.2 d md), fun H3 s3 => ?_⟩
          refine push (s3 _ _ hD) la (by omega) ⟨(b.same s3).upd, ?_⟩
          rw [ea, List.take_succ, hd, List.map_append]
          rfl
        · rintro acc H1 la ⟨b, rfl⟩ hD
          have s1 := b.new nD
          rw [lx, List.take_length] at hD
          refine ⟨D, ds.map fieldB, rfl, SqL.of (by rw [hD, List.map_map]; rfl), _, rfl, ?_⟩
          rw [List.all_map]
          cases hf : ds.all fieldB with
          | false =>
            rw [hf, Bool.false_and] at q
            exact (show if (!(ds.all fieldB)) = true then _ else _ from by rw [hf]; exact iteT (q H1 s1))
          | true =>
            rw [hf, Bool.true_and] at q
            refine (show if (!(ds.all fieldB)) = true then _ else _ from by
              rw [hf]
              refine iteF ?_
              have hx1 := Sq.same (t := true) hx s1
              refine ⟨_, rfl, a, rfl, ⟨xs, hx1⟩, fun D2 nD2 => ?_⟩
              refine sc_acc (walk_tup (K := K) (a := a) (xs := xs)) (fun i S m H' => But D2 H1 H' ∧ Met1 (ds.map nameOf) i S m) ⟨But.refl.upd, Met1.zero⟩ (fun i S m H' _ ⟨b, _⟩ _ => Sq.same (t := true) hx1 (b.new nD2)) ?_ ?_
              · rintro i x S m H2 H3 hi ⟨b2, mt⟩ hD2 ⟨rfl, hx2⟩
                obtain ⟨d, hd, td, md⟩ := ThAll.get2 hA hx2
                obtain ⟨p, x1, z, rfl, hp, ed, _⟩ := field_parts td (all_fields hf hd)
                have s2 := s1.trans (b2.new nD2)
                refine ⟨rfl, _, rfl, true, p, _, 0, _, rfl, rfl, Sq.same (t := true) hp s2, rfl, ?_⟩
                refine pushK (Sum.inr (nameOf d)) rfl hD2 (mt.few (by omega)) ⟨b2.upd, mt.next (by rw [List.length_map]; omega) _ ?_⟩
                rw [List.getD_eq_getElem?_getD, List.getElem?_map, hd]
                rfl
              · rintro S m H2 ⟨b2, mt⟩ hD2
                rw [lx, ← List.length_map (f := nameOf)] at mt
                refine ⟨D2, S, m, rfl, hD2, _, rfl, _, _, rfl, .inr ⟨_, Sq.same (t := true) hx1 (b2.new nD2), rfl⟩, rfl, ?_⟩
                have e := mt.all
                rw [List.length_map] at e
                rw [dec_int, lx, e]
                exact q H2 (s1.trans (b2.new nD2)))
      · have c1 : ¬ 1 ≤ ds.length := fun y => e1 (decide_eq_true (by omega))
        have e := q H (Same.refl H)
        rw [val, decide_eq_false c1, Bool.false_and, Bool.false_and, Bool.false_and] at e
        exact e
end
end St6

set_option autoImplicit false
set_option maxHeartbeats 4000000
namespace St6
open PySem PySem.Spec PyProof.Rows L2 Tg Cc
/-! the law's own look at forms -/
theorem dpAll_strs {K : PySem.W.Frag} {H : Hp} : ∀ ns : List Str, DpAll K H (ns.map V.str) (ns.map PyData.str)
  | [] => .nil
  | n :: r => .cons (.str n) (dpAll_strs r)
theorem can_strs : ∀ ns : List Str, (∀ z ∈ ns, As z) → PyData.canLayAll0 (ns.map PyData.str) = true
  | [], _ => rfl
  | x :: r, h => by
    have h1 : PyData.strOk x = true := by
      unfold PyData.strOk
      rw [Array.all_eq_true']
      intro c hc
      have := h x (List.mem_cons_self ..) c (by simpa using hc)
      exact decide_eq_true (by omega)
    have h2 := can_strs r fun z hz => h z (List.mem_cons_of_mem _ hz)
    simp [PyData.canLayAll0, PyData.canLay0, h1, h2]
theorem depth_strs : ∀ ns : List Str, PyData.depthAll (ns.map PyData.str) = 0
  | [] => rfl
  | _ :: r => by simp [PyData.depthAll, PyData.depth, depth_strs r]
theorem shaped_strs {ns : List Str} (h : ∀ z ∈ ns, As z) : SeqAt.shaped (.list (ns.map PyData.str)) = true := by
  simp [SeqAt.shaped, PyData.canLay0, PyData.depth, can_strs ns h, depth_strs]
def spWord (K : PySem.W.Frag) : Sp := fun vs H Q _ => ∃ v d n, vs = [v, .int (n : Nat)] ∧ Th K H v d ∧ Ok d ∧ ∀ H', Same H H' → Q (.bl (smallB n d)) H'
theorem low_mem (c : Nat) : decide (c ∈ ("abcdefghijklmnopqrstuvwxyz" : Str).cps.toList) = lowC c := by
  have e : ("abcdefghijklmnopqrstuvwxyz" : Str).cps.toList = (List.range 26).map (97 + ·) := by decide +kernel
  rw [e]
  unfold lowC
  rw [← Bool.decide_and]
  refine decide_eq_decide.mpr ⟨fun h => ?_, fun h => ?_⟩
  · obtain ⟨k, hk, e⟩ := List.mem_map.mp h
    have := List.mem_range.mp hk
    omega
  · exact List.mem_map.mpr ⟨c - 97, List.mem_range.mpr (by omega), by omega⟩
/-- the signs of a text that aren't small letters -/
def highs (l : List Nat) : List Str := (l.filter fun c => !lowC c).map fun c => ⟨#[c]⟩
theorem highs_snoc (l : List Nat) (c : Nat) : highs (l ++ [c]) = highs l ++ (if lowC c = true then [] else [⟨#[c]⟩]) := by
  unfold highs
  rw [List.filter_append, List.map_append]
  cases h : lowC c <;> simp [h]
theorem highs_nil (l : List Nat) : (highs l).isEmpty = l.all lowC := by
  unfold highs
  induction l with
  | nil => rfl
  | cons c r ih =>
    cases h : lowC c
    · simp [h]
    · simp [h] at ih ⊢
      exact ih
theorem eqv_nil (l : List PyData) : PyData.eqv (.list l) (.list []) = l.isEmpty := by
  cases l <;> simp [PyData.eqv, PyData.eqvAll]
section
variable {P : Program} {w : World} {K : PySem.W.Frag} {mg : Str → Option Value} {base : Heap}
theorem scisword : FnScope ["thing", "most", "sign"] ["thing", "most"] (defScope sIsWord) := ⟨rfl, rfl, rfl, by decide +kernel, rfl, by decide +kernel, by decide +kernel⟩
theorem ok_isword {f : Addr} {fd : FuncData} (F : FnP K "_law_is_word" sIsWord f fd)  (mb_isinstance : mg "isinstance" = none) (mb_str : mg "str" = none) (mb_len : mg "len" = none)   : FnOk P w K mg base CX0 1 f fd ["thing", "most"] (spWord K) := by
  refine F.ok scisword (fun vs H Q E h => ?_) (fun cdv A outer s H vs Q E hr h => ?_)
  · obtain ⟨v, d, n, rfl, _⟩ := h
    rfl
  · obtain ⟨v, d, n, rfl, hT, hB, q⟩ := h
    have hu := hu_of hr
    refine ⟨_, PSs.nox (pss_cons (ps_if (PW.pt (pw_or (pt_not (pt_val (pe_callB call_isi (by rfl) mb_isinstance (by decide +kernel) (pa_cons (pv 0) (pa_cons (pe_bltn (v := .ty "str") (by rfl) mb_str (by decide +kernel) rfl) pa_nil))))) (pw_or1 (pt_not (pt_chain op_lt op_le (pe_int) (pe_callB call_len_str (by rfl) mb_len (by decide +kernel) (pa_cons (pv 0) pa_nil)) (pv 1)))))) (pss_one (ps_ret (pe_bl))) (pss_nil))
      (pss_one (ps_ret (pe_cmpR (op_eqD hr.units) (pe_lc (own := [("sign", 2)]) (g := gName 2) rfl scisword.nd (pi_str (pv 0)) (blkOk_by (own := [("sign", 2)]) (N := ["thing", "most", "sign"]) (sc := defScope sIsWord) (by decide +kernel)) (fun _ _ _ _ _ => pg_name (i := 2) scisword.nd rfl (Or.inl rfl)) (fun _ _ _ _ _ => pts_one (pt_cmpR op_notIn_sign (pv 2) (pe_str) (by with_unfolding_all rfl))) (fun _ _ _ _ _ => pv 2)) (pe_lst (pa_nil)) (nomark _))))), ?_⟩
    refine ⟨_, rfl, v, .ty "str", _, _, _, rfl, .ty "str", hT.ty, kit_ty (kit_str d), _, rfl, ?_⟩
    cases hs : isStr d with
    | false =>
      refine iteT (iteT ?_)
      have e := q H (Same.refl H)
      rw [smallB_not hs] at e
      exact e
    | true =>
      obtain ⟨z, rfl⟩ := isStr_eq hs
      obtain rfl := hT.asStr
      obtain ⟨hz, hA⟩ := bd_str.mp hB
      refine iteF ⟨_, rfl, z, rfl, lineN hz, _, _, rfl, rfl, _, rfl, ?_⟩
      have val : smallB n (.str z) = ((decide (1 ≤ z.length) && decide (z.length ≤ n)) && z.cps.toList.all lowC) := rfl
      refine ite2 (fun e1 => ⟨_, rfl, _, _, rfl, rfl, _, rfl, ite2 (fun e2 => ?_) (fun e2 => ?_)⟩) (fun e1 => ⟨_, rfl, iteT ?_⟩)
      · have c2 : ¬ z.length ≤ n := fun y => by
          rw [decide_eq_true (show (z.length : Int) ≤ (n : Int) by omega)] at e2
          cases e2
        have e := q H (Same.refl H)
        rw [val, decide_eq_false c2, Bool.and_false, Bool.false_and] at e
        exact e
      · have c1 : 1 ≤ z.length := by
          have := of_decide_eq_true e1
          omega
        have c2 : z.length ≤ n := by
          have : (!decide ((z.length : Int) ≤ (n : Int))) = false := by simpa using e2
          rw [Bool.not_eq_false'] at this
          have := of_decide_eq_true this
          omega
        rw [val, decide_eq_true c1, decide_eq_true c2, Bool.true_and, Bool.true_and] at q
        refine ⟨_, rfl, z, rfl, fun D nD => ?_⟩
        refine lc_it (walk_str (z := z)) (fun i H' => But D H H' ∧ H' D = some (.lst ((highs (z.cps.toList.take i)).map V.str))) ⟨But.refl.upd, upd_same⟩ (fun _ _ _ _ => trivial) ?_ ?_
        · rintro i x H1 H2 hi ⟨b, hD⟩ ⟨rfl, c, hc, rfl⟩
          have hc2 : z.cps.toList[i]? = some c := by rw [Array.getElem?_toList]; exact hc
          have hl : z.length = z.cps.size := rfl
          have lh : ((highs (z.cps.toList.take i)).map V.str).length ≤ i := by
            unfold highs
            rw [List.length_map, List.length_map]
            exact Nat.le_trans (List.length_filter_le _ _) (by rw [List.length_take]; omega)
          refine ⟨rfl, _, rfl, c, _, rfl, rfl, _, rfl, ite2 (fun e => ?_) (fun e => ?_)⟩
          · rw [low_mem] at e
            refine ⟨_, rfl, _, hD, by rw [szl]; omega, b.upd, ?_⟩
            rw [upd_same, List.take_succ, hc2]
            show _ = some (HO.lst ((highs (z.cps.toList.take i ++ [c])).map V.str))
            rw [highs_snoc, if_neg (by rw [Bool.not_eq_true'] at e; rw [e]; exact Bool.false_ne_true), List.map_append]
            rfl
          · rw [low_mem] at e
            refine ⟨b, ?_⟩
            rw [hD, List.take_succ, hc2]
            show _ = some (HO.lst ((highs (z.cps.toList.take i ++ [c])).map V.str))
            rw [highs_snoc, if_pos (by simpa using e), List.append_nil]
        · rintro H' ⟨b, hD⟩
          rw [List.take_of_length_le (by rw [Array.length_toList]; exact Nat.le_refl _)] at hD
          have h1 : ∀ y ∈ highs z.cps.toList, As y := fun y hy => by
            obtain ⟨c, hc, rfl⟩ := List.mem_map.mp hy
            have := hA c (List.mem_filter.mp hc).1
            intro k hk
            have : k = c := by simpa using hk
            omega
          refine ⟨Nat.zero_le _, fun p np => ⟨.list ((highs z.cps.toList).map PyData.str), .list [], .lst (SqL.of (newS np _ _ hD)) (dpAll_strs _), .lst (SqL.of upd_same) .nil, shaped_strs h1, by decide +kernel, ?_⟩⟩
          rw [eqv_nil, List.isEmpty_map, highs_nil]
          exact q _ ((b.new nD).trans (newS np))
      · have c1 : ¬ 1 ≤ z.length := fun y => e1 (decide_eq_true (by omega))
        have e := q H (Same.refl H)
        rw [val, decide_eq_false c1, Bool.false_and, Bool.false_and] at e
        exact e
theorem fieldB_2 (d0 d1 : PyData) : fieldB (.tuple [d0, d1]) = (smallB 12 d0 && sortB d1) := rfl
theorem all_false {ds : List PyData} {i : Nat} {d : PyData} (e : ds[i]? = some d) (h : fieldB d = false) : formB (.tuple ds) = false := by
  have h2 : ds.all fieldB = false := by
    rw [List.all_eq_false]
    exact ⟨d, List.mem_of_getElem? e, by rw [h]; exact Bool.false_ne_true⟩
  show ((decide (1 ≤ ds.length) && decide (ds.length ≤ 6)) && ds.all fieldB && decide ((ds.map nameOf).Nodup)) = false
  rw [h2, Bool.and_false, Bool.false_and]
theorem decn {x : V} {i : Int} : decide (x ≠ V.int i) = !decide (x = V.int i) := by
  by_cases h : x = V.int i <;> simp [h]
end
end St6

set_option autoImplicit false
set_option maxHeartbeats 4000000
namespace St6
open PySem PySem.Spec PyProof.Rows L2 Tg Cc TL
/-! names and forms, drawn -/
theorem joinL_len : ∀ ls : List (List Nat), (joinL [] ls).length = (ls.map List.length).sum
  | [] => rfl
  | [p] => by simp [joinL]
  | p :: q :: r => by
    have ih := joinL_len (q :: r)
    show (p ++ ([] ++ joinL [] (q :: r))).length = _
    rw [List.nil_append, List.length_append, ih]
    simp
theorem joinL_mem : ∀ (ls : List (List Nat)) (e : Nat), e ∈ joinL [] ls → ∃ y ∈ ls, e ∈ y
  | [], e, h => by cases h
  | [p], e, h => ⟨p, List.mem_singleton_self _, h⟩
  | p :: q :: r, e, h => by
    have h2 : e ∈ p ++ ([] ++ joinL [] (q :: r)) := h
    rw [List.nil_append] at h2
    rcases List.mem_append.mp h2 with h3 | h3
    · exact ⟨p, List.mem_cons_self .., h3⟩
    · obtain ⟨y, hy, he⟩ := joinL_mem (q :: r) e h3
      exact ⟨y, List.mem_cons_of_mem _ hy, he⟩
theorem atI_in {α : Type} {xs : List α} {d : Int} (h0 : 0 ≤ d) (h1 : d < (xs.length : Int)) : ∃ v, atI xs d = some v ∧ v ∈ xs := by
  obtain ⟨j, rfl⟩ := Int.eq_ofNat_of_zero_le h0
  have hj : j < xs.length := Int.ofNat_lt.mp h1
  exact ⟨xs[j], atI_nat (List.getElem?_eq_getElem hj), List.getElem_mem hj⟩
theorem atI_map {α β : Type} {f : α → β} {xs : List α} {d : Int} (h0 : 0 ≤ d) (h1 : d < (xs.length : Int)) : ∃ v, atI (xs.map f) d = some (f v) ∧ v ∈ xs := by
  obtain ⟨j, rfl⟩ := Int.eq_ofNat_of_zero_le h0
  have hj : j < xs.length := Int.ofNat_lt.mp h1
  exact ⟨xs[j], atI_nat (by rw [List.getElem?_map, List.getElem?_eq_getElem hj]; rfl), List.getElem_mem hj⟩
/-- a text of small letters -/
def Low (z : Str) : Prop := ∀ c ∈ z.cps.toList, lowC c = true
theorem Low.as {z : Str} (h : Low z) : As z := fun c hc => by
  have := h c hc
  unfold lowC at this
  rw [Bool.and_eq_true, decide_eq_true_eq, decide_eq_true_eq] at this
  omega
theorem Low.app {z y : Str} (h : Low z) (k : Low y) : Low (z ++ y) := fun c hc => by
  have e : (z ++ y).cps.toList = z.cps.toList ++ y.cps.toList := Array.toList_append
  rw [e] at hc
  exact (List.mem_append.mp hc).elim (h c) (k c)
/-- one sign for each -/
theorem Low.join {zs : List Str} (h : ∀ z ∈ zs, z.length = 1 ∧ Low z) : Low (Txt.join (Str.ofString "") zs) ∧ (Txt.join (Str.ofString "") zs).length = zs.length ∧ (zs.map (·.length)).sum + zs.length * (Str.ofString "").length = zs.length := by
  have e0 : (Str.ofString "").length = 0 := by decide +kernel
  have t0 : tl (Str.ofString "") = [] := by decide +kernel
  have hsum : ∀ ys : List Str, (∀ z ∈ ys, z.length = 1) → (ys.map (·.length)).sum = ys.length := by
    intro ys
    induction ys with
    | nil => intro _; rfl
    | cons y r ih =>
      intro hy
      rw [List.map_cons, List.sum_cons, ih fun z hz => hy z (List.mem_cons_of_mem _ hz), hy y (List.mem_cons_self ..), List.length_cons]
      omega
  refine ⟨fun c hc => ?_, ?_, by rw [e0, hsum zs fun z hz => (h z hz).1]; omega⟩
  · have hc : c ∈ tl (Txt.join (Str.ofString "") zs) := hc
    rw [join_eq, tl_join, t0] at hc
    obtain ⟨y, hy, hey⟩ := joinL_mem _ _ hc
    obtain ⟨z, hz, rfl⟩ := List.mem_map.mp hy
    exact (h z hz).2 c hey
  · rw [len_tl, join_eq, tl_join, t0, joinL_len]
    have : ((zs.map tl).map List.length) = zs.map (·.length) := by
      rw [List.map_map]
      exact List.map_congr_left fun z _ => (len_tl z).symm
    rw [this, hsum zs fun z hz => (h z hz).1]
def abc : Str := "abcdefghijklmnopqrstuvwxyz"
theorem abc_at {d : Int} (h0 : 0 ≤ d) (h1 : d < 26) : atI abc.cps.toList d = some (97 + d.toNat) := by
  obtain ⟨j, rfl⟩ := Int.eq_ofNat_of_zero_le h0
  have e : abc.cps.toList = (List.range 26).map (97 + ·) := by decide +kernel
  refine atI_nat ?_
  rw [e, List.getElem?_map, List.getElem?_eq_getElem (by rw [List.length_range]; omega), List.getElem_range]
  rfl
theorem low_one {j : Nat} (h : j < 26) : Low ⟨#[97 + j]⟩ := fun c hc => by
  have e : c = 97 + j := by simpa using hc
  unfold lowC
  rw [e, decide_eq_true (by omega), decide_eq_true (by omega)]
  rfl
/-- the k-th letter, its place -/
def letP (first by_ : Int) (k : Nat) : Int := (first + by_ * k).fmod 26
theorem letP_lt (a b : Int) (k : Nat) : 0 ≤ letP a b k ∧ letP a b k < 26 := ⟨Int.fmod_nonneg_of_pos _ (by decide), Int.fmod_lt_of_pos _ (by decide)⟩
def bys : List Int := [3, 5, 7, 9, 11, 15]
theorem letP_inj {a b : Int} (hb : b ∈ bys) {i j : Nat} (hi : i < 26) (hj : j < 26) (e : letP a b i = letP a b j) : i = j := by
  unfold letP at e
  rw [Int.fmod_eq_emod_of_nonneg _ (by decide), Int.fmod_eq_emod_of_nonneg _ (by decide)] at e
  have hb : b = 3 ∨ b = 5 ∨ b = 7 ∨ b = 9 ∨ b = 11 ∨ b = 15 := by simpa [bys] using hb
  rcases hb with rfl | rfl | rfl | rfl | rfl | rfl <;> omega
/-- a name: a letter and a tail -/
def nameW (way : Int) (tail : Str) (j : Int) : Str := if way = 0 then ⟨#[97 + j.toNat]⟩ ++ tail else tail ++ ⟨#[97 + j.toNat]⟩
theorem tl_app (z y : Str) : (z ++ y).cps.toList = z.cps.toList ++ y.cps.toList := Array.toList_append
theorem nameW_inj {way : Int} {tail : Str} {i j : Int} (hi : 0 ≤ i) (hj : 0 ≤ j) (e : nameW way tail i = nameW way tail j) : i = j := by
  unfold nameW at e
  by_cases h : way = 0
  · rw [if_pos h, if_pos h] at e
    have e2 := congrArg (fun z : Str => z.cps.toList) e
    simp only [tl_app] at e2
    have e3 := List.append_cancel_right e2
    simp at e3
    omega
  · rw [if_neg h, if_neg h] at e
    have e2 := congrArg (fun z : Str => z.cps.toList) e
    simp only [tl_app] at e2
    have e3 := List.append_cancel_left e2
    simp at e3
    omega
theorem len_app (z y : Str) : (z ++ y).length = z.length + y.length := Array.size_append
theorem nameW_ok {way : Int} {tail : Str} {j : Int} (ht : Low tail) (hl : tail.length ≤ 11) (h0 : 0 ≤ j) (h1 : j < 26) : Low (nameW way tail j) ∧ 1 ≤ (nameW way tail j).length ∧ (nameW way tail j).length ≤ 12 := by
  have a := low_one (j := j.toNat) (by omega)
  have l1 : (⟨#[97 + j.toNat]⟩ : Str).length = 1 := rfl
  unfold nameW
  split
  · exact ⟨a.app ht, by rw [len_app, l1]; omega, by rw [len_app, l1]; omega⟩
  · exact ⟨ht.app a, by rw [len_app, l1]; omega, by rw [len_app, l1]; omega⟩
/-- unlike names -/
structure Names (zs : List Str) (m : Nat) : Prop where
  len : zs.length = m
  nd : zs.Nodup
  ok : ∀ z ∈ zs, Low z ∧ 1 ≤ z.length ∧ z.length ≤ 12
theorem names_of {m : Nat} {a b way : Int} {tail : Str} (hm : m ≤ 26) (hb : b ∈ bys) (ht : Low tail) (hl : tail.length ≤ 11) : Names ((List.range m).map fun k => nameW way tail (letP a b k)) m := by
  refine ⟨by rw [List.length_map, List.length_range], ?_, fun z hz => ?_⟩
  · refine List.pairwise_map.mpr (List.Pairwise.imp_of_mem ?_ List.nodup_range)
    intro i j hi hj ne e
    refine ne ?_
    have hi := List.mem_range.mp hi
    have hj := List.mem_range.mp hj
    exact letP_inj hb (by omega) (by omega) (nameW_inj (letP_lt ..).1 (letP_lt ..).1 e)
  · obtain ⟨k, hk, rfl⟩ := List.mem_map.mp hz
    exact nameW_ok ht hl (letP_lt ..).1 (letP_lt ..).2
theorem Names.small {zs : List Str} {m : Nat} (h : Names zs m) {z : Str} (hz : z ∈ zs) : smallB 12 (.str z) = true := by
  obtain ⟨h1, h2, h3⟩ := h.ok z hz
  show ((decide (1 ≤ z.length) && decide (z.length ≤ 12)) && z.cps.toList.all lowC) = true
  rw [decide_eq_true h2, decide_eq_true h3, List.all_eq_true.mpr h1]
  rfl
def spNames : Sp := fun vs H Q _ => ∃ (d cl : Addr) (ns : List Int) (m n : Nat), vs = [.ref d, .int (m : Nat)] ∧ Pen H d cl ns n ∧ n ≤ 900000 ∧ m ≤ 26 ∧ ∀ H' p zs, Fr [d] H H' → Pen H' d cl ns (n + 20) → H' p = some (.lst (zs.map V.str)) → Names zs m → Q (.ref p) H'
section
variable {P : Program} {w : World} {K : PySem.W.Frag} {mg : Str → Option Value} {base : Heap}
theorem scnames : FnScope ["pen", "many", "letters", "k", "tail", "first", "by", "way", "found", "letter"] ["pen", "many"] (defScope sNames) := ⟨rfl, rfl, rfl, by decide +kernel, rfl, by decide +kernel, by decide +kernel⟩
theorem ok_names {f : Addr} {fd : FuncData} (F : FnP K "_law_names" sNames f fd) {f__law_draw : Addr} {fd__law_draw : FuncData} (c__law_draw : Cl P w K mg base CX0 "_law_draw" 1 ["pen", "many"] (spDraw) f__law_draw fd__law_draw) (mb_range : mg "range" = none)   : FnOk P w K mg base CX0 2 f fd ["pen", "many"] (spNames) := by
  refine F.ok scnames (fun vs H Q E h => ?_) (fun cdv A outer s H vs Q E hr h => ?_)
  · obtain ⟨d, cl, ns, m, n, rfl, _⟩ := h
    rfl
  · obtain ⟨d, cl, ns, m, n, rfl, hP, hn, hm, q⟩ := h
    have hu := hu_of hr
    have hs := szl
    refine ⟨_, PSs.nox (pss_cons (ps_set (i := 2) scnames.nd rfl (Or.inr rfl) (pe_str))
      (pss_cons (ps_set (i := 4) scnames.nd rfl (Or.inr rfl) (pe_join (pe_str) (pe_lc (own := [("k", 3)]) (g := gName 3) (tt := tYes) rfl scnames.nd (pi_range1 (by rfl) mb_range (pa_cons (pe_call c__law_draw.ok (hr.mono (by decide)) (by rfl) c__law_draw.m c__law_draw.kp c__law_draw.b .nil pass0 (pa_cons (pv 0) (pa_cons (pe_int) pa_nil))) pa_nil)) (blkOk_by (own := [("k", 3)]) (N := ["pen", "many", "letters", "k", "tail", "first", "by", "way", "found", "letter"]) (sc := defScope sNames) (by decide +kernel)) (fun _ _ _ _ _ => pg_name (i := 3) scnames.nd rfl (Or.inl rfl)) (fun _ _ _ _ _ => pts_nil) (fun _ _ _ _ _ => pe_ix ix_str (pv 2) (pe_call c__law_draw.ok (hr.mono (by decide)) (by rfl) c__law_draw.m c__law_draw.kp c__law_draw.b .nil pass0 (pa_cons (pv 0) (pa_cons (pe_int) pa_nil))) (fun _ _ => rfl)))))
      (pss_cons (ps_set (i := 5) scnames.nd rfl (Or.inr rfl) (pe_call c__law_draw.ok (hr.mono (by decide)) (by rfl) c__law_draw.m c__law_draw.kp c__law_draw.b .nil pass0 (pa_cons (pv 0) (pa_cons (pe_int) pa_nil))))
      (pss_cons (ps_set (i := 6) scnames.nd rfl (Or.inr rfl) (pe_ix ix_list (pe_lst (pa_cons (pe_int) (pa_cons (pe_int) (pa_cons (pe_int) (pa_cons (pe_int) (pa_cons (pe_int) (pa_cons (pe_int) pa_nil))))))) (pe_call c__law_draw.ok (hr.mono (by decide)) (by rfl) c__law_draw.m c__law_draw.kp c__law_draw.b .nil pass0 (pa_cons (pv 0) (pa_cons (pe_int) pa_nil))) (fun _ _ => rfl)))
      (pss_cons (ps_set (i := 7) scnames.nd rfl (Or.inr rfl) (pe_call c__law_draw.ok (hr.mono (by decide)) (by rfl) c__law_draw.m c__law_draw.kp c__law_draw.b .nil pass0 (pa_cons (pv 0) (pa_cons (pe_int) pa_nil))))
      (pss_cons (ps_setLc (i := 8) (own := [("k", 3)]) (g := gName 3) (tt := tYes) rfl scnames.nd rfl rfl (sw_true rfl rfl rfl (by decide +kernel)) (pi_range1 (by rfl) mb_range (pa_cons (pv 1) pa_nil)) (blkOk_by (own := [("k", 3)]) (N := ["pen", "many", "letters", "k", "tail", "first", "by", "way", "found", "letter"]) (sc := defScope sNames) (by decide +kernel)) (fun _ _ _ _ _ => pg_name (i := 3) scnames.nd rfl (Or.inl rfl)) (fun _ _ _ _ _ => pts_nil) (fun _ _ _ _ _ => pe_ix ix_str (pv 2) (pe_op op_modN (pe_op op_add (pv 5) (pe_op op_mul (pv 6) (pv 3))) (pe_int)) (fun _ _ => rfl)))
      (pss_one (ps_ret (pe_lc (own := [("letter", 9)]) (g := gName 9) (tt := tYes) rfl scnames.nd (pi_list (pv 8)) (blkOk_by (own := [("letter", 9)]) (N := ["pen", "many", "letters", "k", "tail", "first", "by", "way", "found", "letter"]) (sc := defScope sNames) (by decide +kernel)) (fun _ _ _ _ _ => pg_name (i := 9) scnames.nd rfl (Or.inl rfl)) (fun _ _ _ _ _ => pts_nil) (fun _ _ _ _ _ => pe_ix (Cc.ix_listk (K := K) rfl) (pe_lst (pa_cons (pe_op op_add_str (pv 9) (pv 4)) (pa_cons (pe_op op_add_str (pv 4) (pv 9)) pa_nil))) (pv 7) (fun _ _ => rfl))))))))))), ?_⟩
    refine ⟨⟨_, rfl⟩, _, rfl, d, cl, ns, 12, n, rfl, hP, by omega, by decide, by decide, fun H1 k1 f1 P1 k10 k11 => ?_⟩
    obtain ⟨c, rfl⟩ := Int.eq_ofNat_of_zero_le k10
    refine ⟨_, rfl, by omega, by omega, fun L nL => ?_⟩
    obtain ⟨⟨xa, xb, hd1, _⟩, hc1, _⟩ := id P1
    have nLd : d ≠ L := ne_of_none hd1 nL
    have nLc : cl ≠ L := ne_of_none hc1 nL
    refine lc_acc (walk_range (lo := 0) (n := (c : Int).toNat)) (fun i acc H' => ∃ zs : List Str, acc = zs.map V.str ∧ (∀ z ∈ zs, z.length = 1 ∧ Low z) ∧ Fr [d, L] H1 H' ∧ Pen H' d cl ns (n + 1 + i))
      ⟨[], rfl, (fun _ z => by cases z), fr_upd (by simp), P1.fr (fr_new (S := []) nL) (by simp) (by simp)⟩ (fun _ _ _ _ _ _ => trivial) ?_ ?_
    · rintro i x acc H2 H3 hi la ⟨zs, rfl, h1, f2, P2⟩ hL ⟨rfl, rfl⟩
      refine ⟨rfl, _, rfl, _, rfl, d, cl, ns, 26, _, rfl, P2, by omega, by decide, by decide, fun H4 d4 f4 P4 d40 d41 => ?_⟩
      have hL4 := f4 _ _ (by simpa using nLd.symm) hL
      refine ⟨_, d4, 97 + d4.toNat, rfl, rfl, by rw [show (Str.ofString "abcdefghijklmnopqrstuvwxyz").length = 26 by decide +kernel]; omega, abc_at d40 d41, push hL4 la (by omega) ⟨zs ++ [⟨#[97 + d4.toNat]⟩], ?_, ?_, (f2.trans (f4.mono (by simp))).trans (fr_upd (by simp)), (P4.fr (S := [L]) (fr_upd (by simp)) (by simpa using nLd) (by simpa using nLc)).mono (by omega)⟩⟩
      · rw [List.map_append]
        rfl
      · intro z hz
        rcases List.mem_append.mp hz with h | h
        · exact h1 z h
        · rw [List.mem_singleton.mp h]
          exact ⟨rfl, low_one (by omega)⟩
    · rintro acc H2 la ⟨zs, rfl, h1, f2, P2⟩ hL
      obtain ⟨j1, j2, j3⟩ := Low.join h1
      rw [List.length_map] at la
      have f02 : Fr [d] H H2 := Fr.drop (p := L) (S := [d]) ((f1.mono (by simp)).trans (f2.mono (by simp))) (f1.free (by simpa using nLd.symm) nL)
      refine ⟨_, L, zs, rfl, rfl, .inl (SqL.of hL), by rw [j3]; omega, ?_⟩
      have lt : (Txt.join (Str.ofString "") zs).length ≤ 11 := by rw [j2]; omega
      clear hL f2 h1 j2 j3
      generalize Txt.join (Str.ofString "") zs = tail at j1 lt ⊢
      have P2 := P2.mono (m := n + 12) (by omega)
      -- first
      refine ⟨_, rfl, d, cl, ns, 26, _, rfl, P2, by omega, by decide, by decide, fun H5 a f5 P5 a0 a1 => ?_⟩
      -- by
      refine ⟨by show 6 ≤ sizeLine; decide, fun l nl => ⟨_, rfl, d, cl, ns, 6, _, rfl, P5.fr (fr_new (S := []) nl) (by simp) (by simp), by omega, by decide, by decide, fun H6 b f6 P6 b0 b1 => ?_⟩⟩
      obtain ⟨⟨xa5, xb5, hd5, _⟩, hc5, _⟩ := id P5
      have nld : d ≠ l := ne_of_none hd5 nl
      have hl6 : H6 l = some (.lst (bys.map V.int)) := f6 _ _ (by simpa using nld.symm) upd_same
      obtain ⟨by_, eb2, mb⟩ := atI_map (f := V.int) (xs := bys) b0 b1
      have f06 : Fr [d] H H6 := ((f02.trans f5).trans (fr_new nl)).trans f6
      refine ⟨l, _, b, _, rfl, rfl, SqL.of hl6, eb2, ?_⟩
      -- way
      refine ⟨_, rfl, d, cl, ns, 2, _, rfl, P6, by omega, by decide, by decide, fun H7 way f7 P7 w0 w1 => ?_⟩
      have f07 := f06.trans f7
      obtain ⟨⟨xa7, xb7, hd7, _⟩, hc7, _⟩ := id P7
      have hby : 3 ≤ by_ ∧ by_ ≤ 15 := by
        have : by_ = 3 ∨ by_ = 5 ∨ by_ = 7 ∨ by_ = 9 ∨ by_ = 11 ∨ by_ = 15 := by simpa [bys] using mb
        omega
      -- found
      refine ⟨_, rfl, _, rfl, by omega, by omega, fun L2 nL2 => ?_⟩
      have nd2 : d ≠ L2 := ne_of_none hd7 nL2
      have nc2 : cl ≠ L2 := ne_of_none hc7 nL2
      refine lc_acc (walk_range (lo := 0) (n := ((m : Nat) : Int).toNat)) (fun i acc H' => acc = ((List.range i).map fun k => V.str ⟨#[97 + (letP a by_ k).toNat]⟩) ∧ But L2 H7 H') ⟨rfl, But.refl.upd⟩ (fun _ _ _ _ _ _ => trivial) ?_ ?_
      · rintro i x acc H8 H9 hi la ⟨ea, b8⟩ hL2 ⟨rfl, rfl⟩
        refine ⟨rfl, _, rfl, _, rfl, _, rfl, _, rfl, _, _, rfl, rfl, .inl ⟨by omega, by omega⟩, _, _, rfl, rfl, _, _, rfl, rfl, (by show (26 : Int) ≠ 0; decide), ?_⟩
        have e0 : (a + by_ * (0 + (i : Int))).fmod 26 = letP a by_ i := by
          unfold letP
          rw [Int.zero_add]
        refine ⟨_, letP a by_ i, _, rfl, congrArg V.int e0, by rw [show (Str.ofString "abcdefghijklmnopqrstuvwxyz").length = 26 by decide +kernel]; omega, abc_at (letP_lt ..).1 (letP_lt ..).2, push hL2 la (by omega) ⟨?_, b8.upd⟩⟩
        rw [ea, List.range_succ, List.map_append]
        rfl
      · rintro acc H8 la ⟨rfl, b8⟩ hL2
        have s78 := b8.new nL2
        have em : ((m : Nat) : Int).toNat = m := by omega
        rw [em] at hL2
        have fin := names_of (a := a) (way := way) hm mb j1 lt
        refine ⟨_, rfl, L2, rfl, ⟨_, SqL.of hL2⟩, fun L3 nL3 => ?_⟩
        refine lc_acc (walk_list (K := K) (a := L2) (xs := (List.range m).map fun k => V.str ⟨#[97 + (letP a by_ k).toNat]⟩)) (fun i acc H' => acc = ((List.range i).map fun k => V.str (nameW way tail (letP a by_ k))) ∧ But L3 H8 H') ⟨rfl, But.refl.upd⟩ (fun i acc H' _ ⟨_, b⟩ _ => SqL.of (b _ _ (ne_of_none hL2 nL3) hL2)) ?_ ?_
        · rintro i x acc H9 H10 hi la ⟨ea, b9⟩ hL3 ⟨rfl, hx⟩
          rw [List.length_map, List.length_range] at hi
          rw [List.getElem?_map, List.getElem?_eq_getElem (by rw [List.length_range]; exact hi), List.getElem_range] at hx
          obtain rfl := Option.some.inj hx
          have l1 : (⟨#[97 + (letP a by_ i).toNat]⟩ : Str).length = 1 := rfl
          refine ⟨rfl, _, rfl, _, rfl, _, _, rfl, rfl, by rw [l1]; omega, _, rfl, _, rfl, _, _, rfl, rfl, by rw [l1]; omega, by show 2 ≤ sizeLine; decide, fun t nt => ?_⟩
          have hw : way = 0 ∨ way = 1 := by omega
          refine ⟨_, rfl, t, _, way, .str (nameW way tail (letP a by_ i)), rfl, rfl, SqL.of upd_same, ?_, push (newS nt _ _ hL3) la (by omega) ⟨?_, (b9.same (newS nt)).upd⟩⟩
          · rcases hw with rfl | rfl <;> rfl
          · rw [ea, List.range_succ, List.map_append]
            rfl
        · rintro acc H9 la ⟨rfl, b9⟩ hL3
          rw [List.length_map, List.length_range] at hL3
          have s89 := b9.new nL3
          refine q H9 L3 _ (f07.trans (fr_same (s78.trans s89))) ((P7.fr (S := []) (fr_same (s78.trans s89)) (by simp) (by simp)).mono (by omega)) ?_ fin
          rw [hL3, List.map_map]
          rfl
def fieldD (x : Str × Str) : PyData := .tuple [.str x.1, .str x.2]
def formD (fs : List (Str × Str)) : PyData := .tuple (fs.map fieldD)
/-- a form: its fields with their sorts -/
structure GoodF (fs : List (Str × Str)) : Prop where
  lo : 1 ≤ fs.length
  hi : fs.length ≤ 6
  nd : (fs.map Prod.fst).Nodup
  ok : ∀ x ∈ fs, Low x.1 ∧ 1 ≤ x.1.length ∧ x.1.length ≤ 12 ∧ x.2 ∈ sorts
theorem GoodF.form {fs : List (Str × Str)} (h : GoodF fs) : formB (formD fs) = true := by
  have e1 : (fs.map fieldD).length = fs.length := List.length_map _
  have e2 : (fs.map fieldD).map nameOf = fs.map Prod.fst := by
    rw [List.map_map]
    rfl
  show ((decide (1 ≤ (fs.map fieldD).length) && decide ((fs.map fieldD).length ≤ 6)) && (fs.map fieldD).all fieldB && decide (((fs.map fieldD).map nameOf).Nodup)) = true
  rw [e1, e2, decide_eq_true h.lo, decide_eq_true h.hi, decide_eq_true h.nd, List.all_map, List.all_eq_true.mpr]
  · rfl
  · intro x hx
    obtain ⟨h1, h2, h3, h4⟩ := h.ok x hx
    show (((decide (1 ≤ x.1.length) && decide (x.1.length ≤ 12)) && x.1.cps.toList.all lowC) && decide (x.2 ∈ sorts)) = true
    rw [decide_eq_true h2, decide_eq_true h3, decide_eq_true h4, List.all_eq_true.mpr h1]
    rfl
theorem sorts_ok {x : Str} (h : x ∈ sorts) : x.length ≤ 6 ∧ As x := by
  have : ∀ y ∈ sorts, y.length ≤ 6 ∧ ∀ c ∈ y.cps.toList, c < 128 := by decide +kernel
  exact this x h
theorem GoodF.bd {fs : List (Str × Str)} (h : GoodF fs) : Bd 64 2 (formD fs) := by
  refine ⟨by rw [List.length_map]; have := h.hi; omega, fun d hd => ?_⟩
  obtain ⟨x, hx, rfl⟩ := List.mem_map.mp hd
  obtain ⟨h1, h2, h3, h4⟩ := h.ok x hx
  refine ⟨by show 2 ≤ 64; omega, fun e he => ?_⟩
  rcases List.mem_cons.mp he with rfl | he
  · exact ⟨by omega, h1.as⟩
  · obtain rfl := List.mem_singleton.mp he
    have := sorts_ok h4
    exact ⟨by omega, this.2⟩
def spDForm (K : PySem.W.Frag) : Sp := fun vs H Q _ => ∃ (d cl p : Addr) (ns : List Int) (zs : List Str) (m n least : Nat), vs = [.ref d, .ref p, .int (least : Nat)] ∧ Pen H d cl ns n ∧ n ≤ 900000 ∧ H p = some (.lst (zs.map V.str)) ∧ Names zs m ∧ 6 ≤ m ∧ 1 ≤ least ∧ least ≤ 6 ∧
  ∀ H' q fs, Fr [d] H H' → Pen H' d cl ns (n + 10) → Th K H' (.ref q) (formD fs) → GoodF fs → least ≤ fs.length → fs.map Prod.fst = zs.take fs.length → Q (.ref q) H'
def dsorts : List Str := ["code", "word", "amount", "text", "code", "word"]
theorem dsorts_in {x : Str} (h : x ∈ dsorts) : x ∈ sorts := (show ∀ y ∈ dsorts, y ∈ sorts by decide +kernel) x h
theorem th_fields {K : PySem.W.Frag} {H : Hp} : ∀ {ps : List (Addr × Str × Str)}, (∀ x ∈ ps, H x.1 = some (.tup [.str x.2.1, .str x.2.2])) → ThAll K H (ps.map fun x => V.ref x.1) ((ps.map Prod.snd).map fieldD)
  | [], _ => .nil
  | x :: r, h => .cons (.tup (SqT.of (h x (List.mem_cons_self ..))) (.cons (.str _) (.cons (.str _) .nil))) (th_fields fun y hy => h y (List.mem_cons_of_mem _ hy))
theorem scdform : FnScope ["pen", "names", "least", "sorts", "k"] ["pen", "names", "least"] (defScope sForm) := ⟨rfl, rfl, rfl, by decide +kernel, rfl, by decide +kernel, by decide +kernel⟩
theorem ok_dform {f : Addr} {fd : FuncData} (F : FnP K "_law_form" sForm f fd) {f__law_draw : Addr} {fd__law_draw : FuncData} (c__law_draw : Cl P w K mg base CX0 "_law_draw" 1 ["pen", "many"] (spDraw) f__law_draw fd__law_draw) (mb_range : mg "range" = none) (mb_tuple : mg "tuple" = none)   : FnOk P w K mg base CX0 2 f fd ["pen", "names", "least"] (spDForm K) := by
  refine F.ok scdform (fun vs H Q E h => ?_) (fun cdv A outer s H vs Q E hr h => ?_)
  · obtain ⟨d, cl, p, ns, zs, m, n, least, rfl, _⟩ := h
    rfl
  · obtain ⟨d, cl, p, ns, zs, m, n, least, rfl, hP, hn, hp, hN, hm, l1, l6, q⟩ := h
    have hu := hu_of hr
    have hs := szl
    refine ⟨_, PSs.nox (pss_cons (ps_set (i := 3) scdform.nd rfl (Or.inr rfl) (pe_lst (pa_cons (pe_str) (pa_cons (pe_str) (pa_cons (pe_str) (pa_cons (pe_str) (pa_cons (pe_str) (pa_cons (pe_str) pa_nil))))))))
      (pss_one (ps_ret (pe_callTy call_tuple_of (by rfl) mb_tuple (by decide +kernel) (pa_cons (pe_lc (own := [("k", 4)]) (g := gName 4) (tt := tYes) rfl scdform.nd (pi_range1 (by rfl) mb_range (pa_cons (pe_op op_add (pv 2) (pe_call c__law_draw.ok (hr.mono (by decide)) (by rfl) c__law_draw.m c__law_draw.kp c__law_draw.b .nil pass0 (pa_cons (pv 0) (pa_cons (pe_op op_sub (pe_int) (pv 2)) pa_nil)))) pa_nil)) (blkOk_by (own := [("k", 4)]) (N := ["pen", "names", "least", "sorts", "k"]) (sc := defScope sForm) (by decide +kernel)) (fun _ _ _ _ _ => pg_name (i := 4) scdform.nd rfl (Or.inl rfl)) (fun _ _ _ _ _ => pts_nil) (fun _ _ _ _ _ => pe_tup (pa_cons (pe_ix (Cc.ix_listk (K := K) rfl) (pv 1) (pv 4) (fun _ _ => rfl)) (pa_cons (pe_ix (Cc.ix_listk (K := K) rfl) (pv 3) (pe_call c__law_draw.ok (hr.mono (by decide)) (by rfl) c__law_draw.m c__law_draw.kp c__law_draw.b .nil pass0 (pa_cons (pv 0) (pa_cons (pe_int) pa_nil))) (fun _ _ => rfl)) pa_nil)))) pa_nil))))), ?_⟩
    refine ⟨by show 6 ≤ sizeLine; decide, fun s ns_ => ?_⟩
    obtain ⟨⟨xa0, xb0, hd0, _⟩, hc0, _⟩ := id hP
    have s0 := newS (o := .lst (dsorts.map V.str)) ns_
    have P0 : Pen (upd H s (.lst (dsorts.map V.str))) d cl ns n := hP.fr (fr_new (S := []) ns_) (by simp) (by simp)
    refine ⟨_, rfl, _, rfl, _, rfl, _, _, rfl, rfl, d, cl, ns, 7 - (least : Int), n, rfl, P0, by omega, by omega, by omega, fun H1 k1 f1 P1 k10 k11 => ?_⟩
    obtain ⟨c, rfl⟩ := Int.eq_ofNat_of_zero_le k10
    refine ⟨_, _, rfl, rfl, _, rfl, by omega, by omega, fun L nL => ?_⟩
    obtain ⟨⟨xa, xb, hd1, _⟩, hc1, _⟩ := id P1
    have nsd : d ≠ s := ne_of_none hd0 ns_
    have npd : p ≠ d := ne_of hp hd0 (by intro z; cases z)
    have hs1 : H1 s = some (.lst (dsorts.map V.str)) := f1 _ _ (by simpa using nsd.symm) upd_same
    have hp1 : H1 p = some (.lst (zs.map V.str)) := f1 _ _ (by simpa using npd) (s0 _ _ hp)
    have nLd : d ≠ L := ne_of_none hd1 nL
    have nLc : cl ≠ L := ne_of_none hc1 nL
    have nLs : s ≠ L := ne_of_none hs1 nL
    have nLp : p ≠ L := ne_of_none hp1 nL
    refine lc_acc (walk_range (lo := 0) (n := ((least : Int) + (c : Int)).toNat)) (fun i acc H' => ∃ ps : List (Addr × Str × Str), acc = ps.map (fun x => V.ref x.1) ∧ (∀ x ∈ ps, H' x.1 = some (.tup [.str x.2.1, .str x.2.2])) ∧ ps.map (fun x => x.2.1) = zs.take i ∧ (∀ x ∈ ps, x.2.2 ∈ sorts) ∧ Fr [d, L] H1 H' ∧ Pen H' d cl ns (n + 1 + i))
      ⟨[], rfl, (fun _ z => by cases z), rfl, (fun _ z => by cases z), fr_upd (by simp), P1.fr (fr_new (S := []) nL) (by simp) (by simp)⟩ (fun _ _ _ _ _ _ => trivial) ?_ ?_
    · rintro i x acc H2 H3 hi la ⟨ps, rfl, h1, h2, h3, f2, P2⟩ hL ⟨rfl, rfl⟩
      have hp2 : H3 p = some (.lst (zs.map V.str)) := f2 _ _ (by simp [npd, nLp]) hp1
      have hs2 : H3 s = some (.lst (dsorts.map V.str)) := f2 _ _ (by simp [nsd.symm, nLs]) hs1
      have iz : i < zs.length := by
        rw [hN.len]
        omega
      obtain ⟨z, ez, _⟩ : ∃ z, atI (zs.map V.str) (0 + (i : Int)) = some (.str z) ∧ zs[i]? = some z := by
        refine ⟨zs[i], ?_, List.getElem?_eq_getElem iz⟩
        rw [Int.zero_add]
        exact atI_nat (by rw [List.getElem?_map, List.getElem?_eq_getElem iz]; rfl)
      have ezi : zs[i]? = some z := by assumption
      refine ⟨rfl, _, rfl, _, rfl, p, _, _, _, rfl, rfl, SqL.of hp2, ez, _, rfl, _, rfl, d, cl, ns, 6, _, rfl, P2, by omega, by decide, by decide, fun H4 d4 f4 P4 d40 d41 => ?_⟩
      have hL4 := f4 _ _ (by simpa using nLd.symm) hL
      obtain ⟨y, ey, my⟩ := atI_map (f := V.str) (xs := dsorts) d40 d41
      refine ⟨s, _, d4, _, rfl, rfl, SqL.of (f4 _ _ (by simpa using nsd.symm) hs2), ey, by show 2 ≤ sizeLine; decide, fun t nt => ?_⟩
      have s4 := newS (o := .tup [.str z, .str y]) nt
      refine push (s4 _ _ hL4) la (by omega) ⟨ps ++ [(t, z, y)], ?_, ?_, ?_, ?_, ((f2.trans (f4.mono (by simp))).trans (fr_same s4)).trans (fr_upd (by simp)), ((P4.fr (fr_new (S := []) nt) (by simp) (by simp)).fr (S := [L]) (fr_upd (by simp)) (by simpa using nLd) (by simpa using nLc)).mono (by omega)⟩
      · rw [List.map_append]
        rfl
      · intro x hx
        have keep : ∀ o : HO, upd H4 t (.tup [.str z, .str y]) x.1 = some o → (∀ l, o ≠ .lst l) → upd (upd H4 t (.tup [.str z, .str y])) L (.lst (ps.map (fun x => V.ref x.1) ++ [V.ref t])) x.1 = some o := fun o ho no => by
          rw [upd_ne]
          · exact ho
          · exact ne_of ho (s4 _ _ hL4) (no _)
        rcases List.mem_append.mp hx with h | h
        · have e := h1 x h
          refine keep _ (s4 _ _ (f4 _ _ ?_ e)) (fun l e => by cases e)
          obtain ⟨⟨xa2, xb2, hd2, _⟩, _⟩ := id P2
          simpa using ne_of e hd2 (by intro z; cases z)
        · rw [List.mem_singleton.mp h] at keep ⊢
          exact keep _ upd_same (fun l e => by cases e)
      · rw [List.map_append, h2, List.take_succ, ezi]
        rfl
      · intro x hx
        rcases List.mem_append.mp hx with h | h
        · exact h3 x h
        · rw [List.mem_singleton.mp h]
          exact dsorts_in my
    · rintro acc H2 la ⟨ps, rfl, h1, h2, h3, f2, P2⟩ hL
      rw [List.length_map] at la
      refine ⟨L, _, rfl, .inl ⟨SqL.of hL, fun t nt => ?_⟩⟩
      have s2 := newS (o := .tup (ps.map fun x => V.ref x.1)) nt
      have fA : Fr [d] H (upd H2 t (.tup (ps.map fun x => V.ref x.1))) := by
        refine Fr.trans ?_ (fr_same s2)
        refine Fr.drop (p := L) (S := [d]) (((fr_same s0).trans (f1.mono (by simp))).trans (f2.mono (by simp))) ?_
        exact s0.free (f1.free (by simpa using nLd.symm) nL)
      have el : (ps.map Prod.snd).length = ps.length := List.length_map _
      have en : (ps.map Prod.snd).map Prod.fst = zs.take ps.length := by
        rw [List.map_map, la]
        exact h2
      refine q _ t (ps.map Prod.snd) fA ((P2.fr (fr_new (S := []) nt) (by simp) (by simp)).mono (by omega)) (.tup (SqT.of upd_same) (th_fields fun x hx => s2 _ _ (h1 x hx))) ⟨by omega, by omega, ?_, fun x hx => ?_⟩ (by omega) (by rw [en, el])
      · rw [en]
        exact hN.nd.sublist (List.take_sublist _ _)
      · obtain ⟨y, hy, rfl⟩ := List.mem_map.mp hx
        have mz : y.2.1 ∈ zs := by
          have : y.2.1 ∈ zs.take ps.length := by
            rw [← en, List.map_map]
            exact List.mem_map.mpr ⟨y, hy, rfl⟩
          exact List.mem_of_mem_take this
        obtain ⟨g1, g2, g3⟩ := hN.ok _ mz
        exact ⟨g1, g2, g3, h3 y hy⟩
end
end St6

set_option autoImplicit false
set_option maxHeartbeats 4000000
namespace St6
open PySem PySem.Spec PyProof.Rows L2 Tg Cc TL
open Ev (op_mulS)
/-! any thing -/
theorem Kept.fr {d cl : Addr} {ns : List Int} {n : Nat} {H H1 : Hp} (h : Pen H d cl ns n) (f : Fr [d] H H1) : Kept H H1 := fun b o e l => by
  refine f b o (fun z => ?_) e
  obtain ⟨⟨x, y, h1, _⟩, _⟩ := h
  rw [List.mem_singleton.mp z, h1] at e
  have := l _ (Option.some.inj e).symm
  exact absurd this (by show ¬ 3 ≤ 1; decide)
/-- these stand for things -/
def AllIs (K : PySem.W.Frag) (H : Hp) (xs : List V) : Prop := ∀ x ∈ xs, Is K H 64 3 x
section
variable {K : PySem.W.Frag} {H H1 : Hp} {xs : List V}
theorem AllIs.kept (h : AllIs K H xs) (k : Kept H H1) : AllIs K H1 xs := fun x hx => (h x hx).kept k
theorem AllIs.snoc (h : AllIs K H xs) {v : V} (k : Is K H 64 3 v) : AllIs K H (xs ++ [v]) := fun x hx => (List.mem_append.mp hx).elim (h x) fun e => by
  rw [List.mem_singleton.mp e]
  exact k
/-- plain things -/
def flatIs : V → Bool
  | .non => true
  | .bl _ => true
  | .int i => decide (i.natAbs < 10 ^ 64)
  | .str s => decide (s.length ≤ 64) && s.cps.toList.all fun c => decide (c < 128)
  | _ => false
theorem flat_is {m : Nat} {v : V} (h : flatIs v = true) : Is K H 64 m v := by
  cases v with
  | non => exact .non
  | bl b => exact .bl b
  | int i => exact .int i (of_decide_eq_true h)
  | str s =>
    have h2 : (decide (s.length ≤ 64) && s.cps.toList.all fun c => decide (c < 128)) = true := h
    rw [Bool.and_eq_true] at h2
    exact .str s (of_decide_eq_true h2.1) fun c hc => of_decide_eq_true (List.all_eq_true.mp h2.2 c hc)
  | _ => cases h
theorem flats {m : Nat} (h : xs.all flatIs = true) : ∀ x ∈ xs, Is K H 64 m x := fun x hx => flat_is (List.all_eq_true.mp h x hx)
end
def spOdd (K : PySem.W.Frag) : Sp := fun vs H Q _ => ∃ (d cl : Addr) (ns : List Int) (n : Nat), vs = [.ref d] ∧ Pen H d cl ns n ∧ n ≤ 900000 ∧ ∀ H' v, Fr [d] H H' → Pen H' d cl ns (n + 1) → Is K H' 64 3 v → Q v H'
section
variable {P : Program} {w : World} {K : PySem.W.Frag} {mg : Str → Option Value} {base : Heap}
theorem scodd : FnScope ["pen", "some"] ["pen"] (defScope sOdd) := ⟨rfl, rfl, rfl, by decide +kernel, rfl, by decide +kernel, by decide +kernel⟩
theorem ok_odd {f : Addr} {fd : FuncData} (F : FnP K "_law_odd" sOdd f fd) {f__law_draw : Addr} {fd__law_draw : FuncData} (c__law_draw : Cl P w K mg base CX0 "_law_draw" 1 ["pen", "many"] (spDraw) f__law_draw fd__law_draw)    : FnOk P w K mg base CX0 2 f fd ["pen"] (spOdd K) := by
  refine F.ok scodd (fun vs H Q E h => ?_) (fun cdv A outer s H vs Q E hr h => ?_)
  · obtain ⟨d, cl, ns, n, rfl, _⟩ := h
    rfl
  · obtain ⟨d, cl, ns, n, rfl, hP, hn, q⟩ := h
    have hu := hu_of hr
    have hs := szl
    refine ⟨_, PSs.nox (pss_cons (ps_set (i := 1) scodd.nd rfl (Or.inl rfl) (pe_lst (pa_cons (pe_non) (pa_cons (pe_bl) (pa_cons (pe_bl) (pa_cons (pe_int) (pa_cons (pe_int) (pa_cons (pe_un un_neg (pe_int)) (pa_cons (pe_int) (pa_cons (pe_op op_pow (pe_int) (pe_int)) (pa_cons (pe_str) (pa_cons (pe_str) (pa_cons (pe_str) (pa_cons (pe_str) (pa_cons (pe_str) (pa_cons (pe_str) (pa_cons (pe_str) (pa_cons (pe_str) pa_nil))))))))))))))))))
      (pss_cons (ps_set (i := 1) scodd.nd rfl (Or.inl rfl) (pe_op op_cat (pv 1) (pe_lst (pa_cons (pe_str) (pa_cons (pe_tup (pa_nil)) (pa_cons (pe_lst (pa_nil)) (pa_cons (pe_dnewK) (pa_cons (pe_tup (pa_cons (pe_str) pa_nil)) (pa_cons (pe_lst (pa_cons (pe_str) pa_nil)) (pa_cons (pe_tup (pa_cons (pe_str) (pa_cons (pe_str) pa_nil))) (pa_cons (pe_lst (pa_cons (pe_str) (pa_cons (pe_str) pa_nil))) (pa_cons (pe_tup (pa_cons (pe_tup (pa_cons (pe_str) (pa_cons (pe_str) pa_nil))) pa_nil)) (pa_cons (pe_tup (pa_cons (pe_tup (pa_nil)) pa_nil)) (pa_cons (pe_lst (pa_cons (pe_lst (pa_nil)) pa_nil)) pa_nil))))))))))))))
      (pss_cons (ps_set (i := 1) scodd.nd rfl (Or.inl rfl) (pe_op op_cat (pv 1) (pe_lst (pa_cons (pe_disp (pps_cons (pe_str) (pe_int) (pps_nil)) (by rfl) (by rfl) (fun z => by cases z) (by decide)) (pa_cons (pe_tup (pa_cons (pe_str) pa_nil)) (pa_cons (pe_tup (pa_cons (pe_str) (pa_cons (pe_str) pa_nil))) (pa_cons (pe_tup (pa_cons (pe_str) (pa_cons (pe_str) pa_nil))) (pa_cons (pe_tup (pa_cons (pe_int) pa_nil)) (pa_cons (pe_tup (pa_cons (pe_tup (pa_cons (pe_int) (pa_cons (pe_int) pa_nil))) pa_nil)) (pa_cons (pe_tup (pa_cons (pe_str) (pa_cons (pe_str) (pa_cons (pe_int) (pa_cons (pe_int) pa_nil))))) (pa_cons (pe_op op_mulS (pe_str) (pe_int)) pa_nil)))))))))))
      (pss_one (ps_ret (pe_ix ix_list (pv 1) (pe_call c__law_draw.ok (hr.mono (by decide)) (by rfl) c__law_draw.m c__law_draw.kp c__law_draw.b .nil pass0 (pa_cons (pv 0) (pa_cons (pe_int) pa_nil))) (fun _ _ => rfl))))))), ?_⟩
    obtain ⟨⟨xa0, xb0, hd0, _⟩, hc0, _⟩ := id hP
    have A0 : AllIs K H [] := fun x hx => by cases hx
    have P0 := hP
    have F0 : Fr [d] H H := Fr.refl
    refine ⟨_, rfl, _, _, rfl, rfl, (by show (0 : Int) ≤ 11 ∧ (11 : Int) ≤ 1000000 ∧ (10 : Int).natAbs < 2 ^ 64; decide), by show 16 ≤ sizeLine; decide, fun p1 n1 => ?_⟩
    dsimp only
    have q1 := newS (o := .lst [.non, .bl true, .bl false, .int 0, .int 1, .int (-1), .int 7, .int (10 ^ (11 : Int).toNat), .str "", .str "a", .str "A", .str "a1", .str "abcdefghijklm", .str "abcdefghi", .str "code", .str "word"]) n1
    have F1 := F0.trans (fr_same (S := [d]) q1)
    have P1 := P0.fr (S := []) (fr_same q1) (by simp) (by simp)
    have A1 := A0.kept (kept_same q1)
    have l1 : (upd H p1 (.lst [.non, .bl true, .bl false, .int 0, .int 1, .int (-1), .int 7, .int (10 ^ (11 : Int).toNat), .str "", .str "a", .str "A", .str "a1", .str "abcdefghijklm", .str "abcdefghi", .str "code", .str "word"])) p1 = some (.lst [.non, .bl true, .bl false, .int 0, .int 1, .int (-1), .int 7, .int (10 ^ (11 : Int).toNat), .str "", .str "a", .str "A", .str "a1", .str "abcdefghijklm", .str "abcdefghi", .str "code", .str "word"]) := upd_same
    generalize upd H p1 (.lst [.non, .bl true, .bl false, .int 0, .int 1, .int (-1), .int 7, .int (10 ^ (11 : Int).toNat), .str "", .str "a", .str "A", .str "a1", .str "abcdefghijklm", .str "abcdefghi", .str "code", .str "word"]) = H1 at F1 P1 A1 l1 ⊢
    refine ⟨_, rfl, Nat.zero_le _, fun p2 n2 => ?_⟩
    have q2 := newS (o := .tup []) n2
    have F2 := F1.trans (fr_same (S := [d]) q2)
    have P2 := P1.fr (S := []) (fr_same q2) (by simp) (by simp)
    have B2 := A1.kept (kept_same q2)
    have l1 := q2 _ _ l1
    have e2 : (upd H1 p2 (.tup [])) p2 = some (.tup []) := upd_same
    have i2 : Is K (upd H1 p2 (.tup [])) 64 1 (.ref p2) := Is.tup (m := 0) (SqT.of e2) (by show 0 ≤ 64; decide) (flats (xs := []) (by decide +kernel))
    have A2 := B2.snoc (v := .ref p2) (i2.mono (Nat.le_refl _) (by decide))
    generalize upd H1 p2 (.tup []) = H2 at F2 P2 A2 e2 i2 l1 ⊢
    refine ⟨Nat.zero_le _, fun p3 n3 => ?_⟩
    have q3 := newS (o := .lst []) n3
    have F3 := F2.trans (fr_same (S := [d]) q3)
    have P3 := P2.fr (S := []) (fr_same q3) (by simp) (by simp)
    have B3 := A2.kept (kept_same q3)
    have l1 := q3 _ _ l1
    have i2 := i2.kept (kept_same q3)
    have e3 : (upd H2 p3 (.lst [])) p3 = some (.lst []) := upd_same
    have i3 : Is K (upd H2 p3 (.lst [])) 64 1 (.ref p3) := Is.lst (m := 0) (SqL.of e3) (by show 0 ≤ 64; decide) (flats (xs := []) (by decide +kernel))
    have A3 := B3.snoc (v := .ref p3) (i3.mono (Nat.le_refl _) (by decide))
    generalize upd H2 p3 (.lst []) = H3 at F3 P3 A3 e3 i3 l1 ⊢
    refine fun p4 n4 => ?_
    have q4 := newS (o := .dK []) n4
    have F4 := F3.trans (fr_same (S := [d]) q4)
    have P4 := P3.fr (S := []) (fr_same q4) (by simp) (by simp)
    have B4 := A3.kept (kept_same q4)
    have l1 := q4 _ _ l1
    have i3 := i3.kept (kept_same q4)
    have e4 : (upd H3 p4 (.dK [])) p4 = some (.dK []) := upd_same
    have i4 : Is K (upd H3 p4 (.dK [])) 64 1 (.ref p4) := Is.dct e4 (by decide)
    have A4 := B4.snoc (v := .ref p4) (i4.mono (Nat.le_refl _) (by decide))
    generalize upd H3 p4 (.dK []) = H4 at F4 P4 A4 e4 i4 l1 ⊢
    refine ⟨by show 1 ≤ sizeLine; decide, fun p5 n5 => ?_⟩
    have q5 := newS (o := .tup [.str "a"]) n5
    have F5 := F4.trans (fr_same (S := [d]) q5)
    have P5 := P4.fr (S := []) (fr_same q5) (by simp) (by simp)
    have B5 := A4.kept (kept_same q5)
    have l1 := q5 _ _ l1
    have i4 := i4.kept (kept_same q5)
    have e5 : (upd H4 p5 (.tup [.str "a"])) p5 = some (.tup [.str "a"]) := upd_same
    have i5 : Is K (upd H4 p5 (.tup [.str "a"])) 64 1 (.ref p5) := Is.tup (m := 0) (SqT.of e5) (by show 1 ≤ 64; decide) (flats (xs := [.str "a"]) (by decide +kernel))
    have A5 := B5.snoc (v := .ref p5) (i5.mono (Nat.le_refl _) (by decide))
    generalize upd H4 p5 (.tup [.str "a"]) = H5 at F5 P5 A5 e5 i5 l1 ⊢
    refine ⟨by show 1 ≤ sizeLine; decide, fun p6 n6 => ?_⟩
    have q6 := newS (o := .lst [.str "a"]) n6
    have F6 := F5.trans (fr_same (S := [d]) q6)
    have P6 := P5.fr (S := []) (fr_same q6) (by simp) (by simp)
    have B6 := A5.kept (kept_same q6)
    have l1 := q6 _ _ l1
    have i5 := i5.kept (kept_same q6)
    have e6 : (upd H5 p6 (.lst [.str "a"])) p6 = some (.lst [.str "a"]) := upd_same
    have i6 : Is K (upd H5 p6 (.lst [.str "a"])) 64 1 (.ref p6) := Is.lst (m := 0) (SqL.of e6) (by show 1 ≤ 64; decide) (flats (xs := [.str "a"]) (by decide +kernel))
    have A6 := B6.snoc (v := .ref p6) (i6.mono (Nat.le_refl _) (by decide))
    generalize upd H5 p6 (.lst [.str "a"]) = H6 at F6 P6 A6 e6 i6 l1 ⊢
    refine ⟨by show 2 ≤ sizeLine; decide, fun p7 n7 => ?_⟩
    have q7 := newS (o := .tup [.str "a", .str "code"]) n7
    have F7 := F6.trans (fr_same (S := [d]) q7)
    have P7 := P6.fr (S := []) (fr_same q7) (by simp) (by simp)
    have B7 := A6.kept (kept_same q7)
    have l1 := q7 _ _ l1
    have i6 := i6.kept (kept_same q7)
    have e7 : (upd H6 p7 (.tup [.str "a", .str "code"])) p7 = some (.tup [.str "a", .str "code"]) := upd_same
    have i7 : Is K (upd H6 p7 (.tup [.str "a", .str "code"])) 64 1 (.ref p7) := Is.tup (m := 0) (SqT.of e7) (by show 2 ≤ 64; decide) (flats (xs := [.str "a", .str "code"]) (by decide +kernel))
    have A7 := B7.snoc (v := .ref p7) (i7.mono (Nat.le_refl _) (by decide))
    generalize upd H6 p7 (.tup [.str "a", .str "code"]) = H7 at F7 P7 A7 e7 i7 l1 ⊢
    refine ⟨by show 2 ≤ sizeLine; decide, fun p8 n8 => ?_⟩
    have q8 := newS (o := .lst [.str "a", .str "code"]) n8
    have F8 := F7.trans (fr_same (S := [d]) q8)
    have P8 := P7.fr (S := []) (fr_same q8) (by simp) (by simp)
    have B8 := A7.kept (kept_same q8)
    have l1 := q8 _ _ l1
    have i7 := i7.kept (kept_same q8)
    have e8 : (upd H7 p8 (.lst [.str "a", .str "code"])) p8 = some (.lst [.str "a", .str "code"]) := upd_same
    have i8 : Is K (upd H7 p8 (.lst [.str "a", .str "code"])) 64 1 (.ref p8) := Is.lst (m := 0) (SqL.of e8) (by show 2 ≤ 64; decide) (flats (xs := [.str "a", .str "code"]) (by decide +kernel))
    have A8 := B8.snoc (v := .ref p8) (i8.mono (Nat.le_refl _) (by decide))
    generalize upd H7 p8 (.lst [.str "a", .str "code"]) = H8 at F8 P8 A8 e8 i8 l1 ⊢
    refine ⟨by show 2 ≤ sizeLine; decide, fun p9 n9 => ?_⟩
    have q9 := newS (o := .tup [.str "a", .str "code"]) n9
    have F9 := F8.trans (fr_same (S := [d]) q9)
    have P9 := P8.fr (S := []) (fr_same q9) (by simp) (by simp)
    have B9 := A8.kept (kept_same q9)
    have l1 := q9 _ _ l1
    have i8 := i8.kept (kept_same q9)
    have e9 : (upd H8 p9 (.tup [.str "a", .str "code"])) p9 = some (.tup [.str "a", .str "code"]) := upd_same
    have i9 : Is K (upd H8 p9 (.tup [.str "a", .str "code"])) 64 1 (.ref p9) := Is.tup (m := 0) (SqT.of e9) (by show 2 ≤ 64; decide) (flats (xs := [.str "a", .str "code"]) (by decide +kernel))
    have A9 := B9.snoc (v := .ref p9) (i9.mono (Nat.le_refl _) (by decide))
    generalize upd H8 p9 (.tup [.str "a", .str "code"]) = H9 at F9 P9 A9 e9 i9 l1 ⊢
    refine ⟨by show 1 ≤ sizeLine; decide, fun p10 n10 => ?_⟩
    have q10 := newS (o := .tup [.ref p9]) n10
    have F10 := F9.trans (fr_same (S := [d]) q10)
    have P10 := P9.fr (S := []) (fr_same q10) (by simp) (by simp)
    have B10 := A9.kept (kept_same q10)
    have l1 := q10 _ _ l1
    have i9 := i9.kept (kept_same q10)
    have e10 : (upd H9 p10 (.tup [.ref p9])) p10 = some (.tup [.ref p9]) := upd_same
    have i10 : Is K (upd H9 p10 (.tup [.ref p9])) 64 2 (.ref p10) := Is.tup (m := 1) (SqT.of e10) (by show 1 ≤ 64; decide) (fun x hx => by
      obtain rfl := List.mem_singleton.mp hx
      exact i9)
    have A10 := B10.snoc (v := .ref p10) (i10.mono (Nat.le_refl _) (by decide))
    generalize upd H9 p10 (.tup [.ref p9]) = H10 at F10 P10 A10 e10 i10 l1 ⊢
    refine ⟨Nat.zero_le _, fun p11 n11 => ?_⟩
    have q11 := newS (o := .tup []) n11
    have F11 := F10.trans (fr_same (S := [d]) q11)
    have P11 := P10.fr (S := []) (fr_same q11) (by simp) (by simp)
    have B11 := A10.kept (kept_same q11)
    have l1 := q11 _ _ l1
    have i10 := i10.kept (kept_same q11)
    have e11 : (upd H10 p11 (.tup [])) p11 = some (.tup []) := upd_same
    have i11 : Is K (upd H10 p11 (.tup [])) 64 1 (.ref p11) := Is.tup (m := 0) (SqT.of e11) (by show 0 ≤ 64; decide) (flats (xs := []) (by decide +kernel))
    have A11 := B11.snoc (v := .ref p11) (i11.mono (Nat.le_refl _) (by decide))
    generalize upd H10 p11 (.tup []) = H11 at F11 P11 A11 e11 i11 l1 ⊢
    refine ⟨by show 1 ≤ sizeLine; decide, fun p12 n12 => ?_⟩
    have q12 := newS (o := .tup [.ref p11]) n12
    have F12 := F11.trans (fr_same (S := [d]) q12)
    have P12 := P11.fr (S := []) (fr_same q12) (by simp) (by simp)
    have B12 := A11.kept (kept_same q12)
    have l1 := q12 _ _ l1
    have i11 := i11.kept (kept_same q12)
    have e12 : (upd H11 p12 (.tup [.ref p11])) p12 = some (.tup [.ref p11]) := upd_same
    have i12 : Is K (upd H11 p12 (.tup [.ref p11])) 64 2 (.ref p12) := Is.tup (m := 1) (SqT.of e12) (by show 1 ≤ 64; decide) (fun x hx => by
      obtain rfl := List.mem_singleton.mp hx
      exact i11)
    have A12 := B12.snoc (v := .ref p12) (i12.mono (Nat.le_refl _) (by decide))
    generalize upd H11 p12 (.tup [.ref p11]) = H12 at F12 P12 A12 e12 i12 l1 ⊢
    refine ⟨Nat.zero_le _, fun p13 n13 => ?_⟩
    have q13 := newS (o := .lst []) n13
    have F13 := F12.trans (fr_same (S := [d]) q13)
    have P13 := P12.fr (S := []) (fr_same q13) (by simp) (by simp)
    have B13 := A12.kept (kept_same q13)
    have l1 := q13 _ _ l1
    have i12 := i12.kept (kept_same q13)
    have e13 : (upd H12 p13 (.lst [])) p13 = some (.lst []) := upd_same
    have i13 : Is K (upd H12 p13 (.lst [])) 64 1 (.ref p13) := Is.lst (m := 0) (SqL.of e13) (by show 0 ≤ 64; decide) (flats (xs := []) (by decide +kernel))
    have A13 := B13.snoc (v := .ref p13) (i13.mono (Nat.le_refl _) (by decide))
    generalize upd H12 p13 (.lst []) = H13 at F13 P13 A13 e13 i13 l1 ⊢
    refine ⟨by show 1 ≤ sizeLine; decide, fun p14 n14 => ?_⟩
    have q14 := newS (o := .lst [.ref p13]) n14
    have F14 := F13.trans (fr_same (S := [d]) q14)
    have P14 := P13.fr (S := []) (fr_same q14) (by simp) (by simp)
    have B14 := A13.kept (kept_same q14)
    have l1 := q14 _ _ l1
    have i13 := i13.kept (kept_same q14)
    have e14 : (upd H13 p14 (.lst [.ref p13])) p14 = some (.lst [.ref p13]) := upd_same
    have i14 : Is K (upd H13 p14 (.lst [.ref p13])) 64 2 (.ref p14) := Is.lst (m := 1) (SqL.of e14) (by show 1 ≤ 64; decide) (fun x hx => by
      obtain rfl := List.mem_singleton.mp hx
      exact i13)
    have A14 := B14.snoc (v := .ref p14) (i14.mono (Nat.le_refl _) (by decide))
    generalize upd H13 p14 (.lst [.ref p13]) = H14 at F14 P14 A14 e14 i14 l1 ⊢
    refine ⟨by show 11 ≤ sizeLine; decide, fun p15 n15 => ?_⟩
    dsimp only
    have q15 := newS (o := .lst [.str "text", .ref p2, .ref p3, .ref p4, .ref p5, .ref p6, .ref p7, .ref p8, .ref p10, .ref p12, .ref p14]) n15
    have F15 := F14.trans (fr_same (S := [d]) q15)
    have P15 := P14.fr (S := []) (fr_same q15) (by simp) (by simp)
    have A15 := A14.kept (kept_same q15)
    have l1 := q15 _ _ l1
    have l15 : (upd H14 p15 (.lst [.str "text", .ref p2, .ref p3, .ref p4, .ref p5, .ref p6, .ref p7, .ref p8, .ref p10, .ref p12, .ref p14])) p15 = some (.lst [.str "text", .ref p2, .ref p3, .ref p4, .ref p5, .ref p6, .ref p7, .ref p8, .ref p10, .ref p12, .ref p14]) := upd_same
    generalize upd H14 p15 (.lst [.str "text", .ref p2, .ref p3, .ref p4, .ref p5, .ref p6, .ref p7, .ref p8, .ref p10, .ref p12, .ref p14]) = H15 at F15 P15 A15 l1 l15 ⊢
    refine ⟨_, _, _, _, rfl, rfl, l1, l15, by show 16 + 11 ≤ sizeLine; decide, fun p16 n16 => ?_⟩
    have q16 := newS (o := .lst ([.non, .bl true, .bl false, .int 0, .int 1, .int (-1), .int 7, .int (10 ^ (11 : Int).toNat), .str "", .str "a", .str "A", .str "a1", .str "abcdefghijklm", .str "abcdefghi", .str "code", .str "word"] ++ [.str "text", .ref p2, .ref p3, .ref p4, .ref p5, .ref p6, .ref p7, .ref p8, .ref p10, .ref p12, .ref p14])) n16
    have F16 := F15.trans (fr_same (S := [d]) q16)
    have P16 := P15.fr (S := []) (fr_same q16) (by simp) (by simp)
    have A16 := A15.kept (kept_same q16)
    have l1 := q16 _ _ l1
    have l15 := q16 _ _ l15
    have l16 : (upd H15 p16 (.lst ([.non, .bl true, .bl false, .int 0, .int 1, .int (-1), .int 7, .int (10 ^ (11 : Int).toNat), .str "", .str "a", .str "A", .str "a1", .str "abcdefghijklm", .str "abcdefghi", .str "code", .str "word"] ++ [.str "text", .ref p2, .ref p3, .ref p4, .ref p5, .ref p6, .ref p7, .ref p8, .ref p10, .ref p12, .ref p14]))) p16 = some (.lst [.non, .bl true, .bl false, .int 0, .int 1, .int (-1), .int 7, .int (10 ^ (11 : Int).toNat), .str "", .str "a", .str "A", .str "a1", .str "abcdefghijklm", .str "abcdefghi", .str "code", .str "word", .str "text", .ref p2, .ref p3, .ref p4, .ref p5, .ref p6, .ref p7, .ref p8, .ref p10, .ref p12, .ref p14]) := upd_same
    generalize upd H15 p16 (.lst ([.non, .bl true, .bl false, .int 0, .int 1, .int (-1), .int 7, .int (10 ^ (11 : Int).toNat), .str "", .str "a", .str "A", .str "a1", .str "abcdefghijklm", .str "abcdefghi", .str "code", .str "word"] ++ [.str "text", .ref p2, .ref p3, .ref p4, .ref p5, .ref p6, .ref p7, .ref p8, .ref p10, .ref p12, .ref p14])) = H16 at F16 P16 A16 l1 l15 l16 ⊢
    refine ⟨_, rfl, fun p17 n17 => ⟨upd_same, [(Sum.inr "a", .int 1)], rfl, by decide, ?_⟩⟩
    have q17 : Same H16 (upd (upd H16 p17 (.dK [])) p17 (.dK (mergeK [] [(Sum.inr "a", .int 1)]))) := by rw [upd_upd]; exact newS n17
    have F17 := F16.trans (fr_same (S := [d]) q17)
    have P17 := P16.fr (S := []) (fr_same q17) (by simp) (by simp)
    have B17 := A16.kept (kept_same q17)
    have l16 := q17 _ _ l16
    have e17 : (upd (upd H16 p17 (.dK [])) p17 (.dK (mergeK [] [(Sum.inr "a", .int 1)]))) p17 = some (.dK (mergeK [] [(Sum.inr "a", .int 1)])) := upd_same
    have i17 : Is K (upd (upd H16 p17 (.dK [])) p17 (.dK (mergeK [] [(Sum.inr "a", .int 1)]))) 64 1 (.ref p17) := Is.dct e17 (by decide +kernel)
    have A17 := B17.snoc (v := .ref p17) (i17.mono (Nat.le_refl _) (by decide))
    generalize upd (upd H16 p17 (.dK [])) p17 (.dK (mergeK [] [(Sum.inr "a", .int 1)])) = H17 at F17 P17 A17 e17 i17 l16 ⊢
    refine ⟨by show 1 ≤ sizeLine; decide, fun p18 n18 => ?_⟩
    have q18 := newS (o := .tup [.str "drop"]) n18
    have F18 := F17.trans (fr_same (S := [d]) q18)
    have P18 := P17.fr (S := []) (fr_same q18) (by simp) (by simp)
    have B18 := A17.kept (kept_same q18)
    have l16 := q18 _ _ l16
    have i17 := i17.kept (kept_same q18)
    have e18 : (upd H17 p18 (.tup [.str "drop"])) p18 = some (.tup [.str "drop"]) := upd_same
    have i18 : Is K (upd H17 p18 (.tup [.str "drop"])) 64 1 (.ref p18) := Is.tup (m := 0) (SqT.of e18) (by show 1 ≤ 64; decide) (flats (xs := [.str "drop"]) (by decide +kernel))
    have A18 := B18.snoc (v := .ref p18) (i18.mono (Nat.le_refl _) (by decide))
    generalize upd H17 p18 (.tup [.str "drop"]) = H18 at F18 P18 A18 e18 i18 l16 ⊢
    refine ⟨by show 2 ≤ sizeLine; decide, fun p19 n19 => ?_⟩
    have q19 := newS (o := .tup [.str "say", .str "a"]) n19
    have F19 := F18.trans (fr_same (S := [d]) q19)
    have P19 := P18.fr (S := []) (fr_same q19) (by simp) (by simp)
    have B19 := A18.kept (kept_same q19)
    have l16 := q19 _ _ l16
    have i18 := i18.kept (kept_same q19)
    have e19 : (upd H18 p19 (.tup [.str "say", .str "a"])) p19 = some (.tup [.str "say", .str "a"]) := upd_same
    have i19 : Is K (upd H18 p19 (.tup [.str "say", .str "a"])) 64 1 (.ref p19) := Is.tup (m := 0) (SqT.of e19) (by show 2 ≤ 64; decide) (flats (xs := [.str "say", .str "a"]) (by decide +kernel))
    have A19 := B19.snoc (v := .ref p19) (i19.mono (Nat.le_refl _) (by decide))
    generalize upd H18 p19 (.tup [.str "say", .str "a"]) = H19 at F19 P19 A19 e19 i19 l16 ⊢
    refine ⟨by show 2 ≤ sizeLine; decide, fun p20 n20 => ?_⟩
    have q20 := newS (o := .tup [.str "field", .str "a"]) n20
    have F20 := F19.trans (fr_same (S := [d]) q20)
    have P20 := P19.fr (S := []) (fr_same q20) (by simp) (by simp)
    have B20 := A19.kept (kept_same q20)
    have l16 := q20 _ _ l16
    have i19 := i19.kept (kept_same q20)
    have e20 : (upd H19 p20 (.tup [.str "field", .str "a"])) p20 = some (.tup [.str "field", .str "a"]) := upd_same
    have i20 : Is K (upd H19 p20 (.tup [.str "field", .str "a"])) 64 1 (.ref p20) := Is.tup (m := 0) (SqT.of e20) (by show 2 ≤ 64; decide) (flats (xs := [.str "field", .str "a"]) (by decide +kernel))
    have A20 := B20.snoc (v := .ref p20) (i20.mono (Nat.le_refl _) (by decide))
    generalize upd H19 p20 (.tup [.str "field", .str "a"]) = H20 at F20 P20 A20 e20 i20 l16 ⊢
    refine ⟨by show 1 ≤ sizeLine; decide, fun p21 n21 => ?_⟩
    have q21 := newS (o := .tup [.int 1]) n21
    have F21 := F20.trans (fr_same (S := [d]) q21)
    have P21 := P20.fr (S := []) (fr_same q21) (by simp) (by simp)
    have B21 := A20.kept (kept_same q21)
    have l16 := q21 _ _ l16
    have i20 := i20.kept (kept_same q21)
    have e21 : (upd H20 p21 (.tup [.int 1])) p21 = some (.tup [.int 1]) := upd_same
    have i21 : Is K (upd H20 p21 (.tup [.int 1])) 64 1 (.ref p21) := Is.tup (m := 0) (SqT.of e21) (by show 1 ≤ 64; decide) (flats (xs := [.int 1]) (by decide +kernel))
    have A21 := B21.snoc (v := .ref p21) (i21.mono (Nat.le_refl _) (by decide))
    generalize upd H20 p21 (.tup [.int 1]) = H21 at F21 P21 A21 e21 i21 l16 ⊢
    refine ⟨by show 2 ≤ sizeLine; decide, fun p22 n22 => ?_⟩
    have q22 := newS (o := .tup [.int 1, .int 1]) n22
    have F22 := F21.trans (fr_same (S := [d]) q22)
    have P22 := P21.fr (S := []) (fr_same q22) (by simp) (by simp)
    have B22 := A21.kept (kept_same q22)
    have l16 := q22 _ _ l16
    have i21 := i21.kept (kept_same q22)
    have e22 : (upd H21 p22 (.tup [.int 1, .int 1])) p22 = some (.tup [.int 1, .int 1]) := upd_same
    have i22 : Is K (upd H21 p22 (.tup [.int 1, .int 1])) 64 1 (.ref p22) := Is.tup (m := 0) (SqT.of e22) (by show 2 ≤ 64; decide) (flats (xs := [.int 1, .int 1]) (by decide +kernel))
    have A22 := B22.snoc (v := .ref p22) (i22.mono (Nat.le_refl _) (by decide))
    generalize upd H21 p22 (.tup [.int 1, .int 1]) = H22 at F22 P22 A22 e22 i22 l16 ⊢
    refine ⟨by show 1 ≤ sizeLine; decide, fun p23 n23 => ?_⟩
    have q23 := newS (o := .tup [.ref p22]) n23
    have F23 := F22.trans (fr_same (S := [d]) q23)
    have P23 := P22.fr (S := []) (fr_same q23) (by simp) (by simp)
    have B23 := A22.kept (kept_same q23)
    have l16 := q23 _ _ l16
    have i22 := i22.kept (kept_same q23)
    have e23 : (upd H22 p23 (.tup [.ref p22])) p23 = some (.tup [.ref p22]) := upd_same
    have i23 : Is K (upd H22 p23 (.tup [.ref p22])) 64 2 (.ref p23) := Is.tup (m := 1) (SqT.of e23) (by show 1 ≤ 64; decide) (fun x hx => by
      obtain rfl := List.mem_singleton.mp hx
      exact i22)
    have A23 := B23.snoc (v := .ref p23) (i23.mono (Nat.le_refl _) (by decide))
    generalize upd H22 p23 (.tup [.ref p22]) = H23 at F23 P23 A23 e23 i23 l16 ⊢
    refine ⟨by show 4 ≤ sizeLine; decide, fun p24 n24 => ?_⟩
    have q24 := newS (o := .tup [.str "scale", .str "a", .int 1, .int 1]) n24
    have F24 := F23.trans (fr_same (S := [d]) q24)
    have P24 := P23.fr (S := []) (fr_same q24) (by simp) (by simp)
    have B24 := A23.kept (kept_same q24)
    have l16 := q24 _ _ l16
    have i23 := i23.kept (kept_same q24)
    have e24 : (upd H23 p24 (.tup [.str "scale", .str "a", .int 1, .int 1])) p24 = some (.tup [.str "scale", .str "a", .int 1, .int 1]) := upd_same
    have i24 : Is K (upd H23 p24 (.tup [.str "scale", .str "a", .int 1, .int 1])) 64 1 (.ref p24) := Is.tup (m := 0) (SqT.of e24) (by show 4 ≤ 64; decide) (flats (xs := [.str "scale", .str "a", .int 1, .int 1]) (by decide +kernel))
    have A24 := B24.snoc (v := .ref p24) (i24.mono (Nat.le_refl _) (by decide))
    generalize upd H23 p24 (.tup [.str "scale", .str "a", .int 1, .int 1]) = H24 at F24 P24 A24 e24 i24 l16 ⊢
    refine ⟨_, _, rfl, rfl, by decide, by decide, by decide +kernel, by show 8 ≤ sizeLine; decide, fun p25 n25 => ?_⟩
    dsimp only
    have q25 := newS (o := .lst [.ref p17, .ref p18, .ref p19, .ref p20, .ref p21, .ref p23, .ref p24, .str (Txt.mul "x" 41)]) n25
    have F25 := F24.trans (fr_same (S := [d]) q25)
    have P25 := P24.fr (S := []) (fr_same q25) (by simp) (by simp)
    have A25 := A24.kept (kept_same q25)
    have l16 := q25 _ _ l16
    have l25 : (upd H24 p25 (.lst [.ref p17, .ref p18, .ref p19, .ref p20, .ref p21, .ref p23, .ref p24, .str (Txt.mul "x" 41)])) p25 = some (.lst [.ref p17, .ref p18, .ref p19, .ref p20, .ref p21, .ref p23, .ref p24, .str (Txt.mul "x" 41)]) := upd_same
    generalize upd H24 p25 (.lst [.ref p17, .ref p18, .ref p19, .ref p20, .ref p21, .ref p23, .ref p24, .str (Txt.mul "x" 41)]) = H25 at F25 P25 A25 l16 l25 ⊢
    refine ⟨_, _, _, _, rfl, rfl, l16, l25, by show 27 + 8 ≤ sizeLine; decide, fun p26 n26 => ?_⟩
    have q26 := newS (o := .lst ([.non, .bl true, .bl false, .int 0, .int 1, .int (-1), .int 7, .int (10 ^ (11 : Int).toNat), .str "", .str "a", .str "A", .str "a1", .str "abcdefghijklm", .str "abcdefghi", .str "code", .str "word", .str "text", .ref p2, .ref p3, .ref p4, .ref p5, .ref p6, .ref p7, .ref p8, .ref p10, .ref p12, .ref p14] ++ [.ref p17, .ref p18, .ref p19, .ref p20, .ref p21, .ref p23, .ref p24, .str (Txt.mul "x" 41)])) n26
    have F26 := F25.trans (fr_same (S := [d]) q26)
    have P26 := P25.fr (S := []) (fr_same q26) (by simp) (by simp)
    have A26 := A25.kept (kept_same q26)
    have l16 := q26 _ _ l16
    have l25 := q26 _ _ l25
    have l26 : (upd H25 p26 (.lst ([.non, .bl true, .bl false, .int 0, .int 1, .int (-1), .int 7, .int (10 ^ (11 : Int).toNat), .str "", .str "a", .str "A", .str "a1", .str "abcdefghijklm", .str "abcdefghi", .str "code", .str "word", .str "text", .ref p2, .ref p3, .ref p4, .ref p5, .ref p6, .ref p7, .ref p8, .ref p10, .ref p12, .ref p14] ++ [.ref p17, .ref p18, .ref p19, .ref p20, .ref p21, .ref p23, .ref p24, .str (Txt.mul "x" 41)]))) p26 = some (.lst [.non, .bl true, .bl false, .int 0, .int 1, .int (-1), .int 7, .int (10 ^ (11 : Int).toNat), .str "", .str "a", .str "A", .str "a1", .str "abcdefghijklm", .str "abcdefghi", .str "code", .str "word", .str "text", .ref p2, .ref p3, .ref p4, .ref p5, .ref p6, .ref p7, .ref p8, .ref p10, .ref p12, .ref p14, .ref p17, .ref p18, .ref p19, .ref p20, .ref p21, .ref p23, .ref p24, .str (Txt.mul "x" 41)]) := upd_same
    generalize upd H25 p26 (.lst ([.non, .bl true, .bl false, .int 0, .int 1, .int (-1), .int 7, .int (10 ^ (11 : Int).toNat), .str "", .str "a", .str "A", .str "a1", .str "abcdefghijklm", .str "abcdefghi", .str "code", .str "word", .str "text", .ref p2, .ref p3, .ref p4, .ref p5, .ref p6, .ref p7, .ref p8, .ref p10, .ref p12, .ref p14] ++ [.ref p17, .ref p18, .ref p19, .ref p20, .ref p21, .ref p23, .ref p24, .str (Txt.mul "x" 41)])) = H26 at F26 P26 A26 l16 l25 l26 ⊢
    refine ⟨_, rfl, _, rfl, d, cl, ns, 35, _, rfl, P26, by omega, by decide, by decide, fun Hz z fz Pz z0 z1 => ?_⟩
    obtain ⟨⟨xz, yz, hdz, _⟩, _⟩ := id P26
    have ndz : p26 ≠ d := ne_of l26 hdz (by intro z; cases z)
    obtain ⟨v, ev, mv⟩ := atI_in (xs := ([.non, .bl true, .bl false, .int 0, .int 1, .int (-1), .int 7, .int (10 ^ (11 : Int).toNat), .str "", .str "a", .str "A", .str "a1", .str "abcdefghijklm", .str "abcdefghi", .str "code", .str "word", .str "text", .ref p2, .ref p3, .ref p4, .ref p5, .ref p6, .ref p7, .ref p8, .ref p10, .ref p12, .ref p14, .ref p17, .ref p18, .ref p19, .ref p20, .ref p21, .ref p23, .ref p24, .str (Txt.mul "x" 41)] : List V)) z0 z1
    refine ⟨p26, _, z, v, rfl, rfl, SqL.of (fz _ _ (by simpa using ndz) l26), ev, q Hz v (F26.trans fz) (Pz.mono (by omega)) ?_⟩
    have Az := A26.kept (Kept.fr P26 fz)
    have key : ∀ x ∈ ([.non, .bl true, .bl false, .int 0, .int 1, .int (-1), .int 7, .int (10 ^ (11 : Int).toNat), .str "", .str "a", .str "A", .str "a1", .str "abcdefghijklm", .str "abcdefghi", .str "code", .str "word", .str "text", .ref p2, .ref p3, .ref p4, .ref p5, .ref p6, .ref p7, .ref p8, .ref p10, .ref p12, .ref p14, .ref p17, .ref p18, .ref p19, .ref p20, .ref p21, .ref p23, .ref p24, .str (Txt.mul "x" 41)] : List V), Is K Hz 64 3 x := fun x hx => by
      have hf : ∀ x ∈ ([.non, .bl true, .bl false, .int 0, .int 1, .int (-1), .int 7, .int (10 ^ (11 : Int).toNat), .str "", .str "a", .str "A", .str "a1", .str "abcdefghijklm", .str "abcdefghi", .str "code", .str "word", .str "text", .str (Txt.mul "x" 41)] : List V), Is K Hz 64 3 x := flats (by decide +kernel)
      simp only [List.mem_cons, List.not_mem_nil, or_false] at hx
      rcases hx with rfl | rfl | rfl | rfl | rfl | rfl | rfl | rfl | rfl | rfl | rfl | rfl | rfl | rfl | rfl | rfl | rfl | rfl | rfl | rfl | rfl | rfl | rfl | rfl | rfl | rfl | rfl | rfl | rfl | rfl | rfl | rfl | rfl | rfl | rfl
      · exact hf _ (by simp)
      · exact hf _ (by simp)
      · exact hf _ (by simp)
      · exact hf _ (by simp)
      · exact hf _ (by simp)
      · exact hf _ (by simp)
      · exact hf _ (by simp)
      · exact hf _ (by simp)
      · exact hf _ (by simp)
      · exact hf _ (by simp)
      · exact hf _ (by simp)
      · exact hf _ (by simp)
      · exact hf _ (by simp)
      · exact hf _ (by simp)
      · exact hf _ (by simp)
      · exact hf _ (by simp)
      · exact hf _ (by simp)
      · exact Az _ (by simp)
      · exact Az _ (by simp)
      · exact Az _ (by simp)
      · exact Az _ (by simp)
      · exact Az _ (by simp)
      · exact Az _ (by simp)
      · exact Az _ (by simp)
      · exact Az _ (by simp)
      · exact Az _ (by simp)
      · exact Az _ (by simp)
      · exact Az _ (by simp)
      · exact Az _ (by simp)
      · exact Az _ (by simp)
      · exact Az _ (by simp)
      · exact Az _ (by simp)
      · exact Az _ (by simp)
      · exact Az _ (by simp)
      · exact hf _ (by simp)
    exact key v mv
end
end St6

set_option autoImplicit false
set_option maxHeartbeats 4000000
namespace St6
open PySem PySem.Spec PyProof.Rows L2 Tg Cc TL
open Ev (op_mulS pe_revS revS)
/-! a thing bent -/
theorem as_app {z y : Str} (h : As z) (k : As y) : As (z ++ y) := fun c hc => by
  rw [tl_app] at hc
  exact (List.mem_append.mp hc).elim (h c) (k c)
theorem cutS_mem {z : Str} {lo hi : Option Int} {c : Nat} (h : c ∈ (cutS z lo hi).cps.toList) : c ∈ z.cps.toList := by
  unfold cutS at h
  have h : c ∈ (z.cps.toList.drop (HT.sIx z.length 0 lo)).take (HT.sIx z.length z.length hi - HT.sIx z.length 0 lo) := by simpa using h
  exact List.mem_of_mem_drop (List.mem_of_mem_take h)
theorem as_cut {z : Str} {lo hi : Option Int} (h : As z) : As (cutS z lo hi) := fun c hc => h c (cutS_mem hc)
theorem len_cut {z : Str} {lo hi : Option Int} : (cutS z lo hi).length ≤ z.length := by
  unfold cutS
  show (Array.size _) ≤ z.cps.size
  rw [List.size_toArray, List.length_take, List.length_drop, Array.length_toList]
  omega
theorem as_rev {z : Str} (h : As z) : As (revS z) := fun c hc => by
  have h2 : c ∈ z.cps.toList.reverse := by simpa [revS] using hc
  exact h c (List.mem_reverse.mp h2)
theorem as_upper {z : Str} (h : As z) : As (Txt.upper z) ∧ (Txt.upper z).length = z.length := by
  rw [upper_ascii h]
  refine ⟨fun c hc => ?_, ?_⟩
  · have hc : c ∈ z.cps.toList.map up1 := by simpa using hc
    obtain ⟨x, hx, rfl⟩ := List.mem_map.mp hc
    exact (show ∀ x, x < 128 → up1 x < 128 by decide +kernel) x (h x hx)
  · show (z.cps.map up1).size = z.cps.size
    rw [Array.size_map]
theorem num_int (i : Int) : As (toString i : String) := by
  intro c hc
  have hd : ∀ n : Nat, ∀ c ∈ numL n, 48 ≤ c ∧ c ≤ 57 := numL_digits
  by_cases h0 : 0 ≤ i
  · obtain ⟨n, rfl⟩ := Int.eq_ofNat_of_zero_le h0
    have hc : c ∈ tl (Str.ofString (toString (n : Int))) := hc
    rw [tl_num] at hc
    have := hd n c hc
    omega
  · obtain ⟨n, rfl⟩ : ∃ n : Nat, i = -(n : Int) := ⟨i.natAbs, by omega⟩
    have hc : c ∈ tl (Str.ofString (toString (-(n : Int)))) := hc
    rw [toString_neg (by omega), show (0 - -(n : Int)) = (n : Int) by omega, tl_ofString, String.toList_append, List.map_append, ← tl_ofString (toString (n : Int)), tl_num] at hc
    rcases List.mem_append.mp hc with h | h
    · have : c = 45 := by simpa using h
      omega
    · have := hd n c h
      omega
theorem pow_big (N : Nat) : 10 ^ N + 10 ^ 10 ≤ 10 ^ (3 * N + 80) := by
  have e : 10 ^ (3 * N + 80) = 10 ^ N * 10 ^ (2 * N + 80) := by rw [← Nat.pow_add]; congr 1; omega
  have h1 : 1 ≤ 10 ^ N := Nat.one_le_pow _ _ (by decide)
  have h2 : 10 ^ N * (1 + 10 ^ 10) ≤ 10 ^ N * 10 ^ (2 * N + 80) := Nat.mul_le_mul_left _ (Nat.le_trans (show 1 + 10 ^ 10 ≤ 10 ^ 80 by decide +kernel) (Nat.pow_le_pow_right (by decide) (by omega)))
  rw [e]
  refine Nat.le_trans ?_ h2
  rw [Nat.mul_add, Nat.mul_one]
  have := Nat.mul_le_mul_right (10 ^ 10) h1
  omega
theorem int_near {N : Nat} {i k : Int} (h : i.natAbs < 10 ^ N) (hk : k.natAbs ≤ 10 ^ 10) : (i + k).natAbs < 10 ^ (3 * N + 80) := by
  have := pow_big N
  have := Int.natAbs_add_le i k
  omega
theorem log_small {N : Nat} {i : Int} (h : i.natAbs < 10 ^ N) (hN : N ≤ 500) : i.natAbs.log2 < 1920 := by
  have h2 : i.natAbs < 2 ^ 1920 := Nat.lt_of_lt_of_le h (Nat.le_trans (Nat.pow_le_pow_right (by decide) hN) (by decide +kernel))
  by_cases z : i.natAbs = 0
  · rw [z]
    decide
  · exact (Nat.log2_lt z).mpr h2
def signsT : Str := " !\"#$&'()*+,-./0123456789:;<=>?@ABCDEFGHIJKLMNOPQRSTUVWXYZ[\\]^_`abcdefghijklmnopqrstuvwxyz{|}~"
def isSeq (d : PyData) : Bool := isStr d || (isTup d || isLst d)
theorem kit_seq {K : PySem.W.Frag} (d : PyData) : PySem.W.kitAny K (.type (tyOf d)) [.type "str", .type "tuple", .type "list"] = some (isSeq d) := by
  refine kitAny_cons (kit_ty (kit_str d)) (fun h1 => kitAny_cons (kit_ty (kit_tup d)) (fun h2 => kitAny_cons (kit_ty (kit_lst d)) (fun h3 => ?_) (fun h3 => ?_)) (fun h2 => ?_)) (fun h1 => ?_) <;> unfold isSeq
  · rw [h1, h2, h3]
    rfl
  · rw [h3, Bool.or_true, Bool.or_true]
  · rw [h2, Bool.true_or, Bool.or_true]
  · rw [h1, Bool.true_or]
theorem cutV_mem {xs : List V} {lo hi : Option Int} {x : V} (h : x ∈ cutV xs lo hi) : x ∈ xs := by
  unfold cutV at h
  exact List.mem_of_mem_drop (List.mem_of_mem_take h)
def spBent (K : PySem.W.Frag) (m : Nat) : Sp := fun vs H Q _ => ∃ (d cl : Addr) (ns : List Int) (n N : Nat) (v : V), vs = [.ref d, v] ∧ Pen H d cl ns n ∧ n + 5 * m ≤ 800000 ∧ Is K H N m v ∧ N ≤ 400 ∧ 1 ≤ N ∧
  ∀ H' u, Fr [d] H H' → Pen H' d cl ns (n + 5 * (m + 1)) → Is K H' (3 * N + 80) (m + 4) u → Q u H'
def spRec (K : PySem.W.Frag) (m : Nat) : Sp := fun vs H Q E => ∃ m', m = m' + 1 ∧ spBent K m' vs H Q E
theorem Is.sq {K : PySem.W.Frag} {H : Hp} {N m : Nat} {t : Bool} {a : Addr} {xs : List V} (h : Sq t K H a xs) (l : xs.length ≤ N) (k : ∀ x ∈ xs, Is K H N m x) : Is K H N (m + 1) (.ref a) := by
  cases t with
  | false => exact Is.lst h l k
  | true => exact Is.tup h l k
theorem _root_.Cc.Sq.kept {K : PySem.W.Frag} {H H1 : Hp} {t : Bool} {a : Addr} {xs : List V} (h : Sq t K H a xs) (k : Kept H H1) : Sq t K H1 a xs := by
  cases t with
  | false => exact k.lst h
  | true => exact k.tup h
theorem _root_.Cc.SqM.kept {K : PySem.W.Frag} {H H1 : Hp} {t : Bool} {a : Addr} {xs : List V} (h : SqM t K H a xs) (k : Kept H H1) : SqM t K H1 a xs := by
  cases t with
  | false => exact k.lstH h
  | true => exact k.tup h
/-- the four roads of a thing -/
theorem roads {K : PySem.W.Frag} {H : Hp} {N m : Nat} {v : V} (h : Is K H N m v) : ∃ d, Th K H v d ∧ ((∃ i, d = .int i ∧ v = .int i ∧ i.natAbs < 10 ^ N) ∨ (∃ s, d = .str s ∧ v = .str s ∧ s.length ≤ N ∧ As s) ∨
    (∃ t a xs m', v = .ref a ∧ m = m' + 1 ∧ Sq t K H a xs ∧ xs.length ≤ N ∧ (∀ x ∈ xs, Is K H N m' x) ∧ isInt d = false ∧ isSeq d = true ∧ isStr d = false) ∨ (isInt d && !isBool d) = false ∧ isSeq d = false) := by
  obtain ⟨d, hT, hB⟩ := h
  refine ⟨d, hT, ?_⟩
  cases hT with
  | non => exact .inr (.inr (.inr ⟨rfl, rfl⟩))
  | bl b => exact .inr (.inr (.inr ⟨rfl, rfl⟩))
  | int i => exact .inl ⟨i, rfl, rfl, bd_int.mp hB⟩
  | str s => exact .inr (.inl ⟨s, rfl, rfl, (bd_str.mp hB).1, (bd_str.mp hB).2⟩)
  | dct e l => exact .inr (.inr (.inr ⟨rfl, rfl⟩))
  | lst e t =>
    cases m with
    | zero => exact hB.elim
    | succ n => exact .inr (.inr (.inl ⟨false, _, _, n, rfl, rfl, e, by rw [t.len]; exact hB.1, of_all t hB.2, rfl, rfl, rfl⟩))
  | tup e t =>
    cases m with
    | zero => exact hB.elim
    | succ n => exact .inr (.inr (.inl ⟨true, _, _, n, rfl, rfl, e, by rw [t.len]; exact hB.1, of_all t hB.2, rfl, rfl, rfl⟩))
section
variable {P : Program} {w : World} {K : PySem.W.Frag} {mg : Str → Option Value} {base : Heap} {m : Nat}
theorem scbentS : FnScope ["pen", "thing", "way", "signs", "at", "ahead", "here", "behind", "sign", "some"] ["pen", "thing"] (defScope sBent) := ⟨rfl, rfl, rfl, by decide +kernel, rfl, by decide +kernel, by decide +kernel⟩
theorem ok_bentS {f : Addr} {fd : FuncData} (F : FnP K "_law_bent" sBent f fd) {f__law_draw : Addr} {fd__law_draw : FuncData} (c__law_draw : Cl P w K mg base CX0 "_law_draw" 1 ["pen", "many"] (spDraw) f__law_draw fd__law_draw) {f__law_odd : Addr} {fd__law_odd : FuncData} (c__law_odd : Cl P w K mg base CX0 "_law_odd" 2 ["pen"] (spOdd K) f__law_odd fd__law_odd) (c__law_bent : Cl P w K mg base CX0 "_law_bent" (2 + m) ["pen", "thing"] (spRec K m) f fd) (mb_isinstance : mg "isinstance" = none) (mb_int : mg "int" = none) (mb_bool : mg "bool" = none) (mb_str : mg "str" = none) (mb_tuple : mg "tuple" = none) (mb_list : mg "list" = none) (mb_len : mg "len" = none)   : FnOk P w K mg base CX0 (2 + m + 1) f fd ["pen", "thing"] (spBent K m) := by
  refine F.ok scbentS (fun vs H Q E h => ?_) (fun cdv A outer s H vs Q E hr h => ?_)
  · obtain ⟨d, cl, ns, n, N, v, rfl, _⟩ := h
    rfl
  · obtain ⟨d, cl, ns, n, N, v, rfl, hP, hn, hI, hN, hN1, q⟩ := h
    have hu := hu_of hr
    have hs := szl
    refine ⟨_, PSs.nox (pss_cons (ps_set (i := 2) scbentS.nd rfl (Or.inl rfl) (pe_call c__law_draw.ok (hr.mono (by omega)) (by rfl) c__law_draw.m c__law_draw.kp c__law_draw.b .nil pass0 (pa_cons (pv 0) (pa_cons (pe_int) pa_nil))))
      (pss_cons (ps_set (i := 3) scbentS.nd rfl (Or.inl rfl) (pe_str))
      (pss_cons (ps_if (PW.pt (pw_and (pt_val (pe_callB call_isi (by rfl) mb_isinstance (by decide +kernel) (pa_cons (pv 1) (pa_cons (pe_bltn (v := .ty "int") (by rfl) mb_int (by decide +kernel) rfl) pa_nil)))) (pw_and1 (pt_not (pt_val (pe_callB call_isi (by rfl) mb_isinstance (by decide +kernel) (pa_cons (pv 1) (pa_cons (pe_bltn (v := .ty "bool") (by rfl) mb_bool (by decide +kernel) rfl) pa_nil)))))))) (pss_one (ps_ret (pe_ix ix_list (pe_lst (pa_cons (pe_op op_add (pv 1) (pe_int)) (pa_cons (pe_op op_sub (pv 1) (pe_int)) (pa_cons (pe_op op_sub (pe_int) (pv 1)) (pa_cons (pe_int) (pa_cons (pe_cmpR op_eq (pv 1) (pe_int) (nomark _)) (pa_cons (pe_callTy call_str_int (by rfl) mb_str (by decide +kernel) (pa_cons (pv 1) pa_nil)) (pa_cons (pe_op op_add (pv 1) (pe_op op_pow (pe_int) (pe_int))) (pa_cons (pe_tup (pa_cons (pv 1) pa_nil)) (pa_cons (pe_non) pa_nil)))))))))) (pv 2) (fun _ _ => rfl)))) (pss_nil))
      (pss_cons (ps_if (pt_not (pt_val (pe_callB call_isiT (by rfl) mb_isinstance (by decide +kernel) (pa_cons (pv 1) (pa_cons (pe_tup (pa_cons (pe_bltn (v := .ty "str") (by rfl) mb_str (by decide +kernel) rfl) ( pa_cons (pe_bltn (v := .ty "tuple") (by rfl) mb_tuple (by decide +kernel) rfl) ( pa_cons (pe_bltn (v := .ty "list") (by rfl) mb_list (by decide +kernel) rfl) (pa_nil))))) pa_nil))))) (pss_one (ps_ret (pe_call c__law_odd.ok (hr.mono (by omega)) (by rfl) c__law_odd.m c__law_odd.kp c__law_odd.b .nil pass0 (pa_cons (pv 0) pa_nil)))) (pss_nil))
      (pss_cons (ps_set (i := 4) scbentS.nd rfl (Or.inl rfl) (pe_call c__law_draw.ok (hr.mono (by omega)) (by rfl) c__law_draw.m c__law_draw.kp c__law_draw.b .nil pass0 (pa_cons (pv 0) (pa_cons (pe_op op_add (pe_callB call_len (by rfl) mb_len (by decide +kernel) (pa_cons (pv 1) pa_nil)) (pe_int)) pa_nil))))
      (pss_cons (ps_par3 (i := 5) (j := 6) (l := 7) rfl scbentS.nd rfl rfl rfl (by decide) (by decide) (by decide) rfl rfl rfl (pa_cons (pe_slice Cc.sl_any (pv 1) po_none (po_some (pv 4))) (pa_cons (pe_slice Cc.sl_any (pv 1) (po_some (pv 4)) (po_some (pe_op op_add (pv 4) (pe_int)))) (pa_cons (pe_slice Cc.sl_any (pv 1) (po_some (pe_op op_add (pv 4) (pe_int))) po_none) pa_nil))) (by rfl))
      (pss_cons (ps_if (pt_val (pe_callB call_isi (by rfl) mb_isinstance (by decide +kernel) (pa_cons (pv 1) (pa_cons (pe_bltn (v := .ty "str") (by rfl) mb_str (by decide +kernel) rfl) pa_nil)))) (pss_cons (ps_set (i := 8) scbentS.nd rfl (Or.inl rfl) (pe_ix ix_str (pv 3) (pe_call c__law_draw.ok (hr.mono (by omega)) (by rfl) c__law_draw.m c__law_draw.kp c__law_draw.b .nil pass0 (pa_cons (pv 0) (pa_cons (pe_int) pa_nil))) (fun _ _ => rfl)))
      (pss_cons (ps_set (i := 9) scbentS.nd rfl (Or.inl rfl) (pe_lst (pa_cons (pe_op op_add_str (pe_op op_add_str (pv 5) (pv 8)) (pe_slice sl_str (pv 1) (po_some (pv 4)) po_none)) (pa_cons (pe_op Cc.op_addAny (pv 5) (pv 7)) (pa_cons (pe_op op_add_str (pe_op op_add_str (pv 5) (pv 8)) (pv 7)) (pa_cons (pe_op op_add_str (pv 1) (pe_str)) (pa_cons (pe_upper (pv 1)) pa_nil)))))))
      (pss_one (ps_ret (pe_ix ix_list (pe_op op_cat (pv 9) (pe_lst (pa_cons (pe_op op_add_str (pv 1) (pv 1)) (pa_cons (pe_str) (pa_cons (pe_revS (pv 1)) (pa_cons (pe_tup (pa_cons (pv 1) pa_nil)) pa_nil)))))) (pv 2) (fun _ _ => rfl)))))) (pss_nil))
      (C8.pss_cut (ps_if (PW.pt (pw_and (pt_cmpR op_lt (pv 2) (pe_int) (nomark _)) (pw_and1 (pt_cmpR op_lt (pv 4) (pe_callB call_len (by rfl) mb_len (by decide +kernel) (pa_cons (pv 1) pa_nil)) (nomark _))))) (pss_one (ps_ret (pe_callTy call_tuple_of (by rfl) mb_tuple (by decide +kernel) (pa_cons (pe_op op_cat (pe_op op_cat (pe_callTy call_list_of (by rfl) mb_list (by decide +kernel) (pa_cons (pv 5) pa_nil)) (pe_lst (pa_cons (pe_call c__law_bent.ok (hr.mono (by omega)) (by rfl) c__law_bent.m c__law_bent.kp c__law_bent.b .nil pass0 (pa_cons (pv 0) (pa_cons (pe_ix Cc.ix_B (pv 1) (pv 4) (fun _ _ => rfl)) pa_nil))) pa_nil))) (pe_callTy call_list_of (by rfl) mb_list (by decide +kernel) (pa_cons (pv 7) pa_nil))) pa_nil)))) (pss_nil))
      (pss_cons (ps_if (pt_cmpR op_eq (pv 2) (pe_int) (nomark _)) (pss_one (ps_ret (pe_op Cc.op_addAny (pv 5) (pv 7)))) (pss_nil))
      (pss_cons (ps_if (pt_cmpR op_eq (pv 2) (pe_int) (nomark _)) (pss_one (ps_ret (pe_op Cc.op_catB (pe_op Cc.op_catB (pv 5) (pv 6)) (pe_slice Cc.sl_any (pv 1) (po_some (pv 4)) po_none)))) (pss_nil))
      (C8.pss_cut (ps_if (PW.pt (pw_and (pt_cmpR op_eq (pv 2) (pe_int) (nomark _)) (pw_and1 (pt_cmpR op_eq (pe_call c__law_draw.ok (hr.mono (by omega)) (by rfl) c__law_draw.m c__law_draw.kp c__law_draw.b .nil pass0 (pa_cons (pv 0) (pa_cons (pe_int) pa_nil))) (pe_int) (nomark _))))) (pss_one (ps_ret (pe_callTy call_list_of (by rfl) mb_list (by decide +kernel) (pa_cons (pv 1) pa_nil)))) (pss_nil))
      (pss_cons (ps_if (pt_cmpR op_eq (pv 2) (pe_int) (nomark _)) (pss_one (ps_ret (pe_callTy call_tuple_of (by rfl) mb_tuple (by decide +kernel) (pa_cons (pe_op op_cat (pe_op op_cat (pe_callTy call_list_of (by rfl) mb_list (by decide +kernel) (pa_cons (pv 5) pa_nil)) (pe_lst (pa_cons (pe_call c__law_odd.ok (hr.mono (by omega)) (by rfl) c__law_odd.m c__law_odd.kp c__law_odd.b .nil pass0 (pa_cons (pv 0) pa_nil)) pa_nil))) (pe_callTy call_list_of (by rfl) mb_list (by decide +kernel) (pa_cons (pv 7) pa_nil))) pa_nil)))) (pss_nil))
      (pss_one (ps_ret (pe_op Cc.op_catB (pe_op Cc.op_catB (pv 5) (Ys.pe_revA (pe_slice Cc.sl_B (pv 1) (po_some (pv 4)) (po_some (pe_op op_add (pv 4) (pe_int)))))) (pe_slice Cc.sl_any (pv 1) (po_some (pe_op op_add (pv 4) (pe_int))) po_none)))))))))))))))), ?_⟩
    refine ⟨_, rfl, d, cl, ns, 9, n, rfl, hP, by omega, by decide, by decide, fun H1 way f1 P1 w0 w1 => ?_⟩
    have k1 := Kept.fr hP f1
    have hI1 := hI.kept k1
    obtain ⟨D, hT, hR⟩ := roads hI1
    have lN : ∀ {x : Nat}, x ≤ 2000 → x ≤ sizeLine := fun h => by rw [hs]; omega
    refine ⟨_, rfl, v, .ty "int", _, _, _, rfl, .ty "int", hT.ty, kit_ty (kit_int D), _, rfl, ?_⟩
    rcases hR with ⟨i, rfl, rfl, hi⟩ | ⟨z, rfl, rfl, hz, hA⟩ | ⟨t, a, xs, m', rfl, rfl, hx, lx, hxs, eI, eS, eS2⟩ | ⟨eI, eS⟩
    · -- a number
      refine iteT ⟨_, rfl, .int i, .ty "bool", _, _, _, rfl, .ty "bool", hT.ty, kit_ty (kit_bool _), _, rfl, iteT ?_⟩
      refine ⟨_, rfl, _, _, rfl, rfl, _, rfl, _, _, rfl, rfl, _, rfl, _, _, rfl, rfl, _, rfl, rfl, _, rfl, i, rfl, log_small hi (by omega), _, rfl, _, _, rfl, rfl, (by show (0 : Int) ≤ 9 ∧ (9 : Int) ≤ 1000000 ∧ (10 : Int).natAbs < 2 ^ 64; decide), _, _, rfl, rfl, _, rfl, (by show 1 ≤ sizeLine; decide), fun tp nt => ?_⟩
      refine ⟨by show 9 ≤ sizeLine; decide, fun l nl => ⟨_, rfl, ?_⟩⟩
      obtain ⟨u, eu, mu⟩ := atI_in (xs := ([.int (i + 1), .int (i - 1), .int (0 - i), .int 0, .bl (decide (V.int i = V.int 1)), .str (toString i : String), .int (i + 10 ^ (9 : Int).toNat), .ref tp, .non] : List V)) w0 w1
      have s2 := newS (o := .tup [.int i]) nt
      refine ⟨l, _, way, u, rfl, rfl, SqL.of upd_same, eu, ?_⟩
      have s3 : ∀ o, Same H1 (upd (upd H1 tp (.tup [.int i])) l o) := fun o => s2.trans (newS nl)
      refine q _ u (f1.trans (fr_same (s3 _))) ((P1.fr (S := []) (fr_same (s3 _)) (by simp) (by simp)).mono (by omega)) ?_
      have pm : 10 ^ N ≤ 10 ^ (3 * N + 80) := Nat.pow_le_pow_right (by decide) (by omega)
      simp only [List.mem_cons, List.not_mem_nil, or_false] at mu
      rcases mu with rfl | rfl | rfl | rfl | rfl | rfl | rfl | rfl | rfl
      · exact .int _ (int_near hi (by decide))
      · exact .int _ (by rw [Int.sub_eq_add_neg]; exact int_near hi (by decide))
      · exact .int _ (by omega)
      · exact .int _ (Nat.lt_of_lt_of_le (by decide) (Nat.one_le_pow _ _ (by decide)))
      · exact .bl _
      · refine .str _ ?_ (num_int i)
        have := int_text_length_le10 (a := i) (k := N) (by omega) hi
        show (Str.ofString (toString i)).length ≤ _
        have e : (Str.ofString (toString i)).length = (toString i).length := by
          rw [len_tl, tl_ofString, List.length_map]
          rfl
        omega
      · exact .int _ (int_near hi (by decide))
      · exact Is.tup (m := m + 3) (SqT.of (newS nl _ _ upd_same)) (by show 1 ≤ _; omega) (fun x hx => by rw [List.mem_singleton.mp hx]; exact .int _ (by omega))
      · exact .non
    · -- a text
      refine iteF (iteF ⟨_, rfl, (by show 3 ≤ sizeLine; decide), fun tp nt => ⟨.str z, tp, _, _, _, _, rfl, upd_same, .cons (.ty _) (.cons (.ty _) (.cons (.ty _) .nil)), (hT.kept (kept_same (newS nt))).ty, kit_seq _, _, rfl, iteF ?_⟩⟩)
      have s2 := newS (o := .tup [.ty "str", .ty "tuple", .ty "list"]) nt
      have f2 := f1.trans (fr_same (S := [d]) s2)
      have P2 := P1.fr (S := []) (fr_same s2) (by simp) (by simp)
      clear hT hI1
      generalize upd H1 tp (.tup [.ty "str", .ty "tuple", .ty "list"]) = H2 at f2 P2 ⊢
      refine ⟨_, rfl, _, rfl, _, _, rfl, ⟨lN (by omega), rfl⟩, _, _, rfl, rfl, d, cl, ns, (z.length : Int) + 1, _, rfl, P2, by omega, by omega, by omega, fun H3 at_ f3 P3 a0 a1 => ?_⟩
      have f03 := f2.trans f3
      refine ⟨_, rfl, _, rfl, at_, rfl, .inl ⟨z, rfl, lN (by omega), ?_⟩⟩
      refine ⟨_, rfl, _, rfl, at_, rfl, _, rfl, _, _, rfl, rfl, at_ + 1, rfl, .inl ⟨z, rfl, lN (by omega), ?_⟩⟩
      refine ⟨_, rfl, _, rfl, _, _, rfl, rfl, at_ + 1, rfl, .inl ⟨z, rfl, lN (by omega), ?_⟩⟩
      refine ⟨_, _, _, rfl, _, rfl, .str z, .ty "str", _, _, _, rfl, .ty "str", .base (.str z), kit_ty (kit_str (.str z)), _, rfl, iteT ?_⟩
      refine ⟨_, rfl, _, rfl, d, cl, ns, 94, _, rfl, P3, by omega, by decide, by decide, fun H4 g f4 P4 g0 g1 => ?_⟩
      obtain ⟨c, ec, mc⟩ := atI_in (xs := (Str.ofString " !\"#$&'()*+,-./0123456789:;<=>?@ABCDEFGHIJKLMNOPQRSTUVWXYZ[\\]^_`abcdefghijklmnopqrstuvwxyz{|}~").cps.toList) g0 (by rw [show (Str.ofString " !\"#$&'()*+,-./0123456789:;<=>?@ABCDEFGHIJKLMNOPQRSTUVWXYZ[\\]^_`abcdefghijklmnopqrstuvwxyz{|}~").cps.toList.length = 94 by decide +kernel]; exact g1)
      have c128 : c < 128 := (show ∀ c ∈ (Str.ofString " !\"#$&'()*+,-./0123456789:;<=>?@ABCDEFGHIJKLMNOPQRSTUVWXYZ[\\]^_`abcdefghijklmnopqrstuvwxyz{|}~").cps.toList, c < 128 by decide +kernel) c mc
      refine ⟨_, g, c, rfl, rfl, by rw [show (Str.ofString " !\"#$&'()*+,-./0123456789:;<=>?@ABCDEFGHIJKLMNOPQRSTUVWXYZ[\\]^_`abcdefghijklmnopqrstuvwxyz{|}~").length = 94 by decide +kernel]; exact lN (by omega), ec, ?_⟩
      have as1 : As (⟨#[c]⟩ : Str) := fun x hx => by
        have : x = c := by simpa using hx
        omega
      have l1 : (⟨#[c]⟩ : Str).length = 1 := rfl
      have la := len_cut (z := z) (lo := none) (hi := some at_)
      have lb := len_cut (z := z) (lo := some (at_ + 1)) (hi := none)
      have lc := len_cut (z := z) (lo := some at_) (hi := none)
      have aa := as_cut (lo := none) (hi := some at_) hA
      have ab := as_cut (lo := some (at_ + 1)) (hi := none) hA
      have ac := as_cut (lo := some at_) (hi := none) hA
      obtain ⟨au, lu⟩ := as_upper hA
      have l7 : (Str.ofString "abcdefg").length = 7 := by decide +kernel
      have a7 : As (Str.ofString "abcdefg") := (show ∀ c ∈ (Str.ofString "abcdefg").cps.toList, c < 128 by decide +kernel)
      refine ⟨_, rfl, _, rfl, _, _, rfl, rfl, by rw [l1]; exact lN (by omega), _, rfl, _, rfl, at_, rfl, z, rfl, lN (by omega), _, _, rfl, rfl, by rw [len_app, l1]; exact lN (by omega), ?_⟩
      refine ⟨_, rfl, _, rfl, .inl ⟨_, _, rfl, rfl, lN (by omega), ?_⟩⟩
      refine ⟨_, rfl, _, rfl, _, _, rfl, rfl, by rw [l1]; exact lN (by omega), _, rfl, _, _, rfl, rfl, by rw [len_app, l1]; exact lN (by omega), ?_⟩
      refine ⟨_, rfl, _, _, rfl, rfl, by rw [l7]; exact lN (by omega), ?_⟩
      refine ⟨_, rfl, ⟨_, rfl⟩, z, rfl, rfl, by omega, by show 5 ≤ sizeLine; decide, fun l nl => ?_⟩
      refine ⟨_, rfl, _, rfl, _, rfl, _, _, rfl, rfl, lN (by omega), _, rfl, z, rfl, lN (by omega), _, rfl, (by show 1 ≤ sizeLine; decide), fun tp2 nt2 => ?_⟩
      refine ⟨by show 4 ≤ sizeLine; decide, fun l2 nl2 => ⟨_, _, _, _, rfl, rfl, newS nl2 _ _ (newS nt2 _ _ upd_same), upd_same, by show 5 + 4 ≤ sizeLine; decide, fun l3 nl3 => ⟨_, rfl, ?_⟩⟩⟩
      have s4 : ∀ o, Same H4 (upd _ l3 o) := fun o => (newS nl).trans ((newS nt2).trans ((newS nl2).trans (newS nl3)))
      obtain ⟨u, eu, mu⟩ := atI_in (xs := ([.str (cutS z none (some at_) ++ ⟨#[c]⟩ ++ cutS z (some at_) none), .str (cutS z none (some at_) ++ cutS z (some (at_ + 1)) none), .str (cutS z none (some at_) ++ ⟨#[c]⟩ ++ cutS z (some (at_ + 1)) none), .str (z ++ Str.ofString "abcdefg"), .str (Txt.upper z)] ++ [.str (z ++ z), .str (Str.ofString ""), .str (revS z), .ref tp2] : List V)) w0 (by simp only [List.length_append, List.length_cons, List.length_nil]; omega)
      refine ⟨l3, _, way, u, rfl, rfl, SqL.of upd_same, eu, ?_⟩
      refine q _ u ((f03.trans f4).trans (fr_same (s4 _))) ((P4.fr (S := []) (fr_same (s4 _)) (by simp) (by simp)).mono (by omega)) ?_
      simp only [List.cons_append, List.nil_append, List.mem_cons, List.not_mem_nil, or_false] at mu
      rcases mu with rfl | rfl | rfl | rfl | rfl | rfl | rfl | rfl | rfl
      · exact .str _ (by rw [len_app, len_app, l1]; omega) (as_app (as_app aa as1) ac)
      · exact .str _ (by rw [len_app]; omega) (as_app aa ab)
      · exact .str _ (by rw [len_app, len_app, l1]; omega) (as_app (as_app aa as1) ab)
      · exact .str _ (by rw [len_app, l7]; omega) (as_app hA a7)
      · exact .str _ (by omega) au
      · exact .str _ (by rw [len_app]; omega) (as_app hA hA)
      · exact .str _ (Nat.zero_le _) (show ∀ c ∈ (Str.ofString "").cps.toList, c < 128 by decide +kernel)
      · exact .str _ (by rw [Ev.revS_len]; omega) (as_rev hA)
      · exact Is.tup (m := m + 3) (SqT.of (newS nl3 _ _ (newS nl2 _ _ upd_same))) (by show 1 ≤ _; omega) (fun x hx => by rw [List.mem_singleton.mp hx]; exact .str _ (by omega) hA)
    · -- a list or a tuple
      have lenSq : ∀ {H : Hp}, Sq t K H a xs → ((∃ ys, SqL K H a ys ∧ xs.length = ys.length) ∨ (∃ ys, SqT K H a ys ∧ xs.length = ys.length)) := fun h => by
        cases t with
        | false => exact .inl ⟨_, h, rfl⟩
        | true => exact .inr ⟨_, h, rfl⟩
      have seqOr : ∀ {H : Hp} {b : Addr} {ys : List V}, SqM t K H b ys → (SqL K H b ys ∨ SqT K H b ys) := fun h => by
        cases t with
        | false => exact .inl (SqL.of h)
        | true => exact .inr h
      rw [eI]
      refine iteF (iteF ⟨_, rfl, (by show 3 ≤ sizeLine; decide), fun tp nt => ⟨.ref a, tp, _, _, _, true, rfl, upd_same, .cons (.ty _) (.cons (.ty _) (.cons (.ty _) .nil)), (hT.kept (kept_same (newS nt))).ty, (by rw [kit_seq, eS]), _, rfl, iteF ?_⟩⟩)
      have s2 := newS (o := .tup [.ty "str", .ty "tuple", .ty "list"]) nt
      have f2 := f1.trans (fr_same (S := [d]) s2)
      have P2 := P1.fr (S := []) (fr_same s2) (by simp) (by simp)
      have hx2 := hx.same s2
      have hxs2 : ∀ x ∈ xs, Is K (upd H1 tp (.tup [.ty "str", .ty "tuple", .ty "list"])) N m' x := fun x h => (hxs x h).kept (kept_same s2)
      have hT2 := hT.kept (kept_same s2)
      clear hT hI1 hx hxs
      generalize upd H1 tp (.tup [.ty "str", .ty "tuple", .ty "list"]) = H2 at f2 P2 hx2 hxs2 hT2 ⊢
      refine ⟨_, rfl, _, rfl, _, xs.length, rfl, lenSq hx2, _, _, rfl, rfl, d, cl, ns, (xs.length : Int) + 1, _, rfl, P2, by omega, by omega, by omega, fun H3 at_ f3 P3 a0 a1 => ?_⟩
      have f03 := f2.trans f3
      have k3 := Kept.fr P2 f3
      have hx3 := hx2.kept k3
      have hxs3 : ∀ x ∈ xs, Is K H3 N m' x := fun x h => (hxs2 x h).kept k3
      have hT3 := hT2.kept k3
      clear hT2 hx2 hxs2 P2
      refine ⟨_, rfl, _, rfl, at_, rfl, .inr ⟨t, a, xs, rfl, hx3, fun pa H4 s4 ha4 => ?_⟩⟩
      refine ⟨_, rfl, _, rfl, at_, rfl, _, rfl, _, _, rfl, rfl, at_ + 1, rfl, .inr ⟨t, a, xs, rfl, hx3.same s4, fun ph H5 s5 hh5 => ?_⟩⟩
      refine ⟨_, rfl, _, rfl, _, _, rfl, rfl, at_ + 1, rfl, .inr ⟨t, a, xs, rfl, (hx3.same s4).same s5, fun pb H6 s6 hb6 => ?_⟩⟩
      have s36 := s4.trans (s5.trans s6)
      have f06 := f03.trans (fr_same (S := [d]) s36)
      have P6 := (P3.fr (S := []) (fr_same s36) (by simp) (by simp)).mono (m := n + 2) (by omega)
      have ha6 := (ha4.same s5).same s6
      have hh6 := hh5.same s6
      have hx6 := hx3.same s36
      have hxs6 : ∀ x ∈ xs, Is K H6 N m' x := fun x h => (hxs3 x h).kept (kept_same s36)
      have hT6 := hT3.kept (kept_same s36)
      clear hT3 hx3 hxs3 P3 ha4 hh5
      have la := cutV_length xs none (some at_)
      have lh := cutV_length xs (some at_) (some (at_ + 1))
      have lb := cutV_length xs (some (at_ + 1)) none
      have sp : spOdd K = spOdd K := rfl
      refine ⟨_, _, _, rfl, _, rfl, .ref a, .ty "str", _, _, _, rfl, .ty "str", hT6.ty, kit_ty (kit_str D), _, rfl, ?_⟩
      rw [eS2]
      refine iteF ?_
      -- what is told: some of the same things, perhaps one more
      have told : ∀ {t2 : Bool} {H7 : Hp} {b : Addr} {ys : List V}, Fr [d] H H7 → Pen H7 d cl ns (n + 5 * (m' + 1 + 1)) → Kept H6 H7 → Sq t2 K H7 b ys → ys.length ≤ 3 * N + 80 → (∀ y ∈ ys, y ∈ xs ∨ Is K H7 (3 * N + 80) (m' + 4) y) → Q (.ref b) H7 := fun {t2 H7 b ys} f P k h l e =>
        q H7 _ f P (Is.sq (m := m' + 4) h l fun y hy => (e y hy).elim (fun z => ((hxs6 y z).kept k).mono (by omega) (by omega)) id)
      have same : ∀ {t2 : Bool} {H7 : Hp} {b : Addr} {ys : List V}, Same H6 H7 → Sq t2 K H7 b ys → ys.length ≤ 3 * N + 80 → (∀ y ∈ ys, y ∈ xs) → Q (.ref b) H7 := fun {t2 H7 b ys} s h l e =>
        told (f06.trans (fr_same s)) ((P6.fr (S := []) (fr_same s) (by simp) (by simp)).mono (by omega)) (kept_same s) h l (fun y hy => .inl (e y hy))
      -- one bent
      refine ⟨fun σ' H' => σ' = [some (.ref d), some (.ref a), some (.int way), some (.str signsT), some (.int at_), some (.ref pa), some (.ref ph), some (.ref pb), none, none] ∧ H' = H6, ?_, ?_⟩
      · refine ⟨_, rfl, _, _, rfl, rfl, _, rfl, ite2 (fun e5 => ?_) (fun e5 => ⟨rfl, rfl⟩)⟩
        refine ⟨_, rfl, _, rfl, _, xs.length, rfl, lenSq hx6, _, _, rfl, rfl, _, rfl, ite2 (fun e6 => ?_) (fun e6 => ⟨rfl, rfl⟩)⟩
        have a2 : at_ < (xs.length : Int) := of_decide_eq_true e6
        obtain ⟨x, ex, mx⟩ := atI_in (xs := xs) a0 a2
        refine ⟨_, rfl, pa, _, rfl, seqOr ha6, fun p1 n1 => ?_⟩
        have s7 := newS (o := .lst (cutV xs none (some at_))) n1
        refine ⟨_, rfl, _, rfl, _, rfl, t, a, xs, at_, x, rfl, rfl, hx6.same s7, ex, ?_⟩
        refine ⟨m', rfl, d, cl, ns, _, N, x, rfl, P6.fr (S := []) (fr_same s7) (by simp) (by simp), by omega, (hxs6 x mx).kept (kept_same s7), hN, hN1, fun H8 u f8 P8 I8 => ?_⟩
        have k8 := Kept.fr (P6.fr (S := []) (fr_same s7) (by simp) (by simp)) f8
        have h1 : H8 p1 = some (.lst (cutV xs none (some at_))) := k8.lstH upd_same
        refine ⟨by show 1 ≤ sizeLine; decide, fun p2 n2 => ?_⟩
        refine ⟨_, _, _, _, rfl, rfl, newS n2 _ _ h1, upd_same, by show _ + 1 ≤ sizeLine; exact lN (by omega), fun p3 n3 => ?_⟩
        have s9 : Same H8 (upd (upd H8 p2 (.lst [u])) p3 (.lst (cutV xs none (some at_) ++ [u]))) := (newS n2).trans (newS n3)
        have hb9 := (Cc.SqM.kept (Cc.SqM.same hb6 s7) k8).same s9
        refine ⟨_, rfl, pb, _, rfl, seqOr hb9, fun p4 n4 => ?_⟩
        refine ⟨_, _, _, _, rfl, rfl, newS n4 _ _ upd_same, upd_same, by rw [List.length_append]; exact lN (by show _ + 1 + _ ≤ 2000; omega), fun p5 n5 => ?_⟩
        refine ⟨p5, _, rfl, .inl ⟨SqL.of upd_same, fun p6 n6 => ?_⟩⟩
        have s10 : Same (upd (upd H8 p2 (.lst [u])) p3 (.lst (cutV xs none (some at_) ++ [u]))) (upd (upd (upd (upd (upd H8 p2 (.lst [u])) p3 (.lst (cutV xs none (some at_) ++ [u]))) p4 (.lst (cutV xs (some (at_ + 1)) none))) p5 (.lst (cutV xs none (some at_) ++ [u] ++ cutV xs (some (at_ + 1)) none))) p6 (.tup (cutV xs none (some at_) ++ [u] ++ cutV xs (some (at_ + 1)) none))) := (newS n4).trans ((newS n5).trans (newS n6))
        have sA := s9.trans s10
        refine told (t2 := true) (((f06.trans (fr_same s7)).trans f8).trans (fr_same sA)) ((P8.fr (S := []) (fr_same sA) (by simp) (by simp)).mono (by omega)) ((kept_same s7).trans (k8.trans (kept_same sA))) (show SqT _ _ _ _ from SqT.of upd_same) (by rw [List.length_append, List.length_append]; show _ + 1 + _ ≤ _; omega) (fun y hy => ?_)
        rcases List.mem_append.mp hy with hy | hy
        · rcases List.mem_append.mp hy with hy | hy
          · exact .inl (cutV_mem hy)
          · rw [List.mem_singleton.mp hy]
            exact .inr (I8.kept (kept_same sA))
        · exact .inl (cutV_mem hy)
      · rintro σ' H' ⟨rfl, e⟩
        have e := e.symm
        subst e
        -- one less
        refine ⟨_, rfl, rfl, _, rfl, ite2 (fun e5 => ?_) (fun e5 => ?_)⟩
        · refine ⟨_, rfl, _, rfl, .inr ⟨t, pa, pb, _, _, rfl, rfl, ha6, hb6, lN (by omega), fun p H7 s7 h7 => ?_⟩⟩
          exact same s7 h7.sq (by rw [List.length_append]; omega) (fun y hy => (List.mem_append.mp hy).elim cutV_mem cutV_mem)
        -- one twice
        refine ⟨_, rfl, rfl, _, rfl, ite2 (fun e6 => ?_) (fun e6 => ?_)⟩
        · refine ⟨_, rfl, _, rfl, t, pa, ph, _, _, rfl, rfl, ha6, hh6, lN (by omega), fun p H7 s7 h7 => ?_⟩
          refine ⟨_, rfl, _, rfl, at_, rfl, .inr ⟨t, a, xs, rfl, hx6.same s7, fun p2 H8 s8 h8 => ?_⟩⟩
          have lc := cutV_length xs (some at_) none
          refine ⟨t, p, p2, _, _, rfl, rfl, h7.same s8, h8, by rw [List.length_append]; exact lN (by omega), fun p3 H9 s9 h9 => ?_⟩
          refine same ((s7.trans s8).trans s9) h9.sq (by rw [List.length_append, List.length_append]; omega) (fun y hy => ?_)
          rcases List.mem_append.mp hy with hy | hy
          · exact (List.mem_append.mp hy).elim cutV_mem cutV_mem
          · exact cutV_mem hy
        refine ⟨fun σ' H' => σ' = [some (.ref d), some (.ref a), some (.int way), some (.str signsT), some (.int at_), some (.ref pa), some (.ref ph), some (.ref pb), none, none] ∧ Fr [d] H6 H' ∧ Pen H' d cl ns (n + 3), ?_, ?_⟩
        · refine ⟨_, rfl, rfl, _, rfl, ite2 (fun e7 => ?_) (fun e7 => ⟨rfl, Fr.refl, P6.mono (by omega)⟩)⟩
          refine ⟨_, rfl, d, cl, ns, 2, _, rfl, P6, by omega, by decide, by decide, fun H7 g f7 P7 g0 g1 => ?_⟩
          have k7 := Kept.fr P6 f7
          refine ⟨rfl, _, rfl, ite2 (fun e8 => ?_) (fun e8 => ⟨rfl, f7, P7⟩)⟩
          have hx7 := hx6.kept k7
          have or7 : SqL K H7 a xs ∨ SqT K H7 a xs := by
            cases t with
            | false => exact .inl hx7
            | true => exact .inr hx7
          refine ⟨_, rfl, a, xs, rfl, or7, fun p n8 => ?_⟩
          exact told (t2 := false) ((f06.trans f7).trans (fr_new n8)) ((P7.fr (S := []) (fr_new n8) (by simp) (by simp)).mono (by omega)) (k7.trans (kept_same (newS n8))) (show SqL _ _ _ _ from SqL.of upd_same) (by omega) (fun y hy => .inl hy)
        · rintro σ' H7 ⟨rfl, f7, P7⟩
          have k7 := Kept.fr P6 f7
          have ha7 := Cc.SqM.kept ha6 k7
          have hb7 := Cc.SqM.kept hb6 k7
          have hx7 := hx6.kept k7
          refine ⟨_, rfl, rfl, _, rfl, ite2 (fun e7 => ?_) (fun e7 => ?_)⟩
          · refine ⟨_, rfl, pa, _, rfl, seqOr ha7, fun p1 n1 => ?_⟩
            have s7 := newS (o := .lst (cutV xs none (some at_))) n1
            have P7b := P7.fr (S := []) (fr_same s7) (by simp) (by simp)
            refine ⟨_, rfl, d, cl, ns, _, rfl, P7b, by omega, fun H8 u f8 P8 I8 => ?_⟩
            have k8 := Kept.fr P7b f8
            have h1 : H8 p1 = some (.lst (cutV xs none (some at_))) := k8.lstH upd_same
            refine ⟨by show 1 ≤ sizeLine; decide, fun p2 n2 => ?_⟩
            refine ⟨_, _, _, _, rfl, rfl, newS n2 _ _ h1, upd_same, by show _ + 1 ≤ sizeLine; exact lN (by omega), fun p3 n3 => ?_⟩
            have s9 : Same H8 (upd (upd H8 p2 (.lst [u])) p3 (.lst (cutV xs none (some at_) ++ [u]))) := (newS n2).trans (newS n3)
            have hb9 := (Cc.SqM.kept (Cc.SqM.same hb7 s7) k8).same s9
            refine ⟨_, rfl, pb, _, rfl, seqOr hb9, fun p4 n4 => ?_⟩
            refine ⟨_, _, _, _, rfl, rfl, newS n4 _ _ upd_same, upd_same, by rw [List.length_append]; exact lN (by show _ + 1 + _ ≤ 2000; omega), fun p5 n5 => ?_⟩
            refine ⟨p5, _, rfl, .inl ⟨SqL.of upd_same, fun p6 n6 => ?_⟩⟩
            have s10 : Same (upd (upd H8 p2 (.lst [u])) p3 (.lst (cutV xs none (some at_) ++ [u]))) (upd (upd (upd (upd (upd H8 p2 (.lst [u])) p3 (.lst (cutV xs none (some at_) ++ [u]))) p4 (.lst (cutV xs (some (at_ + 1)) none))) p5 (.lst (cutV xs none (some at_) ++ [u] ++ cutV xs (some (at_ + 1)) none))) p6 (.tup (cutV xs none (some at_) ++ [u] ++ cutV xs (some (at_ + 1)) none))) := (newS n4).trans ((newS n5).trans (newS n6))
            have sA := s9.trans s10
            refine told (t2 := true) ((((f06.trans f7).trans (fr_same s7)).trans f8).trans (fr_same sA)) ((P8.fr (S := []) (fr_same sA) (by simp) (by simp)).mono (by omega)) (k7.trans ((kept_same s7).trans (k8.trans (kept_same sA)))) (show SqT _ _ _ _ from SqT.of upd_same) (by rw [List.length_append, List.length_append]; show _ + 1 + _ ≤ _; omega) (fun y hy => ?_)
            rcases List.mem_append.mp hy with hy | hy
            · rcases List.mem_append.mp hy with hy | hy
              · exact .inl (cutV_mem hy)
              · rw [List.mem_singleton.mp hy]
                exact .inr ((I8.kept (kept_same sA)).mono (by omega) (by omega))
            · exact .inl (cutV_mem hy)
          · have two : ∀ {t2 : Bool} {H8 : Hp} {b : Addr} {ys : List V}, Same H7 H8 → Sq t2 K H8 b ys → ys.length ≤ 3 * N + 80 → (∀ y ∈ ys, y ∈ xs) → Q (.ref b) H8 := fun {t2 H8 b ys} s h l e =>
              told ((f06.trans f7).trans (fr_same s)) ((P7.fr (S := []) (fr_same s) (by simp) (by simp)).mono (by omega)) (k7.trans (kept_same s)) h l (fun y hy => .inl (e y hy))
            refine ⟨_, rfl, _, rfl, _, rfl, at_, rfl, _, rfl, _, _, rfl, rfl, at_ + 2, rfl, t, a, xs, rfl, hx7, fun p1 H8 s8 h8 => ?_⟩
            have lm := cutV_length xs (some at_) (some (at_ + 2))
            have lc := cutV_length xs (some (at_ + 2)) none
            refine ⟨t, p1, _, rfl, h8.sq, fun p2 H9 s9 h9 => ?_⟩
            refine ⟨t, pa, p2, _, _, rfl, rfl, (ha7.same s8).same s9, h9, by rw [List.length_reverse]; exact lN (by omega), fun p3 HA sA hA => ?_⟩
            refine ⟨_, rfl, _, rfl, _, _, rfl, rfl, at_ + 2, rfl, .inr ⟨t, a, xs, rfl, ((hx7.same s8).same s9).same sA, fun p4 HB sB hB => ?_⟩⟩
            refine ⟨t, p3, p4, _, _, rfl, rfl, hA.same sB, hB, by rw [List.length_append, List.length_reverse]; exact lN (by omega), fun p5 HC sC hC => ?_⟩
            refine two ((((s8.trans s9).trans sA).trans sB).trans sC) hC.sq (by rw [List.length_append, List.length_append, List.length_reverse]; omega) (fun y hy => ?_)
            rcases List.mem_append.mp hy with hy | hy
            · rcases List.mem_append.mp hy with hy | hy
              · exact cutV_mem hy
              · exact cutV_mem (List.mem_reverse.mp hy)
            · exact cutV_mem hy
    · -- any other thing
      have fin : ∀ {H2 : Hp}, Fr [d] H H2 → Pen H2 d cl ns (n + 1) → ∀ H3 u, Fr [d] H2 H3 → Pen H3 d cl ns (n + 1 + 1) → Is K H3 64 3 u → Q u H3 := fun f2 P2 H3 u f3 P3 I3 => q H3 u (f2.trans f3) (P3.mono (by omega)) (I3.mono (by omega) (by omega))
      have s2 : ∀ {tp : Addr} (nt : H1 tp = none), Same H1 (upd H1 tp (.tup [.ty "str", .ty "tuple", .ty "list"])) := fun nt => newS nt
      have go : ∀ {tp : Addr} (nt : H1 tp = none), spOdd K [.ref d] (upd H1 tp (.tup [.ty "str", .ty "tuple", .ty "list"])) Q (fun _ _ _ => False) := fun nt =>
        ⟨d, cl, ns, _, rfl, P1.fr (S := []) (fr_same (s2 nt)) (by simp) (by simp), by omega, fin (f1.trans (fr_same (s2 nt))) (P1.fr (S := []) (fr_same (s2 nt)) (by simp) (by simp))⟩
      cases hi : isInt D with
      | false => exact iteF (iteF ⟨_, rfl, (by show 3 ≤ sizeLine; decide), fun tp nt => ⟨v, tp, _, _, _, false, rfl, upd_same, .cons (.ty _) (.cons (.ty _) (.cons (.ty _) .nil)), (hT.kept (kept_same (newS nt))).ty, (by rw [kit_seq, eS]), _, rfl, iteT ⟨_, rfl, go nt⟩⟩⟩)
      | true =>
        rw [hi, Bool.true_and] at eI
        refine iteT ⟨_, rfl, v, .ty "bool", _, _, _, rfl, .ty "bool", hT.ty, kit_ty (kit_bool D), _, rfl, ?_⟩
        refine (show if (!(isBool D)) = true then _ else _ from ?_)
        rw [eI]
        exact iteF ⟨_, rfl, (by show 3 ≤ sizeLine; decide), fun tp nt => ⟨v, tp, _, _, _, false, rfl, upd_same, .cons (.ty _) (.cons (.ty _) (.cons (.ty _) .nil)), (hT.kept (kept_same (newS nt))).ty, (by rw [kit_seq, eS]), _, rfl, iteT ⟨_, rfl, go nt⟩⟩⟩
end
end St6

set_option autoImplicit false
set_option maxHeartbeats 4000000
namespace St6
open PySem PySem.Spec PyProof.Rows L2 Tg Cc
/-! values that fit, told of any thing -/
def signB (c : Nat) : Bool := (decide (32 ≤ c) && decide (c ≤ 126)) && decide (c ≠ 37)
def txtB : PyData → Bool
  | .str s => s.cps.toList.all signB
  | _ => false
def wholeB : PyData → Bool
  | .int _ => true
  | _ => false
def lenB (n : Nat) : PyData → Bool
  | .str s => decide (s.length ≤ n)
  | _ => false
def ofSort (s : Str) (d : PyData) : Bool := if s = "word" then smallB 8 d else if s = "text" then txtB d && lenB 40 d else wholeB d
def fitsB (fs : List (Str × Str)) : PyData → Bool
  | .tuple ds => decide (ds.length = fs.length) && (ds.zip fs).all fun x => ofSort x.2.2 x.1
  | _ => false
theorem le_blank (c : Nat) : (!decide (((⟨#[c]⟩ : Str).cps.toList) < (" " : Str).cps.toList)) = decide (32 ≤ c) := by
  show (!decide ([c] < [32])) = _
  by_cases h : c < 32
  · have e : [c] < [32] := List.Lex.rel h
    rw [decide_eq_true e, decide_eq_false (by omega)]
    rfl
  · have e : ¬ [c] < [32] := fun z => by
      cases z with
      | rel z => exact h z
      | cons z => cases z
    rw [decide_eq_false e, decide_eq_true (by omega)]
    rfl
theorem tilde_le (c : Nat) : (!decide (("~" : Str).cps.toList < ((⟨#[c]⟩ : Str).cps.toList))) = decide (c ≤ 126) := by
  show (!decide ([126] < [c])) = _
  by_cases h : 126 < c
  · have e : [126] < [c] := List.Lex.rel h
    rw [decide_eq_true e, decide_eq_false (by omega)]
    rfl
  · have e : ¬ [126] < [c] := fun z => by
      cases z with
      | rel z => exact h z
      | cons z => cases z
    rw [decide_eq_false e, decide_eq_true (by omega)]
    rfl
def spSign : Sp := fun vs H Q _ => ∃ c : Nat, vs = [.str ⟨#[c]⟩] ∧ Q (.bl (signB c)) H
def spTextB (K : PySem.W.Frag) : Sp := fun vs H Q _ => ∃ v d, vs = [v] ∧ Th K H v d ∧ Ok d ∧ ∀ H', Same H H' → Q (.bl (txtB d)) H'
def spWhole (K : PySem.W.Frag) : Sp := fun vs H Q _ => ∃ v d, vs = [v] ∧ Th K H v d ∧ Ok d ∧ ∀ H', Same H H' → Q (.bl (wholeB d)) H'
def spOfSort (K : PySem.W.Frag) : Sp := fun vs H Q _ => ∃ v d s, vs = [v, .str s] ∧ Th K H v d ∧ Ok d ∧ ∀ H', Same H H' → Q (.bl (ofSort s d)) H'
def spFits (K : PySem.W.Frag) : Sp := fun vs H Q _ => ∃ f fs v d, vs = [f, v] ∧ Th K H f (formD fs) ∧ Ok (formD fs) ∧ formB (formD fs) = true ∧ Th K H v d ∧ Ok d ∧ ∀ H', Same H H' → Q (.bl (fitsB fs d)) H'
theorem txtB_not {d : PyData} (h : isStr d = false) : txtB d = false := by
  cases d <;> first | rfl | cases h
theorem dec_str {x y : Str} : decide (V.str x = V.str y) = decide (x = y) := decide_eq_decide.mpr ⟨fun h => V.str.inj h, fun h => by rw [h]⟩
theorem whole_is (d : PyData) : wholeB d = (isInt d && !isBool d) := by cases d <;> rfl
theorem fitsB_not {fs : List (Str × Str)} {d : PyData} (h : isTup d = false) : fitsB fs d = false := by
  cases d <;> first | rfl | cases h
theorem zip_take {α β : Type} : ∀ {l : List α} {m : List β} {i : Nat} {x : α} {y : β}, l[i]? = some x → m[i]? = some y → (l.zip m).take (i + 1) = (l.zip m).take i ++ [(x, y)] := fun {l m i x y} h1 h2 => by
  rw [List.take_succ]
  have e : (l.zip m)[i]? = some (x, y) := by
    rw [List.getElem?_zip_eq_some]
    exact ⟨h1, h2⟩
  rw [e]
  rfl
section
variable {P : Program} {w : World} {K : PySem.W.Frag} {mg : Str → Option Value} {base : Heap}
theorem scsign : FnScope ["sign"] ["sign"] (defScope sIsSign) := ⟨rfl, rfl, rfl, by decide +kernel, rfl, by decide +kernel, by decide +kernel⟩
theorem ok_sign {f : Addr} {fd : FuncData} (F : FnP K "is_sign" sIsSign f fd)  (mb_ord : mg "ord" = none) {u37 : Value} (m_PERCENT : mg "PERCENT" = some u37) (h37 : RelV (.int 37) u37)  : FnOk P w K mg base CX0 1 f fd ["sign"] (spSign) := by
  refine F.ok scsign (fun vs H Q E h => ?_) (fun cdv A outer s H vs Q E hr h => ?_)
  · obtain ⟨c, rfl, _⟩ := h
    rfl
  · obtain ⟨c, rfl, q⟩ := h
    have hu := hu_of hr
    refine ⟨_, PSs.nox (pss_one (ps_ret (pe_and (pe_chain op_le_str op_le_str (pe_str) (pv 0) (pe_str)) (pe_one (pe_cmpR op_ne (pe_callB call_ord (by rfl) mb_ord (by decide +kernel) (pa_cons (pv 0) pa_nil)) (pe_glob rfl m_PERCENT h37) (nomark _)))))), ?_⟩
    have e : signB c = ((decide (32 ≤ c) && decide (c ≤ 126)) && decide (c ≠ 37)) := rfl
    have l1 : (⟨#[c]⟩ : Str).length = 1 := rfl
    refine ⟨_, rfl, _, _, rfl, rfl, _, rfl, ite2 (fun e1 => ?_) (fun e1 => ?_)⟩
    · rw [le_blank] at e1
      refine ⟨_, _, rfl, rfl, _, rfl, ite2 (fun e2 => ?_) (fun e2 => ?_)⟩
      · rw [tilde_le] at e2
        refine ⟨_, rfl, ⟨#[c]⟩, rfl, l1, rfl, ?_⟩
        rw [e, e1, e2] at q
        have e3 : (!decide (V.int ((c : Nat) : Int) = V.int 37)) = decide (c ≠ 37) := by
          rw [dec_int, decide_not]
          congr 1
          exact decide_eq_decide.mpr (by omega)
        exact (show Q (.bl (!decide (V.int ((c : Nat) : Int) = V.int 37))) H from by rw [e3]; exact q)
      · rw [tilde_le] at e2
        rw [e, e1, Bool.eq_false_iff.mpr e2] at q
        exact q
    · rw [le_blank] at e1
      rw [e, Bool.eq_false_iff.mpr e1] at q
      exact ⟨_, rfl, iteF q⟩
theorem sctext : FnScope ["thing", "sign"] ["thing"] (defScope sIsText) := ⟨rfl, rfl, rfl, by decide +kernel, rfl, by decide +kernel, by decide +kernel⟩
theorem ok_text {f : Addr} {fd : FuncData} (F : FnP K "is_text" sIsText f fd) {f_is_sign : Addr} {fd_is_sign : FuncData} (c_is_sign : Cl P w K mg base CX0 "is_sign" 1 ["sign"] (spSign) f_is_sign fd_is_sign) (mb_isinstance : mg "isinstance" = none) (mb_str : mg "str" = none) (mb_all : mg "all" = none)   : FnOk P w K mg base CX0 2 f fd ["thing"] (spTextB K) := by
  refine F.ok sctext (fun vs H Q E h => ?_) (fun cdv A outer s H vs Q E hr h => ?_)
  · obtain ⟨v, d, rfl, _⟩ := h
    rfl
  · obtain ⟨v, d, rfl, hT, hB, q⟩ := h
    have hu := hu_of hr
    refine ⟨_, PSs.nox (pss_one (ps_ret (pe_and (pe_callB call_isi (by rfl) mb_isinstance (by decide +kernel) (pa_cons (pv 0) (pa_cons (pe_bltn (v := .ty "str") (by rfl) mb_str (by decide +kernel) rfl) pa_nil))) (pe_one (pe_callB (cr_all rfl) (by rfl) mb_all (by decide +kernel) (pa_cons (pe_lc (own := [("sign", 1)]) (g := gName 1) (tt := tYes) rfl sctext.nd (pi_str (pv 0)) (blkOk_by (own := [("sign", 1)]) (N := ["thing", "sign"]) (sc := defScope sIsText) (by decide +kernel)) (fun _ _ _ _ _ => pg_name (i := 1) sctext.nd rfl (Or.inl rfl)) (fun _ _ _ _ _ => pts_nil) (fun _ _ _ _ _ => pe_call c_is_sign.ok (hr.mono (by decide)) (by rfl) c_is_sign.m c_is_sign.kp c_is_sign.b .nil pass0 (pa_cons (pv 1) pa_nil))) pa_nil)))))), ?_⟩
    refine ⟨_, rfl, v, .ty "str", _, _, _, rfl, .ty "str", hT.ty, kit_ty (kit_str d), _, rfl, ?_⟩
    cases hs : isStr d with
    | false =>
      have e := q H (Same.refl H)
      rw [txtB_not hs] at e
      exact iteF e
    | true =>
      obtain ⟨z, rfl⟩ := isStr_eq hs
      obtain rfl := hT.asStr
      refine iteT ⟨_, rfl, z, rfl, fun D nD => ?_⟩
      have hz := (bd_str.mp hB).1
      have hl : z.length = z.cps.size := rfl
      refine lc_acc (walk_str (z := z)) (fun i acc H' => But D H H' ∧ acc = (z.cps.toList.take i).map fun c => V.bl (signB c)) ⟨But.refl.upd, rfl⟩ (fun _ _ _ _ _ _ => trivial) ?_ ?_
      · rintro i x acc H1 H2 hi la ⟨b, ea⟩ hD ⟨rfl, c, hc, rfl⟩
        have hc2 : z.cps.toList[i]? = some c := by rw [Array.getElem?_toList]; exact hc
        refine ⟨rfl, _, rfl, c, rfl, push hD la (by omega) ⟨b.upd, ?_⟩⟩
        rw [ea, List.take_succ, hc2, List.map_append]
        rfl
      · rintro acc H' la ⟨b, rfl⟩ hD
        rw [List.take_of_length_le (by rw [Array.length_toList]; exact Nat.le_refl _)] at hD
        refine ⟨D, z.cps.toList.map signB, rfl, SqL.of (by rw [hD, List.map_map]; rfl), ?_⟩
        rw [List.all_map]
        exact q H' (b.new nD)
theorem scwhole : FnScope ["thing"] ["thing"] (defScope sIsWhole) := ⟨rfl, rfl, rfl, by decide +kernel, rfl, by decide +kernel, by decide +kernel⟩
theorem ok_whole {f : Addr} {fd : FuncData} (F : FnP K "is_whole" sIsWhole f fd)  (mb_isinstance : mg "isinstance" = none) (mb_int : mg "int" = none) (mb_bool : mg "bool" = none)   : FnOk P w K mg base CX0 1 f fd ["thing"] (spWhole K) := by
  refine F.ok scwhole (fun vs H Q E h => ?_) (fun cdv A outer s H vs Q E hr h => ?_)
  · obtain ⟨v, d, rfl, _⟩ := h
    rfl
  · obtain ⟨v, d, rfl, hT, hB, q⟩ := h
    have hu := hu_of hr
    refine ⟨_, PSs.nox (pss_one (ps_ret (pe_and (pe_callB call_isi (by rfl) mb_isinstance (by decide +kernel) (pa_cons (pv 0) (pa_cons (pe_bltn (v := .ty "int") (by rfl) mb_int (by decide +kernel) rfl) pa_nil))) (pe_one (pe_not (pe_callB call_isi (by rfl) mb_isinstance (by decide +kernel) (pa_cons (pv 0) (pa_cons (pe_bltn (v := .ty "bool") (by rfl) mb_bool (by decide +kernel) rfl) pa_nil)))))))), ?_⟩
    refine ⟨_, rfl, v, .ty "int", _, _, _, rfl, .ty "int", hT.ty, kit_ty (kit_int d), _, rfl, ?_⟩
    rw [whole_is] at q
    cases hi : isInt d with
    | false =>
      rw [hi] at q
      exact iteF (q H (Same.refl H))
    | true =>
      rw [hi] at q
      exact iteT ⟨_, rfl, v, .ty "bool", _, _, _, rfl, .ty "bool", hT.ty, kit_ty (kit_bool d), _, rfl, q H (Same.refl H)⟩
theorem scofsort : FnScope ["value", "sort"] ["value", "sort"] (defScope sIsOfSort) := ⟨rfl, rfl, rfl, by decide +kernel, rfl, by decide +kernel, by decide +kernel⟩
theorem ok_ofsort {f : Addr} {fd : FuncData} (F : FnP K "is_of_sort" sIsOfSort f fd) {f__is_small : Addr} {fd__is_small : FuncData} (c__is_small : Cl P w K mg base CX0 "_is_small" 1 ["thing", "longest"] (spSmall K) f__is_small fd__is_small) {f_is_text : Addr} {fd_is_text : FuncData} (c_is_text : Cl P w K mg base CX0 "is_text" 2 ["thing"] (spTextB K) f_is_text fd_is_text) {f_is_whole : Addr} {fd_is_whole : FuncData} (c_is_whole : Cl P w K mg base CX0 "is_whole" 1 ["thing"] (spWhole K) f_is_whole fd_is_whole) (mb_len : mg "len" = none) {u8 u40 : Value} (m_LONGEST_WORD : mg "LONGEST_WORD" = some u8) (h8 : RelV (.int 8) u8) (m_LONGEST_TEXT : mg "LONGEST_TEXT" = some u40) (h40 : RelV (.int 40) u40)  : FnOk P w K mg base CX0 3 f fd ["value", "sort"] (spOfSort K) := by
  refine F.ok scofsort (fun vs H Q E h => ?_) (fun cdv A outer s H vs Q E hr h => ?_)
  · obtain ⟨v, d, s, rfl, _⟩ := h
    rfl
  · obtain ⟨v, d, s, rfl, hT, hB, q⟩ := h
    have hu := hu_of hr
    refine ⟨_, PSs.nox (pss_cons (ps_if (pt_cmpR op_eq (pv 1) (pe_str) (nomark _)) (pss_one (ps_ret (pe_call c__is_small.ok (hr.mono (by decide)) (by rfl) c__is_small.m c__is_small.kp c__is_small.b .nil pass0 (pa_cons (pv 0) (pa_cons (pe_glob rfl m_LONGEST_WORD h8) pa_nil))))) (pss_nil))
      (pss_cons (ps_if (pt_cmpR op_eq (pv 1) (pe_str) (nomark _)) (pss_one (ps_ret (pe_and (pe_call c_is_text.ok (hr.mono (by decide)) (by rfl) c_is_text.m c_is_text.kp c_is_text.b .nil pass0 (pa_cons (pv 0) pa_nil)) (pe_one (pe_cmpR op_le (pe_callB call_len_str (by rfl) mb_len (by decide +kernel) (pa_cons (pv 0) pa_nil)) (pe_glob rfl m_LONGEST_TEXT h40) (nomark _)))))) (pss_nil))
      (pss_one (ps_ret (pe_call c_is_whole.ok (hr.mono (by decide)) (by rfl) c_is_whole.m c_is_whole.kp c_is_whole.b .nil pass0 (pa_cons (pv 0) pa_nil)))))), ?_⟩
    unfold ofSort at q
    refine ⟨_, rfl, rfl, _, rfl, ite2 (fun e => ?_) (fun e => ?_)⟩
    · rw [dec_str] at e
      rw [if_pos (of_decide_eq_true e)] at q
      exact ⟨_, rfl, v, d, 8, rfl, hT, hB, q⟩
    · rw [dec_str] at e
      rw [if_neg (fun z => e (decide_eq_true z))] at q
      refine ⟨_, rfl, rfl, _, rfl, ite2 (fun e2 => ?_) (fun e2 => ?_)⟩
      · rw [dec_str] at e2
        rw [if_pos (of_decide_eq_true e2)] at q
        refine ⟨_, rfl, v, d, rfl, hT, hB, fun H1 s1 => ⟨_, rfl, ?_⟩⟩
        cases ht : txtB d with
        | false =>
          rw [ht, Bool.false_and] at q
          exact iteF (q H1 s1)
        | true =>
          rw [ht, Bool.true_and] at q
          cases hs : isStr d with
          | false =>
            rw [txtB_not hs] at ht
            cases ht
          | true =>
            obtain ⟨z, rfl⟩ := isStr_eq hs
            obtain rfl := hT.asStr
            have hz := (bd_str.mp hB).1
            refine iteT ⟨_, rfl, z, rfl, lineN hz, _, _, rfl, rfl, ?_⟩
            have e3 : decide ((z.length : Int) ≤ 40) = decide (z.length ≤ 40) := decide_eq_decide.mpr (by omega)
            exact (show Q (.bl (decide ((z.length : Int) ≤ 40))) H1 from by rw [e3]; exact q H1 s1)
      · rw [dec_str] at e2
        rw [if_neg (fun z => e2 (decide_eq_true z))] at q
        exact ⟨_, rfl, v, d, rfl, hT, hB, q⟩
theorem scfits : FnScope ["form", "values", "value", "_", "sort"] ["form", "values"] (defScope sFits) := ⟨rfl, rfl, rfl, by decide +kernel, rfl, by decide +kernel, by decide +kernel⟩
theorem ok_fits {f : Addr} {fd : FuncData} (F : FnP K "fits" sFits f fd) {f_is_form : Addr} {fd_is_form : FuncData} (c_is_form : Cl P w K mg base CX0 "is_form" 4 ["thing"] (spForm K) f_is_form fd_is_form) {f_is_of_sort : Addr} {fd_is_of_sort : FuncData} (c_is_of_sort : Cl P w K mg base CX0 "is_of_sort" 3 ["value", "sort"] (spOfSort K) f_is_of_sort fd_is_of_sort) (mb_isinstance : mg "isinstance" = none) (mb_tuple : mg "tuple" = none) (mb_len : mg "len" = none) (mb_all : mg "all" = none) (mb_zip : mg "zip" = none)   : FnOk P w K mg base CX0 5 f fd ["form", "values"] (spFits K) := by
  refine F.ok scfits (fun vs H Q E h => ?_) (fun cdv A outer s H vs Q E hr h => ?_)
  · obtain ⟨f, fs, v, d, rfl, _⟩ := h
    rfl
  · obtain ⟨p, fs, v, d, rfl, hF, bF, gF, hT, hB, q⟩ := h
    have hu := hu_of hr
    refine ⟨_, PSs.nox (pss_cons (ps_if (PW.pt (pw_or (pt_not (pt_val (pe_call c_is_form.ok (hr.mono (by decide)) (by rfl) c_is_form.m c_is_form.kp c_is_form.b .nil pass0 (pa_cons (pv 0) pa_nil)))) (pw_or (pt_not (pt_val (pe_callB call_isi (by rfl) mb_isinstance (by decide +kernel) (pa_cons (pv 1) (pa_cons (pe_bltn (v := .ty "tuple") (by rfl) mb_tuple (by decide +kernel) rfl) pa_nil))))) (pw_or1 (pt_cmpR op_ne (pe_callB call_len (by rfl) mb_len (by decide +kernel) (pa_cons (pv 1) pa_nil)) (pe_callB call_len (by rfl) mb_len (by decide +kernel) (pa_cons (pv 0) pa_nil)) (nomark _)))))) (pss_one (ps_ret (pe_bl))) (pss_nil))
      (pss_one (ps_ret (pe_callB (cr_all rfl) (by rfl) mb_all (by decide +kernel) (pa_cons (pe_lc (own := [("value", 2), ("_", 3), ("sort", 4)]) (tt := tYes) rfl scfits.nd (RZ.pi_zipA (by rfl) mb_zip (pa_cons (pv 1) (pa_cons (pv 0) pa_nil))) (blkOk_by (own := [("value", 2), ("_", 3), ("sort", 4)]) (N := ["form", "values", "value", "_", "sort"]) (sc := defScope sFits) (by decide +kernel)) (fun _ _ _ _ _ => Cc.pg_tupk (K := K) (n := 2) rfl rfl (pgs_cons (pg_name (i := 2) scfits.nd rfl (Or.inl rfl)) (pgs_cons (Cc.pg_tupk (K := K) (n := 2) rfl rfl (pgs_cons (pg_name (i := 3) scfits.nd rfl (Or.inl rfl)) (pgs_cons (pg_name (i := 4) scfits.nd rfl (Or.inl rfl)) (pgs_nil)))) (pgs_nil)))) (fun _ _ _ _ _ => pts_nil) (fun _ _ _ _ _ => pe_call c_is_of_sort.ok (hr.mono (by decide)) (by rfl) c_is_of_sort.m c_is_of_sort.kp c_is_of_sort.b .nil pass0 (pa_cons (pv 2) (pa_cons (pv 4) pa_nil)))) pa_nil))))), ?_⟩
    refine ⟨_, rfl, p, formD fs, rfl, hF, bF, fun H1 s1 => ?_⟩
    rw [gF]
    have hT1 := hT.kept (kept_same s1)
    obtain ⟨pf, fx, rfl, hf, hFA⟩ := hF.asTup
    have lf : fx.length = fs.length := by rw [hFA.len, List.length_map]
    refine ⟨_, rfl, iteF ⟨_, rfl, v, .ty "tuple", _, _, _, rfl, .ty "tuple", hT1.ty, kit_ty (kit_tup d), _, rfl, ?_⟩⟩
    cases ht : isTup d with
    | false =>
      have e := q H1 s1
      rw [fitsB_not ht] at e
      exact iteT (iteT e)
    | true =>
      obtain ⟨ds, rfl⟩ := isTup_eq ht
      obtain ⟨a, xs, rfl, hx, hA⟩ := hT1.asTup
      have lx := hA.len
      have hf1 := Sq.same (t := true) hf s1
      have bs := Bd.tup hB
      refine iteF ⟨_, rfl, _, _, rfl, .inr ⟨_, hx, rfl⟩, _, rfl, _, _, rfl, .inr ⟨_, hf1, rfl⟩, rfl, _, rfl, ite2 (fun e => ?_) (fun e => ?_)⟩
      · have ne : ¬ ds.length = fs.length := fun z => by
          rw [dec_int, decide_eq_true (show (xs.length : Int) = fx.length by omega)] at e
          cases e
        have e2 := q H1 s1
        rw [show fitsB fs (.tuple ds) = (decide (ds.length = fs.length) && (ds.zip fs).all fun x => ofSort x.2.2 x.1) from rfl, decide_eq_false ne, Bool.false_and] at e2
        exact e2
      · have eq : ds.length = fs.length := by
          have e3 : (!decide (V.int (xs.length : Nat) = V.int (fx.length : Nat))) = false := by simpa using e
          rw [dec_int, Bool.not_eq_false'] at e3
          have := of_decide_eq_true e3
          omega
        refine ⟨_, rfl, _, rfl, a, pf, xs, fx, rfl, .inr ⟨hx, hf1, fun D nD => ?_⟩⟩
        refine lc_acc (walk_zipT (K := K) (a := a) (b := pf) (xs := xs) (ys := fx) rfl) (fun i acc H' => But D H1 H' ∧ acc = ((ds.zip fs).take i).map fun x => V.bl (ofSort x.2.2 x.1)) ⟨But.refl.upd, rfl⟩ (fun i acc H' _ ⟨b, _⟩ _ => ⟨Sq.same (t := true) hx (b.new nD), Sq.same (t := true) hf1 (b.new nD)⟩) ?_ ?_
        · rintro i y acc H2 H3 hi la ⟨b, ea⟩ hD ⟨T, x, z, rfl, nT, rfl, ex, ez⟩
          obtain ⟨dx, hdx, tx, mx⟩ := ThAll.get2 hA ex
          obtain ⟨dz, hdz, tz, mz⟩ := ThAll.get2 hFA ez
          obtain ⟨g, hg, rfl⟩ : ∃ g, fs[i]? = some g ∧ fieldD g = dz := by
            rw [List.getElem?_map] at hdz
            cases hg : fs[i]? with
            | none =>
              rw [hg] at hdz
              cases hdz
            | some g =>
              rw [hg] at hdz
              exact ⟨g, rfl, Option.some.inj hdz⟩
          obtain ⟨pz, zs, rfl, hpz, hZ⟩ := tz.asTup
          have ez2 : zs = [.str g.1, .str g.2] := by
            cases hZ with
            | cons h0 h1 =>
              cases h1 with
              | cons h1 h2 =>
                cases h2
                cases h0
                cases h1
                rfl
          subst ez2
          have sT := newS (o := .tup [x, .ref pz]) nT
          have s12 := (b.new nD).trans sT
          refine ⟨T, _, rfl, SqT.of upd_same, rfl, _, _, rfl, _, _, rfl, ⟨pz, _, rfl, Sq.same (t := true) hpz (s1.trans s12), rfl, _, _, rfl, _, _, rfl, rfl, rfl, rfl, ?_⟩⟩
          refine ⟨_, rfl, _, rfl, x, dx, g.2, rfl, tx.kept (kept_same s12), bs.2 dx mx, fun H4 s4 => ?_⟩
          have bD := (b.same sT).same s4
          have hD4 := s4 _ _ (sT _ _ hD)
          have lim := bs.1
          refine push hD4 la (by omega) ⟨bD.upd, ?_⟩
          rw [ea, zip_take hdx hg, List.map_append]
          rfl
        · rintro acc H2 la ⟨b, rfl⟩ hD
          have lz : (ds.zip fs).length = ds.length := by rw [List.length_zip]; omega
          rw [List.take_of_length_le (by rw [lz]; omega)] at hD
          refine ⟨D, (ds.zip fs).map fun x => ofSort x.2.2 x.1, rfl, SqL.of (by rw [hD, List.map_map]; rfl), ?_⟩
          rw [List.all_map]
          have e2 := q H2 (s1.trans (b.new nD))
          rw [show fitsB fs (.tuple ds) = (decide (ds.length = fs.length) && (ds.zip fs).all fun x => ofSort x.2.2 x.1) from rfl, decide_eq_true eq, Bool.true_and] at e2
          exact e2
end
end St6

set_option autoImplicit false
set_option maxHeartbeats 4000000
namespace St6
open PySem PySem.Spec PyProof.Rows L2 Tg Cc TL
/-! values drawn -/
def vOf : PyData → V
  | .int i => .int i
  | .str s => .str s
  | _ => .non
/-- a plain value: a whole number, a text -/
def Plain : PyData → Prop
  | .int i => i.natAbs < 10 ^ 13
  | .str s => s.length ≤ 40 ∧ As s
  | _ => False
theorem th_vOf {K : PySem.W.Frag} {H : Hp} {D : PyData} (h : Plain D) : Th K H (vOf D) D := by
  cases D with
  | int i => exact .int i
  | str s => exact .str s
  | _ => exact h.elim
theorem Plain.bd {N m : Nat} {D : PyData} (h : Plain D) (hN : 40 ≤ N) : Bd N m D := by
  cases D with
  | int i => exact bd_int.mpr (Nat.lt_of_lt_of_le h (Nat.pow_le_pow_right (by decide) (by omega)))
  | str s => exact bd_str.mpr ⟨Nat.le_trans h.1 hN, h.2⟩
  | _ => exact h.elim
def spWordD : Sp := fun vs H Q _ => ∃ (d cl : Addr) (ns : List Int) (n : Nat), vs = [.ref d] ∧ Pen H d cl ns n ∧ n ≤ 900000 ∧ ∀ H' z, Fr [d] H H' → Pen H' d cl ns (n + 12) → Low z → 1 ≤ z.length → z.length ≤ 8 → Q (.str z) H'
def SignsOk (z : Str) : Prop := z.length ≤ 40 ∧ ∀ c ∈ z.cps.toList, signB c = true
def spTextD : Sp := fun vs H Q _ => ∃ (d cl : Addr) (ns : List Int) (n : Nat), vs = [.ref d] ∧ Pen H d cl ns n ∧ n ≤ 900000 ∧ ∀ H' z, Fr [d] H H' → Pen H' d cl ns (n + 45) → SignsOk z → Q (.str z) H'
def spNumberD : Sp := fun vs H Q _ => ∃ (d cl : Addr) (ns : List Int) (n : Nat), vs = [.ref d] ∧ Pen H d cl ns n ∧ n ≤ 900000 ∧ ∀ H' (i : Int), Fr [d] H H' → Pen H' d cl ns (n + 8) → i.natAbs < 10 ^ 13 → Q (.int i) H'
def spValueD : Sp := fun vs H Q _ => ∃ (d cl : Addr) (ns : List Int) (n : Nat) (s : Str), vs = [.ref d, .str s] ∧ Pen H d cl ns n ∧ n ≤ 900000 ∧ s ∈ sorts ∧ ∀ H' D, Fr [d] H H' → Pen H' d cl ns (n + 45) → Plain D → ofSort s D = true → Q (vOf D) H'
def spValuesD (K : PySem.W.Frag) : Sp := fun vs H Q _ => ∃ (d cl : Addr) (ns : List Int) (n : Nat) (f : V) (fs : List (Str × Str)), vs = [.ref d, f] ∧ Pen H d cl ns n ∧ n ≤ 800000 ∧ Th K H f (formD fs) ∧ GoodF fs ∧
  ∀ H' q Ds, Fr [d] H H' → Pen H' d cl ns (n + 280) → H' q = some (.tup (Ds.map vOf)) → (∀ D ∈ Ds, Plain D) → fitsB fs (.tuple Ds) = true → Q (.ref q) H'
theorem th_vals {K : PySem.W.Frag} {H : Hp} : ∀ {Ds : List PyData}, (∀ D ∈ Ds, Plain D) → ThAll K H (Ds.map vOf) Ds
  | [], _ => .nil
  | D :: r, h => .cons (th_vOf (h D (List.mem_cons_self ..))) (th_vals fun x hx => h x (List.mem_cons_of_mem _ hx))
theorem fits_len {fs : List (Str × Str)} {Ds : List PyData} (h : fitsB fs (.tuple Ds) = true) : Ds.length = fs.length := by
  have : (decide (Ds.length = fs.length) && (Ds.zip fs).all fun x => ofSort x.2.2 x.1) = true := h
  rw [Bool.and_eq_true] at this
  exact of_decide_eq_true this.1
theorem signs_ok : ∀ c ∈ (Str.ofString " !\"#$&'()*+,-./0123456789:;<=>?@ABCDEFGHIJKLMNOPQRSTUVWXYZ[\\]^_`abcdefghijklmnopqrstuvwxyz{|}~").cps.toList, signB c = true := by decide +kernel
theorem sign_as {c : Nat} (h : signB c = true) : c < 128 := by
  unfold signB at h
  rw [Bool.and_eq_true, Bool.and_eq_true] at h
  have := of_decide_eq_true h.1.2
  omega
theorem SignsOk.plain {z : Str} (h : SignsOk z) : Plain (.str z) := ⟨h.1, fun c hc => sign_as (h.2 c hc)⟩
def ways6 : List Int := [0, 0, 1, 2, 2, 3]
theorem join_signs {zs : List Str} (h : ∀ z ∈ zs, z.length = 1 ∧ ∀ y ∈ z.cps.toList, signB y = true) : (∀ c ∈ (Txt.join (Str.ofString "") zs).cps.toList, signB c = true) ∧ (Txt.join (Str.ofString "") zs).length = zs.length ∧ (zs.map (·.length)).sum + zs.length * (Str.ofString "").length = zs.length := by
  have e0 : (Str.ofString "").length = 0 := by decide +kernel
  have t0 : tl (Str.ofString "") = [] := by decide +kernel
  have hsum : ∀ ys : List Str, (∀ z ∈ ys, z.length = 1) → (ys.map (·.length)).sum = ys.length := by
    intro ys
    induction ys with
    | nil => intro _; rfl
    | cons y r ih =>
      intro hy
      rw [List.map_cons, List.sum_cons, ih fun z hz => hy z (List.mem_cons_of_mem _ hz), hy y (List.mem_cons_self ..), List.length_cons]
      omega
  refine ⟨fun c hc => ?_, ?_, by rw [e0, hsum zs fun z hz => (h z hz).1]; omega⟩
  · have hc : c ∈ tl (Txt.join (Str.ofString "") zs) := hc
    rw [join_eq, tl_join, t0] at hc
    obtain ⟨y, hy, hey⟩ := joinL_mem _ _ hc
    obtain ⟨z, hz, rfl⟩ := List.mem_map.mp hy
    exact (h z hz).2 c hey
  · rw [len_tl, join_eq, tl_join, t0, joinL_len]
    have : ((zs.map tl).map List.length) = zs.map (·.length) := by
      rw [List.map_map]
      exact List.map_congr_left fun z _ => (len_tl z).symm
    rw [this, hsum zs fun z hz => (h z hz).1]
theorem zip_snoc {α β : Type} : ∀ {l : List α} {m : List β} {x : α} {y : β}, m[l.length]? = some y → (l ++ [x]).zip m = l.zip m ++ [(x, y)]
  | [], [], x, y, h => by simp at h
  | [], b :: m, x, y, h => by
    have : b = y := by simpa using h
    subst this
    rfl
  | a :: l, [], x, y, h => by simp at h
  | a :: l, b :: m, x, y, h => by
    have ih := zip_snoc (l := l) (m := m) (x := x) (y := y) (by simpa using h)
    show (a, b) :: (l ++ [x]).zip m = (a, b) :: (l.zip m ++ [(x, y)])
    rw [ih]
def fews : List Str := ["a", "b", "ab", "ba", "abcdefgh", "z"]
theorem fews_ok : ∀ z ∈ fews, Low z ∧ 1 ≤ z.length ∧ z.length ≤ 8 := by
  have : ∀ z ∈ fews, (∀ c ∈ z.cps.toList, lowC c = true) ∧ 1 ≤ z.length ∧ z.length ≤ 8 := by decide +kernel
  exact this
theorem of_word {z : Str} (h : Low z) (h1 : 1 ≤ z.length) (h2 : z.length ≤ 8) : ofSort "word" (.str z) = true := by
  unfold ofSort
  rw [if_pos rfl]
  show ((decide (1 ≤ z.length) && decide (z.length ≤ 8)) && z.cps.toList.all lowC) = true
  rw [decide_eq_true h1, decide_eq_true h2, List.all_eq_true.mpr h]
  rfl
theorem of_text {z : Str} (h : SignsOk z) : ofSort "text" (.str z) = true := by
  unfold ofSort
  rw [if_neg (by decide), if_pos rfl]
  show (z.cps.toList.all signB && decide (z.length ≤ 40)) = true
  rw [decide_eq_true h.1, List.all_eq_true.mpr h.2]
  rfl
theorem of_number {s : Str} {i : Int} (h : s = "code" ∨ s = "amount") : ofSort s (.int i) = true := by
  rcases h with rfl | rfl <;> (unfold ofSort; rw [if_neg (by decide), if_neg (by decide)]; rfl)
section
variable {P : Program} {w : World} {K : PySem.W.Frag} {mg : Str → Option Value} {base : Heap}
theorem scwordD : FnScope ["pen", "few", "letters", "k"] ["pen"] (defScope sLawWord) := ⟨rfl, rfl, rfl, by decide +kernel, rfl, by decide +kernel, by decide +kernel⟩
theorem ok_wordD {f : Addr} {fd : FuncData} (F : FnP K "_law_word" sLawWord f fd) {f__law_draw : Addr} {fd__law_draw : FuncData} (c__law_draw : Cl P w K mg base CX0 "_law_draw" 1 ["pen", "many"] (spDraw) f__law_draw fd__law_draw) (mb_range : mg "range" = none)   : FnOk P w K mg base CX0 2 f fd ["pen"] (spWordD) := by
  refine F.ok scwordD (fun vs H Q E h => ?_) (fun cdv A outer s H vs Q E hr h => ?_)
  · obtain ⟨d, cl, ns, n, rfl, _⟩ := h
    rfl
  · obtain ⟨d, cl, ns, n, rfl, hP, hn, q⟩ := h
    have hu := hu_of hr
    have hs := szl
    refine ⟨_, PSs.nox (pss_cons (ps_set (i := 1) scwordD.nd rfl (Or.inl rfl) (pe_lst (pa_cons (pe_str) (pa_cons (pe_str) (pa_cons (pe_str) (pa_cons (pe_str) (pa_cons (pe_str) (pa_cons (pe_str) pa_nil))))))))
      (pss_cons (ps_set (i := 2) scwordD.nd rfl (Or.inr rfl) (pe_str))
      (pss_cons (ps_if (pt_cmpR op_gt (pe_call c__law_draw.ok (hr.mono (by decide)) (by rfl) c__law_draw.m c__law_draw.kp c__law_draw.b .nil pass0 (pa_cons (pv 0) (pa_cons (pe_int) pa_nil))) (pe_int) (nomark _)) (pss_one (ps_ret (pe_ix ix_list (pv 1) (pe_call c__law_draw.ok (hr.mono (by decide)) (by rfl) c__law_draw.m c__law_draw.kp c__law_draw.b .nil pass0 (pa_cons (pv 0) (pa_cons (pe_int) pa_nil))) (fun _ _ => rfl)))) (pss_nil))
      (pss_one (ps_ret (pe_join (pe_str) (pe_lc (own := [("k", 3)]) (g := gName 3) (tt := tYes) rfl scwordD.nd (pi_range1 (by rfl) mb_range (pa_cons (pe_op op_add (pe_int) (pe_call c__law_draw.ok (hr.mono (by decide)) (by rfl) c__law_draw.m c__law_draw.kp c__law_draw.b .nil pass0 (pa_cons (pv 0) (pa_cons (pe_int) pa_nil)))) pa_nil)) (blkOk_by (own := [("k", 3)]) (N := ["pen", "few", "letters", "k"]) (sc := defScope sLawWord) (by decide +kernel)) (fun _ _ _ _ _ => pg_name (i := 3) scwordD.nd rfl (Or.inl rfl)) (fun _ _ _ _ _ => pts_nil) (fun _ _ _ _ _ => pe_ix ix_str (pv 2) (pe_call c__law_draw.ok (hr.mono (by decide)) (by rfl) c__law_draw.m c__law_draw.kp c__law_draw.b .nil pass0 (pa_cons (pv 0) (pa_cons (pe_int) pa_nil))) (fun _ _ => rfl))))))))), ?_⟩
    refine ⟨by show 6 ≤ sizeLine; decide, fun l nl => ?_⟩
    obtain ⟨⟨xa0, xb0, hd0, _⟩, hc0, _⟩ := id hP
    have ndl : d ≠ l := ne_of_none hd0 nl
    have P0 := hP.fr (fr_new (S := []) (o := .lst (fews.map V.str)) nl) (by simp) (by simp)
    refine ⟨_, rfl, d, cl, ns, 4, n, rfl, P0, by omega, by decide, by decide, fun H1 k1 f1 P1 k10 k11 => ?_⟩
    have hl1 : H1 l = some (.lst (fews.map V.str)) := f1 _ _ (by simpa using ndl.symm) upd_same
    have f01 := (fr_new (S := [d]) (o := .lst (fews.map V.str)) nl).trans f1
    refine ⟨_, _, rfl, rfl, _, rfl, ite2 (fun e => ?_) (fun e => ?_)⟩
    · refine ⟨_, rfl, _, rfl, d, cl, ns, 6, _, rfl, P1, by omega, by decide, by decide, fun H2 k2 f2 P2 k20 k21 => ?_⟩
      obtain ⟨z, ez, mz⟩ := atI_map (f := V.str) (xs := fews) k20 k21
      obtain ⟨g1, g2, g3⟩ := fews_ok z mz
      exact ⟨l, _, k2, _, rfl, rfl, SqL.of (f2 _ _ (by simpa using ndl.symm) hl1), ez, q H2 z (f01.trans f2) (P2.mono (by omega)) g1 g2 g3⟩
    · refine ⟨⟨_, rfl⟩, _, rfl, d, cl, ns, 8, _, rfl, P1, by omega, by decide, by decide, fun H2 k2 f2 P2 k20 k21 => ?_⟩
      obtain ⟨c, rfl⟩ := Int.eq_ofNat_of_zero_le k20
      refine ⟨_, _, rfl, rfl, _, rfl, by omega, by omega, fun L nL => ?_⟩
      obtain ⟨⟨xa, xb, hd2, _⟩, hc2, _⟩ := id P2
      have nLd : d ≠ L := ne_of_none hd2 nL
      have nLc : cl ≠ L := ne_of_none hc2 nL
      refine lc_acc (walk_range (lo := 0) (n := ((1 : Int) + (c : Int)).toNat)) (fun i acc H' => ∃ zs : List Str, acc = zs.map V.str ∧ (∀ z ∈ zs, z.length = 1 ∧ Low z) ∧ Fr [d, L] H2 H' ∧ Pen H' d cl ns (n + 2 + i))
        ⟨[], rfl, (fun _ z => by cases z), fr_upd (by simp), P2.fr (fr_new (S := []) nL) (by simp) (by simp)⟩ (fun _ _ _ _ _ _ => trivial) ?_ ?_
      · rintro i x acc H3 H4 hi la ⟨zs, rfl, h1, f3, P3⟩ hL ⟨rfl, rfl⟩
        refine ⟨rfl, _, rfl, _, rfl, d, cl, ns, 26, _, rfl, P3, by omega, by decide, by decide, fun H5 d4 f4 P4 d40 d41 => ?_⟩
        have hL4 := f4 _ _ (by simpa using nLd.symm) hL
        refine ⟨_, d4, 97 + d4.toNat, rfl, rfl, by rw [show (Str.ofString "abcdefghijklmnopqrstuvwxyz").length = 26 by decide +kernel]; omega, abc_at d40 d41, push hL4 la (by omega) ⟨zs ++ [⟨#[97 + d4.toNat]⟩], ?_, ?_, (f3.trans (f4.mono (by simp))).trans (fr_upd (by simp)), (P4.fr (S := [L]) (fr_upd (by simp)) (by simpa using nLd) (by simpa using nLc)).mono (by omega)⟩⟩
        · rw [List.map_append]
          rfl
        · intro z hz
          rcases List.mem_append.mp hz with h | h
          · exact h1 z h
          · rw [List.mem_singleton.mp h]
            exact ⟨rfl, low_one (by omega)⟩
      · rintro acc H3 la ⟨zs, rfl, h1, f3, P3⟩ hL
        obtain ⟨j1, j2, j3⟩ := Low.join h1
        rw [List.length_map] at la
        have f03 : Fr [d] H H3 := Fr.drop (p := L) (S := [d]) (((f01.trans f2).mono (by simp)).trans (f3.mono (by simp))) (f01.free (by simpa using nLd.symm) (f2.free (by simpa using nLd.symm) nL))
        refine ⟨_, L, zs, rfl, rfl, .inl (SqL.of hL), by rw [j3]; omega, q H3 _ f03 (P3.mono (by omega)) j1 (by rw [j2]; omega) (by rw [j2]; omega)⟩
theorem sctextD : FnScope ["pen", "signs", "many", "k"] ["pen"] (defScope sLawText) := ⟨rfl, rfl, rfl, by decide +kernel, rfl, by decide +kernel, by decide +kernel⟩
theorem ok_textD {f : Addr} {fd : FuncData} (F : FnP K "_law_text" sLawText f fd) {f__law_draw : Addr} {fd__law_draw : FuncData} (c__law_draw : Cl P w K mg base CX0 "_law_draw" 1 ["pen", "many"] (spDraw) f__law_draw fd__law_draw) (mb_range : mg "range" = none)   : FnOk P w K mg base CX0 2 f fd ["pen"] (spTextD) := by
  refine F.ok sctextD (fun vs H Q E h => ?_) (fun cdv A outer s H vs Q E hr h => ?_)
  · obtain ⟨d, cl, ns, n, rfl, _⟩ := h
    rfl
  · obtain ⟨d, cl, ns, n, rfl, hP, hn, q⟩ := h
    have hu := hu_of hr
    have hs := szl
    refine ⟨_, PSs.nox (pss_cons (ps_set (i := 1) sctextD.nd rfl (Or.inr rfl) (pe_str))
      (pss_cons (ps_set (i := 2) sctextD.nd rfl (Or.inl rfl) (pe_ix ix_list (pe_lst (pa_cons (pe_int) (pa_cons (pe_call c__law_draw.ok (hr.mono (by decide)) (by rfl) c__law_draw.m c__law_draw.kp c__law_draw.b .nil pass0 (pa_cons (pv 0) (pa_cons (pe_int) pa_nil))) (pa_cons (pe_call c__law_draw.ok (hr.mono (by decide)) (by rfl) c__law_draw.m c__law_draw.kp c__law_draw.b .nil pass0 (pa_cons (pv 0) (pa_cons (pe_int) pa_nil))) (pa_cons (pe_call c__law_draw.ok (hr.mono (by decide)) (by rfl) c__law_draw.m c__law_draw.kp c__law_draw.b .nil pass0 (pa_cons (pv 0) (pa_cons (pe_int) pa_nil))) pa_nil))))) (pe_call c__law_draw.ok (hr.mono (by decide)) (by rfl) c__law_draw.m c__law_draw.kp c__law_draw.b .nil pass0 (pa_cons (pv 0) (pa_cons (pe_int) pa_nil))) (fun _ _ => rfl)))
      (pss_one (ps_ret (pe_join (pe_str) (pe_lc (own := [("k", 3)]) (g := gName 3) (tt := tYes) rfl sctextD.nd (pi_range1 (by rfl) mb_range (pa_cons (pv 2) pa_nil)) (blkOk_by (own := [("k", 3)]) (N := ["pen", "signs", "many", "k"]) (sc := defScope sLawText) (by decide +kernel)) (fun _ _ _ _ _ => pg_name (i := 3) sctextD.nd rfl (Or.inl rfl)) (fun _ _ _ _ _ => pts_nil) (fun _ _ _ _ _ => pe_ix ix_str (pv 1) (pe_call c__law_draw.ok (hr.mono (by decide)) (by rfl) c__law_draw.m c__law_draw.kp c__law_draw.b .nil pass0 (pa_cons (pv 0) (pa_cons (pe_int) pa_nil))) (fun _ _ => rfl)))))))), ?_⟩
    refine ⟨_, rfl, d, cl, ns, 4, n, rfl, hP, by omega, by decide, by decide, fun H1 k1 f1 P1 k10 k11 => ?_⟩
    refine ⟨_, rfl, d, cl, ns, 4, _, rfl, P1, by omega, by decide, by decide, fun H2 k2 f2 P2 k20 k21 => ?_⟩
    refine ⟨_, rfl, d, cl, ns, 41, _, rfl, P2, by omega, by decide, by decide, fun H3 k3 f3 P3 k30 k31 => ?_⟩
    refine ⟨by show 4 ≤ sizeLine; decide, fun l nl => ?_⟩
    obtain ⟨⟨xa0, xb0, hd0, _⟩, hc0, _⟩ := id P3
    have ndl : d ≠ l := ne_of_none hd0 nl
    have P4 := P3.fr (fr_new (S := []) (o := .lst [.int 0, .int k1, .int k2, .int k3]) nl) (by simp) (by simp)
    refine ⟨_, rfl, d, cl, ns, 4, _, rfl, P4, by omega, by decide, by decide, fun H5 k5 f5 P5 k50 k51 => ?_⟩
    have hl5 : H5 l = some (.lst [.int 0, .int k1, .int k2, .int k3]) := f5 _ _ (by simpa using ndl.symm) upd_same
    obtain ⟨x, ex, mx⟩ := atI_in (xs := ([.int 0, .int k1, .int k2, .int k3] : List V)) k50 k51
    obtain ⟨c, rfl, hc⟩ : ∃ c : Nat, x = .int (c : Int) ∧ c ≤ 40 := by
      have mx : x = .int 0 ∨ x = .int k1 ∨ x = .int k2 ∨ x = .int k3 := by simpa using mx
      rcases mx with rfl | rfl | rfl | rfl
      · exact ⟨0, rfl, Nat.zero_le _⟩
      · exact ⟨k1.toNat, by rw [Int.toNat_of_nonneg k10], by omega⟩
      · exact ⟨k2.toNat, by rw [Int.toNat_of_nonneg k20], by omega⟩
      · exact ⟨k3.toNat, by rw [Int.toNat_of_nonneg k30], by omega⟩
    have f05 := (((f1.trans f2).trans f3).trans (fr_new (S := [d]) (o := .lst [.int 0, .int k1, .int k2, .int k3]) nl)).trans f5
    refine ⟨l, _, k5, _, rfl, rfl, SqL.of hl5, ex, ?_⟩
    refine ⟨⟨_, rfl⟩, _, rfl, _, rfl, by omega, by omega, fun L nL => ?_⟩
    rw [Int.toNat_natCast]
    obtain ⟨⟨xa, xb, hd2, _⟩, hc2, _⟩ := id P5
    have nLd : d ≠ L := ne_of_none hd2 nL
    have nLc : cl ≠ L := ne_of_none hc2 nL
    refine lc_acc (walk_range (lo := 0) (n := c)) (fun i acc H' => ∃ zs : List Str, acc = zs.map V.str ∧ (∀ z ∈ zs, z.length = 1 ∧ ∀ y ∈ z.cps.toList, signB y = true) ∧ Fr [d, L] H5 H' ∧ Pen H' d cl ns (n + 4 + i))
      ⟨[], rfl, (fun _ z => by cases z), fr_upd (by simp), P5.fr (fr_new (S := []) nL) (by simp) (by simp)⟩ (fun _ _ _ _ _ _ => trivial) ?_ ?_
    · rintro i x acc H6 H7 hi la ⟨zs, rfl, h1, f6, P6⟩ hL ⟨rfl, rfl⟩
      refine ⟨rfl, _, rfl, _, rfl, d, cl, ns, 94, _, rfl, P6, by omega, by decide, by decide, fun H8 d4 f8 P8 d40 d41 => ?_⟩
      have hL4 := f8 _ _ (by simpa using nLd.symm) hL
      have l94 : (Str.ofString " !\"#$&'()*+,-./0123456789:;<=>?@ABCDEFGHIJKLMNOPQRSTUVWXYZ[\\]^_`abcdefghijklmnopqrstuvwxyz{|}~").length = 94 := by decide +kernel
      obtain ⟨y, ey, my⟩ := atI_in (xs := (Str.ofString " !\"#$&'()*+,-./0123456789:;<=>?@ABCDEFGHIJKLMNOPQRSTUVWXYZ[\\]^_`abcdefghijklmnopqrstuvwxyz{|}~").cps.toList) d40 (by rw [show (Str.ofString " !\"#$&'()*+,-./0123456789:;<=>?@ABCDEFGHIJKLMNOPQRSTUVWXYZ[\\]^_`abcdefghijklmnopqrstuvwxyz{|}~").cps.toList.length = 94 by decide +kernel]; exact d41)
      refine ⟨_, d4, y, rfl, rfl, by rw [l94]; omega, ey, push hL4 la (by omega) ⟨zs ++ [⟨#[y]⟩], ?_, ?_, (f6.trans (f8.mono (by simp))).trans (fr_upd (by simp)), (P8.fr (S := [L]) (fr_upd (by simp)) (by simpa using nLd) (by simpa using nLc)).mono (by omega)⟩⟩
      · rw [List.map_append]
        rfl
      · intro z hz
        rcases List.mem_append.mp hz with h | h
        · exact h1 z h
        · rw [List.mem_singleton.mp h]
          refine ⟨rfl, fun u hu => ?_⟩
          have : u = y := by simpa using hu
          rw [this]
          exact signs_ok y my
    · rintro acc H6 la ⟨zs, rfl, h1, f6, P6⟩ hL
      obtain ⟨j1, j2, j3⟩ := join_signs h1
      rw [List.length_map] at la
      have f06 : Fr [d] H H6 := Fr.drop (p := L) (S := [d]) ((f05.mono (by simp)).trans (f6.mono (by simp))) (f05.free (by simpa using nLd.symm) nL)
      exact ⟨_, L, zs, rfl, rfl, .inl (SqL.of hL), by rw [j3]; omega, q H6 _ f06 (P6.mono (by omega)) ⟨by rw [j2]; omega, j1⟩⟩
theorem scnumberD : FnScope ["pen", "way", "far"] ["pen"] (defScope sLawNumber) := ⟨rfl, rfl, rfl, by decide +kernel, rfl, by decide +kernel, by decide +kernel⟩
theorem ok_numberD {f : Addr} {fd : FuncData} (F : FnP K "_law_number" sLawNumber f fd) {f__law_draw : Addr} {fd__law_draw : FuncData} (c__law_draw : Cl P w K mg base CX0 "_law_draw" 1 ["pen", "many"] (spDraw) f__law_draw fd__law_draw)    : FnOk P w K mg base CX0 2 f fd ["pen"] (spNumberD) := by
  refine F.ok scnumberD (fun vs H Q E h => ?_) (fun cdv A outer s H vs Q E hr h => ?_)
  · obtain ⟨d, cl, ns, n, rfl, _⟩ := h
    rfl
  · obtain ⟨d, cl, ns, n, rfl, hP, hn, q⟩ := h
    have hu := hu_of hr
    have hs := szl
    refine ⟨_, PSs.nox (pss_cons (ps_set (i := 1) scnumberD.nd rfl (Or.inl rfl) (pe_ix ix_list (pe_lst (pa_cons (pe_int) (pa_cons (pe_int) (pa_cons (pe_int) (pa_cons (pe_int) (pa_cons (pe_int) (pa_cons (pe_int) pa_nil))))))) (pe_call c__law_draw.ok (hr.mono (by decide)) (by rfl) c__law_draw.m c__law_draw.kp c__law_draw.b .nil pass0 (pa_cons (pv 0) (pa_cons (pe_int) pa_nil))) (fun _ _ => rfl)))
      (pss_cons (ps_set (i := 2) scnumberD.nd rfl (Or.inl rfl) (pe_op op_add (pe_op op_mul (pe_call c__law_draw.ok (hr.mono (by decide)) (by rfl) c__law_draw.m c__law_draw.kp c__law_draw.b .nil pass0 (pa_cons (pv 0) (pa_cons (pe_op op_pow pe_int pe_int) pa_nil))) (pe_op op_pow pe_int pe_int)) (pe_call c__law_draw.ok (hr.mono (by decide)) (by rfl) c__law_draw.m c__law_draw.kp c__law_draw.b .nil pass0 (pa_cons (pv 0) (pa_cons (pe_op op_pow pe_int pe_int) pa_nil)))))
      (pss_one (ps_ret (pe_ix ix_list (pe_lst (pa_cons (pe_call c__law_draw.ok (hr.mono (by decide)) (by rfl) c__law_draw.m c__law_draw.kp c__law_draw.b .nil pass0 (pa_cons (pv 0) (pa_cons (pe_int) pa_nil))) (pa_cons (pe_op op_sub (pe_int) (pe_call c__law_draw.ok (hr.mono (by decide)) (by rfl) c__law_draw.m c__law_draw.kp c__law_draw.b .nil pass0 (pa_cons (pv 0) (pa_cons (pe_int) pa_nil)))) (pa_cons (pe_op op_sub (pe_call c__law_draw.ok (hr.mono (by decide)) (by rfl) c__law_draw.m c__law_draw.kp c__law_draw.b .nil pass0 (pa_cons (pv 0) (pa_cons (pe_int) pa_nil))) (pe_int)) (pa_cons (pe_op op_mul (pv 2) (pe_op op_sub (pe_int) (pe_op op_mul (pe_int) (pe_call c__law_draw.ok (hr.mono (by decide)) (by rfl) c__law_draw.m c__law_draw.kp c__law_draw.b .nil pass0 (pa_cons (pv 0) (pa_cons (pe_int) pa_nil)))))) pa_nil))))) (pv 1) (fun _ _ => rfl)))))), ?_⟩
    refine ⟨by show 6 ≤ sizeLine; decide, fun l nl => ?_⟩
    obtain ⟨⟨xa0, xb0, hd0, _⟩, hc0, _⟩ := id hP
    have ndl : d ≠ l := ne_of_none hd0 nl
    have P0 := hP.fr (fr_new (S := []) (o := .lst (ways6.map V.int)) nl) (by simp) (by simp)
    refine ⟨_, rfl, d, cl, ns, 6, n, rfl, P0, by omega, by decide, by decide, fun H1 k1 f1 P1 k10 k11 => ?_⟩
    have hl1 : H1 l = some (.lst (ways6.map V.int)) := f1 _ _ (by simpa using ndl.symm) upd_same
    have f01 := (fr_new (S := [d]) (o := .lst (ways6.map V.int)) nl).trans f1
    obtain ⟨way, ew, mw⟩ := atI_map (f := V.int) (xs := ways6) k10 k11
    have hw : 0 ≤ way ∧ way < 4 := (show ∀ x ∈ ways6, 0 ≤ x ∧ x < 4 by decide) way mw
    refine ⟨l, _, k1, _, rfl, rfl, SqL.of hl1, ew, ?_⟩
    -- far
    have six : ((10 : Int) ^ (6 : Int).toNat) = 1000000 := by decide
    refine ⟨_, rfl, _, _, rfl, rfl, (by show (0 : Int) ≤ 6 ∧ (6 : Int) ≤ 1000000 ∧ (10 : Int).natAbs < 2 ^ 64; decide), d, cl, ns, 1000000, _, congrArg (fun x => [V.ref d, V.int x]) six, P1, by omega, by decide, by decide, fun H2 a2 f2 P2 a20 a21 => ?_⟩
    refine ⟨_, _, rfl, rfl, (by show (0 : Int) ≤ 6 ∧ (6 : Int) ≤ 1000000 ∧ (10 : Int).natAbs < 2 ^ 64; decide), a2, 1000000, rfl, congrArg V.int six, .inl ⟨by omega, by omega⟩, ?_⟩
    refine ⟨_, rfl, _, _, rfl, rfl, (by show (0 : Int) ≤ 6 ∧ (6 : Int) ≤ 1000000 ∧ (10 : Int).natAbs < 2 ^ 64; decide), d, cl, ns, 1000000, _, congrArg (fun x => [V.ref d, V.int x]) six, P2, by omega, by decide, by decide, fun H3 a3 f3 P3 a30 a31 => ?_⟩
    refine ⟨_, _, rfl, rfl, ?_⟩
    -- one of four
    refine ⟨_, rfl, d, cl, ns, 5, _, rfl, P3, by omega, by decide, by decide, fun H4 b4 f4 P4 b40 b41 => ?_⟩
    refine ⟨_, rfl, d, cl, ns, 4, _, rfl, P4, by omega, by decide, by decide, fun H5 b5 f5 P5 b50 b51 => ⟨_, _, rfl, rfl, ?_⟩⟩
    refine ⟨_, rfl, d, cl, ns, 13, _, rfl, P5, by omega, by decide, by decide, fun H6 b6 f6 P6 b60 b61 => ⟨_, _, rfl, rfl, ?_⟩⟩
    refine ⟨_, rfl, _, rfl, d, cl, ns, 2, _, rfl, P6, by omega, by decide, by decide, fun H7 b7 f7 P7 b70 b71 => ⟨_, _, rfl, rfl, .inl ⟨by decide, by decide⟩, _, _, rfl, rfl, _, _, rfl, rfl, .inl ⟨by omega, by omega⟩, ?_⟩⟩
    refine ⟨by show 4 ≤ sizeLine; decide, fun p np => ⟨_, rfl, ?_⟩⟩
    obtain ⟨x, ex, mx⟩ := atI_in (xs := ([.int b4, .int (0 - b5), .int (b6 - 6), .int ((a2 * 1000000 + a3) * (1 - 2 * b7))] : List V)) hw.1 hw.2
    refine ⟨p, _, way, x, rfl, rfl, SqL.of upd_same, ex, ?_⟩
    have sp := newS (o := .lst [.int b4, .int (0 - b5), .int (b6 - 6), .int ((a2 * 1000000 + a3) * (1 - 2 * b7))]) np
    have fin : ∀ i : Int, i.natAbs < 10 ^ 13 → Q (.int i) _ := fun i hi => q _ i ((((((f01.trans f2).trans f3).trans f4).trans f5).trans f6).trans f7 |>.trans (fr_same sp)) ((P7.fr (S := []) (fr_same sp) (by simp) (by simp)).mono (by omega)) hi
    have mx : x = .int b4 ∨ x = .int (0 - b5) ∨ x = .int (b6 - 6) ∨ x = .int ((a2 * 1000000 + a3) * (1 - 2 * b7)) := by simpa using mx
    rcases mx with rfl | rfl | rfl | rfl
    · exact fin _ (by omega)
    · exact fin _ (by omega)
    · exact fin _ (by omega)
    · refine fin _ ?_
      have : b7 = 0 ∨ b7 = 1 := by omega
      rcases this with rfl | rfl <;> omega
theorem scvalueD : FnScope ["pen", "sort"] ["pen", "sort"] (defScope sLawValue) := ⟨rfl, rfl, rfl, by decide +kernel, rfl, by decide +kernel, by decide +kernel⟩
theorem ok_valueD {f : Addr} {fd : FuncData} (F : FnP K "_law_value" sLawValue f fd) {f__law_number : Addr} {fd__law_number : FuncData} (c__law_number : Cl P w K mg base CX0 "_law_number" 2 ["pen"] (spNumberD) f__law_number fd__law_number) {f__law_word : Addr} {fd__law_word : FuncData} (c__law_word : Cl P w K mg base CX0 "_law_word" 2 ["pen"] (spWordD) f__law_word fd__law_word) {f__law_text : Addr} {fd__law_text : FuncData} (c__law_text : Cl P w K mg base CX0 "_law_text" 2 ["pen"] (spTextD) f__law_text fd__law_text)    : FnOk P w K mg base CX0 3 f fd ["pen", "sort"] (spValueD) := by
  refine F.ok scvalueD (fun vs H Q E h => ?_) (fun cdv A outer s H vs Q E hr h => ?_)
  · obtain ⟨d, cl, ns, n, s, rfl, _⟩ := h
    rfl
  · obtain ⟨d, cl, ns, n, s, rfl, hP, hn, hs_, q⟩ := h
    have hu := hu_of hr
    refine ⟨_, PSs.nox (pss_cons (ps_if (pt_cmpR op_in_seq (pv 1) (pe_tup (pa_cons (pe_str) (pa_cons (pe_str) pa_nil))) (by with_unfolding_all rfl)) (pss_one (ps_ret (pe_call c__law_number.ok (hr.mono (by decide)) (by rfl) c__law_number.m c__law_number.kp c__law_number.b .nil pass0 (pa_cons (pv 0) pa_nil)))) (pss_nil))
      (pss_one (ps_ret (pe_ifExp (pt_cmpR op_eq (pv 1) (pe_str) (nomark _)) (pe_call c__law_word.ok (hr.mono (by decide)) (by rfl) c__law_word.m c__law_word.kp c__law_word.b .nil pass0 (pa_cons (pv 0) pa_nil)) (pe_call c__law_text.ok (hr.mono (by decide)) (by rfl) c__law_text.m c__law_text.kp c__law_text.b .nil pass0 (pa_cons (pv 0) pa_nil)))))), ?_⟩
    refine ⟨_, rfl, by show 2 ≤ sizeLine; decide, fun t nt => ⟨t, (["code", "amount"] : List Str).map V.str, rfl, .inr (SqT.of upd_same), rfl, by decide +kernel, _, rfl, ?_⟩⟩
    rw [if_neg (by decide), in_strs]
    have sT := newS (o := .tup ((["code", "amount"] : List Str).map V.str)) nt
    have P0 := hP.fr (S := []) (fr_same sT) (by simp) (by simp)
    have f0 : Fr [d] H _ := fr_same sT
    refine ite2 (fun e => ?_) (fun e => ?_)
    · have hm : s = "code" ∨ s = "amount" := by simpa using of_decide_eq_true e
      exact ⟨_, rfl, d, cl, ns, n, rfl, P0, by omega, fun H1 i f1 P1 hi => q H1 (.int i) (f0.trans f1) (P1.mono (by omega)) hi (of_number hm)⟩
    · have hm : s = "word" ∨ s = "text" := by
        have h1 : ¬ (s = "code" ∨ s = "amount") := fun z => e (decide_eq_true (by simpa using z))
        have h2 : s = "code" ∨ s = "amount" ∨ s = "word" ∨ s = "text" := by simpa [sorts] using hs_
        rcases h2 with z | z | z | z
        · exact absurd (.inl z) h1
        · exact absurd (.inr z) h1
        · exact .inl z
        · exact .inr z
      refine ⟨_, rfl, rfl, _, rfl, ite2 (fun e2 => ?_) (fun e2 => ?_)⟩
      · rw [dec_str] at e2
        have es : s = "word" := of_decide_eq_true e2
        subst es
        exact ⟨_, rfl, d, cl, ns, n, rfl, P0, by omega, fun H1 z f1 P1 g1 g2 g3 => q H1 (.str z) (f0.trans f1) (P1.mono (by omega)) ⟨by omega, g1.as⟩ (of_word g1 g2 g3)⟩
      · rw [dec_str] at e2
        have es : s = "text" := hm.elim (fun z => absurd (decide_eq_true z) e2) id
        subst es
        exact ⟨_, rfl, d, cl, ns, n, rfl, P0, by omega, fun H1 z f1 P1 g => q H1 (.str z) (f0.trans f1) (P1.mono (by omega)) g.plain (of_text g)⟩
theorem scvaluesD : FnScope ["pen", "form", "field", "sort"] ["pen", "form"] (defScope sLawValues) := ⟨rfl, rfl, rfl, by decide +kernel, rfl, by decide +kernel, by decide +kernel⟩
theorem ok_valuesD {f : Addr} {fd : FuncData} (F : FnP K "_law_values" sLawValues f fd) {f__law_value : Addr} {fd__law_value : FuncData} (c__law_value : Cl P w K mg base CX0 "_law_value" 3 ["pen", "sort"] (spValueD) f__law_value fd__law_value) (mb_tuple : mg "tuple" = none)   : FnOk P w K mg base CX0 4 f fd ["pen", "form"] (spValuesD K) := by
  refine F.ok scvaluesD (fun vs H Q E h => ?_) (fun cdv A outer s H vs Q E hr h => ?_)
  · obtain ⟨d, cl, ns, n, f, fs, rfl, _⟩ := h
    rfl
  · obtain ⟨d, cl, ns, n, p, fs, rfl, hP, hn, hF, gF, q⟩ := h
    have hu := hu_of hr
    have hs := szl
    refine ⟨_, PSs.nox (pss_one (ps_ret (pe_callTy call_tuple_of (by rfl) mb_tuple (by decide +kernel) (pa_cons (pe_lc (own := [("field", 2), ("sort", 3)]) (tt := tYes) rfl scvaluesD.nd (pi_tup (pv 1)) (blkOk_by (own := [("field", 2), ("sort", 3)]) (N := ["pen", "form", "field", "sort"]) (sc := defScope sLawValues) (by decide +kernel)) (fun _ _ _ _ _ => Cc.pg_tupk (K := K) (n := 2) rfl rfl (pgs_cons (pg_name (i := 2) scvaluesD.nd rfl (Or.inl rfl)) (pgs_cons (pg_name (i := 3) scvaluesD.nd rfl (Or.inl rfl)) (pgs_nil)))) (fun _ _ _ _ _ => pts_nil) (fun _ _ _ _ _ => pe_call c__law_value.ok (hr.mono (by decide)) (by rfl) c__law_value.m c__law_value.kp c__law_value.b .nil pass0 (pa_cons (pv 0) (pa_cons (pv 3) pa_nil)))) pa_nil)))), ?_⟩
    obtain ⟨pf, fx, rfl, hf, hFA⟩ := hF.asTup
    have lf : fx.length = fs.length := by rw [hFA.len, List.length_map]
    refine ⟨_, rfl, pf, rfl, ⟨fx, hf⟩, fun L nL => ?_⟩
    obtain ⟨⟨xa, xb, hd0, _⟩, hc0, _⟩ := id hP
    have nLd : d ≠ L := ne_of_none hd0 nL
    have nLc : cl ≠ L := ne_of_none hc0 nL
    have six := gF.hi
    refine lc_acc (walk_tup (K := K) (a := pf) (xs := fx)) (fun i acc H' => ∃ Ds : List PyData, acc = Ds.map vOf ∧ Ds.length = i ∧ (∀ D ∈ Ds, Plain D) ∧ ((Ds.zip fs).all fun x => ofSort x.2.2 x.1) = true ∧ Fr [d, L] H H' ∧ Pen H' d cl ns (n + 45 * i))
      ⟨[], rfl, rfl, (fun _ z => by cases z), rfl, fr_new nL, hP.fr (fr_new (S := []) nL) (by simp) (by simp)⟩ (fun i acc H' _ ⟨_, _, _, _, _, fr, _⟩ _ => ?_) ?_ ?_
    · -- the form stands
      rcases hf with (h | ⟨o, h⟩) | h
      · exact .inl (.inl (fr _ _ (by simp only [List.mem_cons, List.not_mem_nil, or_false, not_or]; exact ⟨ne_of h hd0 (by intro z; cases z), ne_of_none h nL⟩) h))
      · exact .inl (.inr ⟨o, fr _ _ (by simp only [List.mem_cons, List.not_mem_nil, or_false, not_or]; exact ⟨ne_of h hd0 (by intro z; cases z), ne_of_none h nL⟩) h⟩)
      · exact .inr h
    · rintro i x acc H1 H2 hi la ⟨Ds, rfl, lD, hD1, hD2, fr, P1⟩ hL ⟨rfl, ex⟩
      obtain ⟨dz, hdz, tz, mz⟩ := ThAll.get2 hFA ex
      obtain ⟨g, hg, rfl⟩ : ∃ g, fs[i]? = some g ∧ fieldD g = dz := by
        rw [List.getElem?_map] at hdz
        cases hg : fs[i]? with
        | none =>
          rw [hg] at hdz
          cases hdz
        | some g =>
          rw [hg] at hdz
          exact ⟨g, rfl, Option.some.inj hdz⟩
      obtain ⟨pz, zs, rfl, hpz, hZ⟩ := tz.asTup
      have ez2 : zs = [.str g.1, .str g.2] := by
        cases hZ with
        | cons h0 h1 =>
          cases h1 with
          | cons h1 h2 =>
            cases h2
            cases h0
            cases h1
            rfl
      subst ez2
      have hpz2 : SqT K H2 pz [.str g.1, .str g.2] := by
        rcases hpz with (h | ⟨o, h⟩) | h
        · exact .inl (.inl (fr _ _ (by simp only [List.mem_cons, List.not_mem_nil, or_false, not_or]; exact ⟨ne_of h hd0 (by intro z; cases z), ne_of_none h nL⟩) h))
        · exact .inl (.inr ⟨o, fr _ _ (by simp only [List.mem_cons, List.not_mem_nil, or_false, not_or]; exact ⟨ne_of h hd0 (by intro z; cases z), ne_of_none h nL⟩) h⟩)
        · exact .inr h
      refine ⟨pz, _, rfl, hpz2, rfl, _, _, rfl, _, _, rfl, rfl, rfl, ?_⟩
      refine ⟨_, rfl, _, rfl, d, cl, ns, _, g.2, rfl, P1, by omega, (gF.ok g (List.mem_of_getElem? hg)).2.2.2, fun H3 D f3 P3 pD oD => ?_⟩
      have hL3 := f3 _ _ (by simpa using nLd.symm) hL
      refine push hL3 la (by omega) ⟨Ds ++ [D], ?_, ?_, ?_, ?_, (fr.trans (f3.mono (by simp))).trans (fr_upd (by simp)), (P3.fr (S := [L]) (fr_upd (by simp)) (by simpa using nLd) (by simpa using nLc)).mono (by omega)⟩
      · rw [List.map_append]
        rfl
      · rw [List.length_append, lD]
        rfl
      · intro x hx
        rcases List.mem_append.mp hx with h | h
        · exact hD1 x h
        · rw [List.mem_singleton.mp h]
          exact pD
      · have e1 : (Ds ++ [D]).zip fs = Ds.zip fs ++ [(D, g)] := zip_snoc (by rw [lD]; exact hg)
        rw [e1, List.all_append, hD2]
        show (true && (ofSort g.2 D && true)) = true
        rw [oD]
        rfl
    · rintro acc H1 la ⟨Ds, rfl, lD, hD1, hD2, fr, P1⟩ hL
      refine ⟨L, _, rfl, .inl ⟨SqL.of hL, fun t nt => ?_⟩⟩
      have sT := newS (o := .tup (Ds.map vOf)) nt
      have f0 : Fr [d] H _ := Fr.trans (Fr.drop (p := L) (S := [d]) (fr.mono (by simp)) nL) (fr_same sT)
      refine q _ t Ds f0 ((P1.fr (S := []) (fr_same sT) (by simp) (by simp)).mono (by omega)) upd_same hD1 ?_
      show (decide (Ds.length = fs.length) && (Ds.zip fs).all fun x => ofSort x.2.2 x.1) = true
      rw [hD2, decide_eq_true (by omega)]
      rfl
end
end St6

set_option autoImplicit false
set_option maxHeartbeats 4000000
namespace St6
open PySem PySem.Spec PyProof.Rows L2 Tg Cc TL
open Ev (op_mulS)
/-! the law's own look at values, values at the bounds, the law -/
def spOfSortL (K : PySem.W.Frag) : Sp := fun vs H Q _ => ∃ v d s, vs = [.str s, v] ∧ Th K H v d ∧ Ok d ∧ s ∈ sorts ∧ ∀ H', Same H H' → Q (.bl (ofSort s d)) H'
/-- the signs of a text that texts don't have -/
def bads (l : List Nat) : List Str := (l.filter fun c => !signB c).map fun c => ⟨#[c]⟩
theorem bads_snoc (l : List Nat) (c : Nat) : bads (l ++ [c]) = bads l ++ (if signB c = true then [] else [⟨#[c]⟩]) := by
  unfold bads
  rw [List.filter_append, List.map_append]
  cases h : signB c <;> simp [h]
theorem bads_nil (l : List Nat) : (bads l).isEmpty = l.all signB := by
  unfold bads
  induction l with
  | nil => rfl
  | cons c r ih =>
    cases h : signB c
    · simp [h]
    · simp [h] at ih ⊢
      exact ih
theorem nots_nil (f : Nat → Bool) : ∀ n : Nat, (((List.range n).filter fun k => !f k).map fun k : Nat => PyData.int ((0 : Int) + (k : Int))).isEmpty = (List.range n).all f := fun n => by
  rw [List.isEmpty_map]
  generalize List.range n = l
  induction l with
  | nil => rfl
  | cons c r ih =>
    cases h : f c
    · simp [h]
    · simp [h] at ih ⊢
      exact ih
theorem zip_all {fs : List (Str × Str)} {ds : List PyData} (h : ds.length = fs.length) (f : Nat → Bool) (hf : ∀ k d g, ds[k]? = some d → fs[k]? = some g → f k = ofSort g.2 d) : (List.range fs.length).all f = (ds.zip fs).all fun x => ofSort x.2.2 x.1 := by
  rw [Bool.eq_iff_iff, List.all_eq_true, List.all_eq_true]
  constructor
  · intro a x hx
    obtain ⟨k, hk⟩ := List.mem_iff_getElem?.mp hx
    rw [List.getElem?_zip_eq_some] at hk
    rw [← hf k _ _ hk.1 hk.2]
    exact a k (List.mem_range.mpr (List.getElem?_eq_some_iff.mp hk.2).1)
  · intro a k hk
    have hk := List.mem_range.mp hk
    rw [hf k _ _ (List.getElem?_eq_getElem (by omega)) (List.getElem?_eq_getElem hk)]
    exact a (_, _) (List.mem_iff_getElem?.mpr ⟨k, List.getElem?_zip_eq_some.mpr ⟨List.getElem?_eq_getElem (by omega), List.getElem?_eq_getElem hk⟩⟩)
theorem shaped_ints (l : List Int) : SeqAt.shaped (.list (l.map PyData.int)) = true := PySem.W.ke_shaped_ints l
section
variable {P : Program} {w : World} {K : PySem.W.Frag} {mg : Str → Option Value} {base : Heap}
theorem sclwhole : FnScope ["thing"] ["thing"] (defScope sLawWhole) := ⟨rfl, rfl, rfl, by decide +kernel, rfl, by decide +kernel, by decide +kernel⟩
theorem ok_lwhole {f : Addr} {fd : FuncData} (F : FnP K "_law_whole" sLawWhole f fd)  (mb_isinstance : mg "isinstance" = none) (mb_int : mg "int" = none) (mb_bool : mg "bool" = none)   : FnOk P w K mg base CX0 1 f fd ["thing"] (spWhole K) := by
  refine F.ok sclwhole (fun vs H Q E h => ?_) (fun cdv A outer s H vs Q E hr h => ?_)
  · obtain ⟨v, d, rfl, _⟩ := h
    rfl
  · obtain ⟨v, d, rfl, hT, hB, q⟩ := h
    have hu := hu_of hr
    refine ⟨_, PSs.nox (pss_one (ps_ret (pe_and (pe_callB call_isi (by rfl) mb_isinstance (by decide +kernel) (pa_cons (pv 0) (pa_cons (pe_bltn (v := .ty "int") (by rfl) mb_int (by decide +kernel) rfl) pa_nil))) (pe_one (pe_not (pe_callB call_isi (by rfl) mb_isinstance (by decide +kernel) (pa_cons (pv 0) (pa_cons (pe_bltn (v := .ty "bool") (by rfl) mb_bool (by decide +kernel) rfl) pa_nil)))))))), ?_⟩
    refine ⟨_, rfl, v, .ty "int", _, _, _, rfl, .ty "int", hT.ty, kit_ty (kit_int d), _, rfl, ?_⟩
    rw [whole_is] at q
    cases hi : isInt d with
    | false =>
      rw [hi] at q
      exact iteF (q H (Same.refl H))
    | true =>
      rw [hi] at q
      exact iteT ⟨_, rfl, v, .ty "bool", _, _, _, rfl, .ty "bool", hT.ty, kit_ty (kit_bool d), _, rfl, q H (Same.refl H)⟩
theorem sclofsort : FnScope ["sort", "thing", "sign"] ["sort", "thing"] (defScope sLawOfSort) := ⟨rfl, rfl, rfl, by decide +kernel, rfl, by decide +kernel, by decide +kernel⟩
theorem ok_lofsort {f : Addr} {fd : FuncData} (F : FnP K "_law_of_sort" sLawOfSort f fd) {f__law_whole : Addr} {fd__law_whole : FuncData} (c__law_whole : Cl P w K mg base CX0 "_law_whole" 1 ["thing"] (spWhole K) f__law_whole fd__law_whole) {f__law_is_word : Addr} {fd__law_is_word : FuncData} (c__law_is_word : Cl P w K mg base CX0 "_law_is_word" 1 ["thing", "most"] (spWord K) f__law_is_word fd__law_is_word) (mb_isinstance : mg "isinstance" = none) (mb_str : mg "str" = none) (mb_len : mg "len" = none) (mb_ord : mg "ord" = none)   : FnOk P w K mg base CX0 2 f fd ["sort", "thing"] (spOfSortL K) := by
  refine F.ok sclofsort (fun vs H Q E h => ?_) (fun cdv A outer s H vs Q E hr h => ?_)
  · obtain ⟨v, d, s, rfl, _⟩ := h
    rfl
  · obtain ⟨v, d, s, rfl, hT, hB, hs_, q⟩ := h
    have hu := hu_of hr
    have hs := szl
    refine ⟨_, PSs.nox (pss_cons (ps_if (pt_cmpR op_in_seq (pv 0) (pe_tup (pa_cons (pe_str) (pa_cons (pe_str) pa_nil))) (by with_unfolding_all rfl)) (pss_one (ps_ret (pe_call c__law_whole.ok (hr.mono (by decide)) (by rfl) c__law_whole.m c__law_whole.kp c__law_whole.b .nil pass0 (pa_cons (pv 1) pa_nil)))) (pss_nil))
      (pss_cons (ps_if (pt_cmpR op_eq (pv 0) (pe_str) (nomark _)) (pss_one (ps_ret (pe_call c__law_is_word.ok (hr.mono (by decide)) (by rfl) c__law_is_word.m c__law_is_word.kp c__law_is_word.b .nil pass0 (pa_cons (pv 1) (pa_cons (pe_int) pa_nil))))) (pss_nil))
      (pss_cons (ps_if (PW.pt (pw_or (pt_not (pt_val (pe_callB call_isi (by rfl) mb_isinstance (by decide +kernel) (pa_cons (pv 1) (pa_cons (pe_bltn (v := .ty "str") (by rfl) mb_str (by decide +kernel) rfl) pa_nil))))) (pw_or1 (pt_cmpR op_gt (pe_callB call_len_str (by rfl) mb_len (by decide +kernel) (pa_cons (pv 1) pa_nil)) (pe_int) (nomark _))))) (pss_one (ps_ret (pe_bl))) (pss_nil))
      (pss_one (ps_ret (pe_cmpR (op_eqD hr.units) (pe_lc (own := [("sign", 2)]) (g := gName 2) rfl sclofsort.nd (pi_str (pv 1)) (blkOk_by (own := [("sign", 2)]) (N := ["sort", "thing", "sign"]) (sc := defScope sLawOfSort) (by decide +kernel)) (fun _ _ _ _ _ => pg_name (i := 2) sclofsort.nd rfl (Or.inl rfl)) (fun _ _ _ _ _ => pts_one (PW.pt (pw_or (pt_not (pt_chain op_lt op_lt (pe_int) (pe_callB call_ord (by rfl) mb_ord (by decide +kernel) (pa_cons (pv 2) pa_nil)) (pe_int))) (pw_or1 (pt_cmpR op_eq (pe_callB call_ord (by rfl) mb_ord (by decide +kernel) (pa_cons (pv 2) pa_nil)) (pe_int) (nomark _)))))) (fun _ _ _ _ _ => pv 2)) (pe_lst (pa_nil)) (nomark _))))))), ?_⟩
    refine ⟨_, rfl, by show 2 ≤ sizeLine; decide, fun t nt => ⟨t, (["code", "amount"] : List Str).map V.str, rfl, .inr (SqT.of upd_same), rfl, by decide +kernel, _, rfl, ?_⟩⟩
    rw [if_neg (by decide), in_strs]
    have sT := newS (o := .tup [.str "code", .str "amount"]) nt
    have hT1 := hT.kept (kept_same sT)
    unfold ofSort at q
    refine ite2 (fun e => ?_) (fun e => ?_)
    · have hm : s = "code" ∨ s = "amount" := by simpa using of_decide_eq_true e
      have n1 : s ≠ "word" := by rcases hm with rfl | rfl <;> decide
      have n2 : s ≠ "text" := by rcases hm with rfl | rfl <;> decide
      rw [if_neg n1, if_neg n2] at q
      exact ⟨_, rfl, v, d, rfl, hT1, hB, fun H1 s1 => q H1 (sT.trans s1)⟩
    · have hm : s = "word" ∨ s = "text" := by
        have h1 : ¬ (s = "code" ∨ s = "amount") := fun z => e (decide_eq_true (by simpa using z))
        have h2 : s = "code" ∨ s = "amount" ∨ s = "word" ∨ s = "text" := by simpa [sorts] using hs_
        rcases h2 with z | z | z | z
        · exact absurd (.inl z) h1
        · exact absurd (.inr z) h1
        · exact .inl z
        · exact .inr z
      refine ⟨_, rfl, rfl, _, rfl, ite2 (fun e2 => ?_) (fun e2 => ?_)⟩
      · rw [dec_str] at e2
        rw [if_pos (of_decide_eq_true e2)] at q
        exact ⟨_, rfl, v, d, 8, rfl, hT1, hB, fun H1 s1 => q H1 (sT.trans s1)⟩
      · rw [dec_str] at e2
        have n1 : s ≠ "word" := fun z => e2 (decide_eq_true z)
        have es : s = "text" := hm.elim (fun z => absurd z n1) id
        rw [if_neg n1, if_pos es] at q
        refine ⟨_, rfl, v, .ty "str", _, _, _, rfl, .ty "str", hT1.ty, kit_ty (kit_str d), _, rfl, ?_⟩
        cases hst : isStr d with
        | false =>
          refine iteT (iteT ?_)
          rw [txtB_not hst, Bool.false_and] at q
          exact q _ sT
        | true =>
          obtain ⟨z, rfl⟩ := isStr_eq hst
          obtain rfl := hT.asStr
          obtain ⟨hz, hA⟩ := bd_str.mp hB
          have val : (txtB (.str z) && lenB 40 (.str z)) = (z.cps.toList.all signB && decide (z.length ≤ 40)) := rfl
          rw [val] at q
          refine iteF ⟨_, rfl, z, rfl, lineN hz, _, _, rfl, rfl, _, rfl, ite2 (fun e3 => ?_) (fun e3 => ?_)⟩
          · have c : ¬ z.length ≤ 40 := by
              have := of_decide_eq_true e3
              omega
            rw [decide_eq_false c, Bool.and_false] at q
            exact q _ sT
          · have c : z.length ≤ 40 := by
              have : ¬ ((40 : Int) < (z.length : Int)) := fun y => e3 (decide_eq_true y)
              omega
            rw [decide_eq_true c, Bool.and_true] at q
            refine ⟨_, rfl, z, rfl, fun D nD => ?_⟩
            generalize upd H t (.tup [.str "code", .str "amount"]) = HA at sT nD ⊢
            refine lc_it (walk_str (z := z)) (fun i H' => But D HA H' ∧ H' D = some (.lst ((bads (z.cps.toList.take i)).map V.str))) ⟨But.refl.upd, upd_same⟩ (fun _ _ _ _ => trivial) ?_ ?_
            · rintro i x H1 H2 hi ⟨b, hD⟩ ⟨rfl, c2, hc, rfl⟩
              have hc2 : z.cps.toList[i]? = some c2 := by rw [Array.getElem?_toList]; exact hc
              have hl : z.length = z.cps.size := rfl
              have l1 : (⟨#[c2]⟩ : Str).length = 1 := rfl
              have lh : ((bads (z.cps.toList.take i)).map V.str).length ≤ i := by
                unfold bads
                rw [List.length_map, List.length_map]
                exact Nat.le_trans (List.length_filter_le _ _) (by rw [List.length_take]; omega)
              have ev : signB c2 = ((decide (32 ≤ c2) && decide (c2 ≤ 126)) && decide (c2 ≠ 37)) := rfl
              have keep : signB c2 = true → But D HA H2 ∧ H2 D = some (.lst ((bads (z.cps.toList.take (i + 1))).map V.str)) := fun sb => by
                refine ⟨b, ?_⟩
                rw [hD, List.take_succ, hc2]
                show _ = some (HO.lst ((bads (z.cps.toList.take i ++ [c2])).map V.str))
                rw [bads_snoc, if_pos sb, List.append_nil]
              have put : signB c2 = false → ∃ acc, H2 D = some (.lst acc) ∧ acc.length < sizeLine ∧ (But D HA (upd H2 D (.lst (acc ++ [.str ⟨#[c2]⟩]))) ∧ (upd H2 D (.lst (acc ++ [.str ⟨#[c2]⟩]))) D = some (.lst ((bads (z.cps.toList.take (i + 1))).map V.str))) := fun sb => by
                refine ⟨_, hD, by omega, b.upd, ?_⟩
                rw [upd_same, List.take_succ, hc2]
                show _ = some (HO.lst ((bads (z.cps.toList.take i ++ [c2])).map V.str))
                rw [bads_snoc, if_neg (by rw [sb]; exact Bool.false_ne_true), List.map_append]
                rfl
              refine ⟨rfl, _, rfl, ⟨#[c2]⟩, rfl, l1, _, _, rfl, rfl, _, rfl, ite2 (fun e4 => ⟨_, _, rfl, rfl, _, rfl, ite2 (fun e5 => ?_) (fun e5 => ?_)⟩) (fun e4 => ⟨_, rfl, iteT ⟨_, rfl, put ?_⟩⟩)⟩
              · have c5 : ¬ c2 ≤ 126 := fun y => by
                  rw [decide_eq_true (show (((⟨#[c2]⟩ : Str).cps.getD 0 0 : Nat) : Int) < 127 from by show (c2 : Int) < 127; omega)] at e5
                  cases e5
                exact iteT ⟨_, rfl, put (by rw [ev, decide_eq_false c5, Bool.and_false, Bool.false_and])⟩
              · have c4 : 32 ≤ c2 := by
                  have : (31 : Int) < (c2 : Int) := of_decide_eq_true e4
                  omega
                have c5 : c2 ≤ 126 := by
                  have h5 : (!decide ((((⟨#[c2]⟩ : Str).cps.getD 0 0 : Nat) : Int) < 127)) = false := by simpa using e5
                  rw [Bool.not_eq_false'] at h5
                  have : (c2 : Int) < 127 := of_decide_eq_true h5
                  omega
                refine ⟨_, rfl, ⟨#[c2]⟩, rfl, l1, rfl, _, rfl, ite2 (fun e6 => ?_) (fun e6 => ?_)⟩
                · have c6 : c2 = 37 := by
                    have : V.int (c2 : Int) = V.int 37 := of_decide_eq_true e6
                    have := V.int.inj this
                    omega
                  exact ⟨_, rfl, put (by rw [ev, decide_eq_false (show ¬ c2 ≠ 37 by omega), Bool.and_false])⟩
                · have c6 : c2 ≠ 37 := fun y => e6 (decide_eq_true (by rw [y]; rfl))
                  exact keep (by rw [ev, decide_eq_true c4, decide_eq_true c5, decide_eq_true c6]; rfl)
              · have c4 : ¬ 32 ≤ c2 := fun y => e4 (decide_eq_true (show (31 : Int) < (c2 : Int) by omega))
                rw [ev, decide_eq_false c4, Bool.false_and, Bool.false_and]
            · rintro H' ⟨b, hD⟩
              rw [List.take_of_length_le (by rw [Array.length_toList]; exact Nat.le_refl _)] at hD
              have h1 : ∀ y ∈ bads z.cps.toList, As y := fun y hy => by
                obtain ⟨c, hc, rfl⟩ := List.mem_map.mp hy
                have := hA c (List.mem_filter.mp hc).1
                intro k hk
                have : k = c := by simpa using hk
                omega
              refine ⟨Nat.zero_le _, fun p np => ⟨.list ((bads z.cps.toList).map PyData.str), .list [], .lst (SqL.of (newS np _ _ hD)) (dpAll_strs _), .lst (SqL.of upd_same) .nil, shaped_strs h1, by decide +kernel, ?_⟩⟩
              rw [eqv_nil, List.isEmpty_map, bads_nil]
              exact q _ (sT.trans ((b.new nD).trans (newS np)))
end
end St6

set_option autoImplicit false
set_option maxHeartbeats 4000000
namespace St6
open PySem PySem.Spec PyProof.Rows L2 Tg Cc TL
open Ev (op_mulS)
/-! the law's own look at values, values at the bounds -/
def spLFits (K : PySem.W.Frag) : Sp := fun vs H Q _ => ∃ f fs v d, vs = [f, v] ∧ Th K H f (formD fs) ∧ GoodF fs ∧ Th K H v d ∧ Ok d ∧ ∀ H', Same H H' → Q (.bl (fitsB fs d)) H'
theorem dpAll_nats {K : PySem.W.Frag} {H : Hp} : ∀ ns : List Nat, DpAll K H (ns.map fun k : Nat => V.int ((0 : Int) + (k : Int))) (ns.map fun k : Nat => PyData.int ((0 : Int) + (k : Int)))
  | [] => .nil
  | n :: r => .cons (.int _) (dpAll_nats r)
/-- what the k-th part is -/
def kth (fs : List (Str × Str)) (ds : List PyData) (k : Nat) : Bool := match ds[k]?, fs[k]? with
  | some d, some g => ofSort g.2 d
  | _, _ => true
theorem kth_is {fs : List (Str × Str)} {ds : List PyData} {k : Nat} {d : PyData} {g : Str × Str} (h : ds[k]? = some d) (e : fs[k]? = some g) : kth fs ds k = ofSort g.2 d := by
  unfold kth
  rw [h, e]
def nots (fs : List (Str × Str)) (ds : List PyData) (n : Nat) : List Nat := (List.range n).filter fun k => !kth fs ds k
theorem nots_snoc (fs : List (Str × Str)) (ds : List PyData) (n : Nat) : nots fs ds (n + 1) = nots fs ds n ++ (if kth fs ds n = true then [] else [n]) := by
  unfold nots
  rw [List.range_succ, List.filter_append]
  cases h : kth fs ds n <;> simp [h]
theorem nots_len (fs : List (Str × Str)) (ds : List PyData) (n : Nat) : (nots fs ds n).length ≤ n := Nat.le_trans (List.length_filter_le _ _) (by rw [List.length_range]; exact Nat.le_refl _)
theorem plain_is {K : PySem.W.Frag} {H : Hp} {D : PyData} (h : Plain D) : Is K H 64 0 (vOf D) := by
  refine ⟨D, th_vOf h, ?_⟩
  cases D with
  | int i => exact bd_int.mpr (Nat.lt_of_lt_of_le h (Nat.pow_le_pow_right (by decide) (by decide)))
  | str s => exact bd_str.mpr ⟨Nat.le_trans h.1 (by decide), h.2⟩
  | _ => exact h.elim
def spEdge (K : PySem.W.Frag) : Sp := fun vs H Q _ => ∃ (d cl : Addr) (ns : List Int) (n : Nat) (f : V) (fs : List (Str × Str)) (q : Addr) (Ds : List PyData), vs = [.ref d, f, .ref q] ∧ Pen H d cl ns n ∧ n ≤ 900000 ∧ Th K H f (formD fs) ∧ GoodF fs ∧ SqT K H q (Ds.map vOf) ∧ (∀ D ∈ Ds, Plain D) ∧ Ds.length = fs.length ∧
  ∀ H' u, Fr [d] H H' → Pen H' d cl ns (n + 2) → Is K H' 64 1 u → Q u H'
def edgeV : List V := [.str (Txt.mul "a" 8), .str (Txt.mul "a" 9), .str "", .str "A", .str (Txt.mul "x" 40), .str (Txt.mul "x" 41), .str (Str.ofString "a\nb"), .bl true, .bl false, .int (10 ^ (12 : Int).toNat - 1), .int (1 - 10 ^ (12 : Int).toNat), .non]
theorem edge_is {K : PySem.W.Frag} {H : Hp} {v : V} (h : v ∈ edgeV) : Is K H 64 0 v := by
  have t : ∀ s : Str, s.length ≤ 64 → (∀ c ∈ s.cps.toList, c < 128) → Is K H 64 0 (.str s) := fun s h1 h2 => .str _ h1 h2
  unfold edgeV at h
  simp only [List.mem_cons, List.not_mem_nil, or_false] at h
  rcases h with rfl | rfl | rfl | rfl | rfl | rfl | rfl | rfl | rfl | rfl | rfl | rfl
  · exact t _ (by decide +kernel) (by decide +kernel)
  · exact t _ (by decide +kernel) (by decide +kernel)
  · exact t _ (by decide +kernel) (by decide +kernel)
  · exact t _ (by decide +kernel) (by decide +kernel)
  · exact t _ (by decide +kernel) (by decide +kernel)
  · exact t _ (by decide +kernel) (by decide +kernel)
  · exact t _ (by decide +kernel) (by decide +kernel)
  · exact .bl _
  · exact .bl _
  · exact .int _ (by decide +kernel)
  · exact .int _ (by decide +kernel)
  · exact .non
theorem cutV_len {xs : List V} {lo hi : Option Int} : (cutV xs lo hi).length ≤ xs.length := by
  unfold cutV
  rw [List.length_take, List.length_drop]
  omega
section
variable {P : Program} {w : World} {K : PySem.W.Frag} {mg : Str → Option Value} {base : Heap}
theorem sclfits : FnScope ["form", "thing", "k"] ["form", "thing"] (defScope sLawFits) := ⟨rfl, rfl, rfl, by decide +kernel, rfl, by decide +kernel, by decide +kernel⟩
theorem ok_lfits {f : Addr} {fd : FuncData} (F : FnP K "_law_fits" sLawFits f fd) {f__law_of_sort : Addr} {fd__law_of_sort : FuncData} (c__law_of_sort : Cl P w K mg base CX0 "_law_of_sort" 2 ["sort", "thing"] (spOfSortL K) f__law_of_sort fd__law_of_sort) (mb_isinstance : mg "isinstance" = none) (mb_tuple : mg "tuple" = none) (mb_len : mg "len" = none) (mb_range : mg "range" = none)   : FnOk P w K mg base CX0 3 f fd ["form", "thing"] (spLFits K) := by
  refine F.ok sclfits (fun vs H Q E h => ?_) (fun cdv A outer s H vs Q E hr h => ?_)
  · obtain ⟨f, fs, v, d, rfl, _⟩ := h
    rfl
  · obtain ⟨p, fs, v, d, rfl, hF, gF, hT, hB, q⟩ := h
    have hu := hu_of hr
    have hs := szl
    refine ⟨_, PSs.nox (pss_cons (ps_if (PW.pt (pw_or (pt_not (pt_val (pe_callB call_isi (by rfl) mb_isinstance (by decide +kernel) (pa_cons (pv 1) (pa_cons (pe_bltn (v := .ty "tuple") (by rfl) mb_tuple (by decide +kernel) rfl) pa_nil))))) (pw_or1 (pt_cmpR op_ne (pe_callB call_len (by rfl) mb_len (by decide +kernel) (pa_cons (pv 1) pa_nil)) (pe_callB call_len (by rfl) mb_len (by decide +kernel) (pa_cons (pv 0) pa_nil)) (nomark _))))) (pss_one (ps_ret (pe_bl))) (pss_nil))
      (pss_one (ps_ret (pe_cmpR (op_eqD hr.units) (pe_lc (own := [("k", 2)]) (g := gName 2) rfl sclfits.nd (pi_range1 (by rfl) mb_range (pa_cons (pe_callB call_len (by rfl) mb_len (by decide +kernel) (pa_cons (pv 0) pa_nil)) pa_nil)) (blkOk_by (own := [("k", 2)]) (N := ["form", "thing", "k"]) (sc := defScope sLawFits) (by decide +kernel)) (fun _ _ _ _ _ => pg_name (i := 2) sclfits.nd rfl (Or.inl rfl)) (fun _ _ _ _ _ => pts_one (pt_not (pt_val (pe_call c__law_of_sort.ok (hr.mono (by decide)) (by rfl) c__law_of_sort.m c__law_of_sort.kp c__law_of_sort.b .nil pass0 (pa_cons (pe_ix (Cc.ix_Bk (K := K) rfl) (pe_ix (Cc.ix_Bk (K := K) rfl) (pv 0) (pv 2) (fun _ _ => rfl)) (pe_int) (fun _ _ => rfl)) (pa_cons (pe_ix (Cc.ix_Bk (K := K) rfl) (pv 1) (pv 2) (fun _ _ => rfl)) pa_nil)))))) (fun _ _ _ _ _ => pv 2)) (pe_lst (pa_nil)) (nomark _))))), ?_⟩
    refine ⟨_, rfl, v, .ty "tuple", _, _, _, rfl, .ty "tuple", hT.ty, kit_ty (kit_tup d), _, rfl, ?_⟩
    cases ht : isTup d with
    | false =>
      have e := q H (Same.refl H)
      rw [fitsB_not ht] at e
      exact iteT (iteT e)
    | true =>
      obtain ⟨ds, rfl⟩ := isTup_eq ht
      obtain ⟨a, xs, rfl, hx, hA⟩ := hT.asTup
      obtain ⟨pf, fx, rfl, hf, hFA⟩ := hF.asTup
      have lx := hA.len
      have lf : fx.length = fs.length := by rw [hFA.len, List.length_map]
      have bs := Bd.tup hB
      refine iteF ⟨_, rfl, _, _, rfl, .inr ⟨_, hx, rfl⟩, _, rfl, _, _, rfl, .inr ⟨_, hf, rfl⟩, rfl, _, rfl, ite2 (fun e => ?_) (fun e => ?_)⟩
      · have ne : ¬ ds.length = fs.length := fun z => by
          rw [dec_int, decide_eq_true (show (xs.length : Int) = fx.length by omega)] at e
          cases e
        have e2 := q H (Same.refl H)
        rw [show fitsB fs (.tuple ds) = (decide (ds.length = fs.length) && (ds.zip fs).all fun x => ofSort x.2.2 x.1) from rfl, decide_eq_false ne, Bool.false_and] at e2
        exact e2
      · have eq : ds.length = fs.length := by
          have e3 : (!decide (V.int (xs.length : Nat) = V.int (fx.length : Nat))) = false := by simpa using e
          rw [dec_int, Bool.not_eq_false'] at e3
          have := of_decide_eq_true e3
          omega
        rw [show fitsB fs (.tuple ds) = (decide (ds.length = fs.length) && (ds.zip fs).all fun x => ofSort x.2.2 x.1) from rfl, decide_eq_true eq, Bool.true_and, ← zip_all eq (kth fs ds) (fun k d g => kth_is), ← nots_nil] at q
        have hi6 := gF.hi
        refine ⟨_, rfl, _, _, rfl, .inr ⟨_, hf, rfl⟩, _, rfl, by omega, by omega, fun D nD => ?_⟩
        have en : (((fx.length : Nat) : Int)).toNat = fs.length := by omega
        rw [en]
        refine lc_it (walk_range (lo := 0) (n := fs.length)) (fun i H' => But D H H' ∧ H' D = some (.lst ((nots fs ds i).map fun k : Nat => V.int ((0 : Int) + (k : Int))))) ⟨But.refl.upd, upd_same⟩ (fun _ _ _ _ => trivial) ?_ ?_
        · rintro i x H1 H2 hi ⟨b, hD⟩ ⟨rfl, rfl⟩
          obtain ⟨x, ex⟩ : ∃ x, xs[i]? = some x := ⟨_, List.getElem?_eq_getElem (by omega)⟩
          obtain ⟨z, ez⟩ : ∃ z, fx[i]? = some z := ⟨_, List.getElem?_eq_getElem (by omega)⟩
          obtain ⟨dx, hdx, tx, mx⟩ := ThAll.get2 hA ex
          obtain ⟨dz, hdz, tz, mz⟩ := ThAll.get2 hFA ez
          obtain ⟨g, hg, rfl⟩ : ∃ g, fs[i]? = some g ∧ fieldD g = dz := by
            rw [List.getElem?_map] at hdz
            cases hg : fs[i]? with
            | none =>
              rw [hg] at hdz
              cases hdz
            | some g =>
              rw [hg] at hdz
              exact ⟨g, rfl, Option.some.inj hdz⟩
          obtain ⟨pz, zs, rfl, hpz, hZ⟩ := tz.asTup
          have ez2 : zs = [.str g.1, .str g.2] := by
            cases hZ with
            | cons h0 h1 =>
              cases h1 with
              | cons h1 h2 =>
                cases h2
                cases h0
                cases h1
                rfl
          subst ez2
          have s2 := b.new nD
          have mg := (gF.ok g (List.mem_of_getElem? hg)).2.2.2
          have li := nots_len fs ds i
          refine ⟨rfl, _, rfl, _, rfl, true, pf, fx, (0 : Int) + (i : Int), .ref pz, rfl, rfl, Sq.same (t := true) hf s2, (by rw [Int.zero_add]; exact atI_nat ez), true, pz, _, 1, .str g.2, rfl, rfl, Sq.same (t := true) hpz s2, rfl, ?_⟩
          refine ⟨_, rfl, _, rfl, true, a, xs, (0 : Int) + (i : Int), x, rfl, rfl, Sq.same (t := true) hx s2, (by rw [Int.zero_add]; exact atI_nat ex), x, dx, g.2, rfl, tx.kept (kept_same s2), bs.2 dx mx, mg, fun H3 s3 => ⟨_, rfl, ?_⟩⟩
          have b3 := b.same s3
          have hD3 := s3 _ _ hD
          rw [nots_snoc, kth_is hdx hg]
          cases ho : ofSort g.2 dx with
          | true =>
            refine iteF ⟨b3, ?_⟩
            rw [hD3]
            simp
          | false =>
            refine iteT ⟨_, rfl, _, hD3, by rw [List.length_map]; omega, b3.upd, ?_⟩
            rw [upd_same, List.map_append]
            rfl
        · rintro H' ⟨b, hD⟩
          have s2 := b.new nD
          refine ⟨Nat.zero_le _, fun p np => ⟨.list ((nots fs ds fs.length).map fun k : Nat => PyData.int ((0 : Int) + (k : Int))), .list [], .lst (SqL.of (newS np _ _ hD)) (dpAll_nats _), .lst (SqL.of upd_same) .nil, ?_, by decide +kernel, ?_⟩⟩
          · have := shaped_ints ((nots fs ds fs.length).map fun k : Nat => (0 : Int) + (k : Int))
            rw [List.map_map] at this
            exact this
          · rw [eqv_nil]
            exact q _ (s2.trans (newS np))
theorem scedge : FnScope ["pen", "form", "values", "at", "edge"] ["pen", "form", "values"] (defScope sLawEdge) := ⟨rfl, rfl, rfl, by decide +kernel, rfl, by decide +kernel, by decide +kernel⟩
theorem ok_edge {f : Addr} {fd : FuncData} (F : FnP K "_law_edge" sLawEdge f fd) {f__law_draw : Addr} {fd__law_draw : FuncData} (c__law_draw : Cl P w K mg base CX0 "_law_draw" 1 ["pen", "many"] (spDraw) f__law_draw fd__law_draw) (mb_len : mg "len" = none)   : FnOk P w K mg base CX0 2 f fd ["pen", "form", "values"] (spEdge K) := by
  refine F.ok scedge (fun vs H Q E h => ?_) (fun cdv A outer s H vs Q E hr h => ?_)
  · obtain ⟨d, cl, ns, n, f, fs, q, Ds, rfl, _⟩ := h
    rfl
  · obtain ⟨d, cl, ns, n, f, fs, qv, Ds, rfl, hP, hn, hF, gF, hV, hPl, lD, q⟩ := h
    have hu := hu_of hr
    have hs := szl
    refine ⟨_, PSs.nox (pss_cons (ps_set (i := 3) scedge.nd rfl (Or.inl rfl) (pe_call c__law_draw.ok (hr.mono (by decide)) (by rfl) c__law_draw.m c__law_draw.kp c__law_draw.b .nil pass0 (pa_cons (pv 0) (pa_cons (pe_callB call_len (by rfl) mb_len (by decide +kernel) (pa_cons (pv 1) pa_nil)) pa_nil))))
      (pss_cons (ps_set (i := 4) scedge.nd rfl (Or.inl rfl) (pe_lst (pa_cons (pe_op op_mulS (pe_str) (pe_int)) (pa_cons (pe_op op_mulS (pe_str) (pe_int)) (pa_cons (pe_str) (pa_cons (pe_str) (pa_cons (pe_op op_mulS (pe_str) (pe_int)) (pa_cons (pe_op op_mulS (pe_str) (pe_int)) (pa_cons (pe_str) (pa_cons (pe_bl) (pa_cons (pe_bl) (pa_cons (pe_op op_sub (pe_op op_pow (pe_int) (pe_int)) (pe_int)) (pa_cons (pe_op op_sub (pe_int) (pe_op op_pow (pe_int) (pe_int))) (pa_cons (pe_non) pa_nil))))))))))))))
      (pss_one (ps_ret (pe_op Cc.op_catB (pe_op Cc.op_catB (pe_slice Cc.sl_B (pv 2) po_none (po_some (pv 3))) (pe_tup (pa_cons (pe_ix ix_list (pv 4) (pe_call c__law_draw.ok (hr.mono (by decide)) (by rfl) c__law_draw.m c__law_draw.kp c__law_draw.b .nil pass0 (pa_cons (pv 0) (pa_cons (pe_int) pa_nil))) (fun _ _ => rfl)) pa_nil))) (pe_slice Cc.sl_B (pv 2) (po_some (pe_op op_add (pv 3) (pe_int))) po_none)))))), ?_⟩
    obtain ⟨pf, fx, rfl, hf, hFA⟩ := hF.asTup
    have lf : fx.length = fs.length := by rw [hFA.len, List.length_map]
    have g1 := gF.lo
    have g6 := gF.hi
    refine ⟨_, rfl, _, rfl, _, _, rfl, .inr ⟨_, hf, rfl⟩, d, cl, ns, ((fx.length : Nat) : Int), n, rfl, hP, by omega, by omega, by omega, fun H1 at_ f1 P1 a0 a1 => ?_⟩
    have hV1 := (Kept.fr hP f1).tup hV
    refine ⟨_, _, rfl, rfl, by decide, by decide, by decide +kernel, _, _, rfl, rfl, by decide, by decide, by decide +kernel, _, _, rfl, rfl, by decide, by decide, by decide +kernel, _, _, rfl, rfl, by decide, by decide, by decide +kernel, ?_⟩
    refine ⟨_, _, rfl, rfl, (by show (0 : Int) ≤ 12 ∧ (12 : Int) ≤ 1000000 ∧ (10 : Int).natAbs < 2 ^ 64; decide), _, _, rfl, rfl, _, _, rfl, rfl, (by show (0 : Int) ≤ 12 ∧ (12 : Int) ≤ 1000000 ∧ (10 : Int).natAbs < 2 ^ 64; decide), _, _, rfl, rfl, by show 12 ≤ sizeLine; decide, fun l nl => ?_⟩
    have hl2 : (upd H1 l (.lst edgeV)) l = some (.lst edgeV) := upd_same
    have s2 : Same H1 (upd H1 l (.lst edgeV)) := newS nl
    have P2 := P1.fr (S := []) (fr_same s2) (by simp) (by simp)
    have hV2 : SqT K (upd H1 l (.lst edgeV)) qv (Ds.map vOf) := Sq.same (t := true) hV1 s2
    have f2 := f1.trans (fr_same (S := [d]) s2)
    have goal : ∀ H3, Same (upd H1 l (.lst edgeV)) H3 → True := fun _ _ => trivial
    refine ⟨_, rfl, _, rfl, at_, rfl, true, qv, _, rfl, hV2, fun p H3 s3 M3 => ?_⟩
    have f3 := f2.trans (fr_same (S := [d]) s3)
    have P3 := P2.fr (S := []) (fr_same s3) (by simp) (by simp)
    obtain ⟨⟨xa, xb, hd3, _⟩, hc3, _⟩ := id P3
    have hl3 := s3 _ _ hl2
    obtain ⟨⟨ya, yb, hd1, _⟩, hc1, _⟩ := id P1
    have nld : d ≠ l := ne_of_none hd1 nl
    refine ⟨_, rfl, _, rfl, d, cl, ns, 12, _, rfl, P3, by omega, by decide, by decide, fun H4 k f4 P4 k0 k1 => ?_⟩
    have k4 := Kept.fr P3 f4
    have hl4 : H4 l = some (.lst edgeV) := f4 _ _ (by simpa using nld.symm) hl3
    obtain ⟨u, eu, mu⟩ := atI_in (xs := edgeV) k0 k1
    refine ⟨l, _, k, u, rfl, rfl, SqL.of hl4, eu, by show 1 ≤ sizeLine; decide, fun t nt => ?_⟩
    have s5 := newS (o := .tup [u]) nt
    have M5 := SqM.same (M3.kept k4) s5
    have lc1 := cutV_len (xs := Ds.map vOf) (lo := none) (hi := some at_)
    have lc2 := cutV_len (xs := Ds.map vOf) (lo := some (at_ + 1)) (hi := none)
    rw [List.length_map] at lc1 lc2
    refine ⟨true, p, t, _, [u], rfl, rfl, M5, SqT.of upd_same, by rw [List.length_singleton]; omega, fun p6 H6 s6 M6 => ?_⟩
    have hV6 : SqT K H6 qv (Ds.map vOf) := Sq.same (t := true) (Sq.same (t := true) (k4.tup (Sq.same (t := true) hV2 s3)) s5) s6
    refine ⟨_, rfl, _, rfl, _, _, rfl, rfl, at_ + 1, rfl, true, qv, _, rfl, hV6, fun p7 H7 s7 M7 => ?_⟩
    refine ⟨true, p6, p7, _, _, rfl, rfl, SqM.same M6 s7, M7, by rw [List.length_append, List.length_singleton]; omega, fun p8 H8 s8 M8 => ?_⟩
    have s58 := ((s5.trans s6).trans s7).trans s8
    refine q H8 _ ((f3.trans f4).trans (fr_same s58)) ((P4.fr (S := []) (fr_same s58) (by simp) (by simp)).mono (by omega)) ?_
    refine Is.tup (m := 0) M8 (by rw [List.length_append, List.length_append, List.length_singleton]; omega) fun x hx => ?_
    have pl : ∀ {lo hi : Option Int}, x ∈ cutV (Ds.map vOf) lo hi → Is K H8 64 0 x := fun h => by
      obtain ⟨D, hD, rfl⟩ := List.mem_map.mp (cutV_mem h)
      exact plain_is (hPl D hD)
    rcases List.mem_append.mp hx with h | h
    · rcases List.mem_append.mp h with h | h
      · exact pl h
      · rw [List.mem_singleton.mp h]
        exact edge_is mu
    · exact pl h
end
end St6

set_option autoImplicit false
set_option maxHeartbeats 4000000
namespace St6
open PySem PySem.Spec PyProof.Rows L2 Tg Cc
/-! the law -/
theorem fn_none {P : Program} {w : World} {K : PySem.W.Frag} {mg : Str → Option Value} {base : Heap} {k : Nat} {f : Addr} {fd : FuncData} {ps : List Str} : FnOk P w K mg base CX0 k f fd ps (fun _ _ _ _ => False) :=
  ⟨fun _ _ _ _ h => h.elim, fun _ _ _ _ _ _ _ _ _ _ _ _ _ h => h.elim⟩
def spBents (K : PySem.W.Frag) : Sp := fun vs H Q E => ∃ m, m ≤ 6 ∧ spBent K m vs H Q E
def spLaw (K : PySem.W.Frag) : Sp := fun vs H Q _ => ∃ (a : Addr) (ns : List Int), vs = [.ref a] ∧ SqL K H a (ns.map V.int) ∧ ns.length ≤ 63 ∧ ∀ H', Q (.bl true) H'
theorem Is.ok {K : PySem.W.Frag} {H : Hp} {N m : Nat} {v : V} (h : Is K H N m v) (hN : N ≤ 1000) (hm : m ≤ 20) : ∃ D, Th K H v D ∧ Ok D := by
  obtain ⟨D, h1, h2⟩ := h
  exact ⟨D, h1, h2.mono hN hm⟩
section
variable {P : Program} {w : World} {K : PySem.W.Frag} {mg : Str → Option Value} {base : Heap}
theorem ok_bent {f f_d f_o : Addr} {fd fd_d fd_o : FuncData} (F : FnP K "_law_bent" sBent f fd) (cD : Cl P w K mg base CX0 "_law_draw" 1 ["pen", "many"] spDraw f_d fd_d) (cO : Cl P w K mg base CX0 "_law_odd" 2 ["pen"] (spOdd K) f_o fd_o)
    (m_ : mg "_law_bent" = some (.ref f)) (b_ : Binds K fd ["pen", "thing"] []) (h1 : mg "isinstance" = none) (h2 : mg "int" = none) (h3 : mg "bool" = none) (h4 : mg "str" = none) (h5 : mg "tuple" = none) (h6 : mg "list" = none) (h7 : mg "len" = none) :
    ∀ m, FnOk P w K mg base CX0 (2 + m + 1) f fd ["pen", "thing"] (spBent K m)
  | 0 => ok_bentS (m := 0) F cD cO ⟨fn_none.imp fun vs H Q E ⟨m', e, _⟩ => by omega, m_, F.kp, b_⟩ h1 h2 h3 h4 h5 h6 h7
  | m + 1 => ok_bentS (m := m + 1) F cD cO ⟨(ok_bent F cD cO m_ b_ h1 h2 h3 h4 h5 h6 h7 m).imp fun vs H Q E ⟨m', e, h⟩ => by
      obtain rfl : m = m' := by omega
      exact h, m_, F.kp, b_⟩ h1 h2 h3 h4 h5 h6 h7
theorem bents {f : Addr} {fd : FuncData} (h : ∀ m, FnOk P w K mg base CX0 (2 + m + 1) f fd ["pen", "thing"] (spBent K m)) : FnOk P w K mg base CX0 9 f fd ["pen", "thing"] (spBents K) :=
  ⟨fun vs H Q E ⟨m, _, h2⟩ => (h m).len vs H Q E h2, fun A outer s H args us vs Q E hr he hb hv ⟨m, hm, h2⟩ => (h m).run A outer s H args us vs Q E (hr.mono (by omega)) he hb hv h2⟩
theorem sclaw : FnScope ["script", "pen", "turn", "form", "values", "some", "thing", "found"] ["script"] (defScope sLaw) := ⟨rfl, rfl, rfl, by decide +kernel, rfl, by decide +kernel, by decide +kernel⟩
theorem ok_law {f : Addr} {fd : FuncData} (F : FnP K "law" sLaw f fd) {f__law_pen : Addr} {fd__law_pen : FuncData} (c__law_pen : Cl P w K mg base CX0 "_law_pen" 1 ["script"] (spPen K) f__law_pen fd__law_pen) {f__law_odd : Addr} {fd__law_odd : FuncData} (c__law_odd : Cl P w K mg base CX0 "_law_odd" 2 ["pen"] (spOdd K) f__law_odd fd__law_odd) {f__law_names : Addr} {fd__law_names : FuncData} (c__law_names : Cl P w K mg base CX0 "_law_names" 2 ["pen", "many"] (spNames) f__law_names fd__law_names) {f__law_form : Addr} {fd__law_form : FuncData} (c__law_form : Cl P w K mg base CX0 "_law_form" 2 ["pen", "names", "least"] (spDForm K) f__law_form fd__law_form) {f__law_values : Addr} {fd__law_values : FuncData} (c__law_values : Cl P w K mg base CX0 "_law_values" 4 ["pen", "form"] (spValuesD K) f__law_values fd__law_values) {f__law_bent : Addr} {fd__law_bent : FuncData} (c__law_bent : Cl P w K mg base CX0 "_law_bent" 9 ["pen", "thing"] (spBents K) f__law_bent fd__law_bent) {f__law_edge : Addr} {fd__law_edge : FuncData} (c__law_edge : Cl P w K mg base CX0 "_law_edge" 2 ["pen", "form", "values"] (spEdge K) f__law_edge fd__law_edge) {f_fits : Addr} {fd_fits : FuncData} (c_fits : Cl P w K mg base CX0 "fits" 5 ["form", "values"] (spFits K) f_fits fd_fits) {f__law_fits : Addr} {fd__law_fits : FuncData} (c__law_fits : Cl P w K mg base CX0 "_law_fits" 3 ["form", "thing"] (spLFits K) f__law_fits fd__law_fits) (mb_isinstance : mg "isinstance" = none) (mb_bool : mg "bool" = none) (mb_range : mg "range" = none) (mb_min : mg "min" = none) (mb_len : mg "len" = none) (mb_list : mg "list" = none)   : FnOk P w K mg base CX0 10 f fd ["script"] (spLaw K) := by
  refine F.ok sclaw (fun vs H Q E h => ?_) (fun cdv A outer s H vs Q E hr h => ?_)
  · obtain ⟨a, ns, rfl, _⟩ := h
    rfl
  · obtain ⟨a, ns, rfl, hS, hl, q⟩ := h
    have hu := hu_of hr
    have hs := szl
    refine ⟨_, PSs.nox (pss_cons (ps_set (i := 1) sclaw.nd rfl (Or.inl rfl) (pe_call c__law_pen.ok (hr.mono (by decide)) (by rfl) c__law_pen.m c__law_pen.kp c__law_pen.b .nil pass0 (pa_cons (pv 0) pa_nil)))
      (pss_cons (ps_for PassesOwn.never rfl (pi_range1 (by rfl) mb_range (pa_cons (pe_op op_add (pe_int) (pe_callB (call_min2 rfl) (by rfl) mb_min (by decide +kernel) (pa_cons (pe_int) (pa_cons (pe_callB call_len_seq (by rfl) mb_len (by decide +kernel) (pa_cons (pv 0) pa_nil)) pa_nil)))) pa_nil)) (pg_name (i := 2) sclaw.nd rfl (Or.inl rfl)) (pss_cons (ps_set (i := 3) sclaw.nd rfl (Or.inl rfl) (pe_call c__law_form.ok (hr.mono (by decide)) (by rfl) c__law_form.m c__law_form.kp c__law_form.b .nil pass0 (pa_cons (pv 1) (pa_cons (pe_call c__law_names.ok (hr.mono (by decide)) (by rfl) c__law_names.m c__law_names.kp c__law_names.b .nil pass0 (pa_cons (pv 1) (pa_cons (pe_int) pa_nil))) (pa_cons (pe_int) pa_nil)))))
      (pss_cons (ps_set (i := 4) sclaw.nd rfl (Or.inl rfl) (pe_call c__law_values.ok (hr.mono (by decide)) (by rfl) c__law_values.m c__law_values.kp c__law_values.b .nil pass0 (pa_cons (pv 1) (pa_cons (pv 3) pa_nil))))
      (pss_cons (ps_set (i := 5) sclaw.nd rfl (Or.inl rfl) (pe_lst (pa_cons (pv 4) (pa_cons (pe_call c__law_bent.ok (hr.mono (by decide)) (by rfl) c__law_bent.m c__law_bent.kp c__law_bent.b .nil pass0 (pa_cons (pv 1) (pa_cons (pv 4) pa_nil))) (pa_cons (pe_call c__law_edge.ok (hr.mono (by decide)) (by rfl) c__law_edge.m c__law_edge.kp c__law_edge.b .nil pass0 (pa_cons (pv 1) (pa_cons (pv 3) (pa_cons (pv 4) pa_nil)))) (pa_cons (pe_call c__law_odd.ok (hr.mono (by decide)) (by rfl) c__law_odd.m c__law_odd.kp c__law_odd.b .nil pass0 (pa_cons (pv 1) pa_nil)) (pa_cons (pe_callTy call_list_of (by rfl) mb_list (by decide +kernel) (pa_cons (pv 4) pa_nil)) pa_nil)))))))
      (pss_cons (ps_for PassesOwn.never rfl (pi_list (pv 5)) (pg_name (i := 6) sclaw.nd rfl (Or.inl rfl)) (pss_cons (ps_set (i := 7) sclaw.nd rfl (Or.inl rfl) (pe_call c_fits.ok (hr.mono (by decide)) (by rfl) c_fits.m c_fits.kp c_fits.b .nil pass0 (pa_cons (pv 3) (pa_cons (pv 6) pa_nil))))
      (pss_one (ps_if (PW.pt (pw_or (pt_not (pt_val (pe_callB call_isi (by rfl) mb_isinstance (by decide +kernel) (pa_cons (pv 7) (pa_cons (pe_bltn (v := .ty "bool") (by rfl) mb_bool (by decide +kernel) rfl) pa_nil))))) (pw_or1 (pt_cmpR op_ne (pv 7) (pe_call c__law_fits.ok (hr.mono (by decide)) (by rfl) c__law_fits.m c__law_fits.kp c__law_fits.b .nil pass0 (pa_cons (pv 3) (pa_cons (pv 6) pa_nil))) (nomark _))))) (pss_one (ps_ret (pe_bl))) (pss_nil)))))
      (pss_one (ps_if (pt_cmpR op_notBl (pe_call c_fits.ok (hr.mono (by decide)) (by rfl) c_fits.m c_fits.kp c_fits.b .nil pass0 (pa_cons (pv 3) (pa_cons (pv 4) pa_nil))) pe_bl (nomark _)) (pss_one (ps_ret (pe_bl))) (pss_nil))))))))
      (pss_one (ps_ret (pe_bl))))), ?_⟩
    refine ⟨_, rfl, a, ns, rfl, hS, hl, fun H1 d cl ms s1 nd nc P0 => ?_⟩
    have ln : ((ns.map V.int).length : Int) = (ns.length : Nat) := by rw [List.length_map]
    refine ⟨_, rfl, a, _, rfl, .inl (s1.seq hS), _, _, rfl, _, _, rfl, rfl, ?_⟩
    rw [ln]
    have turns : ∃ t : Nat, t ≤ 20 ∧ (6 + (if (ns.length : Int) < 14 then (ns.length : Int) else 14)) = (t : Int) := by
      by_cases c : (ns.length : Int) < 14
      · exact ⟨6 + ns.length, by omega, by rw [if_pos c]; omega⟩
      · exact ⟨20, by omega, by rw [if_neg c]; rfl⟩
    obtain ⟨t, ht, et⟩ := turns
    refine ⟨6 + (if (ns.length : Int) < 14 then (ns.length : Int) else 14), rfl, by omega, by omega, ?_⟩
    rw [et, Int.toNat_natCast]
    refine for_range (lo := 0) (n := t) (fun i σ' H' => (∃ x2 x3 x4 x5 x6 x7, σ' = [some (.ref a), some (.ref d), x2, x3, x4, x5, x6, x7]) ∧ Pen H' d cl ms (400 * i)) ⟨⟨_, _, _, _, _, _, rfl⟩, P0⟩ ?_ ?_
    · rintro i σ' H2 hi ⟨⟨x2, x3, x4, x5, x6, x7, rfl⟩, P2⟩
      -- form
      refine ⟨_, rfl, _, rfl, d, cl, ms, 6, _, rfl, P2, by omega, by omega, fun H3 p zs f3 P3 hp hN => ?_⟩
      refine ⟨d, cl, p, ms, zs, 6, _, 1, rfl, P3, by omega, hp, hN, by omega, by omega, by omega, fun H4 q4 fs f4 P4 T4 gF _ _ => ?_⟩
      -- values
      refine ⟨_, rfl, _, rfl, d, cl, ms, _, _, fs, rfl, P4, by omega, T4, gF, fun H5 q5 Ds f5 P5 h5 pl5 fit5 => ?_⟩
      have k5 := Kept.fr P4 f5
      have T5 := T4.kept k5
      have lD := fits_len fit5
      have V5 : Th K H5 (.ref q5) (.tuple Ds) := .tup (SqT.of h5) (th_vals pl5)
      have g6 := gF.hi
      have B5 : Bd 64 1 (.tuple Ds) := ⟨by omega, fun D hD => (pl5 D hD).bd (by omega)⟩
      -- some
      refine ⟨_, rfl, _, rfl, _, rfl, 1, by omega, d, cl, ms, _, 64, _, rfl, P5, by omega, ⟨_, V5, B5⟩, by omega, by omega, fun H6 v6 f6 P6 I6 => ?_⟩
      have k6 := Kept.fr P5 f6
      refine ⟨_, rfl, _, rfl, _, rfl, d, cl, ms, _, _, fs, q5, Ds, rfl, P6, by omega, T5.kept k6, gF, SqT.of (k6.tupH h5), pl5, lD, fun H7 v7 f7 P7 I7 => ?_⟩
      have k7 := Kept.fr P6 f7
      refine ⟨_, rfl, d, cl, ms, _, rfl, P7, by omega, fun H8 v8 f8 P8 I8 => ?_⟩
      have k8 := Kept.fr P7 f8
      have k58 := (k6.trans k7).trans k8
      have h8 := k58.tupH h5
      refine ⟨_, rfl, q5, _, rfl, .inr (SqT.of h8), fun l9 n9 => ?_⟩
      have s9 := newS (o := .lst (Ds.map vOf)) n9
      have V9 : Th K (upd H8 l9 (.lst (Ds.map vOf))) (.ref l9) (.list Ds) := .lst (SqL.of upd_same) (th_vals pl5)
      have k9 : Kept H5 (upd H8 l9 (.lst (Ds.map vOf))) := k58.trans (kept_same s9)
      have B9 : Ok (.list Ds) := ⟨by omega, fun D hD => (pl5 D hD).bd (by omega)⟩
      have P9 := P8.fr (S := []) (fr_same s9) (by simp) (by simp)
      have W9 := V5.kept k9
      have T9 := T5.kept k9
      have I6 := I6.kept ((k7.trans k8).trans (kept_same s9))
      have I7 := I7.kept (k8.trans (kept_same s9))
      have I8 := I8.kept (kept_same s9)
      clear h8 h5 n9 k9 T4 T5 V5 k58
      generalize upd H8 l9 (.lst (Ds.map vOf)) = HA at V9 P9 W9 T9 I6 I7 I8 ⊢
      refine ⟨by show 5 ≤ sizeLine; decide, fun l nl => ?_⟩
      have sl := newS (o := .lst [.ref q5, v6, v7, v8, .ref l9]) nl
      have hl9 : (upd HA l (.lst [.ref q5, v6, v7, v8, .ref l9])) l = some (.lst [.ref q5, v6, v7, v8, .ref l9]) := upd_same
      have PB := (P9.fr (S := []) (fr_same sl) (by simp) (by simp)).mono (m := 400 * (i + 1)) (by omega)
      have TB := T9.kept (kept_same sl)
      have WB := W9.kept (kept_same sl)
      have okV : Ok (.tuple Ds) := B5.mono (by omega) (by omega)
      have all : ∀ x ∈ ([.ref q5, v6, v7, v8, .ref l9] : List V), ∃ D, Th K (upd HA l (.lst [.ref q5, v6, v7, v8, .ref l9])) x D ∧ Ok D := by
        intro x hx
        simp only [List.mem_cons, List.not_mem_nil, or_false] at hx
        rcases hx with rfl | rfl | rfl | rfl | rfl
        · exact ⟨_, WB, okV⟩
        · exact Is.ok (I6.kept (kept_same sl)) (by omega) (by omega)
        · exact Is.ok (I7.kept (kept_same sl)) (by omega) (by omega)
        · exact Is.ok (I8.kept (kept_same sl)) (by omega) (by omega)
        · exact ⟨_, V9.kept (kept_same sl), B9⟩
      have gB : Ok (formD fs) := gF.bd.mono (by omega) (by omega)
      clear I6 I7 I8 V9 W9 T9
      generalize upd HA l (.lst [.ref q5, v6, v7, v8, .ref l9]) = H9 at hl9 PB TB WB all ⊢
      refine ⟨_, rfl, l, rfl, ⟨_, SqL.of hl9⟩, for_list (K := K) (a := l) (xs := [.ref q5, v6, v7, v8, .ref l9]) (fun j σ' H' => (∃ x2 x6 x7, σ' = [some (.ref a), some (.ref d), x2, some (.ref q4), some (.ref q5), some (.ref l), x6, x7]) ∧ Same H9 H') ⟨⟨_, _, _, rfl⟩, Same.refl _⟩ (fun j σ' H' _ ⟨_, s⟩ => SqL.of (s _ _ hl9)) ?_ ?_⟩
      · rintro j x σ' HA hx ⟨⟨y2, y5, y6, rfl⟩, sA⟩
        obtain ⟨D, hT, hD⟩ := all x (List.mem_of_getElem? hx)
        refine ⟨_, rfl, _, rfl, .ref q4, fs, x, D, rfl, TB.kept (kept_same sA), gB, gF.form, hT.kept (kept_same sA), hD, fun HB sB => ?_⟩
        refine ⟨_, rfl, .bl (fitsB fs D), .ty "bool", _, _, _, rfl, .ty "bool", .base (.bl _), kit_ty (by decide +kernel : kitB "bool" "bool" = some true), _, rfl, iteF ?_⟩
        refine ⟨_, rfl, _, rfl, _, rfl, .ref q4, fs, x, D, rfl, TB.kept (kept_same (sA.trans sB)), gF, hT.kept (kept_same (sA.trans sB)), hD, fun HC sC => ⟨rfl, _, rfl, ?_⟩⟩
        rw [decide_eq_true rfl]
        exact iteF ⟨⟨_, _, _, rfl⟩, (sA.trans sB).trans sC⟩
      · rintro σ' HA ⟨⟨y2, y5, y6, rfl⟩, sA⟩
        refine ⟨_, rfl, _, rfl, .ref q4, fs, .ref q5, _, rfl, TB.kept (kept_same sA), gB, gF.form, WB.kept (kept_same sA), okV, fun HB sB => ?_⟩
        rw [fit5]
        exact ⟨true, true, rfl, rfl, _, rfl, iteF ⟨⟨_, _, _, _, _, _, rfl⟩, PB.fr (S := []) (fr_same (sA.trans sB)) (by simp) (by simp)⟩⟩
    · rintro σ' H2 ⟨⟨x2, x3, x4, x5, x6, x7, rfl⟩, P2⟩
      exact q H2
end
end St6

set_option maxHeartbeats 0
namespace St6
open PySem PySem.Spec PyProof.Rows L2 Cc
def mkD (x : Str) (i : Nat) : He.DefD := ⟨(x, none), x, x, defArgs (top i), defBody (top i), defScope (top i), [], []⟩
def fn : List He.DefD := [mkD "is_sign" 2, mkD "is_text" 3, mkD "is_whole" 15, mkD "_is_small" 17, mkD "is_name" 16, mkD "is_sort" 13, mkD "_is_field" 11, mkD "is_form" 10, mkD "is_of_sort" 14, mkD "fits" 12, mkD "_law_pen" 19, mkD "_law_draw" 20, mkD "_law_names" 21, mkD "_law_form" 27, mkD "_law_word" 22, mkD "_law_text" 23, mkD "_law_number" 24, mkD "_law_value" 25, mkD "_law_values" 26, mkD "_law_whole" 28, mkD "_law_is_word" 29, mkD "_law_of_sort" 30, mkD "_law_fits" 32, mkD "_law_odd" 31, mkD "_law_edge" 34, mkD "_law_bent" 33, mkD "law" 35]
def fa : List He.Fa := [.glo "is_sign", .glo "is_text", .glo "is_whole", .glo "_is_small", .glo "is_name", .glo "is_sort", .glo "_is_field", .glo "is_form", .glo "is_of_sort", .glo "fits", .glo "_law_pen", .glo "_law_draw", .glo "_law_names", .glo "_law_form", .glo "_law_word", .glo "_law_text", .glo "_law_number", .glo "_law_value", .glo "_law_values", .glo "_law_whole", .glo "_law_is_word", .glo "_law_of_sort", .glo "_law_fits", .glo "_law_odd", .glo "_law_edge", .glo "_law_bent", .glo "law", .int "MOST_FIELDS" 6, .int "LONGEST_NAME" 12, .int "LONGEST_WORD" 8, .int "LONGEST_TEXT" 40, .int "PERCENT" 37, .glo "SORTS", .free "abs", .free "all", .free "bool", .free "int", .free "isinstance", .free "len", .free "list", .free "min", .free "ord", .free "range", .free "str", .free "tuple", .free "zip"]
def ex (K : PySem.W.Frag) : Bool := He.tupB K "SORTS" [.str "code", .str "amount", .str "word", .str "text"]
abbrev R : PySem.W.OpenRow := PySem.W.OpenLaw.row PySem.Challenge.rw_eventledger_k12_values_that_fit
abbrev hk : PySem.W.Hook := He.hookX 4 fa fn [] [] ex
def ob (s : PySem.W.SharedT) : He.AlX := He.obsX 4 fa fn [] [] ex (HandSHeadRun.getT s)
theorem ob_eq (s : PySem.W.SharedT) : ob s = hk.obs s.abs := He.obsX_eq (HandSHeadRun.getT_eq s)
abbrev loose : List Str := ["MOST_FIELDS", "LONGEST_NAME", "LONGEST_WORD", "LONGEST_TEXT", "PERCENT", "SORTS", "is_sign", "is_text", "is_whole", "_is_small", "is_name", "is_sort", "_is_field", "is_form", "is_of_sort", "fits", "_law_pen", "_law_draw", "_law_names", "_law_form", "_law_word", "_law_text", "_law_number", "_law_value", "_law_values", "_law_whole", "_law_is_word", "_law_of_sort", "_law_fits", "_law_odd", "_law_edge", "_law_bent"]
theorem run (w : World) : HandSHeadRun.RunEq R (PySem.W.view R.prog [35]) hk ob 2000 loose w := by
  intro os
  kernel_rfl
theorem facts {P : Program} {w : World} {K : PySem.W.Frag} {h : Heap} {mg : Str → Option Value} {f : Addr} (X : K.In h) (G : h.Ns mainGlobals mg) (hfa : mg ("law" : Str) = some (.ref f)) (cx : He.SaysX fa fn [] [] ex w h K) :
    ∃ fd : FuncData, (∀ (s : Shared) (v : Value), BindsTo s fd ⟨[v], []⟩ [("script", v)]) ∧ ∀ base : Heap, K.In base → base.Ns mainGlobals mg → FnOk P w K mg base CX0 10 f fd ["script"] (spLaw K) := by
  have c := cx.t.d
  obtain ⟨fd0, F0⟩ := c.def_ 0 (d := mkD "is_sign" 2) rfl
  obtain ⟨fd1, F1⟩ := c.def_ 1 (d := mkD "is_text" 3) rfl
  obtain ⟨fd2, F2⟩ := c.def_ 2 (d := mkD "is_whole" 15) rfl
  obtain ⟨fd3, F3⟩ := c.def_ 3 (d := mkD "_is_small" 17) rfl
  obtain ⟨fd4, F4⟩ := c.def_ 4 (d := mkD "is_name" 16) rfl
  obtain ⟨fd5, F5⟩ := c.def_ 5 (d := mkD "is_sort" 13) rfl
  obtain ⟨fd6, F6⟩ := c.def_ 6 (d := mkD "_is_field" 11) rfl
  obtain ⟨fd7, F7⟩ := c.def_ 7 (d := mkD "is_form" 10) rfl
  obtain ⟨fd8, F8⟩ := c.def_ 8 (d := mkD "is_of_sort" 14) rfl
  obtain ⟨fd9, F9⟩ := c.def_ 9 (d := mkD "fits" 12) rfl
  obtain ⟨fd10, F10⟩ := c.def_ 10 (d := mkD "_law_pen" 19) rfl
  obtain ⟨fd11, F11⟩ := c.def_ 11 (d := mkD "_law_draw" 20) rfl
  obtain ⟨fd12, F12⟩ := c.def_ 12 (d := mkD "_law_names" 21) rfl
  obtain ⟨fd13, F13⟩ := c.def_ 13 (d := mkD "_law_form" 27) rfl
  obtain ⟨fd14, F14⟩ := c.def_ 14 (d := mkD "_law_word" 22) rfl
  obtain ⟨fd15, F15⟩ := c.def_ 15 (d := mkD "_law_text" 23) rfl
  obtain ⟨fd16, F16⟩ := c.def_ 16 (d := mkD "_law_number" 24) rfl
  obtain ⟨fd17, F17⟩ := c.def_ 17 (d := mkD "_law_value" 25) rfl
  obtain ⟨fd18, F18⟩ := c.def_ 18 (d := mkD "_law_values" 26) rfl
  obtain ⟨fd19, F19⟩ := c.def_ 19 (d := mkD "_law_whole" 28) rfl
  obtain ⟨fd20, F20⟩ := c.def_ 20 (d := mkD "_law_is_word" 29) rfl
  obtain ⟨fd21, F21⟩ := c.def_ 21 (d := mkD "_law_of_sort" 30) rfl
  obtain ⟨fd22, F22⟩ := c.def_ 22 (d := mkD "_law_fits" 32) rfl
  obtain ⟨fd23, F23⟩ := c.def_ 23 (d := mkD "_law_odd" 31) rfl
  obtain ⟨fd24, F24⟩ := c.def_ 24 (d := mkD "_law_edge" 34) rfl
  obtain ⟨fd25, F25⟩ := c.def_ 25 (d := mkD "_law_bent" 33) rfl
  obtain ⟨fd26, F26⟩ := c.def_ 26 (d := mkD "law" 35) rfl
  have mb_abs := He.free_ok X G (c.fact 33 (f := .free "abs") rfl)
  have mb_all := He.free_ok X G (c.fact 34 (f := .free "all") rfl)
  have mb_bool := He.free_ok X G (c.fact 35 (f := .free "bool") rfl)
  have mb_int := He.free_ok X G (c.fact 36 (f := .free "int") rfl)
  have mb_isinstance := He.free_ok X G (c.fact 37 (f := .free "isinstance") rfl)
  have mb_len := He.free_ok X G (c.fact 38 (f := .free "len") rfl)
  have mb_list := He.free_ok X G (c.fact 39 (f := .free "list") rfl)
  have mb_min := He.free_ok X G (c.fact 40 (f := .free "min") rfl)
  have mb_ord := He.free_ok X G (c.fact 41 (f := .free "ord") rfl)
  have mb_range := He.free_ok X G (c.fact 42 (f := .free "range") rfl)
  have mb_str := He.free_ok X G (c.fact 43 (f := .free "str") rfl)
  have mb_tuple := He.free_ok X G (c.fact 44 (f := .free "tuple") rfl)
  have mb_zip := He.free_ok X G (c.fact 45 (f := .free "zip") rfl)
  obtain ⟨t_MOST_FIELDS, e_MOST_FIELDS⟩ := He.int_ok X G (c.fact 27 (f := .int "MOST_FIELDS" 6) rfl)
  obtain ⟨t_LONGEST_NAME, e_LONGEST_NAME⟩ := He.int_ok X G (c.fact 28 (f := .int "LONGEST_NAME" 12) rfl)
  obtain ⟨t_LONGEST_WORD, e_LONGEST_WORD⟩ := He.int_ok X G (c.fact 29 (f := .int "LONGEST_WORD" 8) rfl)
  obtain ⟨t_LONGEST_TEXT, e_LONGEST_TEXT⟩ := He.int_ok X G (c.fact 30 (f := .int "LONGEST_TEXT" 40) rfl)
  obtain ⟨t_PERCENT, e_PERCENT⟩ := He.int_ok X G (c.fact 31 (f := .int "PERCENT" 37) rfl)
  have g_SORTS := He.glo_ok X G (c.fact 32 (f := .glo "SORTS") rfl)
  have q_SORTS := He.tupB_ok cx.more
  have m0 := He.glo_ok X G (c.fact 0 (f := .glo "is_sign") rfl)
  have m1 := He.glo_ok X G (c.fact 1 (f := .glo "is_text") rfl)
  have m2 := He.glo_ok X G (c.fact 2 (f := .glo "is_whole") rfl)
  have m3 := He.glo_ok X G (c.fact 3 (f := .glo "_is_small") rfl)
  have m4 := He.glo_ok X G (c.fact 4 (f := .glo "is_name") rfl)
  have m5 := He.glo_ok X G (c.fact 5 (f := .glo "is_sort") rfl)
  have m6 := He.glo_ok X G (c.fact 6 (f := .glo "_is_field") rfl)
  have m7 := He.glo_ok X G (c.fact 7 (f := .glo "is_form") rfl)
  have m8 := He.glo_ok X G (c.fact 8 (f := .glo "is_of_sort") rfl)
  have m9 := He.glo_ok X G (c.fact 9 (f := .glo "fits") rfl)
  have m10 := He.glo_ok X G (c.fact 10 (f := .glo "_law_pen") rfl)
  have m11 := He.glo_ok X G (c.fact 11 (f := .glo "_law_draw") rfl)
  have m12 := He.glo_ok X G (c.fact 12 (f := .glo "_law_names") rfl)
  have m13 := He.glo_ok X G (c.fact 13 (f := .glo "_law_form") rfl)
  have m14 := He.glo_ok X G (c.fact 14 (f := .glo "_law_word") rfl)
  have m15 := He.glo_ok X G (c.fact 15 (f := .glo "_law_text") rfl)
  have m16 := He.glo_ok X G (c.fact 16 (f := .glo "_law_number") rfl)
  have m17 := He.glo_ok X G (c.fact 17 (f := .glo "_law_value") rfl)
  have m18 := He.glo_ok X G (c.fact 18 (f := .glo "_law_values") rfl)
  have m19 := He.glo_ok X G (c.fact 19 (f := .glo "_law_whole") rfl)
  have m20 := He.glo_ok X G (c.fact 20 (f := .glo "_law_is_word") rfl)
  have m21 := He.glo_ok X G (c.fact 21 (f := .glo "_law_of_sort") rfl)
  have m22 := He.glo_ok X G (c.fact 22 (f := .glo "_law_fits") rfl)
  have m23 := He.glo_ok X G (c.fact 23 (f := .glo "_law_odd") rfl)
  have m24 := He.glo_ok X G (c.fact 24 (f := .glo "_law_edge") rfl)
  have m25 := He.glo_ok X G (c.fact 25 (f := .glo "_law_bent") rfl)
  have e := hfa.symm.trans (He.glo_ok X G (c.fact 26 (f := .glo "law") rfl))
  cases e
  have b := FunD.bindsA (ps := ["script"]) F26 fun _ _ _ _ _ _ us hl => match us, hl with | [_], _ => rfl
  refine ⟨fd26, fun s v => b s [v] rfl, fun base _ _ => ?_⟩
  have b0 := FunD.bindsN (ps := ["sign"]) F0 fun _ _ _ _ _ _ us hl => match us, hl with | [_], _ => rfl
  have c_is_sign : Cl P w K mg base CX0 "is_sign" _ _ _ _ _ := ⟨ok_sign F0 mb_ord e_PERCENT ⟨_, rfl⟩, m0, F0.kp, b0⟩
  have b1 := FunD.bindsN (ps := ["thing"]) F1 fun _ _ _ _ _ _ us hl => match us, hl with | [_], _ => rfl
  have c_is_text : Cl P w K mg base CX0 "is_text" _ _ _ _ _ := ⟨ok_text F1 c_is_sign mb_isinstance mb_str mb_all, m1, F1.kp, b1⟩
  have b2 := FunD.bindsN (ps := ["thing"]) F2 fun _ _ _ _ _ _ us hl => match us, hl with | [_], _ => rfl
  have c_is_whole : Cl P w K mg base CX0 "is_whole" _ _ _ _ _ := ⟨ok_whole F2 mb_isinstance mb_int mb_bool, m2, F2.kp, b2⟩
  have b3 := FunD.bindsN (ps := ["thing", "longest"]) F3 fun _ _ _ _ _ _ us hl => match us, hl with | [_, _], _ => rfl
  have c__is_small : Cl P w K mg base CX0 "_is_small" _ _ _ _ _ := ⟨ok_small F3 mb_isinstance mb_str mb_len mb_all, m3, F3.kp, b3⟩
  have b4 := FunD.bindsN (ps := ["thing"]) F4 fun _ _ _ _ _ _ us hl => match us, hl with | [_], _ => rfl
  have c_is_name : Cl P w K mg base CX0 "is_name" _ _ _ _ _ := ⟨ok_name F4 c__is_small e_LONGEST_NAME ⟨_, rfl⟩, m4, F4.kp, b4⟩
  have b5 := FunD.bindsN (ps := ["thing"]) F5 fun _ _ _ _ _ _ us hl => match us, hl with | [_], _ => rfl
  have c_is_sort : Cl P w K mg base CX0 "is_sort" _ _ _ _ _ := ⟨ok_sort F5 mb_isinstance mb_str g_SORTS q_SORTS, m5, F5.kp, b5⟩
  have b6 := FunD.bindsN (ps := ["thing"]) F6 fun _ _ _ _ _ _ us hl => match us, hl with | [_], _ => rfl
  have c__is_field : Cl P w K mg base CX0 "_is_field" _ _ _ _ _ := ⟨ok_field F6 c_is_name c_is_sort mb_isinstance mb_tuple mb_len, m6, F6.kp, b6⟩
  have b7 := FunD.bindsN (ps := ["thing"]) F7 fun _ _ _ _ _ _ us hl => match us, hl with | [_], _ => rfl
  have c_is_form : Cl P w K mg base CX0 "is_form" _ _ _ _ _ := ⟨ok_form F7 c__is_field mb_isinstance mb_tuple mb_len mb_all e_MOST_FIELDS ⟨_, rfl⟩, m7, F7.kp, b7⟩
  have b8 := FunD.bindsN (ps := ["value", "sort"]) F8 fun _ _ _ _ _ _ us hl => match us, hl with | [_, _], _ => rfl
  have c_is_of_sort : Cl P w K mg base CX0 "is_of_sort" _ _ _ _ _ := ⟨ok_ofsort F8 c__is_small c_is_text c_is_whole mb_len e_LONGEST_WORD ⟨_, rfl⟩ e_LONGEST_TEXT ⟨_, rfl⟩, m8, F8.kp, b8⟩
  have b9 := FunD.bindsN (ps := ["form", "values"]) F9 fun _ _ _ _ _ _ us hl => match us, hl with | [_, _], _ => rfl
  have c_fits : Cl P w K mg base CX0 "fits" _ _ _ _ _ := ⟨ok_fits F9 c_is_form c_is_of_sort mb_isinstance mb_tuple mb_len mb_all mb_zip, m9, F9.kp, b9⟩
  have b10 := FunD.bindsN (ps := ["script"]) F10 fun _ _ _ _ _ _ us hl => match us, hl with | [_], _ => rfl
  have c__law_pen : Cl P w K mg base CX0 "_law_pen" _ _ _ _ _ := ⟨ok_pen (k := 0) F10, m10, F10.kp, b10⟩
  have b11 := FunD.bindsN (ps := ["pen", "many"]) F11 fun _ _ _ _ _ _ us hl => match us, hl with | [_, _], _ => rfl
  have c__law_draw : Cl P w K mg base CX0 "_law_draw" _ _ _ _ _ := ⟨ok_draw (k := 0) F11 mb_len mb_abs mb_range, m11, F11.kp, b11⟩
  have b12 := FunD.bindsN (ps := ["pen", "many"]) F12 fun _ _ _ _ _ _ us hl => match us, hl with | [_, _], _ => rfl
  have c__law_names : Cl P w K mg base CX0 "_law_names" _ _ _ _ _ := ⟨ok_names F12 c__law_draw mb_range, m12, F12.kp, b12⟩
  have b13 := FunD.bindsN (ps := ["pen", "names", "least"]) F13 fun _ _ _ _ _ _ us hl => match us, hl with | [_, _, _], _ => rfl
  have c__law_form : Cl P w K mg base CX0 "_law_form" _ _ _ _ _ := ⟨ok_dform F13 c__law_draw mb_range mb_tuple, m13, F13.kp, b13⟩
  have b14 := FunD.bindsN (ps := ["pen"]) F14 fun _ _ _ _ _ _ us hl => match us, hl with | [_], _ => rfl
  have c__law_word : Cl P w K mg base CX0 "_law_word" _ _ _ _ _ := ⟨ok_wordD F14 c__law_draw mb_range, m14, F14.kp, b14⟩
  have b15 := FunD.bindsN (ps := ["pen"]) F15 fun _ _ _ _ _ _ us hl => match us, hl with | [_], _ => rfl
  have c__law_text : Cl P w K mg base CX0 "_law_text" _ _ _ _ _ := ⟨ok_textD F15 c__law_draw mb_range, m15, F15.kp, b15⟩
  have b16 := FunD.bindsN (ps := ["pen"]) F16 fun _ _ _ _ _ _ us hl => match us, hl with | [_], _ => rfl
  have c__law_number : Cl P w K mg base CX0 "_law_number" _ _ _ _ _ := ⟨ok_numberD F16 c__law_draw, m16, F16.kp, b16⟩
  have b17 := FunD.bindsN (ps := ["pen", "sort"]) F17 fun _ _ _ _ _ _ us hl => match us, hl with | [_, _], _ => rfl
  have c__law_value : Cl P w K mg base CX0 "_law_value" _ _ _ _ _ := ⟨ok_valueD F17 c__law_number c__law_word c__law_text, m17, F17.kp, b17⟩
  have b18 := FunD.bindsN (ps := ["pen", "form"]) F18 fun _ _ _ _ _ _ us hl => match us, hl with | [_, _], _ => rfl
  have c__law_values : Cl P w K mg base CX0 "_law_values" _ _ _ _ _ := ⟨ok_valuesD F18 c__law_value mb_tuple, m18, F18.kp, b18⟩
  have b19 := FunD.bindsN (ps := ["thing"]) F19 fun _ _ _ _ _ _ us hl => match us, hl with | [_], _ => rfl
  have c__law_whole : Cl P w K mg base CX0 "_law_whole" _ _ _ _ _ := ⟨ok_lwhole F19 mb_isinstance mb_int mb_bool, m19, F19.kp, b19⟩
  have b20 := FunD.bindsN (ps := ["thing", "most"]) F20 fun _ _ _ _ _ _ us hl => match us, hl with | [_, _], _ => rfl
  have c__law_is_word : Cl P w K mg base CX0 "_law_is_word" _ _ _ _ _ := ⟨ok_isword F20 mb_isinstance mb_str mb_len, m20, F20.kp, b20⟩
  have b21 := FunD.bindsN (ps := ["sort", "thing"]) F21 fun _ _ _ _ _ _ us hl => match us, hl with | [_, _], _ => rfl
  have c__law_of_sort : Cl P w K mg base CX0 "_law_of_sort" _ _ _ _ _ := ⟨ok_lofsort F21 c__law_whole c__law_is_word mb_isinstance mb_str mb_len mb_ord, m21, F21.kp, b21⟩
  have b22 := FunD.bindsN (ps := ["form", "thing"]) F22 fun _ _ _ _ _ _ us hl => match us, hl with | [_, _], _ => rfl
  have c__law_fits : Cl P w K mg base CX0 "_law_fits" _ _ _ _ _ := ⟨ok_lfits F22 c__law_of_sort mb_isinstance mb_tuple mb_len mb_range, m22, F22.kp, b22⟩
  have b23 := FunD.bindsN (ps := ["pen"]) F23 fun _ _ _ _ _ _ us hl => match us, hl with | [_], _ => rfl
  have c__law_odd : Cl P w K mg base CX0 "_law_odd" _ _ _ _ _ := ⟨ok_odd F23 c__law_draw, m23, F23.kp, b23⟩
  have b24 := FunD.bindsN (ps := ["pen", "form", "values"]) F24 fun _ _ _ _ _ _ us hl => match us, hl with | [_, _, _], _ => rfl
  have c__law_edge : Cl P w K mg base CX0 "_law_edge" _ _ _ _ _ := ⟨ok_edge F24 c__law_draw mb_len, m24, F24.kp, b24⟩
  have b25 := FunD.bindsN (ps := ["pen", "thing"]) F25 fun _ _ _ _ _ _ us hl => match us, hl with | [_, _], _ => rfl
  have c__law_bent : Cl P w K mg base CX0 "_law_bent" _ _ _ _ _ := ⟨bents (ok_bent F25 c__law_draw c__law_odd m25 b25 mb_isinstance mb_int mb_bool mb_str mb_tuple mb_list mb_len), m25, F25.kp, b25⟩
  exact ok_law F26 c__law_pen c__law_odd c__law_names c__law_form c__law_values c__law_bent c__law_edge c_fits c__law_fits mb_isinstance mb_bool mb_range mb_min mb_len mb_list
end St6
open PySem PySem.W PySem.Calls PyProof.Rows
theorem PySem.Challenge.cw_eventledger_k12_values_that_fit_holds : PySem.Challenge.rw_eventledger_k12_values_that_fit.Holds := by
  w_on; o_law
  refine HandSHeadRun.head_any (r := OpenLaw.row PySem.Challenge.rw_eventledger_k12_values_that_fit) (q := view (OpenLaw.row PySem.Challenge.rw_eventledger_k12_values_that_fit).prog [35]) (H := St6.hk) (ob := St6.ob) (M := 2000) (loose := St6.loose) (d := HandSHeadRun.topDef (OpenLaw.row PySem.Challenge.rw_eventledger_k12_values_that_fit).prog 35) (kwd := []) St6.ob_eq
    (by kernel_rfl) (fun s => by kernel_rfl) St6.run (by kernel_rfl) (by kernel_rfl) (by kernel_rfl) (by rfl) (by first | assumption | decide +kernel) (by decide +kernel) ⟨rfl, rfl, rfl, rfl, rfl, by decide +kernel⟩ ?hw ?hc
  case hw => w_witness2
  case hc =>
    refine L2.walk_ofE (l := PySem.Challenge.rw_eventledger_k12_values_that_fit) (n := 63) (k := 10) (x := "script") (CX := L2.CX0) rfl (by decide) (by kernel_rfl) ⟨rfl, by decide, by decide⟩ ?F (fun _ _ _ _ z => z)
    intro w mg fa h Y G hmg0
    obtain ⟨K, KX, c⟩ := Y
    have hmg : mg ("law" : PySem.Str) = some (.ref fa) := by
      have e : (HandSHeadRun.topDef (OpenLaw.row PySem.Challenge.rw_eventledger_k12_values_that_fit).prog 35).name = ("law" : PySem.Str) := by kernel_rfl
      rw [← e]
      exact hmg0
    obtain ⟨fd, hb, hF⟩ := St6.facts (P := (PySem.Challenge.rw_eventledger_k12_values_that_fit).prog) (w := w) KX G hmg c
    exact ⟨K, fd, St6.spLaw K, KX, hb, fun H a ns hl _ hS => ⟨a, ns, rfl, hS, hl, fun _ => rfl⟩, hF⟩
