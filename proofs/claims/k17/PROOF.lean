import PyProof.Rows.All
import Wide.All
import OpenK.AllK
import Wide.FinOn
import HandS.ForMost
import HandS.Strs
import HandS.SetBool
import HandS.SetKeys
import HandS.IsInst
import HandS.TupAny
import HandS.Defaults
import KE.KRevSl
import HandS.Style
import PyProof.FitsInt
import HandS.Walk
import HandS.StrMore
import HandS.FStr
import HandS.Replace
import HandS.ReplaceLit
import KE.GoesNew
import PyProof.Rows.StrRev
import KE.GoesEnumKw
import PyProof.Rows.CallKwBuiltin
import HandS.Zip
import PyProof.DictUpdate
import HandS.Base
import HandS.Call
import HandS.List
import HandS.Dict
import HandS.More
import HandS.DictComp
import HandS.ListItems
import HandS.Conv
import PyProof.TupleOfGen
import PyProof.EqKinds
import HandS.Iter
import KE.GoesMore
import HandS.CallLocal
import HandS.NoneIn
import HandS.Comp
import KE.KEqSeq
import HandS.Codes
import KE.IntBitsLaws
import HandS.Text
import HandS.Steps
import HandS.ExcInit
import HandS.ExcField
import HandS.TryOnly
import HandS.WordsExc
import HandS.Words
import PyProof.AttrMissHeap
import PyProof.TupleIter
import PyProof.WalksMore
import KE.KStateDown
import HandS.Ends
import HandS.Head0
import HandS.Head1
import HandS.Head2
import HandS.HeadEnd
import HandS.HeadHook1
import HandS.HeadHook2
import HandS.HeadHook3
import HandS.HeadHook4
import Lean
import PySem.Challenge.RW_eventledger_k17_whole_steps_behind_steps
set_option Elab.async false
set_option linter.all false
set_option maxRecDepth 100000
set_option autoImplicit false
set_option maxHeartbeats 4000000
/-! sets of texts, some perhaps told several times: how many they have -/
namespace Ys
open PySem PySem.Spec PyProof.Rows L2
/-- how many unlike ones are among the first i -/
def cnt (xs : List Str) : Nat → Nat
  | 0 => 0
  | i + 1 => if (xs.take i).any (· == xs.getD i Str.empty) = true then cnt xs i else cnt xs i + 1
theorem cnt_le (xs : List Str) : ∀ i, cnt xs i ≤ i
  | 0 => Nat.le_refl _
  | i + 1 => by
    have := cnt_le xs i
    unfold cnt
    split <;> omega
theorem any_mem {xs : List Str} {x : Str} : xs.any (· == x) = true ↔ x ∈ xs := by
  rw [List.any_eq_true]
  exact ⟨fun ⟨y, h, e⟩ => by rw [← eq_of_beq e]; exact h, fun h => ⟨x, h, beq_self_eq_true x⟩⟩
theorem take_snoc {xs : List Str} {i : Nat} (h : i < xs.length) : xs.take (i + 1) = xs.take i ++ [xs.getD i Str.empty] := by
  rw [List.take_succ_eq_append_getElem h, List.getD_eq_getElem?_getD, List.getElem?_eq_getElem h]
  rfl
/-- as many as there are just where no one is told twice -/
theorem cnt_nodup (xs : List Str) : ∀ i, i ≤ xs.length → (cnt xs i = i ↔ (xs.take i).Nodup)
  | 0, _ => by simp [cnt]
  | i + 1, h => by
    have ih := cnt_nodup xs i (by omega)
    have le := cnt_le xs i
    rw [take_snoc (by omega)]
    unfold cnt
    by_cases c : (xs.take i).any (· == xs.getD i Str.empty) = true
    · rw [if_pos c]
      have hm := any_mem.mp c
      refine ⟨fun e => by omega, fun n => ?_⟩
      rw [List.nodup_append] at n
      exact absurd rfl (n.2.2 _ hm _ (List.mem_singleton.mpr rfl))
    · rw [if_neg c]
      have hm : xs.getD i Str.empty ∉ xs.take i := fun z => c (any_mem.mpr z)
      rw [List.nodup_append]
      refine ⟨fun e => ⟨ih.mp (by omega), List.nodup_cons.mpr ⟨by simp, List.nodup_nil⟩, fun a ha b hb e2 => ?_⟩, fun n => by rw [ih.mpr n.1]⟩
      rw [List.mem_singleton.mp hb] at e2
      exact hm (e2 ▸ ha)
theorem cnt_all {xs : List Str} : cnt xs xs.length = xs.length ↔ xs.Nodup := by
  have := cnt_nodup xs xs.length (Nat.le_refl _)
  rwa [List.take_length] at this
section
variable {prog : Program} {w : World} {A : Around} {R : Result → Shared → Prop} {I : Addr} {fp wr : List Addr} {G : Array GenState → Array GenState → Prop} {n : Nat} {P : Nat → Value → Prop} {St : Nat → Shared → Prop}
/-- a set of the texts that were met -/
abbrev Met (prog : Program) (w : World) (h : Heap) (S : Addr) (xs : List Str) (i : Nat) : Prop := h.SetOf (PySem.strKind prog w) S (fun k => (xs.take i).any (· == k)) (cnt xs i)
theorem Met.step {h h' : Heap} {S : Addr} {xs : List Str} {i : Nat} (hi : i < xs.length) (m : h'.SetOf (PySem.strKind prog w) S (fun j => (xs.take i).any (· == j) || decide (j = xs.getD i Str.empty)) (if (xs.take i).any (· == xs.getD i Str.empty) = true then cnt xs i else cnt xs i + 1)) : Met prog w h' S xs (i + 1) := by
  refine SetOf_congr m (fun k => ?_) rfl
  rw [take_snoc hi, List.any_append]
  by_cases e : k = xs.getD i Str.empty
  · rw [← e]
    simp
  · have e2 : (xs.getD i Str.empty == k) = false := by
      rw [beq_eq_false_iff_ne]
      exact fun z => e z.symm
    simp only [List.any_cons, List.any_nil, e2, Bool.or_false, decide_eq_false e]
theorem loopD (W : WalksS prog w A.in1 I fp wr G n P St) (S : Addr) (nS : S ∉ fp) (xs : List Str) (len : xs.length = n) (few : n < 4000)
    (val : ∀ i v, P i v → ∃ t, v = .str (xs.getD i Str.empty) t) (left : Nat) :
    ∀ (i : Nat) (s : Shared), n - i = left → i ≤ n → St i s → Met prog w s.heap S xs i →
      (∀ s', Moved (S :: wr) G s s' → Met prog w s'.heap S xs n → R (.ok (.ret .none)) s') →
      codeAny (model prog w) A (.builtin "set.update.loop" ⟨[.ref S, .ref I], []⟩) R s := by
  have nW : S ∉ wr := fun z => nS (W.sub _ z)
  have more : ∀ b ∈ wr, b ∈ S :: wr := fun b z => List.mem_cons_of_mem _ z
  have stays : ∀ {s s' : Shared} {i : Nat}, Moved wr G s s' → Met prog w s.heap S xs i → Met prog w s'.heap S xs i := fun m ⟨o, es, ep, t, ho, r⟩ => ⟨o, es, ep, t, m.heap S _ nW ho, r⟩
  induction left with
  | zero =>
    intro i s e hi st hS k
    obtain rfl : i = n := by omega
    refine codeAny_builtin PyProof.Rows.F.entry_set_update_loop ?_
    rw [Around.under_plainId PyProof.Rows.F.plain_set_update_loop _]
    show wpAny _ A.in1 (pyNext (.ref I) >>= _) _ _ s
    exact wpAny_bind (W.done s _ _ st fun s' m => (show wpAny _ A.in1 (ret Value.none) _ _ s' from wpAny_pure (k s' (m.mono more) (stays m hS))))
  | succ left ih =>
    intro i s e hi st hS k
    have lt : i < n := by omega
    refine codeAny_builtin PyProof.Rows.F.entry_set_update_loop ?_
    rw [Around.under_plainId PyProof.Rows.F.plain_set_update_loop _]
    show wpAny _ A.in1 (pyNext (.ref I) >>= _) _ _ s
    refine wpAny_bind (W.item i s _ _ lt st fun v s' hv st' m => ?_)
    obtain ⟨t, rfl⟩ := val i v hv
    have hS' := stays m hS
    show wpAny _ A.in1 (holding [Value.str (xs.getD i Str.empty) t] (setAdd S (.str (xs.getD i Str.empty) t)) >>= _) _ _ s'
    refine wpAny_bind (wpAny_holding ?_)
    unfold setAdd
    refine wpAny_holding (wpAny_bind ((PySem.strKind prog w).pyHash (k := xs.getD i Str.empty) (strKind_is _ _ _ _) ?_))
    have room : cnt xs i + 1 < scanBound := by
      have := cnt_le xs i
      unfold scanBound
      omega
    refine wpAny_setAddHashed_of (knd := PySem.strKind prog w) (s := { s' with toks := s'.toks + 1 }) (strKind_is _ _ _ _) rfl hS' room fun h' sb new => ?_
    have ahead : ∀ b, b ∈ fp → ∀ o, s'.heap.get? b = some o → h'.get? b = some o := fun b hb o q => by
      rw [sb.2 b (fun z : b = S => nS (z ▸ hb))]
      exact q
    refine wpAny_pure ⟨plainId_quiet PyProof.Rows.F.plain_set_update_loop _, ih (i + 1) _ (by omega) lt (W.frame _ s' _ _ st' (Nat.le_succ _) fun b hb o q => ahead b hb o q) (Met.step (h := s'.heap) (by omega) new) fun s2 m2 hS2 => ?_⟩
    refine k s2 (Moved.trans W.gtrans ((m.mono more).then_heap (Nat.le_succ _) fun b o hb q => ?_) m2) hS2
    rw [sb.2 b (fun z : b = S => hb (by rw [z]; exact List.mem_cons_self))]
    exact q
end
section
variable {prog : Program} {w : World} {A : Around} {E : Value → Shared → Prop} {s : Shared}
/-- set(xs), xs a list of texts -/
theorem set_of_texts {l : Addr} {items : Array Value} {xs : List Str} {Q : Value → Shared → Prop} (calm : A.handled = none) (hl : s.heap.IsList l items) (hi : StrsAre items.toList xs) (few : xs.length < 4000)
    (h : ∀ (h' : Heap) (tk : Nat), Met prog w h' s.heap.objs.size xs xs.length → (∀ b o, b < s.heap.objs.size → s.heap.get? b = some o → h'.get? b = some o) → Q (.ref s.heap.objs.size) { s with heap := h', toks := tk }) :
    wpAny (model prog w) A (call (.type "set") [.ref l]) Q E s := by
  have made := PySem.F.called_set.made
  have sub := PySem.F.called_set.sub
  obtain ⟨c, tl, mro⟩ := PySem.F.called_set.mro
  have k1 := PySem.F.called_set.notType
  have k2 := PySem.F.called_set.canCreate
  have k3 := PySem.F.typeCall_set_1 (.ref l)
  refine wpAny_call (codeAny_of_tree ?_)
  show wpAny _ _ (callAny (.type "set") _) _ _ _
  refine wpAny_pure ⟨Code.quiet_builtin _ (by decide +kernel), codeAny_builtin PySem.F.entry_type_call ?_⟩
  rw [Around.under_plain (weight_type_call_type "set" [.ref l] []) rfl]
  repeat (any_goals (first | assumption | wp_step))
  generalize hN : s.heap.objs.size = N at h ⊢
  refine codeAny_mono (code_set_new_1 (.ref l) (E := E) (Q₁ := fun x s1 => ∃ led : Bool, x = .ref N ∧ s1 = { s with heap := s.heap.push { cls := .type "set", dict := none, data := .set #[] 0 (.fresh 0 0 led) } }) fun led => ⟨led, by rw [hN], rfl⟩) fun r s1 hr => ?_
  cases r with
  | error e => exact hr
  | ok fl =>
    cases fl with
    | ret x =>
      obtain ⟨led, rfl, rfl⟩ := hr
      generalize hO : ({ cls := .type "set", dict := none, data := .set #[] 0 (.fresh 0 0 led) } : Obj) = O
      have at0 : (s.heap.push O).get? N = some O := by
        rw [← hN]
        exact Heap.get?_push_size _ (by rw [← hO]; rfl)
      have ty0 : Shared.TypeIs { s with heap := s.heap.push O } (.ref N) "set" := ⟨_, at0, by rw [← hO]⟩
      have i1 := PySem.F.called_set.init.lookup
      have i2 := PySem.F.called_set.init.bind (.ref N)
      repeat (any_goals (first | assumption | wp_step))
      refine codeAny_mono (codeAny_call_builtin (R := wants (fun r s2 => r = .none ∧ ∃ h' tk, s2 = { s with heap := h', toks := tk } ∧ Met prog w h' N xs xs.length ∧ (∀ b o, b < N → s.heap.get? b = some o → h'.get? b = some o)) E)
        PySem.F.called_set.init.plain PySem.F.entry_set_init (check_set_init_1 ty0 ?_)) fun r2 s2 hr2 => ?_
      · obtain ⟨⟨ocls, odict, odata, oslots⟩, hol, hcl, nl, hdl⟩ := id hl
        simp only at hcl hdl
        subst hcl hdl
        have lN : l < N := by
          rw [← hN]
          exact Heap.lt_size hol
        have hl1 : (s.heap.push O).IsList l items := hl.push _
        have hol1 : (s.heap.push O).get? l = some { cls := .type "list", dict := odict, data := .seq items nl, slots := oslots } := Heap.get?_push_of_some _ hol
        have q1 := PySem.F.sub_list_set
        have q2 := PySem.F.sub_list_frozenset
        have q3 : (Value.type "list" == Value.type "dict") = false := by decide
        have hIt : (s.heap.push O).objs.size = N + 1 := by rw [Heap.size_push, hN]
        have len : xs.length = items.size := by rw [← StrsAre.len_eq hi, Array.length_toList]
        have nf : N ∉ [(s.heap.push O).objs.size, l] := by
          rw [hIt]
          simp only [List.mem_cons, List.not_mem_nil, or_false, not_or]
          exact ⟨Nat.ne_of_lt (Nat.lt_succ_self _), Nat.ne_of_gt lN⟩
        have hne : l ≠ (s.heap.push O).objs.size := by
          rw [hIt]
          exact Nat.ne_of_lt (Nat.lt_succ_of_lt lN)
        have g := Heap.get?_push_of_some { cls := .type "list_iterator", data := .fields #[.ref l, .int 0 0] } at0
        have start : ∀ it : Obj, it = { cls := .type "list_iterator", data := .fields #[.ref l, .int 0 0] } → Met prog w ((s.heap.push O).push it) N xs 0 := fun it e => by
          subst e
          refine SetOf_congr (n := 0) ((setObjOf_fresh (knd := PySem.strKind prog w) led).setOf ?_ (by unfold scanBound; omega)) (fun _ => rfl) rfl
          rw [← hO] at g ⊢
          exact g
        subst hO
        unfold Builtin.«set.__init__» noKeywords Builtin.Frozenset.updateFrom
        generalize hW : pyIter = W
        wp_walk
        subst hW
        refine wpAny_pyIter_list hl1 ?_
        refine wpAny_bind (wpAny_runValue ?_)
        refine loopD ((Walks.list (by simp [calm]) _ l hne items).toS) N nf xs len (by omega) (fun i v hv => SS.strs_at hi i v (by rw [Array.getElem?_toList]; exact hv)) (items.size - 0) 0 _ (by omega) (Nat.zero_le _) ⟨⟨_, Heap.get?_push_size _ rfl, rfl, rfl⟩, hl1.push _⟩ ?_ ?_
        · exact start _ rfl
        · rintro ⟨h', g', d', tk', os'⟩ m m2
          obtain rfl : g' = s.gens := m.gens
          obtain rfl : d' = s.drawn := m.drawn
          obtain rfl : os' = s.os := m.os
          show wpAny _ _ _ _ _ _
          refine wpAny_pure ?_
          show wpAny _ _ (ret Value.none) _ _ _
          refine wpAny_pure ⟨rfl, h', tk', rfl, by rw [len]; exact m2, fun b o hb e => m.heap b o ?_ (Heap.get?_push_of_some _ (Heap.get?_push_of_some _ e))⟩
          rw [hIt]
          simp only [List.mem_cons, List.not_mem_nil, or_false, not_or]
          exact ⟨Nat.ne_of_lt hb, Nat.ne_of_lt (Nat.lt_succ_of_lt hb)⟩
      · cases r2 with
        | error e => exact hr2
        | ok fl2 =>
          cases fl2 with
          | ret y =>
            obtain ⟨rfl, h', tk, rfl, m, kk⟩ := hr2
            repeat (any_goals (first | assumption | wp_step))
            exact h _ _ m kk
          | _ => exact hr2.elim
    | _ => exact hr.elim
end
/-- len(set(xs)), xs a list of texts -/
def tLenSetD (K : PySem.W.Frag) (ta : TE) : TE := fun σ H Q => ta σ H fun x H1 => ∃ (l : Addr) (xs : List Str), x = .ref l ∧ SqL K H1 l (xs.map V.str) ∧ xs.length < 4000 ∧ Q (.int (cnt xs xs.length : Nat)) H1
theorem pe_lenSetD {X : Cx} {a : Expr} {ta : TE} {p p2 q pos : Pos} (hg : Gl X "len") (hm : X.mg "len" = none) (hg2 : Gl X "set") (hm2 : X.mg "set" = none) (ha : PE X a ta) (hc : X.calm = true := by rfl)
    (na : starEach [a] X.env = (false, eval a X.env) :: starEach [] X.env := by rfl) : PE X (.Call (.Name "len" p) [.Call (.Name "set" p2) [a] [] q] [] pos) (tLenSetD X.K ta) := by
  refine ⟨fun pins s σ H Q I h => ?_⟩
  refine Call_ (ld_blt I hg hm boot_len (PyProof.Rows.callWith_builtin1 (PyProof.Rows.args_cons ?_ rfl) rfl rfl))
  refine Call_ (ld_blt I hg2 hm2 boot_set (PyProof.Rows.callWith_type1 (PyProof.Rows.args_cons (thn (ha.run pins s σ H _ I h) fun v s1 ⟨x, H1, I1, r1, l, xs, e, hq, few, q1⟩ => PyProof.Rows.args_nil ?_) na) na rfl))
  subst e
  cases r1
  obtain ⟨its, r, pl, hz⟩ := I1.list hq
  refine set_of_texts (I1.ok.hd hc) pl.isList (by simpa using strsAre_of r) few fun h' tk ⟨o, es, ep, t, ho, hex, hd, _, _, _, hf, hn⟩ hk => PyProof.Rows.args_nil ?_
  have I2 : Inv X pins σ H1 { s1 with heap := h', toks := tk } := I1.kept fun b o e => hk b o (Heap.lt_size e) e
  have le := cnt_le xs xs.length
  exact call_len_set ho hex hd hf (by rw [hn] <;> omega) ⟨.int (cnt xs xs.length : Nat), H1, I2.tok _, ⟨_, by rw [hn]⟩, q1⟩
end Ys

set_option autoImplicit false
set_option maxHeartbeats 4000000
/-! a set of keys by a comprehension, and how many it has -/
namespace Ys
open PySem PySem.Spec PyProof.Rows L2 PpSet
/-- len(found), found a set of keys -/
theorem call_lenK {X : Cx} : CallR X (.builtin "len") (fun xs H Q => ∃ (a : Addr) (S : Key → Bool) (n : Nat), xs = [.ref a] ∧ H a = some (SetK X.prog X.w a S n) ∧ Q (.int (n : Nat)) H) := by
  intro pins s σ H xs us Q I r h
  obtain ⟨a, S, n, rfl, ha, q⟩ := h
  rw [Vals.ref1 r]
  obtain ⟨o, es, ep, t, ho, hex, hd, _, _, hb, hf, hn⟩ := setK_get I ha
  exact call_len_set ho hex hd hf (by rw [hn] at hb ⊢; unfold scanBound at hb; omega) ⟨.int (n : Nat), H, I.tok _, ⟨_, by rw [hn]⟩, q⟩
section
variable {X : Cx}
/-- one more key into the set at D -/
abbrev AddK (P : Program) (w : World) (D : Addr) (y : V) (H : Hp) (Nx : Hp → Prop) : Prop :=
  ∃ (k : Key) (S : Key → Bool) (n : Nat), y = kV k ∧ H D = some (SetK P w D S n) ∧ n + 1 < scanBound ∧ Nx (upd H D (SetK P w D (fun j => S j || decide (j = k)) (if S k = true then n else n + 1)))
/-- {elt for target in iter if ..} of keys, D the new set -/
def tScK (P : Program) (w : World) (wi : TI) (g : TG) (tt : TT) (te : TE) (vs : List Nat) : TE := fun σ H Q => wi σ H fun J H1 => ∀ D, H1 D = none → ∃ W : Nat → Nat → Hp → Prop, (∃ m, W 0 m (upd H1 D (SetK P w D (fun _ => false) 0))) ∧
  ∀ i m H, W i m H → (J.stop i H ∧ Q (.ref D) H) ∨ (J.go i H ∧ ∃ Nx : Hp → Prop, (∀ H', Nx H' → ∃ m', m' < m ∧ W (i + 1) m' H') ∧
    ∀ x H', J.yld i H x H' → g x (wipe σ vs) H' fun σ2 H2 => wipe σ2 vs = wipe σ vs ∧ tt σ2 H2 fun b H3 => if b = true then te σ2 H3 fun y H4 => AddK P w D y H4 Nx else Nx H3)
abbrev fresh (w : World) : Obj := { cls := .type "set", dict := none, data := .set #[] 0 (.fresh 0 0 (!w.params.followText "set-order")) }
theorem fresh_keys {P : Program} (w : World) (h : Heap) : (h.push (fresh w)).SetOf (mixKind P w) h.objs.size (fun _ => false) 0 :=
  ⟨fresh w, #[], 0, _, Heap.get?_push_size _ rfl, ⟨rfl, rfl, rfl⟩, rfl, (fun e he => by simp at he), (fun k => by simp), by decide, by rfl, rfl⟩
theorem pe_scK {elt tg iter : Expr} {ifs : List Expr} {scope : Scope} {own : List (PySem.Str × Nat)} {pos : Pos} {wi : TI} {g : TG} {tt : TT} {te : TE} (hc : X.calm = true) (hN : X.N.Nodup) (hi : PI X tg iter wi) (ok : BlkOk X.N X.env.scope scope own)
    (hg : ∀ (s : Shared) (H : Hp) (C : Addr) (cl : List (PySem.Str × Addr)) (fp : List Addr), PG (X.blk s H scope (compEnvC scope cl C X.env) fp) tg g)
    (ht : ∀ (s : Shared) (H : Hp) (C : Addr) (cl : List (PySem.Str × Addr)) (fp : List Addr), PTs (X.blk s H scope (compEnvC scope cl C X.env) fp) ifs tt)
    (he : ∀ (s : Shared) (H : Hp) (C : Addr) (cl : List (PySem.Str × Addr)) (fp : List Addr), PE (X.blk s H scope (compEnvC scope cl C X.env) fp) elt te)
    (hs : ∀ x, foldedSetIterable iter X.env x = pure x := by intro _; rfl) : PE X (.SetComp elt [⟨tg, iter, ifs, 0⟩] scope pos) (tScK X.prog X.w wi g tt te (own.map (·.2))) := by
  refine ⟨fun pins s σ H Q I h => ?_⟩
  rw [eval_SetComp]
  have cells : ∀ y ∈ scope.names, y.2 = .free → ∃ c, X.env.cells.lookup y.1 = some c := fun y hy e => (ok.free y hy e).elim (fun k => I.ok.has _ (.inl k)) (fun k => I.ok.has _ (.inr k))
  refine wpAny_comprehension_free rfl hs (closure_ok cells) ok.kind (fun y hy e => by rw [ok.uniq y hy, e]) (thn (hi.run pins s σ H _ I h) fun xv s1 hx => thn hx fun itv s2 ⟨it, fp, tn, J, H2, e, I2, T, st2, f2, q⟩ => ?_)
  subst e
  refine newSet_ok (newEnv_comp ?_)
  generalize hD : s2.heap.objs.size = D
  have free : H2 D = none := I2.hok.fresh (Nat.le_of_eq hD)
  obtain ⟨W, ⟨m0, w0⟩, turn⟩ := q D free
  generalize h3 : ({ s2 with heap := s2.heap.push (fresh X.w) } : Shared) = s3
  have heap3 : s3.heap = s2.heap.push (fresh X.w) := by rw [← h3]
  have I3 : Inv X pins σ (upd H2 D (SetK X.prog X.w D (fun _ => false) 0)) s3 := by
    rw [← h3]
    refine I2.laid (t' := s2.toks) (fun b o e => Heap.get?_push_of_some _ e) (Nat.le_of_eq hD) ?_
    rw [← hD]
    exact setK_new (fresh_keys X.w s2.heap)
  have f3 : ∀ b ∈ fp, FpOk X pins (upd H2 D (SetK X.prog X.w D (fun _ => false) 0)) b ∧ b < s3.heap.objs.size := fun b hb => by
    obtain ⟨o, e, _⟩ := T.obj _ _ st2 b hb
    have lt := Heap.lt_size e
    refine ⟨⟨?_, (f2 b hb).2⟩, by rw [heap3, Heap.size_push]; exact Nat.lt_succ_of_lt lt⟩
    rw [upd_ne (by rw [← hD]; exact Nat.ne_of_lt lt)]
    exact (f2 b hb).1
  have st3 : tn 0 s3.heap := T.keep _ _ _ st2 fun b _ o e => by rw [heap3]; exact Heap.get?_push_of_some _ e
  have I4 := block_start I3 ok hN f3
  generalize hC : s3.heap.objs.size = C at I4 f3 ⊢
  generalize hcl : cellsFrom (C + 1) scope.names (cloFrom X.env.cells scope.names []) = cl at I4 ⊢
  generalize hH : upd H2 D (SetK X.prog X.w D (fun _ => false) 0) = H3 at I3 I4 w0 f3
  have pg := hg s3 H3 C cl fp
  have pt := ht s3 H3 C cl fp
  have pe := he s3 H3 C cl fp
  have none3 : ∀ b ∈ fp, H3 b = none := fun b hb => (f3 b hb).1.1
  show codeAny _ _ (.compStart (.SetComp elt [⟨tg, iter, ifs, 0⟩] scope pos) 0 (.ref it) (.ref D) (compEnvC scope cl C X.env)) (compPost (model X.prog X.w) X.A X.xe none (fun v s' => EP X pins σ Q v s') (.ref D) C) { s3 with heap := pushCells (s3.heap.push { cls := .type "dict", data := .dict #[] }) scope.names }
  generalize hce : compEnvC scope cl C X.env = ce at I4 pg pt pe ⊢
  have cC : ce.locals = C := by rw [← hce]; rfl
  generalize hs4 : ({ s3 with heap := pushCells (s3.heap.push { cls := .type "dict", data := .dict #[] }) scope.names } : Shared) = s4 at I4 ⊢
  have st4 : tn 0 s4.heap := T.keep _ _ _ st3 fun b _ o e => by rw [← hs4]; exact pushCells_keeps _ _ _ _ (Heap.get?_push_of_some _ e)
  generalize hY : X.blk s3 H3 scope ce fp = Y at I4 pg pt pe
  have eY : Y.prog = X.prog ∧ Y.w = X.w ∧ Y.A = X.A := by rw [← hY]; exact ⟨rfl, rfl, rfl⟩
  have stat : ∀ {σ' : L2.St} {H' : Hp} {s' : Shared}, Inv Y [] σ' H' s' → (∀ b ∈ fp, H' b = none) → ∀ b ∈ fp, FpOk Y [] H' b := by
    subst hY
    exact fun {σ' H' s'} J' hn b hb => ⟨hn b hb, (J'.ok.exf b hb).1, J'.ok.exfs b hb, .inl hb, fun x c e => (J'.ok.exf b hb).2 x c e, fun p hp => absurd (show p ∈ ([] : List (Addr × Obj)) ++ [] from hp) (by simp)⟩
  subst hY
  have loop : codeAny (model X.prog X.w) X.A (.compLoop (.SetComp elt [⟨tg, iter, ifs, 0⟩] scope pos) 0 (.ref it) (.ref D) ce) (compPost (model X.prog X.w) X.A X.xe none (fun v s' => EP X pins σ Q v s') (.ref D) C) s4 := by
    refine compLoopS_any (fun n s' => ∃ i H', Inv (X.blk s3 H3 scope ce fp) [] (wipe σ (own.map (·.2))) H' s' ∧ tn i s'.heap ∧ (∀ b ∈ fp, H' b = none) ∧ W i n H') ?_ m0 ⟨0, H3, I4, st4, none3, w0⟩
    rintro n s5 ⟨i, H5, I5, st5, n5, w5⟩
    rcases turn i n H5 w5 with ⟨stop, out⟩ | ⟨go, Nx, down, step⟩
    · refine thnF (T.done (X.blk s3 H3 scope ce fp) rfl rfl rfl hc i [] s5 _ H5 (fun _ _ => False) I5 (stat I5 n5) st5 stop) fun r s6 ⟨hr, I6⟩ => ?_
      subst hr
      have I7 : Inv X pins σ H5 s6 := I3.call' (ch := fp) I6.os I6.base I6.hok I6.bare fun b hb => ⟨(f3 b hb).1.2.2.2.1, (f3 b hb).1.2.1, (f3 b hb).1.2.2.2.2.1, (f3 b hb).1.2.2.2.2.2⟩
      have noneC : H5 C = none := by
        rw [← cC]
        exact I6.free
      obtain ⟨m, hn, _⟩ := I6.loc
      have hn : s6.heap.Ns C m := by
        rw [← cC]
        exact hn
      obtain ⟨f0, f1, f2, f3, f4, f5⟩ := I3.fpOk (Nat.le_of_eq hC) noneC
      exact ⟨m, hn, fun h'' sb => ⟨.ref D, H5, I7.turned (t' := s6.toks) (fun b o hb e => (sb.2 b hb).trans e) f0 f1 f3 f4 f5, rfl, out⟩⟩
    · refine thnF (T.item (X.blk s3 H3 scope ce fp) rfl rfl rfl hc i [] s5 _ H5 (fun _ _ => False) I5 (stat I5 n5) st5 go) fun r s6 ⟨u, hr, h6⟩ => ?_
      subst hr
      refine thnF h6 fun _ s7 ⟨x, H7, I7, r7, y7, st7, n7⟩ => ?_
      refine thnF (pg.run _ s7 _ H7 x u _ (I7.pinned (stat I7 n7) (T.obj _ _ st7)) r7 (step x H7 y7)) fun _ s8 ⟨σ8, H8, I8, w8, q8⟩ => ?_
      refine thnF (pt.run _ s8 σ8 H8 _ I8 q8) fun b s9 ⟨H9, I9, q9⟩ => ?_
      have next : ∀ {s' : Shared} {H' : Hp}, Inv (X.blk s3 H3 scope ce fp) ([] ++ pinsAt fp s7.heap) σ8 H' s' → Nx H' → ∃ m, m < n ∧ ∃ i H', Inv (X.blk s3 H3 scope ce fp) [] (wipe σ (own.map (·.2))) H' s' ∧ tn i s'.heap ∧ (∀ b ∈ fp, H' b = none) ∧ W i m H' := fun {s' H'} J' nx => by
        obtain ⟨m', hm, w'⟩ := down H' nx
        have pin : ∀ b ∈ fp, ∀ o, s7.heap.get? b = some o → s'.heap.get? b = some o ∧ H' b = none := fun b hb o e =>
          have z := J'.pin (b, o) (List.mem_append_right _ (List.mem_append_right _ (mem_pinsAt hb e)))
          ⟨z.1, z.2.1⟩
        refine ⟨m', hm, i + 1, H', (J'.unpinned (pins := [])).weak (by rw [← w8, wipe_length]) (fun j v e => ?_), T.keep _ _ _ st7 fun b hb o e => (pin b hb o e).1, fun b hb => ?_, w'⟩
        · rw [← w8] at e
          exact (wipe_some e).1
        · obtain ⟨o, e, _⟩ := T.obj _ _ st7 b hb
          exact (pin b hb o e).2
      cases b with
      | false =>
        simp only [Bool.false_eq_true, if_false] at q9 ⊢
        exact next I9 q9
      | true =>
        simp only [if_true] at q9 ⊢
        refine thnF (pe.run _ s9 σ8 H9 _ I9 q9) fun z s10 ⟨yv, H10, I10, r10, k, S0, n0, ey, at10, room, nx⟩ => ?_
        subst ey
        exact mt_saddK (X := X.blk s3 H3 scope ce fp) _ s10 σ8 H10 (.ref D) [kV k] (.ref D) [z] (fun _ H' => Nx H') I10 rfl (.cons r10 .nil) ⟨D, k, S0, n0, rfl, rfl, at10, room, nx⟩ |> fun m => thnF m fun _ s11 ⟨_, H11, I11, _, nx⟩ => next I11 nx
  exact codeAny_compStart_set loop (T.self X.A 0 _ _ _ st4 loop)
end
end Ys

set_option autoImplicit false
set_option maxHeartbeats 2000000
/-! what a caller has of a def; slices and sums of several kinds of things -/
namespace Cc
open PySem PySem.Spec PyProof.Rows L2
structure Cl (P : Program) (w : World) (K : PySem.W.Frag) (mg : Str → Option Value) (base : Heap) (CX : CXT) (x : Str) (k : Nat) (ps : List Str) (sp : Sp) (f : Addr) (fd : FuncData) : Prop where
  ok : FnOk P w K mg base CX k f fd ps sp
  m : mg x = some (.ref f)
  kp : PySem.W.keepIn K (.ref f) = true
  b : Binds K fd ps []
/-- a tuple (t) or a list of xs -/
def Sq (t : Bool) (K : PySem.W.Frag) (H : Hp) (a : Addr) (xs : List V) : Prop := if t = true then SqT K H a xs else SqL K H a xs
theorem Sq.same {t : Bool} {K : PySem.W.Frag} {H H1 : Hp} {a : Addr} {xs : List V} (h : Sq t K H a xs) (s : Same H H1) : Sq t K H1 a xs := by
  cases t with
  | false => exact s.seq h
  | true =>
    rcases (show SqT K H a xs from h) with (h | ⟨o, h⟩) | h
    · exact (show SqT K H1 a xs from .inl (.inl (s _ _ h)))
    · exact (show SqT K H1 a xs from .inl (.inr ⟨o, s _ _ h⟩))
    · exact (show SqT K H1 a xs from .inr h)
/-- .., a list that stands by itself -/
def SqM (t : Bool) (K : PySem.W.Frag) (H : Hp) (a : Addr) (xs : List V) : Prop := if t = true then SqT K H a xs else H a = some (.lst xs)
theorem SqM.sq {t : Bool} {K : PySem.W.Frag} {H : Hp} {a : Addr} {xs : List V} (h : SqM t K H a xs) : Sq t K H a xs := by
  cases t with
  | false => exact (show SqL K H a xs from SqL.of h)
  | true => exact h
theorem SqM.same {t : Bool} {K : PySem.W.Frag} {H H1 : Hp} {a : Addr} {xs : List V} (h : SqM t K H a xs) (s : Same H H1) : SqM t K H1 a xs := by
  cases t with
  | false => exact s _ _ h
  | true => exact Sq.same (t := true) h s
theorem newS {H : Hp} {p : Addr} {o : HO} (h : H p = none) : Same H (upd H p o) := fun b x e => by
  rw [upd_ne (ne_of_none e h)]
  exact e
section
variable {X : Cx}
/-- a list or a tuple cut -/
def rSlB (K : PySem.W.Frag) : V → Option Int → Option Int → Hp → VK → Prop := fun x lo hi H Q => ∃ t a xs, x = .ref a ∧ Sq t K H a xs ∧ ∀ p H', Same H H' → SqM t K H' p (cutV xs lo hi) → Q (.ref p) H'
theorem whole_cut {xs : List V} {lo hi : Option Int} (h : HT.sIx xs.length 0 lo = 0 ∧ HT.sIx xs.length xs.length hi = xs.length) : cutV xs lo hi = xs := by
  unfold cutV
  rw [h.1, h.2, List.drop_zero, Nat.sub_zero, List.take_length]
theorem sl_B : SlR X (rSlB X.K) := by
  intro pins s σ H x v vl vu lo hi sl Q I rx hs pl pu h
  obtain ⟨t, a, xs, rfl, hx, q⟩ := h
  cases t with
  | false => exact sl_list pins s σ H _ v vl vu lo hi sl Q I rx hs pl pu ⟨a, xs, rfl, hx, fun p np => q p _ (newS np) (show _ = _ from upd_same)⟩
  | true => exact sl_tupA pins s σ H _ v vl vu lo hi sl Q I rx hs pl pu ⟨a, xs, rfl, hx, fun w => q a H (Same.refl H) (show SqT _ _ _ _ from by rw [whole_cut w]; exact hx), fun _ p np => q p _ (newS np) (show SqT _ _ _ _ from SqT.of upd_same)⟩
/-- a text, a list, a tuple cut -/
def rSlAny (K : PySem.W.Frag) : V → Option Int → Option Int → Hp → VK → Prop := fun x lo hi H Q => rSlS x lo hi H Q ∨ rSlB K x lo hi H Q
theorem sl_any : SlR X (rSlAny X.K) := sl_str.or sl_B
/-- two lists, or two tuples, put together -/
def rCatB (K : PySem.W.Frag) : R2 := fun x y H Q => ∃ t a b xs ys, x = .ref a ∧ y = .ref b ∧ SqM t K H a xs ∧ SqM t K H b ys ∧ xs.length + ys.length ≤ sizeLine ∧ ∀ p H', Same H H' → SqM t K H' p (xs ++ ys) → Q (.ref p) H'
theorem op_catB : OpR X (binaryOp .Add) (rCatB X.K) := by
  intro pins s σ H x y v u Q I rx ry h
  obtain ⟨t, a, b, xs, ys, rfl, rfl, ha, hb, hz, q⟩ := h
  cases t with
  | false => exact op_cat pins s σ H _ _ v u Q I rx ry ⟨a, b, xs, ys, rfl, rfl, ha, hb, hz, fun p np => q p _ (newS np) (show _ = _ from upd_same)⟩
  | true => exact op_catA pins s σ H _ _ v u Q I rx ry ⟨a, b, xs, ys, rfl, rfl, ha, hb, hz, fun e => q b H (Same.refl H) (show SqT _ _ _ _ from by rw [e]; exact hb),
      fun _ e => q a H (Same.refl H) (show SqT _ _ _ _ from by rw [e, List.append_nil]; exact ha), fun _ _ p np => q p _ (newS np) (show SqT _ _ _ _ from SqT.of upd_same)⟩
/-- two texts, or two lists, or two tuples -/
theorem op_addAny : OpR X (binaryOp .Add) (fun x y H Q => (∃ i j : Str, x = .str i ∧ y = .str j ∧ i.length + j.length ≤ sizeLine ∧ Q (.str (i ++ j)) H) ∨ rCatB X.K x y H Q) := by
  intro pins s σ H x y v u Q I rx ry h
  rcases h with h | h
  · exact op_add_str pins s σ H x y v u Q I rx ry h
  · exact op_catB pins s σ H x y v u Q I rx ry h
/-- an item of a list or a tuple -/
def rIxB (K : PySem.W.Frag) : R2 := fun x y H Q => ∃ t a xs i v, x = .ref a ∧ y = .int i ∧ Sq t K H a xs ∧ atI xs i = some v ∧ Q v H
theorem ix_B : IxR X (rIxB X.K) := by
  intro value slice pins s σ H x y v u Q I rx ry h hs
  obtain ⟨t, a, xs, i, z, rfl, rfl, ha, hz, q⟩ := h
  cases t with
  | false => exact ix_list value slice pins s σ H _ _ v u Q I rx ry ⟨a, xs, i, z, rfl, rfl, ha, hz, q⟩ hs
  | true => exact ix_tup value slice pins s σ H _ _ v u Q I rx ry ⟨a, xs, i, z, rfl, rfl, ha, hz, q⟩ hs
/-! the same within a comprehension, where K is to be told -/
section
variable {K : PySem.W.Frag}
theorem ix_Bk (h : X.K = K) : IxR X (rIxB K) := by
  rw [← h]
  exact ix_B
theorem ix_listk (h : X.K = K) : IxR X (rIxL K) := by
  rw [← h]
  exact ix_list
theorem ix_tupk (h : X.K = K) : IxR X (rIxT K) := by
  rw [← h]
  exact ix_tup
theorem isik (h : X.K = K) : CallR X (.builtin "isinstance") (rIsi K) := by
  rw [← h]
  exact call_isi
end
end
end Cc

set_option autoImplicit false
set_option maxHeartbeats 4000000
/-! things[::-1], a list or a tuple -/
namespace Ys
open PySem PySem.Spec PyProof.Rows L2 Cc
section
variable {prog : Program} {w : World} {A : Around} {E : Value → Shared → Prop} {s : Shared}
theorem adjust_back (n : Nat) : Builtin.Slice.sliceAdjust none none (-1) (n : Int) = ((n : Int) - 1, -1) := by
  unfold Builtin.Slice.sliceAdjust
  first
    | rfl
    | simp
theorem places_back (n : Nat) : Builtin.Slice.slicePlaces ((n : Int) - 1) (-1) (-1) = n := by
  unfold Builtin.Slice.slicePlaces
  rw [if_neg (by decide)]
  by_cases h : (n : Int) - 1 > -1
  · rw [if_pos h, show (- -1 : Int) = 1 by decide, Int.ediv_one]
    omega
  · rw [if_neg h]
    omega
theorem back_applied {sl : Addr} {vl vu vs : Value} {n : Nat} {Q : Int × Int × Nat → Shared → Prop} (hs : s.heap.IsSliceOf sl vl vu vs) (pl : IsPart vl none) (pu : IsPart vu none) (ps : IsPart vs (some (-1))) (h : Q ((n : Int) - 1, -1, n) s) :
    wpAny (model prog w) A (Builtin.Slice.sliceApplied (.ref sl) (pure (n : Int))) Q E s := by
  obtain ⟨os, hos, hcs, hds⟩ := id hs
  unfold Builtin.Slice.sliceApplied Builtin.Slice.sliceFields
  refine wpAny_bind (wpAny_bind (wpAny_field hos hds (x := vl) rfl (wpAny_bind (wpAny_field hos hds (x := vu) rfl (wpAny_bind (wpAny_field hos hds (x := vs) rfl (wpAny_pure ?_)))))))
  refine wpAny_bind (HT.slicePart_ ps ?_)
  show wpAny _ _ (if ((-1 : Int) == 0) = true then _ else _) _ _ s
  rw [if_neg (by decide)]
  refine wpAny_bind (HT.slicePart_ pl (wpAny_bind (HT.slicePart_ pu (wpAny_bind (wpAny_pure ?_)))))
  show wpAny _ _ (match Builtin.Slice.sliceAdjust none none (-1) (n : Int) with | (lo, hi) => pure (lo, (-1 : Int), Builtin.Slice.slicePlaces lo hi (-1))) _ _ s
  rw [adjust_back]
  show wpAny _ _ (pure ((n : Int) - 1, (-1 : Int), Builtin.Slice.slicePlaces ((n : Int) - 1) (-1) (-1))) _ _ s
  rw [places_back]
  exact wpAny_pure h
theorem pick_back (xs : Array Value) : ((List.range xs.size).filterMap fun (k : Nat) => xs[((xs.size : Int) - 1 + (k : Int) * -1).toNat]?).toArray = xs.toList.reverse.toArray := by
  have e := PySem.W.krv_pick xs
  unfold slicePick at e
  rw [PySem.W.krv_bounds] at e
  rw [← e]
  show _ = ((sliceRange ((xs.size : Int) - 1) (-1) (-1)).filterMap (xs[·]?)).toArray
  rw [PySem.W.krv_sliceRange, List.filterMap_map]
  congr 1
  have cong : ∀ (l : List Nat) (f g : Nat → Option Value), (∀ k ∈ l, f k = g k) → l.filterMap f = l.filterMap g := fun l f g h => by
    induction l with
    | nil => rfl
    | cons a r ih =>
      rw [List.filterMap_cons, List.filterMap_cons, h a (List.mem_cons_self ..), ih fun k hk => h k (List.mem_cons_of_mem _ hk)]
  refine cong _ _ _ fun k hk => ?_
  have hk := List.mem_range.mp hk
  have e1 : ((xs.size : Int) - 1 + (k : Int) * -1).toNat = xs.size - 1 - k := by omega
  show xs[((xs.size : Int) - 1 + (k : Int) * -1).toNat]? = xs[xs.size - 1 - k]?
  rw [e1]
theorem tuple_back {t sl : Addr} {items : Array Value} {vl vu vs : Value} {Q : Value → Shared → Prop} (ht : IsTup s.heap t items) (hs : s.heap.IsSliceOf sl vl vu vs) (pl : IsPart vl none) (pu : IsPart vu none) (ps : IsPart vs (some (-1)))
    (h : Q (.ref s.heap.objs.size) { s with heap := s.heap.push { cls := .type "tuple", data := .seq items.toList.reverse.toArray } }) (hsz : items.size ≤ sizeLine) : wpAny (model prog w) A (getItem (.ref t) (.ref sl)) Q E s := by
  have fits : sizeOk (.seq items.toList.reverse.toArray) := by
    show items.toList.reverse.toArray.size ≤ sizeLine
    rw [List.size_toArray, List.length_reverse, Array.length_toList]
    exact hsz
  obtain ⟨os, hos, hcs, hds⟩ := id hs
  have hT : s.TypeIs (.ref sl) "slice" := ⟨os, hos, hcs⟩
  unfold getItem
  try with_reducible refine wpAny_holding ?_
  first | refine wpAny_bind (wpAny_pure ?_) | skip
  refine wpAny_bind (wpAny_sequenceKey ht.typeIs (by decide) ?_)
  refine wpAny_bind (wpAny_callSpecial?_slot (name := Str.ofString "__getitem__") ht.typeIs PyProof.Rows.slot_tuple_getitem (wpAny_call_entry PyProof.Rows.slot_tuple_getitem ht.typeIs entry_tuple_getitem ?_ (args_tuple_getitem _ _)))
  show wpAny _ _ (Builtin.Tuple.tupleItemsOf (.ref t) >>= _) _ _ s
  refine wpAny_bind (tupleItemsOf_ ht (wpAny_bind (wpAny_typeOf hT ?_)))
  rw [if_pos (by decide)]
  refine wpAny_bind (back_applied hs pl pu ps ?_)
  have no : ¬ (((items.size : Int) - 1 == 0 && (-1 : Int) == 1 && items.size == items.size) = true) := by simp
  show wpAny _ _ (if ((items.size : Int) - 1 == 0 && (-1 : Int) == 1 && items.size == items.size) = true then _ else _) _ _ s
  rw [if_neg no, pick_back]
  first
    | exact wpAny_bind (m := Builtin.Tuple.tupleExact _) (wpAny_newObj_type (wpAny_pure ⟨_, rfl, wpAny_pure h⟩) fits)
    | exact wpAny_bind (m := Builtin.Tuple.tupleExact _) (wpAny_newObj_type (wpAny_bind (wpAny_pure (wpAny_pure ⟨_, rfl, wpAny_pure h⟩))) fits)
    | exact wpAny_bind (wpAny_bind (m := Builtin.Tuple.tupleExact _) (wpAny_newObj_type (wpAny_pure (wpAny_pure ⟨_, rfl, wpAny_pure h⟩)) fits))
    | exact wpAny_bind (wpAny_bind (m := Builtin.Tuple.tupleExact _) (wpAny_newObj_type (wpAny_pure ⟨_, rfl, wpAny_pure h⟩) fits))
end
section
variable {X : Cx} {e : Expr} {te : TE}
def tRevA (K : PySem.W.Frag) (te : TE) : TE := fun σ H Q => te σ H fun x H1 => ∃ t a xs, x = .ref a ∧ Sq t K H1 a xs ∧ ∀ p H', Same H1 H' → SqM t K H' p xs.reverse → Q (.ref p) H'
theorem pe_revA {k : Nat} {p1 p2 p3 pos : Pos} (he : PE X e te) : PE X (.Subscript e (.Slice none none (some (.UnaryOp .USub (.Constant (.int 1) k p1) p2)) p3) pos) (tRevA X.K te) := by
  refine ⟨fun pins s σ H Q I h => Subscript_ (thn (he.run pins s σ H _ I h) fun v s1 ⟨x, H1, I1, r1, t, a, xs, ex, hx, q⟩ => ?_)⟩
  subst ex
  cases r1
  have hst : PO X (some (.UnaryOp .USub (.Constant (.int 1) k p1) p2)) (tPart (tUn (rU fun i => .int (-i)) (tC (.int 1)))) := po_some (pe_un un_neg pe_int)
  refine wpAny_Slice (thn (po_none.run pins s1 σ H1 (fun o H2 => o = none ∧ H2 = H1) I1 ⟨rfl, rfl⟩) fun vl s2 ⟨l, H2, I2, pl, el, e2⟩ => ?_)
  subst el e2
  refine thn (po_none.run pins s2 σ H2 (fun o H3 => o = none ∧ H3 = H2) I2 ⟨rfl, rfl⟩) fun vu s3 ⟨u, H3, I3, pu, eu, e3⟩ => ?_
  subst eu e3
  refine thn (hst.run pins s3 σ H3 (fun o H4 => o = some (-1) ∧ H4 = H3) I3 ⟨1, rfl, -1, rfl, rfl, rfl⟩) fun vs s4 ⟨o, H4, I4, ps, eo, e4⟩ => ?_
  subst eo e4
  have I5 : Inv X pins σ H4 { s4 with heap := s4.heap.push { cls := .type "slice", data := .fields #[vl, vu, vs] } } := I4.kept (t' := s4.toks) fun b ob q => Heap.get?_push_of_some _ q
  show wpAny (model X.prog X.w) X.A (subscriptTail e (.Slice none none (some (.UnaryOp .USub (.Constant (.int 1) k p1) p2)) p3) (.ref a) (.ref s4.heap.objs.size)) (EP X pins σ Q) X.xe { s4 with heap := s4.heap.push { cls := .type "slice", data := .fields #[vl, vu, vs] } }
  cases t with
  | false =>
    obtain ⟨its, r, ht, hz⟩ := I5.list hx
    refine tail_any (ops := [.ref a, .ref s4.heap.objs.size]) ht.isList.typeIs (PySem.slot_list_getitem.lookup) ?_ (by with_unfolding_all rfl)
    refine wpAny_getItem_list_slice ht.isList (Heap.IsSliceOf.new _ vl vu vs) pl pu ps (by decide) ?_ (by rw [List.size_toArray, ← r.length]; exact hz)
    rw [PySem.W.krv_pick]
    refine ⟨.ref _, _, I5.laid (t' := s4.toks) (o := .lst xs.reverse) (fun b ob q => Heap.get?_push_of_some _ q) (Nat.le_refl _) ?_, rfl, q _ _ (newS (I5.hok.fresh (Nat.le_refl _))) (show _ = _ from upd_same)⟩
    exact ⟨by rw [List.length_reverse]; exact hz, _, 0, r.reverse, Heap.get?_push_size _ rfl⟩
  | true =>
    obtain ⟨its, r, ht, hz⟩ := I5.tuple hx
    refine tail_any (ops := [.ref a, .ref s4.heap.objs.size]) ht.typeIs (PyProof.Rows.slot_tuple_getitem.lookup) ?_ (by with_unfolding_all rfl)
    refine tuple_back ht (Heap.IsSliceOf.new _ vl vu vs) pl pu ps ?_ (by rw [List.size_toArray, ← r.length]; exact hz)
    refine ⟨.ref _, _, I5.laid (t' := s4.toks) (o := .tup xs.reverse) (fun b ob q => Heap.get?_push_of_some _ q) (Nat.le_refl _) ?_, rfl, q _ _ (newS (I5.hok.fresh (Nat.le_refl _))) (show SqT _ _ _ _ from SqT.of upd_same)⟩
    exact ⟨by rw [List.length_reverse]; exact hz, its.reverse, r.reverse, ⟨_, Heap.get?_push_size _ rfl, rfl, 0, by simp⟩⟩
end
end Ys

set_option autoImplicit false
set_option maxHeartbeats 4000000
/-! things of any kind: what stands for them, what stays, how great they are -/
namespace Tg
open PySem PySem.Spec PyProof.Rows L2
/-- all that stood there stands as it stood, but greater dicts -/
def Kept (H H' : Hp) : Prop := ∀ b o, H b = some o → (∀ kvs, o = .dK kvs → kvs.length ≤ 1) → H' b = some o
theorem Kept.refl {H : Hp} : Kept H H := fun _ _ h _ => h
theorem Kept.trans {H H1 H2 : Hp} (a : Kept H H1) (b : Kept H1 H2) : Kept H H2 := fun c o h n => b c o (a c o h n) n
theorem kept_same {H H1 : Hp} (a : Same H H1) : Kept H H1 := fun c o h _ => a c o h
theorem Kept.lstH {H H1 : Hp} {a : Addr} {xs : List V} (k : Kept H H1) (h : H a = some (.lst xs)) : H1 a = some (.lst xs) := k _ _ h fun _ e => nomatch e
theorem Kept.tupH {H H1 : Hp} {a : Addr} {xs : List V} (k : Kept H H1) (h : H a = some (.tup xs)) : H1 a = some (.tup xs) := k _ _ h fun _ e => nomatch e
theorem Kept.lst {K : PySem.W.Frag} {H H1 : Hp} {a : Addr} {xs : List V} (k : Kept H H1) (h : SqL K H a xs) : SqL K H1 a xs := by
  rcases h with (h | ⟨o, h⟩) | h
  · exact .inl (.inl (k.lstH h))
  · exact .inl (.inr ⟨o, k _ _ h fun _ e => nomatch e⟩)
  · exact .inr h
theorem Kept.tup {K : PySem.W.Frag} {H H1 : Hp} {a : Addr} {xs : List V} (k : Kept H H1) (h : SqT K H a xs) : SqT K H1 a xs := by
  rcases h with (h | ⟨o, h⟩) | h
  · exact .inl (.inl (k.tupH h))
  · exact .inl (.inr ⟨o, k _ _ h fun _ e => nomatch e⟩)
  · exact .inr h
mutual
/-- v stands for the thing d -/
inductive Th (K : PySem.W.Frag) (H : Hp) : V → PyData → Prop
  | non : Th K H .non .none
  | bl (b : Bool) : Th K H (.bl b) (.bool b)
  | int (i : Int) : Th K H (.int i) (.int i)
  | str (x : Str) : Th K H (.str x) (.str x)
  | lst {a : Addr} {xs : List V} {ds : List PyData} : SqL K H a xs → ThAll K H xs ds → Th K H (.ref a) (.list ds)
  | tup {a : Addr} {xs : List V} {ds : List PyData} : SqT K H a xs → ThAll K H xs ds → Th K H (.ref a) (.tuple ds)
  | dct {a : Addr} {kvs : List (Key × V)} : H a = some (.dK kvs) → kvs.length ≤ 1 → Th K H (.ref a) (.dict [])
inductive ThAll (K : PySem.W.Frag) (H : Hp) : List V → List PyData → Prop
  | nil : ThAll K H [] []
  | cons {v : V} {vs : List V} {d : PyData} {ds : List PyData} : Th K H v d → ThAll K H vs ds → ThAll K H (v :: vs) (d :: ds)
end
mutual
theorem Th.kept {K : PySem.W.Frag} {H H1 : Hp} (k : Kept H H1) : ∀ {v : V} {d : PyData}, Th K H v d → Th K H1 v d
  | _, _, .non => .non
  | _, _, .bl b => .bl b
  | _, _, .int i => .int i
  | _, _, .str x => .str x
  | _, _, .lst h t => .lst (k.lst h) (t.kept k)
  | _, _, .tup h t => .tup (k.tup h) (t.kept k)
  | _, _, .dct h l => .dct (k _ _ h fun _ e => by cases e; exact l) l
theorem ThAll.kept {K : PySem.W.Frag} {H H1 : Hp} (k : Kept H H1) : ∀ {vs : List V} {ds : List PyData}, ThAll K H vs ds → ThAll K H1 vs ds
  | _, _, .nil => .nil
  | _, _, .cons h t => .cons (h.kept k) (t.kept k)
end
/-- the built-in class of a thing -/
def tyOf : PyData → String
  | .none => "NoneType" | .bool _ => "bool" | .int _ => "int" | .str _ => "str" | .list _ => "list" | .tuple _ => "tuple" | .dict _ => "dict"
theorem tyx_list {K : PySem.W.Frag} {H : Hp} {a : Addr} {xs : List V} (h : SqL K H a xs) : TyX K H (.ref a) (.type "list") := by
  rcases h with (h | ⟨o, h⟩) | ⟨o, its, n, h, c, _⟩
  · exact .base (.lst h)
  · exact .base (.frz h)
  · exact .kList h c
theorem tyx_tup {K : PySem.W.Frag} {H : Hp} {a : Addr} {xs : List V} (h : SqT K H a xs) : TyX K H (.ref a) (.type "tuple") := by
  rcases h with (h | ⟨o, h⟩) | ⟨o, its, n, h, c, _⟩
  · exact .base (.tup h)
  · exact .fTuple h
  · exact .kTuple h c
theorem Th.ty {K : PySem.W.Frag} {H : Hp} {v : V} {d : PyData} (h : Th K H v d) : TyX K H v (.type (tyOf d)) := by
  cases h with
  | non => exact .base .non
  | bl b => exact .base (.bl b)
  | int i => exact .base (.int i)
  | str x => exact .base (.str x)
  | lst h t => exact tyx_list h
  | tup h t => exact tyx_tup h
  | dct h l => exact .base (.dK h)
/-- isinstance of a thing and a built-in class -/
theorem isi {K : PySem.W.Frag} {H : Hp} {v : V} {d : PyData} {T : String} {b : Bool} {Q : VK} (h : Th K H v d) (e : kitB (tyOf d) T = some b) (q : Q (.bl b) H) : rIsi K [v, .ty T] H Q :=
  ⟨v, .ty T, _, _, b, rfl, .ty T, h.ty, kit_ty e, q⟩
def isTup : PyData → Bool | .tuple _ => true | _ => false
def isLst : PyData → Bool | .list _ => true | _ => false
def isStr : PyData → Bool | .str _ => true | _ => false
def isBool : PyData → Bool | .bool _ => true | _ => false
def isInt : PyData → Bool | .bool _ => true | .int _ => true | _ => false
theorem kit_tup (d : PyData) : kitB (tyOf d) "tuple" = some (isTup d) := by cases d <;> (simp only [tyOf, isTup]; decide +kernel)
theorem kit_lst (d : PyData) : kitB (tyOf d) "list" = some (isLst d) := by cases d <;> (simp only [tyOf, isLst]; decide +kernel)
theorem kit_str (d : PyData) : kitB (tyOf d) "str" = some (isStr d) := by cases d <;> (simp only [tyOf, isStr]; decide +kernel)
theorem kit_bool (d : PyData) : kitB (tyOf d) "bool" = some (isBool d) := by cases d <;> (simp only [tyOf, isBool]; decide +kernel)
theorem kit_int (d : PyData) : kitB (tyOf d) "int" = some (isInt d) := by cases d <;> (simp only [tyOf, isInt]; decide +kernel)
theorem isStr_eq {d : PyData} (h : isStr d = true) : ∃ s, d = .str s := by
  cases d with
  | str s => exact ⟨s, rfl⟩
  | _ => cases h
theorem isTup_eq {d : PyData} (h : isTup d = true) : ∃ ds, d = .tuple ds := by
  cases d with
  | tuple s => exact ⟨s, rfl⟩
  | _ => cases h
theorem isLst_eq {d : PyData} (h : isLst d = true) : ∃ ds, d = .list ds := by
  cases d with
  | list s => exact ⟨s, rfl⟩
  | _ => cases h
theorem Th.asStr {K : PySem.W.Frag} {H : Hp} {v : V} {s : Str} (h : Th K H v (.str s)) : v = .str s := by
  cases h
  rfl
theorem Th.asTup {K : PySem.W.Frag} {H : Hp} {v : V} {ds : List PyData} (h : Th K H v (.tuple ds)) : ∃ a xs, v = .ref a ∧ SqT K H a xs ∧ ThAll K H xs ds := by
  cases h with
  | tup h t => exact ⟨_, _, rfl, h, t⟩
theorem Th.asLst {K : PySem.W.Frag} {H : Hp} {v : V} {ds : List PyData} (h : Th K H v (.list ds)) : ∃ a xs, v = .ref a ∧ SqL K H a xs ∧ ThAll K H xs ds := by
  cases h with
  | lst h t => exact ⟨_, _, rfl, h, t⟩
theorem ThAll.len {K : PySem.W.Frag} {H : Hp} : ∀ {xs : List V} {ds : List PyData}, ThAll K H xs ds → xs.length = ds.length
  | _, _, .nil => rfl
  | _, _, .cons _ t => congrArg (· + 1) t.len
theorem ThAll.get {K : PySem.W.Frag} {H : Hp} : ∀ {xs : List V} {ds : List PyData} {i : Nat} {x : V}, ThAll K H xs ds → xs[i]? = some x → ∃ d, ds[i]? = some d ∧ Th K H x d
  | _, _, i, x, .nil, e => by simp at e
  | _, _, 0, x, .cons h t, e => by
    simp at e
    subst e
    exact ⟨_, rfl, h⟩
  | _, _, i + 1, x, .cons h t, e => by
    obtain ⟨d, h1, h2⟩ := t.get (i := i) (x := x) (by simpa using e)
    exact ⟨d, by simpa using h1, h2⟩
/-! ### how great things are -/
/-- signs of a text below 128 -/
def As (s : Str) : Prop := ∀ c ∈ s.cps.toList, c < 128
/-- texts and lists to N, numbers below N figures, depth to m -/
def Bd (N : Nat) : Nat → PyData → Prop
  | _, .none => True
  | _, .bool _ => True
  | _, .int i => i.natAbs < 10 ^ N
  | _, .str s => s.length ≤ N ∧ As s
  | _, .dict _ => True
  | 0, .list _ => False
  | 0, .tuple _ => False
  | m + 1, .list ds => ds.length ≤ N ∧ ∀ d ∈ ds, Bd N m d
  | m + 1, .tuple ds => ds.length ≤ N ∧ ∀ d ∈ ds, Bd N m d
theorem bd_str {N m : Nat} {s : Str} : Bd N m (.str s) ↔ s.length ≤ N ∧ As s := by cases m <;> exact Iff.rfl
theorem bd_int {N m : Nat} {i : Int} : Bd N m (.int i) ↔ i.natAbs < 10 ^ N := by cases m <;> exact Iff.rfl
theorem bd_non {N m : Nat} : Bd N m .none := by cases m <;> trivial
theorem bd_bool {N m : Nat} {b : Bool} : Bd N m (.bool b) := by cases m <;> trivial
theorem bd_dict {N m : Nat} {b : List (PyData × PyData)} : Bd N m (.dict b) := by cases m <;> trivial
theorem Bd.mono {N N' : Nat} (h : N ≤ N') : ∀ {m m' : Nat} {d : PyData}, m ≤ m' → Bd N m d → Bd N' m' d
  | _, _, .none, _, _ => bd_non
  | _, _, .bool _, _, _ => bd_bool
  | _, _, .int i, _, b => bd_int.mpr (Nat.lt_of_lt_of_le (bd_int.mp b) (Nat.pow_le_pow_right (by omega) h))
  | _, _, .str s, _, b => bd_str.mpr ⟨Nat.le_trans (bd_str.mp b).1 h, (bd_str.mp b).2⟩
  | _, _, .dict _, _, _ => bd_dict
  | 0, _, .list _, _, b => b.elim
  | 0, _, .tuple _, _, b => b.elim
  | m + 1, 0, .list _, q, b => by omega
  | m + 1, 0, .tuple _, q, b => by omega
  | m + 1, m' + 1, .list ds, q, b => ⟨Nat.le_trans b.1 h, fun d hd => (b.2 d hd).mono h (by omega)⟩
  | m + 1, m' + 1, .tuple ds, q, b => ⟨Nat.le_trans b.1 h, fun d hd => (b.2 d hd).mono h (by omega)⟩
/-- v stands for some thing, no greater than so -/
def Is (K : PySem.W.Frag) (H : Hp) (N m : Nat) (v : V) : Prop := ∃ d, Th K H v d ∧ Bd N m d
section
variable {K : PySem.W.Frag} {H H1 : Hp} {N N' m m' : Nat} {v : V} {a : Addr} {xs : List V}
theorem Is.kept (h : Is K H N m v) (k : Kept H H1) : Is K H1 N m v := by
  obtain ⟨d, h1, h2⟩ := h
  exact ⟨d, h1.kept k, h2⟩
theorem Is.mono (h : Is K H N m v) (k : N ≤ N') (j : m ≤ m') : Is K H N' m' v := by
  obtain ⟨d, h1, h2⟩ := h
  exact ⟨d, h1, h2.mono k j⟩
theorem Is.non : Is K H N m .non := ⟨_, .non, bd_non⟩
theorem Is.bl (b : Bool) : Is K H N m (.bl b) := ⟨_, .bl b, bd_bool⟩
theorem Is.int (i : Int) (h : i.natAbs < 10 ^ N) : Is K H N m (.int i) := ⟨_, .int i, bd_int.mpr h⟩
theorem Is.str (s : Str) (h : s.length ≤ N) (a : As s) : Is K H N m (.str s) := ⟨_, .str s, bd_str.mpr ⟨h, a⟩⟩
theorem Is.dct {kvs : List (Key × V)} (h : H a = some (.dK kvs)) (l : kvs.length ≤ 1) : Is K H N m (.ref a) := ⟨_, .dct h l, bd_dict⟩
theorem all_of : ∀ {xs : List V}, (∀ x ∈ xs, Is K H N m x) → ∃ ds, ThAll K H xs ds ∧ ∀ d ∈ ds, Bd N m d
  | [], _ => ⟨[], .nil, fun d h => by cases h⟩
  | x :: r, h => by
    obtain ⟨d, h1, h2⟩ := h x (List.mem_cons_self ..)
    obtain ⟨ds, h3, h4⟩ := all_of fun y hy => h y (List.mem_cons_of_mem _ hy)
    exact ⟨d :: ds, .cons h1 h3, fun e he => (List.mem_cons.mp he).elim (fun z => z ▸ h2) (h4 e)⟩
theorem of_all : ∀ {xs : List V} {ds : List PyData}, ThAll K H xs ds → (∀ d ∈ ds, Bd N m d) → ∀ x ∈ xs, Is K H N m x
  | _, _, .nil, _, x, h => by cases h
  | _, _, .cons t r, b, x, h => by
    rcases List.mem_cons.mp h with e | e
    · subst e
      exact ⟨_, t, b _ (List.mem_cons_self ..)⟩
    · exact of_all r (fun d hd => b d (List.mem_cons_of_mem _ hd)) x e
theorem Is.lst (h : SqL K H a xs) (l : xs.length ≤ N) (k : ∀ x ∈ xs, Is K H N m x) : Is K H N (m + 1) (.ref a) := by
  obtain ⟨ds, h1, h2⟩ := all_of k
  exact ⟨_, .lst h h1, by rw [← h1.len]; exact l, h2⟩
theorem Is.tup (h : SqT K H a xs) (l : xs.length ≤ N) (k : ∀ x ∈ xs, Is K H N m x) : Is K H N (m + 1) (.ref a) := by
  obtain ⟨ds, h1, h2⟩ := all_of k
  exact ⟨_, .tup h h1, by rw [← h1.len]; exact l, h2⟩
/-- the kinds of things -/
theorem Is.kinds (h : Is K H N m v) : v = .non ∨ (∃ b, v = .bl b) ∨ (∃ i, v = .int i ∧ i.natAbs < 10 ^ N) ∨ (∃ s, v = .str s ∧ s.length ≤ N ∧ As s) ∨ (∃ a kvs, v = .ref a ∧ H a = some (.dK kvs) ∧ kvs.length ≤ 1) ∨
    (∃ a xs n, v = .ref a ∧ m = n + 1 ∧ xs.length ≤ N ∧ (SqL K H a xs ∨ SqT K H a xs) ∧ ∀ x ∈ xs, Is K H N n x) := by
  obtain ⟨d, h1, h2⟩ := h
  cases h1 with
  | non => exact .inl rfl
  | bl b => exact .inr (.inl ⟨b, rfl⟩)
  | int i => exact .inr (.inr (.inl ⟨i, rfl, bd_int.mp h2⟩))
  | str s => exact .inr (.inr (.inr (.inl ⟨s, rfl, bd_str.mp h2⟩)))
  | dct e l => exact .inr (.inr (.inr (.inr (.inl ⟨_, _, rfl, e, l⟩))))
  | lst e t =>
    cases m with
    | zero => exact h2.elim
    | succ n => exact .inr (.inr (.inr (.inr (.inr ⟨_, _, n, rfl, rfl, by rw [t.len]; exact h2.1, .inl e, of_all t h2.2⟩))))
  | tup e t =>
    cases m with
    | zero => exact h2.elim
    | succ n => exact .inr (.inr (.inr (.inr (.inr ⟨_, _, n, rfl, rfl, by rw [t.len]; exact h2.1, .inr e, of_all t h2.2⟩))))
end
/-! ### names, sorts, forms -/
def smallB (n : Nat) : PyData → Bool
  | .str s => (decide (1 ≤ s.length) && decide (s.length ≤ n)) && s.cps.toList.all fun c => decide (97 ≤ c) && decide (c ≤ 122)
  | _ => false
def sortB : PyData → Bool
  | .str s => decide (s ∈ ([("code" : Str), "amount", "word", "text"] : List Str))
  | _ => false
def fieldB : PyData → Bool
  | .tuple [n, s] => smallB 12 n && sortB s
  | _ => false
def nameOf : PyData → Str
  | .tuple (.str s :: _) => s
  | _ => Str.empty
def formB : PyData → Bool
  | .tuple ds => (decide (1 ≤ ds.length) && decide (ds.length ≤ 6)) && ds.all fieldB && decide ((ds.map nameOf).Nodup)
  | _ => false
theorem small_str {n : Nat} {d : PyData} (h : smallB n d = true) : ∃ s, d = .str s := by
  cases d with
  | str s => exact ⟨s, rfl⟩
  | _ => cases h
theorem field_tup {d : PyData} (h : fieldB d = true) : ∃ s z, d = .tuple [.str s, z] ∧ smallB 12 (.str s) = true ∧ sortB z = true := by
  unfold fieldB at h
  split at h
  · rename_i n z
    rw [Bool.and_eq_true] at h
    obtain ⟨s, rfl⟩ := small_str h.1
    exact ⟨s, z, rfl, h.1, h.2⟩
  · cases h
end Tg

set_option autoImplicit false
set_option maxHeartbeats 2000000
/-! lists by a comprehension, without a test -/
namespace Cc
open PySem PySem.Spec PyProof.Rows L2
/-- one more into the list at D, that has i already -/
abbrev Push (D : Addr) (i : Nat) (Iv : Nat → List V → Hp → Prop) (y : V) (H : Hp) : Prop :=
  ∃ acc, H D = some (.lst acc) ∧ acc.length < sizeLine ∧ ∃ a2, a2.length = i + 1 ∧ Iv (i + 1) a2 (upd H D (.lst (acc ++ [y]))) ∧ upd H D (.lst (acc ++ [y])) D = some (.lst a2)
theorem push {D : Addr} {i : Nat} {Iv : Nat → List V → Hp → Prop} {y : V} {H : Hp} {acc : List V} (hD : H D = some (.lst acc)) (la : acc.length = i) (few : i < 1000000) (iv : Iv (i + 1) (acc ++ [y]) (upd H D (.lst (acc ++ [y])))) : Push D i Iv y H :=
  ⟨acc, hD, by rw [la, show sizeLine = 16777216 from by decide]; omega, acc ++ [y], by rw [List.length_append, la]; rfl, iv, upd_same⟩
section
variable {J : It} {n : Nat} {G : Hp → Prop} {Y : Nat → Hp → V → Hp → Prop} {g : TG} {te : TE} {vs : List Nat} {σ : L2.St} {H1 : Hp} {D : Addr} {Qd : Hp → Prop}
/-- by the turn, what is in the new list, and the heap -/
theorem lc_acc (w : Walk J n G Y) (Iv : Nat → List V → Hp → Prop) (h0 : Iv 0 [] (upd H1 D (.lst []))) (hG : ∀ i acc H, i ≤ n → Iv i acc H → H D = some (.lst acc) → G H)
    (hs : ∀ i x acc H H', i < n → acc.length = i → Iv i acc H → H D = some (.lst acc) → Y i H x H' → g x (wipe σ vs) H' fun σ2 H2 => wipe σ2 vs = wipe σ vs ∧ te σ2 H2 fun y H4 => Push D i Iv y H4)
    (hd : ∀ acc H, acc.length = n → Iv n acc H → H D = some (.lst acc) → Qd H) :
    ∃ W : Nat → Nat → Hp → Prop, (∃ m, W 0 m (upd H1 D (.lst []))) ∧ ∀ i m H, W i m H →
      (J.stop i H ∧ Qd H) ∨ (J.go i H ∧ ∃ Nx : Hp → Prop, (∀ H', Nx H' → ∃ m', m' < m ∧ W (i + 1) m' H') ∧ ∀ x H', J.yld i H x H' → g x (wipe σ vs) H' fun σ2 H2 => wipe σ2 vs = wipe σ vs ∧ tYes σ2 H2 fun b H3 =>
        if b = true then te σ2 H3 fun y H4 => ∃ acc, H4 D = some (.lst acc) ∧ acc.length < sizeLine ∧ Nx (upd H4 D (.lst (acc ++ [y]))) else Nx H3) := by
  refine ⟨fun i m H => m = n - i ∧ i ≤ n ∧ ∃ acc, acc.length = i ∧ Iv i acc H ∧ H D = some (.lst acc), ⟨n, by simp, Nat.zero_le _, [], rfl, h0, upd_same⟩, ?_⟩
  rintro i m H ⟨rfl, hi, acc, la, iv, hD⟩
  have q := hG i acc H hi iv hD
  by_cases lt : i < n
  · exact .inr ⟨w.goes i H lt q, fun H' => ∃ acc, acc.length = i + 1 ∧ Iv (i + 1) acc H' ∧ H' D = some (.lst acc), fun H' ⟨a2, l2, v2, d2⟩ => ⟨n - (i + 1), by omega, rfl, lt, a2, l2, v2, d2⟩, fun x H' y => hs i x acc H H' lt la iv hD (w.yields i H x H' lt q y)⟩
  · have e : i = n := by omega
    subst e
    exact .inl ⟨w.stops H q, hd acc H la iv hD⟩
end
/-- all that stood there but what is at D stands -/
def But (D : Addr) (H H' : Hp) : Prop := ∀ b o, b ≠ D → H b = some o → H' b = some o
theorem But.upd {D : Addr} {H H' : Hp} {o : HO} (h : But D H H') : But D H (upd H' D o) := fun b x n e => by
  rw [upd_ne n]
  exact h b x n e
theorem But.same {D : Addr} {H H' H2 : Hp} (h : But D H H') (s : Same H' H2) : But D H H2 := fun b x n e => s b x (h b x n e)
theorem But.new {D : Addr} {H H' : Hp} (h : But D H H') (n : H D = none) : Same H H' := fun b x e => h b x (ne_of_none e n) e
theorem But.refl {D : Addr} {H : Hp} : But D H H := fun _ _ _ e => e
end Cc

set_option autoImplicit false
set_option maxHeartbeats 2000000
/-! sets of keys by a comprehension, without a test -/
namespace Cc
open PySem PySem.Spec PyProof.Rows L2 Ys
section
variable {P : Program} {w : World}
abbrev PushK (P : Program) (w : World) (D : Addr) (i : Nat) (Iv : Nat → (Key → Bool) → Nat → Hp → Prop) (y : V) (H : Hp) : Prop :=
  AddK P w D y H fun H' => ∃ S m, Iv (i + 1) S m H' ∧ H' D = some (SetK P w D S m)
theorem pushK {D : Addr} {i : Nat} {Iv : Nat → (Key → Bool) → Nat → Hp → Prop} {y : V} {H : Hp} {S : Key → Bool} {m : Nat} (k : Key) (ey : y = kV k) (hD : H D = some (SetK P w D S m)) (few : m + 1 < scanBound)
    (iv : Iv (i + 1) (fun j => S j || decide (j = k)) (if S k = true then m else m + 1) (upd H D (SetK P w D (fun j => S j || decide (j = k)) (if S k = true then m else m + 1)))) : PushK P w D i Iv y H :=
  ⟨k, S, m, ey, hD, few, _, _, iv, upd_same⟩
variable {J : It} {n : Nat} {G : Hp → Prop} {Y : Nat → Hp → V → Hp → Prop} {g : TG} {te : TE} {vs : List Nat} {σ : L2.St} {H1 : Hp} {D : Addr} {Qd : Hp → Prop}
theorem sc_acc (wk : Walk J n G Y) (Iv : Nat → (Key → Bool) → Nat → Hp → Prop) (h0 : Iv 0 (fun _ => false) 0 (upd H1 D (SetK P w D (fun _ => false) 0))) (hG : ∀ i S m H, i ≤ n → Iv i S m H → H D = some (SetK P w D S m) → G H)
    (hs : ∀ i x S m H H', i < n → Iv i S m H → H D = some (SetK P w D S m) → Y i H x H' → g x (wipe σ vs) H' fun σ2 H2 => wipe σ2 vs = wipe σ vs ∧ te σ2 H2 fun y H4 => PushK P w D i Iv y H4)
    (hd : ∀ S m H, Iv n S m H → H D = some (SetK P w D S m) → Qd H) :
    ∃ W : Nat → Nat → Hp → Prop, (∃ m, W 0 m (upd H1 D (SetK P w D (fun _ => false) 0))) ∧ ∀ i m H, W i m H → (J.stop i H ∧ Qd H) ∨ (J.go i H ∧ ∃ Nx : Hp → Prop, (∀ H', Nx H' → ∃ m', m' < m ∧ W (i + 1) m' H') ∧
      ∀ x H', J.yld i H x H' → g x (wipe σ vs) H' fun σ2 H2 => wipe σ2 vs = wipe σ vs ∧ tYes σ2 H2 fun b H3 => if b = true then te σ2 H3 fun y H4 => AddK P w D y H4 Nx else Nx H3) := by
  refine ⟨fun i k H => k = n - i ∧ i ≤ n ∧ ∃ S m, Iv i S m H ∧ H D = some (SetK P w D S m), ⟨n, by simp, Nat.zero_le _, _, _, h0, upd_same⟩, ?_⟩
  rintro i k H ⟨rfl, hi, S, m, iv, hD⟩
  have q := hG i S m H hi iv hD
  by_cases lt : i < n
  · exact .inr ⟨wk.goes i H lt q, fun H' => ∃ S m, Iv (i + 1) S m H' ∧ H' D = some (SetK P w D S m), fun H' ⟨S2, m2, v2, d2⟩ => ⟨n - (i + 1), by omega, rfl, lt, S2, m2, v2, d2⟩, fun x H' y => hs i x S m H H' lt iv hD (wk.yields i H x H' lt q y)⟩
  · have e : i = n := by omega
    subst e
    exact .inl ⟨wk.stops H q, hd S m H iv hD⟩
/-- the names that were met: S and m tell them -/
structure Met1 (xs : List Str) (i : Nat) (S : Key → Bool) (m : Nat) : Prop where
  has : ∀ x : Str, S (Sum.inr x) = (xs.take i).any (· == x)
  many : m = cnt xs i
theorem Met1.zero {xs : List Str} : Met1 xs 0 (fun _ => false) 0 := ⟨fun x => rfl, rfl⟩
theorem Met1.next {xs : List Str} {i : Nat} {S : Key → Bool} {m : Nat} (h : Met1 xs i S m) (hi : i < xs.length) (x : Str) (ex : x = xs.getD i Str.empty) :
    Met1 xs (i + 1) (fun j => S j || decide (j = Sum.inr x)) (if S (Sum.inr x) = true then m else m + 1) := by
  subst ex
  refine ⟨fun y => ?_, ?_⟩
  · show (S (Sum.inr y) || decide ((Sum.inr y : Key) = Sum.inr (xs.getD i Str.empty))) = _
    rw [h.has, take_snoc hi, List.any_append]
    by_cases e : y = xs.getD i Str.empty
    · rw [← e]
      simp
    · have e2 : (xs.getD i Str.empty == y) = false := by
        rw [beq_eq_false_iff_ne]
        exact fun z => e z.symm
      rw [decide_eq_false (fun z => e (Sum.inr.inj z))]
      simp only [List.any_cons, List.any_nil, e2, Bool.or_false]
  · rw [h.has, h.many]
    rfl
theorem Met1.few {xs : List Str} {i : Nat} {S : Key → Bool} {m : Nat} (h : Met1 xs i S m) (hi : i < 4000) : m + 1 < scanBound := by
  have := cnt_le xs i
  rw [h.many]
  unfold scanBound
  omega
theorem Met1.all {xs : List Str} {S : Key → Bool} {m : Nat} (h : Met1 xs xs.length S m) : decide ((m : Int) = (xs.length : Nat)) = decide xs.Nodup := by
  rw [h.many]
  exact decide_eq_decide.mpr ⟨fun e => cnt_all.mp (by omega), fun e => by rw [cnt_all.mpr e]⟩
end
end Cc

set_option maxHeartbeats 2000000
namespace Ev
open PySem PySem.Spec PyProof.Rows L2
open Sem (wp)
section
variable {M : Model} {A : Around} {E : Value → Shared → Prop} {s : Shared} {env : Env}
theorem callWith_type_kwB {pos : Pos} {T : String} {first : List Value} {args : List (Bool × Sem Value)} {keywords : List (Option Str × Sem Value)} {Q : Value → Shared → Prop}
    (hplain : args.any (·.1) = false) (hkw : keywords.any (·.1.isNone) = false)
    (h : wpAny M A (evalArgs (.type T) true args keywords) (fun a s1 => wpAny M A (call (.type T) (first ++ a.pos) a.kw) Q E s1) E s) :
    wpAny M A (callWith pos (.type T) first args keywords) Q E s := by
  unfold callWith
  refine wpAny_bind (wpAny_holding (wpAny_mono h (fun a s1 h1 => wpAny_bind (wpAny_standAt ?_)) fun _ _ x => x))
  simp only [hplain, hkw, Bool.or_false]
  refine wpAny_bind (wpAny_pure ?_)
  exact wpAny_bind (wpAny_mono h1 (fun r s2 hr => wpAny_bind (wpAny_holding (wpAny_point (wpAny_pure hr)))) fun _ _ x => x)
theorem callWith_type_kw {pos : Pos} {T : String} {e : Expr} {rest : List Expr} {kws : List Keyword} {Q : Value → Shared → Prop}
    (h : wpAny M A (spliced (backTo pos (starEach (e :: rest) env))) (fun vs s1 => wpAny M A (evalAll ((backToKw pos (keywordEach kws env)).map (·.2)))
      (fun kvs s2 => wpAny M A (call (.type T) vs (((backToKw pos (keywordEach kws env)).filterMap (·.1)).zip kvs)) Q E s2) E s1) E s)
    (he : starEach (e :: rest) env = (false, eval e env) :: starEach rest env := by rfl)
    (hplain : (backTo pos (starEach (e :: rest) env)).any (·.1) = false := by rfl)
    (hall : (backToKw pos (keywordEach kws env)).all (·.1.isSome) = true := by rfl)
    (hkw : (backToKw pos (keywordEach kws env)).any (·.1.isNone) = false := by rfl) :
    wpAny M A (callWith pos (.type T) [] (backTo pos (starEach (e :: rest) env)) (backToKw pos (keywordEach kws env))) Q E s := by
  refine callWith_type_kwB hplain hkw ?_
  rw [he] at h ⊢
  exact PyProof.Rows.evalArgs_kwB hall h
end
/-- enumerate(text, start=k): each sign in a new pair -/
def ItEs (x : Str) (k : Int) : It := ⟨fun i _ => i < x.cps.size, fun i H v H' => ∃ T c, x.cps[i]? = some c ∧ v = .ref T ∧ H T = none ∧ H' = upd H T (.tup [.int (k + (i : Int)), .str ⟨#[c]⟩]), fun i _ => x.cps.size ≤ i⟩
abbrev SignP (x : Str) : Nat → Value → Prop := fun i v => ∃ c u, x.cps[i]? = some c ∧ v = .str ⟨#[c]⟩ u
theorem drawsOf {prog : Program} {w : World} {A : Around} (hh : A.handled = none) (it : Addr) (x : Str) (t : Tok) : ∃ n, Draws prog w A it [it] n (SignP x) (fun i h => h.IsStrIter it (strIterType x) x t i) ∧ n = x.cps.size := by
  refine ⟨_, ?_, rfl⟩
  unfold strIterType
  cases ha : x.cps.all (· < 128)
  · first | exact Draws.strWide hh it x t | (simp only [ha]; exact Draws.strWide hh it x t)
  · first | exact Draws.strAscii hh it x t | (simp only [ha]; exact Draws.strAscii hh it x t)
theorem turn_enumS {P : Program} {w : World} {K : PySem.W.Frag} {elts : List Expr} {kk : Nat} {tpos : Pos} (x : Str) (t : Tok) (k : Int) (e it : Addr) (hne : e ≠ it) :
    Turn P w K (.Tuple elts kk tpos) (ItEs x k) [e, it] e (fun i h => i ≤ x.cps.size ∧ (∃ old, IsEnum h e it (k + (i : Int)) old) ∧ h.IsStrIter it (strIterType x) x t i) where
  mem := by simp
  obj := fun i h st b hb => by
    obtain ⟨_, ⟨old, he⟩, ⟨o, ho, hc, hd⟩⟩ := st
    have e' : b = e ∨ b = it := by simpa using hb
    rcases e' with z | z
    · rw [z]; exact ⟨_, he, fun v q => nomatch q⟩
    · rw [z]; exact ⟨o, ho, fun v q => by rw [hd] at q; cases q⟩
  keep := fun i h h' st kk => by
    obtain ⟨hi, ⟨old, he⟩, ⟨o, ho, r⟩⟩ := st
    exact ⟨hi, ⟨old, kk e (by simp) _ he⟩, ⟨o, kk it (by simp) o ho, r⟩⟩
  item := by
    intro X hP hw hK hc i pins s σ H E I hf st hg
    subst hP hw hK
    obtain ⟨hi, st1, st2⟩ := st
    have hh : X.A.in1.handled = none := I.ok.hd hc
    obtain ⟨n, D, hn⟩ := drawsOf (prog := X.prog) (w := X.w) hh it x t
    have W := GoesN.enumFrom (elts := elts) (x1 := kk) (pos := tpos) k D e hne (by simpa using hne) (by simp)
    have hel : e < s.heap.objs.size := by obtain ⟨_, he⟩ := st1; exact Heap.lt_size he
    have hil : it < s.heap.objs.size := by obtain ⟨_, q, _⟩ := st2; exact Heap.lt_size q
    refine wpAny_mono (W.goes i s (fun v s2 => ∃ y H', Inv X pins σ H' s2 ∧ RelV y v ∧ (ItEs x k).yld i H y H' ∧ (i + 1 ≤ x.cps.size ∧ (∃ old, IsEnum s2.heap e it (k + ((i + 1 : Nat) : Int)) old) ∧ s2.heap.IsStrIter it (strIterType x) x t (i + 1)) ∧ ∀ b ∈ [e, it], H' b = none) E (by rw [hn]; exact hg) ⟨st1, st2⟩ ?_) (fun r s1 q => q) fun _ _ q => q
    rintro v h' tk ⟨T, t1, y, rfl, hT0, ⟨c, u, hcx, rfl⟩, hT⟩ ⟨he', hit'⟩ hk htk
    obtain ⟨oT, hoT, hcT, nT, hdT⟩ := hT
    have hsm : H T = none := I.hok.fresh hT0
    have new : ObjOk X.prog X.w (upd H T (.tup [.int (k + (i : Int)), .str ⟨#[c]⟩])) h' T (.tup [.int (k + (i : Int)), .str ⟨#[c]⟩]) :=
      ⟨by show 2 ≤ sizeLine; decide, [.int (k + (i : Int)) t1, .str ⟨#[c]⟩ u], .cons ⟨_, rfl⟩ (.cons ⟨_, rfl⟩ .nil), ⟨oT, hoT, hcT, nT, hdT⟩⟩
    have I1 : Inv X pins σ (upd H T (.tup [.int (k + (i : Int)), .str ⟨#[c]⟩])) { s with heap := h', toks := tk } :=
      I.turnedNew (ch := [e, it]) (fun b ob hb q => hk b ob hb q) hf hT0 new
    refine ⟨.ref T, _, I1, rfl, ⟨T, c, hcx, rfl, hsm, rfl⟩, ⟨hg, he', hit'⟩, fun b hb => ?_⟩
    have hb' : b < s.heap.objs.size := by
      have e' : b = e ∨ b = it := by simpa using hb
      rcases e' with z | z
      · rw [z]; exact hel
      · rw [z]; exact hil
    rw [upd_ne (Nat.ne_of_lt (Nat.lt_of_lt_of_le hb' hT0))]
    exact (hf b hb).1
  done := by
    intro X hP hw hK hc i pins s σ H E I hf st hg
    subst hP hw hK
    obtain ⟨hi, st1, st2⟩ := st
    have hh : X.A.in1.handled = none := I.ok.hd hc
    obtain ⟨n, D, hn⟩ := drawsOf (prog := X.prog) (w := X.w) hh it x t
    have W := GoesN.enumFrom (elts := elts) (x1 := kk) (pos := tpos) k D e hne (by simpa using hne) (by simp)
    have hin : i = n := by rw [hn]; exact Nat.le_antisymm hi hg
    subst hin
    obtain ⟨f0, f1, f2, f3, f4, f5⟩ := hf it (by simp)
    refine wpAny_mono (W.stops s (fun s1 => Inv X pins σ H s1) E ⟨st1, st2⟩ fun h' tk hk htk => ?_) (fun r s1 q => q) fun _ _ q => q
    exact I.turnedL (ch := [e, it]) hk hf
  self := fun A i s Q E st h => let ⟨_, ⟨_, he⟩, _⟩ := st; wpAny_pyIter_enum he h

def iEnumS (ta tk : TA) : TI := fun σ H R => ta σ H fun vs H1 => tk σ H1 fun zs H2 => ∃ x k, vs = [.str x] ∧ zs = [.int k] ∧ -(2 ^ 63) ≤ k ∧ k < 2 ^ 63 ∧ R (ItEs x k) H2
theorem pi_enumS {X : Cx} {e : Expr} {ta tk : TA} {p pos tpos : Pos} {elts : List Expr} {kk : Nat} {kws : List Keyword} (hg : Gl X "enumerate") (hm : X.mg "enumerate" = none) (ha : PA X [e] ta) (hk : PK X kws tk)
    (hs : starEach [e] X.env = (false, eval e X.env) :: starEach [] X.env := by rfl) (hpl : (backTo pos (starEach [e] X.env)).any (·.1) = false := by rfl)
    (hall : (backToKw pos (keywordEach kws X.env)).all (·.1.isSome) = true := by rfl) (hnone : (backToKw pos (keywordEach kws X.env)).any (·.1.isNone) = false := by rfl)
    (hks : (backToKw pos (keywordEach kws X.env)).filterMap (·.1) = [Str.ofString "start"] := by rfl) :
    PI X (.Tuple elts kk tpos) (.Call (.Name "enumerate" p) [e] kws pos) (iEnumS ta tk) := by
  refine ⟨fun pins s σ H R I h => ?_⟩
  refine wpAny_Call_Name_kw (ld_blt I hg hm boot_enumerate ?_)
  refine callWith_type_kw (thn (ha.run pos pins s σ H _ I h) fun us s1 ⟨vs, H1, I1, r1, q1⟩ => thn (hk.run pos pins s1 σ H1 _ I1 q1) fun ws s2 ⟨zs, H2, I2, r2, q2⟩ => ?_) hs hpl hall hnone
  rw [hks]
  obtain ⟨x, k, rfl, rfl, k0, k1, q⟩ := q2
  cases r1 with
  | cons ra rr =>
  cases rr
  cases r2 with
  | cons rb rr =>
  cases rr
  obtain ⟨t, rfl⟩ := ra
  obtain ⟨t2, rfl⟩ := rb
  show wpAny _ _ (call (.type "enumerate") [.str x t] [(Str.ofString "start", .int k t2)]) _ _ _
  refine enum_begins_start (begins_text x t) trivial k0 k1 fun h' he hit hsz hkeep => wpAny_pyIter_enum he ?_
  have I3 : Inv X pins σ H2 { s2 with heap := h' } := I2.kept (t' := s2.toks) hkeep
  refine ⟨s2.heap.objs.size + 1, [s2.heap.objs.size + 1, s2.heap.objs.size], _, _, H2, rfl, I3, turn_enumS x t k (s2.heap.objs.size + 1) s2.heap.objs.size (Nat.succ_ne_self _), ⟨Nat.zero_le _, ⟨.none, ?_⟩, ⟨_, hit, rfl, ?_⟩⟩, fun b hb => ?_, q⟩
  · simpa using he
  · rfl
  · have e' : b = s2.heap.objs.size + 1 ∨ b = s2.heap.objs.size := by simpa using hb
    have hle : s2.heap.objs.size ≤ b := by
      rcases e' with z | z
      · rw [z]; exact Nat.le_add_right _ _
      · rw [z]; exact Nat.le_refl _
    exact I2.fpOk hle (I2.hok.fresh hle)
/-! ### text * int -/
theorem mul_len {x : Str} {n : Int} (h0 : 0 ≤ n) : (Txt.mul x n).length ≤ x.length * n.toNat := by
  unfold Txt.mul
  by_cases h1 : n < 1
  · rw [if_pos h1]; exact Nat.zero_le _
  · rw [if_neg h1]
    by_cases h2 : (n == 1 || x.length == 0) = true
    · rw [if_pos h2]
      have : 1 ≤ n.toNat := by omega
      exact Nat.le_mul_of_pos_right _ this
    · rw [if_neg h2]
      show ((List.replicate n.toNat x.cps).foldl (· ++ ·) #[]).size ≤ x.length * n.toNat
      rw [size_reps]
      show 0 + n.toNat * x.cps.size ≤ x.cps.size * n.toNat
      rw [Nat.mul_comm]
      omega
theorem op_mulS {X : Cx} : OpR X (binaryOp .Mult) (fun x y H Q => ∃ z k, x = .str z ∧ y = .int k ∧ 0 ≤ k ∧ k ≤ 16777216 ∧ z.length * k.toNat ≤ sizeLine ∧ Q (.str (Txt.mul z k)) H) := by
  intro pins s σ H x y v u Q I rx ry h
  obtain ⟨z, k, rfl, rfl, k0, k1, hz, q⟩ := h
  obtain ⟨t, rfl⟩ := rx
  obtain ⟨t', rfl⟩ := ry
  refine SB.mul ⟨?_, fun h1 h2 h3 => ?_, fun _ _ => ?_⟩ fun t2 tk => ⟨.str (Txt.mul z k), H, I.tok _, ⟨_, rfl⟩, q⟩
  · rw [decide_eq_false (by omega), decide_eq_false (by omega)]; rfl
  · have hk1 : 1 ≤ k.toNat := by omega
    have h4 : z.length ≤ z.length * k.toNat := Nat.le_mul_of_pos_right _ hk1
    have h5 : sizeLine = 16777216 := by decide
    have e : ((z.length * k.toNat : Nat) : Int) = (z.length : Int) * k := by rw [Int.natCast_mul, Int.toNat_of_nonneg k0]
    have h6 : (z.length : Int) ≤ (2 ^ 63 - 1) / k := Int.le_ediv_of_mul_le (by omega) (by omega)
    omega
  · unfold Builtin.Str.tooLong
    exact decide_eq_false (by omega)
/-! ### text[::-1] -/
def revS (x : Str) : Str := ⟨x.cps.toList.reverse.toArray⟩
theorem revS_len (x : Str) : (revS x).length = x.length := by
  show x.cps.toList.reverse.toArray.size = x.cps.size
  simp
theorem sliceBy_rev (x : Str) (u : Tok) : Txt.sliceBy x none none (-1, u) = revS x := by
  refine TL.ext_tl ?_
  show (Txt.sliceBy x none none (-1, u)).cps.toList = x.cps.toList.reverse
  rw [step_rev_list]
  refine List.ext_getElem (by simp [Str.length]) fun i h1 h2 => ?_
  have hi : i < x.cps.size := by simpa [Str.length] using h1
  have hj : x.length - 1 - i < x.cps.size := by
    show x.cps.size - 1 - i < x.cps.size
    omega
  simp only [List.getElem_map, List.getElem_range, List.getElem_reverse, Array.getElem_toList]
  show x.cps.getD (x.length - 1 - i) 0 = _
  unfold Array.getD
  rw [dif_pos hj]
  rfl
def tRevS (te : TE) : TE := fun σ H Q => te σ H fun x H1 => ∃ z, x = .str z ∧ z.length ≤ sizeLine ∧ Q (.str (revS z)) H1
theorem pe_revS {X : Cx} {e : Expr} {te : TE} {k : Nat} {p1 p2 p3 pos : Pos} (he : PE X e te) : PE X (.Subscript e (.Slice none none (some (.UnaryOp .USub (.Constant (.int 1) k p1) p2)) p3) pos) (tRevS te) := by
  refine ⟨fun pins s σ H Q I h => ?_⟩
  refine Subscript_ (thn (he.run pins s σ H _ I h) fun v s1 ⟨x, H1, I1, r1, q1⟩ => ?_)
  obtain ⟨z, rfl, hz, q⟩ := q1
  obtain ⟨t, rfl⟩ := r1
  have hst : PO X (some (.UnaryOp .USub (.Constant (.int 1) k p1) p2)) (tPart (tUn (rU fun i => .int (-i)) (tC (.int 1)))) := po_some (pe_un un_neg pe_int)
  refine wpAny_Slice (thn (po_none.run pins s1 σ H1 (fun o H2 => o = none ∧ H2 = H1) I1 ⟨rfl, rfl⟩) fun vl s2 ⟨l, H2, I2, pl, el, e2⟩ => ?_)
  subst el e2
  refine thn (po_none.run pins s2 σ H2 (fun o H3 => o = none ∧ H3 = H2) I2 ⟨rfl, rfl⟩) fun vu s3 ⟨u, H3, I3, pu, eu, e3⟩ => ?_
  subst eu e3
  refine thn (hst.run pins s3 σ H3 (fun o H4 => o = some (-1) ∧ H4 = H3) I3 ⟨1, rfl, -1, rfl, rfl, rfl⟩) fun vs s4 ⟨o, H4, I4, ps, eo, e4⟩ => ?_
  subst eo e4
  have I5 : Inv X pins σ H4 { s4 with heap := s4.heap.push { cls := .type "slice", data := .fields #[vl, vu, vs] } } := I4.kept (t' := s4.toks) fun b ob q => Heap.get?_push_of_some _ q
  obtain ⟨l, rfl, hl⟩ := IsPart.raw pl
  obtain ⟨w, rfl, hw⟩ := IsPart.raw pu
  obtain ⟨st, rfl, hst2⟩ := IsPart.raw ps
  have el : l = none := by cases l with | none => rfl | some _ => cases hl
  have ew : w = none := by cases w with | none => rfl | some _ => cases hw
  obtain ⟨tk, est⟩ : ∃ tk, st = some (-1, tk) := by
    cases st with
    | none => cases hst2
    | some p =>
      obtain ⟨a, b⟩ := p
      have : a = -1 := Option.some.inj hst2
      exact ⟨b, by rw [this]⟩
  subst el ew est
  show wpAny (model X.prog X.w) X.A (subscriptTail e (.Slice none none (some (.UnaryOp .USub (.Constant (.int 1) k p1) p2)) p3) (.str z t) (.ref s4.heap.objs.size)) (EP X pins σ Q) X.xe { s4 with heap := s4.heap.push { cls := .type "slice", data := .fields #[partValue none, partValue none, partValue (some (-1, tk))] } }
  refine tail_any (ops := [.ref s4.heap.objs.size, .str z t]) (typeIs_str _ _ _) F.slot_str_getitem.lookup ?_ (by with_unfolding_all rfl)
  refine wpAny_getItem_str_slice (l := none) (u := none) (st := some (-1, tk)) ⟨_, Heap.get?_push_size _ rfl, rfl, rfl⟩ rfl ?_
  have hlen : (Txt.sliceBy z none none (-1, tk)).length ≤ sizeLine := by rw [sliceBy_rev, revS_len]; exact hz
  have hr := sliceBy_rev z tk
  unfold Txt.sliceBy at hr hlen
  unfold sliceMade
  have hc : ¬ ((((some ((-1 : Int), tk)).map (·.1)).getD 1 == 1 && (slicePicked z none none (some (-1, tk))).length == z.length) = true) := by
    have : ((((some ((-1 : Int), tk)).map (·.1)).getD 1 == 1)) = false := rfl
    rw [this]; simp
  rw [if_neg hc] at hr hlen ⊢
  exact ⟨hlen, .str _, H4, I5.tok _, ⟨_, rfl⟩, by rw [hr]; exact q⟩
/-! ### great powers -/
def CPowB (i j : Int) : Prop := 0 ≤ j ∧ (Builtin.Int.intBits i : Int) * j ≤ 2 ^ 27
theorem op_powB {X : Cx} : OpR X (binaryOp .Pow) (rI CPowB fun i j => .int (i ^ j.toNat)) := opI fun _ _ _ _ _ _ _ hc q => pow_int hc.1 hc.2 q
/-! ### a list's items behind a written text's sum: a token is out -/
theorem pa_litAdd {X : Cx} {b : Expr} {es : List Expr} {tb : TE} {ta : TA} {x : Str} {j : Nat} {cp bp : Pos} (hb : PE X b tb) (hr : PAT X es ta)
    (hs : starEach (.BinOp (.Constant (.str x) j cp) .Add b bp :: es) X.env = (false, eval (.BinOp (.Constant (.str x) j cp) .Add b bp) X.env) :: starEach es X.env := by rfl) :
    PA X (.BinOp (.Constant (.str x) j cp) .Add b bp :: es) (tCons (tOp (fun u v H Q => ∃ i k, u = .str i ∧ v = .str k ∧ i.length + k.length ≤ sizeLine ∧ Q (.str (i ++ k)) H) (tC (.str x)) tb) ta) := by
  refine ⟨fun pos pins s σ H Q I h => ?_⟩
  rw [hs]
  show wpAny _ _ (spliced ((false, eval (.BinOp (.Constant (.str x) j cp) .Add b bp) X.env) :: backTo pos (starEach es X.env))) _ _ s
  refine Calls.spliced_cons (wpAny_BinOp (Calls.Constant_str ?_))
  have I1 : Inv X pins σ H { s with toks := s.toks + 1 } := I.tok _
  refine wpAny_mono (PySem.wpAny_toks (hb.run pins { s with toks := s.toks + 1 } σ H _ I1 h)) (fun u s2 q => ?_) fun _ _ z => z.2
  obtain ⟨hk, y, H2, I2, r2, q2⟩ := q
  refine wpAny_mono (PySem.wpAny_toks (op_add_str pins s2 σ H2 (.str x) y (.str x s.toks) u (fun w H3 => ta σ H3 fun xs H4 => Q (w :: xs) H4) I2 ⟨_, rfl⟩ r2 q2)) (fun v s3 q => ?_) fun _ _ z => z.2
  obtain ⟨hk3, w, H3, I3, r3, q3⟩ := q
  have h1 : 1 ≤ s3.toks := by
    have : s.toks + 1 ≤ s2.toks := hk
    omega
  exact thn (hr pos pins s3 σ H3 _ h1 I3 q3) fun us s4 ⟨xs, H4, I4, r4, q4⟩ => ⟨w :: xs, H4, I4, .cons r3 r4, q4⟩
end Ev

set_option autoImplicit false
set_option maxHeartbeats 2000000
/-! pairs of two tuples; names out of a tuple within a comprehension -/
namespace Cc
open PySem PySem.Spec PyProof.Rows L2 RZ
theorem walk_zipT {K : PySem.W.Frag} {a b : Addr} {xs ys : List V} {n : Nat} (hn : n = min xs.length ys.length) : Walk (ItzT K a b) n (fun H => SqT K H a xs ∧ SqT K H b ys) (YPair (fun i => xs[i]?) (fun i => ys[i]?)) := by
  subst hn
  refine ⟨fun i _ hi q => ?_, fun _ q => ⟨xs, ys, q.1, q.2, by omega⟩, fun i H v H' _ q y => ?_⟩
  · have h1 : i < xs.length := by omega
    have h2 : i < ys.length := by omega
    exact ⟨xs, ys, xs[i], ys[i], q.1, q.2, by simp [h1], by simp [h2]⟩
  · obtain ⟨T, x, z, h1, h2, h3, h4, h5⟩ := y
    exact ⟨T, x, z, h1, h2, h3, h4 xs q.1, h5 ys q.2⟩
theorem pg_tupk {X : Cx} {K : PySem.W.Frag} (hk : X.K = K) {es : List Expr} {k : Nat} {t : TGs} {n : Nat} {pos : Pos} (hc : X.calm = true) (h : PGs X es t)
    (hn : (assignEach es X.env).length = n := by rfl) (hst : (assignEach es X.env).findIdx? (·.1) = none := by rfl) : PG X (.Tuple es k pos) (gTup K n t) := by
  rw [← hk]
  exact pg_tup hc h hn hst
end Cc

set_option autoImplicit false
set_option maxHeartbeats 2000000
/-! one dict merged into another, as `**` in a display does it -/
namespace Nn
open PySem PySem.Spec PyProof.Rows L2
section
variable {prog : Program} {w : World} {K : Type} [DecidableEq K] {knd : KeyKind prog w K} {A : Around} {E : Value → Shared → Prop} {s : Shared}
theorem dictPut_pairs {d : Addr} {kvs : List (K × Value)} {k : K} {key v : Value} {Q : Unit → Shared → Prop} (hkey : knd.is k key = true) (hm : s.heap.DictOf knd d kvs)
    (hQ : ∀ h', h'.DictOf knd d (stored kvs k v) → Heap.SameBut d s.heap h' → Q () { s with heap := h' })
    (hsz : kvs.length ≤ sizeLine) :
    wpAny (model prog w) A (dictPut d (knd.hash k) key v) Q E s := by
  obtain ⟨o, es, ep, ho, hc, hd, hk, hp, hn⟩ := hm
  have hes : es.size ≤ sizeLine := by have e1 := hp.length; have e2 : es.toList.length = es.size := by simp
                                      omega
  unfold dictPut
  refine wpAny_bind (wpAny_dictFind_of hkey ho hd hk ?_)
  have hidx : (es.findIdx? fun e => knd.is k e.key) = kvs.findIdx? fun kv => decide (kv.1 = k) := by
    rw [← hp.findIdx k]; obtain ⟨l⟩ := es; simp
  cases hi : es.findIdx? fun e => knd.is k e.key with
  | some i =>
    refine wpAny_updateDict ho hd (hQ _ ⟨_, _, ep, Heap.get?_update_self _ ho (Obj.isFreed_of_dict (Obj.data_mapDict hd _)),
      hc.mapDict _, Obj.data_mapDict hd _, hk.modify _ _, ?_, ?_⟩ (Heap.SameBut.update ..))
    · rw [stored, if_pos (any_of_findIdx_some (hidx ▸ hi))]
      have hl : (es.toList.findIdx? fun e => knd.is k e.key) = some i := by rw [← hi]; obtain ⟨l⟩ := es; simp
      have := hp.modify hn hl v
      obtain ⟨l⟩ := es
      simpa using this
    · rw [stored, if_pos (any_of_findIdx_some (hidx ▸ hi)), keys_map_store]; exact hn
  | none =>
    have hnot : k ∉ kvs.map (·.1) := not_mem_of_findIdx_none (hidx ▸ hi)
    have hany : ¬ (kvs.any fun kv => decide (kv.1 = k)) = true := by
      rw [List.any_eq_true]; rintro ⟨kv, hkv, he⟩
      exact hnot (List.mem_map.mpr ⟨kv, hkv, of_decide_eq_true he⟩)
    refine wpAny_updateDictKeys (hz := hes) ho hd (hQ _ ⟨_, _, ep + 1, Heap.get?_update_self _ ho (Obj.isFreed_of_dict (Obj.data_mapDictKeys hd _)),
      hc.mapDictKeys _, Obj.data_mapDictKeys hd _, hk.push hkey _, ?_, ?_⟩ (Heap.SameBut.update ..))
    · rw [stored, if_neg hany]
      have := hp.append hkey (knd.hash k) v
      obtain ⟨l⟩ := es
      simpa using this
    · rw [stored, if_neg hany, List.map_append, List.nodup_append]
      refine ⟨hn, by simp, ?_⟩
      intro a ha b hb
      simp only [List.map_cons, List.map_nil, List.mem_singleton] at hb
      subst hb
      exact fun e => hnot (e ▸ ha)
theorem no_ref {v : Value} (h : carriedByValue v = true) : ∀ a, v ≠ .ref a := fun a e => by
  subst e
  cases h
theorem mergeMapping_pairs {d o : Addr} {kvs more : List (K × Value)} {Q : Unit → Shared → Prop} (hdo : d ≠ o) (hoS : (o == sysModules) = false)
    (hd : s.heap.DictOf knd d kvs) (ho : s.heap.DictOf knd o more)
    (hQ : ∀ h', h'.DictOf knd d (merged kvs more) → h'.DictOf knd o more → Heap.SameBut d s.heap h' → Q () { s with heap := h' })
    (hsz : kvs.length + more.length ≤ sizeLine) :
    wpAny (model prog w) A (mergeMapping d (.ref o) false) Q E s := by
  obtain ⟨od, esd, epd, hod, hcd, hdd, hkd, hpd, hnd⟩ := id hd
  obtain ⟨oo, eso, epo, hoo, hco, hdo', hko, hpo, hno⟩ := id ho
  have hlen : more.length = eso.size := by rw [← hpo.length]; simp
  unfold mergeMapping
  refine wpAny_bind (wpAny_isInstance ho.typeIs isSubtype_dict_dict ?_)
  simp only [if_true]
  refine wpAny_bind (wpAny_specialOf ho.typeIs F.slot_dict_iter.lookup ?_)
  simp only [beq_self_eq_true]
  refine wpAny_bind (wpAny_pure ?_)
  show wpAny _ _ (ite ((o == sysModules) = true) _ _) _ _ s
  rw [if_neg (by rw [hoS]; exact Bool.false_ne_true)]
  simp only [Bool.false_eq_true, if_false]
  have main : wpAny (model prog w) A (do
      let l ← dictEntries o
      let epoch ← dictEpoch o
      forIn (List.range l.size) PUnit.unit fun i (_ : PUnit) => (do
        let l' ← dictEntries o
        match l'[i]? with
          | some e => do
            holding [e.key, e.val] (dictPut d e.hash e.key e.val)
            let ep' ← dictEpoch o
            if (ep' != epoch) = true then do
              (unsupported "dict.changed-during-merge" : Sem PUnit)
              pure (ForInStep.yield PUnit.unit)
            else pure (ForInStep.yield PUnit.unit)
          | _ => do
            (unsupported "dict.changed-during-merge" : Sem PUnit)
            pure (ForInStep.yield PUnit.unit) : Sem (ForInStep PUnit))
      pure ()) Q E s := by
    refine wpAny_bind (wpAny_dictEntries hoo hdo' ?_)
    refine wpAny_bind (wpAny_dictEpoch hoo hdo' ?_)
    refine wpAny_bind ?_
    rw [List.range_eq_range']
    refine wpAny_forIn_list _
      (fun rest _ s' => ∃ h' i, s' = { s with heap := h' } ∧ rest = List.range' i (eso.size - i) ∧ i ≤ eso.size ∧ h'.DictOf knd d (merged kvs (more.take i)) ∧ h'.get? o = some oo ∧ Heap.SameBut d s.heap h')
      _ ?_ ?_ _ _ ⟨s.heap, 0, rfl, by simp, Nat.zero_le _, by simpa [merged] using hd, hoo, Heap.SameBut.refl _ _⟩
    · rintro x rest b s' ⟨h', i, rfl, hr, hi, hd', hoo', hs'⟩
      have hlt : i < eso.size := by
        rcases Nat.lt_or_ge i eso.size with h | h
        · exact h
        · rw [Nat.sub_eq_zero_of_le h] at hr; simp at hr
      obtain ⟨rfl, hrest⟩ : x = i ∧ rest = List.range' (i + 1) (eso.size - (i + 1)) := by
        have e : eso.size - i = (eso.size - (i + 1)) + 1 := by omega
        rw [e, List.range'_succ] at hr
        injection hr with h1 h2
        exact ⟨h1, h2⟩
      refine wpAny_bind (wpAny_dictEntries hoo' hdo' ?_)
      rw [Array.getElem?_eq_getElem hlt]
      obtain ⟨kv, hkv⟩ : ∃ kv, more[x]? = some kv := ⟨more[x]'(by rw [hlen]; exact hlt), List.getElem?_eq_getElem _⟩
      obtain ⟨k, v⟩ := kv
      obtain ⟨hkey, hval⟩ := hpo.get? (e := eso[x]) (by simp [hlt]) hkv
      obtain ⟨k', hkey', hhash⟩ := hko eso[x] (Array.getElem_mem hlt)
      obtain rfl : k' = k := knd.inj _ _ _ hkey' hkey
      show wpAny _ _ (holding [eso[x].key, eso[x].val] (dictPut d eso[x].hash eso[x].key eso[x].val) >>= _) _ _ _
      rw [hhash, hval]
      have hmx : (merged kvs (more.take x)).length ≤ sizeLine := by
        have e1 := merged_length_le kvs (more.take x)
        have e2 : (more.take x).length ≤ more.length := by rw [List.length_take]; omega
        omega
      refine wpAny_bind (wpAny_holding (dictPut_pairs (hsz := hmx) hkey hd' fun h'' hd'' hs'' => ?_))
      have hoo'' : h''.get? o = some oo := (hs''.2 o (Ne.symm hdo)).trans hoo'
      refine wpAny_bind (wpAny_dictEpoch hoo'' hdo' ?_)
      rw [if_neg (by simp)]
      exact wpAny_pure ⟨h'', x + 1, rfl, hrest, hlt, by rw [merged_take_succ kvs more x (k', v) hkv]; exact hd'', hoo'', hs'.trans hs''⟩
    · rintro b s' ⟨h', i, rfl, hr, hi, hd', hoo', hs'⟩
      have hin : i = eso.size := by
        rcases Nat.lt_or_ge i eso.size with h | h
        · have e : eso.size - i = (eso.size - (i + 1)) + 1 := by omega
          rw [e, List.range'_succ] at hr; exact nomatch hr
        · exact Nat.le_antisymm hi h
      refine wpAny_pure (hQ h' ?_ ⟨oo, eso, epo, hoo', hco, hdo', hko, hpo, hno⟩ hs')
      rw [hin, ← hlen, List.take_length] at hd'; exact hd'
  refine wpAny_bind (wpAny_dictEntries hod hdd ?_)
  split
  · refine wpAny_bind (wpAny_dictEntries hoo hdo' ?_)
    refine wpAny_bind (wpAny_of_eq (?_ : _ = pure PUnit.unit) main)
    rw [← Array.forIn_toList]
    refine forIn_yield_id _ fun e he c => ?_
    obtain ⟨k, hkey, _⟩ := hko e (Array.mem_toList_iff.mp he)
    have nr := no_ref (knd.byValue k _ hkey)
    split
    · rename_i a ea
      exact absurd ea (nr a)
    · rfl
  · exact main
end
end Nn

set_option autoImplicit false
set_option maxHeartbeats 2000000
/-! `{**d, k: v}` -/
namespace Nn
open PySem PySem.Spec PyProof.Rows L2
def tDStar (td tk tv : TE) : TE := fun σ H Q => ∀ p, H p = none → td σ (upd H p (.dK [])) fun x H1 => ∃ d kvs, x = .ref d ∧ d ≠ p ∧ H1 p = some (.dK []) ∧ H1 d = some (.dK kvs) ∧
  ∀ p2, upd H1 p (.dK kvs) p2 = none → tk σ (upd (upd H1 p (.dK kvs)) p2 (.dK [])) fun x H2 => tv σ H2 fun v H3 => ∃ k ks, x = kV k ∧ H3 p2 = some (.dK []) ∧ p2 ≠ p ∧ H3 p = some (.dK ks) ∧ ks.length < sizeLine ∧
    Q (.ref p) (upd (upd H3 p2 (.dK [(k, v)])) p (.dK (putK ks k v)))
theorem wpAny_tryC {prog : Program} {w : World} {A : Around} {α : Type} {m : Sem α} {h : Value → Sem α} {Q : α → Shared → Prop} {E : Value → Shared → Prop} {s : Shared}
    (q : wpAny (model prog w) A m Q (fun e s' => wpAny (model prog w) A (h e) Q E s') s) : wpAny (model prog w) A (m.tryCatch h) Q E s := fun Γ p hΓ => by
  rw [Sem.wp_tryCatch]
  exact Sem.wp_mono _ Γ m (fun _ _ _ h' => h') (fun e p' s' h' => h' Γ p' hΓ) p s (q Γ p hΓ)
def one1 (F : V → V → Hp → Prop) : List (V × V) → Hp → Prop := fun ps H => match ps with
  | [(x, y)] => F x y H
  | _ => False
section
variable {X : Cx} {d k v : Expr} {td tk tv : TE} {pos : Pos}
theorem pe_dstar (hd : PE X d td) (hk : PE X k tk) (hv : PE X v tv) : PE X (.Dict [none, some k] [d, v] pos) (tDStar td tk tv) := by
  refine ⟨fun pins s σ H Q I h => ?_⟩
  rw [arm_eval_Dict]
  show wpAny _ _ (do standAt pos; dictDisplay [(none, do let x ← eval d X.env; standAt pos; pure x), (some (eval k X.env), do let x ← eval v X.env; standAt pos; pure x)]) _ _ _
  refine wpAny_bind (wpAny_standAt ?_)
  unfold dictDisplay
  dsimp only
  simp only [List.forIn_cons, List.forIn_nil, List.isEmpty_nil, if_true]
  have hn := I.hok.fresh (Nat.le_refl s.heap.objs.size)
  have I1 := I.laid (a := s.heap.objs.size) (o := .dK []) (h' := s.heap.push { cls := .type "dict", data := .dict #[] }) (t' := s.toks) (fun _ _ q => Heap.get?_push_of_some _ q) (Nat.le_refl _) (dk_empty s.heap I.big)
  refine wpAny_bind (wpAny_bind (wpAny_bind (wpAny_pure ?_)))
  refine wpAny_bind (wpAny_alloc ?_)
  refine wpAny_bind (wpAny_holding (wpAny_bind (thn (hd.run pins _ σ _ _ I1 (h _ hn)) fun u s1 ⟨x, H1, I2, rx, a, kvs, ex, ne, e1, e2, q⟩ => wpAny_bind (wpAny_standAt (wpAny_pure ?_)))))
  generalize s.heap.objs.size = p at *
  subst ex
  obtain rfl : u = Value.ref a := rx
  obtain ⟨z1, hp1, vs1, r1, d1⟩ := dk_of I2.hok e1
  obtain ⟨z2, hp2, vs2, r2, d2⟩ := dk_of I2.hok e2
  cases r1
  have nd2 : (vs2.map (·.1)).Nodup := let ⟨_, _, _, _, _, _, _, _, n⟩ := d2; n
  have l2 : kvs.length = vs2.length := Paired.length r2
  refine wpAny_bind (wpAny_onRaise (wpAny_tryC (wpAny_onRaise (wpAny_holding (mergeMapping_pairs (knd := mixKind X.prog X.w) (Ne.symm ne) hp2 d1 d2 (fun h' dd' _ hs' => ?_) (by rw [List.length_nil]; omega))))))
  rw [merged_nil_of_nodup _ nd2] at dd'
  have I3 : Inv X pins σ (upd H1 p (.dK kvs)) { s1 with heap := h', toks := s1.toks } := d_write I2 (by rw [e1]; exact True.intro) hs' (let ⟨q, _, _, hq, _⟩ := dd'; ⟨q, hq⟩) (dk_new z2 hp1 r2 dd')
  refine wpAny_pure ?_
  dsimp only
  rw [if_neg (by simp)]
  refine wpAny_bind (wpAny_pure (wpAny_pure ?_))
  dsimp only
  refine wpAny_bind ?_
  rw [if_neg (by simp)]
  have hn2 := I3.hok.fresh (Nat.le_refl h'.objs.size)
  have I4 := I3.laid (a := h'.objs.size) (o := .dK []) (h' := h'.push { cls := .type "dict", data := .dict #[] }) (t' := s1.toks) (fun _ _ q => Heap.get?_push_of_some _ q) (Nat.le_refl _) (dk_empty h' I3.big)
  refine wpAny_bind (wpAny_holding (wpAny_subDict (knd := mixKind X.prog X.w) (by simp) (thn ((pps_cons hk hv pps_nil).run pins _ σ _ (one1 _) I4 (q _ hn2)) fun ws s2 ⟨ps, H4, I5, rel, y⟩ => ?_)))
  generalize h'.objs.size = p2 at *
  match ps, y, rel with
  | [(x, y1)], y, rel =>
    obtain ⟨key, ks, ex, g1, ne2, g2, ls, q2⟩ := (show ∃ k ks, x = kV k ∧ H4 p2 = some (.dK []) ∧ p2 ≠ p ∧ H4 p = some (.dK ks) ∧ ks.length < sizeLine ∧ Q (.ref p) (upd (upd H4 p2 (.dK [(k, y1)])) p (.dK (putK ks k y1))) from y)
    subst ex
    obtain ⟨rs, c, rk⟩ := carries_of (P := X.prog) (w := X.w) (kvs := [(key, y1)]) rel
    obtain ⟨z3, hp3, vs3, r3, d3⟩ := dk_of I5.hok g1
    cases r3
    refine ⟨rs, c, d3, fun h4 dd4 hs4 => ?_⟩
    have e4 : (mergeK [] [(key, y1)]) = [(key, y1)] := rfl
    have rk2 := rk.merge (kvs := []) (vs := []) .nil
    rw [e4] at rk2
    have I6 : Inv X pins σ (upd H4 p2 (.dK [(key, y1)])) { s2 with heap := h4, toks := s2.toks + ws.length } := d_write I5 (by rw [g1]; exact True.intro) hs4 (let ⟨q, _, _, hq, _⟩ := dd4; ⟨q, hq⟩) (dk_new (by show 1 ≤ sizeLine; decide) hp3 rk2 dd4)
    have g3 : (upd H4 p2 (.dK [(key, y1)])) p = some (.dK ks) := by rw [upd_ne (Ne.symm ne2)]; exact g2
    obtain ⟨z5, hp5, vs5, r5, d5⟩ := dk_of I6.hok g3
    have l5 : ks.length = vs5.length := Paired.length r5
    have lk : (merged [] rs).length = 1 := (Paired.length rk2).symm
    refine wpAny_bind (wpAny_onRaise (wpAny_holding (mergeMapping_pairs (knd := mixKind X.prog X.w) (Ne.symm ne2) hp3 d5 dd4 (fun h5 dd5 _ hs5 => ?_) (by rw [lk]; omega))))
    have rk5 := rk2.merge r5
    have I7 := d_write (s := { s2 with heap := h4, toks := s2.toks + ws.length }) (h' := h5) (t' := s2.toks + ws.length) (ob := .dK (putK ks key y1)) I6 (by rw [g3]; exact True.intro) hs5 (let ⟨q, _, _, hq, _⟩ := dd5; ⟨q, hq⟩) (dk_new (by have := length_putK ks key y1; omega) hp5 rk5 dd5)
    refine wpAny_pure (wpAny_pure ⟨.ref p, _, I7, rfl, q2⟩)
end
end Nn

set_option autoImplicit false
set_option maxHeartbeats 2000000
/-! tuple(d.items()) -/
namespace PySem
open Sem (wp)
open AutoSeq1 (wpAny_loadPart')
section
variable {K : Type} [DecidableEq K] {prog : Program} {w : World} {knd : KeyKind prog w K} {A : Around} {E : Value → Shared → Prop} {s : Shared} {r d : Addr} {kvs : List (K × Value)} {ep : Nat}
theorem code_tuple_new_items {Q₁ : Value → Shared → Prop} (hh : A.handled = none) (hv : s.heap.IsItemsView r d) (hm : s.heap.DictAt knd d kvs ep) (hn : kvs.length ≤ sizeLine)
    (h : ∀ (h' : Heap) (tk : Nat) (as : List Addr), (∀ b o, s.heap.get? b = some o → h'.get? b = some o) → as.length = kvs.length → PySem.W.KdxG knd kvs s.heap.objs.size h' as → Q₁ (.ref h'.objs.size) { s with heap := h'.push { cls := .type "tuple", data := .seq (as.map Value.ref).toArray }, toks := tk }) :
    codeAny (model prog w) A (.call (.builtin "tuple.__new__") ⟨[.type "tuple", .ref r], []⟩) (wants Q₁ E) s := by
  refine codeAny_of_tree ?_
  show wpAny _ A.in1 (do checkBuiltinCall "tuple.__new__" ⟨[.type "tuple", .ref r], []⟩; again (.builtin "tuple.__new__" ⟨[.type "tuple", .ref r], []⟩)) _ _ s
  refine wpAny_bind (wpAny_of_eq (F.newCall_tuple_1 _) (wpAny_pure ⟨plainId_quiet F.plain_tuple_new _, codeAny_builtin F.entry_tuple_new ?_⟩))
  rw [Around.under_plainId F.plain_tuple_new _]
  have hsub := sub_tuple_self
  have hinit := init_tuple_lookup
  have hmh := madeHere_tuple
  have hTI : s.TypeIs (.ref r) "dict_items" := let ⟨o, ho, hc, _⟩ := hv; ⟨o, ho, hc⟩
  have hh1 : A.in1.handled = none := hh
  wp_walk using wpAny_typeOf hTI, PySem.W.kdx_collect (knd := knd) (A := A.in1) hh1 hv hm hn
  intro h' tk as hk hl hG
  show wpAny _ _ (Builtin.Tuple.tupleExact (as.map Value.ref).toArray >>= fun v => ret v) _ _ _
  unfold Builtin.Tuple.tupleExact
  refine wpAny_bind (wpAny_newObj_type ?_ (by show (as.map Value.ref).toArray.size ≤ sizeLine; rw [List.size_toArray, List.length_map]; omega))
  refine wpAny_pure ?_
  exact h h' tk as hk hl hG
theorem call_tuple_items {Q : Value → Shared → Prop} (hh : A.handled = none) (hv : s.heap.IsItemsView r d) (hm : s.heap.DictAt knd d kvs ep) (hn : kvs.length ≤ sizeLine)
    (hQ : ∀ (h' : Heap) (tk : Nat) (as : List Addr), (∀ b o, s.heap.get? b = some o → h'.get? b = some o) → as.length = kvs.length → PySem.W.KdxG knd kvs s.heap.objs.size h' as → Q (.ref h'.objs.size) { s with heap := h'.push { cls := .type "tuple", data := .seq (as.map Value.ref).toArray }, toks := tk }) :
    wpAny (model prog w) A (call (.type "tuple") [.ref r]) Q E s := by
  refine callType_codes (Q₁ := fun obj s₁ => s₁.TypeIs obj "tuple" ∧ Q obj s₁) F.called_tuple (F.typeCall_tuple_1 _) F.entry_object_init
    (code_tuple_new_items (knd := knd) (A := A.in1) hh hv hm hn fun h' tk as hk hl hG => ⟨⟨_, Heap.get?_push_size _ rfl, rfl⟩, hQ h' tk as hk hl hG⟩) fun obj s₁ h₁ => ?_
  exact ⟨h₁.1, F.args_object_init_2 obj _, object_init_meets F.called_tuple.init.lookup F.called_tuple.made (by decide) prog w A.in1 _ s₁ ⟨h₁.1, rfl, h₁.2⟩⟩
end
end PySem
namespace Nn
open PySem PySem.Spec PyProof.Rows L2 LiI
def rTupItems : V → Hp → VK → Prop := fun x H Q => ∃ (d : Addr) (kvs : List (Key × V)), x = .ref d ∧ H d = some (.dK kvs) ∧
  ∀ (H' : Hp) (p : Addr) (ts : List Addr), (∀ b o, H b = some o → H' b = some o) → H p = none → H' p = some (.tup (ts.map V.ref)) → Paired (fun (t : Addr) (q : Key × V) => H' t = some (.tup [kV q.1, q.2])) ts kvs → Q (.ref p) H'
def tTupItems (te : TE) : TE := fun σ H Q => te σ H fun x H1 => rTupItems x H1 Q
theorem paired_imp {α β : Type} {F G : α → β → Prop} (h : ∀ x y, F x y → G x y) : ∀ {xs : List α} {ys : List β}, Paired F xs ys → Paired G xs ys
  | _, _, .nil => .nil
  | _, _, .cons a t => .cons (h _ _ a) (paired_imp h t)
section
variable {X : Cx} {e : Expr} {te : TE} {p apos cpos pos : Pos}
theorem tups_laid {pins : List (Addr × Obj)} {σ : L2.St} {H : Hp} {s : Shared} {h' : Heap} {tk : Nat} {kvs : List (Key × V)} {vs : List (Key × Value)} {as : List Addr} (I : Inv X pins σ H s) (kv : KV kvs vs)
    (hk : ∀ b o, s.heap.get? b = some o → h'.get? b = some o) (hl : as.length = vs.length) (hG : PySem.W.KdxG (mixKind X.prog X.w) vs s.heap.objs.size h' as) :
    ∃ H' : Hp, (∀ b o, H b = some o → H' b = some o) ∧ Paired (fun (t : Addr) (q : Key × V) => H' t = some (.tup [kV q.1, q.2])) as kvs ∧ Inv X pins σ H' { s with heap := h', toks := tk } := by
  have lk : kvs.length = vs.length := Paired.length kv
  have nd : as.Nodup := List.Pairwise.imp (fun {a b} (h : a < b) => Nat.ne_of_lt h) hG.rise
  have new : ∀ t ∈ as, H t = none := fun t ht => I.hok.fresh (Nat.le_of_lt (hG.above t ht))
  have atP := putT_at as kvs H (by omega) nd
  have off : ∀ b, b ∉ as → putT H as kvs b = H b := fun b h1 => putT_off as kvs _ h1
  have low : ∀ b o, s.heap.get? b = some o → b ∉ as := fun b o e => fun z => absurd (Heap.lt_size e) (Nat.not_lt.mpr (Nat.le_of_lt (hG.above b z)))
  have kp : ∀ b u, H b = some u → (putT H as kvs) b = some u := fun b u e => by
    rw [off b (fun z => by rw [new b z] at e; cases e)]
    exact e
  refine ⟨putT H as kvs, kp, atP, ?_⟩
  refine I.call' (ch := []) rfl ⟨fun b o q _ _ _ => hk b o q, fun b o q _ _ _ => ⟨o.slots, hk b o q⟩, fun b o q n _ => ?_, fun b o q _ => ⟨o, hk b o q⟩, fun b xs q => kp b _ q, fun b o u q => kp b _ q, fun b ps q => ⟨#[], by rw [kp b _ q]; simp⟩⟩ (fun b u q => ?_) I.bare fun b z => by simp at z
  · rw [off b (low b o q)]
    exact n
  · by_cases hb : b ∈ as
    · obtain ⟨j, pk, e1, e2, e3⟩ := paired_ix atP hb
      rw [e3] at q
      cases q
      obtain ⟨key, k, x, f1, f2, f3⟩ := hG.pairs j b e1
      obtain ⟨qv, g1, g2, g3⟩ := LiI.paired_get kv e2
      rw [f1] at g1
      cases g1
      have rk : RelV (kV pk.1) key := by
        rw [g2]
        exact relV_key (show keyIs k key = true from f2)
      exact ⟨by show 2 ≤ sizeLine; decide, [key, x], .cons rk (.cons g3 .nil), ⟨_, f3, rfl, _, rfl⟩⟩
    · rw [off b hb] at q
      exact (I.hok b u q).stay (fun d v _ y => hk d v y) (fun d y => kp d _ y) fun d xs y => kp d _ y
/-- tuple(e.items()) -/
theorem pe_tupItems (hc : X.calm = true) (he : PE X e te) (hg : Gl X "tuple") (hm : X.mg "tuple" = none) (hv : bootBuiltins "tuple" = some (.type "tuple")) (hbase : attributeBase e "items" X.env (eval e X.env) = eval e X.env := by rfl) (hline : (apos.endLine == cpos.line) = true := by rfl)
    (hs : starEach [.Call (.Attribute e "items" apos) [] [] cpos] X.env = (false, eval (.Call (.Attribute e "items" apos) [] [] cpos) X.env) :: starEach [] X.env := by rfl) :
    PE X (.Call (.Name "tuple" p) [.Call (.Attribute e "items" apos) [] [] cpos] [] pos) (tTupItems te) := by
  refine ⟨fun pins s σ H Q I hq => ?_⟩
  refine wpAny_Call_Name_kw (ld_blt I hg hm hv ?_)
  refine PyProof.Rows.callWith_type1 ?_ hs rfl
  rw [hs]
  show wpAny _ _ (spliced ((false, eval (.Call (.Attribute e "items" apos) [] [] cpos) X.env) :: backTo pos (starEach [] X.env))) _ _ s
  refine Calls.spliced_cons ?_
  refine wpAny_Call_method (T := "dict") (id := "dict.items") hbase rfl hline F.plainAttrs_dict F.slot_dict_items F.type_dict_items (thn (he.run pins s σ H _ I hq) fun u s1 ⟨x, H1, I1, rx, d, kvs, ex, hd, q⟩ => ?_)
  subst ex
  obtain rfl : u = Value.ref d := rx
  obtain ⟨hz, hs0, vs, kv, hdo⟩ := I1.hok d _ hd
  obtain ⟨ep, hat⟩ := hdo.dictAt
  have lk : kvs.length = vs.length := Paired.length kv
  have I2 : Inv X pins σ H1 { s1 with heap := s1.heap.push { cls := .type "dict_items", data := .fields #[.ref d] } } := I1.kept (t' := s1.toks) fun b ob q => Heap.get?_push_of_some _ q
  refine ⟨hdo.typeIs, hdo.mapOf.noDict, ?_⟩
  show wpAny _ _ (callWith cpos (.builtin "dict.items") [.ref d] [] []) _ X.xe s1
  refine method_meetsIn F.slot_dict_items F.entry_dict_items rfl (PySem.evalArgs_none ⟨rfl, hdo.typeIs, F.args_dict_items_1 _, _, meets_dict_items (mixKind X.prog X.w) d hs0, ⟨vs, hdo⟩, ?_⟩)
  refine Calls.spliced_nil ?_
  refine PySem.call_tuple_items (knd := mixKind X.prog X.w) (kvs := vs) (ep := ep) (I1.ok.hd hc) ⟨_, Heap.get?_push_size _ rfl, rfl, rfl⟩ (hat.push _) (by omega) fun h' tk as hk hl hG => ?_
  obtain ⟨H', k1, k2, J⟩ := tups_laid (tk := tk) I2 kv hk hl hG
  have n1 := J.hok.fresh (Nat.le_refl h'.objs.size)
  have n0 : H1 h'.objs.size = none := by
    cases e0 : H1 h'.objs.size with
    | none => rfl
    | some o =>
      rw [k1 _ _ e0] at n1
      cases n1
  have vr : Vals (as.map V.ref) (as.map Value.ref) := LiI.vals_refs as
  have J2 := J.laid (a := h'.objs.size) (o := .tup (as.map V.ref)) (h' := h'.push { cls := .type "tuple", data := .seq (as.map Value.ref).toArray }) (t' := tk) (fun _ _ q => Heap.get?_push_of_some _ q) (Nat.le_refl _)
    (show ObjOk X.prog X.w _ _ _ (.tup (as.map V.ref)) from ⟨by rw [List.length_map]; omega, _, vr, IsTup.new _ _⟩)
  refine ⟨.ref _, _, J2, rfl, q _ _ as (fun b o e => ?_) n0 upd_same ?_⟩
  · have hb : b ≠ h'.objs.size := ne_of_none e n0
    rw [upd_ne hb]
    exact k1 b o e
  · refine paired_imp (fun t q e => ?_) k2
    rw [upd_ne (ne_of_none e n1)]
    exact e
end
end Nn

set_option autoImplicit false
set_option maxHeartbeats 2000000
/-! fields: a dict of texts to texts -/
namespace Nn
open PySem PySem.Spec PyProof.Rows L2
abbrev Fs := List (Str × Str)
def kvsOf (fs : Fs) : List (Key × V) := fs.map fun x => (Sum.inr x.1, V.str x.2)
def getF (fs : Fs) (n : Str) : Option Str := (fs.find? fun x => decide (x.1 = n)).map Prod.snd
def setF (fs : Fs) (n s : Str) : Fs := if fs.any (fun x => decide (x.1 = n)) then fs.map fun x => if x.1 = n then (x.1, s) else x else fs ++ [(n, s)]
def eqF (fs gs : Fs) : Bool := decide (fs.length = gs.length) && fs.all fun x => decide (getF gs x.1 = some x.2)
theorem kvsOf_len (fs : Fs) : (kvsOf fs).length = fs.length := List.length_map _
theorem getF_cons_pos {x : Str × Str} {r : Fs} {n : Str} (h : x.1 = n) : getF (x :: r) n = some x.2 := by
  unfold getF
  rw [List.find?_cons_of_pos (by simpa using h)]
  rfl
theorem getF_cons_neg {x : Str × Str} {r : Fs} {n : Str} (h : ¬ x.1 = n) : getF (x :: r) n = getF r n := by
  unfold getF
  rw [List.find?_cons_of_neg (by simpa using h)]
theorem val_of : ∀ (fs : Fs) (n : Str), valV (kvsOf fs) (Sum.inr n) = (getF fs n).map V.str
  | [], n => rfl
  | x :: r, n => by
    by_cases h : x.1 = n
    · rw [getF_cons_pos h]
      exact valV_pos (p := ((Sum.inr x.1 : Key), V.str x.2)) (by rw [h])
    · rw [getF_cons_neg h, ← val_of r n]
      exact valV_neg (p := ((Sum.inr x.1 : Key), V.str x.2)) (fun e => h (Sum.inr.inj e))
theorem put_of (fs : Fs) (n s : Str) : putK (kvsOf fs) (Sum.inr n) (V.str s) = kvsOf (setF fs n s) := by
  have any_eq : ((kvsOf fs).any fun kv => decide (kv.1 = (Sum.inr n : Key))) = fs.any fun x => decide (x.1 = n) := by
    unfold kvsOf
    rw [List.any_map]
    congr 1
    funext x
    exact decide_eq_decide.mpr ⟨fun e => Sum.inr.inj e, fun e => congrArg Sum.inr e⟩
  unfold putK setF
  rw [any_eq]
  cases h : fs.any fun x => decide (x.1 = n)
  · rw [if_neg Bool.false_ne_true, if_neg Bool.false_ne_true]
    unfold kvsOf
    rw [List.map_append]
    rfl
  · rw [if_pos rfl, if_pos rfl]
    unfold kvsOf
    rw [List.map_map, List.map_map]
    refine List.map_congr_left fun x _ => ?_
    by_cases e : x.1 = n
    · have e2 : (Sum.inr x.1 : Key) = Sum.inr n := congrArg Sum.inr e
      show (if (Sum.inr x.1 : Key) = Sum.inr n then _ else _) = _
      rw [if_pos e2]
      show _ = ((Sum.inr (if x.1 = n then (x.1, s) else x).1 : Key), V.str (if x.1 = n then (x.1, s) else x).2)
      rw [if_pos e]
    · show (if (Sum.inr x.1 : Key) = Sum.inr n then _ else _) = _
      rw [if_neg (fun z => e (Sum.inr.inj z))]
      show _ = ((Sum.inr (if x.1 = n then (x.1, s) else x).1 : Key), V.str (if x.1 = n then (x.1, s) else x).2)
      rw [if_neg e]
theorem hits_F {P : Program} {w : World} {A : Around} {s : Shared} {gs : Fs} {vb : List (Key × Value)} (rb : KV (kvsOf gs) vb) : ∀ {fs : Fs} {va : List (Key × Value)}, KV (kvsOf fs) va → PySem.W.KeqHits A s vb va (fs.all fun x => decide (getF gs x.1 = some x.2))
  | [], _, .nil => .nil
  | x :: r, _, .cons (b := q) h t => by
    have ih := hits_F (P := P) (w := w) (A := A) (s := s) rb (fs := r) t
    obtain ⟨h1, h2⟩ := h
    obtain ⟨k, v⟩ := q
    have h1 : (Sum.inr x.1 : Key) = k := h1
    subst h1
    obtain ⟨t1, rfl⟩ : ∃ t, v = Value.str x.2 t := (show ∃ t, v = Value.str x.2 t from h2)
    have rr : RelO (valV (kvsOf gs) (Sum.inr x.1)) (valueAt vb (Sum.inr x.1)) := rb.val _
    rw [val_of] at rr
    cases hg : getF gs x.1 with
    | none =>
      rw [hg] at rr
      have e : valueAt vb (Sum.inr x.1 : Key) = none := by
        cases hv : valueAt vb (Sum.inr x.1 : Key) with
        | none => rfl
        | some y =>
          rw [hv] at rr
          exact rr.elim
      have e2 : ((x :: r).all fun x => decide (getF gs x.1 = some x.2)) = false := by
        rw [List.all_cons, hg]
        simp
      rw [e2]
      exact .miss e
    | some z =>
      rw [hg] at rr
      obtain ⟨y, hy, ry⟩ := RelO.some_of (v := V.str z) rr
      obtain ⟨t2, rfl⟩ : ∃ t, y = Value.str z t := (show ∃ t, y = Value.str z t from ry)
      have e2 : ((x :: r).all fun x => decide (getF gs x.1 = some x.2)) = ((x.2 == z) && r.all fun x => decide (getF gs x.1 = some x.2)) := by
        rw [List.all_cons, hg]
        congr 1
        by_cases e : x.2 = z
        · rw [e]; simp
        · rw [decide_eq_false (fun y => e (Option.some.inj y).symm)]
          exact (beq_eq_false_iff_ne.mpr e).symm
      rw [e2]
      exact .hit hy (SeqAt.EqAt.str_str x.2 t1 z t2) ih
section
variable {X : Cx}
def rEqF : R2 := fun x y H Q => ∃ a b fs gs, x = .ref a ∧ y = .ref b ∧ H a = some (.dK (kvsOf fs)) ∧ H b = some (.dK (kvsOf gs)) ∧ Q (.bl (eqF fs gs)) H
theorem op_eqF (hu : X.A.units < cLine) : OpR X (compareOp .Eq) rEqF := by
  intro pins s σ H x y v u Q I rx ry h
  obtain ⟨a, b, fs, gs, rfl, rfl, ea, eb, q⟩ := h
  obtain rfl : v = Value.ref a := rx
  obtain rfl : u = Value.ref b := ry
  obtain ⟨_, ya, va, ra, da⟩ := (show ObjOk X.prog X.w H s.heap a (.dK (kvsOf fs)) from I.hok a _ ea)
  obtain ⟨_, yb, vb, rb, db⟩ := (show ObjOk X.prog X.w H s.heap b (.dK (kvsOf gs)) from I.hok b _ eb)
  have la : va.length = fs.length := by rw [← kvsOf_len fs]; exact (Paired.length ra).symm
  have lb : vb.length = gs.length := by rw [← kvsOf_len gs]; exact (Paired.length rb).symm
  refine PySem.W.keq_eq (knd := mixKind X.prog X.w) ya yb da db hu (fun _ => hits_F (P := X.prog) (w := X.w) rb ra) (fin_bl I q ?_)
  unfold eqF
  rw [la, lb]
  rfl
end
end Nn

set_option autoImplicit false
set_option maxHeartbeats 2000000
/-! dicts by a comprehension -/
namespace Nn
open PySem PySem.Spec PyProof.Rows L2
section
variable {J : It} {n : Nat} {G : Hp → Prop} {Y : Nat → Hp → V → Hp → Prop}
theorem dc_it (w : Walk J n G Y) {g : TG} {tt : TT} {tk tv : TE} {vs : List Nat} {σ : L2.St} {H1 : Hp} {D : Addr} {Qd : Hp → Prop} (Pv : Nat → Hp → Prop) (h0 : Pv 0 (upd H1 D (.dK []))) (hG : ∀ i H, i ≤ n → Pv i H → G H)
    (hs : ∀ i x H H', i < n → Pv i H → Y i H x H' → g x (wipe σ vs) H' fun σ2 H2 => wipe σ2 vs = wipe σ vs ∧ tt σ2 H2 fun b H3 =>
      if b = true then tk σ2 H3 fun y H4 => tv σ2 H4 fun z H5 => ∃ kvs k, y = kV k ∧ H5 D = some (.dK kvs) ∧ kvs.length < sizeLine ∧ Pv (i + 1) (upd H5 D (.dK (putK kvs k z))) else Pv (i + 1) H3) (hd : ∀ H, Pv n H → Qd H) :
    ∃ W : Nat → Nat → Hp → Prop, (∃ m, W 0 m (upd H1 D (.dK []))) ∧ ∀ i m H, W i m H →
      (J.stop i H ∧ Qd H) ∨ (J.go i H ∧ ∃ Nx : Hp → Prop, (∀ H', Nx H' → ∃ m', m' < m ∧ W (i + 1) m' H') ∧ ∀ x H', J.yld i H x H' → g x (wipe σ vs) H' fun σ2 H2 => wipe σ2 vs = wipe σ vs ∧ tt σ2 H2 fun b H3 =>
        if b = true then tk σ2 H3 fun y H4 => tv σ2 H4 fun z H5 => ∃ kvs k, y = kV k ∧ H5 D = some (.dK kvs) ∧ kvs.length < sizeLine ∧ Nx (upd H5 D (.dK (putK kvs k z))) else Nx H3) := by
  refine ⟨fun i m H => m = n - i ∧ i ≤ n ∧ Pv i H, ⟨n, by simp, Nat.zero_le _, h0⟩, ?_⟩
  rintro i m H ⟨rfl, hi, p⟩
  have q := hG i H hi p
  by_cases hlt : i < n
  · exact .inr ⟨w.goes i H hlt q, Pv (i + 1), fun H' p' => ⟨n - (i + 1), by omega, rfl, hlt, p'⟩, fun x H' y => hs i x H H' hlt p (w.yields i H x H' hlt q y)⟩
  · have e : i = n := by omega
    subst e
    exact .inl ⟨w.stops H q, hd H p⟩
end
end Nn

set_option autoImplicit false
set_option maxHeartbeats 2000000
namespace En
open PySem PySem.Spec PyProof.Rows L2
/-! ### enumerate(text) -/
/-- the signs of a text, each in a new pair -/
def Itx (x : Str) : It := ⟨fun i _ => i < x.cps.size, fun i H v H' => ∃ T c, v = .ref T ∧ H T = none ∧ x.cps[i]? = some c ∧ H' = upd H T (.tup [.int (i : Nat), .str ⟨#[c]⟩]), fun i _ => i = x.cps.size⟩
theorem turn_enumS {P : Program} {w : World} {K : PySem.W.Frag} {elts : List Expr} {kk : Nat} {tpos : Pos} (e it : Addr) (x : Str) (t : Tok) :
    Turn P w K (.Tuple elts kk tpos) (Itx x) [e, it] e (fun i h => (∃ old, IsEnum h e it ((i : Nat) : Int) old) ∧ h.IsStrIter it (strIterType x) x t i ∧ e ≠ it) where
  mem := by simp
  obj := fun i h st b hb => by
    obtain ⟨⟨old, he⟩, ⟨o, ho, hc, hd⟩, _⟩ := st
    have e' : b = e ∨ b = it := by simpa using hb
    rcases e' with z | z
    · rw [z]; exact ⟨_, he, fun v q => nomatch q⟩
    · rw [z]; exact ⟨o, ho, fun v q => by rw [hd] at q; cases q⟩
  keep := fun i h h' st k => by
    obtain ⟨⟨old, he⟩, ⟨o, ho, r⟩, hne⟩ := st
    exact ⟨⟨old, k e (by simp) _ he⟩, ⟨o, k it (by simp) _ ho, r⟩, hne⟩
  item := by
    intro X hP hw hK hc i pins s σ H E I hf st hg
    subst hP hw hK
    obtain ⟨⟨old, he⟩, hit, hne⟩ := st
    have hel : e < s.heap.objs.size := Heap.lt_size he
    have hil : it < s.heap.objs.size := by obtain ⟨_, q, _⟩ := hit; exact Heap.lt_size q
    refine wpAny_pyNext_enum_itemD (Draws.text (A := X.A.in1) (I.ok.hd hc) it x t) he hit hg hne (by simpa using hne) fun u h' tk hu ho hit' hT hsz hk => ?_
    obtain ⟨c, u0, hcx, rfl⟩ := hu
    refine ⟨_, rfl, wpAny_letOwnedTupleGo_enum (s := { s with heap := h', toks := tk + 1 }) ho fun h'' he' sb => ?_⟩
    have hT2 : h''.get? s.heap.objs.size = some { cls := .type "tuple", data := .seq #[.int i tk, .str ⟨#[c]⟩ u0] } := (sb.2 _ (Nat.ne_of_gt hel)).trans hT
    have new : ObjOk X.prog X.w (upd H s.heap.objs.size (.tup [.int (i : Nat), .str ⟨#[c]⟩])) h'' s.heap.objs.size (.tup [.int (i : Nat), .str ⟨#[c]⟩]) :=
      ⟨by show 2 ≤ sizeLine; decide, [.int i tk, .str ⟨#[c]⟩ u0], .cons ⟨_, rfl⟩ (.cons ⟨_, rfl⟩ .nil), ⟨_, hT2, rfl, _, rfl⟩⟩
    have I1 : Inv X pins σ (upd H s.heap.objs.size (.tup [.int (i : Nat), .str ⟨#[c]⟩])) { s with heap := h'', toks := tk + 1 } :=
      I.turnedNew (ch := [e, it]) (fun b ob hb q => (sb.2 b (fun z => hb (by simp [z]))).trans (hk b ob (fun z => hb (by simp [z])) (fun z => hb (by simp [z])) q)) hf (Nat.le_refl _) new
    refine ⟨.ref s.heap.objs.size, _, I1, rfl, ⟨_, c, rfl, I.hok.fresh (Nat.le_refl _), hcx, rfl⟩, ⟨⟨.str ⟨#[c]⟩ u0, ?_⟩, ?_, hne⟩, fun b hb => ?_⟩
    · have e1 : ((i + 1 : Nat) : Int) = (i : Int) + 1 := by omega
      rw [e1]; exact he'
    · obtain ⟨o, ho, r⟩ := hit'
      exact ⟨o, (sb.2 it (Ne.symm hne)).trans ho, r⟩
    · have hb' : b < s.heap.objs.size := by
        have e' : b = e ∨ b = it := by simpa using hb
        rcases e' with z | z
        · rw [z]; exact hel
        · rw [z]; exact hil
      rw [upd_ne (Nat.ne_of_lt hb')]
      exact (hf b hb).1
  done := by
    intro X hP hw hK hc i pins s σ H E I hf st hg
    subst hP hw hK
    obtain ⟨⟨old, he⟩, hit, hne⟩ := st
    obtain ⟨f0, f1, f2, f3, f4, f5⟩ := hf it (by simp)
    have hg' : i = x.cps.size := hg
    subst hg'
    exact wpAny_pyNext_enum_endD (Draws.text (A := X.A.in1) (I.ok.hd hc) it x t) he hit fun h' eb => ⟨rfl, I.turned (t' := s.toks) (fun b o hb q => eb b o hb q) f0 f1 f3 f4 f5⟩
  self := fun A i s Q E st h => let ⟨⟨_, he⟩, _⟩ := st; wpAny_pyIter_enum he h
def iEnumS (ta : TA) : TI := fun σ H R => ta σ H fun vs H1 => ∃ x, vs = [.str x] ∧ R (Itx x) H1
theorem pi_enumS {X : Cx} {e : Expr} {ta : TA} {p pos tpos : Pos} {elts : List Expr} {kk : Nat} (hg : Gl X "enumerate") (hm : X.mg "enumerate" = none) (ha : PA X [e] ta) (hs : starEach [e] X.env = [(false, eval e X.env)] := by rfl) :
    PI X (.Tuple elts kk tpos) (.Call (.Name "enumerate" p) [e] [] pos) (iEnumS ta) := by
  refine ⟨fun pins s σ H R I h => ?_⟩
  refine Call_ (ld_blt I hg hm boot_enumerate (PyProof.Rows.callWith_type1 (thn (ha.run pos pins s σ H _ I h) fun us s1 ⟨vs, H1, I1, r1, q1⟩ => ?_) hs rfl))
  obtain ⟨x, ex, q⟩ := q1
  subst ex
  cases r1 with
  | cons r rr =>
    cases rr
    obtain ⟨t, rfl⟩ := r
    refine call_enumerate_str fun h' he hit hsz hk => wpAny_pyIter_enum he ?_
    have I2 : L2.Inv X pins σ H1 { s1 with heap := h' } := I1.kept (t' := s1.toks) hk
    refine ⟨s1.heap.objs.size + 1, [s1.heap.objs.size + 1, s1.heap.objs.size], _, _, H1, rfl, I2, turn_enumS (s1.heap.objs.size + 1) s1.heap.objs.size x t, ⟨⟨.none, he⟩, hit, Nat.succ_ne_self _⟩, fun b hb => ?_, q⟩
    have e' : b = s1.heap.objs.size + 1 ∨ b = s1.heap.objs.size := by simpa using hb
    have hle : s1.heap.objs.size ≤ b := by
      rcases e' with z | z
      · rw [z]; exact Nat.le_add_right _ _
      · rw [z]; exact Nat.le_refl _
    exact I1.fpOk hle (I1.hok.fresh hle)
/-- the loop over enumerate(text), its pair taken apart by g -/
theorem for_enumS {x : Str} {g : TG} {tb : TS} {D : Ends} {σ : L2.St} {H : Hp} (Pv : Nat → L2.St → Hp → Prop) (h0 : Pv 0 σ H)
    (hs : ∀ i c T σ H, x.cps[i]? = some c → Pv i σ H → H T = none → g (.ref T) σ (upd H T (.tup [.int (i : Nat), .str ⟨#[c]⟩])) fun σ2 H2 => tb { D with nx := Pv (i + 1), ct := Pv (i + 1), bk := D.nx } σ2 H2)
    (hd : ∀ σ H, Pv x.cps.size σ H → D.nx σ H) :
    ∃ W : Nat → Nat → L2.St → Hp → Prop, (∃ m, W 0 m σ H) ∧ ∀ i m σ H, W i m σ H →
      ((Itx x).stop i H ∧ D.nx σ H) ∨ ((Itx x).go i H ∧ ∃ N : L2.St → Hp → Prop, (∀ σ' H', N σ' H' → ∃ m', m' < m ∧ W (i + 1) m' σ' H') ∧ ∀ v H', (Itx x).yld i H v H' → g v σ H' fun σ2 H2 => tb { D with nx := N, ct := N, bk := D.nx } σ2 H2) := by
  refine ⟨fun i m σ H => m = x.cps.size - i ∧ i ≤ x.cps.size ∧ Pv i σ H, ⟨x.cps.size, by simp, Nat.zero_le _, h0⟩, ?_⟩
  rintro i m σ H ⟨rfl, hi, p⟩
  by_cases hlt : i < x.cps.size
  · refine .inr ⟨hlt, Pv (i + 1), fun σ' H' p' => ⟨x.cps.size - (i + 1), by omega, rfl, hlt, p'⟩, fun v H' y => ?_⟩
    obtain ⟨T, c, rfl, hT, hc, rfl⟩ := y
    exact hs i c T σ H hc p hT
  · have e : i = x.cps.size := by omega
    exact .inl ⟨e, hd _ _ (by rw [← e]; exact p)⟩
end En

set_option autoImplicit false
set_option maxHeartbeats 2000000
/-! enumerate of a tuple; of a list or a tuple -/
namespace PySem
open Sem (wp)
open AutoSeq1 (wpAny_loadPart')
theorem meets_enumerate_newT (l : Addr) (items : Array Value) :
    Meets (Builtin.«enumerate.__new__» ⟨[.type "enumerate", .ref l], []⟩) (fun _ R s => s.heap.IsTuple l items ∧
      R (.ok (.ret (.ref (s.heap.push { cls := .type "tuple_iterator", data := .fields #[.ref l, .int 0 0] }).objs.size)))
        { s with heap := (s.heap.push { cls := .type "tuple_iterator", data := .fields #[.ref l, .int 0 0] }).push { cls := .type "enumerate", data := .fields #[.none, .bool false, .ref s.heap.objs.size, rawInt 0, .none, .none] } }) :=
  .of_wp fun prog w A R s h => by
    obtain ⟨hp, g, d, tk, os⟩ := s; obtain ⟨hL, h⟩ := h
    obtain ⟨o, hl, hc⟩ := id hL
    have hsub := sub_enumerate
    wp_walk using wpAny_loadPart' hl
    refine wpAny_stack_any fun st => wpAny_pure ?_
    split
    · rename_i c _ _ _ _ _
      cases (c == Value.type "enumerate")
      · wp_walk using wpAny_loadPart' hl, wpAny_pyIter_tuple hL
        exact ⟨_, rfl, h⟩
      · wp_walk using wpAny_loadPart' hl, wpAny_pyIter_tuple hL
        exact ⟨_, rfl, h⟩
    · wp_walk using wpAny_loadPart' hl, wpAny_pyIter_tuple hL
      exact ⟨_, rfl, h⟩
section
variable {prog : Program} {w : World} {A : Around} {E : Value → Shared → Prop} {s : Shared}
theorem call_enumerate_tuple {l : Addr} {items : Array Value} {Q : Value → Shared → Prop} (hL : s.heap.IsTuple l items)
    (h : ∀ h', IsEnum h' (s.heap.objs.size + 1) s.heap.objs.size 0 .none → h'.IsTupleIter s.heap.objs.size l 0 → h'.objs.size = s.heap.objs.size + 2 →
      (∀ b o, s.heap.get? b = some o → h'.get? b = some o) → Q (.ref (s.heap.objs.size + 1)) { s with heap := h' }) :
    wpAny (model prog w) A (call (.type "enumerate") [.ref l]) Q E s := by
  refine callType_new F.called_enumerate (by decide) (F.typeCall_enumerate_1 _) (F.newCall_enumerate_1 _) (fun obj => F.args_object_init_2 obj _) F.entry_enumerate_new
    (meets_enumerate_newT l items) ⟨hL, ?_⟩
  have hz : (s.heap.push { cls := .type "tuple_iterator", data := .fields #[.ref l, .int 0 0] }).objs.size = s.heap.objs.size + 1 := Heap.size_push ..
  show _ ∧ _
  rw [hz]
  have he : IsEnum ((s.heap.push { cls := .type "tuple_iterator", data := .fields #[.ref l, .int 0 0] }).push
      { cls := .type "enumerate", data := .fields #[.none, .bool false, .ref s.heap.objs.size, rawInt 0, .none, .none] }) (s.heap.objs.size + 1) s.heap.objs.size 0 .none := by
    have := Heap.get?_push_size (s.heap.push { cls := .type "tuple_iterator", data := .fields #[.ref l, .int 0 0] })
      (o := { cls := .type "enumerate", data := .fields #[.none, .bool false, .ref s.heap.objs.size, rawInt 0, .none, .none] }) rfl
    rw [hz] at this; exact this
  refine ⟨⟨_, he, rfl⟩, h _ he ⟨_, Heap.get?_push_of_some _ (Heap.get?_push_size _ rfl), rfl, rfl⟩ (by rw [Heap.size_push, hz]) fun b o x => Heap.get?_push_of_some _ (Heap.get?_push_of_some _ x)⟩
end
end PySem
namespace En
open PySem PySem.Spec PyProof.Rows L2
def Iet (K : PySem.W.Frag) (a : Addr) : It :=
  ⟨fun i H => ∃ (xs : List V) (x : V), SqT K H a xs ∧ xs[i]? = some x, fun i H v H' => ∃ T x, v = .ref T ∧ H T = none ∧ H' = upd H T (.tup [.int (i : Nat), x]) ∧ ∀ xs, SqT K H a xs → xs[i]? = some x, fun i H => ∃ xs : List V, SqT K H a xs ∧ xs.length = i⟩
theorem turn_enumT {P : Program} {w : World} {K : PySem.W.Frag} {elts : List Expr} {kk : Nat} {tpos : Pos} (a e it : Addr) :
    Turn P w K (.Tuple elts kk tpos) (Iet K a) [e, it] e (fun i h => (∃ old, IsEnum h e it ((i : Nat) : Int) old) ∧ h.IsTupleIter it a i ∧ e ≠ it) where
  mem := by simp
  obj := fun i h st b hb => by
    obtain ⟨⟨old, he⟩, ⟨o, ho, hc, hd⟩, _⟩ := st
    have e' : b = e ∨ b = it := by simpa using hb
    rcases e' with z | z
    · rw [z]; exact ⟨_, he, fun v q => nomatch q⟩
    · rw [z]; exact ⟨o, ho, fun v q => by rw [hd] at q; cases q⟩
  keep := fun i h h' st k => let ⟨⟨old, he⟩, hi, hne⟩ := st; ⟨⟨old, k e (by simp) _ he⟩, hi.at fun o q => k it (by simp) o q, hne⟩
  item := by
    intro X hP hw hK hc i pins s σ H E I hf st hg
    subst hP hw hK
    obtain ⟨⟨old, he⟩, hit, hne⟩ := st
    obtain ⟨xs, x, hq, hx⟩ := hg
    obtain ⟨its, rv, p, hz⟩ := I.tuple hq
    obtain ⟨u, hu, ru⟩ := rv.get hx
    have hel : e < s.heap.objs.size := Heap.lt_size he
    have hil : it < s.heap.objs.size := by obtain ⟨_, q, _⟩ := hit; exact Heap.lt_size q
    have pt : s.heap.IsTuple a its.toArray := p
    have nae : e ≠ a := fun z => by
      obtain ⟨o, ho, c, _⟩ := pt
      rw [← z, he] at ho
      cases ho
      exact absurd (Value.type.inj c) (by decide)
    have nai : a ≠ it := fun z => by
      obtain ⟨o, ho, c, _⟩ := pt
      obtain ⟨o2, ho2, c2, _⟩ := hit
      rw [z, ho2] at ho
      cases ho
      rw [c] at c2
      exact absurd (Value.type.inj c2) (by decide)
    refine wpAny_pyNext_enum_itemD (Draws.tuple (A := X.A.in1) (I.ok.hd hc) it a nai its.toArray) he ⟨hit, pt⟩ (by rw [List.size_toArray]; exact (List.getElem?_eq_some_iff.mp hu).1) hne (by simp [hne, nae]) fun u2 h' tk hu2 ho hit' hT hsz hk => ?_
    have e0 : u2 = u := by
      have h2 : its.toArray[i]? = some u2 := hu2
      have h3 : its[i]? = some u2 := by simpa using h2
      rw [hu] at h3
      exact (Option.some.inj h3).symm
    subst e0
    refine ⟨_, rfl, wpAny_letOwnedTupleGo_enum (s := { s with heap := h', toks := tk + 1 }) ho fun h'' he' sb => ?_⟩
    have hT2 : h''.get? s.heap.objs.size = some { cls := .type "tuple", data := .seq #[.int i tk, u2] } := (sb.2 _ (Nat.ne_of_gt hel)).trans hT
    have new : ObjOk X.prog X.w (upd H s.heap.objs.size (.tup [.int (i : Nat), x])) h'' s.heap.objs.size (.tup [.int (i : Nat), x]) :=
      ⟨by show 2 ≤ sizeLine; decide, [.int i tk, u2], .cons ⟨_, rfl⟩ (.cons ru .nil), ⟨_, hT2, rfl, _, rfl⟩⟩
    have I1 : Inv X pins σ (upd H s.heap.objs.size (.tup [.int (i : Nat), x])) { s with heap := h'', toks := tk + 1 } :=
      I.turnedNew (ch := [e, it]) (fun b ob hb q => (sb.2 b (fun z => hb (by simp [z]))).trans (hk b ob (fun z => hb (by simp [z])) (fun z => hb (by simp [z])) q)) hf (Nat.le_refl _) new
    refine ⟨.ref s.heap.objs.size, _, I1, rfl, ⟨_, x, rfl, I.hok.fresh (Nat.le_refl _), rfl, fun ys hy => by rw [I.tuple_inj hy hq]; exact hx⟩, ⟨⟨u2, ?_⟩, ?_, hne⟩, fun b hb => ?_⟩
    · have e1 : ((i + 1 : Nat) : Int) = (i : Int) + 1 := by omega
      rw [e1]; exact he'
    · exact hit'.1.at fun o q => (sb.2 it (Ne.symm hne)).trans q
    · have hb' : b < s.heap.objs.size := by
        have e' : b = e ∨ b = it := by simpa using hb
        rcases e' with z | z
        · rw [z]; exact hel
        · rw [z]; exact hil
      rw [upd_ne (Nat.ne_of_lt hb')]
      exact (hf b hb).1
  done := by
    intro X hP hw hK hc i pins s σ H E I hf st hg
    subst hP hw hK
    obtain ⟨⟨old, he⟩, hit, hne⟩ := st
    obtain ⟨xs, hq, hx⟩ := hg
    obtain ⟨its, rv, p, hz⟩ := I.tuple hq
    obtain ⟨f0, f1, f2, f3, f4, f5⟩ := hf it (by simp)
    have pt : s.heap.IsTuple a its.toArray := p
    have nai : a ≠ it := fun z => by
      obtain ⟨o, ho, c, _⟩ := pt
      obtain ⟨o2, ho2, c2, _⟩ := hit
      rw [z, ho2] at ho
      cases ho
      rw [c] at c2
      exact absurd (Value.type.inj c2) (by decide)
    have hl := rv.length
    refine wpAny_pyNext_enum_endD (Draws.tuple (A := X.A.in1) (I.ok.hd hc) it a nai its.toArray) he ⟨?_, pt⟩ fun h' eb => ⟨rfl, I.turned (t' := s.toks) (fun b o hb q => eb b o hb q) f0 f1 f3 f4 f5⟩
    have e2 : its.toArray.size = i := by rw [List.size_toArray, ← hl, hx]
    rw [e2]
    exact hit
  self := fun A i s Q E st h => let ⟨⟨_, he⟩, _⟩ := st; wpAny_pyIter_enum he h
def iEnumA (K : PySem.W.Frag) (ta : TA) : TI := fun σ H R => ta σ H fun vs H1 => ∃ a xs, vs = [.ref a] ∧ ((SqL K H1 a xs ∧ R (Ite K a) H1) ∨ (SqT K H1 a xs ∧ R (Iet K a) H1))
theorem pi_enumA {X : Cx} {e : Expr} {ta : TA} {p pos tpos : Pos} {elts : List Expr} {kk : Nat} (hg : Gl X "enumerate") (hm : X.mg "enumerate" = none) (ha : PA X [e] ta) (hs : starEach [e] X.env = [(false, eval e X.env)] := by rfl) :
    PI X (.Tuple elts kk tpos) (.Call (.Name "enumerate" p) [e] [] pos) (iEnumA X.K ta) := by
  refine ⟨fun pins s σ H R I h => ?_⟩
  refine Call_ (ld_blt I hg hm boot_enumerate (PyProof.Rows.callWith_type1 (thn (ha.run pos pins s σ H _ I h) fun us s1 ⟨vs, H1, I1, r1, q1⟩ => ?_) hs rfl))
  obtain ⟨a, xs, ex, q⟩ := q1
  subst ex
  cases r1 with
  | cons r rr =>
    cases rr
    cases r
    have lay : ∀ b, b ∈ [s1.heap.objs.size + 1, s1.heap.objs.size] → FpOk X pins H1 b := fun b hb => by
      have e' : b = s1.heap.objs.size + 1 ∨ b = s1.heap.objs.size := by simpa using hb
      have hle : s1.heap.objs.size ≤ b := by
        rcases e' with z | z
        · rw [z]; exact Nat.le_add_right _ _
        · rw [z]; exact Nat.le_refl _
      exact I1.fpOk hle (I1.hok.fresh hle)
    rcases q with ⟨hq, q⟩ | ⟨hq, q⟩
    · obtain ⟨its, rv, p', hz⟩ := I1.list hq
      refine call_enumerate_list p'.isList fun h' he hit hsz hk => wpAny_pyIter_enum he ?_
      have I2 : Inv X pins σ H1 { s1 with heap := h' } := I1.kept (t' := s1.toks) hk
      exact ⟨s1.heap.objs.size + 1, [s1.heap.objs.size + 1, s1.heap.objs.size], _, _, H1, rfl, I2, turn_enum a (s1.heap.objs.size + 1) s1.heap.objs.size, ⟨⟨.none, he⟩, hit, Nat.succ_ne_self _⟩, lay, q⟩
    · obtain ⟨its, rv, p', hz⟩ := I1.tuple hq
      refine call_enumerate_tuple (show s1.heap.IsTuple a its.toArray from p') fun h' he hit hsz hk => wpAny_pyIter_enum he ?_
      have I2 : Inv X pins σ H1 { s1 with heap := h' } := I1.kept (t' := s1.toks) hk
      exact ⟨s1.heap.objs.size + 1, [s1.heap.objs.size + 1, s1.heap.objs.size], _, _, H1, rfl, I2, turn_enumT a (s1.heap.objs.size + 1) s1.heap.objs.size, ⟨⟨.none, he⟩, hit, Nat.succ_ne_self _⟩, lay, q⟩
theorem walk_enumT {K : PySem.W.Frag} {a : Addr} {xs : List V} : Walk (Iet K a) xs.length (fun H => SqT K H a xs) (YPair (fun i => some (.int (i : Nat))) (fun i => xs[i]?)) := by
  refine ⟨fun i _ hi q => ⟨xs, xs[i], q, by simp [hi]⟩, fun _ q => ⟨xs, q, rfl⟩, fun i H v H' _ q y => ?_⟩
  obtain ⟨T, x, h1, h2, h3, h4⟩ := y
  exact ⟨T, .int (i : Nat), x, h1, h2, h3, rfl, h4 xs q⟩
end En

set_option autoImplicit false
set_option maxHeartbeats 2000000
/-! written dicts, asked by any text: get with a default, an item -/
namespace Nn
open PySem PySem.Spec PyProof.Rows L2
/-- the first of that name -/
def lookV (kvs : List (Str × V)) (z : Str) : Option V := (kvs.find? fun x => decide (x.1 = z)).map Prod.snd
/-- the written dict at a holds just these -/
def KTab (K : PySem.W.Frag) (w : World) (a : Addr) (kvs : List (Str × V)) : Prop := ∃ es n, KDict K w a es n ∧ ∀ z, ∃ r, PySem.W.nsIn K a z = some r ∧ RelO (lookV kvs z) r
/-- the keys in their order, by a look -/
def keysB (K : PySem.W.Frag) (a : Addr) (ks : List Str) : Bool := match K.lookup a with
  | some ⟨_, _, .dict es _, _⟩ => (decide (es.toList.length = ks.length) && (es.toList.zip ks).all fun p => p.1.key.isStr p.2) && !(es.toList.any (·.refKey))
  | _ => false
theorem find_keys {z : Str} : ∀ {es : List DictEntry} {ks : List Str}, es.length = ks.length → ((es.zip ks).all fun p => p.1.key.isStr p.2) = true → z ∉ ks → es.find? (·.key.isStr z) = none
  | [], _, _, _, _ => rfl
  | e :: r, [], h, _, _ => by cases h
  | e :: r, k :: ks, h, hall, hz => by
    rw [List.zip_cons_cons, List.all_cons, Bool.and_eq_true] at hall
    have ne : e.key.isStr z = false := by
      cases hk : e.key with
      | str x t =>
        have h1 := hall.1
        rw [hk] at h1
        have e1 : x = k := by simpa [Value.isStr] using h1
        have : x ≠ z := fun y => hz (by rw [← y, e1]; exact List.mem_cons_self ..)
        simpa [Value.isStr] using this
      | _ => rfl
    rw [List.find?_cons_of_neg (by rw [ne]; exact Bool.false_ne_true)]
    exact find_keys (by simpa using h) hall.2 fun y => hz (List.mem_cons_of_mem _ y)
theorem ktab_of {K : PySem.W.Frag} {w : World} {a : Addr} {es : Array DictEntry} {n : Nat} (D : KDict K w a es n) {kvs : List (Str × V)} (hk : keysB K a (kvs.map Prod.fst) = true)
    (hv : ∀ x ∈ kvs, ∃ u, PySem.W.nsIn K a x.1 = some (some u) ∧ RelV x.2 u) : KTab K w a kvs := by
  refine ⟨es, n, D, fun z => ?_⟩
  unfold keysB at hk
  rw [D.at_] at hk
  rw [Bool.and_eq_true, Bool.and_eq_true] at hk
  obtain ⟨⟨h1, h2⟩, h3⟩ := hk
  unfold lookV
  cases hf : kvs.find? fun x => decide (x.1 = z) with
  | some x =>
    have hx := List.mem_of_find?_eq_some hf
    have e0 := List.find?_some (p := fun x : Str × V => decide (x.1 = z)) hf
    have e : x.1 = z := of_decide_eq_true e0
    obtain ⟨u, hu, ru⟩ := hv x hx
    rw [e] at hu
    exact ⟨some u, hu, ru⟩
  | none =>
    have nz : z ∉ kvs.map Prod.fst := fun y => by
      obtain ⟨x, hx, rfl⟩ := List.mem_map.mp y
      have := List.find?_eq_none.mp hf x hx
      exact this (decide_eq_true rfl)
    refine ⟨none, ?_, trivial⟩
    unfold PySem.W.nsIn
    rw [D.at_]
    show (match es.toList.find? (·.key.isStr z) with
      | some e => some (some e.val)
      | none => if es.toList.any (·.refKey) then none else some none) = some none
    rw [find_keys (of_decide_eq_true h1) h2 nz]
    have h4 : es.toList.any (·.refKey) = false := by simpa using h3
    show (if es.toList.any (·.refKey) = true then none else some none) = some none
    rw [h4]
    rfl
section
variable {X : Cx} {o e f : Expr} {apos cpos : Pos} {td ty tx : TE}
def tKGet2 (K : PySem.W.Frag) (w : World) (td ty tx : TE) : TE := fun σ H Q => td σ H fun x H1 => ∃ a kvs, x = .ref a ∧ KTab K w a kvs ∧ ty σ H1 fun y H2 => tx σ H2 fun z H3 => ∃ s, y = .str s ∧ Q ((lookV kvs s).getD z) H3
theorem pe_kget2 (ho : PE X o td) (he : PE X e ty) (hf : PE X f tx) (m : M2 X o "get" apos e f cpos) : PE X (.Call (.Attribute o "get" apos) [e, f] [] cpos) (tKGet2 X.K X.w td ty tx) := by
  refine ⟨fun pins s σ H Q I h => ?_⟩
  refine wpAny_Call_method m.base m.few m.line PySem.F.plainAttrs_dict PySem.F.slot_dict_get PySem.F.type_dict_get (thn (ho.run pins s σ H _ I h) fun u s1 ⟨x, H1, I1, rx, a, kvs, ex, ⟨es, n, D, look⟩, q1⟩ => ?_)
  subst ex
  obtain rfl : u = Value.ref a := rx
  have hm1 := PySem.W.mapOf_K (prog := X.prog) (w := X.w) I1.kIn D.at_ D.lit
  refine ⟨hm1.typeIs, hm1.noDict, ?_⟩
  rw [m.trees]
  refine Calls.callWith_builtin rfl (Calls.evalArgs_plain (Calls.spliced_cons (thn (he.run pins s1 σ H1 _ I1 q1) fun iv s2 ⟨y, H2, I2, ry, q2⟩ =>
    Calls.spliced_cons (thn (hf.run pins s2 σ H2 _ I2 q2) fun fv s3 ⟨z, H3, I3, rz, st, ey, q3⟩ => Calls.spliced_nil ?_))))
  subst ey
  obtain ⟨t, rfl⟩ := (show ∃ t, iv = Value.str st t from ry)
  obtain ⟨r, hr, rr⟩ := look st
  have hm := PySem.W.mapOf_K (prog := X.prog) (w := X.w) I3.kIn D.at_ D.lit
  refine call_meetsIn PySem.F.slot_dict_get hm.typeIs PySem.F.entry_dict_get (PySem.F.args_dict_get_3 _ _ _) (meets_dict_get_default (strKind X.prog X.w) a (strKind_is X.prog X.w st t) D.low fv) ⟨_, hm, ?_⟩
  rw [PySem.W.find_K D.at_ hr]
  exact ⟨_, H3, I3.tok _, rr.getD rz, q3⟩
/-- d[z], there -/
def rKItem (K : PySem.W.Frag) (w : World) : R2 := fun x y H Q => ∃ a kvs s v, x = .ref a ∧ y = .str s ∧ KTab K w a kvs ∧ lookV kvs s = some v ∧ Q v H
theorem ix_ktab : IxR X (rKItem X.K X.w) := by
  intro value slice pins s σ H x y v u Q I rx ry h hs
  obtain ⟨a, kvs, st, v0, ex, ey, ⟨es, n, D, look⟩, hl, q⟩ := h
  obtain ⟨r, hr, rr⟩ := look st
  rw [hl] at rr
  obtain ⟨u0, rfl, ru⟩ := rr.some_of
  exact ix_kdict value slice pins s σ H x y v u Q I rx ry ⟨a, st, v0, ex, ey, ⟨es, n, u0, D.at_, D.lit, hr, ru⟩, q⟩ hs
end
end Nn

set_option autoImplicit false
/-! a call of what a local holds, the promise told where it is read -/
namespace Nn
open PySem PySem.Spec PyProof.Rows L2
def tCallH (P : Program) (w : World) (K : PySem.W.Frag) (mg : Str → Option Value) (base : Heap) (k i : Nat) (t : TA) : TE := fun σ H Q => ∃ f sp, σ[i]? = some (some (.ref f)) ∧ Held P w K mg base k f sp ∧ t σ H fun vs H1 => sp vs H1 Q (fun _ _ _ => False)
theorem pe_callH {X : Cx} {k i : Nat} {x : Str} {p pos : Pos} {e : Expr} {es : List Expr} {t : TA} (hr : Room k X.A) (hN : X.N[i]? = some x) (hv : Vis X.env.scope x) (ha : PA X (e :: es) t)
    (hdb : (x == ("__debug__" : Str)) = false := by decide) (hcd : (x == ("__classdict__" : Str)) = false := by decide)
    (he : starEach (e :: es) X.env = (false, eval e X.env) :: starEach es X.env := by rfl) (hpl : (backTo pos (starEach es X.env)).any (·.1) = false := by rfl) : PE X (.Call (.Name x p) (e :: es) [] pos) (tCallH X.prog X.w X.K X.mg X.base k i t) := by
  refine ⟨fun pins s σ H Q I h => ?_⟩
  obtain ⟨f, sp, hs, HH, ht⟩ := h
  obtain ⟨fd, ps, F, hk, hb⟩ := HH.ex
  refine (pe_callL (i := i) (f := f) (sp := sp) (dvs := []) (E := fun _ _ _ => False) F hr hN hv hk hb .nil (fun _ _ _ _ _ _ _ z => z.elim) ha hdb hcd he hpl).run pins s σ H Q I ⟨hs, ?_⟩
  have e0 : (fun (vs : List V) (H1 : Hp) => sp (vs ++ []) H1 Q (fun _ _ _ => False)) = fun vs H1 => sp vs H1 Q (fun _ _ _ => False) := by
    funext vs H1
    rw [List.append_nil]
  show t σ H (fun vs H1 => sp (vs ++ []) H1 Q (fun _ _ _ => False))
  rw [e0]
  exact ht
theorem op_inSk {X : Cx} {K : PySem.W.Frag} (h : X.K = K) : OpR X (compareOp .In) (rIn K false) := by
  subst h
  exact op_in_seq
theorem op_notInSk {X : Cx} {K : PySem.W.Frag} (h : X.K = K) : OpR X (compareOp .NotIn) (rIn K true) := by
  subst h
  exact op_notIn_seq
end Nn

set_option autoImplicit false
set_option maxHeartbeats 2000000
/-! d.get(k), where k may be None -/
namespace Nn
open PySem PySem.Spec PyProof.Rows L2
def GetN (H : Hp) (a : Addr) (y v : V) : Prop := (y = .non ∧ v = .non ∧ ∃ kvs, Rd H a (.dK kvs)) ∨ ∃ o, DGet H a y o ∧ v = o.getD .non
def tDGetN (td ty : TE) : TE := fun σ H Q => td σ H fun x H1 => ∃ a, x = .ref a ∧ IsD H1 a ∧ ty σ H1 fun y H2 => ∃ v, GetN H2 a y v ∧ Q v H2
section
variable {X : Cx} {o e : Expr} {apos cpos : Pos} {td ty : TE}
theorem pe_dgetN (hu : X.A.units + 1 < cLine) (ho : PE X o td) (he : PE X e ty) (m : M1 X o "get" apos e cpos) : PE X (.Call (.Attribute o "get" apos) [e] [] cpos) (tDGetN td ty) := by
  refine ⟨fun pins s σ H Q I h => ?_⟩
  refine wpAny_Call_method m.base m.few m.line PySem.F.plainAttrs_dict PySem.F.slot_dict_get PySem.F.type_dict_get (thn (ho.run pins s σ H _ I h) fun u s1 ⟨x, H1, I1, rx, a, ex, hd, q1⟩ => ?_)
  subst ex
  obtain rfl : u = Value.ref a := rx
  obtain ⟨t1, n1, _⟩ := isD_at I1 hd
  refine ⟨t1, n1, ?_⟩
  rw [m.trees]
  refine Calls.callWith_builtin rfl (Calls.evalArgs_plain (Calls.spliced_cons (thn (he.run pins s1 σ H1 _ I1 q1) fun iv s2 ⟨y, H2, I2, ry, q2⟩ => Calls.spliced_nil ?_)))
  obtain ⟨v, q2, q3⟩ := q2
  rcases q2 with ⟨ey, ev, kvs, hr⟩ | ⟨r, hg, ev⟩
  · subst ey
    subst ev
    obtain rfl : iv = Value.none := ry
    obtain ⟨_, hp, vs, _, dd⟩ := dk_rd I2.hok hr
    obtain ⟨f, hf, f0⟩ := none_map dd
    refine call_meetsIn PySem.F.slot_dict_get (isD_at I2 (.inl ⟨kvs, hr⟩)).1 PySem.F.entry_dict_get (PySem.F.args_dict_get_2 _ _) (meets_dict_get (noneKind X.prog X.w) (k := none) a rfl hp) ⟨f, hf, ?_⟩
    rw [f0]
    exact ⟨V.non, H2, I2.tok _, rfl, q3⟩
  · subst ev
    exact d_get1 hu I2 hg ry fun w' s' I' r' => ⟨_, H2, I', r', q3⟩
end
end Nn

set_option autoImplicit false
set_option maxHeartbeats 4000000
/-! things[::k], a list, k one or minus one -/
namespace Ys
open PySem PySem.Spec PyProof.Rows L2 Cc
def tStepL (K : PySem.W.Frag) (te : TE) (tk : TO) : TE := fun σ H Q => te σ H fun x H1 => tk σ H1 fun o H2 => ∃ a xs j, x = .ref a ∧ o = some j ∧ (j = 1 ∨ j = -1) ∧ SqL K H2 a xs ∧ ∀ p, H2 p = none → Q (.ref p) (upd H2 p (.lst (if j = 1 then xs else xs.reverse)))
theorem range_get : ∀ (l : List Value), (List.range l.length).filterMap (fun k => l[k]?) = l
  | [] => rfl
  | a :: r => by
    rw [List.length_cons, List.range_succ_eq_map, List.filterMap_cons, List.filterMap_map]
    show a :: (List.range r.length).filterMap (fun k => (a :: r)[k + 1]?) = a :: r
    have : (fun k => (a :: r)[k + 1]?) = fun k => r[k]? := by funext k; simp
    rw [this, range_get r]
theorem pick_on (xs : Array Value) : slicePick xs none none (some 1) = xs := by
  unfold slicePick
  have e1 : sliceBounds none none (some 1) xs.size = (0, (xs.size : Int), 1) := rfl
  rw [e1]
  have e2 : sliceRange 0 (xs.size : Int) 1 = List.range xs.size := by
    unfold sliceRange
    dsimp only
    rw [if_pos (by decide)]
    have c : (if (0 : Int) < (xs.size : Int) then ((xs.size : Int) - 0 + 1 - 1) / 1 else 0).toNat = xs.size := by
      by_cases h : (0 : Int) < (xs.size : Int)
      · rw [if_pos h]
        simp
      · rw [if_neg h]
        omega
    rw [c]
    conv => rhs; rw [← List.map_id (List.range xs.size)]
    refine List.map_congr_left fun k _ => ?_
    show ((0 : Int) + 1 * (k : Int)).toNat = k
    omega
  show ((sliceRange 0 (xs.size : Int) 1).filterMap (fun x => xs[x]?)).toArray = xs
  rw [e2]
  have e3 := range_get xs.toList
  have e4 : (fun k : Nat => xs.toList[k]?) = fun k : Nat => xs[k]? := by funext k; simp
  rw [Array.length_toList, e4] at e3
  rw [e3]
section
variable {X : Cx} {e k : Expr} {te : TE} {tk : TO}
theorem pe_stepL {p3 pos : Pos} (he : PE X e te) (hst : PO X (some k) tk) : PE X (.Subscript e (.Slice none none (some k) p3) pos) (tStepL X.K te tk) := by
  refine ⟨fun pins s σ H Q I h => Subscript_ (thn (he.run pins s σ H _ I h) fun v s1 ⟨x, H1, I1, r1, q⟩ => ?_)⟩
  refine wpAny_Slice (thn (po_none.run pins s1 σ H1 (fun o H2 => o = none ∧ H2 = H1) I1 ⟨rfl, rfl⟩) fun vl s2 ⟨l, H2, I2, pl, el, e2⟩ => ?_)
  subst el e2
  refine thn (po_none.run pins s2 σ H2 (fun o H3 => o = none ∧ H3 = H2) I2 ⟨rfl, rfl⟩) fun vu s3 ⟨u, H3, I3, pu, eu, e3⟩ => ?_
  subst eu e3
  refine thn (hst.run pins s3 σ H3 _ I3 q) fun vs s4 ⟨o, H4, I4, ps, a, xs, j, ex, eo, hj, hx, q⟩ => ?_
  subst ex eo
  cases r1
  have I5 : Inv X pins σ H4 { s4 with heap := s4.heap.push { cls := .type "slice", data := .fields #[vl, vu, vs] } } := I4.kept (t' := s4.toks) fun b ob q => Heap.get?_push_of_some _ q
  show wpAny (model X.prog X.w) X.A (subscriptTail e (.Slice none none (some k) p3) (.ref a) (.ref s4.heap.objs.size)) (EP X pins σ Q) X.xe { s4 with heap := s4.heap.push { cls := .type "slice", data := .fields #[vl, vu, vs] } }
  obtain ⟨its, r, ht, hz⟩ := I5.list hx
  refine tail_any (ops := [.ref a, .ref s4.heap.objs.size]) ht.isList.typeIs (PySem.slot_list_getitem.lookup) ?_ (by with_unfolding_all rfl)
  have hz2 : its.toArray.size ≤ sizeLine := by rw [List.size_toArray, ← r.length]; exact hz
  rcases hj with rfl | rfl
  · refine wpAny_getItem_list_slice ht.isList (Heap.IsSliceOf.new _ vl vu vs) pl pu ps (by decide) ?_ hz2
    rw [pick_on]
    refine ⟨.ref _, _, I5.laid (t' := s4.toks) (o := .lst xs) (fun b ob q => Heap.get?_push_of_some _ q) (Nat.le_refl _) ?_, rfl, q _ (I5.hok.fresh (Nat.le_refl _))⟩
    exact ⟨hz, its, 0, r, Heap.get?_push_size _ rfl⟩
  · refine wpAny_getItem_list_slice ht.isList (Heap.IsSliceOf.new _ vl vu vs) pl pu ps (by decide) ?_ hz2
    rw [PySem.W.krv_pick]
    refine ⟨.ref _, _, I5.laid (t' := s4.toks) (o := .lst xs.reverse) (fun b ob q => Heap.get?_push_of_some _ q) (Nat.le_refl _) ?_, rfl, q _ (I5.hok.fresh (Nat.le_refl _))⟩
    exact ⟨by rw [List.length_reverse]; exact hz, _, 0, r.reverse, Heap.get?_push_size _ rfl⟩
end
end Ys

namespace St6
open PySem PySem.Spec PyProof.Rows L2
def top (i : Nat) : Stmt := PySem.Challenge.pw_eventledger_k17_whole_steps_behind_steps.main.body.getD i (.Pass ⟨0, 0, 0, 0⟩)
abbrev sBadstep : Stmt := top 1
abbrev sIsSign : Stmt := top 4
abbrev sIsText : Stmt := top 5
abbrev sIsForm : Stmt := top 12
abbrev sIsField : Stmt := top 13
abbrev sFits : Stmt := top 14
abbrev sIsSort : Stmt := top 15
abbrev sIsOfSort : Stmt := top 16
abbrev sIsWhole : Stmt := top 17
abbrev sIsName : Stmt := top 18
abbrev sIsSmall : Stmt := top 19
abbrev sFormBehind : Stmt := top 29
abbrev sSortsBehind : Stmt := top 30
abbrev sSortsBehindStep : Stmt := top 31
abbrev sSortOf : Stmt := top 32
abbrev sIsNew : Stmt := top 33
abbrev sBehindRename : Stmt := top 34
abbrev sBehindCopy : Stmt := top 35
abbrev sBehindDrop : Stmt := top 36
abbrev sBehindPut : Stmt := top 37
abbrev sBehindScale : Stmt := top 38
abbrev sBehindSum : Stmt := top 39
abbrev sBehindJoin : Stmt := top 40
abbrev sIsPart : Stmt := top 41
abbrev sIsSaying : Stmt := top 42
abbrev sBehindTable : Stmt := top 43
abbrev sAreRows : Stmt := top 44
abbrev sIsRow : Stmt := top 45
abbrev sIsOther : Stmt := top 46
abbrev sBehindCase : Stmt := top 47
abbrev sDone : Stmt := top 50
abbrev sDoSteps : Stmt := top 51
abbrev sDoRename : Stmt := top 52
abbrev sDoCopy : Stmt := top 53
abbrev sDoDrop : Stmt := top 54
abbrev sDoPut : Stmt := top 55
abbrev sDoScale : Stmt := top 56
abbrev sDoSum : Stmt := top 57
abbrev sDoJoin : Stmt := top 58
abbrev sDoTable : Stmt := top 59
abbrev sDoCase : Stmt := top 60
abbrev sPen : Stmt := top 63
abbrev sDraw : Stmt := top 64
abbrev sNames : Stmt := top 65
abbrev sLawWord : Stmt := top 66
abbrev sLawText : Stmt := top 67
abbrev sLawNumber : Stmt := top 68
abbrev sLawValue : Stmt := top 69
abbrev sLawValues : Stmt := top 70
abbrev sForm : Stmt := top 71
abbrev sLawPick : Stmt := top 72
abbrev sLawRows : Stmt := top 73
abbrev sLawMods : Stmt := top 74
abbrev sLawStep : Stmt := top 75
abbrev sLawBehind : Stmt := top 76
abbrev sLawEnd : Stmt := top 77
abbrev sLawList : Stmt := top 78
abbrev sLaw : Stmt := top 79
end St6

set_option maxHeartbeats 2000000
namespace St6
open PySem PySem.Spec PyProof.Rows L2
abbrev FnP (K : PySem.W.Frag) (x : Str) (st : Stmt) (f : Addr) (fd : FuncData) : Prop := FunD K x x (defArgs st) (defBody st) (defScope st) [] [] f fd
theorem szl : sizeLine = 16777216 := by decide
theorem same_upd {H : Hp} {p : Addr} {o : HO} (h : H p = none) : Same H (upd H p o) := fun b x e => by
  rw [upd_ne (ne_of_none e h)]
  exact e
/-- all that stood there but the objects of S stands as it stood -/
def Fr (S : List Addr) (H H' : Hp) : Prop := ∀ b o, b ∉ S → H b = some o → H' b = some o
theorem Fr.refl {S : List Addr} {H : Hp} : Fr S H H := fun _ _ _ e => e
theorem Fr.trans {S : List Addr} {H H1 H2 : Hp} (a : Fr S H H1) (b : Fr S H1 H2) : Fr S H H2 := fun c o n e => b c o n (a c o n e)
theorem Fr.mono {S T : List Addr} {H H1 : Hp} (a : Fr S H H1) (h : ∀ x ∈ S, x ∈ T) : Fr T H H1 := fun c o n e => a c o (fun z => n (h c z)) e
theorem fr_same {S : List Addr} {H H1 : Hp} (a : Same H H1) : Fr S H H1 := fun c o _ e => a c o e
theorem Fr.same {H H1 : Hp} (a : Fr [] H H1) : Same H H1 := fun c o e => a c o (by simp) e
theorem fr_upd {S : List Addr} {H : Hp} {p : Addr} {o : HO} (h : p ∈ S) : Fr S H (upd H p o) := fun c x n e => by
  rw [upd_ne (fun q => n (by rw [q]; exact h))]
  exact e
theorem fr_new {S : List Addr} {H : Hp} {p : Addr} {o : HO} (h : H p = none) : Fr S H (upd H p o) := fr_same (same_upd h)
/-- what was not there may change -/
theorem Fr.drop {S : List Addr} {H H1 : Hp} {p : Addr} (a : Fr (p :: S) H H1) (h : H p = none) : Fr S H H1 := fun c x n e => a c x (fun z => by
  rcases List.mem_cons.mp z with q | q
  · rw [q, h] at e
    cases e
  · exact n q) e
/-- a fresh place was fresh before -/
theorem Fr.free {S : List Addr} {H H1 : Hp} {p : Addr} (a : Fr S H H1) (n : p ∉ S) (h : H1 p = none) : H p = none := by
  cases q : H p with
  | none => rfl
  | some o =>
    rw [a p o n q] at h
    cases h
/-! ### the pen -/
def farN : Int := 10 ^ (2 ^ 12)
theorem far_pos : 0 < farN := Int.pow_pos (by decide)
def pk (cl : Addr) (a b : Int) : List (Key × V) := [(Sum.inr "cells", .ref cl), (Sum.inr "at", .int a), (Sum.inr "left", .int b), (Sum.inr "far", .int farN)]
theorem pk_far (cl : Addr) (a b : Int) : valV (pk cl a b) (Sum.inr ("far" : Str)) = some (.int farN) := by
  kernel_rfl
theorem get_far {H : Hp} {d cl : Addr} {a b : Int} (h : H d = some (.dK (pk cl a b))) : DGet H d (.str "far") (some (.int farN)) := by
  have e := DGet.k (k := Sum.inr ("far" : Str)) h
  rw [pk_far] at e
  exact e
def CMulB (i j : Int) : Prop := IntMulOk i j
theorem op_mulBig {X : Cx} : OpR X (binaryOp .Mult) (rI CMulB fun i j => .int (i * j)) := opI fun _ _ _ _ _ _ _ hc q => mul_int q hc
theorem far_mul {i : Nat} (h : i < 12) : CMulB ((10 : Int) ^ (2 ^ i)) ((10 : Int) ^ (2 ^ i)) := by
  have b : Builtin.Int.intBits ((10 : Int) ^ (2 ^ i)) ≤ 4 * 2 ^ i := by
    refine intBits_le_iff.mpr ?_
    rw [Int.natAbs_pow]
    show 10 ^ 2 ^ i < 2 ^ (4 * 2 ^ i)
    rw [Nat.pow_mul]
    exact Nat.pow_lt_pow_left (by decide) (Nat.ne_of_gt (Nat.two_pow_pos _))
  have p : 2 ^ i ≤ 2 ^ 12 := Nat.pow_le_pow_right (by decide) (by omega)
  exact IntMulOk.of_le b b (by omega)
theorem far_sq (i : Nat) : (10 : Int) ^ (2 ^ i) * (10 : Int) ^ (2 ^ i) = (10 : Int) ^ (2 ^ (i + 1)) := by
  rw [← Int.pow_add]
  congr 1
  omega
theorem pk_cells (cl : Addr) (a b : Int) : valV (pk cl a b) (Sum.inr ("cells" : Str)) = some (.ref cl) := valV_pos rfl
theorem pk_at (cl : Addr) (a b : Int) : valV (pk cl a b) (Sum.inr ("at" : Str)) = some (.int a) := by
  kernel_rfl
theorem pk_left (cl : Addr) (a b : Int) : valV (pk cl a b) (Sum.inr ("left" : Str)) = some (.int b) := by
  kernel_rfl
theorem pk_put_at (cl : Addr) (a b x : Int) : putK (pk cl a b) (Sum.inr ("at" : Str)) (.int x) = pk cl x b := by
  kernel_rfl
theorem pk_put_left (cl : Addr) (a b x : Int) : putK (pk cl a b) (Sum.inr ("left" : Str)) (.int x) = pk cl a x := by
  kernel_rfl
theorem get_cells {H : Hp} {d cl : Addr} {a b : Int} (h : H d = some (.dK (pk cl a b))) : DGet H d (.str "cells") (some (.ref cl)) := by
  have e := DGet.k (k := Sum.inr ("cells" : Str)) h
  rw [pk_cells] at e
  exact e
theorem get_at {H : Hp} {d cl : Addr} {a b : Int} (h : H d = some (.dK (pk cl a b))) : DGet H d (.str "at") (some (.int a)) := by
  have e := DGet.k (k := Sum.inr ("at" : Str)) h
  rw [pk_at] at e
  exact e
theorem get_left {H : Hp} {d cl : Addr} {a b : Int} (h : H d = some (.dK (pk cl a b))) : DGet H d (.str "left") (some (.int b)) := by
  have e := DGet.k (k := Sum.inr ("left" : Str)) h
  rw [pk_left] at e
  exact e
theorem pk_small (cl : Addr) (a b : Int) : (pk cl a b).length < sizeLine := by
  rw [szl]
  show 4 < 16777216
  omega
theorem put_at {H : Hp} {d cl : Addr} {a b : Int} (x : Int) (h : H d = some (.dK (pk cl a b))) : DPut H d (.str "at") (.int x) (upd H d (.dK (pk cl x b))) := by
  have e := DPut.k (k := Sum.inr ("at" : Str)) (v := .int x) h (pk_small _ _ _)
  rw [pk_put_at] at e
  exact e
theorem put_left {H : Hp} {d cl : Addr} {a b : Int} (x : Int) (h : H d = some (.dK (pk cl a b))) : DPut H d (.str "left") (.int x) (upd H d (.dK (pk cl a x))) := by
  have e := DPut.k (k := Sum.inr ("left" : Str)) (v := .int x) h (pk_small _ _ _)
  rw [pk_put_left] at e
  exact e
theorem pk_merge (cl : Addr) (a b : Int) : mergeK [] (pk cl a b) = pk cl a b := by
  kernel_rfl
/-- a pen: its dict at d, its cells at cl, the cells ns, at most n were drawn -/
structure Pen (H : Hp) (d cl : Addr) (ns : List Int) (n : Nat) : Prop where
  ex : ∃ a b : Int, H d = some (.dK (pk cl a b)) ∧ 0 ≤ a ∧ a ≤ (n : Int) ∧ 0 ≤ b
  cs : H cl = some (.lst (ns.map V.int))
  len : ns.length ≤ 63
theorem Pen.mono {H : Hp} {d cl : Addr} {ns : List Int} {n m : Nat} (a : Pen H d cl ns n) (k : n ≤ m) : Pen H d cl ns m := by
  obtain ⟨⟨x, y, h1, h2, h3, h4⟩, h5, h6⟩ := a
  exact ⟨⟨x, y, h1, h2, by omega, h4⟩, h5, h6⟩
theorem Pen.fr {S : List Addr} {H H1 : Hp} {d cl : Addr} {ns : List Int} {n : Nat} (a : Pen H d cl ns n) (f : Fr S H H1) (h1 : d ∉ S) (h2 : cl ∉ S) : Pen H1 d cl ns n := by
  obtain ⟨⟨x, y, e1, r⟩, e2, h6⟩ := a
  exact ⟨⟨x, y, f _ _ h1 e1, r⟩, f _ _ h2 e2, h6⟩
theorem Pen.ne {H : Hp} {d cl : Addr} {ns : List Int} {n : Nat} (a : Pen H d cl ns n) : cl ≠ d := by
  obtain ⟨⟨x, y, e1, r⟩, e2, h6⟩ := a
  exact ne_of e2 e1 (by intro z; cases z)
theorem cut_map (ns : List Int) (lo hi : Option Int) : ∃ ms : List Int, cutV (ns.map V.int) lo hi = ms.map V.int ∧ ms.length ≤ ns.length := by
  refine ⟨(ns.drop (HT.sIx (ns.map V.int).length 0 lo)).take (HT.sIx (ns.map V.int).length (ns.map V.int).length hi - HT.sIx (ns.map V.int).length 0 lo), ?_, ?_⟩
  · unfold cutV
    rw [List.map_take, List.map_drop]
  · rw [List.length_take, List.length_drop]
    omega
theorem dpAll_ints {K : PySem.W.Frag} {H : Hp} : ∀ ns : List Int, DpAll K H (ns.map V.int) (ns.map PyData.int)
  | [] => .nil
  | n :: r => .cons (.int n) (dpAll_ints r)
theorem scPen : FnScope ["script", "far", "k", "cell"] ["script"] (defScope sPen) := ⟨rfl, rfl, rfl, by decide +kernel, rfl, by decide +kernel, by decide +kernel⟩
def spPen (K : PySem.W.Frag) : Sp := fun vs H Q _ => ∃ (a : Addr) (ns : List Int), vs = [.ref a] ∧ SqL K H a (ns.map V.int) ∧ ns.length ≤ 63 ∧ ∀ H' d cl ms, Same H H' → H d = none → H cl = none → Pen H' d cl ms 0 → Q (.ref d) H'
theorem scDraw : FnScope ["pen", "many", "digit", "at", "cell", "number", "again"] ["pen", "many"] (defScope sDraw) := ⟨rfl, rfl, rfl, by decide +kernel, rfl, by decide +kernel, by decide +kernel⟩
def spDraw : Sp := fun vs H Q _ => ∃ (d cl : Addr) (ns : List Int) (many : Int) (n : Nat), vs = [.ref d, .int many] ∧ Pen H d cl ns n ∧ n ≤ 1000000000 ∧ 0 < many ∧ many ≤ 100000000 ∧ ∀ H' k, Fr [d] H H' → Pen H' d cl ns (n + 1) → 0 ≤ k → k < many → Q (.int k) H'
section
variable {P : Program} {w : World} {K : PySem.W.Frag} {mg : Str → Option Value} {base : Heap}
theorem ok_pen {f : Addr} {fd : FuncData} {k : Nat} (F : FnP K "_law_pen" sPen f fd) (mr : mg "range" = none) : FnOk P w K mg base CX0 (k + 1) f fd ["script"] (spPen K) := by
  refine F.ok scPen (fun vs H Q E h => ?_) (fun cdv A outer s H vs Q E hr h => ?_)
  · obtain ⟨a, ns, rfl, _⟩ := h
    rfl
  · obtain ⟨a, ns, rfl, hS, hl, q⟩ := h
    refine ⟨_, PSs.nox (pss_cons (ps_set (i := 1) scPen.nd rfl (.inl rfl) pe_int) (pss_cons (ps_for PassesOwn.never rfl (pi_range1 (by rfl) mr (pa_cons pe_int pa_nil)) (pg_name (i := 2) scPen.nd rfl (.inl rfl)) (pss_one (ps_set (i := 1) scPen.nd rfl (.inl rfl) (pe_op op_mulBig (pv 1) (pv 1)))))
      (pss_one (ps_ret (pe_disp (pps_cons pe_str
      (pe_lc (own := [("cell", 3)]) (g := gName 3) (tt := tYes) rfl scPen.nd (pi_list (pe_slice sl_list (pv 0) po_none (po_some pe_int))) (blkOk_by (own := [("cell", 3)]) (N := ["script", "far", "k", "cell"]) (sc := defScope sPen) (by decide +kernel))
        (fun _ _ _ _ _ => pg_name (i := 3) scPen.nd rfl (Or.inl rfl)) (fun _ _ _ _ _ => pts_nil) (fun _ _ _ _ _ => pv 3))
      (pps_cons pe_str pe_int (pps_cons pe_str pe_int (pps_cons pe_str (pv 1) pps_nil)))) (by rfl) (by rfl) (fun z => by cases z) (by decide)))))), ?_⟩
    refine ⟨12, rfl, by decide, by decide, for_range (lo := 0) (n := 12) (fun i σ' H' => (∃ y, σ' = [some (.ref a), some (.int ((10 : Int) ^ (2 ^ i))), y, none]) ∧ H = H') ⟨⟨_, rfl⟩, rfl⟩ ?_ ?_⟩
    · rintro i σ' H' hi ⟨⟨y, rfl⟩, rfl⟩
      refine ⟨_, rfl, _, rfl, _, _, rfl, rfl, far_mul hi, ⟨some (.int (0 + (i : Int))), ?_⟩, rfl⟩
      rw [← far_sq]
      rfl
    rintro σ' H' ⟨⟨y, rfl⟩, eH⟩
    subst eH
    have eF : (10 : Int) ^ (2 ^ 12) = farN := rfl
    rw [eF]
    obtain ⟨ms, em, lm⟩ := cut_map ns none (some 63)
    intro d hd
    have s1 := same_upd (o := HO.dK []) hd
    refine ⟨_, rfl, 63, rfl, a, _, rfl, s1.seq hS, fun p np => ?_⟩
    have ndp : d ≠ p := ne_of_none upd_same np
    have s2 := same_upd (o := HO.lst (cutV (ns.map V.int) none (some 63))) np
    rw [em] at s2 ⊢
    refine ⟨p, rfl, ⟨_, SqL.of upd_same⟩, fun D nD => ?_⟩
    have nDp : p ≠ D := ne_of_none upd_same nD
    have nDd : d ≠ D := ne_of_none (s2 _ _ upd_same) nD
    have s3 := same_upd (o := HO.lst []) nD
    refine lc_list (K := K) (a := p) (xs := ms.map V.int) (fun i H' => Fr [D] (upd (upd H d (.dK [])) p (.lst (ms.map V.int))) H' ∧ H' D = some (.lst ((ms.take i).map V.int))) ⟨fr_upd (List.mem_singleton_self _), upd_same⟩ (fun i H' _ ⟨f, _⟩ => SqL.of (f _ _ (by simpa using nDp) upd_same)) ?_ ?_
    · rintro i x H' hx ⟨f, hD⟩
      have hi : i < ms.length := by
        have q1 := (List.getElem?_eq_some_iff.mp hx).1
        rw [List.length_map] at q1
        exact q1
      have ex : x = V.int ms[i] := by
        rw [List.getElem?_map, List.getElem?_eq_getElem hi] at hx
        exact (Option.some.inj hx).symm
      refine ⟨rfl, _, rfl, _, hD, ?_, f.trans (fr_upd (List.mem_singleton_self _)), ?_⟩
      · rw [List.length_map, List.length_take, szl]
        omega
      · rw [upd_same, ex, List.take_succ_eq_append_getElem hi, List.map_append]
        rfl
    · rintro H' ⟨f, hD⟩
      rw [List.length_map, List.take_length] at hD
      have hd' : H' d = some (.dK []) := f _ _ (by simpa using nDd) (s2 _ _ upd_same)
      refine ⟨_, rfl, hd', pk D 0 0, rfl, by show 4 ≤ 15; omega, ?_⟩
      have cD : H D = none := s1.free (s2.free nD)
      have all : Same H (upd H' d (.dK (mergeK [] (pk D 0 0)))) := fun b o e => by
        rw [upd_ne (ne_of_none e hd)]
        exact f _ _ (by simpa using ne_of_none e cD) (s2 _ _ (s1 _ _ e))
      refine q _ d D ms all hd cD ⟨⟨0, 0, ?_, Int.le_refl _, Int.le_refl _, Int.le_refl _⟩, ?_, by omega⟩
      · rw [upd_same, pk_merge]
      · rw [upd_ne nDd.symm]
        exact hD
theorem pw_pos : (0 : Int) < 4294967311 := by decide
theorem ok_draw {f : Addr} {fd : FuncData} {k : Nat} (F : FnP K "_law_draw" sDraw f fd) (ml : mg "len" = none) (ma : mg "abs" = none) (mr : mg "range" = none) : FnOk P w K mg base CX0 (k + 1) f fd ["pen", "many"] spDraw := by
  refine F.ok scDraw (fun vs H Q E h => ?_) (fun cdv A outer s H vs Q E hr h => ?_)
  · obtain ⟨d, cl, ns, m, n, rfl, _⟩ := h
    rfl
  · obtain ⟨d, cl, ns, m, n, rfl, hP, hn, m0, m1, q⟩ := h
    obtain ⟨⟨t, c, hd, t0, tn, c0⟩, hl, ln⟩ := id hP
    have hu := hu_of hr
    have ncd := hP.ne
    refine ⟨_, PSs.nox (pss_cons (ps_if (pt_cmpR op_gt (pe_dget hu (pv 0) pe_str (fun _ _ => rfl)) (pe_int) (nomark _)) (pss_cons (ps_set (i := 2) scDraw.nd rfl (.inl rfl) (pe_op op_modN (pe_dget hu (pv 0) pe_str (fun _ _ => rfl)) (pv 1)))
      (pss_cons (ps_dput hu (pv 0) pe_str (pe_op op_fdivN (pe_dget hu (pv 0) pe_str (fun _ _ => rfl)) (pv 1)) rfl)
      (pss_one (ps_ret (pv 2))))) pss_nil)
      (pss_cons (ps_set (i := 3) scDraw.nd rfl (.inl rfl) (pe_dget hu (pv 0) pe_str (fun _ _ => rfl)))
      (pss_cons (ps_dput hu (pv 0) pe_str (pe_op op_add (pv 3) (pe_int)) rfl)
      (pss_cons (ps_set (i := 4) scDraw.nd rfl (.inl rfl) (pe_op op_add (pe_op op_mul (pv 3) (pv 3)) (pe_int)))
      (C8.pss_cut (ps_if (pt_cmpR (op_neD hr.units) (pe_dget hu (pv 0) pe_str (fun _ _ => rfl)) (pe_lst pa_nil) (nomark _)) (pss_one (ps_set (i := 4) scDraw.nd rfl (.inl rfl) (pe_ix ix_list (pe_dget hu (pv 0) pe_str (fun _ _ => rfl)) (pe_op op_modN (pv 3) (pe_callB call_len_seq (by rfl) ml PySem.boot_len (pa_cons (pe_dget hu (pv 0) pe_str (fun _ _ => rfl)) pa_nil))) (fun _ _ => rfl)))) pss_nil)
      (C8.pss_cut (ps_if (PW.pt (pw_and (pt_cmpR op_lt (pv 3) (pe_callB call_len_seq (by rfl) ml PySem.boot_len (pa_cons (pe_dget hu (pv 0) pe_str (fun _ _ => rfl)) pa_nil)) (nomark _)) (pw_and1 (pt_cmpR op_ge (pe_callB call_abs (by rfl) ma (by decide +kernel) (pa_cons (pv 4) pa_nil)) (pe_op op_pow (pe_int) (pe_int)) (nomark _))))) (pss_cons (ps_set (i := 4) scDraw.nd rfl (.inl rfl) (pe_op op_modN (pe_callB call_abs (by rfl) ma (by decide +kernel) (pa_cons (pv 4) pa_nil)) (pe_dget hu (pv 0) pe_str (fun _ _ => rfl)))) (pss_cons (ps_dput hu (pv 0) pe_str (pe_op op_fdivN (pv 4) (pv 1)) rfl)
      (pss_one (ps_ret (pe_op op_modN (pv 4) (pv 1)))))) pss_nil)
      (pss_cons (ps_set (i := 5) scDraw.nd rfl (.inl rfl) (pe_op op_modN (pe_op op_mul (pe_op op_add (pe_op op_add (pe_op op_modN (pv 4) (pe_int)) (pe_op op_mul (pe_int) (pv 3))) (pe_int)) (pe_int)) (pe_int)))
      (pss_cons (ps_for PassesOwn.never rfl (pi_range1 (by rfl) mr (pa_cons pe_int pa_nil)) (pg_name (i := 6) scDraw.nd rfl (.inl rfl)) (pss_cons (ps_set (i := 5) scDraw.nd rfl (.inl rfl) (pe_op op_add (pe_op op_add (pe_op op_add (pe_op op_mul (pv 5) (pv 5)) (pe_op op_mul (pe_int) (pv 5))) (pv 3)) (pv 6)))
      (pss_one (ps_set (i := 5) scDraw.nd rfl (.inl rfl) (pe_op op_modN (pv 5) (pe_int))))))
      (pss_one (ps_ret (pe_op op_modN (pe_op op_fdivN (pv 5) (pe_int)) (pv 1)))))))))))), ?_⟩
    have dm : ∀ x : Int, 0 ≤ x.fmod m ∧ x.fmod m < m := fun x => ⟨Int.fmod_nonneg_of_pos x m0, Int.fmod_lt_of_pos x m0⟩
    have mN : m ≠ 0 := by omega
    have mB : m.natAbs < 1073741824 := by omega
    have dp : ∀ x : Int, 0 ≤ x → 0 ≤ x.fdiv m := fun x h => by
      rw [Int.fdiv_eq_ediv_of_nonneg x (by omega)]
      exact Int.ediv_nonneg h (by omega)
    -- pen["left"] > 0
    refine ⟨_, rfl, d, _, rfl, get_left hd, c, 0, rfl, rfl, _, rfl, ite2 (fun e => ?_) (fun e => ?_)⟩
    · refine ⟨_, rfl, d, _, rfl, get_left hd, _, rfl, c, m, rfl, rfl, mN, ?_⟩
      refine ⟨_, rfl, d, _, rfl, get_left hd, _, rfl, c, m, rfl, rfl, ⟨mN, mB⟩, _, rfl, d, _, rfl, put_left _ hd, ?_⟩
      refine ⟨_, rfl, q _ _ (fr_upd (List.mem_singleton_self _)) ⟨⟨t, c.fdiv m, upd_same, t0, by omega, dp c c0⟩, ?_, ln⟩ (dm c).1 (dm c).2⟩
      rw [upd_ne ncd]
      exact hl
    · refine ⟨_, rfl, d, _, rfl, get_at hd, ?_⟩
      refine ⟨_, rfl, t, 1, rfl, rfl, _, rfl, d, _, rfl, put_at _ hd, ?_⟩
      refine ⟨_, rfl, _, rfl, t, t, rfl, rfl, .inl (by omega), _, 5, rfl, rfl, ?_⟩
      have hd1 : (upd H d (.dK (pk cl (t + 1) c))) d = some (.dK (pk cl (t + 1) c)) := upd_same
      have hl1 : (upd H d (.dK (pk cl (t + 1) c))) cl = some (.lst (ns.map V.int)) := by
        rw [upd_ne ncd]
        exact hl
      have b1 : Fr [d] H (upd H d (.dK (pk cl (t + 1) c))) := fr_upd (List.mem_singleton_self _)
      generalize (upd H d (.dK (pk cl (t + 1) c))) = H1 at hd1 hl1 b1
      refine ⟨fun σ' H' => ∃ cell, σ' = [some (.ref d), some (.int m), none, some (.int t), some (.int cell), none, none] ∧ H' d = some (.dK (pk cl (t + 1) c)) ∧ H' cl = some (.lst (ns.map V.int)) ∧ Fr [d] H H', ?_, ?_⟩
      · refine ⟨_, rfl, d, _, rfl, get_cells hd1, Nat.zero_le _, fun p np => ?_⟩
        have hd2 : (upd H1 p (.lst [])) d = some (.dK (pk cl (t + 1) c)) := by rw [upd_ne (ne_of_none hd1 np)]; exact hd1
        have hl2 : (upd H1 p (.lst [])) cl = some (.lst (ns.map V.int)) := by rw [upd_ne (ne_of_none hl1 np)]; exact hl1
        have b2 : Fr [d] H (upd H1 p (.lst [])) := b1.trans (fr_new np)
        have hp2 : (upd H1 p (.lst [])) p = some (.lst []) := upd_same
        generalize (upd H1 p (.lst [])) = H2 at hd2 hl2 b2 hp2
        refine ⟨.list (ns.map PyData.int), .list [], .lst (SqL.of hl2) (dpAll_ints ns), .lst (SqL.of hp2) .nil, PySem.W.ke_shaped_ints ns, by decide +kernel, _, rfl, ite2 (fun e => ?_) (fun e => ?_)⟩
        · have n0 : 0 < ns.length := by
            cases ns with
            | nil => exact absurd e (by decide +kernel)
            | cons x r => exact Nat.succ_pos _
          have hlen : ((ns.map V.int).length : Int) ≠ 0 := by rw [List.length_map]; omega
          have f0 : 0 ≤ t.fmod ((ns.map V.int).length : Int) := Int.fmod_nonneg_of_pos t (by rw [List.length_map]; omega)
          have f1 : t.fmod ((ns.map V.int).length : Int) < ((ns.map V.int).length : Int) := Int.fmod_lt_of_pos t (by rw [List.length_map]; omega)
          obtain ⟨j, ej⟩ := Int.eq_ofNat_of_zero_le f0
          have hj : j < ns.length := by
            rw [ej, List.length_map] at f1
            exact Int.ofNat_lt.mp f1
          refine ⟨_, rfl, d, _, rfl, get_cells hd2, _, rfl, _, rfl, d, _, rfl, get_cells hd2, cl, _, rfl, .inl (SqL.of hl2), t, _, rfl, rfl, hlen, cl, _, (j : Int), .int ns[j], rfl, congrArg V.int ej, SqL.of hl2, atI_nat (j := j) ?_, ns[j], rfl, hd2, hl2, b2⟩
          rw [List.getElem?_map, List.getElem?_eq_getElem hj]
          rfl
        · exact ⟨_, rfl, hd2, hl2, b2⟩
      · rintro σ' H' ⟨cell, rfl, hd3, hl3, b3⟩
        refine ⟨fun σ2 H2 => σ2 = [some (.ref d), some (.int m), none, some (.int t), some (.int cell), none, none] ∧ H2 = H', ?_, ?_⟩
        · refine ⟨_, rfl, _, rfl, d, _, rfl, get_cells hd3, cl, _, rfl, .inl (SqL.of hl3), t, _, rfl, rfl, _, rfl, ite2 (fun e => ?_) (fun e => ?_)⟩
          · refine ⟨_, rfl, cell, rfl, 10, 18, rfl, rfl, ⟨by decide, by decide, by decide⟩, _, _, rfl, rfl, _, rfl, ite2 (fun e2 => ?_) (fun e2 => ⟨rfl, rfl⟩)⟩
            have c1 : 0 ≤ (if cell < 0 then -cell else cell) := by
              by_cases z : cell < 0
              · rw [if_pos z]; omega
              · rw [if_neg z]; omega
            have c2 : 0 ≤ (if cell < 0 then -cell else cell).fmod farN := Int.fmod_nonneg_of_pos _ far_pos
            refine ⟨_, rfl, cell, rfl, _, rfl, d, _, rfl, get_far hd3, _, _, rfl, rfl, Int.ne_of_gt far_pos, ?_⟩
            refine ⟨_, rfl, _, rfl, _, m, rfl, rfl, ⟨mN, mB⟩, _, rfl, d, _, rfl, put_left _ hd3, ?_⟩
            refine ⟨_, rfl, _, rfl, _, m, rfl, rfl, mN, q _ _ (b3.trans (fr_upd (List.mem_singleton_self _))) ⟨⟨t + 1, ((if cell < 0 then -cell else cell).fmod farN).fdiv m, upd_same, by omega, by omega, dp _ c2⟩, ?_, ln⟩ (dm _).1 (dm _).2⟩
            rw [upd_ne ncd]
            exact hl3
          · exact iteF ⟨rfl, rfl⟩
        · rintro σ2 H2 ⟨rfl, rfl⟩
          have rb : ∀ x : Int, 0 ≤ x.fmod 4294967311 ∧ x.fmod 4294967311 < 4294967311 := fun x => ⟨Int.fmod_nonneg_of_pos _ (by decide), Int.fmod_lt_of_pos _ (by decide)⟩
          refine ⟨_, rfl, cell, 4294967311, rfl, rfl, (show (4294967311 : Int) ≠ 0 by decide), _, rfl, 65539, t, rfl, rfl, .inl (by decide), _, _, rfl, rfl, _, 17, rfl, rfl, _, 48271, rfl, rfl, .inr (by decide), _, 4294967311, rfl, rfl, (show (4294967311 : Int) ≠ 0 by decide), ?_⟩
          refine ⟨3, rfl, by decide, by decide, for_range (n := 3) (fun i σ' H3 => ∃ (x : Int) (y : Option V), σ' = [some (.ref d), some (.int m), none, some (.int t), some (.int cell), some (.int x), y] ∧ 0 ≤ x ∧ x < 4294967311 ∧ H3 = H2) ⟨_, none, rfl, (rb _).1, (rb _).2, rfl⟩ ?_ ?_⟩
          · rintro i σ' H3 hi ⟨x, y, rfl, x0, x1, rfl⟩
            refine ⟨_, rfl, _, rfl, x, x, rfl, rfl, .inl (by omega), _, rfl, 69621, x, rfl, rfl, .inl (by decide), _, _, rfl, rfl, _, rfl, _, t, rfl, rfl, _, rfl, _, _, rfl, rfl, ?_⟩
            refine ⟨_, rfl, _, 4294967311, rfl, rfl, (show (4294967311 : Int) ≠ 0 by decide), ?_⟩
            exact ⟨_, _, rfl, (rb _).1, (rb _).2, rfl⟩
          · rintro σ' H3 ⟨x, y, rfl, x0, x1, rfl⟩
            refine ⟨_, rfl, x, 32, rfl, rfl, ⟨by decide, by decide⟩, _, rfl, _, m, rfl, rfl, mN, ?_⟩
            exact q _ _ b3 ⟨⟨t + 1, c, hd3, by omega, by omega, c0⟩, hl3, ln⟩ (dm _).1 (dm _).2
end
end St6

set_option autoImplicit false
set_option maxHeartbeats 4000000
namespace St6
open PySem PySem.Spec PyProof.Rows L2 Tg Cc
/-! the program's forms, told of any thing -/
abbrev Ok (d : PyData) : Prop := Bd 1000 20 d
theorem lineN {n : Nat} (h : n ≤ 1000) : n ≤ sizeLine := by
  rw [szl]
  omega
def lowC (c : Nat) : Bool := decide (97 ≤ c) && decide (c ≤ 122)
def spSmall (K : PySem.W.Frag) : Sp := fun vs H Q _ => ∃ v d n, vs = [v, .int (n : Nat)] ∧ Th K H v d ∧ Ok d ∧ ∀ H', Same H H' → Q (.bl (smallB n d)) H'
def spName (K : PySem.W.Frag) : Sp := fun vs H Q _ => ∃ v d, vs = [v] ∧ Th K H v d ∧ Ok d ∧ ∀ H', Same H H' → Q (.bl (smallB 12 d)) H'
def spSort (K : PySem.W.Frag) : Sp := fun vs H Q _ => ∃ v d, vs = [v] ∧ Th K H v d ∧ Ok d ∧ ∀ H', Same H H' → Q (.bl (sortB d)) H'
def spField (K : PySem.W.Frag) : Sp := fun vs H Q _ => ∃ v d, vs = [v] ∧ Th K H v d ∧ Ok d ∧ ∀ H', Same H H' → Q (.bl (fieldB d)) H'
def spForm (K : PySem.W.Frag) : Sp := fun vs H Q _ => ∃ v d, vs = [v] ∧ Th K H v d ∧ Ok d ∧ ∀ H', Same H H' → Q (.bl (formB d)) H'
theorem smallB_not {n : Nat} {d : PyData} (h : isStr d = false) : smallB n d = false := by
  cases d <;> first | rfl | cases h
theorem le_sign (c : Nat) : (!decide (((⟨#[c]⟩ : Str).cps.toList) < ("a" : Str).cps.toList)) = decide (97 ≤ c) := by
  show (!decide ([c] < [97])) = _
  by_cases h : c < 97
  · have e : [c] < [97] := List.Lex.rel h
    rw [decide_eq_true e, decide_eq_false (by omega)]
    rfl
  · have e : ¬ [c] < [97] := fun z => by
      cases z with
      | rel z => exact h z
      | cons z => cases z
    rw [decide_eq_false e, decide_eq_true (by omega)]
    rfl
theorem sign_le (c : Nat) : (!decide (("z" : Str).cps.toList < ((⟨#[c]⟩ : Str).cps.toList))) = decide (c ≤ 122) := by
  show (!decide ([122] < [c])) = _
  by_cases h : 122 < c
  · have e : [122] < [c] := List.Lex.rel h
    rw [decide_eq_true e, decide_eq_false (by omega)]
    rfl
  · have e : ¬ [122] < [c] := fun z => by
      cases z with
      | rel z => exact h z
      | cons z => cases z
    rw [decide_eq_false e, decide_eq_true (by omega)]
    rfl
section
variable {P : Program} {w : World} {K : PySem.W.Frag} {mg : Str → Option Value} {base : Heap}
theorem scsmall : FnScope ["thing", "longest", "sign"] ["thing", "longest"] (defScope sIsSmall) := ⟨rfl, rfl, rfl, by decide +kernel, rfl, by decide +kernel, by decide +kernel⟩
theorem ok_small {f : Addr} {fd : FuncData} (F : FnP K "_is_small" sIsSmall f fd)  (mb_isinstance : mg "isinstance" = none) (mb_str : mg "str" = none) (mb_len : mg "len" = none) (mb_all : mg "all" = none)   : FnOk P w K mg base CX0 1 f fd ["thing", "longest"] (spSmall K) := by
  refine F.ok scsmall (fun vs H Q E h => ?_) (fun cdv A outer s H vs Q E hr h => ?_)
  · obtain ⟨v, d, n, rfl, _⟩ := h
    rfl
  · obtain ⟨v, d, n, rfl, hT, hB, q⟩ := h
    have hu := hu_of hr
    refine ⟨_, PSs.nox (pss_cons (ps_if (PW.pt (pw_or (pt_not (pt_val (pe_callB call_isi (by rfl) mb_isinstance (by decide +kernel) (pa_cons (pv 0) (pa_cons (pe_bltn (v := .ty "str") (by rfl) mb_str (by decide +kernel) rfl) pa_nil))))) (pw_or1 (pt_not (pt_chain op_le op_le (pe_int) (pe_callB call_len_str (by rfl) mb_len (by decide +kernel) (pa_cons (pv 0) pa_nil)) (pv 1)))))) (pss_one (ps_ret (pe_bl))) (pss_nil))
      (pss_one (ps_ret (pe_callB (cr_all rfl) (by rfl) mb_all (by decide +kernel) (pa_cons (pe_lc (own := [("sign", 2)]) (g := gName 2) (tt := tYes) rfl scsmall.nd (pi_str (pv 0)) (blkOk_by (own := [("sign", 2)]) (N := ["thing", "longest", "sign"]) (sc := defScope sIsSmall) (by decide +kernel)) (fun _ _ _ _ _ => pg_name (i := 2) scsmall.nd rfl (Or.inl rfl)) (fun _ _ _ _ _ => pts_nil) (fun _ _ _ _ _ => pe_chain op_le_str op_le_str (pe_str) (pv 2) (pe_str))) pa_nil))))), ?_⟩
    refine ⟨_, rfl, v, .ty "str", _, _, _, rfl, .ty "str", hT.ty, kit_ty (kit_str d), _, rfl, ?_⟩
    cases hs : isStr d with
    | false =>
      refine iteT (iteT ?_)
      have e := q H (Same.refl H)
      rw [smallB_not hs] at e
      exact e
    | true =>
      obtain ⟨z, rfl⟩ := isStr_eq hs
      obtain rfl := hT.asStr
      have hz := (bd_str.mp hB).1
      refine iteF ⟨_, rfl, z, rfl, lineN hz, _, _, rfl, rfl, _, rfl, ?_⟩
      have val : smallB n (.str z) = ((decide (1 ≤ z.length) && decide (z.length ≤ n)) && z.cps.toList.all lowC) := rfl
      refine ite2 (fun e1 => ⟨_, rfl, _, _, rfl, rfl, _, rfl, ite2 (fun e2 => ?_) (fun e2 => ?_)⟩) (fun e1 => ⟨_, rfl, iteT ?_⟩)
      · have c2 : ¬ z.length ≤ n := fun y => by
          rw [decide_eq_true (show (z.length : Int) ≤ (n : Int) by omega)] at e2
          cases e2
        have e := q H (Same.refl H)
        rw [val, decide_eq_false c2, Bool.and_false, Bool.false_and] at e
        exact e
      · have c1 : 1 ≤ z.length := by
          have := of_decide_eq_true e1
          omega
        have c2 : z.length ≤ n := by
          have : (!decide ((z.length : Int) ≤ (n : Int))) = false := by simpa using e2
          rw [Bool.not_eq_false'] at this
          have := of_decide_eq_true this
          omega
        rw [val, decide_eq_true c1, decide_eq_true c2, Bool.true_and, Bool.true_and] at q
        refine ⟨_, rfl, z, rfl, fun D nD => ?_⟩
        refine lc_acc (walk_str (z := z)) (fun i acc H' => But D H H' ∧ acc = (z.cps.toList.take i).map fun c => V.bl (lowC c)) ⟨But.refl.upd, rfl⟩ (fun _ _ _ _ _ _ => trivial) ?_ ?_
        · rintro i x acc H1 H2 hi la ⟨b, ea⟩ hD ⟨rfl, c, hc, rfl⟩
          have hc2 : z.cps.toList[i]? = some c := by rw [Array.getElem?_toList]; exact hc
          have hl : z.length = z.cps.size := rfl
          have put : ∀ k : Bool, k = lowC c → Push D i (fun i acc H' => But D H H' ∧ acc = (z.cps.toList.take i).map fun c => V.bl (lowC c)) (.bl k) H2 := fun k ek => by
            refine push hD la (by omega) ⟨b.upd, ?_⟩
            rw [ea, ek, List.take_succ, hc2, List.map_append]
            rfl
          refine ⟨rfl, _, rfl, _, _, rfl, rfl, _, rfl, ite2 (fun e => ?_) (fun e => ?_)⟩
          · rw [le_sign] at e
            exact ⟨_, _, rfl, rfl, put _ (by rw [sign_le]; unfold lowC; rw [e, Bool.true_and])⟩
          · rw [le_sign] at e
            exact put _ (by unfold lowC; rw [Bool.eq_false_iff.mpr e, Bool.false_and])
        · rintro acc H' la ⟨b, rfl⟩ hD
          rw [List.take_of_length_le (by rw [Array.length_toList]; exact Nat.le_refl _)] at hD
          refine ⟨D, z.cps.toList.map lowC, rfl, SqL.of (by rw [hD, List.map_map]; rfl), ?_⟩
          rw [List.all_map]
          exact q H' (b.new nD)
      · have c1 : ¬ 1 ≤ z.length := fun y => e1 (decide_eq_true (by omega))
        have e := q H (Same.refl H)
        rw [val, decide_eq_false c1, Bool.false_and, Bool.false_and] at e
        exact e
theorem scname : FnScope ["thing"] ["thing"] (defScope sIsName) := ⟨rfl, rfl, rfl, by decide +kernel, rfl, by decide +kernel, by decide +kernel⟩
theorem ok_name {f : Addr} {fd : FuncData} (F : FnP K "is_name" sIsName f fd) {f__is_small : Addr} {fd__is_small : FuncData} (c__is_small : Cl P w K mg base CX0 "_is_small" 1 ["thing", "longest"] (spSmall K) f__is_small fd__is_small)  {u12 : Value} (m_LONGEST_NAME : mg "LONGEST_NAME" = some u12) (h12 : RelV (.int 12) u12)  : FnOk P w K mg base CX0 2 f fd ["thing"] (spName K) := by
  refine F.ok scname (fun vs H Q E h => ?_) (fun cdv A outer s H vs Q E hr h => ?_)
  · obtain ⟨v, d, rfl, _⟩ := h
    rfl
  · obtain ⟨v, d, rfl, hT, hB, q⟩ := h
    have hu := hu_of hr
    refine ⟨_, PSs.nox (pss_one (ps_ret (pe_call c__is_small.ok (hr.mono (by decide)) (by rfl) c__is_small.m c__is_small.kp c__is_small.b .nil pass0 (pa_cons (pv 0) (pa_cons (pe_glob rfl m_LONGEST_NAME h12) pa_nil))))), ?_⟩
    exact ⟨_, rfl, v, d, 12, rfl, hT, hB, q⟩
def sorts : List Str := ["code", "amount", "word", "text"]
theorem sortB_not {d : PyData} (h : isStr d = false) : sortB d = false := by
  cases d <;> first | rfl | cases h
theorem in_strs (x : Str) : ∀ l : List Str, inV (.str x) (l.map V.str) = decide (x ∈ l)
  | [] => rfl
  | y :: r => by
    have ih := in_strs x r
    unfold inV at ih ⊢
    rw [List.map_cons, List.any_cons, ih]
    by_cases h : y = x
    · subst h
      rw [show eqV (V.str y) (V.str y) = true from decide_eq_true rfl, Bool.true_or, decide_eq_true (List.mem_cons_self ..)]
    · rw [show eqV (V.str y) (V.str x) = false from decide_eq_false h, Bool.false_or]
      exact decide_eq_decide.mpr ⟨fun z => List.mem_cons_of_mem _ z, fun z => (List.mem_cons.mp z).elim (fun e => absurd e.symm h) id⟩
theorem scsort : FnScope ["thing"] ["thing"] (defScope sIsSort) := ⟨rfl, rfl, rfl, by decide +kernel, rfl, by decide +kernel, by decide +kernel⟩
theorem ok_sort {f : Addr} {fd : FuncData} (F : FnP K "is_sort" sIsSort f fd)  (mb_isinstance : mg "isinstance" = none) (mb_str : mg "str" = none) {aS : Addr} (m_SORTS : mg "SORTS" = some (.ref aS)) (hS : ∀ H, SqT K H aS (sorts.map V.str))  : FnOk P w K mg base CX0 1 f fd ["thing"] (spSort K) := by
  refine F.ok scsort (fun vs H Q E h => ?_) (fun cdv A outer s H vs Q E hr h => ?_)
  · obtain ⟨v, d, rfl, _⟩ := h
    rfl
  · obtain ⟨v, d, rfl, hT, hB, q⟩ := h
    have hu := hu_of hr
    refine ⟨_, PSs.nox (pss_one (ps_ret (pe_and (pe_callB call_isi (by rfl) mb_isinstance (by decide +kernel) (pa_cons (pv 0) (pa_cons (pe_bltn (v := .ty "str") (by rfl) mb_str (by decide +kernel) rfl) pa_nil))) (pe_one (pe_cmpR op_in_seq (pv 0) (pe_glob (v := .ref aS) rfl m_SORTS rfl) (by with_unfolding_all rfl)))))), ?_⟩
    refine ⟨_, rfl, v, .ty "str", _, _, _, rfl, .ty "str", hT.ty, kit_ty (kit_str d), _, rfl, ?_⟩
    cases hs : isStr d with
    | false =>
      have e := q H (Same.refl H)
      rw [sortB_not hs] at e
      exact iteF e
    | true =>
      obtain ⟨z, rfl⟩ := isStr_eq hs
      obtain rfl := hT.asStr
      refine iteT ⟨_, rfl, aS, _, rfl, .inr (hS H), rfl, by decide +kernel, ?_⟩
      rw [if_neg (by decide), in_strs]
      exact q H (Same.refl H)
theorem fieldB_not {d : PyData} (h : isTup d = false) : fieldB d = false := by
  cases d <;> first | rfl | cases h
theorem fieldB_len {ds : List PyData} (h : ds.length ≠ 2) : fieldB (.tuple ds) = false := by
  match ds, h with
  | [], _ => rfl
  | [_], _ => rfl
  | [_, _], h => exact absurd rfl h
  | _ :: _ :: _ :: _, _ => rfl
theorem len2 {α : Type} {l : List α} (h : l.length = 2) : ∃ a b, l = [a, b] := by
  match l, h with
  | [a, b], _ => exact ⟨a, b, rfl⟩
theorem Bd.tup {N m : Nat} {ds : List PyData} (h : Bd N m (.tuple ds)) : ds.length ≤ N ∧ ∀ d ∈ ds, Bd N m d := by
  cases m with
  | zero => exact h.elim
  | succ n => exact ⟨h.1, fun d hd => (h.2 d hd).mono (Nat.le_refl _) (Nat.le_succ _)⟩
theorem Bd.lst {N m : Nat} {ds : List PyData} (h : Bd N m (.list ds)) : ds.length ≤ N ∧ ∀ d ∈ ds, Bd N m d := by
  cases m with
  | zero => exact h.elim
  | succ n => exact ⟨h.1, fun d hd => (h.2 d hd).mono (Nat.le_refl _) (Nat.le_succ _)⟩
theorem dec_int {i j : Int} : decide (V.int i = V.int j) = decide (i = j) := decide_eq_decide.mpr ⟨fun h => V.int.inj h, fun h => by rw [h]⟩
theorem scfield : FnScope ["thing"] ["thing"] (defScope sIsField) := ⟨rfl, rfl, rfl, by decide +kernel, rfl, by decide +kernel, by decide +kernel⟩
theorem ok_field {f : Addr} {fd : FuncData} (F : FnP K "_is_field" sIsField f fd) {f_is_name : Addr} {fd_is_name : FuncData} (c_is_name : Cl P w K mg base CX0 "is_name" 2 ["thing"] (spName K) f_is_name fd_is_name) {f_is_sort : Addr} {fd_is_sort : FuncData} (c_is_sort : Cl P w K mg base CX0 "is_sort" 1 ["thing"] (spSort K) f_is_sort fd_is_sort) (mb_isinstance : mg "isinstance" = none) (mb_tuple : mg "tuple" = none) (mb_len : mg "len" = none)   : FnOk P w K mg base CX0 3 f fd ["thing"] (spField K) := by
  refine F.ok scfield (fun vs H Q E h => ?_) (fun cdv A outer s H vs Q E hr h => ?_)
  · obtain ⟨v, d, rfl, _⟩ := h
    rfl
  · obtain ⟨v, d, rfl, hT, hB, q⟩ := h
    have hu := hu_of hr
    refine ⟨_, PSs.nox (pss_one (ps_ret (pe_and (pe_callB call_isi (by rfl) mb_isinstance (by decide +kernel) (pa_cons (pv 0) (pa_cons (pe_bltn (v := .ty "tuple") (by rfl) mb_tuple (by decide +kernel) rfl) pa_nil))) (pe_and (pe_cmpR op_eq (pe_callB call_len (by rfl) mb_len (by decide +kernel) (pa_cons (pv 0) pa_nil)) (pe_int) (nomark _)) (pe_and (pe_call c_is_name.ok (hr.mono (by decide)) (by rfl) c_is_name.m c_is_name.kp c_is_name.b .nil pass0 (pa_cons (pe_ix Cc.ix_B (pv 0) (pe_int) (fun _ _ => rfl)) pa_nil)) (pe_one (pe_call c_is_sort.ok (hr.mono (by decide)) (by rfl) c_is_sort.m c_is_sort.kp c_is_sort.b .nil pass0 (pa_cons (pe_ix Cc.ix_B (pv 0) (pe_int) (fun _ _ => rfl)) pa_nil)))))))), ?_⟩
    refine ⟨_, rfl, v, .ty "tuple", _, _, _, rfl, .ty "tuple", hT.ty, kit_ty (kit_tup d), _, rfl, ?_⟩
    cases ht : isTup d with
    | false =>
      have e := q H (Same.refl H)
      rw [fieldB_not ht] at e
      exact iteF e
    | true =>
      obtain ⟨ds, rfl⟩ := isTup_eq ht
      obtain ⟨a, xs, rfl, hx, hA⟩ := hT.asTup
      have lx := hA.len
      refine iteT ⟨_, rfl, _, _, rfl, .inr ⟨_, hx, rfl⟩, rfl, _, rfl, ite2 (fun e => ?_) (fun e => ?_)⟩
      · have e2 : xs.length = 2 := by
          rw [dec_int] at e
          have := of_decide_eq_true e
          omega
        obtain ⟨x0, x1, rfl⟩ := len2 e2
        obtain ⟨d0, d1, rfl⟩ := len2 (lx.symm.trans e2)
        obtain ⟨t0, t1⟩ : Th K H x0 d0 ∧ Th K H x1 d1 := by
          cases hA with
          | cons h0 h1 =>
            cases h1 with
            | cons h1 _ => exact ⟨h0, h1⟩
        have bs := (Bd.tup hB).2
        refine ⟨_, rfl, true, a, _, 0, x0, rfl, rfl, hx, rfl, x0, d0, rfl, t0, bs d0 (by simp), fun H1 s1 => ⟨_, rfl, ?_⟩⟩
        have val : fieldB (.tuple [d0, d1]) = (smallB 12 d0 && sortB d1) := rfl
        rw [val] at q
        cases hn : smallB 12 d0 with
        | false =>
          rw [hn, Bool.false_and] at q
          exact iteF (q H1 s1)
        | true =>
          rw [hn, Bool.true_and] at q
          exact iteT ⟨_, rfl, true, a, _, 1, x1, rfl, rfl, (Sq.same (t := true) hx s1), rfl, x1, d1, rfl, t1.kept (kept_same s1), bs d1 (by simp), fun H2 s2 => q H2 (s1.trans s2)⟩
      · have e2 : ds.length ≠ 2 := fun z => e (by rw [lx, z]; decide)
        have e3 := q H (Same.refl H)
        rw [fieldB_len e2] at e3
        exact e3
theorem formB_not {d : PyData} (h : isTup d = false) : formB d = false := by
  cases d <;> first | rfl | cases h
theorem all_fields {ds : List PyData} (h : ds.all fieldB = true) {i : Nat} {d : PyData} (e : ds[i]? = some d) : fieldB d = true := List.all_eq_true.mp h d (List.mem_of_getElem? e)
theorem ThAll.get2 {H : Hp} {xs : List V} {ds : List PyData} {i : Nat} {x : V} (h : ThAll K H xs ds) (e : xs[i]? = some x) : ∃ d, ds[i]? = some d ∧ Th K H x d ∧ d ∈ ds := by
  obtain ⟨d, h1, h2⟩ := h.get e
  exact ⟨d, h1, h2, List.mem_of_getElem? h1⟩
theorem field_parts {H : Hp} {v : V} {d : PyData} (h : Th K H v d) (b : fieldB d = true) : ∃ a x1 z, v = .ref a ∧ SqT K H a [.str (nameOf d), x1] ∧ d = .tuple [.str (nameOf d), z] ∧ Th K H x1 z := by
  obtain ⟨s, z, rfl, _, _⟩ := field_tup b
  obtain ⟨a, xs, rfl, hx, hA⟩ := h.asTup
  cases hA with
  | cons h0 h1 =>
    cases h1 with
    | cons h1 h2 =>
      cases h2
      cases h0
      exact ⟨a, _, z, rfl, hx, rfl, h1⟩
theorem scform : FnScope ["thing", "part"] ["thing"] (defScope sIsForm) := ⟨rfl, rfl, rfl, by decide +kernel, rfl, by decide +kernel, by decide +kernel⟩
theorem ok_form {f : Addr} {fd : FuncData} (F : FnP K "is_form" sIsForm f fd) {f__is_field : Addr} {fd__is_field : FuncData} (c__is_field : Cl P w K mg base CX0 "_is_field" 3 ["thing"] (spField K) f__is_field fd__is_field) (mb_isinstance : mg "isinstance" = none) (mb_tuple : mg "tuple" = none) (mb_len : mg "len" = none) (mb_all : mg "all" = none) {u6 : Value} (m_MOST_FIELDS : mg "MOST_FIELDS" = some u6) (h6 : RelV (.int 6) u6)  : FnOk P w K mg base CX0 4 f fd ["thing"] (spForm K) := by
  refine F.ok scform (fun vs H Q E h => ?_) (fun cdv A outer s H vs Q E hr h => ?_)
  · obtain ⟨v, d, rfl, _⟩ := h
    rfl
  · obtain ⟨v, d, rfl, hT, hB, q⟩ := h
    have hu := hu_of hr
    refine ⟨_, PSs.nox (pss_cons (ps_if (PW.pt (pw_or (pt_not (pt_val (pe_callB call_isi (by rfl) mb_isinstance (by decide +kernel) (pa_cons (pv 0) (pa_cons (pe_bltn (v := .ty "tuple") (by rfl) mb_tuple (by decide +kernel) rfl) pa_nil))))) (pw_or1 (pt_not (pt_chain op_le op_le (pe_int) (pe_callB call_len (by rfl) mb_len (by decide +kernel) (pa_cons (pv 0) pa_nil)) (pe_glob rfl m_MOST_FIELDS h6)))))) (pss_one (ps_ret (pe_bl))) (pss_nil))
      (pss_cons (ps_if (pt_not (pt_val (pe_callB (cr_all rfl) (by rfl) mb_all (by decide +kernel) (pa_cons (pe_lc (own := [("part", 1)]) (g := gName 1) (tt := tYes) rfl scform.nd (pi_tup (pv 0)) (blkOk_by (own := [("part", 1)]) (N := ["thing", "part"]) (sc := defScope sIsForm) (by decide +kernel)) (fun _ _ _ _ _ => pg_name (i := 1) scform.nd rfl (Or.inl rfl)) (fun _ _ _ _ _ => pts_nil) (fun _ _ _ _ _ => pe_call c__is_field.ok (hr.mono (by decide)) (by rfl) c__is_field.m c__is_field.kp c__is_field.b .nil pass0 (pa_cons (pv 1) pa_nil))) pa_nil)))) (pss_one (ps_ret (pe_bl))) (pss_nil))
      (pss_one (ps_ret (pe_cmpR op_eq (pe_callB Ys.call_lenK (by rfl) mb_len (by decide +kernel) (pa_cons (Ys.pe_scK (own := [("part", 1)]) (g := gName 1) (tt := tYes) rfl scform.nd (pi_tup (pv 0)) (blkOk_by (own := [("part", 1)]) (N := ["thing", "part"]) (sc := defScope sIsForm) (by decide +kernel)) (fun _ _ _ _ _ => pg_name (i := 1) scform.nd rfl (Or.inl rfl)) (fun _ _ _ _ _ => pts_nil) (fun _ _ _ _ _ => pe_ix (Cc.ix_Bk (K := K) rfl) (pv 1) (pe_int) (fun _ _ => rfl))) pa_nil)) (pe_callB call_len (by rfl) mb_len (by decide +kernel) (pa_cons (pv 0) pa_nil)) (nomark _)))))), ?_⟩
    refine ⟨_, rfl, v, .ty "tuple", _, _, _, rfl, .ty "tuple", hT.ty, kit_ty (kit_tup d), _, rfl, ?_⟩
    cases ht : isTup d with
    | false =>
      have e := q H (Same.refl H)
      rw [formB_not ht] at e
      exact iteT (iteT e)
    | true =>
      obtain ⟨ds, rfl⟩ := isTup_eq ht
      obtain ⟨a, xs, rfl, hx, hA⟩ := hT.asTup
      have lx := hA.len
      have bs := Bd.tup hB
      have val : formB (.tuple ds) = ((decide (1 ≤ ds.length) && decide (ds.length ≤ 6)) && ds.all fieldB && decide ((ds.map nameOf).Nodup)) := rfl
      refine iteF ⟨_, rfl, _, _, rfl, .inr ⟨_, hx, rfl⟩, _, _, rfl, rfl, _, rfl, ite2 (fun e1 => ⟨_, _, rfl, rfl, _, rfl, ite2 (fun e2 => ?_) (fun e2 => ?_)⟩) (fun e1 => ⟨_, rfl, iteT ?_⟩)⟩
      · have c2 : ¬ ds.length ≤ 6 := fun y => by
          rw [decide_eq_true (show (xs.length : Int) ≤ 6 by omega)] at e2
          cases e2
        have e := q H (Same.refl H)
        rw [val, decide_eq_false c2, Bool.and_false, Bool.false_and, Bool.false_and] at e
        exact e
      · have c1 : 1 ≤ ds.length := by
          have := of_decide_eq_true e1
          omega
        have c2 : ds.length ≤ 6 := by
          have : (!decide ((xs.length : Int) ≤ 6)) = false := by simpa using e2
          rw [Bool.not_eq_false'] at this
          have := of_decide_eq_true this
          omega
        rw [val, decide_eq_true c1, decide_eq_true c2, Bool.true_and, Bool.true_and] at q
        refine ⟨_, rfl, a, rfl, ⟨xs, hx⟩, fun D nD => ?_⟩
        refine lc_acc (walk_tup (K := K) (a := a) (xs := xs)) (fun i acc H' => But D H H' ∧ acc = (ds.take i).map fun d => V.bl (fieldB d)) ⟨But.refl.upd, rfl⟩ (fun i acc H' _ ⟨b, _⟩ _ => Sq.same (t := true) hx (b.new nD)) ?_ ?_
        · rintro i x acc H1 H2 hi la ⟨b, ea⟩ hD ⟨rfl, hx2⟩
          obtain ⟨d, hd, td, md⟩ := ThAll.get2 hA hx2
          have s1 := b.new nD
          refine ⟨rfl, _, rfl, x, d, rfl, td.kept (kept_same s1), (bs.2 d md), fun H3 s3 => ?_⟩
          refine push (s3 _ _ hD) la (by omega) ⟨(b.same s3).upd, ?_⟩
          rw [ea, List.take_succ, hd, List.map_append]
          rfl
        · rintro acc H1 la ⟨b, rfl⟩ hD
          have s1 := b.new nD
          rw [lx, List.take_length] at hD
          refine ⟨D, ds.map fieldB, rfl, SqL.of (by rw [hD, List.map_map]; rfl), _, rfl, ?_⟩
          rw [List.all_map]
          cases hf : ds.all fieldB with
          | false =>
            rw [hf, Bool.false_and] at q
            exact (show if (!(ds.all fieldB)) = true then _ else _ from by rw [hf]; exact iteT (q H1 s1))
          | true =>
            rw [hf, Bool.true_and] at q
            refine (show if (!(ds.all fieldB)) = true then _ else _ from by
              rw [hf]
              refine iteF ?_
              have hx1 := Sq.same (t := true) hx s1
              refine ⟨_, rfl, a, rfl, ⟨xs, hx1⟩, fun D2 nD2 => ?_⟩
              refine sc_acc (walk_tup (K := K) (a := a) (xs := xs)) (fun i S m H' => But D2 H1 H' ∧ Met1 (ds.map nameOf) i S m) ⟨But.refl.upd, Met1.zero⟩ (fun i S m H' _ ⟨b, _⟩ _ => Sq.same (t := true) hx1 (b.new nD2)) ?_ ?_
              · rintro i x S m H2 H3 hi ⟨b2, mt⟩ hD2 ⟨rfl, hx2⟩
                obtain ⟨d, hd, td, md⟩ := ThAll.get2 hA hx2
                obtain ⟨p, x1, z, rfl, hp, ed, _⟩ := field_parts td (all_fields hf hd)
                have s2 := s1.trans (b2.new nD2)
                refine ⟨rfl, _, rfl, true, p, _, 0, _, rfl, rfl, Sq.same (t := true) hp s2, rfl, ?_⟩
                refine pushK (Sum.inr (nameOf d)) rfl hD2 (mt.few (by omega)) ⟨b2.upd, mt.next (by rw [List.length_map]; omega) _ ?_⟩
                rw [List.getD_eq_getElem?_getD, List.getElem?_map, hd]
                rfl
              · rintro S m H2 ⟨b2, mt⟩ hD2
                rw [lx, ← List.length_map (f := nameOf)] at mt
                refine ⟨D2, S, m, rfl, hD2, _, rfl, _, _, rfl, .inr ⟨_, Sq.same (t := true) hx1 (b2.new nD2), rfl⟩, rfl, ?_⟩
                have e := mt.all
                rw [List.length_map] at e
                rw [dec_int, lx, e]
                exact q H2 (s1.trans (b2.new nD2)))
      · have c1 : ¬ 1 ≤ ds.length := fun y => e1 (decide_eq_true (by omega))
        have e := q H (Same.refl H)
        rw [val, decide_eq_false c1, Bool.false_and, Bool.false_and, Bool.false_and] at e
        exact e
end
end St6

set_option autoImplicit false
set_option maxHeartbeats 4000000
namespace St6
open PySem PySem.Spec PyProof.Rows L2 Tg Cc
/-! the law's own look at forms -/
theorem dpAll_strs {K : PySem.W.Frag} {H : Hp} : ∀ ns : List Str, DpAll K H (ns.map V.str) (ns.map PyData.str)
  | [] => .nil
  | n :: r => .cons (.str n) (dpAll_strs r)
theorem can_strs : ∀ ns : List Str, (∀ z ∈ ns, As z) → PyData.canLayAll0 (ns.map PyData.str) = true
  | [], _ => rfl
  | x :: r, h => by
    have h1 : PyData.strOk x = true := by
      unfold PyData.strOk
      rw [Array.all_eq_true']
      intro c hc
      have := h x (List.mem_cons_self ..) c (by simpa using hc)
      exact decide_eq_true (by omega)
    have h2 := can_strs r fun z hz => h z (List.mem_cons_of_mem _ hz)
    simp [PyData.canLayAll0, PyData.canLay0, h1, h2]
theorem depth_strs : ∀ ns : List Str, PyData.depthAll (ns.map PyData.str) = 0
  | [] => rfl
  | _ :: r => by simp [PyData.depthAll, PyData.depth, depth_strs r]
theorem shaped_strs {ns : List Str} (h : ∀ z ∈ ns, As z) : SeqAt.shaped (.list (ns.map PyData.str)) = true := by
  simp [SeqAt.shaped, PyData.canLay0, PyData.depth, can_strs ns h, depth_strs]
def spWord (K : PySem.W.Frag) : Sp := fun vs H Q _ => ∃ v d n, vs = [v, .int (n : Nat)] ∧ Th K H v d ∧ Ok d ∧ ∀ H', Same H H' → Q (.bl (smallB n d)) H'
theorem low_mem (c : Nat) : decide (c ∈ ("abcdefghijklmnopqrstuvwxyz" : Str).cps.toList) = lowC c := by
  have e : ("abcdefghijklmnopqrstuvwxyz" : Str).cps.toList = (List.range 26).map (97 + ·) := by decide +kernel
  rw [e]
  unfold lowC
  rw [← Bool.decide_and]
  refine decide_eq_decide.mpr ⟨fun h => ?_, fun h => ?_⟩
  · obtain ⟨k, hk, e⟩ := List.mem_map.mp h
    have := List.mem_range.mp hk
    omega
  · exact List.mem_map.mpr ⟨c - 97, List.mem_range.mpr (by omega), by omega⟩
/-- the signs of a text that aren't small letters -/
def highs (l : List Nat) : List Str := (l.filter fun c => !lowC c).map fun c => ⟨#[c]⟩
theorem highs_snoc (l : List Nat) (c : Nat) : highs (l ++ [c]) = highs l ++ (if lowC c = true then [] else [⟨#[c]⟩]) := by
  unfold highs
  rw [List.filter_append, List.map_append]
  cases h : lowC c <;> simp [h]
theorem highs_nil (l : List Nat) : (highs l).isEmpty = l.all lowC := by
  unfold highs
  induction l with
  | nil => rfl
  | cons c r ih =>
    cases h : lowC c
    · simp [h]
    · simp [h] at ih ⊢
      exact ih
theorem eqv_nil (l : List PyData) : PyData.eqv (.list l) (.list []) = l.isEmpty := by
  cases l <;> simp [PyData.eqv, PyData.eqvAll]
section
variable {P : Program} {w : World} {K : PySem.W.Frag} {mg : Str → Option Value} {base : Heap}
theorem fieldB_2 (d0 d1 : PyData) : fieldB (.tuple [d0, d1]) = (smallB 12 d0 && sortB d1) := rfl
theorem all_false {ds : List PyData} {i : Nat} {d : PyData} (e : ds[i]? = some d) (h : fieldB d = false) : formB (.tuple ds) = false := by
  have h2 : ds.all fieldB = false := by
    rw [List.all_eq_false]
    exact ⟨d, List.mem_of_getElem? e, by rw [h]; exact Bool.false_ne_true⟩
  show ((decide (1 ≤ ds.length) && decide (ds.length ≤ 6)) && ds.all fieldB && decide ((ds.map nameOf).Nodup)) = false
  rw [h2, Bool.and_false, Bool.false_and]
theorem decn {x : V} {i : Int} : decide (x ≠ V.int i) = !decide (x = V.int i) := by
  by_cases h : x = V.int i <;> simp [h]
end
end St6

set_option autoImplicit false
set_option maxHeartbeats 4000000
namespace St6
open PySem PySem.Spec PyProof.Rows L2 Tg Cc TL
/-! names and forms, drawn -/
theorem joinL_len : ∀ ls : List (List Nat), (joinL [] ls).length = (ls.map List.length).sum
  | [] => rfl
  | [p] => by simp [joinL]
  | p :: q :: r => by
    have ih := joinL_len (q :: r)
    show (p ++ ([] ++ joinL [] (q :: r))).length = _
    rw [List.nil_append, List.length_append, ih]
    simp
theorem joinL_mem : ∀ (ls : List (List Nat)) (e : Nat), e ∈ joinL [] ls → ∃ y ∈ ls, e ∈ y
  | [], e, h => by cases h
  | [p], e, h => ⟨p, List.mem_singleton_self _, h⟩
  | p :: q :: r, e, h => by
    have h2 : e ∈ p ++ ([] ++ joinL [] (q :: r)) := h
    rw [List.nil_append] at h2
    rcases List.mem_append.mp h2 with h3 | h3
    · exact ⟨p, List.mem_cons_self .., h3⟩
    · obtain ⟨y, hy, he⟩ := joinL_mem (q :: r) e h3
      exact ⟨y, List.mem_cons_of_mem _ hy, he⟩
theorem atI_in {α : Type} {xs : List α} {d : Int} (h0 : 0 ≤ d) (h1 : d < (xs.length : Int)) : ∃ v, atI xs d = some v ∧ v ∈ xs := by
  obtain ⟨j, rfl⟩ := Int.eq_ofNat_of_zero_le h0
  have hj : j < xs.length := Int.ofNat_lt.mp h1
  exact ⟨xs[j], atI_nat (List.getElem?_eq_getElem hj), List.getElem_mem hj⟩
theorem atI_map {α β : Type} {f : α → β} {xs : List α} {d : Int} (h0 : 0 ≤ d) (h1 : d < (xs.length : Int)) : ∃ v, atI (xs.map f) d = some (f v) ∧ v ∈ xs := by
  obtain ⟨j, rfl⟩ := Int.eq_ofNat_of_zero_le h0
  have hj : j < xs.length := Int.ofNat_lt.mp h1
  exact ⟨xs[j], atI_nat (by rw [List.getElem?_map, List.getElem?_eq_getElem hj]; rfl), List.getElem_mem hj⟩
/-- a text of small letters -/
def Low (z : Str) : Prop := ∀ c ∈ z.cps.toList, lowC c = true
theorem Low.as {z : Str} (h : Low z) : As z := fun c hc => by
  have := h c hc
  unfold lowC at this
  rw [Bool.and_eq_true, decide_eq_true_eq, decide_eq_true_eq] at this
  omega
theorem Low.app {z y : Str} (h : Low z) (k : Low y) : Low (z ++ y) := fun c hc => by
  have e : (z ++ y).cps.toList = z.cps.toList ++ y.cps.toList := Array.toList_append
  rw [e] at hc
  exact (List.mem_append.mp hc).elim (h c) (k c)
/-- one sign for each -/
theorem Low.join {zs : List Str} (h : ∀ z ∈ zs, z.length = 1 ∧ Low z) : Low (Txt.join (Str.ofString "") zs) ∧ (Txt.join (Str.ofString "") zs).length = zs.length ∧ (zs.map (·.length)).sum + zs.length * (Str.ofString "").length = zs.length := by
  have e0 : (Str.ofString "").length = 0 := by decide +kernel
  have t0 : tl (Str.ofString "") = [] := by decide +kernel
  have hsum : ∀ ys : List Str, (∀ z ∈ ys, z.length = 1) → (ys.map (·.length)).sum = ys.length := by
    intro ys
    induction ys with
    | nil => intro _; rfl
    | cons y r ih =>
      intro hy
      rw [List.map_cons, List.sum_cons, ih fun z hz => hy z (List.mem_cons_of_mem _ hz), hy y (List.mem_cons_self ..), List.length_cons]
      omega
  refine ⟨fun c hc => ?_, ?_, by rw [e0, hsum zs fun z hz => (h z hz).1]; omega⟩
  · have hc : c ∈ tl (Txt.join (Str.ofString "") zs) := hc
    rw [join_eq, tl_join, t0] at hc
    obtain ⟨y, hy, hey⟩ := joinL_mem _ _ hc
    obtain ⟨z, hz, rfl⟩ := List.mem_map.mp hy
    exact (h z hz).2 c hey
  · rw [len_tl, join_eq, tl_join, t0, joinL_len]
    have : ((zs.map tl).map List.length) = zs.map (·.length) := by
      rw [List.map_map]
      exact List.map_congr_left fun z _ => (len_tl z).symm
    rw [this, hsum zs fun z hz => (h z hz).1]
def abc : Str := "abcdefghijklmnopqrstuvwxyz"
theorem abc_at {d : Int} (h0 : 0 ≤ d) (h1 : d < 26) : atI abc.cps.toList d = some (97 + d.toNat) := by
  obtain ⟨j, rfl⟩ := Int.eq_ofNat_of_zero_le h0
  have e : abc.cps.toList = (List.range 26).map (97 + ·) := by decide +kernel
  refine atI_nat ?_
  rw [e, List.getElem?_map, List.getElem?_eq_getElem (by rw [List.length_range]; omega), List.getElem_range]
  rfl
theorem low_one {j : Nat} (h : j < 26) : Low ⟨#[97 + j]⟩ := fun c hc => by
  have e : c = 97 + j := by simpa using hc
  unfold lowC
  rw [e, decide_eq_true (by omega), decide_eq_true (by omega)]
  rfl
/-- the k-th letter, its place -/
def letP (first by_ : Int) (k : Nat) : Int := (first + by_ * k).fmod 26
theorem letP_lt (a b : Int) (k : Nat) : 0 ≤ letP a b k ∧ letP a b k < 26 := ⟨Int.fmod_nonneg_of_pos _ (by decide), Int.fmod_lt_of_pos _ (by decide)⟩
def bys : List Int := [3, 5, 7, 9, 11, 15]
theorem letP_inj {a b : Int} (hb : b ∈ bys) {i j : Nat} (hi : i < 26) (hj : j < 26) (e : letP a b i = letP a b j) : i = j := by
  unfold letP at e
  rw [Int.fmod_eq_emod_of_nonneg _ (by decide), Int.fmod_eq_emod_of_nonneg _ (by decide)] at e
  have hb : b = 3 ∨ b = 5 ∨ b = 7 ∨ b = 9 ∨ b = 11 ∨ b = 15 := by simpa [bys] using hb
  rcases hb with rfl | rfl | rfl | rfl | rfl | rfl <;> omega
/-- a name: a letter and a tail -/
def nameW (way : Int) (tail : Str) (j : Int) : Str := if way = 0 then ⟨#[97 + j.toNat]⟩ ++ tail else tail ++ ⟨#[97 + j.toNat]⟩
theorem tl_app (z y : Str) : (z ++ y).cps.toList = z.cps.toList ++ y.cps.toList := Array.toList_append
theorem nameW_inj {way : Int} {tail : Str} {i j : Int} (hi : 0 ≤ i) (hj : 0 ≤ j) (e : nameW way tail i = nameW way tail j) : i = j := by
  unfold nameW at e
  by_cases h : way = 0
  · rw [if_pos h, if_pos h] at e
    have e2 := congrArg (fun z : Str => z.cps.toList) e
    simp only [tl_app] at e2
    have e3 := List.append_cancel_right e2
    simp at e3
    omega
  · rw [if_neg h, if_neg h] at e
    have e2 := congrArg (fun z : Str => z.cps.toList) e
    simp only [tl_app] at e2
    have e3 := List.append_cancel_left e2
    simp at e3
    omega
theorem len_app (z y : Str) : (z ++ y).length = z.length + y.length := Array.size_append
theorem nameW_ok {way : Int} {tail : Str} {j : Int} (ht : Low tail) (hl : tail.length ≤ 11) (h0 : 0 ≤ j) (h1 : j < 26) : Low (nameW way tail j) ∧ 1 ≤ (nameW way tail j).length ∧ (nameW way tail j).length ≤ 12 := by
  have a := low_one (j := j.toNat) (by omega)
  have l1 : (⟨#[97 + j.toNat]⟩ : Str).length = 1 := rfl
  unfold nameW
  split
  · exact ⟨a.app ht, by rw [len_app, l1]; omega, by rw [len_app, l1]; omega⟩
  · exact ⟨ht.app a, by rw [len_app, l1]; omega, by rw [len_app, l1]; omega⟩
/-- unlike names -/
structure Names (zs : List Str) (m : Nat) : Prop where
  len : zs.length = m
  nd : zs.Nodup
  ok : ∀ z ∈ zs, Low z ∧ 1 ≤ z.length ∧ z.length ≤ 12
theorem names_of {m : Nat} {a b way : Int} {tail : Str} (hm : m ≤ 26) (hb : b ∈ bys) (ht : Low tail) (hl : tail.length ≤ 11) : Names ((List.range m).map fun k => nameW way tail (letP a b k)) m := by
  refine ⟨by rw [List.length_map, List.length_range], ?_, fun z hz => ?_⟩
  · refine List.pairwise_map.mpr (List.Pairwise.imp_of_mem ?_ List.nodup_range)
    intro i j hi hj ne e
    refine ne ?_
    have hi := List.mem_range.mp hi
    have hj := List.mem_range.mp hj
    exact letP_inj hb (by omega) (by omega) (nameW_inj (letP_lt ..).1 (letP_lt ..).1 e)
  · obtain ⟨k, hk, rfl⟩ := List.mem_map.mp hz
    exact nameW_ok ht hl (letP_lt ..).1 (letP_lt ..).2
theorem Names.small {zs : List Str} {m : Nat} (h : Names zs m) {z : Str} (hz : z ∈ zs) : smallB 12 (.str z) = true := by
  obtain ⟨h1, h2, h3⟩ := h.ok z hz
  show ((decide (1 ≤ z.length) && decide (z.length ≤ 12)) && z.cps.toList.all lowC) = true
  rw [decide_eq_true h2, decide_eq_true h3, List.all_eq_true.mpr h1]
  rfl
def spNames : Sp := fun vs H Q _ => ∃ (d cl : Addr) (ns : List Int) (m n : Nat), vs = [.ref d, .int (m : Nat)] ∧ Pen H d cl ns n ∧ n ≤ 900000000 ∧ m ≤ 26 ∧ ∀ H' p zs, Fr [d] H H' → Pen H' d cl ns (n + 20) → H' p = some (.lst (zs.map V.str)) → Names zs m → Q (.ref p) H'
section
variable {P : Program} {w : World} {K : PySem.W.Frag} {mg : Str → Option Value} {base : Heap}
theorem scnames : FnScope ["pen", "many", "letters", "k", "tail", "first", "by", "way", "found", "letter"] ["pen", "many"] (defScope sNames) := ⟨rfl, rfl, rfl, by decide +kernel, rfl, by decide +kernel, by decide +kernel⟩
theorem ok_names {f : Addr} {fd : FuncData} (F : FnP K "_law_names" sNames f fd) {f__law_draw : Addr} {fd__law_draw : FuncData} (c__law_draw : Cl P w K mg base CX0 "_law_draw" 1 ["pen", "many"] (spDraw) f__law_draw fd__law_draw) (mb_range : mg "range" = none)   : FnOk P w K mg base CX0 2 f fd ["pen", "many"] (spNames) := by
  refine F.ok scnames (fun vs H Q E h => ?_) (fun cdv A outer s H vs Q E hr h => ?_)
  · obtain ⟨d, cl, ns, m, n, rfl, _⟩ := h
    rfl
  · obtain ⟨d, cl, ns, m, n, rfl, hP, hn, hm, q⟩ := h
    have hu := hu_of hr
    have hs := szl
    refine ⟨_, PSs.nox (pss_cons (ps_set (i := 2) scnames.nd rfl (Or.inr rfl) (pe_str))
      (pss_cons (ps_set (i := 4) scnames.nd rfl (Or.inr rfl) (pe_join (pe_str) (pe_lc (own := [("k", 3)]) (g := gName 3) (tt := tYes) rfl scnames.nd (pi_range1 (by rfl) mb_range (pa_cons (pe_call c__law_draw.ok (hr.mono (by decide)) (by rfl) c__law_draw.m c__law_draw.kp c__law_draw.b .nil pass0 (pa_cons (pv 0) (pa_cons (pe_int) pa_nil))) pa_nil)) (blkOk_by (own := [("k", 3)]) (N := ["pen", "many", "letters", "k", "tail", "first", "by", "way", "found", "letter"]) (sc := defScope sNames) (by decide +kernel)) (fun _ _ _ _ _ => pg_name (i := 3) scnames.nd rfl (Or.inl rfl)) (fun _ _ _ _ _ => pts_nil) (fun _ _ _ _ _ => pe_ix ix_str (pv 2) (pe_call c__law_draw.ok (hr.mono (by decide)) (by rfl) c__law_draw.m c__law_draw.kp c__law_draw.b .nil pass0 (pa_cons (pv 0) (pa_cons (pe_int) pa_nil))) (fun _ _ => rfl)))))
      (pss_cons (ps_set (i := 5) scnames.nd rfl (Or.inr rfl) (pe_call c__law_draw.ok (hr.mono (by decide)) (by rfl) c__law_draw.m c__law_draw.kp c__law_draw.b .nil pass0 (pa_cons (pv 0) (pa_cons (pe_int) pa_nil))))
      (pss_cons (ps_set (i := 6) scnames.nd rfl (Or.inr rfl) (pe_ix ix_list (pe_lst (pa_cons (pe_int) (pa_cons (pe_int) (pa_cons (pe_int) (pa_cons (pe_int) (pa_cons (pe_int) (pa_cons (pe_int) pa_nil))))))) (pe_call c__law_draw.ok (hr.mono (by decide)) (by rfl) c__law_draw.m c__law_draw.kp c__law_draw.b .nil pass0 (pa_cons (pv 0) (pa_cons (pe_int) pa_nil))) (fun _ _ => rfl)))
      (pss_cons (ps_set (i := 7) scnames.nd rfl (Or.inr rfl) (pe_call c__law_draw.ok (hr.mono (by decide)) (by rfl) c__law_draw.m c__law_draw.kp c__law_draw.b .nil pass0 (pa_cons (pv 0) (pa_cons (pe_int) pa_nil))))
      (pss_cons (ps_setLc (i := 8) (own := [("k", 3)]) (g := gName 3) (tt := tYes) rfl scnames.nd rfl rfl (sw_true rfl rfl rfl (by decide +kernel)) (pi_range1 (by rfl) mb_range (pa_cons (pv 1) pa_nil)) (blkOk_by (own := [("k", 3)]) (N := ["pen", "many", "letters", "k", "tail", "first", "by", "way", "found", "letter"]) (sc := defScope sNames) (by decide +kernel)) (fun _ _ _ _ _ => pg_name (i := 3) scnames.nd rfl (Or.inl rfl)) (fun _ _ _ _ _ => pts_nil) (fun _ _ _ _ _ => pe_ix ix_str (pv 2) (pe_op op_modN (pe_op op_add (pv 5) (pe_op op_mul (pv 6) (pv 3))) (pe_int)) (fun _ _ => rfl)))
      (pss_one (ps_ret (pe_lc (own := [("letter", 9)]) (g := gName 9) (tt := tYes) rfl scnames.nd (pi_list (pv 8)) (blkOk_by (own := [("letter", 9)]) (N := ["pen", "many", "letters", "k", "tail", "first", "by", "way", "found", "letter"]) (sc := defScope sNames) (by decide +kernel)) (fun _ _ _ _ _ => pg_name (i := 9) scnames.nd rfl (Or.inl rfl)) (fun _ _ _ _ _ => pts_nil) (fun _ _ _ _ _ => pe_ix (Cc.ix_listk (K := K) rfl) (pe_lst (pa_cons (pe_op op_add_str (pv 9) (pv 4)) (pa_cons (pe_op op_add_str (pv 4) (pv 9)) pa_nil))) (pv 7) (fun _ _ => rfl))))))))))), ?_⟩
    refine ⟨⟨_, rfl⟩, _, rfl, d, cl, ns, 12, n, rfl, hP, by omega, by decide, by decide, fun H1 k1 f1 P1 k10 k11 => ?_⟩
    obtain ⟨c, rfl⟩ := Int.eq_ofNat_of_zero_le k10
    refine ⟨_, rfl, by omega, by omega, fun L nL => ?_⟩
    obtain ⟨⟨xa, xb, hd1, _⟩, hc1, _⟩ := id P1
    have nLd : d ≠ L := ne_of_none hd1 nL
    have nLc : cl ≠ L := ne_of_none hc1 nL
    refine lc_acc (walk_range (lo := 0) (n := (c : Int).toNat)) (fun i acc H' => ∃ zs : List Str, acc = zs.map V.str ∧ (∀ z ∈ zs, z.length = 1 ∧ Low z) ∧ Fr [d, L] H1 H' ∧ Pen H' d cl ns (n + 1 + i))
      ⟨[], rfl, (fun _ z => by cases z), fr_upd (by simp), P1.fr (fr_new (S := []) nL) (by simp) (by simp)⟩ (fun _ _ _ _ _ _ => trivial) ?_ ?_
    · rintro i x acc H2 H3 hi la ⟨zs, rfl, h1, f2, P2⟩ hL ⟨rfl, rfl⟩
      refine ⟨rfl, _, rfl, _, rfl, d, cl, ns, 26, _, rfl, P2, by omega, by decide, by decide, fun H4 d4 f4 P4 d40 d41 => ?_⟩
      have hL4 := f4 _ _ (by simpa using nLd.symm) hL
      refine ⟨_, d4, 97 + d4.toNat, rfl, rfl, by rw [show (Str.ofString "abcdefghijklmnopqrstuvwxyz").length = 26 by decide +kernel]; omega, abc_at d40 d41, push hL4 la (by omega) ⟨zs ++ [⟨#[97 + d4.toNat]⟩], ?_, ?_, (f2.trans (f4.mono (by simp))).trans (fr_upd (by simp)), (P4.fr (S := [L]) (fr_upd (by simp)) (by simpa using nLd) (by simpa using nLc)).mono (by omega)⟩⟩
      · rw [List.map_append]
        rfl
      · intro z hz
        rcases List.mem_append.mp hz with h | h
        · exact h1 z h
        · rw [List.mem_singleton.mp h]
          exact ⟨rfl, low_one (by omega)⟩
    · rintro acc H2 la ⟨zs, rfl, h1, f2, P2⟩ hL
      obtain ⟨j1, j2, j3⟩ := Low.join h1
      rw [List.length_map] at la
      have f02 : Fr [d] H H2 := Fr.drop (p := L) (S := [d]) ((f1.mono (by simp)).trans (f2.mono (by simp))) (f1.free (by simpa using nLd.symm) nL)
      refine ⟨_, L, zs, rfl, rfl, .inl (SqL.of hL), by rw [j3]; omega, ?_⟩
      have lt : (Txt.join (Str.ofString "") zs).length ≤ 11 := by rw [j2]; omega
      clear hL f2 h1 j2 j3
      generalize Txt.join (Str.ofString "") zs = tail at j1 lt ⊢
      have P2 := P2.mono (m := n + 12) (by omega)
      -- first
      refine ⟨_, rfl, d, cl, ns, 26, _, rfl, P2, by omega, by decide, by decide, fun H5 a f5 P5 a0 a1 => ?_⟩
      -- by
      refine ⟨by show 6 ≤ sizeLine; decide, fun l nl => ⟨_, rfl, d, cl, ns, 6, _, rfl, P5.fr (fr_new (S := []) nl) (by simp) (by simp), by omega, by decide, by decide, fun H6 b f6 P6 b0 b1 => ?_⟩⟩
      obtain ⟨⟨xa5, xb5, hd5, _⟩, hc5, _⟩ := id P5
      have nld : d ≠ l := ne_of_none hd5 nl
      have hl6 : H6 l = some (.lst (bys.map V.int)) := f6 _ _ (by simpa using nld.symm) upd_same
      obtain ⟨by_, eb2, mb⟩ := atI_map (f := V.int) (xs := bys) b0 b1
      have f06 : Fr [d] H H6 := ((f02.trans f5).trans (fr_new nl)).trans f6
      refine ⟨l, _, b, _, rfl, rfl, SqL.of hl6, eb2, ?_⟩
      -- way
      refine ⟨_, rfl, d, cl, ns, 2, _, rfl, P6, by omega, by decide, by decide, fun H7 way f7 P7 w0 w1 => ?_⟩
      have f07 := f06.trans f7
      obtain ⟨⟨xa7, xb7, hd7, _⟩, hc7, _⟩ := id P7
      have hby : 3 ≤ by_ ∧ by_ ≤ 15 := by
        have : by_ = 3 ∨ by_ = 5 ∨ by_ = 7 ∨ by_ = 9 ∨ by_ = 11 ∨ by_ = 15 := by simpa [bys] using mb
        omega
      -- found
      refine ⟨_, rfl, _, rfl, by omega, by omega, fun L2 nL2 => ?_⟩
      have nd2 : d ≠ L2 := ne_of_none hd7 nL2
      have nc2 : cl ≠ L2 := ne_of_none hc7 nL2
      refine lc_acc (walk_range (lo := 0) (n := ((m : Nat) : Int).toNat)) (fun i acc H' => acc = ((List.range i).map fun k => V.str ⟨#[97 + (letP a by_ k).toNat]⟩) ∧ But L2 H7 H') ⟨rfl, But.refl.upd⟩ (fun _ _ _ _ _ _ => trivial) ?_ ?_
      · rintro i x acc H8 H9 hi la ⟨ea, b8⟩ hL2 ⟨rfl, rfl⟩
        refine ⟨rfl, _, rfl, _, rfl, _, rfl, _, rfl, _, _, rfl, rfl, .inl ⟨by omega, by omega⟩, _, _, rfl, rfl, _, _, rfl, rfl, (by show (26 : Int) ≠ 0; decide), ?_⟩
        have e0 : (a + by_ * (0 + (i : Int))).fmod 26 = letP a by_ i := by
          unfold letP
          rw [Int.zero_add]
        refine ⟨_, letP a by_ i, _, rfl, congrArg V.int e0, by rw [show (Str.ofString "abcdefghijklmnopqrstuvwxyz").length = 26 by decide +kernel]; omega, abc_at (letP_lt ..).1 (letP_lt ..).2, push hL2 la (by omega) ⟨?_, b8.upd⟩⟩
        rw [ea, List.range_succ, List.map_append]
        rfl
      · rintro acc H8 la ⟨rfl, b8⟩ hL2
        have s78 := b8.new nL2
        have em : ((m : Nat) : Int).toNat = m := by omega
        rw [em] at hL2
        have fin := names_of (a := a) (way := way) hm mb j1 lt
        refine ⟨_, rfl, L2, rfl, ⟨_, SqL.of hL2⟩, fun L3 nL3 => ?_⟩
        refine lc_acc (walk_list (K := K) (a := L2) (xs := (List.range m).map fun k => V.str ⟨#[97 + (letP a by_ k).toNat]⟩)) (fun i acc H' => acc = ((List.range i).map fun k => V.str (nameW way tail (letP a by_ k))) ∧ But L3 H8 H') ⟨rfl, But.refl.upd⟩ (fun i acc H' _ ⟨_, b⟩ _ => SqL.of (b _ _ (ne_of_none hL2 nL3) hL2)) ?_ ?_
        · rintro i x acc H9 H10 hi la ⟨ea, b9⟩ hL3 ⟨rfl, hx⟩
          rw [List.length_map, List.length_range] at hi
          rw [List.getElem?_map, List.getElem?_eq_getElem (by rw [List.length_range]; exact hi), List.getElem_range] at hx
          obtain rfl := Option.some.inj hx
          have l1 : (⟨#[97 + (letP a by_ i).toNat]⟩ : Str).length = 1 := rfl
          refine ⟨rfl, _, rfl, _, rfl, _, _, rfl, rfl, by rw [l1]; omega, _, rfl, _, rfl, _, _, rfl, rfl, by rw [l1]; omega, by show 2 ≤ sizeLine; decide, fun t nt => ?_⟩
          have hw : way = 0 ∨ way = 1 := by omega
          refine ⟨_, rfl, t, _, way, .str (nameW way tail (letP a by_ i)), rfl, rfl, SqL.of upd_same, ?_, push (newS nt _ _ hL3) la (by omega) ⟨?_, (b9.same (newS nt)).upd⟩⟩
          · rcases hw with rfl | rfl <;> rfl
          · rw [ea, List.range_succ, List.map_append]
            rfl
        · rintro acc H9 la ⟨rfl, b9⟩ hL3
          rw [List.length_map, List.length_range] at hL3
          have s89 := b9.new nL3
          refine q H9 L3 _ (f07.trans (fr_same (s78.trans s89))) ((P7.fr (S := []) (fr_same (s78.trans s89)) (by simp) (by simp)).mono (by omega)) ?_ fin
          rw [hL3, List.map_map]
          rfl
def fieldD (x : Str × Str) : PyData := .tuple [.str x.1, .str x.2]
def formD (fs : List (Str × Str)) : PyData := .tuple (fs.map fieldD)
/-- a form: its fields with their sorts -/
structure GoodF (fs : List (Str × Str)) : Prop where
  lo : 1 ≤ fs.length
  hi : fs.length ≤ 6
  nd : (fs.map Prod.fst).Nodup
  ok : ∀ x ∈ fs, Low x.1 ∧ 1 ≤ x.1.length ∧ x.1.length ≤ 12 ∧ x.2 ∈ sorts
theorem GoodF.form {fs : List (Str × Str)} (h : GoodF fs) : formB (formD fs) = true := by
  have e1 : (fs.map fieldD).length = fs.length := List.length_map _
  have e2 : (fs.map fieldD).map nameOf = fs.map Prod.fst := by
    rw [List.map_map]
    rfl
  show ((decide (1 ≤ (fs.map fieldD).length) && decide ((fs.map fieldD).length ≤ 6)) && (fs.map fieldD).all fieldB && decide (((fs.map fieldD).map nameOf).Nodup)) = true
  rw [e1, e2, decide_eq_true h.lo, decide_eq_true h.hi, decide_eq_true h.nd, List.all_map, List.all_eq_true.mpr]
  · rfl
  · intro x hx
    obtain ⟨h1, h2, h3, h4⟩ := h.ok x hx
    show (((decide (1 ≤ x.1.length) && decide (x.1.length ≤ 12)) && x.1.cps.toList.all lowC) && decide (x.2 ∈ sorts)) = true
    rw [decide_eq_true h2, decide_eq_true h3, decide_eq_true h4, List.all_eq_true.mpr h1]
    rfl
theorem sorts_ok {x : Str} (h : x ∈ sorts) : x.length ≤ 6 ∧ As x := by
  have : ∀ y ∈ sorts, y.length ≤ 6 ∧ ∀ c ∈ y.cps.toList, c < 128 := by decide +kernel
  exact this x h
theorem GoodF.bd {fs : List (Str × Str)} (h : GoodF fs) : Bd 64 2 (formD fs) := by
  refine ⟨by rw [List.length_map]; have := h.hi; omega, fun d hd => ?_⟩
  obtain ⟨x, hx, rfl⟩ := List.mem_map.mp hd
  obtain ⟨h1, h2, h3, h4⟩ := h.ok x hx
  refine ⟨by show 2 ≤ 64; omega, fun e he => ?_⟩
  rcases List.mem_cons.mp he with rfl | he
  · exact ⟨by omega, h1.as⟩
  · obtain rfl := List.mem_singleton.mp he
    have := sorts_ok h4
    exact ⟨by omega, this.2⟩
def spDForm (K : PySem.W.Frag) : Sp := fun vs H Q _ => ∃ (d cl p : Addr) (ns : List Int) (zs : List Str) (m n least : Nat), vs = [.ref d, .ref p, .int (least : Nat)] ∧ Pen H d cl ns n ∧ n ≤ 900000000 ∧ H p = some (.lst (zs.map V.str)) ∧ Names zs m ∧ 6 ≤ m ∧ 1 ≤ least ∧ least ≤ 6 ∧
  ∀ H' q fs, Fr [d] H H' → Pen H' d cl ns (n + 10) → Th K H' (.ref q) (formD fs) → GoodF fs → least ≤ fs.length → fs.map Prod.fst = zs.take fs.length → Q (.ref q) H'
def dsorts : List Str := ["code", "word", "amount", "text", "code", "word"]
theorem dsorts_in {x : Str} (h : x ∈ dsorts) : x ∈ sorts := (show ∀ y ∈ dsorts, y ∈ sorts by decide +kernel) x h
theorem th_fields {K : PySem.W.Frag} {H : Hp} : ∀ {ps : List (Addr × Str × Str)}, (∀ x ∈ ps, H x.1 = some (.tup [.str x.2.1, .str x.2.2])) → ThAll K H (ps.map fun x => V.ref x.1) ((ps.map Prod.snd).map fieldD)
  | [], _ => .nil
  | x :: r, h => .cons (.tup (SqT.of (h x (List.mem_cons_self ..))) (.cons (.str _) (.cons (.str _) .nil))) (th_fields fun y hy => h y (List.mem_cons_of_mem _ hy))
theorem scdform : FnScope ["pen", "names", "least", "sorts", "k"] ["pen", "names", "least"] (defScope sForm) := ⟨rfl, rfl, rfl, by decide +kernel, rfl, by decide +kernel, by decide +kernel⟩
theorem ok_dform {f : Addr} {fd : FuncData} (F : FnP K "_law_form" sForm f fd) {f__law_draw : Addr} {fd__law_draw : FuncData} (c__law_draw : Cl P w K mg base CX0 "_law_draw" 1 ["pen", "many"] (spDraw) f__law_draw fd__law_draw) (mb_range : mg "range" = none) (mb_tuple : mg "tuple" = none)   : FnOk P w K mg base CX0 2 f fd ["pen", "names", "least"] (spDForm K) := by
  refine F.ok scdform (fun vs H Q E h => ?_) (fun cdv A outer s H vs Q E hr h => ?_)
  · obtain ⟨d, cl, p, ns, zs, m, n, least, rfl, _⟩ := h
    rfl
  · obtain ⟨d, cl, p, ns, zs, m, n, least, rfl, hP, hn, hp, hN, hm, l1, l6, q⟩ := h
    have hu := hu_of hr
    have hs := szl
    refine ⟨_, PSs.nox (pss_cons (ps_set (i := 3) scdform.nd rfl (Or.inr rfl) (pe_lst (pa_cons (pe_str) (pa_cons (pe_str) (pa_cons (pe_str) (pa_cons (pe_str) (pa_cons (pe_str) (pa_cons (pe_str) pa_nil))))))))
      (pss_one (ps_ret (pe_callTy call_tuple_of (by rfl) mb_tuple (by decide +kernel) (pa_cons (pe_lc (own := [("k", 4)]) (g := gName 4) (tt := tYes) rfl scdform.nd (pi_range1 (by rfl) mb_range (pa_cons (pe_op op_add (pv 2) (pe_call c__law_draw.ok (hr.mono (by decide)) (by rfl) c__law_draw.m c__law_draw.kp c__law_draw.b .nil pass0 (pa_cons (pv 0) (pa_cons (pe_op op_sub (pe_int) (pv 2)) pa_nil)))) pa_nil)) (blkOk_by (own := [("k", 4)]) (N := ["pen", "names", "least", "sorts", "k"]) (sc := defScope sForm) (by decide +kernel)) (fun _ _ _ _ _ => pg_name (i := 4) scdform.nd rfl (Or.inl rfl)) (fun _ _ _ _ _ => pts_nil) (fun _ _ _ _ _ => pe_tup (pa_cons (pe_ix (Cc.ix_listk (K := K) rfl) (pv 1) (pv 4) (fun _ _ => rfl)) (pa_cons (pe_ix (Cc.ix_listk (K := K) rfl) (pv 3) (pe_call c__law_draw.ok (hr.mono (by decide)) (by rfl) c__law_draw.m c__law_draw.kp c__law_draw.b .nil pass0 (pa_cons (pv 0) (pa_cons (pe_int) pa_nil))) (fun _ _ => rfl)) pa_nil)))) pa_nil))))), ?_⟩
    refine ⟨by show 6 ≤ sizeLine; decide, fun s ns_ => ?_⟩
    obtain ⟨⟨xa0, xb0, hd0, _⟩, hc0, _⟩ := id hP
    have s0 := newS (o := .lst (dsorts.map V.str)) ns_
    have P0 : Pen (upd H s (.lst (dsorts.map V.str))) d cl ns n := hP.fr (fr_new (S := []) ns_) (by simp) (by simp)
    refine ⟨_, rfl, _, rfl, _, rfl, _, _, rfl, rfl, d, cl, ns, 7 - (least : Int), n, rfl, P0, by omega, by omega, by omega, fun H1 k1 f1 P1 k10 k11 => ?_⟩
    obtain ⟨c, rfl⟩ := Int.eq_ofNat_of_zero_le k10
    refine ⟨_, _, rfl, rfl, _, rfl, by omega, by omega, fun L nL => ?_⟩
    obtain ⟨⟨xa, xb, hd1, _⟩, hc1, _⟩ := id P1
    have nsd : d ≠ s := ne_of_none hd0 ns_
    have npd : p ≠ d := ne_of hp hd0 (by intro z; cases z)
    have hs1 : H1 s = some (.lst (dsorts.map V.str)) := f1 _ _ (by simpa using nsd.symm) upd_same
    have hp1 : H1 p = some (.lst (zs.map V.str)) := f1 _ _ (by simpa using npd) (s0 _ _ hp)
    have nLd : d ≠ L := ne_of_none hd1 nL
    have nLc : cl ≠ L := ne_of_none hc1 nL
    have nLs : s ≠ L := ne_of_none hs1 nL
    have nLp : p ≠ L := ne_of_none hp1 nL
    refine lc_acc (walk_range (lo := 0) (n := ((least : Int) + (c : Int)).toNat)) (fun i acc H' => ∃ ps : List (Addr × Str × Str), acc = ps.map (fun x => V.ref x.1) ∧ (∀ x ∈ ps, H' x.1 = some (.tup [.str x.2.1, .str x.2.2])) ∧ ps.map (fun x => x.2.1) = zs.take i ∧ (∀ x ∈ ps, x.2.2 ∈ sorts) ∧ Fr [d, L] H1 H' ∧ Pen H' d cl ns (n + 1 + i))
      ⟨[], rfl, (fun _ z => by cases z), rfl, (fun _ z => by cases z), fr_upd (by simp), P1.fr (fr_new (S := []) nL) (by simp) (by simp)⟩ (fun _ _ _ _ _ _ => trivial) ?_ ?_
    · rintro i x acc H2 H3 hi la ⟨ps, rfl, h1, h2, h3, f2, P2⟩ hL ⟨rfl, rfl⟩
      have hp2 : H3 p = some (.lst (zs.map V.str)) := f2 _ _ (by simp [npd, nLp]) hp1
      have hs2 : H3 s = some (.lst (dsorts.map V.str)) := f2 _ _ (by simp [nsd.symm, nLs]) hs1
      have iz : i < zs.length := by
        rw [hN.len]
        omega
      obtain ⟨z, ez, _⟩ : ∃ z, atI (zs.map V.str) (0 + (i : Int)) = some (.str z) ∧ zs[i]? = some z := by
        refine ⟨zs[i], ?_, List.getElem?_eq_getElem iz⟩
        rw [Int.zero_add]
        exact atI_nat (by rw [List.getElem?_map, List.getElem?_eq_getElem iz]; rfl)
      have ezi : zs[i]? = some z := by assumption
      refine ⟨rfl, _, rfl, _, rfl, p, _, _, _, rfl, rfl, SqL.of hp2, ez, _, rfl, _, rfl, d, cl, ns, 6, _, rfl, P2, by omega, by decide, by decide, fun H4 d4 f4 P4 d40 d41 => ?_⟩
      have hL4 := f4 _ _ (by simpa using nLd.symm) hL
      obtain ⟨y, ey, my⟩ := atI_map (f := V.str) (xs := dsorts) d40 d41
      refine ⟨s, _, d4, _, rfl, rfl, SqL.of (f4 _ _ (by simpa using nsd.symm) hs2), ey, by show 2 ≤ sizeLine; decide, fun t nt => ?_⟩
      have s4 := newS (o := .tup [.str z, .str y]) nt
      refine push (s4 _ _ hL4) la (by omega) ⟨ps ++ [(t, z, y)], ?_, ?_, ?_, ?_, ((f2.trans (f4.mono (by simp))).trans (fr_same s4)).trans (fr_upd (by simp)), ((P4.fr (fr_new (S := []) nt) (by simp) (by simp)).fr (S := [L]) (fr_upd (by simp)) (by simpa using nLd) (by simpa using nLc)).mono (by omega)⟩
      · rw [List.map_append]
        rfl
      · intro x hx
        have keep : ∀ o : HO, upd H4 t (.tup [.str z, .str y]) x.1 = some o → (∀ l, o ≠ .lst l) → upd (upd H4 t (.tup [.str z, .str y])) L (.lst (ps.map (fun x => V.ref x.1) ++ [V.ref t])) x.1 = some o := fun o ho no => by
          rw [upd_ne]
          · exact ho
          · exact ne_of ho (s4 _ _ hL4) (no _)
        rcases List.mem_append.mp hx with h | h
        · have e := h1 x h
          refine keep _ (s4 _ _ (f4 _ _ ?_ e)) (fun l e => by cases e)
          obtain ⟨⟨xa2, xb2, hd2, _⟩, _⟩ := id P2
          simpa using ne_of e hd2 (by intro z; cases z)
        · rw [List.mem_singleton.mp h] at keep ⊢
          exact keep _ upd_same (fun l e => by cases e)
      · rw [List.map_append, h2, List.take_succ, ezi]
        rfl
      · intro x hx
        rcases List.mem_append.mp hx with h | h
        · exact h3 x h
        · rw [List.mem_singleton.mp h]
          exact dsorts_in my
    · rintro acc H2 la ⟨ps, rfl, h1, h2, h3, f2, P2⟩ hL
      rw [List.length_map] at la
      refine ⟨L, _, rfl, .inl ⟨SqL.of hL, fun t nt => ?_⟩⟩
      have s2 := newS (o := .tup (ps.map fun x => V.ref x.1)) nt
      have fA : Fr [d] H (upd H2 t (.tup (ps.map fun x => V.ref x.1))) := by
        refine Fr.trans ?_ (fr_same s2)
        refine Fr.drop (p := L) (S := [d]) (((fr_same s0).trans (f1.mono (by simp))).trans (f2.mono (by simp))) ?_
        exact s0.free (f1.free (by simpa using nLd.symm) nL)
      have el : (ps.map Prod.snd).length = ps.length := List.length_map _
      have en : (ps.map Prod.snd).map Prod.fst = zs.take ps.length := by
        rw [List.map_map, la]
        exact h2
      refine q _ t (ps.map Prod.snd) fA ((P2.fr (fr_new (S := []) nt) (by simp) (by simp)).mono (by omega)) (.tup (SqT.of upd_same) (th_fields fun x hx => s2 _ _ (h1 x hx))) ⟨by omega, by omega, ?_, fun x hx => ?_⟩ (by omega) (by rw [en, el])
      · rw [en]
        exact hN.nd.sublist (List.take_sublist _ _)
      · obtain ⟨y, hy, rfl⟩ := List.mem_map.mp hx
        have mz : y.2.1 ∈ zs := by
          have : y.2.1 ∈ zs.take ps.length := by
            rw [← en, List.map_map]
            exact List.mem_map.mpr ⟨y, hy, rfl⟩
          exact List.mem_of_mem_take this
        obtain ⟨g1, g2, g3⟩ := hN.ok _ mz
        exact ⟨g1, g2, g3, h3 y hy⟩
end
end St6

set_option autoImplicit false
set_option maxHeartbeats 4000000
namespace St6
open PySem PySem.Spec PyProof.Rows L2 Tg Cc
/-! values that fit, told of any thing -/
def signB (c : Nat) : Bool := (decide (32 ≤ c) && decide (c ≤ 126)) && decide (c ≠ 37)
def txtB : PyData → Bool
  | .str s => s.cps.toList.all signB
  | _ => false
def wholeB : PyData → Bool
  | .int _ => true
  | _ => false
def lenB (n : Nat) : PyData → Bool
  | .str s => decide (s.length ≤ n)
  | _ => false
def ofSort (s : Str) (d : PyData) : Bool := if s = "word" then smallB 8 d else if s = "text" then txtB d && lenB 40 d else wholeB d
def fitsB (fs : List (Str × Str)) : PyData → Bool
  | .tuple ds => decide (ds.length = fs.length) && (ds.zip fs).all fun x => ofSort x.2.2 x.1
  | _ => false
theorem le_blank (c : Nat) : (!decide (((⟨#[c]⟩ : Str).cps.toList) < (" " : Str).cps.toList)) = decide (32 ≤ c) := by
  show (!decide ([c] < [32])) = _
  by_cases h : c < 32
  · have e : [c] < [32] := List.Lex.rel h
    rw [decide_eq_true e, decide_eq_false (by omega)]
    rfl
  · have e : ¬ [c] < [32] := fun z => by
      cases z with
      | rel z => exact h z
      | cons z => cases z
    rw [decide_eq_false e, decide_eq_true (by omega)]
    rfl
theorem tilde_le (c : Nat) : (!decide (("~" : Str).cps.toList < ((⟨#[c]⟩ : Str).cps.toList))) = decide (c ≤ 126) := by
  show (!decide ([126] < [c])) = _
  by_cases h : 126 < c
  · have e : [126] < [c] := List.Lex.rel h
    rw [decide_eq_true e, decide_eq_false (by omega)]
    rfl
  · have e : ¬ [126] < [c] := fun z => by
      cases z with
      | rel z => exact h z
      | cons z => cases z
    rw [decide_eq_false e, decide_eq_true (by omega)]
    rfl
def spSign : Sp := fun vs H Q _ => ∃ c : Nat, vs = [.str ⟨#[c]⟩] ∧ Q (.bl (signB c)) H
def spTextB (K : PySem.W.Frag) : Sp := fun vs H Q _ => ∃ v d, vs = [v] ∧ Th K H v d ∧ Ok d ∧ ∀ H', Same H H' → Q (.bl (txtB d)) H'
def spWhole (K : PySem.W.Frag) : Sp := fun vs H Q _ => ∃ v d, vs = [v] ∧ Th K H v d ∧ Ok d ∧ ∀ H', Same H H' → Q (.bl (wholeB d)) H'
def spOfSort (K : PySem.W.Frag) : Sp := fun vs H Q _ => ∃ v d s, vs = [v, .str s] ∧ Th K H v d ∧ Ok d ∧ ∀ H', Same H H' → Q (.bl (ofSort s d)) H'
def spFits (K : PySem.W.Frag) : Sp := fun vs H Q _ => ∃ f fs v d, vs = [f, v] ∧ Th K H f (formD fs) ∧ Ok (formD fs) ∧ formB (formD fs) = true ∧ Th K H v d ∧ Ok d ∧ ∀ H', Same H H' → Q (.bl (fitsB fs d)) H'
theorem txtB_not {d : PyData} (h : isStr d = false) : txtB d = false := by
  cases d <;> first | rfl | cases h
theorem dec_str {x y : Str} : decide (V.str x = V.str y) = decide (x = y) := decide_eq_decide.mpr ⟨fun h => V.str.inj h, fun h => by rw [h]⟩
theorem whole_is (d : PyData) : wholeB d = (isInt d && !isBool d) := by cases d <;> rfl
theorem fitsB_not {fs : List (Str × Str)} {d : PyData} (h : isTup d = false) : fitsB fs d = false := by
  cases d <;> first | rfl | cases h
theorem zip_take {α β : Type} : ∀ {l : List α} {m : List β} {i : Nat} {x : α} {y : β}, l[i]? = some x → m[i]? = some y → (l.zip m).take (i + 1) = (l.zip m).take i ++ [(x, y)] := fun {l m i x y} h1 h2 => by
  rw [List.take_succ]
  have e : (l.zip m)[i]? = some (x, y) := by
    rw [List.getElem?_zip_eq_some]
    exact ⟨h1, h2⟩
  rw [e]
  rfl
section
variable {P : Program} {w : World} {K : PySem.W.Frag} {mg : Str → Option Value} {base : Heap}
theorem scsign : FnScope ["sign"] ["sign"] (defScope sIsSign) := ⟨rfl, rfl, rfl, by decide +kernel, rfl, by decide +kernel, by decide +kernel⟩
theorem ok_sign {f : Addr} {fd : FuncData} (F : FnP K "is_sign" sIsSign f fd)  (mb_ord : mg "ord" = none) {u37 : Value} (m_PERCENT : mg "PERCENT" = some u37) (h37 : RelV (.int 37) u37)  : FnOk P w K mg base CX0 1 f fd ["sign"] (spSign) := by
  refine F.ok scsign (fun vs H Q E h => ?_) (fun cdv A outer s H vs Q E hr h => ?_)
  · obtain ⟨c, rfl, _⟩ := h
    rfl
  · obtain ⟨c, rfl, q⟩ := h
    have hu := hu_of hr
    refine ⟨_, PSs.nox (pss_one (ps_ret (pe_and (pe_chain op_le_str op_le_str (pe_str) (pv 0) (pe_str)) (pe_one (pe_cmpR op_ne (pe_callB call_ord (by rfl) mb_ord (by decide +kernel) (pa_cons (pv 0) pa_nil)) (pe_glob rfl m_PERCENT h37) (nomark _)))))), ?_⟩
    have e : signB c = ((decide (32 ≤ c) && decide (c ≤ 126)) && decide (c ≠ 37)) := rfl
    have l1 : (⟨#[c]⟩ : Str).length = 1 := rfl
    refine ⟨_, rfl, _, _, rfl, rfl, _, rfl, ite2 (fun e1 => ?_) (fun e1 => ?_)⟩
    · rw [le_blank] at e1
      refine ⟨_, _, rfl, rfl, _, rfl, ite2 (fun e2 => ?_) (fun e2 => ?_)⟩
      · rw [tilde_le] at e2
        refine ⟨_, rfl, ⟨#[c]⟩, rfl, l1, rfl, ?_⟩
        rw [e, e1, e2] at q
        have e3 : (!decide (V.int ((c : Nat) : Int) = V.int 37)) = decide (c ≠ 37) := by
          rw [dec_int, decide_not]
          congr 1
          exact decide_eq_decide.mpr (by omega)
        exact (show Q (.bl (!decide (V.int ((c : Nat) : Int) = V.int 37))) H from by rw [e3]; exact q)
      · rw [tilde_le] at e2
        rw [e, e1, Bool.eq_false_iff.mpr e2] at q
        exact q
    · rw [le_blank] at e1
      rw [e, Bool.eq_false_iff.mpr e1] at q
      exact ⟨_, rfl, iteF q⟩
theorem sctext : FnScope ["thing", "sign"] ["thing"] (defScope sIsText) := ⟨rfl, rfl, rfl, by decide +kernel, rfl, by decide +kernel, by decide +kernel⟩
theorem ok_text {f : Addr} {fd : FuncData} (F : FnP K "is_text" sIsText f fd) {f_is_sign : Addr} {fd_is_sign : FuncData} (c_is_sign : Cl P w K mg base CX0 "is_sign" 1 ["sign"] (spSign) f_is_sign fd_is_sign) (mb_isinstance : mg "isinstance" = none) (mb_str : mg "str" = none) (mb_all : mg "all" = none)   : FnOk P w K mg base CX0 2 f fd ["thing"] (spTextB K) := by
  refine F.ok sctext (fun vs H Q E h => ?_) (fun cdv A outer s H vs Q E hr h => ?_)
  · obtain ⟨v, d, rfl, _⟩ := h
    rfl
  · obtain ⟨v, d, rfl, hT, hB, q⟩ := h
    have hu := hu_of hr
    refine ⟨_, PSs.nox (pss_one (ps_ret (pe_and (pe_callB call_isi (by rfl) mb_isinstance (by decide +kernel) (pa_cons (pv 0) (pa_cons (pe_bltn (v := .ty "str") (by rfl) mb_str (by decide +kernel) rfl) pa_nil))) (pe_one (pe_callB (cr_all rfl) (by rfl) mb_all (by decide +kernel) (pa_cons (pe_lc (own := [("sign", 1)]) (g := gName 1) (tt := tYes) rfl sctext.nd (pi_str (pv 0)) (blkOk_by (own := [("sign", 1)]) (N := ["thing", "sign"]) (sc := defScope sIsText) (by decide +kernel)) (fun _ _ _ _ _ => pg_name (i := 1) sctext.nd rfl (Or.inl rfl)) (fun _ _ _ _ _ => pts_nil) (fun _ _ _ _ _ => pe_call c_is_sign.ok (hr.mono (by decide)) (by rfl) c_is_sign.m c_is_sign.kp c_is_sign.b .nil pass0 (pa_cons (pv 1) pa_nil))) pa_nil)))))), ?_⟩
    refine ⟨_, rfl, v, .ty "str", _, _, _, rfl, .ty "str", hT.ty, kit_ty (kit_str d), _, rfl, ?_⟩
    cases hs : isStr d with
    | false =>
      have e := q H (Same.refl H)
      rw [txtB_not hs] at e
      exact iteF e
    | true =>
      obtain ⟨z, rfl⟩ := isStr_eq hs
      obtain rfl := hT.asStr
      refine iteT ⟨_, rfl, z, rfl, fun D nD => ?_⟩
      have hz := (bd_str.mp hB).1
      have hl : z.length = z.cps.size := rfl
      refine lc_acc (walk_str (z := z)) (fun i acc H' => But D H H' ∧ acc = (z.cps.toList.take i).map fun c => V.bl (signB c)) ⟨But.refl.upd, rfl⟩ (fun _ _ _ _ _ _ => trivial) ?_ ?_
      · rintro i x acc H1 H2 hi la ⟨b, ea⟩ hD ⟨rfl, c, hc, rfl⟩
        have hc2 : z.cps.toList[i]? = some c := by rw [Array.getElem?_toList]; exact hc
        refine ⟨rfl, _, rfl, c, rfl, push hD la (by omega) ⟨b.upd, ?_⟩⟩
        rw [ea, List.take_succ, hc2, List.map_append]
        rfl
      · rintro acc H' la ⟨b, rfl⟩ hD
        rw [List.take_of_length_le (by rw [Array.length_toList]; exact Nat.le_refl _)] at hD
        refine ⟨D, z.cps.toList.map signB, rfl, SqL.of (by rw [hD, List.map_map]; rfl), ?_⟩
        rw [List.all_map]
        exact q H' (b.new nD)
theorem scwhole : FnScope ["thing"] ["thing"] (defScope sIsWhole) := ⟨rfl, rfl, rfl, by decide +kernel, rfl, by decide +kernel, by decide +kernel⟩
theorem ok_whole {f : Addr} {fd : FuncData} (F : FnP K "is_whole" sIsWhole f fd)  (mb_isinstance : mg "isinstance" = none) (mb_int : mg "int" = none) (mb_bool : mg "bool" = none)   : FnOk P w K mg base CX0 1 f fd ["thing"] (spWhole K) := by
  refine F.ok scwhole (fun vs H Q E h => ?_) (fun cdv A outer s H vs Q E hr h => ?_)
  · obtain ⟨v, d, rfl, _⟩ := h
    rfl
  · obtain ⟨v, d, rfl, hT, hB, q⟩ := h
    have hu := hu_of hr
    refine ⟨_, PSs.nox (pss_one (ps_ret (pe_and (pe_callB call_isi (by rfl) mb_isinstance (by decide +kernel) (pa_cons (pv 0) (pa_cons (pe_bltn (v := .ty "int") (by rfl) mb_int (by decide +kernel) rfl) pa_nil))) (pe_one (pe_not (pe_callB call_isi (by rfl) mb_isinstance (by decide +kernel) (pa_cons (pv 0) (pa_cons (pe_bltn (v := .ty "bool") (by rfl) mb_bool (by decide +kernel) rfl) pa_nil)))))))), ?_⟩
    refine ⟨_, rfl, v, .ty "int", _, _, _, rfl, .ty "int", hT.ty, kit_ty (kit_int d), _, rfl, ?_⟩
    rw [whole_is] at q
    cases hi : isInt d with
    | false =>
      rw [hi] at q
      exact iteF (q H (Same.refl H))
    | true =>
      rw [hi] at q
      exact iteT ⟨_, rfl, v, .ty "bool", _, _, _, rfl, .ty "bool", hT.ty, kit_ty (kit_bool d), _, rfl, q H (Same.refl H)⟩
theorem scofsort : FnScope ["value", "sort"] ["value", "sort"] (defScope sIsOfSort) := ⟨rfl, rfl, rfl, by decide +kernel, rfl, by decide +kernel, by decide +kernel⟩
theorem ok_ofsort {f : Addr} {fd : FuncData} (F : FnP K "is_of_sort" sIsOfSort f fd) {f__is_small : Addr} {fd__is_small : FuncData} (c__is_small : Cl P w K mg base CX0 "_is_small" 1 ["thing", "longest"] (spSmall K) f__is_small fd__is_small) {f_is_text : Addr} {fd_is_text : FuncData} (c_is_text : Cl P w K mg base CX0 "is_text" 2 ["thing"] (spTextB K) f_is_text fd_is_text) {f_is_whole : Addr} {fd_is_whole : FuncData} (c_is_whole : Cl P w K mg base CX0 "is_whole" 1 ["thing"] (spWhole K) f_is_whole fd_is_whole) (mb_len : mg "len" = none) {u8 u40 : Value} (m_LONGEST_WORD : mg "LONGEST_WORD" = some u8) (h8 : RelV (.int 8) u8) (m_LONGEST_TEXT : mg "LONGEST_TEXT" = some u40) (h40 : RelV (.int 40) u40)  : FnOk P w K mg base CX0 3 f fd ["value", "sort"] (spOfSort K) := by
  refine F.ok scofsort (fun vs H Q E h => ?_) (fun cdv A outer s H vs Q E hr h => ?_)
  · obtain ⟨v, d, s, rfl, _⟩ := h
    rfl
  · obtain ⟨v, d, s, rfl, hT, hB, q⟩ := h
    have hu := hu_of hr
    refine ⟨_, PSs.nox (pss_cons (ps_if (pt_cmpR op_eq (pv 1) (pe_str) (nomark _)) (pss_one (ps_ret (pe_call c__is_small.ok (hr.mono (by decide)) (by rfl) c__is_small.m c__is_small.kp c__is_small.b .nil pass0 (pa_cons (pv 0) (pa_cons (pe_glob rfl m_LONGEST_WORD h8) pa_nil))))) (pss_nil))
      (pss_cons (ps_if (pt_cmpR op_eq (pv 1) (pe_str) (nomark _)) (pss_one (ps_ret (pe_and (pe_call c_is_text.ok (hr.mono (by decide)) (by rfl) c_is_text.m c_is_text.kp c_is_text.b .nil pass0 (pa_cons (pv 0) pa_nil)) (pe_one (pe_cmpR op_le (pe_callB call_len_str (by rfl) mb_len (by decide +kernel) (pa_cons (pv 0) pa_nil)) (pe_glob rfl m_LONGEST_TEXT h40) (nomark _)))))) (pss_nil))
      (pss_one (ps_ret (pe_call c_is_whole.ok (hr.mono (by decide)) (by rfl) c_is_whole.m c_is_whole.kp c_is_whole.b .nil pass0 (pa_cons (pv 0) pa_nil)))))), ?_⟩
    unfold ofSort at q
    refine ⟨_, rfl, rfl, _, rfl, ite2 (fun e => ?_) (fun e => ?_)⟩
    · rw [dec_str] at e
      rw [if_pos (of_decide_eq_true e)] at q
      exact ⟨_, rfl, v, d, 8, rfl, hT, hB, q⟩
    · rw [dec_str] at e
      rw [if_neg (fun z => e (decide_eq_true z))] at q
      refine ⟨_, rfl, rfl, _, rfl, ite2 (fun e2 => ?_) (fun e2 => ?_)⟩
      · rw [dec_str] at e2
        rw [if_pos (of_decide_eq_true e2)] at q
        refine ⟨_, rfl, v, d, rfl, hT, hB, fun H1 s1 => ⟨_, rfl, ?_⟩⟩
        cases ht : txtB d with
        | false =>
          rw [ht, Bool.false_and] at q
          exact iteF (q H1 s1)
        | true =>
          rw [ht, Bool.true_and] at q
          cases hs : isStr d with
          | false =>
            rw [txtB_not hs] at ht
            cases ht
          | true =>
            obtain ⟨z, rfl⟩ := isStr_eq hs
            obtain rfl := hT.asStr
            have hz := (bd_str.mp hB).1
            refine iteT ⟨_, rfl, z, rfl, lineN hz, _, _, rfl, rfl, ?_⟩
            have e3 : decide ((z.length : Int) ≤ 40) = decide (z.length ≤ 40) := decide_eq_decide.mpr (by omega)
            exact (show Q (.bl (decide ((z.length : Int) ≤ 40))) H1 from by rw [e3]; exact q H1 s1)
      · rw [dec_str] at e2
        rw [if_neg (fun z => e2 (decide_eq_true z))] at q
        exact ⟨_, rfl, v, d, rfl, hT, hB, q⟩
theorem scfits : FnScope ["form", "values", "value", "_", "sort"] ["form", "values"] (defScope sFits) := ⟨rfl, rfl, rfl, by decide +kernel, rfl, by decide +kernel, by decide +kernel⟩
theorem ok_fits {f : Addr} {fd : FuncData} (F : FnP K "fits" sFits f fd) {f_is_form : Addr} {fd_is_form : FuncData} (c_is_form : Cl P w K mg base CX0 "is_form" 4 ["thing"] (spForm K) f_is_form fd_is_form) {f_is_of_sort : Addr} {fd_is_of_sort : FuncData} (c_is_of_sort : Cl P w K mg base CX0 "is_of_sort" 3 ["value", "sort"] (spOfSort K) f_is_of_sort fd_is_of_sort) (mb_isinstance : mg "isinstance" = none) (mb_tuple : mg "tuple" = none) (mb_len : mg "len" = none) (mb_all : mg "all" = none) (mb_zip : mg "zip" = none)   : FnOk P w K mg base CX0 5 f fd ["form", "values"] (spFits K) := by
  refine F.ok scfits (fun vs H Q E h => ?_) (fun cdv A outer s H vs Q E hr h => ?_)
  · obtain ⟨f, fs, v, d, rfl, _⟩ := h
    rfl
  · obtain ⟨p, fs, v, d, rfl, hF, bF, gF, hT, hB, q⟩ := h
    have hu := hu_of hr
    refine ⟨_, PSs.nox (pss_cons (ps_if (PW.pt (pw_or (pt_not (pt_val (pe_call c_is_form.ok (hr.mono (by decide)) (by rfl) c_is_form.m c_is_form.kp c_is_form.b .nil pass0 (pa_cons (pv 0) pa_nil)))) (pw_or (pt_not (pt_val (pe_callB call_isi (by rfl) mb_isinstance (by decide +kernel) (pa_cons (pv 1) (pa_cons (pe_bltn (v := .ty "tuple") (by rfl) mb_tuple (by decide +kernel) rfl) pa_nil))))) (pw_or1 (pt_cmpR op_ne (pe_callB call_len (by rfl) mb_len (by decide +kernel) (pa_cons (pv 1) pa_nil)) (pe_callB call_len (by rfl) mb_len (by decide +kernel) (pa_cons (pv 0) pa_nil)) (nomark _)))))) (pss_one (ps_ret (pe_bl))) (pss_nil))
      (pss_one (ps_ret (pe_callB (cr_all rfl) (by rfl) mb_all (by decide +kernel) (pa_cons (pe_lc (own := [("value", 2), ("_", 3), ("sort", 4)]) (tt := tYes) rfl scfits.nd (RZ.pi_zipA (by rfl) mb_zip (pa_cons (pv 1) (pa_cons (pv 0) pa_nil))) (blkOk_by (own := [("value", 2), ("_", 3), ("sort", 4)]) (N := ["form", "values", "value", "_", "sort"]) (sc := defScope sFits) (by decide +kernel)) (fun _ _ _ _ _ => Cc.pg_tupk (K := K) (n := 2) rfl rfl (pgs_cons (pg_name (i := 2) scfits.nd rfl (Or.inl rfl)) (pgs_cons (Cc.pg_tupk (K := K) (n := 2) rfl rfl (pgs_cons (pg_name (i := 3) scfits.nd rfl (Or.inl rfl)) (pgs_cons (pg_name (i := 4) scfits.nd rfl (Or.inl rfl)) (pgs_nil)))) (pgs_nil)))) (fun _ _ _ _ _ => pts_nil) (fun _ _ _ _ _ => pe_call c_is_of_sort.ok (hr.mono (by decide)) (by rfl) c_is_of_sort.m c_is_of_sort.kp c_is_of_sort.b .nil pass0 (pa_cons (pv 2) (pa_cons (pv 4) pa_nil)))) pa_nil))))), ?_⟩
    refine ⟨_, rfl, p, formD fs, rfl, hF, bF, fun H1 s1 => ?_⟩
    rw [gF]
    have hT1 := hT.kept (kept_same s1)
    obtain ⟨pf, fx, rfl, hf, hFA⟩ := hF.asTup
    have lf : fx.length = fs.length := by rw [hFA.len, List.length_map]
    refine ⟨_, rfl, iteF ⟨_, rfl, v, .ty "tuple", _, _, _, rfl, .ty "tuple", hT1.ty, kit_ty (kit_tup d), _, rfl, ?_⟩⟩
    cases ht : isTup d with
    | false =>
      have e := q H1 s1
      rw [fitsB_not ht] at e
      exact iteT (iteT e)
    | true =>
      obtain ⟨ds, rfl⟩ := isTup_eq ht
      obtain ⟨a, xs, rfl, hx, hA⟩ := hT1.asTup
      have lx := hA.len
      have hf1 := Sq.same (t := true) hf s1
      have bs := Bd.tup hB
      refine iteF ⟨_, rfl, _, _, rfl, .inr ⟨_, hx, rfl⟩, _, rfl, _, _, rfl, .inr ⟨_, hf1, rfl⟩, rfl, _, rfl, ite2 (fun e => ?_) (fun e => ?_)⟩
      · have ne : ¬ ds.length = fs.length := fun z => by
          rw [dec_int, decide_eq_true (show (xs.length : Int) = fx.length by omega)] at e
          cases e
        have e2 := q H1 s1
        rw [show fitsB fs (.tuple ds) = (decide (ds.length = fs.length) && (ds.zip fs).all fun x => ofSort x.2.2 x.1) from rfl, decide_eq_false ne, Bool.false_and] at e2
        exact e2
      · have eq : ds.length = fs.length := by
          have e3 : (!decide (V.int (xs.length : Nat) = V.int (fx.length : Nat))) = false := by simpa using e
          rw [dec_int, Bool.not_eq_false'] at e3
          have := of_decide_eq_true e3
          omega
        refine ⟨_, rfl, _, rfl, a, pf, xs, fx, rfl, .inr ⟨hx, hf1, fun D nD => ?_⟩⟩
        refine lc_acc (walk_zipT (K := K) (a := a) (b := pf) (xs := xs) (ys := fx) rfl) (fun i acc H' => But D H1 H' ∧ acc = ((ds.zip fs).take i).map fun x => V.bl (ofSort x.2.2 x.1)) ⟨But.refl.upd, rfl⟩ (fun i acc H' _ ⟨b, _⟩ _ => ⟨Sq.same (t := true) hx (b.new nD), Sq.same (t := true) hf1 (b.new nD)⟩) ?_ ?_
        · rintro i y acc H2 H3 hi la ⟨b, ea⟩ hD ⟨T, x, z, rfl, nT, rfl, ex, ez⟩
          obtain ⟨dx, hdx, tx, mx⟩ := ThAll.get2 hA ex
          obtain ⟨dz, hdz, tz, mz⟩ := ThAll.get2 hFA ez
          obtain ⟨g, hg, rfl⟩ : ∃ g, fs[i]? = some g ∧ fieldD g = dz := by
            rw [List.getElem?_map] at hdz
            cases hg : fs[i]? with
            | none =>
              rw [hg] at hdz
              cases hdz
            | some g =>
              rw [hg] at hdz
              exact ⟨g, rfl, Option.some.inj hdz⟩
          obtain ⟨pz, zs, rfl, hpz, hZ⟩ := tz.asTup
          have ez2 : zs = [.str g.1, .str g.2] := by
            cases hZ with
            | cons h0 h1 =>
              cases h1 with
              | cons h1 h2 =>
                cases h2
                cases h0
                cases h1
                rfl
          subst ez2
          have sT := newS (o := .tup [x, .ref pz]) nT
          have s12 := (b.new nD).trans sT
          refine ⟨T, _, rfl, SqT.of upd_same, rfl, _, _, rfl, _, _, rfl, ⟨pz, _, rfl, Sq.same (t := true) hpz (s1.trans s12), rfl, _, _, rfl, _, _, rfl, rfl, rfl, rfl, ?_⟩⟩
          refine ⟨_, rfl, _, rfl, x, dx, g.2, rfl, tx.kept (kept_same s12), bs.2 dx mx, fun H4 s4 => ?_⟩
          have bD := (b.same sT).same s4
          have hD4 := s4 _ _ (sT _ _ hD)
          have lim := bs.1
          refine push hD4 la (by omega) ⟨bD.upd, ?_⟩
          rw [ea, zip_take hdx hg, List.map_append]
          rfl
        · rintro acc H2 la ⟨b, rfl⟩ hD
          have lz : (ds.zip fs).length = ds.length := by rw [List.length_zip]; omega
          rw [List.take_of_length_le (by rw [lz]; omega)] at hD
          refine ⟨D, (ds.zip fs).map fun x => ofSort x.2.2 x.1, rfl, SqL.of (by rw [hD, List.map_map]; rfl), ?_⟩
          rw [List.all_map]
          have e2 := q H2 (s1.trans (b.new nD))
          rw [show fitsB fs (.tuple ds) = (decide (ds.length = fs.length) && (ds.zip fs).all fun x => ofSort x.2.2 x.1) from rfl, decide_eq_true eq, Bool.true_and] at e2
          exact e2
end
end St6

set_option autoImplicit false
set_option maxHeartbeats 4000000
namespace St6
open PySem PySem.Spec PyProof.Rows L2 Tg Cc TL
/-! values drawn -/
def vOf : PyData → V
  | .int i => .int i
  | .str s => .str s
  | _ => .non
/-- a plain value: a whole number, a text -/
def Plain : PyData → Prop
  | .int i => i.natAbs < 10 ^ 13
  | .str s => s.length ≤ 40 ∧ As s
  | _ => False
theorem th_vOf {K : PySem.W.Frag} {H : Hp} {D : PyData} (h : Plain D) : Th K H (vOf D) D := by
  cases D with
  | int i => exact .int i
  | str s => exact .str s
  | _ => exact h.elim
theorem Plain.bd {N m : Nat} {D : PyData} (h : Plain D) (hN : 40 ≤ N) : Bd N m D := by
  cases D with
  | int i => exact bd_int.mpr (Nat.lt_of_lt_of_le h (Nat.pow_le_pow_right (by decide) (by omega)))
  | str s => exact bd_str.mpr ⟨Nat.le_trans h.1 hN, h.2⟩
  | _ => exact h.elim
def spWordD : Sp := fun vs H Q _ => ∃ (d cl : Addr) (ns : List Int) (n : Nat), vs = [.ref d] ∧ Pen H d cl ns n ∧ n ≤ 900000000 ∧ ∀ H' z, Fr [d] H H' → Pen H' d cl ns (n + 12) → Low z → 1 ≤ z.length → z.length ≤ 8 → Q (.str z) H'
def SignsOk (z : Str) : Prop := z.length ≤ 40 ∧ ∀ c ∈ z.cps.toList, signB c = true
def spTextD : Sp := fun vs H Q _ => ∃ (d cl : Addr) (ns : List Int) (n : Nat), vs = [.ref d] ∧ Pen H d cl ns n ∧ n ≤ 900000000 ∧ ∀ H' z, Fr [d] H H' → Pen H' d cl ns (n + 45) → SignsOk z → Q (.str z) H'
def spNumberD : Sp := fun vs H Q _ => ∃ (d cl : Addr) (ns : List Int) (n : Nat), vs = [.ref d] ∧ Pen H d cl ns n ∧ n ≤ 900000000 ∧ ∀ H' (i : Int), Fr [d] H H' → Pen H' d cl ns (n + 8) → i.natAbs < 10 ^ 13 → Q (.int i) H'
def spValueD : Sp := fun vs H Q _ => ∃ (d cl : Addr) (ns : List Int) (n : Nat) (s : Str), vs = [.ref d, .str s] ∧ Pen H d cl ns n ∧ n ≤ 900000000 ∧ s ∈ sorts ∧ ∀ H' D, Fr [d] H H' → Pen H' d cl ns (n + 45) → Plain D → ofSort s D = true → Q (vOf D) H'
def spValuesD (K : PySem.W.Frag) : Sp := fun vs H Q _ => ∃ (d cl : Addr) (ns : List Int) (n : Nat) (f : V) (fs : List (Str × Str)), vs = [.ref d, f] ∧ Pen H d cl ns n ∧ n ≤ 800000000 ∧ Th K H f (formD fs) ∧ GoodF fs ∧
  ∀ H' q Ds, Fr [d] H H' → Pen H' d cl ns (n + 280) → H' q = some (.tup (Ds.map vOf)) → (∀ D ∈ Ds, Plain D) → fitsB fs (.tuple Ds) = true → Q (.ref q) H'
theorem th_vals {K : PySem.W.Frag} {H : Hp} : ∀ {Ds : List PyData}, (∀ D ∈ Ds, Plain D) → ThAll K H (Ds.map vOf) Ds
  | [], _ => .nil
  | D :: r, h => .cons (th_vOf (h D (List.mem_cons_self ..))) (th_vals fun x hx => h x (List.mem_cons_of_mem _ hx))
theorem fits_len {fs : List (Str × Str)} {Ds : List PyData} (h : fitsB fs (.tuple Ds) = true) : Ds.length = fs.length := by
  have : (decide (Ds.length = fs.length) && (Ds.zip fs).all fun x => ofSort x.2.2 x.1) = true := h
  rw [Bool.and_eq_true] at this
  exact of_decide_eq_true this.1
theorem signs_ok : ∀ c ∈ (Str.ofString " !\"#$&'()*+,-./0123456789:;<=>?@ABCDEFGHIJKLMNOPQRSTUVWXYZ[\\]^_`abcdefghijklmnopqrstuvwxyz{|}~").cps.toList, signB c = true := by decide +kernel
theorem sign_as {c : Nat} (h : signB c = true) : c < 128 := by
  unfold signB at h
  rw [Bool.and_eq_true, Bool.and_eq_true] at h
  have := of_decide_eq_true h.1.2
  omega
theorem SignsOk.plain {z : Str} (h : SignsOk z) : Plain (.str z) := ⟨h.1, fun c hc => sign_as (h.2 c hc)⟩
def ways6 : List Int := [0, 0, 1, 2, 2, 3]
theorem join_signs {zs : List Str} (h : ∀ z ∈ zs, z.length = 1 ∧ ∀ y ∈ z.cps.toList, signB y = true) : (∀ c ∈ (Txt.join (Str.ofString "") zs).cps.toList, signB c = true) ∧ (Txt.join (Str.ofString "") zs).length = zs.length ∧ (zs.map (·.length)).sum + zs.length * (Str.ofString "").length = zs.length := by
  have e0 : (Str.ofString "").length = 0 := by decide +kernel
  have t0 : tl (Str.ofString "") = [] := by decide +kernel
  have hsum : ∀ ys : List Str, (∀ z ∈ ys, z.length = 1) → (ys.map (·.length)).sum = ys.length := by
    intro ys
    induction ys with
    | nil => intro _; rfl
    | cons y r ih =>
      intro hy
      rw [List.map_cons, List.sum_cons, ih fun z hz => hy z (List.mem_cons_of_mem _ hz), hy y (List.mem_cons_self ..), List.length_cons]
      omega
  refine ⟨fun c hc => ?_, ?_, by rw [e0, hsum zs fun z hz => (h z hz).1]; omega⟩
  · have hc : c ∈ tl (Txt.join (Str.ofString "") zs) := hc
    rw [join_eq, tl_join, t0] at hc
    obtain ⟨y, hy, hey⟩ := joinL_mem _ _ hc
    obtain ⟨z, hz, rfl⟩ := List.mem_map.mp hy
    exact (h z hz).2 c hey
  · rw [len_tl, join_eq, tl_join, t0, joinL_len]
    have : ((zs.map tl).map List.length) = zs.map (·.length) := by
      rw [List.map_map]
      exact List.map_congr_left fun z _ => (len_tl z).symm
    rw [this, hsum zs fun z hz => (h z hz).1]
theorem zip_snoc {α β : Type} : ∀ {l : List α} {m : List β} {x : α} {y : β}, m[l.length]? = some y → (l ++ [x]).zip m = l.zip m ++ [(x, y)]
  | [], [], x, y, h => by simp at h
  | [], b :: m, x, y, h => by
    have : b = y := by simpa using h
    subst this
    rfl
  | a :: l, [], x, y, h => by simp at h
  | a :: l, b :: m, x, y, h => by
    have ih := zip_snoc (l := l) (m := m) (x := x) (y := y) (by simpa using h)
    show (a, b) :: (l ++ [x]).zip m = (a, b) :: (l.zip m ++ [(x, y)])
    rw [ih]
def fews : List Str := ["a", "b", "ab", "ba", "abcdefgh", "z"]
theorem fews_ok : ∀ z ∈ fews, Low z ∧ 1 ≤ z.length ∧ z.length ≤ 8 := by
  have : ∀ z ∈ fews, (∀ c ∈ z.cps.toList, lowC c = true) ∧ 1 ≤ z.length ∧ z.length ≤ 8 := by decide +kernel
  exact this
theorem of_word {z : Str} (h : Low z) (h1 : 1 ≤ z.length) (h2 : z.length ≤ 8) : ofSort "word" (.str z) = true := by
  unfold ofSort
  rw [if_pos rfl]
  show ((decide (1 ≤ z.length) && decide (z.length ≤ 8)) && z.cps.toList.all lowC) = true
  rw [decide_eq_true h1, decide_eq_true h2, List.all_eq_true.mpr h]
  rfl
theorem of_text {z : Str} (h : SignsOk z) : ofSort "text" (.str z) = true := by
  unfold ofSort
  rw [if_neg (by decide), if_pos rfl]
  show (z.cps.toList.all signB && decide (z.length ≤ 40)) = true
  rw [decide_eq_true h.1, List.all_eq_true.mpr h.2]
  rfl
theorem of_number {s : Str} {i : Int} (h : s = "code" ∨ s = "amount") : ofSort s (.int i) = true := by
  rcases h with rfl | rfl <;> (unfold ofSort; rw [if_neg (by decide), if_neg (by decide)]; rfl)
section
variable {P : Program} {w : World} {K : PySem.W.Frag} {mg : Str → Option Value} {base : Heap}
theorem scwordD : FnScope ["pen", "few", "letters", "k"] ["pen"] (defScope sLawWord) := ⟨rfl, rfl, rfl, by decide +kernel, rfl, by decide +kernel, by decide +kernel⟩
theorem ok_wordD {f : Addr} {fd : FuncData} (F : FnP K "_law_word" sLawWord f fd) {f__law_draw : Addr} {fd__law_draw : FuncData} (c__law_draw : Cl P w K mg base CX0 "_law_draw" 1 ["pen", "many"] (spDraw) f__law_draw fd__law_draw) (mb_range : mg "range" = none)   : FnOk P w K mg base CX0 2 f fd ["pen"] (spWordD) := by
  refine F.ok scwordD (fun vs H Q E h => ?_) (fun cdv A outer s H vs Q E hr h => ?_)
  · obtain ⟨d, cl, ns, n, rfl, _⟩ := h
    rfl
  · obtain ⟨d, cl, ns, n, rfl, hP, hn, q⟩ := h
    have hu := hu_of hr
    have hs := szl
    refine ⟨_, PSs.nox (pss_cons (ps_set (i := 1) scwordD.nd rfl (Or.inl rfl) (pe_lst (pa_cons (pe_str) (pa_cons (pe_str) (pa_cons (pe_str) (pa_cons (pe_str) (pa_cons (pe_str) (pa_cons (pe_str) pa_nil))))))))
      (pss_cons (ps_set (i := 2) scwordD.nd rfl (Or.inr rfl) (pe_str))
      (pss_cons (ps_if (pt_cmpR op_gt (pe_call c__law_draw.ok (hr.mono (by decide)) (by rfl) c__law_draw.m c__law_draw.kp c__law_draw.b .nil pass0 (pa_cons (pv 0) (pa_cons (pe_int) pa_nil))) (pe_int) (nomark _)) (pss_one (ps_ret (pe_ix ix_list (pv 1) (pe_call c__law_draw.ok (hr.mono (by decide)) (by rfl) c__law_draw.m c__law_draw.kp c__law_draw.b .nil pass0 (pa_cons (pv 0) (pa_cons (pe_int) pa_nil))) (fun _ _ => rfl)))) (pss_nil))
      (pss_one (ps_ret (pe_join (pe_str) (pe_lc (own := [("k", 3)]) (g := gName 3) (tt := tYes) rfl scwordD.nd (pi_range1 (by rfl) mb_range (pa_cons (pe_op op_add (pe_int) (pe_call c__law_draw.ok (hr.mono (by decide)) (by rfl) c__law_draw.m c__law_draw.kp c__law_draw.b .nil pass0 (pa_cons (pv 0) (pa_cons (pe_int) pa_nil)))) pa_nil)) (blkOk_by (own := [("k", 3)]) (N := ["pen", "few", "letters", "k"]) (sc := defScope sLawWord) (by decide +kernel)) (fun _ _ _ _ _ => pg_name (i := 3) scwordD.nd rfl (Or.inl rfl)) (fun _ _ _ _ _ => pts_nil) (fun _ _ _ _ _ => pe_ix ix_str (pv 2) (pe_call c__law_draw.ok (hr.mono (by decide)) (by rfl) c__law_draw.m c__law_draw.kp c__law_draw.b .nil pass0 (pa_cons (pv 0) (pa_cons (pe_int) pa_nil))) (fun _ _ => rfl))))))))), ?_⟩
    refine ⟨by show 6 ≤ sizeLine; decide, fun l nl => ?_⟩
    obtain ⟨⟨xa0, xb0, hd0, _⟩, hc0, _⟩ := id hP
    have ndl : d ≠ l := ne_of_none hd0 nl
    have P0 := hP.fr (fr_new (S := []) (o := .lst (fews.map V.str)) nl) (by simp) (by simp)
    refine ⟨_, rfl, d, cl, ns, 4, n, rfl, P0, by omega, by decide, by decide, fun H1 k1 f1 P1 k10 k11 => ?_⟩
    have hl1 : H1 l = some (.lst (fews.map V.str)) := f1 _ _ (by simpa using ndl.symm) upd_same
    have f01 := (fr_new (S := [d]) (o := .lst (fews.map V.str)) nl).trans f1
    refine ⟨_, _, rfl, rfl, _, rfl, ite2 (fun e => ?_) (fun e => ?_)⟩
    · refine ⟨_, rfl, _, rfl, d, cl, ns, 6, _, rfl, P1, by omega, by decide, by decide, fun H2 k2 f2 P2 k20 k21 => ?_⟩
      obtain ⟨z, ez, mz⟩ := atI_map (f := V.str) (xs := fews) k20 k21
      obtain ⟨g1, g2, g3⟩ := fews_ok z mz
      exact ⟨l, _, k2, _, rfl, rfl, SqL.of (f2 _ _ (by simpa using ndl.symm) hl1), ez, q H2 z (f01.trans f2) (P2.mono (by omega)) g1 g2 g3⟩
    · refine ⟨⟨_, rfl⟩, _, rfl, d, cl, ns, 8, _, rfl, P1, by omega, by decide, by decide, fun H2 k2 f2 P2 k20 k21 => ?_⟩
      obtain ⟨c, rfl⟩ := Int.eq_ofNat_of_zero_le k20
      refine ⟨_, _, rfl, rfl, _, rfl, by omega, by omega, fun L nL => ?_⟩
      obtain ⟨⟨xa, xb, hd2, _⟩, hc2, _⟩ := id P2
      have nLd : d ≠ L := ne_of_none hd2 nL
      have nLc : cl ≠ L := ne_of_none hc2 nL
      refine lc_acc (walk_range (lo := 0) (n := ((1 : Int) + (c : Int)).toNat)) (fun i acc H' => ∃ zs : List Str, acc = zs.map V.str ∧ (∀ z ∈ zs, z.length = 1 ∧ Low z) ∧ Fr [d, L] H2 H' ∧ Pen H' d cl ns (n + 2 + i))
        ⟨[], rfl, (fun _ z => by cases z), fr_upd (by simp), P2.fr (fr_new (S := []) nL) (by simp) (by simp)⟩ (fun _ _ _ _ _ _ => trivial) ?_ ?_
      · rintro i x acc H3 H4 hi la ⟨zs, rfl, h1, f3, P3⟩ hL ⟨rfl, rfl⟩
        refine ⟨rfl, _, rfl, _, rfl, d, cl, ns, 26, _, rfl, P3, by omega, by decide, by decide, fun H5 d4 f4 P4 d40 d41 => ?_⟩
        have hL4 := f4 _ _ (by simpa using nLd.symm) hL
        refine ⟨_, d4, 97 + d4.toNat, rfl, rfl, by rw [show (Str.ofString "abcdefghijklmnopqrstuvwxyz").length = 26 by decide +kernel]; omega, abc_at d40 d41, push hL4 la (by omega) ⟨zs ++ [⟨#[97 + d4.toNat]⟩], ?_, ?_, (f3.trans (f4.mono (by simp))).trans (fr_upd (by simp)), (P4.fr (S := [L]) (fr_upd (by simp)) (by simpa using nLd) (by simpa using nLc)).mono (by omega)⟩⟩
        · rw [List.map_append]
          rfl
        · intro z hz
          rcases List.mem_append.mp hz with h | h
          · exact h1 z h
          · rw [List.mem_singleton.mp h]
            exact ⟨rfl, low_one (by omega)⟩
      · rintro acc H3 la ⟨zs, rfl, h1, f3, P3⟩ hL
        obtain ⟨j1, j2, j3⟩ := Low.join h1
        rw [List.length_map] at la
        have f03 : Fr [d] H H3 := Fr.drop (p := L) (S := [d]) (((f01.trans f2).mono (by simp)).trans (f3.mono (by simp))) (f01.free (by simpa using nLd.symm) (f2.free (by simpa using nLd.symm) nL))
        refine ⟨_, L, zs, rfl, rfl, .inl (SqL.of hL), by rw [j3]; omega, q H3 _ f03 (P3.mono (by omega)) j1 (by rw [j2]; omega) (by rw [j2]; omega)⟩
theorem sctextD : FnScope ["pen", "signs", "many", "k"] ["pen"] (defScope sLawText) := ⟨rfl, rfl, rfl, by decide +kernel, rfl, by decide +kernel, by decide +kernel⟩
theorem ok_textD {f : Addr} {fd : FuncData} (F : FnP K "_law_text" sLawText f fd) {f__law_draw : Addr} {fd__law_draw : FuncData} (c__law_draw : Cl P w K mg base CX0 "_law_draw" 1 ["pen", "many"] (spDraw) f__law_draw fd__law_draw) (mb_range : mg "range" = none)   : FnOk P w K mg base CX0 2 f fd ["pen"] (spTextD) := by
  refine F.ok sctextD (fun vs H Q E h => ?_) (fun cdv A outer s H vs Q E hr h => ?_)
  · obtain ⟨d, cl, ns, n, rfl, _⟩ := h
    rfl
  · obtain ⟨d, cl, ns, n, rfl, hP, hn, q⟩ := h
    have hu := hu_of hr
    have hs := szl
    refine ⟨_, PSs.nox (pss_cons (ps_set (i := 1) sctextD.nd rfl (Or.inr rfl) (pe_str))
      (pss_cons (ps_set (i := 2) sctextD.nd rfl (Or.inl rfl) (pe_ix ix_list (pe_lst (pa_cons (pe_int) (pa_cons (pe_call c__law_draw.ok (hr.mono (by decide)) (by rfl) c__law_draw.m c__law_draw.kp c__law_draw.b .nil pass0 (pa_cons (pv 0) (pa_cons (pe_int) pa_nil))) (pa_cons (pe_call c__law_draw.ok (hr.mono (by decide)) (by rfl) c__law_draw.m c__law_draw.kp c__law_draw.b .nil pass0 (pa_cons (pv 0) (pa_cons (pe_int) pa_nil))) (pa_cons (pe_call c__law_draw.ok (hr.mono (by decide)) (by rfl) c__law_draw.m c__law_draw.kp c__law_draw.b .nil pass0 (pa_cons (pv 0) (pa_cons (pe_int) pa_nil))) pa_nil))))) (pe_call c__law_draw.ok (hr.mono (by decide)) (by rfl) c__law_draw.m c__law_draw.kp c__law_draw.b .nil pass0 (pa_cons (pv 0) (pa_cons (pe_int) pa_nil))) (fun _ _ => rfl)))
      (pss_one (ps_ret (pe_join (pe_str) (pe_lc (own := [("k", 3)]) (g := gName 3) (tt := tYes) rfl sctextD.nd (pi_range1 (by rfl) mb_range (pa_cons (pv 2) pa_nil)) (blkOk_by (own := [("k", 3)]) (N := ["pen", "signs", "many", "k"]) (sc := defScope sLawText) (by decide +kernel)) (fun _ _ _ _ _ => pg_name (i := 3) sctextD.nd rfl (Or.inl rfl)) (fun _ _ _ _ _ => pts_nil) (fun _ _ _ _ _ => pe_ix ix_str (pv 1) (pe_call c__law_draw.ok (hr.mono (by decide)) (by rfl) c__law_draw.m c__law_draw.kp c__law_draw.b .nil pass0 (pa_cons (pv 0) (pa_cons (pe_int) pa_nil))) (fun _ _ => rfl)))))))), ?_⟩
    refine ⟨_, rfl, d, cl, ns, 4, n, rfl, hP, by omega, by decide, by decide, fun H1 k1 f1 P1 k10 k11 => ?_⟩
    refine ⟨_, rfl, d, cl, ns, 4, _, rfl, P1, by omega, by decide, by decide, fun H2 k2 f2 P2 k20 k21 => ?_⟩
    refine ⟨_, rfl, d, cl, ns, 41, _, rfl, P2, by omega, by decide, by decide, fun H3 k3 f3 P3 k30 k31 => ?_⟩
    refine ⟨by show 4 ≤ sizeLine; decide, fun l nl => ?_⟩
    obtain ⟨⟨xa0, xb0, hd0, _⟩, hc0, _⟩ := id P3
    have ndl : d ≠ l := ne_of_none hd0 nl
    have P4 := P3.fr (fr_new (S := []) (o := .lst [.int 0, .int k1, .int k2, .int k3]) nl) (by simp) (by simp)
    refine ⟨_, rfl, d, cl, ns, 4, _, rfl, P4, by omega, by decide, by decide, fun H5 k5 f5 P5 k50 k51 => ?_⟩
    have hl5 : H5 l = some (.lst [.int 0, .int k1, .int k2, .int k3]) := f5 _ _ (by simpa using ndl.symm) upd_same
    obtain ⟨x, ex, mx⟩ := atI_in (xs := ([.int 0, .int k1, .int k2, .int k3] : List V)) k50 k51
    obtain ⟨c, rfl, hc⟩ : ∃ c : Nat, x = .int (c : Int) ∧ c ≤ 40 := by
      have mx : x = .int 0 ∨ x = .int k1 ∨ x = .int k2 ∨ x = .int k3 := by simpa using mx
      rcases mx with rfl | rfl | rfl | rfl
      · exact ⟨0, rfl, Nat.zero_le _⟩
      · exact ⟨k1.toNat, by rw [Int.toNat_of_nonneg k10], by omega⟩
      · exact ⟨k2.toNat, by rw [Int.toNat_of_nonneg k20], by omega⟩
      · exact ⟨k3.toNat, by rw [Int.toNat_of_nonneg k30], by omega⟩
    have f05 := (((f1.trans f2).trans f3).trans (fr_new (S := [d]) (o := .lst [.int 0, .int k1, .int k2, .int k3]) nl)).trans f5
    refine ⟨l, _, k5, _, rfl, rfl, SqL.of hl5, ex, ?_⟩
    refine ⟨⟨_, rfl⟩, _, rfl, _, rfl, by omega, by omega, fun L nL => ?_⟩
    rw [Int.toNat_natCast]
    obtain ⟨⟨xa, xb, hd2, _⟩, hc2, _⟩ := id P5
    have nLd : d ≠ L := ne_of_none hd2 nL
    have nLc : cl ≠ L := ne_of_none hc2 nL
    refine lc_acc (walk_range (lo := 0) (n := c)) (fun i acc H' => ∃ zs : List Str, acc = zs.map V.str ∧ (∀ z ∈ zs, z.length = 1 ∧ ∀ y ∈ z.cps.toList, signB y = true) ∧ Fr [d, L] H5 H' ∧ Pen H' d cl ns (n + 4 + i))
      ⟨[], rfl, (fun _ z => by cases z), fr_upd (by simp), P5.fr (fr_new (S := []) nL) (by simp) (by simp)⟩ (fun _ _ _ _ _ _ => trivial) ?_ ?_
    · rintro i x acc H6 H7 hi la ⟨zs, rfl, h1, f6, P6⟩ hL ⟨rfl, rfl⟩
      refine ⟨rfl, _, rfl, _, rfl, d, cl, ns, 94, _, rfl, P6, by omega, by decide, by decide, fun H8 d4 f8 P8 d40 d41 => ?_⟩
      have hL4 := f8 _ _ (by simpa using nLd.symm) hL
      have l94 : (Str.ofString " !\"#$&'()*+,-./0123456789:;<=>?@ABCDEFGHIJKLMNOPQRSTUVWXYZ[\\]^_`abcdefghijklmnopqrstuvwxyz{|}~").length = 94 := by decide +kernel
      obtain ⟨y, ey, my⟩ := atI_in (xs := (Str.ofString " !\"#$&'()*+,-./0123456789:;<=>?@ABCDEFGHIJKLMNOPQRSTUVWXYZ[\\]^_`abcdefghijklmnopqrstuvwxyz{|}~").cps.toList) d40 (by rw [show (Str.ofString " !\"#$&'()*+,-./0123456789:;<=>?@ABCDEFGHIJKLMNOPQRSTUVWXYZ[\\]^_`abcdefghijklmnopqrstuvwxyz{|}~").cps.toList.length = 94 by decide +kernel]; exact d41)
      refine ⟨_, d4, y, rfl, rfl, by rw [l94]; omega, ey, push hL4 la (by omega) ⟨zs ++ [⟨#[y]⟩], ?_, ?_, (f6.trans (f8.mono (by simp))).trans (fr_upd (by simp)), (P8.fr (S := [L]) (fr_upd (by simp)) (by simpa using nLd) (by simpa using nLc)).mono (by omega)⟩⟩
      · rw [List.map_append]
        rfl
      · intro z hz
        rcases List.mem_append.mp hz with h | h
        · exact h1 z h
        · rw [List.mem_singleton.mp h]
          refine ⟨rfl, fun u hu => ?_⟩
          have : u = y := by simpa using hu
          rw [this]
          exact signs_ok y my
    · rintro acc H6 la ⟨zs, rfl, h1, f6, P6⟩ hL
      obtain ⟨j1, j2, j3⟩ := join_signs h1
      rw [List.length_map] at la
      have f06 : Fr [d] H H6 := Fr.drop (p := L) (S := [d]) ((f05.mono (by simp)).trans (f6.mono (by simp))) (f05.free (by simpa using nLd.symm) nL)
      exact ⟨_, L, zs, rfl, rfl, .inl (SqL.of hL), by rw [j3]; omega, q H6 _ f06 (P6.mono (by omega)) ⟨by rw [j2]; omega, j1⟩⟩
theorem scnumberD : FnScope ["pen", "way", "far"] ["pen"] (defScope sLawNumber) := ⟨rfl, rfl, rfl, by decide +kernel, rfl, by decide +kernel, by decide +kernel⟩
theorem ok_numberD {f : Addr} {fd : FuncData} (F : FnP K "_law_number" sLawNumber f fd) {f__law_draw : Addr} {fd__law_draw : FuncData} (c__law_draw : Cl P w K mg base CX0 "_law_draw" 1 ["pen", "many"] (spDraw) f__law_draw fd__law_draw)    : FnOk P w K mg base CX0 2 f fd ["pen"] (spNumberD) := by
  refine F.ok scnumberD (fun vs H Q E h => ?_) (fun cdv A outer s H vs Q E hr h => ?_)
  · obtain ⟨d, cl, ns, n, rfl, _⟩ := h
    rfl
  · obtain ⟨d, cl, ns, n, rfl, hP, hn, q⟩ := h
    have hu := hu_of hr
    have hs := szl
    refine ⟨_, PSs.nox (pss_cons (ps_set (i := 1) scnumberD.nd rfl (Or.inl rfl) (pe_ix ix_list (pe_lst (pa_cons (pe_int) (pa_cons (pe_int) (pa_cons (pe_int) (pa_cons (pe_int) (pa_cons (pe_int) (pa_cons (pe_int) pa_nil))))))) (pe_call c__law_draw.ok (hr.mono (by decide)) (by rfl) c__law_draw.m c__law_draw.kp c__law_draw.b .nil pass0 (pa_cons (pv 0) (pa_cons (pe_int) pa_nil))) (fun _ _ => rfl)))
      (pss_cons (ps_set (i := 2) scnumberD.nd rfl (Or.inl rfl) (pe_op op_add (pe_op op_mul (pe_call c__law_draw.ok (hr.mono (by decide)) (by rfl) c__law_draw.m c__law_draw.kp c__law_draw.b .nil pass0 (pa_cons (pv 0) (pa_cons (pe_op op_pow pe_int pe_int) pa_nil))) (pe_op op_pow pe_int pe_int)) (pe_call c__law_draw.ok (hr.mono (by decide)) (by rfl) c__law_draw.m c__law_draw.kp c__law_draw.b .nil pass0 (pa_cons (pv 0) (pa_cons (pe_op op_pow pe_int pe_int) pa_nil)))))
      (pss_one (ps_ret (pe_ix ix_list (pe_lst (pa_cons (pe_call c__law_draw.ok (hr.mono (by decide)) (by rfl) c__law_draw.m c__law_draw.kp c__law_draw.b .nil pass0 (pa_cons (pv 0) (pa_cons (pe_int) pa_nil))) (pa_cons (pe_op op_sub (pe_int) (pe_call c__law_draw.ok (hr.mono (by decide)) (by rfl) c__law_draw.m c__law_draw.kp c__law_draw.b .nil pass0 (pa_cons (pv 0) (pa_cons (pe_int) pa_nil)))) (pa_cons (pe_op op_sub (pe_call c__law_draw.ok (hr.mono (by decide)) (by rfl) c__law_draw.m c__law_draw.kp c__law_draw.b .nil pass0 (pa_cons (pv 0) (pa_cons (pe_int) pa_nil))) (pe_int)) (pa_cons (pe_op op_mul (pv 2) (pe_op op_sub (pe_int) (pe_op op_mul (pe_int) (pe_call c__law_draw.ok (hr.mono (by decide)) (by rfl) c__law_draw.m c__law_draw.kp c__law_draw.b .nil pass0 (pa_cons (pv 0) (pa_cons (pe_int) pa_nil)))))) pa_nil))))) (pv 1) (fun _ _ => rfl)))))), ?_⟩
    refine ⟨by show 6 ≤ sizeLine; decide, fun l nl => ?_⟩
    obtain ⟨⟨xa0, xb0, hd0, _⟩, hc0, _⟩ := id hP
    have ndl : d ≠ l := ne_of_none hd0 nl
    have P0 := hP.fr (fr_new (S := []) (o := .lst (ways6.map V.int)) nl) (by simp) (by simp)
    refine ⟨_, rfl, d, cl, ns, 6, n, rfl, P0, by omega, by decide, by decide, fun H1 k1 f1 P1 k10 k11 => ?_⟩
    have hl1 : H1 l = some (.lst (ways6.map V.int)) := f1 _ _ (by simpa using ndl.symm) upd_same
    have f01 := (fr_new (S := [d]) (o := .lst (ways6.map V.int)) nl).trans f1
    obtain ⟨way, ew, mw⟩ := atI_map (f := V.int) (xs := ways6) k10 k11
    have hw : 0 ≤ way ∧ way < 4 := (show ∀ x ∈ ways6, 0 ≤ x ∧ x < 4 by decide) way mw
    refine ⟨l, _, k1, _, rfl, rfl, SqL.of hl1, ew, ?_⟩
    -- far
    have six : ((10 : Int) ^ (6 : Int).toNat) = 1000000 := by decide
    refine ⟨_, rfl, _, _, rfl, rfl, (by show (0 : Int) ≤ 6 ∧ (6 : Int) ≤ 1000000 ∧ (10 : Int).natAbs < 2 ^ 64; decide), d, cl, ns, 1000000, _, congrArg (fun x => [V.ref d, V.int x]) six, P1, by omega, by decide, by decide, fun H2 a2 f2 P2 a20 a21 => ?_⟩
    refine ⟨_, _, rfl, rfl, (by show (0 : Int) ≤ 6 ∧ (6 : Int) ≤ 1000000 ∧ (10 : Int).natAbs < 2 ^ 64; decide), a2, 1000000, rfl, congrArg V.int six, .inl ⟨by omega, by omega⟩, ?_⟩
    refine ⟨_, rfl, _, _, rfl, rfl, (by show (0 : Int) ≤ 6 ∧ (6 : Int) ≤ 1000000 ∧ (10 : Int).natAbs < 2 ^ 64; decide), d, cl, ns, 1000000, _, congrArg (fun x => [V.ref d, V.int x]) six, P2, by omega, by decide, by decide, fun H3 a3 f3 P3 a30 a31 => ?_⟩
    refine ⟨_, _, rfl, rfl, ?_⟩
    -- one of four
    refine ⟨_, rfl, d, cl, ns, 5, _, rfl, P3, by omega, by decide, by decide, fun H4 b4 f4 P4 b40 b41 => ?_⟩
    refine ⟨_, rfl, d, cl, ns, 4, _, rfl, P4, by omega, by decide, by decide, fun H5 b5 f5 P5 b50 b51 => ⟨_, _, rfl, rfl, ?_⟩⟩
    refine ⟨_, rfl, d, cl, ns, 13, _, rfl, P5, by omega, by decide, by decide, fun H6 b6 f6 P6 b60 b61 => ⟨_, _, rfl, rfl, ?_⟩⟩
    refine ⟨_, rfl, _, rfl, d, cl, ns, 2, _, rfl, P6, by omega, by decide, by decide, fun H7 b7 f7 P7 b70 b71 => ⟨_, _, rfl, rfl, .inl ⟨by decide, by decide⟩, _, _, rfl, rfl, _, _, rfl, rfl, .inl ⟨by omega, by omega⟩, ?_⟩⟩
    refine ⟨by show 4 ≤ sizeLine; decide, fun p np => ⟨_, rfl, ?_⟩⟩
    obtain ⟨x, ex, mx⟩ := atI_in (xs := ([.int b4, .int (0 - b5), .int (b6 - 6), .int ((a2 * 1000000 + a3) * (1 - 2 * b7))] : List V)) hw.1 hw.2
    refine ⟨p, _, way, x, rfl, rfl, SqL.of upd_same, ex, ?_⟩
    have sp := newS (o := .lst [.int b4, .int (0 - b5), .int (b6 - 6), .int ((a2 * 1000000 + a3) * (1 - 2 * b7))]) np
    have fin : ∀ i : Int, i.natAbs < 10 ^ 13 → Q (.int i) _ := fun i hi => q _ i ((((((f01.trans f2).trans f3).trans f4).trans f5).trans f6).trans f7 |>.trans (fr_same sp)) ((P7.fr (S := []) (fr_same sp) (by simp) (by simp)).mono (by omega)) hi
    have mx : x = .int b4 ∨ x = .int (0 - b5) ∨ x = .int (b6 - 6) ∨ x = .int ((a2 * 1000000 + a3) * (1 - 2 * b7)) := by simpa using mx
    rcases mx with rfl | rfl | rfl | rfl
    · exact fin _ (by omega)
    · exact fin _ (by omega)
    · exact fin _ (by omega)
    · refine fin _ ?_
      have : b7 = 0 ∨ b7 = 1 := by omega
      rcases this with rfl | rfl <;> omega
theorem scvalueD : FnScope ["pen", "sort"] ["pen", "sort"] (defScope sLawValue) := ⟨rfl, rfl, rfl, by decide +kernel, rfl, by decide +kernel, by decide +kernel⟩
theorem ok_valueD {f : Addr} {fd : FuncData} (F : FnP K "_law_value" sLawValue f fd) {f__law_number : Addr} {fd__law_number : FuncData} (c__law_number : Cl P w K mg base CX0 "_law_number" 2 ["pen"] (spNumberD) f__law_number fd__law_number) {f__law_word : Addr} {fd__law_word : FuncData} (c__law_word : Cl P w K mg base CX0 "_law_word" 2 ["pen"] (spWordD) f__law_word fd__law_word) {f__law_text : Addr} {fd__law_text : FuncData} (c__law_text : Cl P w K mg base CX0 "_law_text" 2 ["pen"] (spTextD) f__law_text fd__law_text)    : FnOk P w K mg base CX0 3 f fd ["pen", "sort"] (spValueD) := by
  refine F.ok scvalueD (fun vs H Q E h => ?_) (fun cdv A outer s H vs Q E hr h => ?_)
  · obtain ⟨d, cl, ns, n, s, rfl, _⟩ := h
    rfl
  · obtain ⟨d, cl, ns, n, s, rfl, hP, hn, hs_, q⟩ := h
    have hu := hu_of hr
    refine ⟨_, PSs.nox (pss_cons (ps_if (pt_cmpR op_in_seq (pv 1) (pe_tup (pa_cons (pe_str) (pa_cons (pe_str) pa_nil))) (by with_unfolding_all rfl)) (pss_one (ps_ret (pe_call c__law_number.ok (hr.mono (by decide)) (by rfl) c__law_number.m c__law_number.kp c__law_number.b .nil pass0 (pa_cons (pv 0) pa_nil)))) (pss_nil))
      (pss_one (ps_ret (pe_ifExp (pt_cmpR op_eq (pv 1) (pe_str) (nomark _)) (pe_call c__law_word.ok (hr.mono (by decide)) (by rfl) c__law_word.m c__law_word.kp c__law_word.b .nil pass0 (pa_cons (pv 0) pa_nil)) (pe_call c__law_text.ok (hr.mono (by decide)) (by rfl) c__law_text.m c__law_text.kp c__law_text.b .nil pass0 (pa_cons (pv 0) pa_nil)))))), ?_⟩
    refine ⟨_, rfl, by show 2 ≤ sizeLine; decide, fun t nt => ⟨t, (["code", "amount"] : List Str).map V.str, rfl, .inr (SqT.of upd_same), rfl, by decide +kernel, _, rfl, ?_⟩⟩
    rw [if_neg (by decide), in_strs]
    have sT := newS (o := .tup ((["code", "amount"] : List Str).map V.str)) nt
    have P0 := hP.fr (S := []) (fr_same sT) (by simp) (by simp)
    have f0 : Fr [d] H _ := fr_same sT
    refine ite2 (fun e => ?_) (fun e => ?_)
    · have hm : s = "code" ∨ s = "amount" := by simpa using of_decide_eq_true e
      exact ⟨_, rfl, d, cl, ns, n, rfl, P0, by omega, fun H1 i f1 P1 hi => q H1 (.int i) (f0.trans f1) (P1.mono (by omega)) hi (of_number hm)⟩
    · have hm : s = "word" ∨ s = "text" := by
        have h1 : ¬ (s = "code" ∨ s = "amount") := fun z => e (decide_eq_true (by simpa using z))
        have h2 : s = "code" ∨ s = "amount" ∨ s = "word" ∨ s = "text" := by simpa [sorts] using hs_
        rcases h2 with z | z | z | z
        · exact absurd (.inl z) h1
        · exact absurd (.inr z) h1
        · exact .inl z
        · exact .inr z
      refine ⟨_, rfl, rfl, _, rfl, ite2 (fun e2 => ?_) (fun e2 => ?_)⟩
      · rw [dec_str] at e2
        have es : s = "word" := of_decide_eq_true e2
        subst es
        exact ⟨_, rfl, d, cl, ns, n, rfl, P0, by omega, fun H1 z f1 P1 g1 g2 g3 => q H1 (.str z) (f0.trans f1) (P1.mono (by omega)) ⟨by omega, g1.as⟩ (of_word g1 g2 g3)⟩
      · rw [dec_str] at e2
        have es : s = "text" := hm.elim (fun z => absurd (decide_eq_true z) e2) id
        subst es
        exact ⟨_, rfl, d, cl, ns, n, rfl, P0, by omega, fun H1 z f1 P1 g => q H1 (.str z) (f0.trans f1) (P1.mono (by omega)) g.plain (of_text g)⟩
theorem scvaluesD : FnScope ["pen", "form", "field", "sort"] ["pen", "form"] (defScope sLawValues) := ⟨rfl, rfl, rfl, by decide +kernel, rfl, by decide +kernel, by decide +kernel⟩
theorem ok_valuesD {f : Addr} {fd : FuncData} (F : FnP K "_law_values" sLawValues f fd) {f__law_value : Addr} {fd__law_value : FuncData} (c__law_value : Cl P w K mg base CX0 "_law_value" 3 ["pen", "sort"] (spValueD) f__law_value fd__law_value) (mb_tuple : mg "tuple" = none)   : FnOk P w K mg base CX0 4 f fd ["pen", "form"] (spValuesD K) := by
  refine F.ok scvaluesD (fun vs H Q E h => ?_) (fun cdv A outer s H vs Q E hr h => ?_)
  · obtain ⟨d, cl, ns, n, f, fs, rfl, _⟩ := h
    rfl
  · obtain ⟨d, cl, ns, n, p, fs, rfl, hP, hn, hF, gF, q⟩ := h
    have hu := hu_of hr
    have hs := szl
    refine ⟨_, PSs.nox (pss_one (ps_ret (pe_callTy call_tuple_of (by rfl) mb_tuple (by decide +kernel) (pa_cons (pe_lc (own := [("field", 2), ("sort", 3)]) (tt := tYes) rfl scvaluesD.nd (pi_tup (pv 1)) (blkOk_by (own := [("field", 2), ("sort", 3)]) (N := ["pen", "form", "field", "sort"]) (sc := defScope sLawValues) (by decide +kernel)) (fun _ _ _ _ _ => Cc.pg_tupk (K := K) (n := 2) rfl rfl (pgs_cons (pg_name (i := 2) scvaluesD.nd rfl (Or.inl rfl)) (pgs_cons (pg_name (i := 3) scvaluesD.nd rfl (Or.inl rfl)) (pgs_nil)))) (fun _ _ _ _ _ => pts_nil) (fun _ _ _ _ _ => pe_call c__law_value.ok (hr.mono (by decide)) (by rfl) c__law_value.m c__law_value.kp c__law_value.b .nil pass0 (pa_cons (pv 0) (pa_cons (pv 3) pa_nil)))) pa_nil)))), ?_⟩
    obtain ⟨pf, fx, rfl, hf, hFA⟩ := hF.asTup
    have lf : fx.length = fs.length := by rw [hFA.len, List.length_map]
    refine ⟨_, rfl, pf, rfl, ⟨fx, hf⟩, fun L nL => ?_⟩
    obtain ⟨⟨xa, xb, hd0, _⟩, hc0, _⟩ := id hP
    have nLd : d ≠ L := ne_of_none hd0 nL
    have nLc : cl ≠ L := ne_of_none hc0 nL
    have six := gF.hi
    refine lc_acc (walk_tup (K := K) (a := pf) (xs := fx)) (fun i acc H' => ∃ Ds : List PyData, acc = Ds.map vOf ∧ Ds.length = i ∧ (∀ D ∈ Ds, Plain D) ∧ ((Ds.zip fs).all fun x => ofSort x.2.2 x.1) = true ∧ Fr [d, L] H H' ∧ Pen H' d cl ns (n + 45 * i))
      ⟨[], rfl, rfl, (fun _ z => by cases z), rfl, fr_new nL, hP.fr (fr_new (S := []) nL) (by simp) (by simp)⟩ (fun i acc H' _ ⟨_, _, _, _, _, fr, _⟩ _ => ?_) ?_ ?_
    · -- the form stands
      rcases hf with (h | ⟨o, h⟩) | h
      · exact .inl (.inl (fr _ _ (by simp only [List.mem_cons, List.not_mem_nil, or_false, not_or]; exact ⟨ne_of h hd0 (by intro z; cases z), ne_of_none h nL⟩) h))
      · exact .inl (.inr ⟨o, fr _ _ (by simp only [List.mem_cons, List.not_mem_nil, or_false, not_or]; exact ⟨ne_of h hd0 (by intro z; cases z), ne_of_none h nL⟩) h⟩)
      · exact .inr h
    · rintro i x acc H1 H2 hi la ⟨Ds, rfl, lD, hD1, hD2, fr, P1⟩ hL ⟨rfl, ex⟩
      obtain ⟨dz, hdz, tz, mz⟩ := ThAll.get2 hFA ex
      obtain ⟨g, hg, rfl⟩ : ∃ g, fs[i]? = some g ∧ fieldD g = dz := by
        rw [List.getElem?_map] at hdz
        cases hg : fs[i]? with
        | none =>
          rw [hg] at hdz
          cases hdz
        | some g =>
          rw [hg] at hdz
          exact ⟨g, rfl, Option.some.inj hdz⟩
      obtain ⟨pz, zs, rfl, hpz, hZ⟩ := tz.asTup
      have ez2 : zs = [.str g.1, .str g.2] := by
        cases hZ with
        | cons h0 h1 =>
          cases h1 with
          | cons h1 h2 =>
            cases h2
            cases h0
            cases h1
            rfl
      subst ez2
      have hpz2 : SqT K H2 pz [.str g.1, .str g.2] := by
        rcases hpz with (h | ⟨o, h⟩) | h
        · exact .inl (.inl (fr _ _ (by simp only [List.mem_cons, List.not_mem_nil, or_false, not_or]; exact ⟨ne_of h hd0 (by intro z; cases z), ne_of_none h nL⟩) h))
        · exact .inl (.inr ⟨o, fr _ _ (by simp only [List.mem_cons, List.not_mem_nil, or_false, not_or]; exact ⟨ne_of h hd0 (by intro z; cases z), ne_of_none h nL⟩) h⟩)
        · exact .inr h
      refine ⟨pz, _, rfl, hpz2, rfl, _, _, rfl, _, _, rfl, rfl, rfl, ?_⟩
      refine ⟨_, rfl, _, rfl, d, cl, ns, _, g.2, rfl, P1, by omega, (gF.ok g (List.mem_of_getElem? hg)).2.2.2, fun H3 D f3 P3 pD oD => ?_⟩
      have hL3 := f3 _ _ (by simpa using nLd.symm) hL
      refine push hL3 la (by omega) ⟨Ds ++ [D], ?_, ?_, ?_, ?_, (fr.trans (f3.mono (by simp))).trans (fr_upd (by simp)), (P3.fr (S := [L]) (fr_upd (by simp)) (by simpa using nLd) (by simpa using nLc)).mono (by omega)⟩
      · rw [List.map_append]
        rfl
      · rw [List.length_append, lD]
        rfl
      · intro x hx
        rcases List.mem_append.mp hx with h | h
        · exact hD1 x h
        · rw [List.mem_singleton.mp h]
          exact pD
      · have e1 : (Ds ++ [D]).zip fs = Ds.zip fs ++ [(D, g)] := zip_snoc (by rw [lD]; exact hg)
        rw [e1, List.all_append, hD2]
        show (true && (ofSort g.2 D && true)) = true
        rw [oD]
        rfl
    · rintro acc H1 la ⟨Ds, rfl, lD, hD1, hD2, fr, P1⟩ hL
      refine ⟨L, _, rfl, .inl ⟨SqL.of hL, fun t nt => ?_⟩⟩
      have sT := newS (o := .tup (Ds.map vOf)) nt
      have f0 : Fr [d] H _ := Fr.trans (Fr.drop (p := L) (S := [d]) (fr.mono (by simp)) nL) (fr_same sT)
      refine q _ t Ds f0 ((P1.fr (S := []) (fr_same sT) (by simp) (by simp)).mono (by omega)) upd_same hD1 ?_
      show (decide (Ds.length = fs.length) && (Ds.zip fs).all fun x => ofSort x.2.2 x.1) = true
      rw [hD2, decide_eq_true (by omega)]
      rfl
end
end St6

set_option autoImplicit false
set_option maxHeartbeats 4000000
namespace St6
open PySem PySem.Spec PyProof.Rows L2 Tg Cc Nn
/-! what steps make of fields -/
def sortOf (fs : Fs) : PyData → Option Str
  | .str s => getF fs s
  | _ => none
def isNewB (fs : Fs) (d : PyData) : Bool := smallB 12 d && (sortOf fs d).isNone
def amongB (l : List Str) : Option Str → Bool
  | some s => decide (s ∈ l)
  | none => false
def numsL : List Str := ["code", "amount"]
def testL : List Str := ["code", "word"]
def joinL : List Str := ["word", "text"]
def txtOf : PyData → Str
  | .str s => s
  | _ => ""
def renameB (fs : Fs) (old new : PyData) : Option Fs := if ((sortOf fs old).isSome && isNewB fs new) = true then some (fs.map fun x => (if x.1 = txtOf old then txtOf new else x.1, x.2)) else none
def copyB (fs : Fs) (old new : PyData) : Option Fs := match sortOf fs old with
  | some s => if isNewB fs new = true then some (fs ++ [(txtOf new, s)]) else none
  | none => none
def dropB (fs : Fs) (old : PyData) : Option Fs := if (sortOf fs old).isSome = true then some (fs.filter fun x => !decide (x.1 = txtOf old)) else none
def putB (fs : Fs) (new sort value : PyData) : Option Fs := if (isNewB fs new && (sortB sort && ofSort (txtOf sort) value)) = true then some (fs ++ [(txtOf new, txtOf sort)]) else none
def scaleB (fs : Fs) (field times plus : PyData) : Option Fs := if (amongB numsL (sortOf fs field) && (wholeB times && wholeB plus)) = true then some fs else none
def sumsB (fs : Fs) : PyData → Bool
  | .tuple l => decide (1 ≤ l.length) && decide (l.length ≤ 6) && l.all fun f => amongB numsL (sortOf fs f)
  | _ => false
def sumB (fs : Fs) (new fields : PyData) : Option Fs := if (isNewB fs new && sumsB fs fields) = true then some (fs ++ [(txtOf new, ("amount" : Str))]) else none
def sayC (c : Nat) : Bool := decide (c ∈ (Str.ofString "abcdefghijklmnopqrstuvwxyz0123456789 -").cps.toList)
def sayB : PyData → Bool
  | .str s => (decide (1 ≤ s.length) && decide (s.length ≤ 12)) && s.cps.toList.all sayC
  | _ => false
def partB (fs : Fs) : PyData → Bool
  | .tuple [.str w, d] => if w = "say" then sayB d else (decide (w = "field") && amongB joinL (sortOf fs d))
  | _ => false
def partsB (fs : Fs) : PyData → Bool
  | .tuple l => decide (1 ≤ l.length) && decide (l.length ≤ 8) && l.all (partB fs)
  | _ => false
def joinB (fs : Fs) (new parts : PyData) : Option Fs := if (isNewB fs new && partsB fs parts) = true then some (fs ++ [(txtOf new, ("text" : Str))]) else none
def rowB (elder sort : Str) : PyData → Bool
  | .tuple [a, b] => ofSort elder a && ofSort sort b
  | _ => false
/-- the key that a row's first thing is -/
def keyOf : PyData → Key
  | .tuple (.int i :: _) => .inl i
  | .tuple (.str s :: _) => .inr s
  | _ => .inl 0
def rowsB (elder sort : Str) : PyData → Bool
  | .tuple l => (decide (l.length ≤ 4) && l.all (rowB elder sort)) && decide ((l.map keyOf).Nodup)
  | _ => false
def otherB (elder sort : Str) : PyData → Bool
  | .none => decide (sort = elder)
  | .tuple [x] => ofSort sort x
  | _ => false
def tableB (fs : Fs) (field sort rows other : PyData) : Option Fs := match sortOf fs field with
  | some elder => if (((decide (elder ∈ testL) && sortB sort) && decide (txtOf sort ∈ testL)) && (rowsB elder (txtOf sort) rows && otherB elder (txtOf sort) other)) = true then some (setF fs (txtOf field) (txtOf sort)) else none
  | none => none
def bothB (a b : Except Nat Fs) : Option Fs := match a, b with
  | .ok x, .ok y => if eqF x y = true then some x else none
  | _, _ => none
def caseB (rec : Fs → PyData → Except Nat Fs) (fs : Fs) (field value yes no : PyData) : Option Fs := match sortOf fs field with
  | some s => if (decide (s ∈ testL) && ofSort s value) = true then bothB (rec fs yes) (rec fs no) else none
  | none => none
def leadB (rec : Fs → PyData → Except Nat Fs) (fs : Fs) (w : Str) : List PyData → Option Fs
  | [a] => if w = "drop" then dropB fs a else none
  | [a, b] => if w = "rename" then renameB fs a b else if w = "copy" then copyB fs a b else if w = "sum" then sumB fs a b else if w = "join" then joinB fs a b else none
  | [a, b, c] => if w = "put" then putB fs a b c else if w = "scale" then scaleB fs a b c else none
  | [a, b, c, d] => if w = "table" then tableB fs a b c d else if w = "case" then caseB rec fs a b c d else none
  | _ => none
def stepB (rec : Fs → PyData → Except Nat Fs) (fs : Fs) : PyData → Option Fs
  | .tuple (.str w :: r) => leadB rec fs w r
  | _ => none
def goB (st : Fs → PyData → Option Fs) : Nat → Fs → List PyData → Except Nat Fs
  | _, fs, [] => .ok fs
  | i, fs, d :: r => match st fs d with
    | some gs => goB st (i + 1) gs r
    | none => .error i
def overB (st : Fs → PyData → Option Fs) (fs : Fs) : PyData → Except Nat Fs
  | .list ds => goB st 0 fs ds
  | .tuple ds => goB st 0 fs ds
  | _ => .error 0
/-- of cases within cases to c -/
def stepsB : Nat → Fs → PyData → Except Nat Fs
  | 0, fs, d => overB (stepB fun _ _ => .error 0) fs d
  | c + 1, fs, d => overB (stepB (stepsB c)) fs d
/-- how many fields are put at most -/
def items : PyData → List PyData
  | .list ds => ds
  | .tuple ds => ds
  | _ => []
def growB : Nat → PyData → Nat
  | 0, d => (items d).length
  | c + 1, d => ((items d).map fun s => 1 + ((items s).map (growB c)).sum).sum
/-- told: the fields behind, or None -/
def Res (o : Option Fs) (H : Hp) (Q : VK) : Prop := match o with
  | some gs => ∀ H' q, Same H H' → H' q = some (.dK (kvsOf gs)) → Q (.ref q) H'
  | none => ∀ H', Same H H' → Q .non H'
theorem Res.same {o : Option Fs} {H H1 : Hp} {Q : VK} (h : Res o H Q) (s : Same H H1) : Res o H1 Q := by
  cases o with
  | some gs => exact fun H' q s2 e => h H' q (s.trans s2) e
  | none => exact fun H' s2 => h H' (s.trans s2)
/-- a dict of fields -/
structure Fd (H : Hp) (sd : Addr) (fs : Fs) : Prop where
  at_ : H sd = some (.dK (kvsOf fs))
  nd : (fs.map Prod.fst).Nodup
  lim : fs.length ≤ 2000000
theorem Fd.same {H H1 : Hp} {sd : Addr} {fs : Fs} (h : Fd H sd fs) (s : Same H H1) : Fd H1 sd fs := ⟨s _ _ h.at_, h.nd, h.lim⟩
theorem Fd.get {H : Hp} {sd : Addr} {fs : Fs} (h : Fd H sd fs) (s : Str) : DGet H sd (.str s) ((getF fs s).map V.str) := by
  have e := DGet.k (k := Sum.inr s) h.at_
  rw [val_of] at e
  exact e
theorem sortOf_str (fs : Fs) (s : Str) : sortOf fs (.str s) = getF fs s := rfl
theorem sortOf_not {fs : Fs} {d : PyData} (h : isStr d = false) : sortOf fs d = none := by
  cases d <;> first | rfl | cases h
theorem isNew_not {fs : Fs} {d : PyData} (h : isStr d = false) : isNewB fs d = false := by
  unfold isNewB
  rw [smallB_not h]
  rfl
theorem isNew_str {fs : Fs} {d : PyData} (h : isNewB fs d = true) : ∃ s, d = .str s := by
  unfold isNewB at h
  rw [Bool.and_eq_true] at h
  exact small_str h.1
theorem getF_none {fs : Fs} {s : Str} (h : getF fs s = none) : s ∉ fs.map Prod.fst := fun hm => by
  obtain ⟨x, hx, rfl⟩ := List.mem_map.mp hm
  unfold getF at h
  have h2 : (fs.find? fun y => decide (y.1 = x.1)) = none := by
    cases e : fs.find? fun y => decide (y.1 = x.1) with
    | none => rfl
    | some y =>
      rw [e] at h
      cases h
  exact List.find?_eq_none.mp h2 x hx (decide_eq_true rfl)
theorem setF_new {fs : Fs} {n s : Str} (h : getF fs n = none) : setF fs n s = fs ++ [(n, s)] := by
  unfold setF
  rw [if_neg]
  intro e
  obtain ⟨x, hx, hd⟩ := List.any_eq_true.mp e
  exact getF_none h (List.mem_map.mpr ⟨x, hx, of_decide_eq_true hd⟩)
theorem nd_new {fs : Fs} {n s : Str} (h : getF fs n = none) (nd : (fs.map Prod.fst).Nodup) : ((fs ++ [(n, s)]).map Prod.fst).Nodup := by
  rw [List.map_append, List.nodup_append]
  refine ⟨nd, by simp, fun a ha b hb => ?_⟩
  have : b = n := by simpa using hb
  subst this
  exact fun e => getF_none h (by rw [← e]; exact ha)
end St6

set_option autoImplicit false
set_option maxHeartbeats 4000000
namespace St6
open PySem PySem.Spec PyProof.Rows L2 Tg Cc Nn
/-! the program's steps, one by one -/
def optV : Option Str → V
  | some s => .str s
  | none => .non
theorem optV_get (o : Option Str) : (o.map V.str).getD .non = optV o := by cases o <;> rfl
def spSortOf (K : PySem.W.Frag) : Sp := fun vs H Q _ => ∃ sd fs v d, vs = [.ref sd, v] ∧ Fd H sd fs ∧ Th K H v d ∧ Ok d ∧ Q (optV (sortOf fs d)) H
def spIsNew (K : PySem.W.Frag) : Sp := fun vs H Q _ => ∃ sd fs v d, vs = [.ref sd, v] ∧ Fd H sd fs ∧ Th K H v d ∧ Ok d ∧ ∀ H', Same H H' → Q (.bl (isNewB fs d)) H'
def spLead (K : PySem.W.Frag) (rec : Fs → PyData → Except Nat Fs) (w : Str) (n : Nat) : Sp := fun vs H Q _ => ∃ sd fs v r, vs = [.ref sd, v] ∧ Fd H sd fs ∧ Th K H v (.tuple (.str w :: r)) ∧ r.length = n ∧ (∀ x ∈ r, Ok x) ∧ Res (leadB rec fs w r) H Q
theorem len1 {α : Type} {l : List α} (h : l.length = 1) : ∃ a, l = [a] := by
  match l, h with
  | [a], _ => exact ⟨a, rfl⟩
theorem len3 {α : Type} {l : List α} (h : l.length = 3) : ∃ a b c, l = [a, b, c] := by
  match l, h with
  | [a, b, c], _ => exact ⟨a, b, c, rfl⟩
theorem len4 {α : Type} {l : List α} (h : l.length = 4) : ∃ a b c d, l = [a, b, c, d] := by
  match l, h with
  | [a, b, c, d], _ => exact ⟨a, b, c, d, rfl⟩
theorem _root_.Tg.ThAll.cons_of {K : PySem.W.Frag} {H : Hp} {xs : List V} {d : PyData} {ds : List PyData} (h : ThAll K H xs (d :: ds)) : ∃ x r, xs = x :: r ∧ Th K H x d ∧ ThAll K H r ds := by
  cases h with
  | cons a b => exact ⟨_, _, rfl, a, b⟩
theorem _root_.Tg.ThAll.nil_of {K : PySem.W.Frag} {H : Hp} {xs : List V} (h : ThAll K H xs []) : xs = [] := by
  cases h
  rfl
theorem th1 {K : PySem.W.Frag} {H : Hp} {xs : List V} {w : Str} {a : PyData} (h : ThAll K H xs [.str w, a]) : ∃ x, xs = [.str w, x] ∧ Th K H x a := by
  obtain ⟨x0, r, rfl, t0, h⟩ := h.cons_of
  obtain ⟨x1, r, rfl, t1, h⟩ := h.cons_of
  obtain rfl := h.nil_of
  obtain rfl := t0.asStr
  exact ⟨_, rfl, t1⟩
theorem th2 {K : PySem.W.Frag} {H : Hp} {xs : List V} {w : Str} {a b : PyData} (h : ThAll K H xs [.str w, a, b]) : ∃ x y, xs = [.str w, x, y] ∧ Th K H x a ∧ Th K H y b := by
  obtain ⟨x0, r, rfl, t0, h⟩ := h.cons_of
  obtain ⟨x1, r, rfl, t1, h⟩ := h.cons_of
  obtain ⟨x2, r, rfl, t2, h⟩ := h.cons_of
  obtain rfl := h.nil_of
  obtain rfl := t0.asStr
  exact ⟨_, _, rfl, t1, t2⟩
theorem th3 {K : PySem.W.Frag} {H : Hp} {xs : List V} {w : Str} {a b c : PyData} (h : ThAll K H xs [.str w, a, b, c]) : ∃ x y z, xs = [.str w, x, y, z] ∧ Th K H x a ∧ Th K H y b ∧ Th K H z c := by
  obtain ⟨x0, r, rfl, t0, h⟩ := h.cons_of
  obtain ⟨x1, r, rfl, t1, h⟩ := h.cons_of
  obtain ⟨x2, r, rfl, t2, h⟩ := h.cons_of
  obtain ⟨x3, r, rfl, t3, h⟩ := h.cons_of
  obtain rfl := h.nil_of
  obtain rfl := t0.asStr
  exact ⟨_, _, _, rfl, t1, t2, t3⟩
theorem th4 {K : PySem.W.Frag} {H : Hp} {xs : List V} {w : Str} {a b c e : PyData} (h : ThAll K H xs [.str w, a, b, c, e]) : ∃ x y z u, xs = [.str w, x, y, z, u] ∧ Th K H x a ∧ Th K H y b ∧ Th K H z c ∧ Th K H u e := by
  obtain ⟨x0, r, rfl, t0, h⟩ := h.cons_of
  obtain ⟨x1, r, rfl, t1, h⟩ := h.cons_of
  obtain ⟨x2, r, rfl, t2, h⟩ := h.cons_of
  obtain ⟨x3, r, rfl, t3, h⟩ := h.cons_of
  obtain ⟨x4, r, rfl, t4, h⟩ := h.cons_of
  obtain rfl := h.nil_of
  obtain rfl := t0.asStr
  exact ⟨_, _, _, _, rfl, t1, t2, t3, t4⟩
theorem flat_opt (o : Option Str) : flatV (optV o) = true := by cases o <;> rfl
theorem in_opt (o : Option Str) : ∀ l : List Str, inV (optV o) (l.map V.str) = amongB l o := fun l => by
  cases o with
  | some s => exact in_strs s l
  | none =>
    induction l with
    | nil => rfl
    | cons y r ih => exact ih
theorem optV_non (o : Option Str) : decide (optV o = V.non) = !o.isSome := by cases o <;> rfl
/-- a dict with one more: what the display leaves -/
theorem star_ok {H : Hp} {p p2 sd : Addr} {fs : Fs} {n s : Str} (hF : Fd H sd fs) (np : H p = none) (np2 : upd (upd H p (.dK [])) p (.dK (kvsOf fs)) p2 = none) :
    sd ≠ p ∧ (upd H p (.dK [])) p = some (.dK []) ∧ (upd H p (.dK [])) sd = some (.dK (kvsOf fs)) ∧ Same H (upd (upd (upd H p (.dK [])) p (.dK (kvsOf fs))) p2 (.dK [])) ∧
    (upd (upd (upd H p (.dK [])) p (.dK (kvsOf fs))) p2 (.dK [])) p2 = some (.dK []) ∧ p2 ≠ p ∧ (upd (upd (upd H p (.dK [])) p (.dK (kvsOf fs))) p2 (.dK [])) p = some (.dK (kvsOf fs)) ∧ (kvsOf fs).length < sizeLine ∧
    Same H (upd (upd (upd (upd (upd H p (.dK [])) p (.dK (kvsOf fs))) p2 (.dK [])) p2 (.dK [(Sum.inr n, V.str s)])) p (.dK (putK (kvsOf fs) (Sum.inr n) (V.str s)))) ∧
    (upd (upd (upd (upd (upd H p (.dK [])) p (.dK (kvsOf fs))) p2 (.dK [])) p2 (.dK [(Sum.inr n, V.str s)])) p (.dK (putK (kvsOf fs) (Sum.inr n) (V.str s)))) p = some (.dK (kvsOf (setF fs n s))) := by
  have n1 : sd ≠ p := ne_of_none hF.at_ np
  have n2 : p ≠ p2 := ne_of_none (upd_same (H := upd H p (.dK [])) (o := .dK (kvsOf fs))) np2
  have off : ∀ b o, H b = some o → b ≠ p ∧ b ≠ p2 := fun b o e => by
    have h1 : b ≠ p := ne_of_none e np
    exact ⟨h1, ne_of_none (show upd (upd H p (.dK [])) p (.dK (kvsOf fs)) b = some o by rw [upd_ne h1, upd_ne h1]; exact e) np2⟩
  refine ⟨n1, upd_same, by rw [upd_ne n1]; exact hF.at_, fun b o e => ?_, upd_same, n2.symm, by rw [upd_ne n2, upd_same], ?_, fun b o e => ?_, ?_⟩
  · obtain ⟨h1, h2⟩ := off b o e
    rw [upd_ne h2, upd_ne h1, upd_ne h1]
    exact e
  · rw [kvsOf_len, szl]
    have := hF.lim
    omega
  · obtain ⟨h1, h2⟩ := off b o e
    rw [upd_ne h1, upd_ne h2, upd_ne h2, upd_ne h1, upd_ne h1]
    exact e
  · rw [upd_same, put_of]
theorem star_goes {td tk tv : TE} {σ : L2.St} {H : Hp} {sd : Addr} {fs : Fs} {n s : Str} {Q : VK} (hF : Fd H sd fs) (hd : ∀ (H' : Hp) (k : VK), k (V.ref sd) H' → td σ H' k) (hk : ∀ (H' : Hp) (k : VK), k (V.str n) H' → tk σ H' k)
    (hv : ∀ (H' : Hp) (k : VK), Same H H' → k (V.str s) H' → tv σ H' k) (q : ∀ H' p, Same H H' → H' p = some (.dK (kvsOf (setF fs n s))) → Q (.ref p) H') : tDStar td tk tv σ H Q := fun p np => by
  refine hd _ _ ⟨sd, kvsOf fs, rfl, ne_of_none hF.at_ np, upd_same, by rw [upd_ne (ne_of_none hF.at_ np)]; exact hF.at_, fun p2 np2 => ?_⟩
  obtain ⟨k1, k2, k3, k4, k5, k6, k7, k8, k9, k10⟩ := star_ok (n := n) (s := s) hF np np2
  exact hk _ _ (hv _ _ k4 ⟨Sum.inr n, kvsOf fs, rfl, k5, k6, k7, k8, q _ _ k9 k10⟩)
theorem isNew_of {fs : Fs} {d : PyData} (h : isNewB fs d = true) : ∃ z, d = .str z ∧ getF fs z = none := by
  obtain ⟨z, rfl⟩ := isNew_str h
  unfold isNewB at h
  rw [Bool.and_eq_true, sortOf_str] at h
  exact ⟨z, rfl, Option.isNone_iff_eq_none.mp h.2⟩
theorem sortOf_of {fs : Fs} {d : PyData} {s : Str} (h : sortOf fs d = some s) : ∃ y, d = .str y ∧ getF fs y = some s := by
  cases d <;> first | exact ⟨_, rfl, h⟩ | cases h
section
variable {P : Program} {w : World} {K : PySem.W.Frag} {mg : Str → Option Value} {base : Heap}
theorem scsortof : FnScope ["sorts", "field"] ["sorts", "field"] (defScope sSortOf) := ⟨rfl, rfl, rfl, by decide +kernel, rfl, by decide +kernel, by decide +kernel⟩
theorem ok_sortof {f : Addr} {fd : FuncData} (F : FnP K "_sort_of" sSortOf f fd)  (mb_isinstance : mg "isinstance" = none) (mb_str : mg "str" = none)   : FnOk P w K mg base CX0 1 f fd ["sorts", "field"] (spSortOf K) := by
  refine F.ok scsortof (fun vs H Q E h => ?_) (fun cdv A outer s H vs Q E hr h => ?_)
  · obtain ⟨sd, fs, v, d, rfl, _⟩ := h
    rfl
  · obtain ⟨sd, fs, v, d, rfl, hF, hT, hB, q⟩ := h
    have hu := hu_of hr
    refine ⟨_, PSs.nox (pss_one (ps_ret (pe_ifExp (pt_val (pe_callB call_isi (by rfl) mb_isinstance (by decide +kernel) (pa_cons (pv 1) (pa_cons (pe_bltn (v := .ty "str") (by rfl) mb_str (by decide +kernel) rfl) pa_nil)))) (pe_dget1 hu (pv 0) (pv 1) ⟨by rfl, by rfl, by rfl, by rfl⟩) (pe_non)))), ?_⟩
    refine ⟨_, rfl, v, .ty "str", _, _, _, rfl, .ty "str", hT.ty, kit_ty (kit_str d), _, rfl, ?_⟩
    cases hs : isStr d with
    | false =>
      rw [sortOf_not hs] at q
      exact iteF q
    | true =>
      obtain ⟨z, rfl⟩ := isStr_eq hs
      obtain rfl := hT.asStr
      refine iteT ⟨_, rfl, sd, rfl, .inl ⟨_, .inl hF.at_⟩, _, rfl, _, hF.get z, ?_⟩
      rw [optV_get]
      exact q
theorem scisnew : FnScope ["sorts", "field"] ["sorts", "field"] (defScope sIsNew) := ⟨rfl, rfl, rfl, by decide +kernel, rfl, by decide +kernel, by decide +kernel⟩
theorem ok_isnew {f : Addr} {fd : FuncData} (F : FnP K "_is_new" sIsNew f fd) {f_is_name : Addr} {fd_is_name : FuncData} (c_is_name : Cl P w K mg base CX0 "is_name" 2 ["thing"] (spName K) f_is_name fd_is_name)    : FnOk P w K mg base CX0 3 f fd ["sorts", "field"] (spIsNew K) := by
  refine F.ok scisnew (fun vs H Q E h => ?_) (fun cdv A outer s H vs Q E hr h => ?_)
  · obtain ⟨sd, fs, v, d, rfl, _⟩ := h
    rfl
  · obtain ⟨sd, fs, v, d, rfl, hF, hT, hB, q⟩ := h
    have hu := hu_of hr
    refine ⟨_, PSs.nox (pss_one (ps_ret (pe_and (pe_call c_is_name.ok (hr.mono (by decide)) (by rfl) c_is_name.m c_is_name.kp c_is_name.b .nil pass0 (pa_cons (pv 1) pa_nil)) (pe_one (pe_cmp (pc_dnotin hu (pv 1) (pv 0))))))), ?_⟩
    refine ⟨_, rfl, v, d, rfl, hT, hB, fun H1 s1 => ⟨_, rfl, ?_⟩⟩
    cases hs : smallB 12 d with
    | false =>
      have e := q H1 s1
      unfold isNewB at e
      rw [hs, Bool.false_and] at e
      exact iteF e
    | true =>
      obtain ⟨z, rfl⟩ := small_str hs
      obtain rfl := hT.asStr
      refine iteT ⟨_, rfl, _, rfl, sd, _, rfl, (hF.same s1).get z, ?_⟩
      have e := q H1 s1
      unfold isNewB at e
      rw [hs, Bool.true_and, sortOf_str] at e
      cases hg : getF fs z <;> (rw [hg] at e; exact e)
theorem scbcopy : FnScope ["sorts", "step", "_", "old", "new"] ["sorts", "step"] (defScope sBehindCopy) := ⟨rfl, rfl, rfl, by decide +kernel, rfl, by decide +kernel, by decide +kernel⟩
theorem ok_bcopy {f : Addr} {fd : FuncData} (F : FnP K "_behind_copy" sBehindCopy f fd) {f__sort_of : Addr} {fd__sort_of : FuncData} (c__sort_of : Cl P w K mg base CX0 "_sort_of" 1 ["sorts", "field"] (spSortOf K) f__sort_of fd__sort_of) {f__is_new : Addr} {fd__is_new : FuncData} (c__is_new : Cl P w K mg base CX0 "_is_new" 3 ["sorts", "field"] (spIsNew K) f__is_new fd__is_new)   {rec : Fs → PyData → Except Nat Fs} : FnOk P w K mg base CX0 4 f fd ["sorts", "step"] (spLead K rec "copy" 2) := by
  refine F.ok scbcopy (fun vs H Q E h => ?_) (fun cdv A outer s H vs Q E hr h => ?_)
  · obtain ⟨sd, fs, v, r, rfl, _⟩ := h
    rfl
  · obtain ⟨sd, fs, v, r, rfl, hF, hT, hl, hB, q⟩ := h
    have hu := hu_of hr
    have hs := szl
    refine ⟨_, PSs.nox (pss_cons (ps_asg (pv 1) (pg_tup rfl (pgs_cons (pg_name (i := 2) scbcopy.nd rfl (Or.inl rfl)) (pgs_cons (pg_name (i := 3) scbcopy.nd rfl (Or.inl rfl)) (pgs_cons (pg_name (i := 4) scbcopy.nd rfl (Or.inl rfl)) (pgs_nil))))))
      (pss_cons (ps_if (PW.pt (pw_or (pt_cmpR op_isN (pe_call c__sort_of.ok (hr.mono (by decide)) (by rfl) c__sort_of.m c__sort_of.kp c__sort_of.b .nil pass0 (pa_cons (pv 0) (pa_cons (pv 3) pa_nil))) (pe_non) (nomark _)) (pw_or1 (pt_not (pt_val (pe_call c__is_new.ok (hr.mono (by decide)) (by rfl) c__is_new.m c__is_new.kp c__is_new.b .nil pass0 (pa_cons (pv 0) (pa_cons (pv 4) pa_nil)))))))) (pss_one (ps_ret (pe_non))) (pss_nil))
      (pss_one (ps_ret (Nn.pe_dstar (pv 0) (pv 4) (pe_dget hu (pv 0) (pv 3) (fun _ _ => rfl))))))), ?_⟩
    obtain ⟨d0, d1, rfl⟩ := len2 hl
    obtain ⟨a, xs, rfl, hx, hA⟩ := hT.asTup
    obtain ⟨x0, x1, rfl, t0, t1⟩ := th2 hA
    have b0 := hB d0 (by simp)
    have b1 := hB d1 (by simp)
    replace q : Res (copyB fs d0 d1) H Q := q
    refine ⟨_, rfl, a, _, rfl, hx, rfl, _, _, rfl, _, _, rfl, _, _, rfl, rfl, _, rfl, _, rfl, sd, fs, x0, d0, rfl, hF, t0, b0, rfl, _, rfl, ?_⟩
    rw [optV_non]
    unfold copyB at q
    cases ho : sortOf fs d0 with
    | none =>
      rw [ho] at q
      exact iteT (iteT (q H (Same.refl H)))
    | some s =>
      rw [ho] at q
      refine iteF ⟨_, rfl, _, rfl, sd, fs, x1, d1, rfl, hF, t1, b1, fun H1 s1 => ⟨_, rfl, ?_⟩⟩
      cases hn : isNewB fs d1 with
      | false =>
        rw [hn] at q
        exact iteT (q H1 s1)
      | true =>
        rw [hn] at q
        obtain ⟨z, rfl, hz⟩ := isNew_of hn
        obtain rfl := t1.asStr
        have hF1 := hF.same s1
        obtain ⟨y, rfl, hy⟩ := sortOf_of ho
        obtain rfl := t0.asStr
        refine iteF (star_goes hF1 (fun _ _ k => ⟨_, rfl, k⟩) (fun _ _ k => ⟨_, rfl, k⟩) (fun H' k s2 hk => ⟨_, rfl, _, rfl, sd, .str s, rfl, ?_, hk⟩) (fun H' p s2 e => q H' p (s1.trans s2) ?_))
        · have g := (hF1.same s2).get y
          rw [hy] at g
          exact g
        · rw [e, setF_new hz]
          rfl
theorem scbput : FnScope ["sorts", "step", "_", "new", "sort", "value"] ["sorts", "step"] (defScope sBehindPut) := ⟨rfl, rfl, rfl, by decide +kernel, rfl, by decide +kernel, by decide +kernel⟩
theorem ok_bput {f : Addr} {fd : FuncData} (F : FnP K "_behind_put" sBehindPut f fd) {f__is_new : Addr} {fd__is_new : FuncData} (c__is_new : Cl P w K mg base CX0 "_is_new" 3 ["sorts", "field"] (spIsNew K) f__is_new fd__is_new) {f_is_sort : Addr} {fd_is_sort : FuncData} (c_is_sort : Cl P w K mg base CX0 "is_sort" 1 ["thing"] (spSort K) f_is_sort fd_is_sort) {f_is_of_sort : Addr} {fd_is_of_sort : FuncData} (c_is_of_sort : Cl P w K mg base CX0 "is_of_sort" 3 ["value", "sort"] (spOfSort K) f_is_of_sort fd_is_of_sort)   {rec : Fs → PyData → Except Nat Fs} : FnOk P w K mg base CX0 4 f fd ["sorts", "step"] (spLead K rec "put" 3) := by
  refine F.ok scbput (fun vs H Q E h => ?_) (fun cdv A outer s H vs Q E hr h => ?_)
  · obtain ⟨sd, fs, v, r, rfl, _⟩ := h
    rfl
  · obtain ⟨sd, fs, v, r, rfl, hF, hT, hl, hB, q⟩ := h
    have hu := hu_of hr
    refine ⟨_, PSs.nox (pss_cons (ps_asg (pv 1) (pg_tup rfl (pgs_cons (pg_name (i := 2) scbput.nd rfl (Or.inl rfl)) (pgs_cons (pg_name (i := 3) scbput.nd rfl (Or.inl rfl)) (pgs_cons (pg_name (i := 4) scbput.nd rfl (Or.inl rfl)) (pgs_cons (pg_name (i := 5) scbput.nd rfl (Or.inl rfl)) (pgs_nil)))))))
      (pss_cons (ps_if (PW.pt (pw_or (pt_not (pt_val (pe_call c__is_new.ok (hr.mono (by decide)) (by rfl) c__is_new.m c__is_new.kp c__is_new.b .nil pass0 (pa_cons (pv 0) (pa_cons (pv 3) pa_nil))))) (pw_or (pt_not (pt_val (pe_call c_is_sort.ok (hr.mono (by decide)) (by rfl) c_is_sort.m c_is_sort.kp c_is_sort.b .nil pass0 (pa_cons (pv 4) pa_nil)))) (pw_or1 (pt_not (pt_val (pe_call c_is_of_sort.ok (hr.mono (by decide)) (by rfl) c_is_of_sort.m c_is_of_sort.kp c_is_of_sort.b .nil pass0 (pa_cons (pv 5) (pa_cons (pv 4) pa_nil))))))))) (pss_one (ps_ret (pe_non))) (pss_nil))
      (pss_one (ps_ret (Nn.pe_dstar (pv 0) (pv 3) (pv 4)))))), ?_⟩
    obtain ⟨d0, d1, d2, rfl⟩ := len3 hl
    obtain ⟨a, xs, rfl, hx, hA⟩ := hT.asTup
    obtain ⟨x0, x1, x2, rfl, t0, t1, t2⟩ := th3 hA
    have b0 := hB d0 (by simp)
    have b1 := hB d1 (by simp)
    have b2 := hB d2 (by simp)
    replace q : Res (putB fs d0 d1 d2) H Q := q
    unfold putB at q
    refine ⟨_, rfl, a, _, rfl, hx, rfl, _, _, rfl, _, _, rfl, _, _, rfl, _, _, rfl, rfl, _, rfl, _, rfl, sd, fs, x0, d0, rfl, hF, t0, b0, fun H1 s1 => ⟨_, rfl, ?_⟩⟩
    cases hn : isNewB fs d0 with
    | false =>
      rw [hn, Bool.false_and] at q
      exact iteT (iteT (q H1 s1))
    | true =>
      rw [hn, Bool.true_and] at q
      refine iteF ⟨_, rfl, x1, d1, rfl, t1.kept (kept_same s1), b1, fun H2 s2 => ⟨_, rfl, ?_⟩⟩
      have s12 := s1.trans s2
      cases hs : sortB d1 with
      | false =>
        rw [hs, Bool.false_and] at q
        exact iteT (iteT (q H2 s12))
      | true =>
        rw [hs, Bool.true_and] at q
        obtain ⟨z1, rfl⟩ : ∃ z, d1 = .str z := by
          cases d1 <;> first | exact ⟨_, rfl⟩ | cases hs
        obtain rfl := t1.asStr
        refine iteF ⟨_, rfl, _, rfl, x2, d2, z1, rfl, t2.kept (kept_same s12), b2, fun H3 s3 => ⟨_, rfl, ?_⟩⟩
        have s13 := s12.trans s3
        cases ho : ofSort (txtOf (.str z1)) d2 with
        | false =>
          rw [ho] at q
          have ho : ofSort z1 d2 = false := ho
          rw [ho]
          exact iteT (q H3 s13)
        | true =>
          rw [ho] at q
          have ho : ofSort z1 d2 = true := ho
          rw [ho]
          obtain ⟨z, rfl, hz⟩ := isNew_of hn
          obtain rfl := t0.asStr
          have hF1 := hF.same s13
          refine iteF (star_goes hF1 (fun _ _ k => ⟨_, rfl, k⟩) (fun _ _ k => ⟨_, rfl, k⟩) (fun H' k s2 hk => ⟨_, rfl, hk⟩) (fun H' p s2 e => q H' p (s13.trans s2) ?_))
          rw [e, setF_new hz]
          rfl
theorem scbscale : FnScope ["sorts", "step", "_", "field", "times", "plus"] ["sorts", "step"] (defScope sBehindScale) := ⟨rfl, rfl, rfl, by decide +kernel, rfl, by decide +kernel, by decide +kernel⟩
theorem ok_bscale {f : Addr} {fd : FuncData} (F : FnP K "_behind_scale" sBehindScale f fd) {f__sort_of : Addr} {fd__sort_of : FuncData} (c__sort_of : Cl P w K mg base CX0 "_sort_of" 1 ["sorts", "field"] (spSortOf K) f__sort_of fd__sort_of) {f_is_whole : Addr} {fd_is_whole : FuncData} (c_is_whole : Cl P w K mg base CX0 "is_whole" 1 ["thing"] (spWhole K) f_is_whole fd_is_whole)  {aN : Addr} (m_NUMBERS : mg "NUMBERS" = some (.ref aN)) (hN_ : ∀ H, SqT K H aN (numsL.map V.str)) {rec : Fs → PyData → Except Nat Fs} : FnOk P w K mg base CX0 4 f fd ["sorts", "step"] (spLead K rec "scale" 3) := by
  refine F.ok scbscale (fun vs H Q E h => ?_) (fun cdv A outer s H vs Q E hr h => ?_)
  · obtain ⟨sd, fs, v, r, rfl, _⟩ := h
    rfl
  · obtain ⟨sd, fs, v, r, rfl, hF, hT, hl, hB, q⟩ := h
    have hu := hu_of hr
    refine ⟨_, PSs.nox (pss_cons (ps_asg (pv 1) (pg_tup rfl (pgs_cons (pg_name (i := 2) scbscale.nd rfl (Or.inl rfl)) (pgs_cons (pg_name (i := 3) scbscale.nd rfl (Or.inl rfl)) (pgs_cons (pg_name (i := 4) scbscale.nd rfl (Or.inl rfl)) (pgs_cons (pg_name (i := 5) scbscale.nd rfl (Or.inl rfl)) (pgs_nil)))))))
      (pss_cons (ps_if (PW.pt (pw_or (pt_cmpR op_notIn_seq (pe_call c__sort_of.ok (hr.mono (by decide)) (by rfl) c__sort_of.m c__sort_of.kp c__sort_of.b .nil pass0 (pa_cons (pv 0) (pa_cons (pv 3) pa_nil))) (pe_glob (v := .ref aN) rfl m_NUMBERS rfl) (by with_unfolding_all rfl)) (pw_or (pt_not (pt_val (pe_call c_is_whole.ok (hr.mono (by decide)) (by rfl) c_is_whole.m c_is_whole.kp c_is_whole.b .nil pass0 (pa_cons (pv 4) pa_nil)))) (pw_or1 (pt_not (pt_val (pe_call c_is_whole.ok (hr.mono (by decide)) (by rfl) c_is_whole.m c_is_whole.kp c_is_whole.b .nil pass0 (pa_cons (pv 5) pa_nil)))))))) (pss_one (ps_ret (pe_non))) (pss_nil))
      (pss_one (ps_ret (pv 0))))), ?_⟩
    obtain ⟨d0, d1, d2, rfl⟩ := len3 hl
    obtain ⟨a, xs, rfl, hx, hA⟩ := hT.asTup
    obtain ⟨x0, x1, x2, rfl, t0, t1, t2⟩ := th3 hA
    have b0 := hB d0 (by simp)
    have b1 := hB d1 (by simp)
    have b2 := hB d2 (by simp)
    replace q : Res (scaleB fs d0 d1 d2) H Q := q
    unfold scaleB at q
    refine ⟨_, rfl, a, _, rfl, hx, rfl, _, _, rfl, _, _, rfl, _, _, rfl, _, _, rfl, rfl, _, rfl, _, rfl, sd, fs, x0, d0, rfl, hF, t0, b0, aN, _, rfl, .inr (hN_ H), flat_opt _, by decide +kernel, _, rfl, ?_⟩
    rw [if_pos rfl, in_opt]
    cases hn : amongB numsL (sortOf fs d0) with
    | false =>
      rw [hn, Bool.false_and] at q
      exact iteT (iteT (q H (Same.refl H)))
    | true =>
      rw [hn, Bool.true_and] at q
      refine iteF ⟨_, rfl, x1, d1, rfl, t1, b1, fun H2 s2 => ⟨_, rfl, ?_⟩⟩
      cases hs : wholeB d1 with
      | false =>
        rw [hs, Bool.false_and] at q
        exact iteT (iteT (q H2 s2))
      | true =>
        rw [hs, Bool.true_and] at q
        refine iteF ⟨_, rfl, x2, d2, rfl, t2.kept (kept_same s2), b2, fun H3 s3 => ⟨_, rfl, ?_⟩⟩
        have s13 := s2.trans s3
        cases ho : wholeB d2 with
        | false =>
          rw [ho] at q
          exact iteT (q H3 s13)
        | true =>
          rw [ho] at q
          exact iteF ⟨_, rfl, q H3 sd s13 (s13 _ _ hF.at_)⟩
end
end St6

set_option autoImplicit false
set_option maxHeartbeats 4000000
namespace St6
open PySem PySem.Spec PyProof.Rows L2 Tg Cc Nn
theorem getF_of_none {fs : Fs} {s : Str} (h : s ∉ fs.map Prod.fst) : getF fs s = none := by
  unfold getF
  rw [List.find?_eq_none.mpr fun x hx => by
    intro e
    exact h (List.mem_map.mpr ⟨x, hx, of_decide_eq_true e⟩)]
  rfl
theorem nd_take {α β : Type} [DecidableEq β] {f : α → β} {l : List α} (h : (l.map f).Nodup) {i : Nat} {x : α} (hx : l[i]? = some x) : f x ∉ (l.take i).map f := by
  have e : l.take (i + 1) = l.take i ++ [x] := by rw [List.take_succ, hx]; rfl
  have h2 : ((l.take (i + 1)).map f).Nodup := by
    refine List.Nodup.sublist ?_ h
    exact (List.take_sublist _ _).map f
  rw [e, List.map_append, List.nodup_append] at h2
  exact fun hm => h2.2.2 _ hm _ (List.mem_singleton_self _) rfl
/-- what a walk over a locked dict leaves -/
theorem unlock {H H' : Hp} {sd D : Addr} {od : Obj} {fs : Fs} {gs : Fs} (hF : Fd H sd fs) (nD : (upd H sd (.frz od (.dK (kvsOf fs)))) D = none) (b : But D (upd H sd (.frz od (.dK (kvsOf fs)))) H') (hD : H' D = some (.dK (kvsOf gs))) :
    H' sd = some (.frz od (.dK (kvsOf fs))) ∧ Same H (upd H' sd (.dK (kvsOf fs))) ∧ (upd H' sd (.dK (kvsOf fs))) D = some (.dK (kvsOf gs)) := by
  have n1 : sd ≠ D := ne_of_none (upd_same (H := H) (a := sd) (o := .frz od (.dK (kvsOf fs)))) nD
  refine ⟨b _ _ n1 upd_same, fun c o e => ?_, by rw [upd_ne n1.symm]; exact hD⟩
  by_cases h : c = sd
  · rw [h] at e ⊢
    rw [upd_same, ← hF.at_, e]
  · rw [upd_ne h]
    have nc : c ≠ D := fun z => by
      rw [← z, upd_ne h, e] at nD
      cases nD
    exact b _ _ nc (by rw [upd_ne h]; exact e)
def ren (o n : Str) (x : Str × Str) : Str × Str := (if x.1 = o then n else x.1, x.2)
theorem ren_nd {fs : Fs} {o n : Str} (nd : (fs.map Prod.fst).Nodup) (hn : getF fs n = none) : ((fs.map (ren o n)).map Prod.fst).Nodup := by
  have hno := getF_none hn
  rw [List.map_map]
  have h2 : (fs.map Prod.fst).Pairwise (fun a b => a ≠ b) := nd
  rw [List.pairwise_map] at h2
  show ((fs.map (Prod.fst ∘ ren o n))).Pairwise (fun a b => a ≠ b)
  rw [List.pairwise_map]
  refine h2.imp_of_mem fun {x y} hx hy ne => ?_
  show (if x.1 = o then n else x.1) ≠ (if y.1 = o then n else y.1)
  by_cases e1 : x.1 = o
  · by_cases e2 : y.1 = o
    · exact absurd (e1.trans e2.symm) ne
    · rw [if_pos e1, if_neg e2]
      exact fun e => hno (List.mem_map.mpr ⟨y, hy, e.symm⟩)
  · by_cases e2 : y.1 = o
    · rw [if_neg e1, if_pos e2]
      exact fun e => hno (List.mem_map.mpr ⟨x, hx, e⟩)
    · rw [if_neg e1, if_neg e2]
      exact ne
theorem kvs_at {fs : Fs} {i : Nat} {x : Str × Str} (h : fs[i]? = some x) : (kvsOf fs)[i]? = some (Sum.inr x.1, V.str x.2) := by
  unfold Nn.kvsOf
  rw [List.getElem?_map, h]
  rfl
section
variable {P : Program} {w : World} {K : PySem.W.Frag} {mg : Str → Option Value} {base : Heap}
theorem scbdrop : FnScope ["sorts", "step", "_", "old", "field", "sort"] ["sorts", "step"] (defScope sBehindDrop) := ⟨rfl, rfl, rfl, by decide +kernel, rfl, by decide +kernel, by decide +kernel⟩
theorem ok_bdrop {f : Addr} {fd : FuncData} (F : FnP K "_behind_drop" sBehindDrop f fd) {f__sort_of : Addr} {fd__sort_of : FuncData} (c__sort_of : Cl P w K mg base CX0 "_sort_of" 1 ["sorts", "field"] (spSortOf K) f__sort_of fd__sort_of)   {rec : Fs → PyData → Except Nat Fs} : FnOk P w K mg base CX0 4 f fd ["sorts", "step"] (spLead K rec "drop" 1) := by
  refine F.ok scbdrop (fun vs H Q E h => ?_) (fun cdv A outer s H vs Q E hr h => ?_)
  · obtain ⟨sd, fs, v, r, rfl, _⟩ := h
    rfl
  · obtain ⟨sd, fs, v, r, rfl, hF, hT, hl, hB, q⟩ := h
    have hu := hu_of hr
    have hs := szl
    refine ⟨_, PSs.nox (pss_cons (ps_asg (pv 1) (pg_tup rfl (pgs_cons (pg_name (i := 2) scbdrop.nd rfl (Or.inl rfl)) (pgs_cons (pg_name (i := 3) scbdrop.nd rfl (Or.inr rfl)) (pgs_nil)))))
      (pss_cons (ps_if (pt_cmpR op_isN (pe_call c__sort_of.ok (hr.mono (by decide)) (by rfl) c__sort_of.m c__sort_of.kp c__sort_of.b .nil pass0 (pa_cons (pv 0) (pa_cons (pv 3) pa_nil))) (pe_non) (nomark _)) (pss_one (ps_ret (pe_non))) (pss_nil))
      (pss_one (ps_ret (pe_lock (pe_dc (own := [("field", 4), ("sort", 5)]) rfl scbdrop.nd (pi_items (pv 0)) (blkOk_by (own := [("field", 4), ("sort", 5)]) (N := ["sorts", "step", "_", "old", "field", "sort"]) (sc := defScope sBehindDrop) (by decide +kernel)) (fun _ _ _ _ _ => Cc.pg_tupk (K := K) (n := 2) rfl rfl (pgs_cons (pg_name (i := 4) scbdrop.nd rfl (Or.inl rfl)) (pgs_cons (pg_name (i := 5) scbdrop.nd rfl (Or.inl rfl)) (pgs_nil)))) (fun _ _ _ _ _ => pts_one (pt_cmpR op_ne (pv 4) (pv 3) (nomark _))) (fun _ _ _ _ _ => pv 4) (fun _ _ _ _ _ => pv 5))))))), ?_⟩
    obtain ⟨d0, rfl⟩ := len1 hl
    obtain ⟨a, xs, rfl, hx, hA⟩ := hT.asTup
    obtain ⟨x0, rfl, t0⟩ := th1 hA
    have b0 := hB d0 (by simp)
    replace q : Res (dropB fs d0) H Q := q
    unfold dropB at q
    refine ⟨_, rfl, a, _, rfl, hx, rfl, _, _, rfl, _, _, rfl, rfl, _, rfl, _, rfl, sd, fs, x0, d0, rfl, hF, t0, b0, rfl, _, rfl, ?_⟩
    rw [optV_non]
    cases ho : sortOf fs d0 with
    | none =>
      rw [ho] at q
      exact iteT (q H (Same.refl H))
    | some s =>
      rw [ho] at q
      obtain ⟨o, rfl, hy⟩ := sortOf_of ho
      obtain rfl := t0.asStr
      refine iteF ⟨sd, .dK (kvsOf fs), hF.at_, trivial, fun od => ⟨_, rfl, sd, od, kvsOf fs, rfl, upd_same, fun D nD => ?_⟩⟩
      refine dc_it walk_items (fun i H' => But D (upd H sd (.frz od (.dK (kvsOf fs)))) H' ∧ H' D = some (.dK (kvsOf ((fs.take i).filter fun x => !decide (x.1 = o))))) ⟨But.refl.upd, upd_same⟩ (fun i H' _ ⟨b, _⟩ => b _ _ (ne_of_none (upd_same (H := H) (a := sd) (o := .frz od (.dK (kvsOf fs)))) nD) upd_same) ?_ ?_
      · rintro i x H1 H2 hi ⟨b, hD⟩ ⟨T, x1, y1, rfl, nT, rfl, ex, ey⟩
        rw [kvsOf_len] at hi
        obtain ⟨x, hx2⟩ : ∃ x, fs[i]? = some x := ⟨_, List.getElem?_eq_getElem hi⟩
        dsimp only at ex ey
        rw [kvs_at hx2] at ex ey
        obtain rfl : V.str x.1 = x1 := Option.some.inj ex
        obtain rfl : V.str x.2 = y1 := Option.some.inj ey
        have sT := newS (o := .tup [V.str x.1, V.str x.2]) nT
        have nk := nd_take (f := Prod.fst) hF.nd hx2
        have et : (fs.take (i + 1)) = fs.take i ++ [x] := by rw [List.take_succ, hx2]; rfl
        have lim := hF.lim
        refine ⟨T, _, rfl, SqT.of upd_same, rfl, _, _, rfl, _, _, rfl, rfl, rfl, _, rfl, _, rfl, rfl, _, rfl, ite2 (fun e => ?_) (fun e => ?_)⟩
        · have ne : x.1 ≠ o := fun z => by
            rw [decide_eq_true (congrArg V.str z)] at e
            cases e
          refine ⟨_, rfl, _, rfl, _, Sum.inr x.1, rfl, sT _ _ hD, ?_, (b.same sT).upd, ?_⟩
          · have h1 : ((fs.take i).filter fun x => !decide (x.1 = o)).length ≤ i := Nat.le_trans (List.length_filter_le _ _) (by rw [List.length_take]; omega)
            rw [kvsOf_len]
            omega
          · rw [upd_same, put_of, setF_new (getF_of_none fun hm => ?_), et, List.filter_append, List.filter_cons_of_pos (by simpa using ne)]
            · rfl
            · obtain ⟨y, hy2, e2⟩ := List.mem_map.mp hm
              exact nk (List.mem_map.mpr ⟨y, (List.mem_filter.mp hy2).1, e2⟩)
        · have eq : x.1 = o := by
            have h1 : (!decide (V.str x.1 = V.str o)) = false := by simpa using e
            rw [Bool.not_eq_false'] at h1
            exact V.str.inj (of_decide_eq_true h1)
          refine ⟨b.same sT, ?_⟩
          rw [sT _ _ hD, et, List.filter_append, List.filter_cons_of_neg (by simpa using eq)]
          simp
      · rintro H' ⟨b, hD⟩
        rw [kvsOf_len, List.take_length] at hD
        obtain ⟨k1, k2, k3⟩ := unlock hF nD b hD
        exact ⟨k1, q _ _ k2 k3⟩
theorem scbrename : FnScope ["sorts", "step", "_", "old", "new", "field", "sort"] ["sorts", "step"] (defScope sBehindRename) := ⟨rfl, rfl, rfl, by decide +kernel, rfl, by decide +kernel, by decide +kernel⟩
theorem ok_brename {f : Addr} {fd : FuncData} (F : FnP K "_behind_rename" sBehindRename f fd) {f__sort_of : Addr} {fd__sort_of : FuncData} (c__sort_of : Cl P w K mg base CX0 "_sort_of" 1 ["sorts", "field"] (spSortOf K) f__sort_of fd__sort_of) {f__is_new : Addr} {fd__is_new : FuncData} (c__is_new : Cl P w K mg base CX0 "_is_new" 3 ["sorts", "field"] (spIsNew K) f__is_new fd__is_new)   {rec : Fs → PyData → Except Nat Fs} : FnOk P w K mg base CX0 4 f fd ["sorts", "step"] (spLead K rec "rename" 2) := by
  refine F.ok scbrename (fun vs H Q E h => ?_) (fun cdv A outer s H vs Q E hr h => ?_)
  · obtain ⟨sd, fs, v, r, rfl, _⟩ := h
    rfl
  · obtain ⟨sd, fs, v, r, rfl, hF, hT, hl, hB, q⟩ := h
    have hu := hu_of hr
    have hs := szl
    refine ⟨_, PSs.nox (pss_cons (ps_asg (pv 1) (pg_tup rfl (pgs_cons (pg_name (i := 2) scbrename.nd rfl (Or.inl rfl)) (pgs_cons (pg_name (i := 3) scbrename.nd rfl (Or.inr rfl)) (pgs_cons (pg_name (i := 4) scbrename.nd rfl (Or.inr rfl)) (pgs_nil))))))
      (pss_cons (ps_if (PW.pt (pw_or (pt_cmpR op_isN (pe_call c__sort_of.ok (hr.mono (by decide)) (by rfl) c__sort_of.m c__sort_of.kp c__sort_of.b .nil pass0 (pa_cons (pv 0) (pa_cons (pv 3) pa_nil))) (pe_non) (nomark _)) (pw_or1 (pt_not (pt_val (pe_call c__is_new.ok (hr.mono (by decide)) (by rfl) c__is_new.m c__is_new.kp c__is_new.b .nil pass0 (pa_cons (pv 0) (pa_cons (pv 4) pa_nil)))))))) (pss_one (ps_ret (pe_non))) (pss_nil))
      (pss_one (ps_ret (pe_lock (pe_dc (own := [("field", 5), ("sort", 6)]) (tt := tYes) rfl scbrename.nd (pi_items (pv 0)) (blkOk_by (own := [("field", 5), ("sort", 6)]) (N := ["sorts", "step", "_", "old", "new", "field", "sort"]) (sc := defScope sBehindRename) (by decide +kernel)) (fun _ _ _ _ _ => Cc.pg_tupk (K := K) (n := 2) rfl rfl (pgs_cons (pg_name (i := 5) scbrename.nd rfl (Or.inl rfl)) (pgs_cons (pg_name (i := 6) scbrename.nd rfl (Or.inl rfl)) (pgs_nil)))) (fun _ _ _ _ _ => pts_nil) (fun _ _ _ _ _ => pe_ifExp (pt_cmpR op_eq (pv 5) (pv 3) (nomark _)) (pv 4) (pv 5)) (fun _ _ _ _ _ => pv 6))))))), ?_⟩
    obtain ⟨d0, d1, rfl⟩ := len2 hl
    obtain ⟨a, xs, rfl, hx, hA⟩ := hT.asTup
    obtain ⟨x0, x1, rfl, t0, t1⟩ := th2 hA
    have b0 := hB d0 (by simp)
    have b1 := hB d1 (by simp)
    replace q : Res (renameB fs d0 d1) H Q := q
    unfold renameB at q
    refine ⟨_, rfl, a, _, rfl, hx, rfl, _, _, rfl, _, _, rfl, _, _, rfl, rfl, _, rfl, _, rfl, sd, fs, x0, d0, rfl, hF, t0, b0, rfl, _, rfl, ?_⟩
    rw [optV_non]
    cases ho : sortOf fs d0 with
    | none =>
      rw [ho] at q
      exact iteT (iteT (q H (Same.refl H)))
    | some s =>
      rw [ho] at q
      refine iteF ⟨_, rfl, _, rfl, sd, fs, x1, d1, rfl, hF, t1, b1, fun H1 s1 => ⟨_, rfl, ?_⟩⟩
      cases hn : isNewB fs d1 with
      | false =>
        rw [hn] at q
        exact iteT (q H1 s1)
      | true =>
        rw [hn] at q
        obtain ⟨n, rfl, hz⟩ := isNew_of hn
        obtain rfl := t1.asStr
        obtain ⟨o, rfl, hy⟩ := sortOf_of ho
        obtain rfl := t0.asStr
        have hF1 := hF.same s1
        have rnd := ren_nd (o := o) hF.nd hz
        rw [if_pos (show ((some s).isSome && true) = true from rfl)] at q
        replace q : Res (some (fs.map (ren o n))) H Q := q
        refine iteF ⟨sd, .dK (kvsOf fs), hF1.at_, trivial, fun od => ⟨_, rfl, sd, od, kvsOf fs, rfl, upd_same, fun D nD => ?_⟩⟩
        refine dc_it walk_items (fun i H' => But D (upd H1 sd (.frz od (.dK (kvsOf fs)))) H' ∧ H' D = some (.dK (kvsOf ((fs.take i).map (ren o n))))) ⟨But.refl.upd, upd_same⟩ (fun i H' _ ⟨b, _⟩ => b _ _ (ne_of_none (upd_same (H := H1) (a := sd) (o := .frz od (.dK (kvsOf fs)))) nD) upd_same) ?_ ?_
        · rintro i x H2 H3 hi ⟨b, hD⟩ ⟨T, x1, y1, rfl, nT, rfl, ex, ey⟩
          rw [kvsOf_len] at hi
          obtain ⟨x, hx2⟩ : ∃ x, fs[i]? = some x := ⟨_, List.getElem?_eq_getElem hi⟩
          dsimp only at ex ey
          rw [kvs_at hx2] at ex ey
          obtain rfl : V.str x.1 = x1 := Option.some.inj ex
          obtain rfl : V.str x.2 = y1 := Option.some.inj ey
          have sT := newS (o := .tup [V.str x.1, V.str x.2]) nT
          have hx3 : (fs.map (ren o n))[i]? = some (ren o n x) := by rw [List.getElem?_map, hx2]; rfl
          have nk := nd_take (f := Prod.fst) rnd hx3
          rw [← List.map_take] at nk
          have et : (fs.take (i + 1)).map (ren o n) = (fs.take i).map (ren o n) ++ [ren o n x] := by rw [List.take_succ, hx2, List.map_append]; rfl
          have lim := hF.lim
          have done : ∀ w : Str, w = (ren o n x).1 → ∃ kvs k, V.str w = kV k ∧ (upd H2 T (.tup [V.str x.1, V.str x.2])) D = some (.dK kvs) ∧ kvs.length < sizeLine ∧ But D (upd H1 sd (.frz od (.dK (kvsOf fs)))) (upd (upd H2 T (.tup [V.str x.1, V.str x.2])) D (.dK (putK kvs k (V.str x.2)))) ∧
              (upd (upd H2 T (.tup [V.str x.1, V.str x.2])) D (.dK (putK kvs k (V.str x.2)))) D = some (.dK (kvsOf ((fs.take (i + 1)).map (ren o n)))) := fun w hw => by
            refine ⟨_, Sum.inr w, rfl, sT _ _ hD, ?_, (b.same sT).upd, ?_⟩
            · rw [kvsOf_len, List.length_map, List.length_take]
              omega
            · rw [upd_same, put_of, setF_new (getF_of_none (by rw [hw]; exact nk)), et, hw]
              rfl
          refine ⟨T, _, rfl, SqT.of upd_same, rfl, _, _, rfl, _, _, rfl, rfl, rfl, _, rfl, _, rfl, rfl, _, rfl, ite2 (fun e => ?_) (fun e => ?_)⟩
          · have eq : x.1 = o := V.str.inj (of_decide_eq_true e)
            exact ⟨_, rfl, _, rfl, done n (by show n = (if x.1 = o then n else x.1); rw [if_pos eq])⟩
          · have ne : ¬ x.1 = o := fun z => e (decide_eq_true (congrArg V.str z))
            exact ⟨_, rfl, _, rfl, done x.1 (by show x.1 = (if x.1 = o then n else x.1); rw [if_neg ne])⟩
        · rintro H' ⟨b, hD⟩
          rw [kvsOf_len, List.take_length] at hD
          obtain ⟨k1, k2, k3⟩ := unlock hF1 nD b hD
          exact ⟨k1, q _ _ (s1.trans k2) k3⟩
end
end St6

set_option autoImplicit false
set_option maxHeartbeats 4000000
namespace St6
open PySem PySem.Spec PyProof.Rows L2 Tg Cc Nn
def saySigns : Str := "abcdefghijklmnopqrstuvwxyz0123456789 -"
def spSaying (K : PySem.W.Frag) : Sp := fun vs H Q _ => ∃ v d, vs = [v] ∧ Th K H v d ∧ Ok d ∧ ∀ H', Same H H' → Q (.bl (sayB d)) H'
def spPart (K : PySem.W.Frag) : Sp := fun vs H Q _ => ∃ sd fs v d, vs = [.ref sd, v] ∧ Fd H sd fs ∧ Th K H v d ∧ Ok d ∧ ∀ H', Same H H' → Q (.bl (partB fs d)) H'
theorem sayB_not {d : PyData} (h : isStr d = false) : sayB d = false := by
  cases d <;> first | rfl | cases h
theorem sumsB_not {fs : Fs} {d : PyData} (h : isTup d = false) : sumsB fs d = false := by
  cases d <;> first | rfl | cases h
theorem partsB_not {fs : Fs} {d : PyData} (h : isTup d = false) : partsB fs d = false := by
  cases d <;> first | rfl | cases h
theorem partB_not {fs : Fs} {d : PyData} (h : isTup d = false) : partB fs d = false := by
  cases d <;> first | rfl | cases h
theorem partB_len {fs : Fs} {ds : List PyData} (h : ds.length ≠ 2) : partB fs (.tuple ds) = false := by
  match ds, h with
  | [], _ => rfl
  | [a], _ => cases a <;> rfl
  | [_, _], h => exact absurd rfl h
  | a :: _ :: _ :: _, _ => cases a <;> rfl
theorem partB_word {fs : Fs} {a b : PyData} (h : isStr a = false) : partB fs (.tuple [a, b]) = false := by
  cases a <;> first | rfl | cases h
theorem tupV {K : PySem.W.Frag} {H : Hp} {t : List V} : True := trivial
theorem thAll2 {K : PySem.W.Frag} {H : Hp} {xs : List V} {a b : PyData} (h : ThAll K H xs [a, b]) : ∃ x y, xs = [x, y] ∧ Th K H x a ∧ Th K H y b := by
  obtain ⟨x0, r, rfl, t0, h⟩ := h.cons_of
  obtain ⟨x1, r, rfl, t1, h⟩ := h.cons_of
  obtain rfl := h.nil_of
  exact ⟨_, _, rfl, t0, t1⟩
section
variable {P : Program} {w : World} {K : PySem.W.Frag} {mg : Str → Option Value} {base : Heap}
theorem scsaying : FnScope ["thing", "sign"] ["thing"] (defScope sIsSaying) := ⟨rfl, rfl, rfl, by decide +kernel, rfl, by decide +kernel, by decide +kernel⟩
theorem ok_saying {f : Addr} {fd : FuncData} (F : FnP K "_is_saying" sIsSaying f fd)  (mb_isinstance : mg "isinstance" = none) (mb_str : mg "str" = none) (mb_len : mg "len" = none) (mb_all : mg "all" = none) {uL : Value} (m_LONGEST_SAYING : mg "LONGEST_SAYING" = some uL) (h_uL : RelV (.int 12) uL) {uS : Value} (m_SAYING_SIGNS : mg "SAYING_SIGNS" = some uS) (h_uS : RelV (.str saySigns) uS)  : FnOk P w K mg base CX0 1 f fd ["thing"] (spSaying K) := by
  refine F.ok scsaying (fun vs H Q E h => ?_) (fun cdv A outer s H vs Q E hr h => ?_)
  · obtain ⟨v, d, rfl, _⟩ := h
    rfl
  · obtain ⟨v, d, rfl, hT, hB, q⟩ := h
    have hu := hu_of hr
    refine ⟨_, PSs.nox (pss_cons (ps_if (PW.pt (pw_or (pt_not (pt_val (pe_callB call_isi (by rfl) mb_isinstance (by decide +kernel) (pa_cons (pv 0) (pa_cons (pe_bltn (v := .ty "str") (by rfl) mb_str (by decide +kernel) rfl) pa_nil))))) (pw_or1 (pt_not (pt_chain op_le op_le (pe_int) (pe_callB call_len_str (by rfl) mb_len (by decide +kernel) (pa_cons (pv 0) pa_nil)) (pe_glob rfl m_LONGEST_SAYING h_uL)))))) (pss_one (ps_ret (pe_bl))) (pss_nil))
      (pss_one (ps_ret (pe_callB (cr_all rfl) (by rfl) mb_all (by decide +kernel) (pa_cons (pe_lc (own := [("sign", 1)]) (g := gName 1) (tt := tYes) rfl scsaying.nd (pi_str (pv 0)) (blkOk_by (own := [("sign", 1)]) (N := ["thing", "sign"]) (sc := defScope sIsSaying) (by decide +kernel)) (fun _ _ _ _ _ => pg_name (i := 1) scsaying.nd rfl (Or.inl rfl)) (fun _ _ _ _ _ => pts_nil) (fun _ _ _ _ _ => pe_cmpR op_in_sign (pv 1) (pe_glob rfl m_SAYING_SIGNS h_uS) (by with_unfolding_all rfl))) pa_nil))))), ?_⟩
    refine ⟨_, rfl, v, .ty "str", _, _, _, rfl, .ty "str", hT.ty, kit_ty (kit_str d), _, rfl, ?_⟩
    cases hs : isStr d with
    | false =>
      refine iteT (iteT ?_)
      have e := q H (Same.refl H)
      rw [sayB_not hs] at e
      exact e
    | true =>
      obtain ⟨z, rfl⟩ := isStr_eq hs
      obtain rfl := hT.asStr
      have hz := (bd_str.mp hB).1
      refine iteF ⟨_, rfl, z, rfl, lineN hz, _, _, rfl, rfl, _, rfl, ?_⟩
      have val : sayB (.str z) = ((decide (1 ≤ z.length) && decide (z.length ≤ 12)) && z.cps.toList.all sayC) := rfl
      refine ite2 (fun e1 => ⟨_, _, rfl, rfl, _, rfl, ite2 (fun e2 => ?_) (fun e2 => ?_)⟩) (fun e1 => ⟨_, rfl, iteT ?_⟩)
      · have c2 : ¬ z.length ≤ 12 := fun y => by
          rw [decide_eq_true (show (z.length : Int) ≤ (12 : Int) by omega)] at e2
          cases e2
        have e := q H (Same.refl H)
        rw [val, decide_eq_false c2, Bool.and_false, Bool.false_and] at e
        exact e
      · have c1 : 1 ≤ z.length := by
          have := of_decide_eq_true e1
          omega
        have c2 : z.length ≤ 12 := by
          have : (!decide ((z.length : Int) ≤ (12 : Int))) = false := by simpa using e2
          rw [Bool.not_eq_false'] at this
          have := of_decide_eq_true this
          omega
        rw [val, decide_eq_true c1, decide_eq_true c2, Bool.true_and, Bool.true_and] at q
        refine ⟨_, rfl, z, rfl, fun D nD => ?_⟩
        refine lc_acc (walk_str (z := z)) (fun i acc H' => But D H H' ∧ acc = (z.cps.toList.take i).map fun c => V.bl (sayC c)) ⟨But.refl.upd, rfl⟩ (fun _ _ _ _ _ _ => trivial) ?_ ?_
        · rintro i x acc H1 H2 hi la ⟨b, ea⟩ hD ⟨rfl, c, hc, rfl⟩
          have hc2 : z.cps.toList[i]? = some c := by rw [Array.getElem?_toList]; exact hc
          have hl : z.length = z.cps.size := rfl
          refine ⟨rfl, _, rfl, c, saySigns, rfl, rfl, push hD la (by omega) ⟨b.upd, ?_⟩⟩
          rw [ea, List.take_succ, hc2, List.map_append]
          rfl
        · rintro acc H' la ⟨b, rfl⟩ hD
          rw [List.take_of_length_le (by rw [Array.length_toList]; exact Nat.le_refl _)] at hD
          refine ⟨D, z.cps.toList.map sayC, rfl, SqL.of (by rw [hD, List.map_map]; rfl), ?_⟩
          rw [List.all_map]
          exact q H' (b.new nD)
      · have c1 : ¬ 1 ≤ z.length := fun y => e1 (decide_eq_true (by omega))
        have e := q H (Same.refl H)
        rw [val, decide_eq_false c1, Bool.false_and, Bool.false_and] at e
        exact e
theorem scpart : FnScope ["sorts", "part", "word", "thing"] ["sorts", "part"] (defScope sIsPart) := ⟨rfl, rfl, rfl, by decide +kernel, rfl, by decide +kernel, by decide +kernel⟩
theorem ok_part {f : Addr} {fd : FuncData} (F : FnP K "_is_part" sIsPart f fd) {f__is_saying : Addr} {fd__is_saying : FuncData} (c__is_saying : Cl P w K mg base CX0 "_is_saying" 1 ["thing"] (spSaying K) f__is_saying fd__is_saying) {f__sort_of : Addr} {fd__sort_of : FuncData} (c__sort_of : Cl P w K mg base CX0 "_sort_of" 1 ["sorts", "field"] (spSortOf K) f__sort_of fd__sort_of) (mb_isinstance : mg "isinstance" = none) (mb_str : mg "str" = none) (mb_len : mg "len" = none) (mb_tuple : mg "tuple" = none) {aJ : Addr} (m_JOINED : mg "JOINED" = some (.ref aJ)) (hJ_ : ∀ H, SqT K H aJ (joinL.map V.str))  : FnOk P w K mg base CX0 2 f fd ["sorts", "part"] (spPart K) := by
  refine F.ok scpart (fun vs H Q E h => ?_) (fun cdv A outer s H vs Q E hr h => ?_)
  · obtain ⟨sd, fs, v, d, rfl, _⟩ := h
    rfl
  · obtain ⟨sd, fs, v, d, rfl, hF, hT, hB, q⟩ := h
    have hu := hu_of hr
    refine ⟨_, PSs.nox (pss_cons (ps_if (PW.pt (pw_or (pt_not (pt_val (pe_callB call_isi (by rfl) mb_isinstance (by decide +kernel) (pa_cons (pv 1) (pa_cons (pe_bltn (v := .ty "tuple") (by rfl) mb_tuple (by decide +kernel) rfl) pa_nil))))) (pw_or1 (pt_cmpR op_ne (pe_callB call_len (by rfl) mb_len (by decide +kernel) (pa_cons (pv 1) pa_nil)) (pe_int) (nomark _))))) (pss_one (ps_ret (pe_bl))) (pss_nil))
      (pss_cons (ps_asg (pv 1) (pg_tup rfl (pgs_cons (pg_name (i := 2) scpart.nd rfl (Or.inl rfl)) (pgs_cons (pg_name (i := 3) scpart.nd rfl (Or.inl rfl)) (pgs_nil)))))
      (pss_cons (ps_if (pt_not (pt_val (pe_callB call_isi (by rfl) mb_isinstance (by decide +kernel) (pa_cons (pv 2) (pa_cons (pe_bltn (v := .ty "str") (by rfl) mb_str (by decide +kernel) rfl) pa_nil))))) (pss_one (ps_ret (pe_bl))) (pss_nil))
      (pss_cons (ps_if (pt_cmpR op_eq (pv 2) (pe_str) (nomark _)) (pss_one (ps_ret (pe_call c__is_saying.ok (hr.mono (by decide)) (by rfl) c__is_saying.m c__is_saying.kp c__is_saying.b .nil pass0 (pa_cons (pv 3) pa_nil)))) (pss_nil))
      (pss_one (ps_ret (pe_and (pe_cmpR op_eq (pv 2) (pe_str) (nomark _)) (pe_one (pe_cmpR op_in_seq (pe_call c__sort_of.ok (hr.mono (by decide)) (by rfl) c__sort_of.m c__sort_of.kp c__sort_of.b .nil pass0 (pa_cons (pv 0) (pa_cons (pv 3) pa_nil))) (pe_glob (v := .ref aJ) rfl m_JOINED rfl) (by with_unfolding_all rfl)))))))))), ?_⟩
    refine ⟨_, rfl, v, .ty "tuple", _, _, _, rfl, .ty "tuple", hT.ty, kit_ty (kit_tup d), _, rfl, ?_⟩
    cases ht : isTup d with
    | false =>
      have e := q H (Same.refl H)
      rw [partB_not ht] at e
      exact iteT (iteT e)
    | true =>
      obtain ⟨ds, rfl⟩ := isTup_eq ht
      obtain ⟨a, xs, rfl, hx, hA⟩ := hT.asTup
      have lx := hA.len
      have bs := (Bd.tup hB).2
      refine iteF ⟨_, rfl, _, _, rfl, .inr ⟨_, hx, rfl⟩, rfl, _, rfl, ite2 (fun e => ?_) (fun e => ?_)⟩
      · have ne : ds.length ≠ 2 := fun z => by
          rw [dec_int, decide_eq_true (show (xs.length : Int) = 2 by omega)] at e
          cases e
        have e2 := q H (Same.refl H)
        rw [partB_len ne] at e2
        exact e2
      · have e2 : xs.length = 2 := by
          have e3 : (!decide (V.int (xs.length : Nat) = V.int 2)) = false := by simpa using e
          rw [dec_int, Bool.not_eq_false'] at e3
          have := of_decide_eq_true e3
          omega
        obtain ⟨d0, d1, rfl⟩ := len2 (lx.symm.trans e2)
        obtain ⟨x0, x1, rfl, t0, t1⟩ := thAll2 hA
        refine ⟨_, rfl, a, _, rfl, hx, rfl, _, _, rfl, _, _, rfl, rfl, ?_⟩
        refine ⟨_, rfl, x0, .ty "str", _, _, _, rfl, .ty "str", t0.ty, kit_ty (kit_str d0), _, rfl, ?_⟩
        cases hs : isStr d0 with
        | false =>
          have e := q H (Same.refl H)
          rw [partB_word hs] at e
          exact iteT e
        | true =>
          obtain ⟨w, rfl⟩ := isStr_eq hs
          obtain rfl := t0.asStr
          have b1 := bs d1 (by simp)
          have val : partB fs (.tuple [.str w, d1]) = if w = "say" then sayB d1 else (decide (w = "field") && amongB joinL (sortOf fs d1)) := rfl
          rw [val] at q
          refine iteF ⟨_, rfl, rfl, _, rfl, ite2 (fun e => ?_) (fun e => ?_)⟩
          · rw [dec_str] at e
            rw [if_pos (of_decide_eq_true e)] at q
            exact ⟨_, rfl, x1, d1, rfl, t1, b1, q⟩
          · rw [dec_str] at e
            rw [if_neg (fun z => e (decide_eq_true z))] at q
            refine ⟨_, rfl, rfl, _, rfl, ite2 (fun e3 => ?_) (fun e3 => ?_)⟩
            · rw [dec_str] at e3
              rw [decide_eq_true (of_decide_eq_true e3), Bool.true_and] at q
              refine ⟨_, rfl, _, rfl, sd, fs, x1, d1, rfl, hF, t1, b1, aJ, _, rfl, .inr (hJ_ H), flat_opt _, by decide +kernel, ?_⟩
              rw [if_neg (by decide), in_opt]
              exact q H (Same.refl H)
            · rw [dec_str] at e3
              have n3 : ¬ w = "field" := fun z => e3 (decide_eq_true z)
              rw [decide_eq_false n3, Bool.false_and] at q
              exact q H (Same.refl H)
theorem scbsum : FnScope ["sorts", "step", "_", "new", "fields", "field"] ["sorts", "step"] (defScope sBehindSum) := ⟨rfl, rfl, rfl, by decide +kernel, rfl, by decide +kernel, by decide +kernel⟩
theorem ok_bsum {f : Addr} {fd : FuncData} (F : FnP K "_behind_sum" sBehindSum f fd) {f__is_new : Addr} {fd__is_new : FuncData} (c__is_new : Cl P w K mg base CX0 "_is_new" 3 ["sorts", "field"] (spIsNew K) f__is_new fd__is_new) {f__sort_of : Addr} {fd__sort_of : FuncData} (c__sort_of : Cl P w K mg base CX0 "_sort_of" 1 ["sorts", "field"] (spSortOf K) f__sort_of fd__sort_of) (mb_isinstance : mg "isinstance" = none) (mb_tuple : mg "tuple" = none) (mb_len : mg "len" = none) (mb_all : mg "all" = none) {uM : Value} (m_MOST_SUMMED : mg "MOST_SUMMED" = some uM) (h_uM : RelV (.int 6) uM) {aN : Addr} (m_NUMBERS : mg "NUMBERS" = some (.ref aN)) (hN_ : ∀ H, SqT K H aN (numsL.map V.str)) {rec : Fs → PyData → Except Nat Fs} : FnOk P w K mg base CX0 4 f fd ["sorts", "step"] (spLead K rec "sum" 2) := by
  refine F.ok scbsum (fun vs H Q E h => ?_) (fun cdv A outer s H vs Q E hr h => ?_)
  · obtain ⟨sd, fs, v, r, rfl, _⟩ := h
    rfl
  · obtain ⟨sd, fs, v, r, rfl, hF, hT, hl, hB, q⟩ := h
    have hu := hu_of hr
    have hs := szl
    refine ⟨_, PSs.nox (pss_cons (ps_asg (pv 1) (pg_tup rfl (pgs_cons (pg_name (i := 2) scbsum.nd rfl (Or.inl rfl)) (pgs_cons (pg_name (i := 3) scbsum.nd rfl (Or.inl rfl)) (pgs_cons (pg_name (i := 4) scbsum.nd rfl (Or.inl rfl)) (pgs_nil))))))
      (pss_cons (ps_if (PW.pt (pw_or (pt_not (pt_val (pe_call c__is_new.ok (hr.mono (by decide)) (by rfl) c__is_new.m c__is_new.kp c__is_new.b .nil pass0 (pa_cons (pv 0) (pa_cons (pv 3) pa_nil))))) (pw_or (pt_not (pt_val (pe_callB call_isi (by rfl) mb_isinstance (by decide +kernel) (pa_cons (pv 4) (pa_cons (pe_bltn (v := .ty "tuple") (by rfl) mb_tuple (by decide +kernel) rfl) pa_nil))))) (pw_or1 (pt_not (pt_chain op_le op_le (pe_int) (pe_callB call_len (by rfl) mb_len (by decide +kernel) (pa_cons (pv 4) pa_nil)) (pe_glob rfl m_MOST_SUMMED h_uM))))))) (pss_one (ps_ret (pe_non))) (pss_nil))
      (pss_cons (ps_if (pt_not (pt_val (pe_callB (cr_all rfl) (by rfl) mb_all (by decide +kernel) (pa_cons (pe_lc (own := [("field", 5)]) (g := gName 5) (tt := tYes) rfl scbsum.nd (pi_tup (pv 4)) (blkOk_by (own := [("field", 5)]) (N := ["sorts", "step", "_", "new", "fields", "field"]) (sc := defScope sBehindSum) (by decide +kernel)) (fun _ _ _ _ _ => pg_name (i := 5) scbsum.nd rfl (Or.inl rfl)) (fun _ _ _ _ _ => pts_nil) (fun _ _ _ _ _ => pe_cmpR (Nn.op_inSk (K := K) rfl) (pe_call c__sort_of.ok (hr.mono (by decide)) (by rfl) c__sort_of.m c__sort_of.kp c__sort_of.b .nil pass0 (pa_cons (pv 0) (pa_cons (pv 5) pa_nil))) (pe_glob (v := .ref aN) rfl m_NUMBERS rfl) (by with_unfolding_all rfl))) pa_nil)))) (pss_one (ps_ret (pe_non))) (pss_nil))
      (pss_one (ps_ret (Nn.pe_dstar (pv 0) (pv 3) (pe_str))))))), ?_⟩
    obtain ⟨d0, d1, rfl⟩ := len2 hl
    obtain ⟨a, xs, rfl, hx, hA⟩ := hT.asTup
    obtain ⟨x0, x1, rfl, t0, t1⟩ := th2 hA
    have b0 := hB d0 (by simp)
    have b1 := hB d1 (by simp)
    replace q : Res (sumB fs d0 d1) H Q := q
    unfold sumB at q
    refine ⟨_, rfl, a, _, rfl, hx, rfl, _, _, rfl, _, _, rfl, _, _, rfl, rfl, _, rfl, _, rfl, sd, fs, x0, d0, rfl, hF, t0, b0, fun H1 s1 => ⟨_, rfl, ?_⟩⟩
    cases hn : isNewB fs d0 with
    | false =>
      rw [hn, Bool.false_and] at q
      exact iteT (iteT (q H1 s1))
    | true =>
      rw [hn, Bool.true_and] at q
      have t1 := t1.kept (kept_same s1)
      have hF1 := hF.same s1
      have no : sumsB fs d1 = false → ∀ H2, Same H1 H2 → Q .non H2 := fun hf H2 s2 => by
        rw [hf] at q
        exact q H2 (s1.trans s2)
      refine iteF ⟨_, rfl, x1, .ty "tuple", _, _, _, rfl, .ty "tuple", t1.ty, kit_ty (kit_tup d1), _, rfl, ?_⟩
      cases ht : isTup d1 with
      | false => exact iteT (iteT (no (sumsB_not ht) H1 (Same.refl H1)))
      | true =>
        obtain ⟨ds, rfl⟩ := isTup_eq ht
        obtain ⟨p, ys, rfl, hy, hY⟩ := t1.asTup
        have ly := hY.len
        have bs := (Bd.tup b1).2
        have val : sumsB fs (.tuple ds) = (decide (1 ≤ ds.length) && decide (ds.length ≤ 6) && ds.all (fun f => amongB numsL (sortOf fs f))) := rfl
        refine iteF ⟨_, rfl, _, _, rfl, .inr ⟨_, hy, rfl⟩, _, _, rfl, rfl, _, rfl, ite2 (fun e1 => ⟨_, _, rfl, rfl, _, rfl, ite2 (fun e2 => ?_) (fun e2 => ?_)⟩) (fun e1 => ⟨_, rfl, iteT (no ?_ H1 (Same.refl H1))⟩)⟩
        · have c2 : ¬ ds.length ≤ 6 := fun y => by
            rw [decide_eq_true (show (ys.length : Int) ≤ (6 : Int) by omega)] at e2
            cases e2
          exact no (by rw [val, decide_eq_false c2, Bool.and_false, Bool.false_and]) H1 (Same.refl H1)
        · have c1 : 1 ≤ ds.length := by
            have := of_decide_eq_true e1
            omega
          have c2 : ds.length ≤ 6 := by
            have : (!decide ((ys.length : Int) ≤ (6 : Int))) = false := by simpa using e2
            rw [Bool.not_eq_false'] at this
            have := of_decide_eq_true this
            omega
          rw [decide_eq_true c1, decide_eq_true c2, Bool.true_and, Bool.true_and] at val
          rw [val] at q no
          refine ⟨_, rfl, p, rfl, ⟨_, hy⟩, fun D nD => ?_⟩
          refine lc_acc (walk_tup (K := K) (a := p) (xs := ys)) (fun i acc H' => But D H1 H' ∧ acc = (ds.take i).map fun f => V.bl ((fun f => amongB numsL (sortOf fs f)) f)) ⟨But.refl.upd, rfl⟩ (fun i acc H' _ ⟨b, _⟩ _ => Sq.same (t := true) hy (b.new nD)) ?_ ?_
          · rintro i x acc H2 H3 hi la ⟨b, ea⟩ hD ⟨rfl, hx2⟩
            obtain ⟨d, hd, td, md⟩ := ThAll.get2 hY hx2
            have s2 := b.new nD
            have et : (ds.take (i + 1)).map (fun f => V.bl ((fun f => amongB numsL (sortOf fs f)) f)) = (ds.take i).map (fun f => V.bl ((fun f => amongB numsL (sortOf fs f)) f)) ++ [V.bl ((fun f => amongB numsL (sortOf fs f)) d)] := by rw [List.take_succ, hd, List.map_append]; rfl
            refine ⟨rfl, _, rfl, _, rfl, sd, fs, x, d, rfl, hF1.same s2, td.kept (kept_same s2), bs d md, aN, _, rfl, .inr (hN_ _), flat_opt _, by decide +kernel, ?_⟩
            rw [if_neg (by decide), in_opt]
            exact push hD la (by omega) ⟨b.upd, by rw [ea, et]⟩
          · rintro acc H2 la ⟨b, rfl⟩ hD
            rw [ly, List.take_length] at hD
            have s2 := b.new nD
            refine ⟨D, ds.map (fun f => amongB numsL (sortOf fs f)), rfl, SqL.of (by rw [hD, List.map_map]; rfl), _, rfl, ?_⟩
            rw [List.all_map]
            replace q : Res (if ds.all (fun f => amongB numsL (sortOf fs f)) = true then some (fs ++ [(txtOf d0, ("amount" : Str))]) else none) H Q := q
            show if (!(ds.all (fun f => amongB numsL (sortOf fs f)))) = true then _ else _
            cases hall : ds.all (fun f => amongB numsL (sortOf fs f)) with
            | false => exact iteT (no hall H2 s2)
            | true =>
              rw [hall, if_pos rfl] at q
              obtain ⟨z, rfl, hz⟩ := isNew_of hn
              obtain rfl := t0.asStr
              refine iteF (star_goes (hF1.same s2) (fun _ _ k => ⟨_, rfl, k⟩) (fun _ _ k => ⟨_, rfl, k⟩) (fun H' k s3 hk => hk) (fun H' p s3 e => q H' p ((s1.trans s2).trans s3) ?_))
              rw [e, setF_new hz]
              rfl
        · have c1 : ¬ 1 ≤ ds.length := fun y => e1 (decide_eq_true (by omega))
          rw [val, decide_eq_false c1, Bool.false_and, Bool.false_and]
theorem scbjoin : FnScope ["sorts", "step", "_", "new", "parts", "part"] ["sorts", "step"] (defScope sBehindJoin) := ⟨rfl, rfl, rfl, by decide +kernel, rfl, by decide +kernel, by decide +kernel⟩
theorem ok_bjoin {f : Addr} {fd : FuncData} (F : FnP K "_behind_join" sBehindJoin f fd) {f__is_new : Addr} {fd__is_new : FuncData} (c__is_new : Cl P w K mg base CX0 "_is_new" 3 ["sorts", "field"] (spIsNew K) f__is_new fd__is_new) {f__is_part : Addr} {fd__is_part : FuncData} (c__is_part : Cl P w K mg base CX0 "_is_part" 2 ["sorts", "part"] (spPart K) f__is_part fd__is_part) (mb_isinstance : mg "isinstance" = none) (mb_tuple : mg "tuple" = none) (mb_len : mg "len" = none) (mb_all : mg "all" = none) {uM : Value} (m_MOST_PARTS : mg "MOST_PARTS" = some uM) (h_uM : RelV (.int 8) uM) {rec : Fs → PyData → Except Nat Fs} : FnOk P w K mg base CX0 4 f fd ["sorts", "step"] (spLead K rec "join" 2) := by
  refine F.ok scbjoin (fun vs H Q E h => ?_) (fun cdv A outer s H vs Q E hr h => ?_)
  · obtain ⟨sd, fs, v, r, rfl, _⟩ := h
    rfl
  · obtain ⟨sd, fs, v, r, rfl, hF, hT, hl, hB, q⟩ := h
    have hu := hu_of hr
    have hs := szl
    refine ⟨_, PSs.nox (pss_cons (ps_asg (pv 1) (pg_tup rfl (pgs_cons (pg_name (i := 2) scbjoin.nd rfl (Or.inl rfl)) (pgs_cons (pg_name (i := 3) scbjoin.nd rfl (Or.inl rfl)) (pgs_cons (pg_name (i := 4) scbjoin.nd rfl (Or.inl rfl)) (pgs_nil))))))
      (pss_cons (ps_if (PW.pt (pw_or (pt_not (pt_val (pe_call c__is_new.ok (hr.mono (by decide)) (by rfl) c__is_new.m c__is_new.kp c__is_new.b .nil pass0 (pa_cons (pv 0) (pa_cons (pv 3) pa_nil))))) (pw_or (pt_not (pt_val (pe_callB call_isi (by rfl) mb_isinstance (by decide +kernel) (pa_cons (pv 4) (pa_cons (pe_bltn (v := .ty "tuple") (by rfl) mb_tuple (by decide +kernel) rfl) pa_nil))))) (pw_or1 (pt_not (pt_chain op_le op_le (pe_int) (pe_callB call_len (by rfl) mb_len (by decide +kernel) (pa_cons (pv 4) pa_nil)) (pe_glob rfl m_MOST_PARTS h_uM))))))) (pss_one (ps_ret (pe_non))) (pss_nil))
      (pss_cons (ps_if (pt_not (pt_val (pe_callB (cr_all rfl) (by rfl) mb_all (by decide +kernel) (pa_cons (pe_lc (own := [("part", 5)]) (g := gName 5) (tt := tYes) rfl scbjoin.nd (pi_tup (pv 4)) (blkOk_by (own := [("part", 5)]) (N := ["sorts", "step", "_", "new", "parts", "part"]) (sc := defScope sBehindJoin) (by decide +kernel)) (fun _ _ _ _ _ => pg_name (i := 5) scbjoin.nd rfl (Or.inl rfl)) (fun _ _ _ _ _ => pts_nil) (fun _ _ _ _ _ => pe_call c__is_part.ok (hr.mono (by decide)) (by rfl) c__is_part.m c__is_part.kp c__is_part.b .nil pass0 (pa_cons (pv 0) (pa_cons (pv 5) pa_nil)))) pa_nil)))) (pss_one (ps_ret (pe_non))) (pss_nil))
      (pss_one (ps_ret (Nn.pe_dstar (pv 0) (pv 3) (pe_str))))))), ?_⟩
    obtain ⟨d0, d1, rfl⟩ := len2 hl
    obtain ⟨a, xs, rfl, hx, hA⟩ := hT.asTup
    obtain ⟨x0, x1, rfl, t0, t1⟩ := th2 hA
    have b0 := hB d0 (by simp)
    have b1 := hB d1 (by simp)
    replace q : Res (joinB fs d0 d1) H Q := q
    unfold joinB at q
    refine ⟨_, rfl, a, _, rfl, hx, rfl, _, _, rfl, _, _, rfl, _, _, rfl, rfl, _, rfl, _, rfl, sd, fs, x0, d0, rfl, hF, t0, b0, fun H1 s1 => ⟨_, rfl, ?_⟩⟩
    cases hn : isNewB fs d0 with
    | false =>
      rw [hn, Bool.false_and] at q
      exact iteT (iteT (q H1 s1))
    | true =>
      rw [hn, Bool.true_and] at q
      have t1 := t1.kept (kept_same s1)
      have hF1 := hF.same s1
      have no : partsB fs d1 = false → ∀ H2, Same H1 H2 → Q .non H2 := fun hf H2 s2 => by
        rw [hf] at q
        exact q H2 (s1.trans s2)
      refine iteF ⟨_, rfl, x1, .ty "tuple", _, _, _, rfl, .ty "tuple", t1.ty, kit_ty (kit_tup d1), _, rfl, ?_⟩
      cases ht : isTup d1 with
      | false => exact iteT (iteT (no (partsB_not ht) H1 (Same.refl H1)))
      | true =>
        obtain ⟨ds, rfl⟩ := isTup_eq ht
        obtain ⟨p, ys, rfl, hy, hY⟩ := t1.asTup
        have ly := hY.len
        have bs := (Bd.tup b1).2
        have val : partsB fs (.tuple ds) = (decide (1 ≤ ds.length) && decide (ds.length ≤ 8) && ds.all (partB fs)) := rfl
        refine iteF ⟨_, rfl, _, _, rfl, .inr ⟨_, hy, rfl⟩, _, _, rfl, rfl, _, rfl, ite2 (fun e1 => ⟨_, _, rfl, rfl, _, rfl, ite2 (fun e2 => ?_) (fun e2 => ?_)⟩) (fun e1 => ⟨_, rfl, iteT (no ?_ H1 (Same.refl H1))⟩)⟩
        · have c2 : ¬ ds.length ≤ 8 := fun y => by
            rw [decide_eq_true (show (ys.length : Int) ≤ (8 : Int) by omega)] at e2
            cases e2
          exact no (by rw [val, decide_eq_false c2, Bool.and_false, Bool.false_and]) H1 (Same.refl H1)
        · have c1 : 1 ≤ ds.length := by
            have := of_decide_eq_true e1
            omega
          have c2 : ds.length ≤ 8 := by
            have : (!decide ((ys.length : Int) ≤ (8 : Int))) = false := by simpa using e2
            rw [Bool.not_eq_false'] at this
            have := of_decide_eq_true this
            omega
          rw [decide_eq_true c1, decide_eq_true c2, Bool.true_and, Bool.true_and] at val
          rw [val] at q no
          refine ⟨_, rfl, p, rfl, ⟨_, hy⟩, fun D nD => ?_⟩
          refine lc_acc (walk_tup (K := K) (a := p) (xs := ys)) (fun i acc H' => But D H1 H' ∧ acc = (ds.take i).map fun f => V.bl ((partB fs) f)) ⟨But.refl.upd, rfl⟩ (fun i acc H' _ ⟨b, _⟩ _ => Sq.same (t := true) hy (b.new nD)) ?_ ?_
          · rintro i x acc H2 H3 hi la ⟨b, ea⟩ hD ⟨rfl, hx2⟩
            obtain ⟨d, hd, td, md⟩ := ThAll.get2 hY hx2
            have s2 := b.new nD
            have et : (ds.take (i + 1)).map (fun f => V.bl ((partB fs) f)) = (ds.take i).map (fun f => V.bl ((partB fs) f)) ++ [V.bl ((partB fs) d)] := by rw [List.take_succ, hd, List.map_append]; rfl
            refine ⟨rfl, _, rfl, _, rfl, sd, fs, x, d, rfl, hF1.same s2, td.kept (kept_same s2), bs d md, fun H4 s4 => ?_⟩
            exact push (s4 _ _ hD) la (by omega) ⟨(b.same s4).upd, by rw [ea, et]⟩
          · rintro acc H2 la ⟨b, rfl⟩ hD
            rw [ly, List.take_length] at hD
            have s2 := b.new nD
            refine ⟨D, ds.map (partB fs), rfl, SqL.of (by rw [hD, List.map_map]; rfl), _, rfl, ?_⟩
            rw [List.all_map]
            replace q : Res (if ds.all (partB fs) = true then some (fs ++ [(txtOf d0, ("text" : Str))]) else none) H Q := q
            show if (!(ds.all (partB fs))) = true then _ else _
            cases hall : ds.all (partB fs) with
            | false => exact iteT (no hall H2 s2)
            | true =>
              rw [hall, if_pos rfl] at q
              obtain ⟨z, rfl, hz⟩ := isNew_of hn
              obtain rfl := t0.asStr
              refine iteF (star_goes (hF1.same s2) (fun _ _ k => ⟨_, rfl, k⟩) (fun _ _ k => ⟨_, rfl, k⟩) (fun H' k s3 hk => hk) (fun H' p s3 e => q H' p ((s1.trans s2).trans s3) ?_))
              rw [e, setF_new hz]
              rfl
        · have c1 : ¬ 1 ≤ ds.length := fun y => e1 (decide_eq_true (by omega))
          rw [val, decide_eq_false c1, Bool.false_and, Bool.false_and]
end
end St6

set_option autoImplicit false
set_option maxHeartbeats 4000000
namespace St6
open PySem PySem.Spec PyProof.Rows L2 Tg Cc Nn Ys
/-- the keys that were met: S and m tell them -/
structure MetK (ks : List Key) (i : Nat) (S : Key → Bool) (m : Nat) : Prop where
  has : ∀ k, S k = true ↔ k ∈ ks.take i
  le : m ≤ i
  all : (ks.take i).Nodup → m = i
  few : ¬ (ks.take i).Nodup → m < i
theorem MetK.zero {ks : List Key} : MetK ks 0 (fun _ => false) 0 := ⟨fun k => ⟨fun h => (Bool.false_ne_true h).elim, fun h => by simp at h⟩, Nat.le_refl _, fun _ => rfl, fun h => absurd (by simp) h⟩
theorem MetK.next {ks : List Key} {i : Nat} {S : Key → Bool} {m : Nat} (h : MetK ks i S m) {k : Key} (hk : ks[i]? = some k) :
    MetK ks (i + 1) (fun j => S j || decide (j = k)) (if S k = true then m else m + 1) := by
  have et : ks.take (i + 1) = ks.take i ++ [k] := by rw [List.take_succ, hk]; rfl
  have nd : (ks.take (i + 1)).Nodup ↔ (ks.take i).Nodup ∧ k ∉ ks.take i := by
    rw [et, List.nodup_append]
    constructor
    · exact fun h => ⟨h.1, fun hm => h.2.2 _ hm _ (List.mem_singleton_self _) rfl⟩
    · refine fun h => ⟨h.1, by simp, fun a ha b hb => ?_⟩
      have : b = k := by simpa using hb
      subst this
      exact fun e => h.2 (by rw [← e]; exact ha)
  have hl := h.le
  refine ⟨fun j => ?_, ?_, fun hn => ?_, fun hn => ?_⟩
  · show (S j || decide (j = k)) = true ↔ _
    rw [Bool.or_eq_true, h.has, et, List.mem_append, List.mem_singleton, decide_eq_true_eq]
  · split <;> omega
  · obtain ⟨h1, h2⟩ := nd.mp hn
    have e := h.all h1
    rw [if_neg fun z => h2 ((h.has k).mp z)]
    omega
  · by_cases hm : k ∈ ks.take i
    · rw [if_pos ((h.has k).mpr hm)]
      omega
    · have h1 : ¬ (ks.take i).Nodup := fun z => hn (nd.mpr ⟨z, hm⟩)
      have := h.few h1
      rw [if_neg fun z => hm ((h.has k).mp z)]
      omega
theorem MetK.end {ks : List Key} {S : Key → Bool} {m : Nat} (h : MetK ks ks.length S m) : decide ((m : Int) = (ks.length : Int)) = decide ks.Nodup := by
  have ht : ks.take ks.length = ks := List.take_length
  by_cases hn : ks.Nodup
  · have := h.all (by rw [ht]; exact hn)
    rw [decide_eq_true hn, decide_eq_true (by omega)]
  · have := h.few (by rw [ht]; exact hn)
    rw [decide_eq_false hn, decide_eq_false (by omega)]
def spRow (K : PySem.W.Frag) : Sp := fun vs H Q _ => ∃ v d e s, vs = [v, .str e, .str s] ∧ Th K H v d ∧ Ok d ∧ ∀ H', Same H H' → Q (.bl (rowB e s d)) H'
def spRows (K : PySem.W.Frag) : Sp := fun vs H Q _ => ∃ v d e s, vs = [v, .str e, .str s] ∧ Th K H v d ∧ Ok d ∧ e ∈ testL ∧ ∀ H', Same H H' → Q (.bl (rowsB e s d)) H'
def spOther (K : PySem.W.Frag) : Sp := fun vs H Q _ => ∃ v d e s, vs = [v, .str e, .str s] ∧ Th K H v d ∧ Ok d ∧ ∀ H', Same H H' → Q (.bl (otherB e s d)) H'
theorem rowB_not {e s : Str} {d : PyData} (h : isTup d = false) : rowB e s d = false := by
  cases d <;> first | rfl | cases h
theorem rowB_len {e s : Str} {ds : List PyData} (h : ds.length ≠ 2) : rowB e s (.tuple ds) = false := by
  match ds, h with
  | [], _ => rfl
  | [_], _ => rfl
  | [_, _], h => exact absurd rfl h
  | _ :: _ :: _ :: _, _ => rfl
theorem rowsB_not {e s : Str} {d : PyData} (h : isTup d = false) : rowsB e s d = false := by
  cases d <;> first | rfl | cases h
theorem otherB_len {e s : Str} {ds : List PyData} (h : ds.length ≠ 1) : otherB e s (.tuple ds) = false := by
  match ds, h with
  | [], _ => rfl
  | [_], h => exact absurd rfl h
  | _ :: _ :: _, _ => rfl
def noneB : PyData → Bool
  | .none => true
  | _ => false
theorem otherB_not {e s : Str} {d : PyData} (h : isTup d = false) (n : noneB d = false) : otherB e s d = false := by
  cases d with
  | none => cases n
  | tuple l => cases h
  | _ => rfl
theorem th_non {K : PySem.W.Frag} {H : Hp} {v : V} {d : PyData} (h : Th K H v d) : decide (v = .non) = noneB d := by
  cases h <;> rfl
/-- the first of a good row is a key -/
theorem row_key {K : PySem.W.Frag} {H : Hp} {v : V} {d : PyData} {e s : Str} (h : Th K H v d) (hr : rowB e s d = true) (he : e ∈ testL) : ∃ p x y, v = .ref p ∧ SqT K H p [x, y] ∧ x = kV (keyOf d) := by
  have ht : isTup d = true := by
    cases hd : isTup d with
    | true => rfl
    | false =>
      rw [rowB_not hd] at hr
      cases hr
  obtain ⟨ds, rfl⟩ := isTup_eq ht
  have hl : ds.length = 2 := by
    by_cases hl : ds.length = 2
    · exact hl
    · rw [rowB_len hl] at hr
      cases hr
  obtain ⟨a, b, rfl⟩ := len2 hl
  obtain ⟨p, xs, rfl, hx, hA⟩ := h.asTup
  obtain ⟨x, y, rfl, t0, t1⟩ := thAll2 hA
  refine ⟨p, x, y, rfl, hx, ?_⟩
  have ho : ofSort e a = true := by
    have : (ofSort e a && ofSort s b) = true := hr
    rw [Bool.and_eq_true] at this
    exact this.1
  have he : e = "code" ∨ e = "word" := by simpa [testL] using he
  rcases he with rfl | rfl
  · have hw : wholeB a = true := ho
    cases t0 with
    | int i => rfl
    | _ => cases hw
  · have hw : smallB 8 a = true := ho
    obtain ⟨z, rfl⟩ := small_str hw
    obtain rfl := t0.asStr
    rfl
section
variable {P : Program} {w : World} {K : PySem.W.Frag} {mg : Str → Option Value} {base : Heap}
theorem scrow : FnScope ["row", "elder", "sort"] ["row", "elder", "sort"] (defScope sIsRow) := ⟨rfl, rfl, rfl, by decide +kernel, rfl, by decide +kernel, by decide +kernel⟩
theorem ok_row {f : Addr} {fd : FuncData} (F : FnP K "_is_row" sIsRow f fd) {f_is_of_sort : Addr} {fd_is_of_sort : FuncData} (c_is_of_sort : Cl P w K mg base CX0 "is_of_sort" 3 ["value", "sort"] (spOfSort K) f_is_of_sort fd_is_of_sort) (mb_isinstance : mg "isinstance" = none) (mb_tuple : mg "tuple" = none) (mb_len : mg "len" = none)   : FnOk P w K mg base CX0 4 f fd ["row", "elder", "sort"] (spRow K) := by
  refine F.ok scrow (fun vs H Q E h => ?_) (fun cdv A outer s H vs Q E hr h => ?_)
  · obtain ⟨v, d, e, s, rfl, _⟩ := h
    rfl
  · obtain ⟨v, d, el, so, rfl, hT, hB, q⟩ := h
    have hu := hu_of hr
    refine ⟨_, PSs.nox (pss_cons (ps_if (PW.pt (pw_or (pt_not (pt_val (pe_callB call_isi (by rfl) mb_isinstance (by decide +kernel) (pa_cons (pv 0) (pa_cons (pe_bltn (v := .ty "tuple") (by rfl) mb_tuple (by decide +kernel) rfl) pa_nil))))) (pw_or1 (pt_cmpR op_ne (pe_callB call_len (by rfl) mb_len (by decide +kernel) (pa_cons (pv 0) pa_nil)) (pe_int) (nomark _))))) (pss_one (ps_ret (pe_bl))) (pss_nil))
      (pss_one (ps_ret (pe_and (pe_call c_is_of_sort.ok (hr.mono (by decide)) (by rfl) c_is_of_sort.m c_is_of_sort.kp c_is_of_sort.b .nil pass0 (pa_cons (pe_ix Cc.ix_B (pv 0) (pe_int) (fun _ _ => rfl)) (pa_cons (pv 1) pa_nil))) (pe_one (pe_call c_is_of_sort.ok (hr.mono (by decide)) (by rfl) c_is_of_sort.m c_is_of_sort.kp c_is_of_sort.b .nil pass0 (pa_cons (pe_ix Cc.ix_B (pv 0) (pe_int) (fun _ _ => rfl)) (pa_cons (pv 2) pa_nil)))))))), ?_⟩
    refine ⟨_, rfl, v, .ty "tuple", _, _, _, rfl, .ty "tuple", hT.ty, kit_ty (kit_tup d), _, rfl, ?_⟩
    cases ht : isTup d with
    | false =>
      have e := q H (Same.refl H)
      rw [rowB_not ht] at e
      exact iteT (iteT e)
    | true =>
      obtain ⟨ds, rfl⟩ := isTup_eq ht
      obtain ⟨a, xs, rfl, hx, hA⟩ := hT.asTup
      have lx := hA.len
      have bs := (Bd.tup hB).2
      refine iteF ⟨_, rfl, _, _, rfl, .inr ⟨_, hx, rfl⟩, rfl, _, rfl, ite2 (fun e => ?_) (fun e => ?_)⟩
      · have ne : ds.length ≠ 2 := fun z => by
          rw [dec_int, decide_eq_true (show (xs.length : Int) = 2 by omega)] at e
          cases e
        have e2 := q H (Same.refl H)
        rw [rowB_len ne] at e2
        exact e2
      · have e2 : xs.length = 2 := by
          have e3 : (!decide (V.int (xs.length : Nat) = V.int 2)) = false := by simpa using e
          rw [dec_int, Bool.not_eq_false'] at e3
          have := of_decide_eq_true e3
          omega
        obtain ⟨d0, d1, rfl⟩ := len2 (lx.symm.trans e2)
        obtain ⟨x0, x1, rfl, t0, t1⟩ := thAll2 hA
        have val : rowB el so (.tuple [d0, d1]) = (ofSort el d0 && ofSort so d1) := rfl
        rw [val] at q
        refine ⟨_, rfl, true, a, _, 0, x0, rfl, rfl, hx, rfl, _, rfl, x0, d0, el, rfl, t0, bs d0 (by simp), fun H1 s1 => ⟨_, rfl, ?_⟩⟩
        cases ho : ofSort el d0 with
        | false =>
          rw [ho, Bool.false_and] at q
          exact iteF (q H1 s1)
        | true =>
          rw [ho, Bool.true_and] at q
          exact iteT ⟨_, rfl, true, a, _, 1, x1, rfl, rfl, Sq.same (t := true) hx s1, rfl, _, rfl, x1, d1, so, rfl, t1.kept (kept_same s1), bs d1 (by simp), fun H2 s2 => q H2 (s1.trans s2)⟩
theorem scother : FnScope ["other", "elder", "sort"] ["other", "elder", "sort"] (defScope sIsOther) := ⟨rfl, rfl, rfl, by decide +kernel, rfl, by decide +kernel, by decide +kernel⟩
theorem ok_other {f : Addr} {fd : FuncData} (F : FnP K "_is_other" sIsOther f fd) {f_is_of_sort : Addr} {fd_is_of_sort : FuncData} (c_is_of_sort : Cl P w K mg base CX0 "is_of_sort" 3 ["value", "sort"] (spOfSort K) f_is_of_sort fd_is_of_sort) (mb_isinstance : mg "isinstance" = none) (mb_tuple : mg "tuple" = none) (mb_len : mg "len" = none)   : FnOk P w K mg base CX0 4 f fd ["other", "elder", "sort"] (spOther K) := by
  refine F.ok scother (fun vs H Q E h => ?_) (fun cdv A outer s H vs Q E hr h => ?_)
  · obtain ⟨v, d, e, s, rfl, _⟩ := h
    rfl
  · obtain ⟨v, d, el, so, rfl, hT, hB, q⟩ := h
    have hu := hu_of hr
    refine ⟨_, PSs.nox (pss_cons (ps_if (pt_cmpR op_isN (pv 0) (pe_non) (nomark _)) (pss_one (ps_ret (pe_cmpR op_eq (pv 2) (pv 1) (nomark _)))) (pss_nil))
      (pss_one (ps_ret (pe_and (pe_callB call_isi (by rfl) mb_isinstance (by decide +kernel) (pa_cons (pv 0) (pa_cons (pe_bltn (v := .ty "tuple") (by rfl) mb_tuple (by decide +kernel) rfl) pa_nil))) (pe_and (pe_cmpR op_eq (pe_callB call_len (by rfl) mb_len (by decide +kernel) (pa_cons (pv 0) pa_nil)) (pe_int) (nomark _)) (pe_one (pe_call c_is_of_sort.ok (hr.mono (by decide)) (by rfl) c_is_of_sort.m c_is_of_sort.kp c_is_of_sort.b .nil pass0 (pa_cons (pe_ix Cc.ix_B (pv 0) (pe_int) (fun _ _ => rfl)) (pa_cons (pv 2) pa_nil))))))))), ?_⟩
    refine ⟨_, rfl, rfl, _, rfl, ?_⟩
    rw [th_non hT]
    cases hd : noneB d with
    | true =>
      have e : d = .none := by
        cases d <;> first | rfl | cases hd
      subst e
      refine iteT ⟨_, rfl, _, rfl, rfl, ?_⟩
      rw [dec_str]
      exact q H (Same.refl H)
    | false =>
      refine iteF ⟨_, rfl, v, .ty "tuple", _, _, _, rfl, .ty "tuple", hT.ty, kit_ty (kit_tup d), _, rfl, ?_⟩
      cases ht : isTup d with
      | false =>
        have e := q H (Same.refl H)
        rw [otherB_not ht hd] at e
        exact iteF e
      | true =>
        obtain ⟨ds, rfl⟩ := isTup_eq ht
        obtain ⟨a, xs, rfl, hx, hA⟩ := hT.asTup
        have lx := hA.len
        have bs := (Bd.tup hB).2
        refine iteT ⟨_, rfl, _, _, rfl, .inr ⟨_, hx, rfl⟩, rfl, _, rfl, ite2 (fun e => ?_) (fun e => ?_)⟩
        · rw [dec_int] at e
          have e2 : xs.length = 1 := by
            have := of_decide_eq_true e
            omega
          obtain ⟨d0, rfl⟩ := len1 (lx.symm.trans e2)
          obtain ⟨x0, r, rfl, t0, hA⟩ := hA.cons_of
          obtain rfl := hA.nil_of
          exact ⟨_, rfl, true, a, _, 0, x0, rfl, rfl, hx, rfl, _, rfl, x0, d0, so, rfl, t0, bs d0 (by simp), q⟩
        · rw [dec_int] at e
          have ne : ds.length ≠ 1 := fun z => e (decide_eq_true (show (xs.length : Int) = 1 by omega))
          have e2 := q H (Same.refl H)
          rw [otherB_len ne] at e2
          exact e2
theorem scrows : FnScope ["rows", "elder", "sort", "row"] ["rows", "elder", "sort"] (defScope sAreRows) := ⟨rfl, rfl, rfl, by decide +kernel, rfl, by decide +kernel, by decide +kernel⟩
theorem ok_rows {f : Addr} {fd : FuncData} (F : FnP K "_are_rows" sAreRows f fd) {f__is_row : Addr} {fd__is_row : FuncData} (c__is_row : Cl P w K mg base CX0 "_is_row" 4 ["row", "elder", "sort"] (spRow K) f__is_row fd__is_row) (mb_isinstance : mg "isinstance" = none) (mb_tuple : mg "tuple" = none) (mb_len : mg "len" = none) (mb_all : mg "all" = none) {uR : Value} (m_MOST_ROWS : mg "MOST_ROWS" = some uR) (h_uR : RelV (.int 4) uR)  : FnOk P w K mg base CX0 5 f fd ["rows", "elder", "sort"] (spRows K) := by
  refine F.ok scrows (fun vs H Q E h => ?_) (fun cdv A outer s H vs Q E hr h => ?_)
  · obtain ⟨v, d, e, s, rfl, _⟩ := h
    rfl
  · obtain ⟨v, d, el, so, rfl, hT, hB, hE, q⟩ := h
    have hu := hu_of hr
    have hs := szl
    refine ⟨_, PSs.nox (pss_cons (ps_if (PW.pt (pw_or (pt_not (pt_val (pe_callB call_isi (by rfl) mb_isinstance (by decide +kernel) (pa_cons (pv 0) (pa_cons (pe_bltn (v := .ty "tuple") (by rfl) mb_tuple (by decide +kernel) rfl) pa_nil))))) (pw_or1 (pt_cmpR op_gt (pe_callB call_len (by rfl) mb_len (by decide +kernel) (pa_cons (pv 0) pa_nil)) (pe_glob rfl m_MOST_ROWS h_uR) (nomark _))))) (pss_one (ps_ret (pe_bl))) (pss_nil))
      (pss_cons (ps_if (pt_not (pt_val (pe_callB (cr_all rfl) (by rfl) mb_all (by decide +kernel) (pa_cons (pe_lc (own := [("row", 3)]) (g := gName 3) (tt := tYes) rfl scrows.nd (pi_tup (pv 0)) (blkOk_by (own := [("row", 3)]) (N := ["rows", "elder", "sort", "row"]) (sc := defScope sAreRows) (by decide +kernel)) (fun _ _ _ _ _ => pg_name (i := 3) scrows.nd rfl (Or.inl rfl)) (fun _ _ _ _ _ => pts_nil) (fun _ _ _ _ _ => pe_call c__is_row.ok (hr.mono (by decide)) (by rfl) c__is_row.m c__is_row.kp c__is_row.b .nil pass0 (pa_cons (pv 3) (pa_cons (pv 1) (pa_cons (pv 2) pa_nil))))) pa_nil)))) (pss_one (ps_ret (pe_bl))) (pss_nil))
      (pss_one (ps_ret (pe_cmpR op_eq (pe_callB Ys.call_lenK (by rfl) mb_len (by decide +kernel) (pa_cons (Ys.pe_scK (own := [("row", 3)]) (g := gName 3) (tt := tYes) rfl scrows.nd (pi_tup (pv 0)) (blkOk_by (own := [("row", 3)]) (N := ["rows", "elder", "sort", "row"]) (sc := defScope sAreRows) (by decide +kernel)) (fun _ _ _ _ _ => pg_name (i := 3) scrows.nd rfl (Or.inl rfl)) (fun _ _ _ _ _ => pts_nil) (fun _ _ _ _ _ => pe_ix (Cc.ix_Bk (K := K) rfl) (pv 3) (pe_int) (fun _ _ => rfl))) pa_nil)) (pe_callB call_len (by rfl) mb_len (by decide +kernel) (pa_cons (pv 0) pa_nil)) (nomark _)))))), ?_⟩
    refine ⟨_, rfl, v, .ty "tuple", _, _, _, rfl, .ty "tuple", hT.ty, kit_ty (kit_tup d), _, rfl, ?_⟩
    cases ht : isTup d with
    | false =>
      have e := q H (Same.refl H)
      rw [rowsB_not ht] at e
      exact iteT (iteT e)
    | true =>
      obtain ⟨ds, rfl⟩ := isTup_eq ht
      obtain ⟨a, xs, rfl, hx, hA⟩ := hT.asTup
      have lx := hA.len
      have bs := (Bd.tup hB).2
      have val : rowsB el so (.tuple ds) = ((decide (ds.length ≤ 4) && ds.all (rowB el so)) && decide ((ds.map keyOf).Nodup)) := rfl
      rw [val] at q
      refine iteF ⟨_, rfl, _, _, rfl, .inr ⟨_, hx, rfl⟩, _, _, rfl, rfl, _, rfl, ite2 (fun e => ?_) (fun e => ?_)⟩
      · have ne : ¬ ds.length ≤ 4 := by
          have : (4 : Int) < (xs.length : Int) := of_decide_eq_true e
          omega
        have e2 := q H (Same.refl H)
        rw [decide_eq_false ne, Bool.false_and, Bool.false_and] at e2
        exact e2
      · have le : ds.length ≤ 4 := by
          have : ¬ (4 : Int) < (xs.length : Int) := fun z => e (decide_eq_true z)
          omega
        rw [decide_eq_true le, Bool.true_and] at q
        refine ⟨_, rfl, a, rfl, ⟨_, hx⟩, fun D nD => ?_⟩
        refine lc_acc (walk_tup (K := K) (a := a) (xs := xs)) (fun i acc H' => But D H H' ∧ acc = (ds.take i).map fun f => V.bl (rowB el so f)) ⟨But.refl.upd, rfl⟩ (fun i acc H' _ ⟨b, _⟩ _ => Sq.same (t := true) hx (b.new nD)) ?_ ?_
        · rintro i x acc H2 H3 hi la ⟨b, ea⟩ hD ⟨rfl, hx2⟩
          obtain ⟨d, hd, td, md⟩ := ThAll.get2 hA hx2
          have s2 := b.new nD
          have et : (ds.take (i + 1)).map (fun f => V.bl (rowB el so f)) = (ds.take i).map (fun f => V.bl (rowB el so f)) ++ [V.bl (rowB el so d)] := by rw [List.take_succ, hd, List.map_append]; rfl
          refine ⟨rfl, _, rfl, _, rfl, _, rfl, x, d, el, so, rfl, td.kept (kept_same s2), bs d md, fun H4 s4 => ?_⟩
          exact push (s4 _ _ hD) la (by omega) ⟨(b.same s4).upd, by rw [ea, et]⟩
        · rintro acc H2 la ⟨b, rfl⟩ hD
          rw [lx, List.take_length] at hD
          have s2 := b.new nD
          refine ⟨D, ds.map (rowB el so), rfl, SqL.of (by rw [hD, List.map_map]; rfl), _, rfl, ?_⟩
          rw [List.all_map]
          show if (!(ds.all (rowB el so))) = true then _ else _
          cases hall : ds.all (rowB el so) with
          | false =>
            rw [hall, Bool.false_and] at q
            exact iteT (q H2 s2)
          | true =>
            rw [hall, Bool.true_and] at q
            have hx1 := Sq.same (t := true) hx s2
            refine iteF ⟨_, rfl, a, rfl, ⟨xs, hx1⟩, fun D2 nD2 => ?_⟩
            refine sc_acc (walk_tup (K := K) (a := a) (xs := xs)) (fun i S m H' => But D2 H2 H' ∧ MetK (ds.map keyOf) i S m) ⟨But.refl.upd, MetK.zero⟩ (fun i S m H' _ ⟨b, _⟩ _ => Sq.same (t := true) hx1 (b.new nD2)) ?_ ?_
            · rintro i x S m H3 H4 hi ⟨b2, mt⟩ hD2 ⟨rfl, hx2⟩
              obtain ⟨d, hd, td, md⟩ := ThAll.get2 hA hx2
              have s3 := s2.trans (b2.new nD2)
              obtain ⟨p, x0, y0, rfl, hp, ek⟩ := row_key (td.kept (kept_same s3)) (List.all_eq_true.mp hall d md) hE
              have hk : (ds.map keyOf)[i]? = some (keyOf d) := by rw [List.getElem?_map, hd]; rfl
              have ml := mt.le
              refine ⟨rfl, _, rfl, true, p, _, 0, x0, rfl, rfl, hp, rfl, ?_⟩
              exact pushK (keyOf d) ek hD2 (by show m + 1 < scanBound; have : 4 < scanBound := by decide +kernel
                                               omega) ⟨b2.upd, mt.next hk⟩
            · rintro S m H3 ⟨b2, mt⟩ hD2
              rw [lx, ← List.length_map (f := keyOf)] at mt
              refine ⟨D2, S, m, rfl, hD2, _, rfl, _, _, rfl, .inr ⟨_, Sq.same (t := true) hx1 (b2.new nD2), rfl⟩, rfl, ?_⟩
              have e := mt.end
              rw [List.length_map] at e
              rw [dec_int, lx, e]
              exact q H3 (s2.trans (b2.new nD2))
theorem scbtable : FnScope ["sorts", "step", "_", "field", "sort", "rows", "other", "elder"] ["sorts", "step"] (defScope sBehindTable) := ⟨rfl, rfl, rfl, by decide +kernel, rfl, by decide +kernel, by decide +kernel⟩
theorem ok_btable {f : Addr} {fd : FuncData} (F : FnP K "_behind_table" sBehindTable f fd) {f__sort_of : Addr} {fd__sort_of : FuncData} (c__sort_of : Cl P w K mg base CX0 "_sort_of" 1 ["sorts", "field"] (spSortOf K) f__sort_of fd__sort_of) {f_is_sort : Addr} {fd_is_sort : FuncData} (c_is_sort : Cl P w K mg base CX0 "is_sort" 1 ["thing"] (spSort K) f_is_sort fd_is_sort) {f__are_rows : Addr} {fd__are_rows : FuncData} (c__are_rows : Cl P w K mg base CX0 "_are_rows" 5 ["rows", "elder", "sort"] (spRows K) f__are_rows fd__are_rows) {f__is_other : Addr} {fd__is_other : FuncData} (c__is_other : Cl P w K mg base CX0 "_is_other" 4 ["other", "elder", "sort"] (spOther K) f__is_other fd__is_other)  {aT : Addr} (m_TESTED : mg "TESTED" = some (.ref aT)) (hT_ : ∀ H, SqT K H aT (testL.map V.str)) {rec : Fs → PyData → Except Nat Fs} : FnOk P w K mg base CX0 6 f fd ["sorts", "step"] (spLead K rec "table" 4) := by
  refine F.ok scbtable (fun vs H Q E h => ?_) (fun cdv A outer s H vs Q E hr h => ?_)
  · obtain ⟨sd, fs, v, r, rfl, _⟩ := h
    rfl
  · obtain ⟨sd, fs, v, r, rfl, hF, hT, hl, hB, q⟩ := h
    have hu := hu_of hr
    have hs := szl
    refine ⟨_, PSs.nox (pss_cons (ps_asg (pv 1) (pg_tup rfl (pgs_cons (pg_name (i := 2) scbtable.nd rfl (Or.inl rfl)) (pgs_cons (pg_name (i := 3) scbtable.nd rfl (Or.inl rfl)) (pgs_cons (pg_name (i := 4) scbtable.nd rfl (Or.inl rfl)) (pgs_cons (pg_name (i := 5) scbtable.nd rfl (Or.inl rfl)) (pgs_cons (pg_name (i := 6) scbtable.nd rfl (Or.inl rfl)) (pgs_nil))))))))
      (pss_cons (ps_set (i := 7) scbtable.nd rfl (Or.inl rfl) (pe_call c__sort_of.ok (hr.mono (by decide)) (by rfl) c__sort_of.m c__sort_of.kp c__sort_of.b .nil pass0 (pa_cons (pv 0) (pa_cons (pv 3) pa_nil))))
      (pss_cons (ps_if (PW.pt (pw_or (pt_cmpR op_notIn_seq (pv 7) (pe_glob (v := .ref aT) rfl m_TESTED rfl) (by with_unfolding_all rfl)) (pw_or (pt_not (pt_val (pe_call c_is_sort.ok (hr.mono (by decide)) (by rfl) c_is_sort.m c_is_sort.kp c_is_sort.b .nil pass0 (pa_cons (pv 4) pa_nil)))) (pw_or1 (pt_cmpR op_notIn_seq (pv 4) (pe_glob (v := .ref aT) rfl m_TESTED rfl) (by with_unfolding_all rfl)))))) (pss_one (ps_ret (pe_non))) (pss_nil))
      (pss_cons (ps_if (PW.pt (pw_or (pt_not (pt_val (pe_call c__are_rows.ok (hr.mono (by decide)) (by rfl) c__are_rows.m c__are_rows.kp c__are_rows.b .nil pass0 (pa_cons (pv 5) (pa_cons (pv 7) (pa_cons (pv 4) pa_nil)))))) (pw_or1 (pt_not (pt_val (pe_call c__is_other.ok (hr.mono (by decide)) (by rfl) c__is_other.m c__is_other.kp c__is_other.b .nil pass0 (pa_cons (pv 6) (pa_cons (pv 7) (pa_cons (pv 4) pa_nil))))))))) (pss_one (ps_ret (pe_non))) (pss_nil))
      (pss_one (ps_ret (Nn.pe_dstar (pv 0) (pv 3) (pv 4)))))))), ?_⟩
    obtain ⟨d0, d1, d2, d3, rfl⟩ := len4 hl
    obtain ⟨a, xs, rfl, hx, hA⟩ := hT.asTup
    obtain ⟨x0, x1, x2, x3, rfl, t0, t1, t2, t3⟩ := th4 hA
    have b0 := hB d0 (by simp)
    have b1 := hB d1 (by simp)
    have b2 := hB d2 (by simp)
    have b3 := hB d3 (by simp)
    replace q : Res (tableB fs d0 d1 d2 d3) H Q := q
    unfold tableB at q
    refine ⟨_, rfl, a, _, rfl, hx, rfl, _, _, rfl, _, _, rfl, _, _, rfl, _, _, rfl, _, _, rfl, rfl, ?_⟩
    refine ⟨_, rfl, _, rfl, sd, fs, x0, d0, rfl, hF, t0, b0, ?_⟩
    refine ⟨_, rfl, aT, _, rfl, .inr (hT_ H), flat_opt _, by decide +kernel, _, rfl, ?_⟩
    rw [if_pos rfl, in_opt]
    cases ho : sortOf fs d0 with
    | none =>
      rw [ho] at q
      exact iteT (iteT (q H (Same.refl H)))
    | some el =>
      rw [ho] at q
      dsimp only at q
      obtain ⟨o, rfl, hy⟩ := sortOf_of ho
      obtain rfl := t0.asStr
      show if (!decide (el ∈ testL)) = true then _ else _
      cases hm : decide (el ∈ testL) with
      | false =>
        rw [hm, Bool.false_and, Bool.false_and, Bool.false_and] at q
        exact iteT (iteT (q H (Same.refl H)))
      | true =>
        rw [hm, Bool.true_and] at q
        have hE := of_decide_eq_true hm
        refine iteF ⟨_, rfl, x1, d1, rfl, t1, b1, fun H1 s1 => ⟨_, rfl, ?_⟩⟩
        cases hsb : sortB d1 with
        | false =>
          rw [hsb, Bool.false_and, Bool.false_and] at q
          exact iteT (iteT (q H1 s1))
        | true =>
          rw [hsb, Bool.true_and] at q
          obtain ⟨so, rfl⟩ : ∃ z, d1 = .str z := by
            cases d1 <;> first | exact ⟨_, rfl⟩ | cases hsb
          obtain rfl := t1.asStr
          refine iteF ⟨_, rfl, aT, _, rfl, .inr (hT_ H1), rfl, by decide +kernel, _, rfl, ?_⟩
          rw [if_pos rfl, in_strs]
          show if (!decide (so ∈ testL)) = true then _ else _
          cases hm2 : decide (so ∈ testL) with
          | false =>
            rw [show decide (txtOf (.str so) ∈ testL) = false from hm2, Bool.false_and] at q
            exact iteT (q H1 s1)
          | true =>
            rw [show decide (txtOf (.str so) ∈ testL) = true from hm2, Bool.true_and] at q
            refine iteF ⟨_, rfl, _, rfl, _, rfl, x2, d2, el, so, rfl, t2.kept (kept_same s1), b2, hE, fun H2 s2 => ⟨_, rfl, ?_⟩⟩
            have s12 := s1.trans s2
            cases hr : rowsB el so d2 with
            | false =>
              rw [show rowsB el (txtOf (.str so)) d2 = false from hr, Bool.false_and] at q
              exact iteT (iteT (q H2 s12))
            | true =>
              rw [show rowsB el (txtOf (.str so)) d2 = true from hr, Bool.true_and] at q
              refine iteF ⟨_, rfl, _, rfl, _, rfl, x3, d3, el, so, rfl, t3.kept (kept_same s12), b3, fun H3 s3 => ⟨_, rfl, ?_⟩⟩
              have s13 := s12.trans s3
              cases hot : otherB el so d3 with
              | false =>
                rw [show otherB el (txtOf (.str so)) d3 = false from hot] at q
                exact iteT (q H3 s13)
              | true =>
                rw [show otherB el (txtOf (.str so)) d3 = true from hot] at q
                exact iteF (star_goes (hF.same s13) (fun _ _ k => ⟨_, rfl, k⟩) (fun _ _ k => ⟨_, rfl, k⟩) (fun H' k s4 hk => ⟨_, rfl, hk⟩) (fun H' p s4 e => q H' p (s13.trans s4) e))
end
end St6

set_option autoImplicit false
set_option maxHeartbeats 4000000
namespace St6
open PySem PySem.Spec PyProof.Rows L2 Tg Cc Nn
/-! ### the refusal -/
def inCls (s : Stmt) (i : Nat) : Stmt := match s with
  | .ClassDef _ _ _ b _ _ _ _ _ _ _ => b.getD i (.Pass ⟨0, 0, 0, 0⟩)
  | _ => .Pass ⟨0, 0, 0, 0⟩
abbrev sInit : Stmt := inCls sBadstep 0
theorem scInit : FnScope ["self", "at"] ["self", "at"] (defScope sInit) := ⟨rfl, rfl, rfl, by decide +kernel, rfl, by decide +kernel, by decide +kernel⟩
def spInit (K : PySem.W.Frag) (C : Addr) : Sp := fun vs H Q _ => ∃ (a : Addr) (v : V), vs = [.ref a, v] ∧ H a = some (exo a C none) ∧ ∀ dx, H dx = none → dx ≠ a → Q .non (upd (upd H dx (exd dx [("at", v)])) a (exo a C (some dx)))
/-- what is known of the class -/
structure BadS (K : PySem.W.Frag) (mg : Str → Option Value) (C fI : Addr) (fdI : FuncData) : Prop where
  ox : OexC K C
  g : mg "BadStep" = some (.ref C)
  te : PySem.W.exmOne K (.ref C) (.ref C) = some true
  noAt : PySem.W.findIn K (.ref C) "at" = some none
  iC : PySem.W.findIn K (.ref C) "__init__" = some (some (.ref fI))
  tI : PySem.W.typeIn K (.ref fI) = some (.type "function")
  fn : FunD K "__init__" "BadStep.__init__" (defArgs sInit) (defBody sInit) (defScope sInit) [] [] fI fdI
section
variable {P : Program} {w : World} {K : PySem.W.Frag} {mg : Str → Option Value} {base : Heap}
theorem ok_init {C fI : Addr} {fdI : FuncData} (T : BadS K mg C fI fdI) : FnOk P w K mg base CX0 1 fI fdI ["self", "at"] (spInit K C) := by
  refine T.fn.ok scInit (fun vs H Q E h => ?_) (fun cdv A outer s H vs Q E hr h => ?_)
  · obtain ⟨a, v, rfl, _⟩ := h
    rfl
  · obtain ⟨a, v, rfl, ha, q⟩ := h
    refine ⟨_, PSs.nox (pss_one (ps_ost (pv 0) (pv 1))), ?_⟩
    exact ⟨_, rfl, _, rfl, a, C, rfl, T.ox, T.noAt, .inl ⟨ha, fun dx hd hn => q dx hd hn⟩⟩
/-- how the refusal leaves a def -/
def Out (C : Addr) (E : XK) (H : Hp) (n : Nat) : Prop := ∀ (H' : Hp) (d : Addr), Same H H' → H d = none → H' d = some (.xd [("at", .int (n : Int))]) → E (.ref C) (some d) H'
theorem Out.later {C : Addr} {E : XK} {H H1 : Hp} {n : Nat} (h : Out C E H n) (s : Same H H1) : Out C E H1 n := fun H' d s2 nd e => h H' d (s.trans s2) (by
  cases q : H d with
  | none => rfl
  | some o =>
    rw [s _ _ q] at nd
    cases nd) e
theorem out_of {C : Addr} {H1 : Hp} {W : XK} {n : Nat} (h : Out C W H1 n) : ([V.int (n : Int)] : List V).length ≤ 1000 ∧ ∀ a, H1 a = none →
    spInit K C (.ref a :: ([V.int (n : Int)] ++ [])) (upd H1 a (exo a C none)) (fun v H2 => v = .non ∧ ∃ (d : Addr) (fs : List (Str × V)), H2 a = some (exo a C (some d)) ∧ H2 d = some (exd d fs) ∧ H1 d = none ∧ W (.ref C) (some d) (upd (del H2 a) d (.xd fs))) (fun _ _ _ => False) := by
  refine ⟨by simp, fun a na => ⟨a, .int (n : Int), rfl, upd_same, fun dx hd hn => ?_⟩⟩
  have hd1 : H1 dx = none := by rw [← hd, upd_ne hn]
  refine ⟨rfl, dx, [("at", .int (n : Int))], upd_same, by rw [upd_ne hn, upd_same], hd1, h _ dx (fun b x e => ?_) hd1 upd_same⟩
  have nb : b ≠ dx := ne_of_none e hd1
  have na : b ≠ a := ne_of_none e na
  rw [upd_ne nb]
  show (if b = a then none else _) = _
  rw [if_neg na, upd_ne na, upd_ne nb, upd_ne na]
  exact e
theorem bindI {C fI : Addr} {fdI : FuncData} (T : BadS K mg C fI fdI) : Binds K fdI ["self", "at"] [] := T.fn.bindsN fun _ _ _ _ _ _ us hl => match us, hl with | [_, _], _ => rfl
end
/-! ### how fields grow -/
def Gro (fs gs : Fs) (n : Nat) : Prop := (fs.map Prod.fst).Nodup → (gs.map Prod.fst).Nodup ∧ gs.length ≤ fs.length + n
theorem Gro.mono {fs gs : Fs} {n m : Nat} (h : Gro fs gs n) (k : n ≤ m) : Gro fs gs m := fun nd => ⟨(h nd).1, by have := (h nd).2; omega⟩
theorem gro_new {fs : Fs} {d : PyData} {s : Str} (h : isNewB fs d = true) : Gro fs (fs ++ [(txtOf d, s)]) 1 := fun nd => by
  obtain ⟨z, rfl, hz⟩ := isNew_of h
  exact ⟨nd_new hz nd, by rw [List.length_append, List.length_singleton]; exact Nat.le_refl _⟩
theorem set_keys {fs : Fs} {n s x : Str} (h : getF fs n = some x) : (setF fs n s).map Prod.fst = fs.map Prod.fst := by
  have hp : fs.any (fun x => decide (x.1 = n)) = true := by
    unfold getF at h
    cases e : fs.find? fun y => decide (y.1 = n) with
    | none =>
      rw [e] at h
      cases h
    | some y => exact List.any_eq_true.mpr ⟨y, List.mem_of_find?_eq_some e, List.find?_some (p := fun y : Str × Str => decide (y.1 = n)) e⟩
  unfold setF
  rw [if_pos hp, List.map_map]
  refine List.map_congr_left fun y _ => ?_
  show (if y.1 = n then (y.1, s) else y).1 = y.1
  by_cases e : y.1 = n
  · rw [if_pos e]
  · rw [if_neg e]
theorem ifs {α : Type} {c : Prop} [Decidable c] {a b : α} (h : (if c then some a else none) = some b) : c ∧ a = b := by
  by_cases k : c
  · rw [if_pos k] at h
    exact ⟨k, Option.some.inj h⟩
  · rw [if_neg k] at h
    cases h
theorem lead_gro {rec : Fs → PyData → Except Nat Fs} {g : PyData → Nat} (hr : ∀ fs y gs, rec fs y = .ok gs → Gro fs gs (g y)) {fs : Fs} {w : Str} {r : List PyData} {gs : Fs} (h : leadB rec fs w r = some gs) : Gro fs gs (1 + (r.map g).sum) := by
  have ba : ∀ {a b : Bool}, (a && b) = true → a = true ∧ b = true := fun h => (Bool.and_eq_true _ _).mp h
  match r, h with
  | [], h => cases h
  | [a], h =>
    replace h : (if w = "drop" then dropB fs a else none) = some gs := h
    by_cases e : w = "drop"
    · rw [if_pos e] at h
      obtain ⟨_, rfl⟩ := ifs h
      exact fun nd => ⟨List.Nodup.sublist ((List.filter_sublist).map _) nd, by have := List.length_filter_le (fun x : Str × Str => !decide (x.1 = txtOf a)) fs; omega⟩
    · rw [if_neg e] at h
      cases h
  | [a, b], h =>
    replace h : (if w = "rename" then renameB fs a b else if w = "copy" then copyB fs a b else if w = "sum" then sumB fs a b else if w = "join" then joinB fs a b else none) = some gs := h
    by_cases e1 : w = "rename"
    · rw [if_pos e1] at h
      obtain ⟨c, rfl⟩ := ifs h
      obtain ⟨c1, c2⟩ := ba c
      obtain ⟨n, rfl, hz⟩ := isNew_of c2
      exact fun nd => ⟨ren_nd (o := txtOf a) nd hz, by rw [List.length_map]; omega⟩
    rw [if_neg e1] at h
    by_cases e2 : w = "copy"
    · rw [if_pos e2] at h
      unfold copyB at h
      cases ho : sortOf fs a with
      | none =>
        rw [ho] at h
        cases h
      | some s =>
        rw [ho] at h
        obtain ⟨c, rfl⟩ := ifs h
        exact (gro_new c).mono (by omega)
    rw [if_neg e2] at h
    by_cases e3 : w = "sum"
    · rw [if_pos e3] at h
      obtain ⟨c, rfl⟩ := ifs h
      exact (gro_new (ba c).1).mono (by omega)
    rw [if_neg e3] at h
    by_cases e4 : w = "join"
    · rw [if_pos e4] at h
      obtain ⟨c, rfl⟩ := ifs h
      exact (gro_new (ba c).1).mono (by omega)
    rw [if_neg e4] at h
    cases h
  | [a, b, c], h =>
    replace h : (if w = "put" then putB fs a b c else if w = "scale" then scaleB fs a b c else none) = some gs := h
    by_cases e1 : w = "put"
    · rw [if_pos e1] at h
      obtain ⟨c, rfl⟩ := ifs h
      exact (gro_new (ba c).1).mono (by omega)
    rw [if_neg e1] at h
    by_cases e2 : w = "scale"
    · rw [if_pos e2] at h
      obtain ⟨c, rfl⟩ := ifs h
      exact fun nd => ⟨nd, by omega⟩
    rw [if_neg e2] at h
    cases h
  | [a, b, c, d], h =>
    replace h : (if w = "table" then tableB fs a b c d else if w = "case" then caseB rec fs a b c d else none) = some gs := h
    by_cases e1 : w = "table"
    · rw [if_pos e1] at h
      unfold tableB at h
      cases ho : sortOf fs a with
      | none =>
        rw [ho] at h
        cases h
      | some s =>
        rw [ho] at h
        obtain ⟨_, rfl⟩ := ifs h
        obtain ⟨o, rfl, hy⟩ := sortOf_of ho
        have ek := set_keys (s := txtOf b) hy
        refine fun nd => ⟨by rw [show txtOf (.str o) = o from rfl, ek]; exact nd, ?_⟩
        have := congrArg List.length ek
        rw [List.length_map, List.length_map] at this
        rw [show txtOf (.str o) = o from rfl]
        omega
    rw [if_neg e1] at h
    by_cases e2 : w = "case"
    · rw [if_pos e2] at h
      unfold caseB at h
      cases ho : sortOf fs a with
      | none =>
        rw [ho] at h
        cases h
      | some s =>
        rw [ho] at h
        dsimp only at h
        by_cases k : (decide (s ∈ testL) && ofSort s b) = true
        · rw [if_pos k] at h
          cases hy : rec fs c with
          | error n =>
            rw [hy] at h
            cases h
          | ok x =>
            cases hn : rec fs d with
            | error n =>
              rw [hy, hn] at h
              cases h
            | ok y =>
              rw [hy, hn] at h
              obtain ⟨_, rfl⟩ := ifs h
              exact (hr _ _ _ hy).mono (by simp; omega)
        · rw [if_neg k] at h
          cases h
    rw [if_neg e2] at h
    cases h
  | _ :: _ :: _ :: _ :: _ :: _, h => cases h
theorem step_gro {rec : Fs → PyData → Except Nat Fs} {g : PyData → Nat} (hr : ∀ fs y gs, rec fs y = .ok gs → Gro fs gs (g y)) {fs : Fs} {d : PyData} {gs : Fs} (h : stepB rec fs d = some gs) : Gro fs gs (1 + ((items d).map g).sum) := by
  match d, h with
  | .tuple (.str w :: r), h => exact (lead_gro hr (show leadB rec fs w r = some gs from h)).mono (by show _ ≤ 1 + ((PyData.str w :: r).map g).sum; rw [List.map_cons, List.sum_cons]; omega)
theorem go_gro {st : Fs → PyData → Option Fs} {g : PyData → Nat} (hs : ∀ fs d gs, st fs d = some gs → Gro fs gs (g d)) : ∀ {ds : List PyData} {i : Nat} {fs gs : Fs}, goB st i fs ds = .ok gs → Gro fs gs (ds.map g).sum
  | [], i, fs, gs, h => by
    have e : fs = gs := Except.ok.inj h
    subst e
    exact fun nd => ⟨nd, Nat.le_add_right _ _⟩
  | d :: r, i, fs, gs, h => by
    replace h : (match st fs d with
      | some gs => goB st (i + 1) gs r
      | none => .error i) = .ok gs := h
    cases hd : st fs d with
    | none =>
      rw [hd] at h
      cases h
    | some hs2 =>
      rw [hd] at h
      intro nd
      obtain ⟨n1, l1⟩ := hs _ _ _ hd nd
      obtain ⟨n2, l2⟩ := go_gro hs h n1
      exact ⟨n2, by rw [List.map_cons, List.sum_cons]; omega⟩
theorem over_gro {st : Fs → PyData → Option Fs} {g : PyData → Nat} (hs : ∀ fs d gs, st fs d = some gs → Gro fs gs (g d)) {fs : Fs} {d : PyData} {gs : Fs} (h : overB st fs d = .ok gs) : Gro fs gs ((items d).map g).sum := by
  cases d with
  | list ds => exact go_gro hs h
  | tuple ds => exact go_gro hs h
  | _ => cases h
theorem sum_zero : ∀ l : List PyData, (l.map fun _ => 0).sum = 0
  | [] => rfl
  | _ :: r => by rw [List.map_cons, List.sum_cons, sum_zero r]
theorem sum_one : ∀ l : List PyData, (l.map fun _ => 1).sum = l.length
  | [] => rfl
  | _ :: r => by rw [List.map_cons, List.sum_cons, sum_one r, List.length_cons]; omega
theorem steps_gro : ∀ (c : Nat) (fs : Fs) (d : PyData) (gs : Fs), stepsB c fs d = .ok gs → Gro fs gs (growB c d)
  | 0, fs, d, gs, h => by
    have := over_gro (g := fun _ => 1) (fun fs d gs h => (step_gro (g := fun _ => 0) (fun _ _ _ h => by cases h) h).mono (by rw [sum_zero]; omega)) h
    refine this.mono ?_
    show _ ≤ (items d).length
    rw [sum_one]
    exact Nat.le_refl _
  | c + 1, fs, d, gs, h => over_gro (g := fun s => 1 + ((items s).map (growB c)).sum) (fun fs d gs h => step_gro (steps_gro c) h) h
end St6

set_option autoImplicit false
set_option maxHeartbeats 4000000
namespace St6
open PySem PySem.Spec PyProof.Rows L2 Tg Cc Nn
/-- told: the fields behind, or the refusal -/
def SRes (C : Addr) (o : Except Nat Fs) (H : Hp) (Q : VK) (E : XK) : Prop := match o with
  | .ok gs => ∀ H' q, Same H H' → H' q = some (.dK (kvsOf gs)) → Q (.ref q) H'
  | .error n => Out C E H n
def spSorts (K : PySem.W.Frag) (C : Addr) (c : Nat) : Sp := fun vs H Q E => ∃ sd fs v d, vs = [.ref sd, v] ∧ Fd H sd fs ∧ Th K H v d ∧ Bd 1000 (2 * c + 1) d ∧ c ≤ 9 ∧ fs.length + growB c d ≤ 1000000 ∧ SRes C (stepsB c fs d) H Q E
def spCase (K : PySem.W.Frag) (c : Nat) : Sp := fun vs H Q _ => ∃ sd fs v r, vs = [.ref sd, v] ∧ Fd H sd fs ∧ Th K H v (.tuple (.str "case" :: r)) ∧ r.length = 4 ∧ (∀ x ∈ r, Bd 1000 (2 * c + 1) x) ∧ c ≤ 9 ∧ fs.length + (r.map (growB c)).sum ≤ 1000000 ∧ Res (leadB (stepsB c) fs "case" r) H Q
section
variable {P : Program} {w : World} {K : PySem.W.Frag} {mg : Str → Option Value} {base : Heap} {C fI : Addr} {fdI : FuncData} {c : Nat}
theorem scbcase : FnScope ["sorts", "step", "_", "field", "value", "yes", "no", "sort", "sorts_of_yes", "sorts_of_no"] ["sorts", "step"] (defScope sBehindCase) := ⟨rfl, rfl, rfl, by decide +kernel, rfl, by decide +kernel, by decide +kernel⟩
theorem ok_bcase {f : Addr} {fd : FuncData} (F : FnP K "_behind_case" sBehindCase f fd) {f__sort_of : Addr} {fd__sort_of : FuncData} (c__sort_of : Cl P w K mg base CX0 "_sort_of" 1 ["sorts", "field"] (spSortOf K) f__sort_of fd__sort_of) {f_is_of_sort : Addr} {fd_is_of_sort : FuncData} (c_is_of_sort : Cl P w K mg base CX0 "is_of_sort" 3 ["value", "sort"] (spOfSort K) f_is_of_sort fd_is_of_sort) {f__sorts_behind : Addr} {fd__sorts_behind : FuncData} (c__sorts_behind : Cl P w K mg base (L2.CX P w) "_sorts_behind" (8 + 3 * c) ["sorts", "steps"] (spSorts K C c) f__sorts_behind fd__sorts_behind)  {aT : Addr} (m_TESTED : mg "TESTED" = some (.ref aT)) (hT_ : ∀ H, SqT K H aT (testL.map V.str)) (T : BadS K mg C fI fdI) : FnOk P w K mg base CX0 (8 + 3 * c + 1) f fd ["sorts", "step"] (spCase K c) := by
  refine F.ok scbcase (fun vs H Q E h => ?_) (fun cdv A outer s H vs Q E hr h => ?_)
  · obtain ⟨sd, fs, v, r, rfl, _⟩ := h
    rfl
  · obtain ⟨sd, fs, v, r, rfl, hF, hT, hl, hB, hc, hg, q⟩ := h
    have hu := hu_of hr
    have hs := szl
    refine ⟨_, PSs.nox (pss_cons (ps_asg (pv 1) (pg_tup rfl (pgs_cons (pg_name (i := 2) scbcase.nd rfl (Or.inl rfl)) (pgs_cons (pg_name (i := 3) scbcase.nd rfl (Or.inl rfl)) (pgs_cons (pg_name (i := 4) scbcase.nd rfl (Or.inl rfl)) (pgs_cons (pg_name (i := 5) scbcase.nd rfl (Or.inl rfl)) (pgs_cons (pg_name (i := 6) scbcase.nd rfl (Or.inl rfl)) (pgs_nil))))))))
      (pss_cons (ps_set (i := 7) scbcase.nd rfl (Or.inl rfl) (pe_call c__sort_of.ok (hr.mono (by omega)) (by rfl) c__sort_of.m c__sort_of.kp c__sort_of.b .nil pass0 (pa_cons (pv 0) (pa_cons (pv 3) pa_nil))))
      (pss_cons (ps_if (PW.pt (pw_or (pt_cmpR op_notIn_seq (pv 7) (pe_glob (v := .ref aT) rfl m_TESTED rfl) (by with_unfolding_all rfl)) (pw_or1 (pt_not (pt_val (pe_call c_is_of_sort.ok (hr.mono (by omega)) (by rfl) c_is_of_sort.m c_is_of_sort.kp c_is_of_sort.b .nil pass0 (pa_cons (pv 4) (pa_cons (pv 7) pa_nil)))))))) (pss_one (ps_ret (pe_non))) (pss_nil))
      (pss_cons (ps_try_only rfl rfl ⟨rfl, by decide, .inl T.g⟩ takes0 (fun W pn xe tk _ => pss_cons (ps_set (i := 8) scbcase.nd rfl (Or.inl rfl) (pe_callS c__sorts_behind.ok (hr.mono (by omega)) (by rfl) c__sorts_behind.m c__sorts_behind.kp c__sorts_behind.b (fun σ => passAt (tk) σ) (pa_cons (pv 0) (pa_cons (pv 5) pa_nil))))
      (pss_one (ps_set (i := 9) scbcase.nd rfl (Or.inl rfl) (pe_callS c__sorts_behind.ok (hr.mono (by omega)) (by rfl) c__sorts_behind.m c__sorts_behind.kp c__sorts_behind.b (fun σ => passAt (tk) σ) (pa_cons (pv 0) (pa_cons (pv 6) pa_nil)))))) (fun a oe cls d pn _ _ => pss_one (ps_ret (pe_non))))
      (pss_one (ps_ret (pe_ifExp (pt_cmpR (Nn.op_eqF (Nat.lt_of_le_of_lt (Nat.le_add_right _ 64) hr.units)) (pv 8) (pv 9) (nomark _)) (pv 8) (pe_non)))))))), ?_⟩
    obtain ⟨d0, d1, d2, d3, rfl⟩ := len4 hl
    obtain ⟨a, xs, rfl, hx, hA⟩ := hT.asTup
    obtain ⟨x0, x1, x2, x3, rfl, t0, t1, t2, t3⟩ := th4 hA
    have ok : ∀ x ∈ [d0, d1, d2, d3], Ok x := fun x hx => (hB x hx).mono (Nat.le_refl _) (by omega)
    have b0 := ok d0 (by simp)
    have b1 := ok d1 (by simp)
    have b2 := hB d2 (by simp)
    have b3 := hB d3 (by simp)
    replace q : Res (caseB (stepsB c) fs d0 d1 d2 d3) H Q := q
    unfold caseB at q
    have sum : ([d0, d1, d2, d3].map (growB c)).sum = growB c d0 + (growB c d1 + (growB c d2 + (growB c d3 + 0))) := rfl
    refine ⟨_, rfl, a, _, rfl, hx, rfl, _, _, rfl, _, _, rfl, _, _, rfl, _, _, rfl, _, _, rfl, rfl, ?_⟩
    refine ⟨_, rfl, _, rfl, sd, fs, x0, d0, rfl, hF, t0, b0, ?_⟩
    refine ⟨_, rfl, aT, _, rfl, .inr (hT_ H), flat_opt _, by decide +kernel, _, rfl, ?_⟩
    rw [if_pos rfl, in_opt]
    cases ho : sortOf fs d0 with
    | none =>
      rw [ho] at q
      exact iteT (iteT (q H (Same.refl H)))
    | some el =>
      rw [ho] at q
      dsimp only at q
      show if (!decide (el ∈ testL)) = true then _ else _
      cases hm : decide (el ∈ testL) with
      | false =>
        rw [hm, Bool.false_and] at q
        exact iteT (iteT (q H (Same.refl H)))
      | true =>
        rw [hm, Bool.true_and] at q
        refine iteF ⟨_, rfl, _, rfl, x1, d1, el, rfl, t1, b1, fun H1 s1 => ⟨_, rfl, ?_⟩⟩
        cases hs1 : ofSort el d1 with
        | false =>
          rw [hs1] at q
          exact iteT (q H1 s1)
        | true =>
          rw [hs1, if_pos rfl] at q
          refine iteF ?_
          refine ⟨_, rfl, _, rfl, sd, fs, x2, d2, rfl, hF.same s1, t2.kept (kept_same s1), b2, hc, by omega, ?_⟩
          cases hy : stepsB c fs d2 with
          | error n =>
            rw [hy] at q
            exact fun H' d s2 nd e => ⟨true, T.te, fun _ a2 na => q H' (s1.trans s2), fun z => nomatch z⟩
          | ok gs =>
            intro H2 qa s2 ea
            have s12 := s1.trans s2
            refine ⟨_, rfl, _, rfl, sd, fs, x3, d3, rfl, hF.same s12, t3.kept (kept_same s12), b3, hc, by omega, ?_⟩
            cases hn : stepsB c fs d3 with
            | error n =>
              rw [hy, hn] at q
              exact fun H' d s3 nd e => ⟨true, T.te, fun _ a2 na => q H' (s12.trans s3), fun z => nomatch z⟩
            | ok hs3 =>
              intro H3 qb s3 eb
              have s13 := s12.trans s3
              rw [hy, hn] at q
              replace q : Res (if eqF gs hs3 = true then some gs else none) H Q := q
              refine ⟨_, rfl, _, rfl, qa, qb, gs, hs3, rfl, rfl, s3 _ _ ea, eb, _, rfl, ?_⟩
              cases he : eqF gs hs3 with
              | false =>
                rw [he] at q
                exact iteF (q H3 s13)
              | true =>
                rw [he] at q
                exact iteT ⟨_, rfl, q H3 qa s13 (s3 _ _ ea)⟩
end
end St6

set_option autoImplicit false
set_option maxHeartbeats 4000000
namespace St6
open PySem PySem.Spec PyProof.Rows L2 Tg Cc Nn
theorem at0 {x : V} {r : List V} : atI (x :: r) 0 = some x := atI_nat (j := 0) rfl
theorem lookV_cons (k : Str) (v : V) (r : List (Str × V)) (w : Str) : lookV ((k, v) :: r) w = if w = k then some v else lookV r w := by
  unfold lookV
  by_cases h : w = k
  · subst h
    rw [List.find?_cons_of_pos (by simp), if_pos rfl]
    rfl
  · rw [List.find?_cons_of_neg (by simpa using fun e : k = w => h e.symm), if_neg h]
def lenOf (w : Str) : Option Nat := if w = "rename" then some 2 else if w = "copy" then some 2 else if w = "drop" then some 1 else if w = "put" then some 3 else if w = "scale" then some 3 else if w = "sum" then some 2 else if w = "join" then some 2 else if w = "table" then some 4 else if w = "case" then some 4 else none
def lens : List (Str × V) := [("rename", .int 3), ("copy", .int 3), ("drop", .int 2), ("put", .int 4), ("scale", .int 4), ("sum", .int 3), ("join", .int 3), ("table", .int 5), ("case", .int 5)]
theorem look_len (w : Str) : lookV lens w = (lenOf w).map fun n => V.int ((n + 1 : Nat) : Int) := by
  unfold lens lenOf
  simp only [lookV_cons]
  repeat (split; rfl)
  rfl
def leadsV (f_rename f_copy f_drop f_put f_scale f_sum f_join f_table f_case : Addr) : List (Str × V) := [("rename", .ref f_rename), ("copy", .ref f_copy), ("drop", .ref f_drop), ("put", .ref f_put), ("scale", .ref f_scale), ("sum", .ref f_sum), ("join", .ref f_join), ("table", .ref f_table), ("case", .ref f_case)]
theorem look_lead {f_rename f_copy f_drop f_put f_scale f_sum f_join f_table f_case : Addr} (w : Str) : lookV (leadsV f_rename f_copy f_drop f_put f_scale f_sum f_join f_table f_case) w = if w = "rename" then some (.ref f_rename) else if w = "copy" then some (.ref f_copy) else if w = "drop" then some (.ref f_drop) else if w = "put" then some (.ref f_put) else if w = "scale" then some (.ref f_scale) else if w = "sum" then some (.ref f_sum) else if w = "join" then some (.ref f_join) else if w = "table" then some (.ref f_table) else if w = "case" then some (.ref f_case) else none := by
  unfold leadsV
  simp only [lookV_cons]
  rfl
theorem lead_len {rec : Fs → PyData → Except Nat Fs} {fs : Fs} {w : Str} {r : List PyData} (h : lenOf w ≠ some r.length) : leadB rec fs w r = none := by
  match r, h with
  | [], _ => rfl
  | [a], h =>
    show (if w = "drop" then dropB fs a else none) = none
    rw [if_neg fun e => h (by rw [e]; rfl)]
  | [a, b], h =>
    show (if w = "rename" then renameB fs a b else if w = "copy" then copyB fs a b else if w = "sum" then sumB fs a b else if w = "join" then joinB fs a b else none) = none
    rw [if_neg fun e => h (by rw [e]; rfl), if_neg fun e => h (by rw [e]; rfl), if_neg fun e => h (by rw [e]; rfl), if_neg fun e => h (by rw [e]; rfl)]
  | [a, b, c], h =>
    show (if w = "put" then putB fs a b c else if w = "scale" then scaleB fs a b c else none) = none
    rw [if_neg fun e => h (by rw [e]; rfl), if_neg fun e => h (by rw [e]; rfl)]
  | [a, b, c, d], h =>
    show (if w = "table" then tableB fs a b c d else if w = "case" then caseB rec fs a b c d else none) = none
    rw [if_neg fun e => h (by rw [e]; rfl), if_neg fun e => h (by rw [e]; rfl)]
  | _ :: _ :: _ :: _ :: _ :: _, _ => rfl
theorem lenOf_in {w : Str} {n : Nat} (h : lenOf w = some n) : w = "rename" ∨ w = "copy" ∨ w = "drop" ∨ w = "put" ∨ w = "scale" ∨ w = "sum" ∨ w = "join" ∨ w = "table" ∨ w = "case" := by
  unfold lenOf at h
  by_cases h0 : w = "rename"
  · exact .inl h0
  rw [if_neg h0] at h
  by_cases h1 : w = "copy"
  · exact .inr (.inl h1)
  rw [if_neg h1] at h
  by_cases h2 : w = "drop"
  · exact .inr (.inr (.inl h2))
  rw [if_neg h2] at h
  by_cases h3 : w = "put"
  · exact .inr (.inr (.inr (.inl h3)))
  rw [if_neg h3] at h
  by_cases h4 : w = "scale"
  · exact .inr (.inr (.inr (.inr (.inl h4))))
  rw [if_neg h4] at h
  by_cases h5 : w = "sum"
  · exact .inr (.inr (.inr (.inr (.inr (.inl h5)))))
  rw [if_neg h5] at h
  by_cases h6 : w = "join"
  · exact .inr (.inr (.inr (.inr (.inr (.inr (.inl h6))))))
  rw [if_neg h6] at h
  by_cases h7 : w = "table"
  · exact .inr (.inr (.inr (.inr (.inr (.inr (.inr (.inl h7)))))))
  rw [if_neg h7] at h
  by_cases h8 : w = "case"
  · exact .inr (.inr (.inr (.inr (.inr (.inr (.inr (.inr h8)))))))
  rw [if_neg h8] at h
  cases h
def recOf : Nat → Fs → PyData → Except Nat Fs
  | 0 => fun _ _ => .error 0
  | c + 1 => stepsB c
theorem steps_over (c : Nat) (fs : Fs) (d : PyData) : stepsB c fs d = overB (stepB (recOf c)) fs d := by cases c <;> rfl
def growS : Nat → PyData → Nat
  | 0, _ => 1
  | c + 1, d => 1 + ((items d).map (growB c)).sum
theorem grow_sum (c : Nat) (d : PyData) : growB c d = ((items d).map (growS c)).sum := by
  cases c with
  | zero =>
    show (items d).length = ((items d).map fun _ => 1).sum
    rw [sum_one]
  | succ c => rfl
theorem stepS_gro (c : Nat) {fs : Fs} {d : PyData} {gs : Fs} (h : stepB (recOf c) fs d = some gs) : Gro fs gs (growS c d) := by
  cases c with
  | zero => exact (step_gro (g := fun _ => 0) (fun _ _ _ h => by cases h) h).mono (by rw [sum_zero]; exact Nat.le_refl _)
  | succ c => exact step_gro (steps_gro c) h
def spStep (K : PySem.W.Frag) (c : Nat) : Sp := fun vs H Q _ => ∃ sd fs v d, vs = [.ref sd, v] ∧ Fd H sd fs ∧ Th K H v d ∧ Bd 1000 (2 * c) d ∧ c ≤ 9 ∧ fs.length + growS c d ≤ 1000000 ∧ Res (stepB (recOf c) fs d) H Q
def spCaseOf (K : PySem.W.Frag) : Nat → Sp
  | 0 => fun _ _ _ _ => False
  | c + 1 => spCase K c
theorem stepB_not {rec : Fs → PyData → Except Nat Fs} {fs : Fs} {d : PyData} (h : isTup d = false) : stepB rec fs d = none := by
  cases d <;> first | rfl | cases h
theorem stepB_nil {rec : Fs → PyData → Except Nat Fs} {fs : Fs} : stepB rec fs (.tuple []) = none := rfl
theorem stepB_word {rec : Fs → PyData → Except Nat Fs} {fs : Fs} {d : PyData} {r : List PyData} (h : isStr d = false) : stepB rec fs (.tuple (d :: r)) = none := by
  cases d <;> first | rfl | cases h
theorem held_of {P : Program} {w : World} {K : PySem.W.Frag} {mg : Str → Option Value} {base : Heap} {x : Str} {j k : Nat} {ps : List Str} {sp : Sp} {f : Addr} {fd : FuncData} (h : Cl P w K mg base CX0 x j ps sp f fd) (le : j ≤ k) : Held P w K mg base k f sp :=
  ⟨fd, ps, ⟨fun vs H Q E a => h.ok.len vs H Q E a, fun A outer s H args us vs Q E hr he hb hv a => h.ok.run A outer s H args us vs Q E (hr.mono le) he hb hv a⟩, h.kp, h.b⟩
section
variable {P : Program} {w : World} {K : PySem.W.Frag} {mg : Str → Option Value} {base : Heap} {C fI : Addr} {fdI : FuncData} {c : Nat}
theorem scbstep : FnScope ["sorts", "step", "lead"] ["sorts", "step"] (defScope sSortsBehindStep) := ⟨rfl, rfl, rfl, by decide +kernel, rfl, by decide +kernel, by decide +kernel⟩
theorem ok_bstep {f : Addr} {fd : FuncData} (F : FnP K "_sorts_behind_step" sSortsBehindStep f fd)  (mb_isinstance : mg "isinstance" = none) (mb_tuple : mg "tuple" = none) (mb_str : mg "str" = none) (mb_len : mg "len" = none) {aL aD f_rename f_copy f_drop f_put f_scale f_sum f_join f_table f_case : Addr} (m_LENGTHS : mg "LENGTHS" = some (.ref aL)) (hL_ : KTab K w aL lens) (m_LEADS : mg "LEADS" = some (.ref aD)) (hD_ : KTab K w aD (leadsV f_rename f_copy f_drop f_put f_scale f_sum f_join f_table f_case)) (H_rename : Held P w K mg base (6 + 3 * c) f_rename (spLead K (recOf c) "rename" 2)) (H_copy : Held P w K mg base (6 + 3 * c) f_copy (spLead K (recOf c) "copy" 2)) (H_drop : Held P w K mg base (6 + 3 * c) f_drop (spLead K (recOf c) "drop" 1)) (H_put : Held P w K mg base (6 + 3 * c) f_put (spLead K (recOf c) "put" 3)) (H_scale : Held P w K mg base (6 + 3 * c) f_scale (spLead K (recOf c) "scale" 3)) (H_sum : Held P w K mg base (6 + 3 * c) f_sum (spLead K (recOf c) "sum" 2)) (H_join : Held P w K mg base (6 + 3 * c) f_join (spLead K (recOf c) "join" 2)) (H_table : Held P w K mg base (6 + 3 * c) f_table (spLead K (recOf c) "table" 4)) (H_case : Held P w K mg base (6 + 3 * c) f_case (spCaseOf K c))  : FnOk P w K mg base CX0 (6 + 3 * c + 1) f fd ["sorts", "step"] (spStep K c) := by
  refine F.ok scbstep (fun vs H Q E h => ?_) (fun cdv A outer s H vs Q E hr h => ?_)
  · obtain ⟨sd, fs, v, d, rfl, _⟩ := h
    rfl
  · obtain ⟨sd, fs, v, d, rfl, hF, hT, hB, hc, hg, q⟩ := h
    have hu := hu_of hr
    have hs := szl
    refine ⟨_, PSs.nox (pss_cons (ps_if (PW.pt (pw_or (pt_not (pt_val (pe_callB call_isi (by rfl) mb_isinstance (by decide +kernel) (pa_cons (pv 1) (pa_cons (pe_bltn (v := .ty "tuple") (by rfl) mb_tuple (by decide +kernel) rfl) pa_nil))))) (pw_or (pt_not (pt_truth (pv 1) (by intro _; rfl))) (pw_or1 (pt_not (pt_val (pe_callB call_isi (by rfl) mb_isinstance (by decide +kernel) (pa_cons (pe_ix Cc.ix_B (pv 1) (pe_int) (fun _ _ => rfl)) (pa_cons (pe_bltn (v := .ty "str") (by rfl) mb_str (by decide +kernel) rfl) pa_nil))))))))) (pss_one (ps_ret (pe_non))) (pss_nil))
      (pss_cons (ps_if (pt_cmpR op_ne (Nn.pe_kget2 (pe_glob (v := .ref aL) rfl m_LENGTHS rfl) (pe_ix Cc.ix_B (pv 1) (pe_int) (fun _ _ => rfl)) (pe_int) ⟨by rfl, by rfl, by rfl, by rfl⟩) (pe_callB call_len (by rfl) mb_len (by decide +kernel) (pa_cons (pv 1) pa_nil)) (nomark _)) (pss_one (ps_ret (pe_non))) (pss_nil))
      (pss_cons (ps_set (i := 2) scbstep.nd rfl (Or.inl rfl) (pe_ix Nn.ix_ktab (pe_glob (v := .ref aD) rfl m_LEADS rfl) (pe_ix Cc.ix_B (pv 1) (pe_int) (fun _ _ => rfl)) (fun _ _ => rfl)))
      (pss_one (ps_ret (Nn.pe_callH (k := 6 + 3 * c) (i := 2) hr rfl (Or.inl rfl) (pa_cons (pv 0) (pa_cons (pv 1) pa_nil)))))))), ?_⟩
    refine ⟨_, rfl, v, .ty "tuple", _, _, _, rfl, .ty "tuple", hT.ty, kit_ty (kit_tup d), _, rfl, ?_⟩
    cases ht : isTup d with
    | false =>
      rw [stepB_not ht] at q
      exact iteT (iteT (q H (Same.refl H)))
    | true =>
      obtain ⟨ds, rfl⟩ := isTup_eq ht
      obtain ⟨a, xs, rfl, hx, hA⟩ := hT.asTup
      have lx := hA.len
      refine iteF ⟨_, rfl, _, .inr (.inl ⟨xs, hx, rfl⟩), ?_⟩
      match ds, xs, hA, lx with
      | [], xs, hA, lx =>
        obtain rfl := hA.nil_of
        rw [stepB_nil] at q
        exact iteT (iteT (q H (Same.refl H)))
      | d0 :: r, xs, hA, lx =>
        obtain ⟨x0, ys, rfl, t0, hY⟩ := hA.cons_of
        refine iteF ⟨_, rfl, true, a, _, 0, x0, rfl, rfl, hx, at0, x0, .ty "str", _, _, _, rfl, .ty "str", t0.ty, kit_ty (kit_str d0), _, rfl, ?_⟩
        cases hs0 : isStr d0 with
        | false =>
          rw [stepB_word hs0] at q
          exact iteT (q H (Same.refl H))
        | true =>
          obtain ⟨wd, rfl⟩ := isStr_eq hs0
          obtain rfl := t0.asStr
          replace q : Res (leadB (recOf c) fs wd r) H Q := q
          refine iteF ?_
          have ll : (V.str wd :: ys).length = r.length + 1 := lx
          refine ⟨aL, lens, rfl, hL_, _, rfl, true, a, _, 0, _, rfl, rfl, hx, at0, wd, rfl, _, rfl, _, _, rfl, .inr ⟨_, hx, rfl⟩, ?_⟩
          rw [look_len]
          cases hln : lenOf wd with
          | none =>
            rw [lead_len (by rw [hln]; exact fun z => by cases z)] at q
            refine ⟨rfl, _, rfl, ?_⟩
            refine (show if (!decide (V.int 0 = V.int ((V.str wd :: ys).length : Nat))) = true then _ else _ from ?_)
            rw [dec_int, ll, decide_eq_false (by omega)]
            exact iteT (q H (Same.refl H))
          | some n =>
            refine ⟨rfl, _, rfl, ?_⟩
            refine (show if (!decide (V.int ((n + 1 : Nat) : Int) = V.int ((V.str wd :: ys).length : Nat))) = true then _ else _ from ?_)
            rw [dec_int, ll]
            by_cases hn : n = r.length
            · rw [decide_eq_true (by omega)]
              refine iteF ?_
              have hr2 : r.length = n := hn.symm
              have okr : ∀ x ∈ r, Ok x := fun x hx => ((Bd.tup hB).2 x (List.mem_cons_of_mem _ hx)).mono (Nat.le_refl _) (by omega)
              subst hn
              rcases lenOf_in hln with rfl | rfl | rfl | rfl | rfl | rfl | rfl | rfl | rfl
              · exact ⟨_, rfl, true, a, _, 0, _, rfl, rfl, hx, at0, aD, _, _, .ref f_rename, rfl, rfl, hD_, by rw [look_lead]; rfl, f_rename, _, rfl, H_rename, _, rfl, _, rfl, sd, fs, .ref a, r, rfl, hF, hT, (Option.some.inj hln).symm, okr, q⟩
              · exact ⟨_, rfl, true, a, _, 0, _, rfl, rfl, hx, at0, aD, _, _, .ref f_copy, rfl, rfl, hD_, by rw [look_lead]; rfl, f_copy, _, rfl, H_copy, _, rfl, _, rfl, sd, fs, .ref a, r, rfl, hF, hT, (Option.some.inj hln).symm, okr, q⟩
              · exact ⟨_, rfl, true, a, _, 0, _, rfl, rfl, hx, at0, aD, _, _, .ref f_drop, rfl, rfl, hD_, by rw [look_lead]; rfl, f_drop, _, rfl, H_drop, _, rfl, _, rfl, sd, fs, .ref a, r, rfl, hF, hT, (Option.some.inj hln).symm, okr, q⟩
              · exact ⟨_, rfl, true, a, _, 0, _, rfl, rfl, hx, at0, aD, _, _, .ref f_put, rfl, rfl, hD_, by rw [look_lead]; rfl, f_put, _, rfl, H_put, _, rfl, _, rfl, sd, fs, .ref a, r, rfl, hF, hT, (Option.some.inj hln).symm, okr, q⟩
              · exact ⟨_, rfl, true, a, _, 0, _, rfl, rfl, hx, at0, aD, _, _, .ref f_scale, rfl, rfl, hD_, by rw [look_lead]; rfl, f_scale, _, rfl, H_scale, _, rfl, _, rfl, sd, fs, .ref a, r, rfl, hF, hT, (Option.some.inj hln).symm, okr, q⟩
              · exact ⟨_, rfl, true, a, _, 0, _, rfl, rfl, hx, at0, aD, _, _, .ref f_sum, rfl, rfl, hD_, by rw [look_lead]; rfl, f_sum, _, rfl, H_sum, _, rfl, _, rfl, sd, fs, .ref a, r, rfl, hF, hT, (Option.some.inj hln).symm, okr, q⟩
              · exact ⟨_, rfl, true, a, _, 0, _, rfl, rfl, hx, at0, aD, _, _, .ref f_join, rfl, rfl, hD_, by rw [look_lead]; rfl, f_join, _, rfl, H_join, _, rfl, _, rfl, sd, fs, .ref a, r, rfl, hF, hT, (Option.some.inj hln).symm, okr, q⟩
              · exact ⟨_, rfl, true, a, _, 0, _, rfl, rfl, hx, at0, aD, _, _, .ref f_table, rfl, rfl, hD_, by rw [look_lead]; rfl, f_table, _, rfl, H_table, _, rfl, _, rfl, sd, fs, .ref a, r, rfl, hF, hT, (Option.some.inj hln).symm, okr, q⟩
              · refine ⟨_, rfl, true, a, _, 0, _, rfl, rfl, hx, at0, aD, _, _, .ref f_case, rfl, rfl, hD_, by rw [look_lead]; rfl, f_case, _, rfl, H_case, _, rfl, _, rfl, ?_⟩
                cases c with
                | zero => exact hB.elim
                | succ c =>
                  refine ⟨sd, fs, .ref a, r, rfl, hF, hT, (Option.some.inj hln).symm, fun x hx => hB.2 x (List.mem_cons_of_mem _ hx), by omega, ?_, q⟩
                  have e : growS (c + 1) (.tuple (.str (Str.ofString "case") :: r)) = 1 + (growB c (.str (Str.ofString "case")) + (r.map (growB c)).sum) := rfl
                  rw [e] at hg
                  omega
            · rw [lead_len (by rw [hln]; exact fun z => hn (Option.some.inj z))] at q
              rw [decide_eq_false (by omega)]
              exact iteT (q H (Same.refl H))
end
end St6

set_option autoImplicit false
set_option maxHeartbeats 4000000
namespace St6
open PySem PySem.Spec PyProof.Rows L2 Tg Cc Nn
def isSeq2 (d : PyData) : Bool := isLst d || isTup d
theorem kit_seq2 {K : PySem.W.Frag} (d : PyData) : PySem.W.kitAny K (.type (tyOf d)) [.type "list", .type "tuple"] = some (isSeq2 d) := by
  refine kitAny_cons (kit_ty (kit_lst d)) (fun h1 => kitAny_cons (kit_ty (kit_tup d)) (fun h2 => ?_) (fun h2 => ?_)) (fun h1 => ?_) <;> unfold isSeq2
  · rw [h1, h2]
    rfl
  · rw [h2, Bool.or_true]
  · rw [h1, Bool.true_or]
theorem steps_not {c : Nat} {fs : Fs} {d : PyData} (h : isSeq2 d = false) : stepsB c fs d = .error 0 := by
  rw [steps_over]
  cases d <;> first | rfl | cases h
theorem go_nil (st : Fs → PyData → Option Fs) (i : Nat) (fs : Fs) : goB st i fs [] = .ok fs := rfl
theorem go_cons (st : Fs → PyData → Option Fs) (i : Nat) (fs : Fs) (d : PyData) (r : List PyData) : goB st i fs (d :: r) = (match st fs d with
  | some gs => goB st (i + 1) gs r
  | none => .error i) := rfl
theorem Fd.gro {H : Hp} {p : Addr} {fs gs : Fs} {n : Nat} (g : Gro fs gs n) (nd : (fs.map Prod.fst).Nodup) (l : fs.length + n ≤ 1000000) (h : H p = some (.dK (kvsOf gs))) : Fd H p gs :=
  ⟨h, (g nd).1, by have := (g nd).2; omega⟩
section
variable {P : Program} {w : World} {K : PySem.W.Frag} {mg : Str → Option Value} {base : Heap} {C fI : Addr} {fdI : FuncData} {c : Nat}
theorem scbsorts : FnScope ["sorts", "steps", "at", "step"] ["sorts", "steps"] (defScope sSortsBehind) := ⟨rfl, rfl, rfl, by decide +kernel, rfl, by decide +kernel, by decide +kernel⟩
theorem ok_bsorts {f : Addr} {fd : FuncData} (F : FnP K "_sorts_behind" sSortsBehind f fd) {f__sorts_behind_step : Addr} {fd__sorts_behind_step : FuncData} (c__sorts_behind_step : Cl P w K mg base CX0 "_sorts_behind_step" (6 + 3 * c + 1) ["sorts", "step"] (spStep K c) f__sorts_behind_step fd__sorts_behind_step) (mb_isinstance : mg "isinstance" = none) (mb_list : mg "list" = none) (mb_tuple : mg "tuple" = none) (mb_enumerate : mg "enumerate" = none)  (T : BadS K mg C fI fdI) : FnOk P w K mg base (L2.CX P w) (7 + 3 * c + 1) f fd ["sorts", "steps"] (spSorts K C c) := by
  refine F.ok scbsorts (fun vs H Q E h => ?_) (fun cdv A outer s H vs Q E hr h => ?_)
  · obtain ⟨sd, fs, v, d, rfl, _⟩ := h
    rfl
  · obtain ⟨sd, fs, v, d, rfl, hF, hT, hB, hc, hg, q⟩ := h
    have hu := hu_of hr
    have hs := szl
    have GI : FnOk P w K mg base CX0 1 fI fdI ["self", "at"] (spInit K C) := ok_init T
    have hr2 : Room 2 _ := hr.mono (by omega)
    refine ⟨_, pss_cons (ps_if (pt_not (pt_val (pe_callB call_isiT (by rfl) mb_isinstance (by decide +kernel) (pa_cons (pv 1) (pa_cons (pe_tup (pa_cons (pe_bltn (v := .ty "list") (by rfl) mb_list (by decide +kernel) rfl) ( pa_cons (pe_bltn (v := .ty "tuple") (by rfl) mb_tuple (by decide +kernel) rfl) (pa_nil)))) pa_nil))))) (pss_one (ps_raise rfl (takes_of rfl rfl rfl rfl) (pmk_oex T.ox T.iC T.tI GI hr2 (bindI T) .nil pass0 (by rfl) T.g (pa_cons (pe_int) pa_nil)))) (pss_nil))
      (pss_cons (ps_for PassesOwn.leaving rfl (En.pi_enumA (by rfl) mb_enumerate (pa_cons (pv 1) pa_nil)) (pg_tup rfl (pgs_cons (pg_name (i := 2) scbsorts.nd rfl (Or.inl rfl)) (pgs_cons (pg_name (i := 3) scbsorts.nd rfl (Or.inl rfl)) (pgs_nil)))) (pss_cons (ps_set (i := 0) scbsorts.nd rfl (Or.inl rfl) (pe_call c__sorts_behind_step.ok (hr.mono (by omega)) (by rfl) c__sorts_behind_step.m c__sorts_behind_step.kp c__sorts_behind_step.b .nil pass0 (pa_cons (pv 0) (pa_cons (pv 3) pa_nil))))
      (pss_one (ps_if (pt_cmpR op_isN (pv 0) (pe_non) (nomark _)) (pss_one (ps_raise rfl (takes_of rfl rfl rfl rfl) (pmk_oex T.ox T.iC T.tI GI hr2 (bindI T) .nil pass0 (by rfl) T.g (pa_cons (pv 2) pa_nil)))) (pss_nil)))))
      (pss_one (ps_ret (pv 0)))), ?_⟩
    refine ⟨_, rfl, (by show 2 ≤ sizeLine; decide), fun tp nt => ⟨v, tp, _, _, _, _, rfl, upd_same, .cons (.ty _) (.cons (.ty _) .nil), (hT.kept (kept_same (newS nt))).ty, kit_seq2 _, _, rfl, ?_⟩⟩
    have s1 := newS (o := .tup [.ty "list", .ty "tuple"]) nt
    have hT1 := hT.kept (kept_same s1)
    generalize upd H tp (.tup [.ty "list", .ty "tuple"]) = H1 at s1 hT1 ⊢
    clear hT
    cases hs2 : isSeq2 d with
    | false =>
      rw [steps_not hs2] at q
      exact iteT (out_of (Out.later q s1))
    | true =>
      rw [grow_sum] at hg
      rw [steps_over] at q
      cases d with
      | list ds =>
        obtain ⟨a, xs, rfl, hx, hA⟩ := hT1.asLst
        have lx := hA.len
        replace q : SRes C (goB (stepB (recOf c)) 0 fs ds) H Q E := q
        replace hg : fs.length + (ds.map (growS c)).sum ≤ 1000000 := hg
        have fin : SRes C (goB (stepB (recOf c)) 0 fs ds) H1 Q E := by
          cases hgo : goB (stepB (recOf c)) 0 fs ds with
          | ok gs =>
            rw [hgo] at q
            exact fun H' p s2 e => q H' p (s1.trans s2) e
          | error n =>
            rw [hgo] at q
            exact Out.later q s1
        refine iteF ⟨_, rfl, a, xs, rfl, .inl ⟨hx, for_it (walk_enum (K := K) (a := a) (xs := xs)) (fun i σ' H' => (∃ sdi fsi x2 x3, σ' = [some (.ref sdi), some (.ref a), x2, x3] ∧ Fd H' sdi fsi ∧ goB (stepB (recOf c)) i fsi (ds.drop i) = goB (stepB (recOf c)) 0 fs ds ∧ fsi.length + ((ds.drop i).map (growS c)).sum ≤ 1000000) ∧ Same H1 H')
          ⟨⟨sd, fs, _, _, rfl, hF.same s1, rfl, hg⟩, Same.refl H1⟩ (fun i σ' H' _ ⟨_, s2⟩ => Sq.same (t := false) hx s2) ?_ ?_⟩⟩
        · rintro i x σ' H2 H3 hi ⟨⟨sdi, fsi, y2, y3, rfl, hFi, hgo, hlen⟩, s2⟩ ⟨T2, x0, x1, rfl, nT, rfl, ex, ey⟩
          obtain ⟨d, hd, td, md⟩ := ThAll.get2 hA ey
          obtain rfl : V.int (i : Nat) = x0 := Option.some.inj ex
          have hdr : ds.drop i = d :: ds.drop (i + 1) := by
            obtain ⟨hlt, e⟩ := List.getElem?_eq_some_iff.mp hd
            rw [List.drop_eq_getElem_cons hlt, e]
          rw [hdr, List.map_cons, List.sum_cons] at hlen
          rw [hdr, go_cons] at hgo
          have sT := newS (o := .tup [V.int (i : Nat), x1]) nT
          have s3 := s2.trans sT
          refine ⟨T2, _, rfl, SqT.of upd_same, rfl, _, _, rfl, _, _, rfl, rfl, ?_⟩
          refine ⟨_, rfl, _, rfl, sdi, fsi, x1, d, rfl, hFi.same sT, td.kept (kept_same s3), hB.2 d md, hc, by omega, ?_⟩
          cases hst : stepB (recOf c) fsi d with
          | none =>
            rw [hst] at hgo
            rw [← hgo] at fin
            exact fun H4 s4 => ⟨_, rfl, rfl, _, rfl, iteT ⟨_, rfl, out_of (Out.later fin (s3.trans s4))⟩⟩
          | some gs =>
            rw [hst] at hgo
            have gr := stepS_gro c hst
            exact fun H4 q4 s4 e4 => ⟨_, rfl, rfl, _, rfl, iteF ⟨⟨q4, gs, _, _, rfl, Fd.gro gr hFi.nd (by omega) e4, hgo, by have := (gr hFi.nd).2; omega⟩, s3.trans s4⟩⟩
        · rintro σ' H2 ⟨⟨sdi, fsi, y2, y3, rfl, hFi, hgo, hlen⟩, s2⟩
          rw [lx, List.drop_length, go_nil] at hgo
          rw [← hgo] at fin
          exact ⟨_, rfl, fin H2 sdi s2 hFi.at_⟩
    
      | tuple ds =>
        obtain ⟨a, xs, rfl, hx, hA⟩ := hT1.asTup
        have lx := hA.len
        replace q : SRes C (goB (stepB (recOf c)) 0 fs ds) H Q E := q
        replace hg : fs.length + (ds.map (growS c)).sum ≤ 1000000 := hg
        have fin : SRes C (goB (stepB (recOf c)) 0 fs ds) H1 Q E := by
          cases hgo : goB (stepB (recOf c)) 0 fs ds with
          | ok gs =>
            rw [hgo] at q
            exact fun H' p s2 e => q H' p (s1.trans s2) e
          | error n =>
            rw [hgo] at q
            exact Out.later q s1
        refine iteF ⟨_, rfl, a, xs, rfl, .inr ⟨hx, for_it (En.walk_enumT (K := K) (a := a) (xs := xs)) (fun i σ' H' => (∃ sdi fsi x2 x3, σ' = [some (.ref sdi), some (.ref a), x2, x3] ∧ Fd H' sdi fsi ∧ goB (stepB (recOf c)) i fsi (ds.drop i) = goB (stepB (recOf c)) 0 fs ds ∧ fsi.length + ((ds.drop i).map (growS c)).sum ≤ 1000000) ∧ Same H1 H')
          ⟨⟨sd, fs, _, _, rfl, hF.same s1, rfl, hg⟩, Same.refl H1⟩ (fun i σ' H' _ ⟨_, s2⟩ => Sq.same (t := true) hx s2) ?_ ?_⟩⟩
        · rintro i x σ' H2 H3 hi ⟨⟨sdi, fsi, y2, y3, rfl, hFi, hgo, hlen⟩, s2⟩ ⟨T2, x0, x1, rfl, nT, rfl, ex, ey⟩
          obtain ⟨d, hd, td, md⟩ := ThAll.get2 hA ey
          obtain rfl : V.int (i : Nat) = x0 := Option.some.inj ex
          have hdr : ds.drop i = d :: ds.drop (i + 1) := by
            obtain ⟨hlt, e⟩ := List.getElem?_eq_some_iff.mp hd
            rw [List.drop_eq_getElem_cons hlt, e]
          rw [hdr, List.map_cons, List.sum_cons] at hlen
          rw [hdr, go_cons] at hgo
          have sT := newS (o := .tup [V.int (i : Nat), x1]) nT
          have s3 := s2.trans sT
          refine ⟨T2, _, rfl, SqT.of upd_same, rfl, _, _, rfl, _, _, rfl, rfl, ?_⟩
          refine ⟨_, rfl, _, rfl, sdi, fsi, x1, d, rfl, hFi.same sT, td.kept (kept_same s3), hB.2 d md, hc, by omega, ?_⟩
          cases hst : stepB (recOf c) fsi d with
          | none =>
            rw [hst] at hgo
            rw [← hgo] at fin
            exact fun H4 s4 => ⟨_, rfl, rfl, _, rfl, iteT ⟨_, rfl, out_of (Out.later fin (s3.trans s4))⟩⟩
          | some gs =>
            rw [hst] at hgo
            have gr := stepS_gro c hst
            exact fun H4 q4 s4 e4 => ⟨_, rfl, rfl, _, rfl, iteF ⟨⟨q4, gs, _, _, rfl, Fd.gro gr hFi.nd (by omega) e4, hgo, by have := (gr hFi.nd).2; omega⟩, s3.trans s4⟩⟩
        · rintro σ' H2 ⟨⟨sdi, fsi, y2, y3, rfl, hFi, hgo, hlen⟩, s2⟩
          rw [lx, List.drop_length, go_nil] at hgo
          rw [← hgo] at fin
          exact ⟨_, rfl, fin H2 sdi s2 hFi.at_⟩
    
      | _ => cases hs2
end
end St6

set_option maxHeartbeats 2000000
/-! dict(pairs) of a tuple of pairs -/
namespace Nn
open PySem PySem.Spec PyProof.Rows L2
theorem tuple_keys_none : typeLookup (.type "tuple") "keys" = pure none := am_miss_of_fast (by first | decide +kernel | rfl)
section
variable {prog : Program} {w : World} {A : Around} {E : Value → Shared → Prop}
/-- a list has no attribute 'keys': an AttributeError is made, and forgotten -/
theorem miss_tuple {s : Shared} {a : Addr} {o : Obj} {xs : Array Value} {k : Nat} {Q : Option Value → Shared → Prop} (hx : s.heap.get? a = some o) (hc : o.cls = .type "tuple") (hdat : o.data = .seq xs k) (hd : o.dict = none) (hA : A.handled = none)
    (h : ∀ h' tk, (∀ b ob, s.heap.get? b = some ob → h'.get? b = some ob) → Q none { s with heap := h', toks := tk }) : wpAny (model prog w) A (getAttr? (.ref a) "keys") Q E s := by
  obtain ⟨c, dct, dat, sl⟩ := o
  simp only at hc hdat hd
  subst hc hdat hd
  obtain ⟨hp, g, d, tk, os⟩ := s
  have hT : ∀ tk', (⟨hp, g, d, tk', os⟩ : Shared).TypeIs (.ref a) "tuple" := fun _ => ⟨_, hx, rfl⟩
  have hmiss := tuple_keys_none
  have hname : (["__module__", "__name__", "__qualname__", "__doc__", "__annotations__"] : List Str).contains "keys" = false := by decide +kernel
  have hsz : ("keys" : Str).length + 100 ≤ sizeLine := by first | size_fits | decide +kernel
  have f1 := sub_AttributeError
  have f3 := PySem.F.slot_tuple_getattribute.lookup
  have f4 := PySem.F.slot_tuple_getattribute.bind (.ref a)
  have f5 := am_tuple_getattr_none
  unfold getAttr? getAttrBy? getAttrBy
  repeat (any_goals (first | assumption | exact hT _ | ((with_reducible show wpAny _ _ (call (Value.builtin "tuple.__getattribute__") _ _) _ _ _); refine call_meets PySem.F.slot_tuple_getattribute (hT _) am_entry_tuple_getattribute (PySem.F.args_tuple_getattribute_2 _ _) (meets_getattribute_miss_tuple a xs k sl "keys" _ hmiss hname hsz) ⟨hx, hA, fun h' tk' e hx' => ?_⟩) | wp_step))
  obtain ⟨t', u', he⟩ := hx'.there
  show wpAny _ _ (getattributeRaised _ _ _ _ _ _ _) _ _ _
  unfold getattributeRaised
  repeat (any_goals (first | assumption | wp_step))
  all_goals first | exact h _ _ hx'.keeps | (dsimp only; repeat (any_goals (first | assumption | exact h _ _ hx'.keeps | wp_step)))

/-- the walk over the pairs -/
theorem upd_loopT {R : Result → Shared → Prop} {S I l : Addr} {items : Array Value} {res : Value} (hh : A.handled = none) (hlI : l ≠ I) (hSI : S ≠ I) (hSl : S ≠ l) :
    ∀ (rest : List (Key × Value)) (i : Nat) (acc : List (Key × Value)) (ix : Int) (t : Tok) (s : Shared), items.size = i + rest.length → acc.length + rest.length ≤ sizeLine →
      (∀ (j : Nat) (q : Key × Value), rest[j]? = some q → ∃ (b : Addr) (u : Value), items[i + j]? = some (.ref b) ∧ b ≠ S ∧ b ≠ I ∧ IsTup s.heap b #[u, q.2] ∧ keyIs q.1 u = true) →
      s.heap.IsTupleIter I l i → s.heap.IsTuple l items → s.heap.DictOf (mixKind prog w) S acc →
      (∀ h' tk, h'.DictOf (mixKind prog w) S (merged acc rest) → (∀ b o, b ≠ S → b ≠ I → s.heap.get? b = some o → h'.get? b = some o) → R (.ok (.ret res)) { s with heap := h', toks := tk }) →
      codeAny (model prog w) A (.builtin "dict.update.loop" ⟨[.ref S, .ref I, .int ix t, res], []⟩) R s
  | [], i, acc, ix, t, s, hsz, hln, ht, hit, hl, hm, hR => by
    refine codeAny_builtin ud_entry ?_
    rw [Around.under_plainId ud_plain _]
    show wpAny _ A.in1 (pyNext (.ref I) >>= _) _ _ s
    refine wpAny_bind (wpAny_pyNext_tuple_end (A := A.in1) hh hit hl (by first | exact Array.getElem?_eq_none (Nat.le_of_eq hsz) | (simp at hsz; simp; omega)) fun h' he => ?_)
    show wpAny _ A.in1 (Builtin.Dict.addKeywords S [] >>= _) _ _ _
    refine wpAny_bind (wpAny_pure (wpAny_pure ?_))
    exact hR h' s.toks (hm.extBut he hSI) fun b o _ hb e => he b o hb e
  | q :: rest, i, acc, ix, t, s, hsz, hln, ht, hit, hl, hm, hR => by
    obtain ⟨b, u, hb, hbS, hbI, htup, hk⟩ := ht 0 q rfl
    rw [List.length_cons] at hsz hln
    refine codeAny_builtin ud_entry ?_
    rw [Around.under_plainId ud_plain _]
    show wpAny _ A.in1 (pyNext (.ref I) >>= _) _ _ s
    refine wpAny_bind (wpAny_pyNext_tuple_item (x := .ref b) hit hl (by simpa using hb) fun h1 hit1 hs1 => ?_)
    have ht1 : IsTup h1 b #[u, q.2] := htup.extBut hs1.extBut hbI
    have hl1 : h1.IsTuple l items := hl.extBut hs1.extBut hlI
    have hm1 : h1.DictOf (mixKind prog w) S acc := hm.extBut hs1.extBut hSI
    obtain ⟨o, ho, hc, n, hd⟩ := id ht1
    show wpAny _ A.in1 (holding [Value.ref b] _ >>= _) _ _ _
    refine wpAny_bind (wpAny_holding ?_)
    refine wpAny_bind (wpAny_tryCatch ?_)
    unfold Builtin.Dict.pairItems
    refine wpAny_bind (wpAny_typeOf (T := "tuple") ⟨o, ho, hc⟩ ?_)
    rw [if_pos (by first | decide | rfl | simp)]
    refine wpAny_bind (wpAny_seqItems ho hd (wpAny_pure ?_))
    show wpAny _ A.in1 (holding [u, q.2] (dictSet S u q.2)) _ _ _
    refine wpAny_holding (wpAny_dictSet_pairs (knd := mixKind prog w) (k := q.1) hk hm1 (fun h2 hm2 hs2 => ?_) (by omega))
    refine wpAny_pure ⟨plainId_quiet ud_plain _, upd_loopT (items := items) hh hlI hSI hSl rest (i + 1) (stored acc q.1 q.2) (ix + 1) 0 _ (show items.size = i + 1 + rest.length by omega) ?_ (fun j q' e => ?_) ?_ ?_ hm2 fun h' tk hd' k => ?_⟩
    · have z := stored_length_le acc q.1 q.2
      omega
    · obtain ⟨b', u', hb', hbS', hbI', htup', hk'⟩ := ht (j + 1) q' (by simpa using e)
      refine ⟨b', u', ?_, hbS', hbI', (htup'.extBut hs1.extBut hbI').extBut hs2.extBut hbS', hk'⟩
      rw [show i + 1 + j = i + (j + 1) by omega]
      exact hb'
    · exact hit1.at fun o' e => hs2.extBut I o' (Ne.symm hSI) e
    · exact hl1.extBut hs2.extBut (Ne.symm hSl)
    · exact hR h' tk hd' fun c oc h3 h4 e => k c oc h3 h4 (hs2.extBut c oc h3 (hs1.extBut c oc h4 e))

/-- dict(l) of a list of pairs -/
theorem call_dict_pairsT {s : Shared} {l : Addr} {ol : Obj} {items : Array Value} {n : Nat} {prs : List (Key × Value)} {Q : Value → Shared → Prop} (hh : A.handled = none) (hl : s.heap.get? l = some ol) (hc : ol.cls = .type "tuple") (hd : ol.dict = none)
    (hdat : ol.data = .seq items n) (hsz : items.size = prs.length) (hln : prs.length ≤ sizeLine)
    (ht : ∀ (j : Nat) (q : Key × Value), prs[j]? = some q → ∃ (b : Addr) (u : Value), items[j]? = some (.ref b) ∧ IsTup s.heap b #[u, q.2] ∧ keyIs q.1 u = true)
    (h : ∀ h' tk, h'.DictOf (mixKind prog w) s.heap.objs.size (merged [] prs) → (∀ b o, s.heap.get? b = some o → h'.get? b = some o) → Q (.ref s.heap.objs.size) { s with heap := h', toks := tk }) :
    wpAny (model prog w) A (call (.type "dict") [.ref l]) Q E s := by
  refine callType_codes (Q₁ := fun obj s₁ => obj = .ref s.heap.objs.size ∧ s₁ = { s with heap := s.heap.push { cls := .type "dict", data := .dict #[] } }) PySem.F.kt_called_dict (PySem.F.kt_typeCall_dict_1 _) PySem.F.entry_dict_init (kt_code_dict_new _ ⟨rfl, rfl⟩) ?_
  rintro obj s₁ ⟨rfl, rfl⟩
  have hnew : (s.heap.push { cls := .type "dict", data := .dict #[] }).DictOf (mixKind prog w) s.heap.objs.size [] := Heap.DictOf.new s.heap
  have k0 : ∀ b o, s.heap.get? b = some o → (s.heap.push { cls := .type "dict", data := .dict #[] }).get? b = some o := fun b o e => Heap.get?_push_of_some _ e
  refine ⟨hnew.typeIs, PySem.F.args_dict_init_2 _ _, ?_⟩
  unfold Builtin.«dict.__init__»
  refine wpAny_bind ?_
  unfold Builtin.Dict.selfAndRest
  refine wpAny_bind (wpAny_notOrdered_dict hnew.typeIs ?_)
  show wpAny _ _ (pure (s.heap.objs.size, [Value.ref l])) _ _ _
  refine wpAny_pure ?_
  show wpAny _ _ (Builtin.Dict.updateFrom "dict.__init__" s.heap.objs.size (.ref l) [] .none) _ _ _
  unfold Builtin.Dict.updateFrom
  refine wpAny_bind (wpAny_typeOf (T := "tuple") ⟨ol, k0 _ _ hl, hc⟩ ?_)
  rw [if_pos (by first | decide | rfl | simp)]
  refine wpAny_bind (miss_tuple (k0 _ _ hl) hc hdat hd hh fun h1 tk1 hk1 => ?_)
  rw [if_pos (show (none : Option Value).isNone = true from rfl)]
  refine wpAny_bind (wpAny_rule ?_)
  have hl1 : h1.IsTuple l items := ⟨ol, hk1 _ _ (k0 _ _ hl), hc, n, hdat⟩
  have hS1 : s.heap.objs.size < h1.objs.size := by
    have e : (s.heap.push { cls := .type "dict", data := .dict #[] }).get? s.heap.objs.size = some { cls := .type "dict", data := .dict #[] } := Heap.get?_push_size _ rfl
    exact Heap.lt_size (hk1 _ _ e)
  refine wpAny_bind (wpAny_pyIter_tuple hl1 ?_)
  have k2 : ∀ b o, h1.get? b = some o → (h1.push { cls := .type "tuple_iterator", data := .fields #[.ref l, .int 0 0] }).get? b = some o := fun b o e => Heap.get?_push_of_some _ e
  have hlt : l < s.heap.objs.size := Heap.lt_size hl
  have key := upd_loopT (prog := prog) (w := w) (A := A.in1) (R := wants (fun r s₂ => r = .none ∧ Q (.ref s.heap.objs.size) s₂) E) (S := s.heap.objs.size) (I := h1.objs.size) (l := l) (items := items) (res := Value.none) hh
    (Nat.ne_of_lt (Nat.lt_trans hlt hS1)) (Nat.ne_of_lt hS1) (Nat.ne_of_gt hlt) prs 0 [] 0 0
    { s with heap := h1.push { cls := .type "tuple_iterator", data := .fields #[.ref l, .int 0 0] }, toks := tk1 } (by rw [hsz, Nat.zero_add]) (by rw [List.length_nil, Nat.zero_add]; exact hln)
    (fun j q e => by
      obtain ⟨b, u, e1, e2, e3⟩ := ht j q e
      have hb : b < s.heap.objs.size := e2.lt
      exact ⟨b, u, by rw [Nat.zero_add]; exact e1, Nat.ne_of_lt hb, Nat.ne_of_lt (Nat.lt_trans hb hS1), e2.keeps fun c o z => k2 _ _ (hk1 _ _ (k0 _ _ z)), e3⟩)
    ⟨_, Heap.get?_push_size _ rfl, rfl, rfl⟩ (hl1.at fun o e => k2 _ _ e) ((hnew.at fun o e => hk1 _ _ e).at fun o e => k2 _ _ e)
    (fun h' tk hd' k => ⟨rfl, h h' tk hd' fun b o e => k b o (Nat.ne_of_lt (Heap.lt_size e)) (Nat.ne_of_lt (Nat.lt_trans (Heap.lt_size e) hS1)) (k2 _ _ (hk1 _ _ (k0 _ _ e)))⟩)
  first
    | exact wpAny_pure ⟨plainId_quiet ud_plain _, key⟩
    | exact wpAny_bind (wpAny_pure (wpAny_pure ⟨plainId_quiet ud_plain _, key⟩))
end

/-- the tuple at a stands as an object without a dict of its own -/
def Tz (H : Hp) (a : Addr) (xs : List V) : Prop := ∃ o : Obj, o.dict = none ∧ H a = some (.frz o (.tup xs))
theorem Tz.sq {K : PySem.W.Frag} {H : Hp} {a : Addr} {xs : List V} (h : Tz H a xs) : SqT K H a xs := let ⟨o, _, e⟩ := h; .inl (.inr ⟨o, e⟩)
theorem Tz.same {H H1 : Hp} {a : Addr} {xs : List V} (h : Tz H a xs) (s : Same H H1) : Tz H1 a xs := let ⟨o, d, e⟩ := h; ⟨o, d, s _ _ e⟩
section
variable {X : Cx}
/-- dict(xs) of such a tuple of pairs -/
theorem call_dictT (hcalm : X.calm = true) : CallR X (.type "dict") (fun xs H Q => ∃ (a : Addr) (ps : List Addr) (kvs : List (Key × V)), xs = [.ref a] ∧ Tz H a (ps.map V.ref) ∧ Paired (fun p kv => SqT X.K H p [kV kv.1, kv.2]) ps kvs ∧
    ∀ p, H p = none → Q (.ref p) (upd H p (.dK (mergeK [] kvs)))) := by
  intro pins s σ H xs us Q I r q
  obtain ⟨a, ps, kvs, ex, hq, hp, q⟩ := q
  subst ex
  obtain ⟨u, eu, rx⟩ := vals1 r
  subst eu
  cases rx
  obtain ⟨oz, dz, ez⟩ := hq
  obtain ⟨gz, hz, its, rv, ⟨o, ho, hc, n, hdat⟩⟩ := (show ObjOk X.prog X.w H s.heap a (.frz oz (.tup (ps.map V.ref))) from I.hok a _ ez)
  have eo : oz = o := Option.some.inj (gz.symm.trans ho)
  subst eo
  have ei := refs_at rv
  subst ei
  rw [List.length_map] at hz
  obtain ⟨prs, rel, hl, hpr⟩ := pairs_of I hp
  refine call_dict_pairsT (prs := prs) (I.ok.hd hcalm) ho hc dz hdat (by simp [hl]) (by rw [hl]; exact hz) (fun j q' e => ?_) fun h' tk hd' k => ?_
  · obtain ⟨b, u, e1, e2, e3⟩ := hpr j q' e
    exact ⟨b, u, by simp [e1], e2, e3⟩
  · have hm : (s.heap.objs.size == sysModules) = false := beq_eq_false_iff_ne.mpr (Nat.ne_of_gt I.big)
    have hlen : (mergeK [] kvs).length ≤ sizeLine := by
      refine Nat.le_trans (length_mergeK kvs []) ?_
      rw [List.length_nil, Nat.zero_add, rel.length, hl]
      exact hz
    exact ⟨.ref s.heap.objs.size, upd H s.heap.objs.size (.dK (mergeK [] kvs)), I.laid (t' := tk) k (Nat.le_refl _) (show ObjOk X.prog X.w _ _ _ (.dK (mergeK [] kvs)) from ⟨hlen, hm, merged [] prs, KV.merge rel .nil, hd'⟩), rfl, q _ (I.hok.fresh (Nat.le_refl _))⟩
end
end Nn

set_option autoImplicit false
set_option maxHeartbeats 2000000
/-! tuples that are told to bear no dict of their own: made by tuple(list), by t + u, by a display -/
namespace Nn
open PySem PySem.Spec PyProof.Rows L2
theorem tz_new {P : Program} {w : World} {H H' : Hp} {h : Heap} {a : Addr} {xs : List V} {its : List Value} (hz : xs.length ≤ sizeLine) (r : Vals xs its) (e : h.get? a = some { cls := .type "tuple", data := .seq its.toArray }) :
    ObjOk P w H h a (.frz { cls := .type "tuple", data := .seq its.toArray } (.tup xs)) := ⟨e, hz, its, r, ⟨_, e, rfl, _, rfl⟩⟩
section
variable {X : Cx}
/-- tuple(list): a new tuple -/
theorem call_tuple_ofZ : CallR X (.type "tuple") (fun xs H Q => ∃ p ys, xs = [.ref p] ∧ SqL X.K H p ys ∧ ∀ l H', Same H H' → H l = none → Tz H' l ys → Q (.ref l) H') := by
  intro pins s σ H xs us Q I r h
  obtain ⟨p, ys, rfl, hq, q⟩ := h
  obtain ⟨u, rfl, rx⟩ := vals1 r
  cases rx
  obtain ⟨its, r', pl, hz⟩ := I.list hq
  have hlen := r'.length
  refine call_tuple_list pl.isList (fun h' kp => ?_) (by simp only [List.size_toArray] <;> omega)
  have I1 : Inv X pins σ H { s with heap := h' } := I.kept (t' := s.toks) kp
  have I2 : Inv X pins σ (upd H h'.objs.size (.frz { cls := .type "tuple", data := .seq its.toArray } (.tup ys))) { s with heap := h'.push { cls := .type "tuple", data := .seq its.toArray } } :=
    I1.laid (t' := s.toks) (fun b o e => Heap.get?_push_of_some _ e) (Nat.le_refl _) (tz_new (H' := H) hz r' (Heap.get?_push_size _ rfl))
  have hn := I1.hok.fresh (Nat.le_refl h'.objs.size)
  exact ⟨.ref h'.objs.size, _, I2, rfl, q _ _ (fun b o e => by rw [upd_ne (ne_of_none e hn)]; exact e) hn ⟨_, rfl, upd_same⟩⟩
/-- t + u, neither of them empty -/
def rCatZ (K : PySem.W.Frag) : R2 := fun x y H Q => ∃ a b xs ys, x = .ref a ∧ y = .ref b ∧ SqT K H a xs ∧ SqT K H b ys ∧ xs ≠ [] ∧ ys ≠ [] ∧ xs.length + ys.length ≤ sizeLine ∧ ∀ p H', Same H H' → H p = none → Tz H' p (xs ++ ys) → Q (.ref p) H'
theorem op_catZ : OpR X (binaryOp .Add) (rCatZ X.K) := by
  intro pins s σ H x y v u Q I rx ry h
  obtain ⟨a, b, xs, ys, rfl, rfl, ha, hb, hx, hy, hz, q⟩ := h
  cases rx
  cases ry
  obtain ⟨its, r1, p1, _⟩ := I.tuple ha
  obtain ⟨its2, r2, p2, _⟩ := I.tuple hb
  refine HT.cat_tup p1 p2 (fun z => hx (r1.nil_iff.mp z)) (fun z => (hy (r2.nil_iff.mp z)).elim) (fun z => ?_) (by rw [← r1.length, ← r2.length]; exact hz)
  have hn := I.hok.fresh (Nat.le_refl s.heap.objs.size)
  refine ⟨.ref s.heap.objs.size, _, I.laid (t' := s.toks) (o := .frz { cls := .type "tuple", data := .seq (its ++ its2).toArray } (.tup (xs ++ ys))) (fun b ob q => Heap.get?_push_of_some _ q) (Nat.le_refl _) ?_, rfl, q _ _ (fun b o e => by rw [upd_ne (ne_of_none e hn)]; exact e) hn ⟨_, rfl, upd_same⟩⟩
  exact tz_new (H' := H) (by rw [List.length_append]; exact hz) (r1.append r2) (Heap.get?_push_size _ rfl)
/-- t + u, u not empty and without a dict of its own: where t is empty it is u -/
def rCatY (K : PySem.W.Frag) : R2 := fun x y H Q => ∃ a b xs ys, x = .ref a ∧ y = .ref b ∧ SqT K H a xs ∧ Tz H b ys ∧ ys ≠ [] ∧ xs.length + ys.length ≤ sizeLine ∧ ∀ p H', Same H H' → Tz H' p (xs ++ ys) → Q (.ref p) H'
theorem op_catY : OpR X (binaryOp .Add) (rCatY X.K) := by
  intro pins s σ H x y v u Q I rx ry h
  obtain ⟨a, b, xs, ys, rfl, rfl, ha, hb, hy, hz, q⟩ := h
  by_cases hx : xs = []
  · subst hx
    exact op_catA pins s σ H _ _ v u Q I rx ry ⟨a, b, [], ys, rfl, rfl, ha, hb.sq, hz, fun _ => q b H (Same.refl H) hb, fun z => absurd rfl z, fun z => absurd rfl z⟩
  · exact op_catZ pins s σ H _ _ v u Q I rx ry ⟨a, b, xs, ys, rfl, rfl, ha, hb.sq, hx, hy, hz, fun p H' s2 _ e => q p H' s2 e⟩
def tTupZ (t : TA) : TE := fun σ H Q => t σ H fun xs H1 => xs.length ≤ sizeLine ∧ ∀ p H', Same H1 H' → H1 p = none → Tz H' p xs → Q (.ref p) H'
theorem pe_tupZ {es : List Expr} {x1 : Nat} {pos : Pos} {t : TA} (h : PA X es t) : PE X (.Tuple es x1 pos) (tTupZ t) := by
  refine ⟨fun pins s σ H Q I hq => ?_⟩
  refine wpAny_Tuple_spliced (thn (h.run pos pins s σ H _ I hq) fun us s1 ⟨xs, H1, I1, r, z, q⟩ => ⟨by rw [← r.length]; exact z, ?_⟩)
  have hf : H1 s1.heap.objs.size = none := I1.hok.fresh (Nat.le_refl _)
  refine ⟨.ref s1.heap.objs.size, upd H1 s1.heap.objs.size (.frz { cls := .type "tuple", data := .seq us.toArray } (.tup xs)), I1.laid (t' := s1.toks) (fun b u e => Heap.get?_push_of_some _ e) (Nat.le_refl _) ?_, rfl, q _ _ (fun b o e => by rw [upd_ne (ne_of_none e hf)]; exact e) hf ⟨_, rfl, upd_same⟩⟩
  exact tz_new (H' := H1) z r (Heap.get?_push_size _ rfl)
end
end Nn

set_option autoImplicit false
set_option maxHeartbeats 2000000
/-! tuple(d.items()), told to bear no dict of its own -/
namespace Nn
open PySem PySem.Spec PyProof.Rows L2 LiI
def rTupItemsZ : V → Hp → VK → Prop := fun x H Q => ∃ (d : Addr) (kvs : List (Key × V)), x = .ref d ∧ H d = some (.dK kvs) ∧
  ∀ (H' : Hp) (p : Addr) (ts : List Addr), (∀ b o, H b = some o → H' b = some o) → H p = none → Tz H' p (ts.map V.ref) → Paired (fun (t : Addr) (q : Key × V) => H' t = some (.tup [kV q.1, q.2])) ts kvs → Q (.ref p) H'
def tTupItemsZ (te : TE) : TE := fun σ H Q => te σ H fun x H1 => rTupItemsZ x H1 Q
section
variable {X : Cx} {e : Expr} {te : TE} {p apos cpos pos : Pos}
/-- tuple(e.items()) -/
theorem pe_tupItemsZ (hc : X.calm = true) (he : PE X e te) (hg : Gl X "tuple") (hm : X.mg "tuple" = none) (hv : bootBuiltins "tuple" = some (.type "tuple")) (hbase : attributeBase e "items" X.env (eval e X.env) = eval e X.env := by rfl) (hline : (apos.endLine == cpos.line) = true := by rfl)
    (hs : starEach [.Call (.Attribute e "items" apos) [] [] cpos] X.env = (false, eval (.Call (.Attribute e "items" apos) [] [] cpos) X.env) :: starEach [] X.env := by rfl) :
    PE X (.Call (.Name "tuple" p) [.Call (.Attribute e "items" apos) [] [] cpos] [] pos) (tTupItemsZ te) := by
  refine ⟨fun pins s σ H Q I hq => ?_⟩
  refine wpAny_Call_Name_kw (ld_blt I hg hm hv ?_)
  refine PyProof.Rows.callWith_type1 ?_ hs rfl
  rw [hs]
  show wpAny _ _ (spliced ((false, eval (.Call (.Attribute e "items" apos) [] [] cpos) X.env) :: backTo pos (starEach [] X.env))) _ _ s
  refine Calls.spliced_cons ?_
  refine wpAny_Call_method (T := "dict") (id := "dict.items") hbase rfl hline F.plainAttrs_dict F.slot_dict_items F.type_dict_items (thn (he.run pins s σ H _ I hq) fun u s1 ⟨x, H1, I1, rx, d, kvs, ex, hd, q⟩ => ?_)
  subst ex
  obtain rfl : u = Value.ref d := rx
  obtain ⟨hz, hs0, vs, kv, hdo⟩ := I1.hok d _ hd
  obtain ⟨ep, hat⟩ := hdo.dictAt
  have lk : kvs.length = vs.length := Paired.length kv
  have I2 : Inv X pins σ H1 { s1 with heap := s1.heap.push { cls := .type "dict_items", data := .fields #[.ref d] } } := I1.kept (t' := s1.toks) fun b ob q => Heap.get?_push_of_some _ q
  refine ⟨hdo.typeIs, hdo.mapOf.noDict, ?_⟩
  show wpAny _ _ (callWith cpos (.builtin "dict.items") [.ref d] [] []) _ X.xe s1
  refine method_meetsIn F.slot_dict_items F.entry_dict_items rfl (PySem.evalArgs_none ⟨rfl, hdo.typeIs, F.args_dict_items_1 _, _, meets_dict_items (mixKind X.prog X.w) d hs0, ⟨vs, hdo⟩, ?_⟩)
  refine Calls.spliced_nil ?_
  refine PySem.call_tuple_items (knd := mixKind X.prog X.w) (kvs := vs) (ep := ep) (I1.ok.hd hc) ⟨_, Heap.get?_push_size _ rfl, rfl, rfl⟩ (hat.push _) (by omega) fun h' tk as hk hl hG => ?_
  obtain ⟨H', k1, k2, J⟩ := tups_laid (tk := tk) I2 kv hk hl hG
  have n1 := J.hok.fresh (Nat.le_refl h'.objs.size)
  have n0 : H1 h'.objs.size = none := by
    cases e0 : H1 h'.objs.size with
    | none => rfl
    | some o =>
      rw [k1 _ _ e0] at n1
      cases n1
  have vr : Vals (as.map V.ref) (as.map Value.ref) := LiI.vals_refs as
  have J2 := J.laid (a := h'.objs.size) (o := .frz { cls := .type "tuple", data := .seq (as.map Value.ref).toArray } (.tup (as.map V.ref))) (h' := h'.push { cls := .type "tuple", data := .seq (as.map Value.ref).toArray }) (t' := tk) (fun _ _ q => Heap.get?_push_of_some _ q) (Nat.le_refl _)
    (tz_new (P := X.prog) (w := X.w) (H' := H') (by rw [List.length_map]; omega) vr (Heap.get?_push_size _ rfl))
  refine ⟨.ref _, _, J2, rfl, q _ _ as (fun b o e => ?_) n0 ⟨_, rfl, upd_same⟩ ?_⟩
  · have hb : b ≠ h'.objs.size := ne_of_none e n0
    rw [upd_ne hb]
    exact k1 b o e
  · refine paired_imp (fun t q e => ?_) k2
    rw [upd_ne (ne_of_none e n1)]
    exact e
end
end Nn

set_option autoImplicit false
set_option maxHeartbeats 4000000
namespace St6
open PySem PySem.Spec PyProof.Rows L2 Tg Cc Nn
structure LeadsOk (P : Program) (w : World) (K : PySem.W.Frag) (mg : Str → Option Value) (base : Heap) (f_rename f_copy f_drop f_put f_scale f_sum f_join f_table : Addr) : Prop where
  h_rename : ∀ rec, Held P w K mg base 6 f_rename (spLead K rec "rename" 2)
  h_copy : ∀ rec, Held P w K mg base 6 f_copy (spLead K rec "copy" 2)
  h_drop : ∀ rec, Held P w K mg base 6 f_drop (spLead K rec "drop" 1)
  h_put : ∀ rec, Held P w K mg base 6 f_put (spLead K rec "put" 3)
  h_scale : ∀ rec, Held P w K mg base 6 f_scale (spLead K rec "scale" 3)
  h_sum : ∀ rec, Held P w K mg base 6 f_sum (spLead K rec "sum" 2)
  h_join : ∀ rec, Held P w K mg base 6 f_join (spLead K rec "join" 2)
  h_table : ∀ rec, Held P w K mg base 6 f_table (spLead K rec "table" 4)
theorem held_up {P : Program} {w : World} {K : PySem.W.Frag} {mg : Str → Option Value} {base : Heap} {j k : Nat} {f : Addr} {sp : Sp} (h : Held P w K mg base j f sp) (le : j ≤ k) : Held P w K mg base k f sp := by
  obtain ⟨fd, ps, ok, kp, b⟩ := h.ex
  exact ⟨fd, ps, ⟨fun vs H Q E a => ok.len vs H Q E a, fun A outer s H args us vs Q E hr he hb hv a => ok.run A outer s H args us vs Q E (hr.mono le) he hb hv a⟩, kp, b⟩
theorem fn_no {P : Program} {w : World} {K : PySem.W.Frag} {mg : Str → Option Value} {base : Heap} {k : Nat} {f : Addr} {fd : FuncData} {ps : List Str} : FnOk P w K mg base CX0 k f fd ps (fun _ _ _ _ => False) :=
  ⟨fun _ _ _ _ h => h.elim, fun _ _ _ _ _ _ _ _ _ _ _ _ _ h => h.elim⟩
theorem ok_sorts {P : Program} {w : World} {K : PySem.W.Frag} {mg : Str → Option Value} {base : Heap} {C fI : Addr} {fdI : FuncData} (T : BadS K mg C fI fdI)
    {f_rename f_copy f_drop f_put f_scale f_sum f_join f_table f_case f_st f_l : Addr} {fd_case fd_st fd_l : FuncData} (LO : LeadsOk P w K mg base f_rename f_copy f_drop f_put f_scale f_sum f_join f_table)
    (Fc : FnP K "_behind_case" sBehindCase f_case fd_case) (m_c : mg "_behind_case" = some (.ref f_case)) (b_c : Binds K fd_case ["sorts", "step"] [])
    (Fs : FnP K "_sorts_behind_step" sSortsBehindStep f_st fd_st) (m_s : mg "_sorts_behind_step" = some (.ref f_st)) (b_s : Binds K fd_st ["sorts", "step"] [])
    (Fl : FnP K "_sorts_behind" sSortsBehind f_l fd_l) (m_l : mg "_sorts_behind" = some (.ref f_l)) (b_l : Binds K fd_l ["sorts", "steps"] [])
    {f_so f_of : Addr} {fd_so fd_of : FuncData} (c_so : Cl P w K mg base CX0 "_sort_of" 1 ["sorts", "field"] (spSortOf K) f_so fd_so) (c_of : Cl P w K mg base CX0 "is_of_sort" 3 ["value", "sort"] (spOfSort K) f_of fd_of)
    (b1 : mg "isinstance" = none) (b2 : mg "tuple" = none) (b3 : mg "str" = none) (b4 : mg "len" = none) (b5 : mg "list" = none) (b6 : mg "enumerate" = none)
    {aT aL aD : Addr} (m_T : mg "TESTED" = some (.ref aT)) (hT : ∀ H, SqT K H aT (testL.map V.str)) (m_L : mg "LENGTHS" = some (.ref aL)) (hL : KTab K w aL lens) (m_D : mg "LEADS" = some (.ref aD)) (hD : KTab K w aD (leadsV f_rename f_copy f_drop f_put f_scale f_sum f_join f_table f_case)) :
    ∀ c, FnOk P w K mg base (L2.CX P w) (8 + 3 * c) f_l fd_l ["sorts", "steps"] (spSorts K C c)
  | c => by
    have hc : Held P w K mg base (6 + 3 * c) f_case (spCaseOf K c) := by
      cases c with
      | zero => exact ⟨fd_case, ["sorts", "step"], fn_no, Fc.kp, b_c⟩
      | succ c =>
        have ih := ok_sorts T LO Fc m_c b_c Fs m_s b_s Fl m_l b_l c_so c_of b1 b2 b3 b4 b5 b6 m_T hT m_L hL m_D hD c
        exact held_of (x := "_behind_case") ⟨ok_bcase Fc c_so c_of ⟨ih, m_l, Fl.kp, b_l⟩ m_T hT T, m_c, Fc.kp, b_c⟩ (by omega)
    have st := ok_bstep (c := c) Fs b1 b2 b3 b4 m_L hL m_D hD (held_up (LO.h_rename (recOf c)) (by omega)) (held_up (LO.h_copy (recOf c)) (by omega)) (held_up (LO.h_drop (recOf c)) (by omega)) (held_up (LO.h_put (recOf c)) (by omega)) (held_up (LO.h_scale (recOf c)) (by omega)) (held_up (LO.h_sum (recOf c)) (by omega)) (held_up (LO.h_join (recOf c)) (by omega)) (held_up (LO.h_table (recOf c)) (by omega)) hc
    have all := ok_bsorts (c := c) Fl ⟨st, m_s, Fs.kp, b_s⟩ b1 b5 b2 b6 T
    have e : 7 + 3 * c + 1 = 8 + 3 * c := by omega
    rw [← e]
    exact all
/-- told: the form behind, or the refusal -/
def behindB (c : Nat) (fs : Fs) (d : PyData) : Except Nat Fs := match stepsB c fs d with
  | .ok gs => if 1 ≤ gs.length ∧ gs.length ≤ 6 then .ok gs else .error (items d).length
  | .error n => .error n
/-- a form: a tuple told to bear no dict of its own
-/
def FZ (K : PySem.W.Frag) (H : Hp) (q : Addr) (gs : Fs) : Prop := ∃ xs, Tz H q xs ∧ ThAll K H xs (gs.map fieldD)
theorem FZ.th {K : PySem.W.Frag} {H : Hp} {q : Addr} {gs : Fs} (h : FZ K H q gs) : Th K H (.ref q) (formD gs) := let ⟨xs, a, b⟩ := h; .tup a.sq b
def FRes (K : PySem.W.Frag) (C : Addr) (o : Except Nat Fs) (H : Hp) (Q : VK) (E : XK) : Prop := match o with
  | .ok gs => ∀ H' q, Same H H' → FZ K H' q gs → Q (.ref q) H'
  | .error n => Out C E H n
theorem FRes.later {K : PySem.W.Frag} {C : Addr} {o : Except Nat Fs} {H H1 : Hp} {Q : VK} {E : XK} (h : FRes K C o H Q E) (s : Same H H1) : FRes K C o H1 Q E := by
  cases o with
  | ok gs => exact fun H' q s2 t => h H' q (s.trans s2) t
  | error n => exact Out.later h s
def spFormBehind (K : PySem.W.Frag) (C : Addr) (c : Nat) : Sp := fun vs H Q E => ∃ p fs v d, vs = [p, v] ∧ Th K H p (formD fs) ∧ (fs.map Prod.fst).Nodup ∧ Th K H v d ∧ Bd 1000 (2 * c + 1) d ∧ c ≤ 9 ∧ fs.length + growB c d ≤ 1000000 ∧ FRes K C (behindB c fs d) H Q E
theorem th_items {K : PySem.W.Frag} {H : Hp} : ∀ {ts : List Addr} {gs : Fs}, Paired (fun (t : Addr) (q : Key × V) => H t = some (.tup [kV q.1, q.2])) ts (kvsOf gs) → ThAll K H (ts.map V.ref) (gs.map fieldD)
  | [], [], _ => .nil
  | t :: ts, g :: gs, h => by
    cases h with
    | cons a b => exact .cons (.tup (SqT.of a) (.cons (.str _) (.cons (.str _) .nil))) (th_items b)
section
variable {P : Program} {w : World} {K : PySem.W.Frag} {mg : Str → Option Value} {base : Heap} {C fI : Addr} {fdI : FuncData} {c : Nat}
theorem scbehind : FnScope ["form", "steps", "field", "sort", "sorts"] ["form", "steps"] (defScope sFormBehind) := ⟨rfl, rfl, rfl, by decide +kernel, rfl, by decide +kernel, by decide +kernel⟩
theorem ok_behind {f : Addr} {fd : FuncData} (F : FnP K "form_behind" sFormBehind f fd) {f__sorts_behind : Addr} {fd__sorts_behind : FuncData} (c__sorts_behind : Cl P w K mg base (L2.CX P w) "_sorts_behind" (8 + 3 * c) ["sorts", "steps"] (spSorts K C c) f__sorts_behind fd__sorts_behind) (mb_len : mg "len" = none) (mb_tuple : mg "tuple" = none) {u6 : Value} (m_MOST_FIELDS : mg "MOST_FIELDS" = some u6) (h_u6 : RelV (.int 6) u6) (T : BadS K mg C fI fdI) : FnOk P w K mg base (L2.CX P w) (8 + 3 * c + 1) f fd ["form", "steps"] (spFormBehind K C c) := by
  refine F.ok scbehind (fun vs H Q E h => ?_) (fun cdv A outer s H vs Q E hr h => ?_)
  · obtain ⟨p, fs, v, d, rfl, _⟩ := h
    rfl
  · obtain ⟨p, fs, v, d, rfl, hP, nd, hT, hB, hc, hg, q⟩ := h
    have hu := hu_of hr
    have hs := szl
    have GI : FnOk P w K mg base CX0 1 fI fdI ["self", "at"] (spInit K C) := ok_init T
    have hr2 : Room 2 _ := hr.mono (by omega)
    refine ⟨_, pss_cons (ps_set (i := 4) scbehind.nd rfl (Or.inl rfl) (pe_callS c__sorts_behind.ok hr (by rfl) c__sorts_behind.m c__sorts_behind.kp c__sorts_behind.b (fun σ => passAt (takes_of rfl rfl rfl rfl) σ) (pa_cons (pe_dc (own := [("field", 2), ("sort", 3)]) (tt := tYes) rfl scbehind.nd (pi_tup (pv 0)) (blkOk_by (own := [("field", 2), ("sort", 3)]) (N := ["form", "steps", "field", "sort", "sorts"]) (sc := defScope sFormBehind) (by decide +kernel)) (fun _ _ _ _ _ => Cc.pg_tupk (K := K) (n := 2) rfl rfl (pgs_cons (pg_name (i := 2) scbehind.nd rfl (Or.inl rfl)) (pgs_cons (pg_name (i := 3) scbehind.nd rfl (Or.inl rfl)) (pgs_nil)))) (fun _ _ _ _ _ => pts_nil) (fun _ _ _ _ _ => pv 2) (fun _ _ _ _ _ => pv 3)) (pa_cons (pv 1) pa_nil))))
      (pss_cons (ps_if (pt_not (pt_chain op_le op_le (pe_int) (pe_callB call_lenD (by rfl) mb_len (by decide +kernel) (pa_cons (pv 4) pa_nil)) (pe_glob rfl m_MOST_FIELDS h_u6))) (pss_one (ps_raise rfl (takes_of rfl rfl rfl rfl) (pmk_oex T.ox T.iC T.tI GI hr2 (bindI T) .nil pass0 (by rfl) T.g (pa_cons (pe_callB call_len (by rfl) mb_len (by decide +kernel) (pa_cons (pv 1) pa_nil)) pa_nil)))) (pss_nil))
      (pss_one (ps_ret (Nn.pe_tupItemsZ rfl (pv 4) (by rfl) mb_tuple (by decide +kernel))))), ?_⟩
    obtain ⟨pf, fx, rfl, hf, hFA⟩ := hP.asTup
    have lf : fx.length = fs.length := by rw [hFA.len, List.length_map]
    refine ⟨_, rfl, pf, rfl, ⟨fx, hf⟩, fun D nD => ?_⟩
    refine dc_it (walk_tup (K := K) (a := pf) (xs := fx)) (fun i H' => But D H H' ∧ H' D = some (.dK (kvsOf (fs.take i)))) ⟨But.refl.upd, upd_same⟩ (fun i H' _ ⟨b, _⟩ => Sq.same (t := true) hf (b.new nD)) ?_ ?_
    · rintro i x H1 H2 hi ⟨b, hD⟩ ⟨rfl, hx⟩
      obtain ⟨dz, hdz, tz, mz⟩ := ThAll.get2 hFA hx
      obtain ⟨g, hg2, rfl⟩ : ∃ g, fs[i]? = some g ∧ fieldD g = dz := by
        rw [List.getElem?_map] at hdz
        cases hg2 : fs[i]? with
        | none =>
          rw [hg2] at hdz
          cases hdz
        | some g =>
          rw [hg2] at hdz
          exact ⟨g, rfl, Option.some.inj hdz⟩
      obtain ⟨pz, zs, rfl, hpz, hZ⟩ := tz.asTup
      obtain ⟨y0, y1, rfl, u0, u1⟩ := thAll2 hZ
      obtain rfl := u0.asStr
      obtain rfl := u1.asStr
      have s2 := b.new nD
      have nk := nd_take (f := Prod.fst) nd hg2
      have et : fs.take (i + 1) = fs.take i ++ [g] := by rw [List.take_succ, hg2]; rfl
      refine ⟨pz, _, rfl, Sq.same (t := true) hpz s2, rfl, _, _, rfl, _, _, rfl, rfl, rfl, ?_⟩
      unfold tYes
      dsimp only
      rw [if_pos rfl]
      refine ⟨_, rfl, _, rfl, _, Sum.inr g.1, rfl, hD, ?_, b.upd, ?_⟩
      · rw [kvsOf_len, List.length_take]
        omega
      · rw [upd_same, put_of, setF_new (getF_of_none nk), et]
    · rintro H1 ⟨b, hD⟩
      rw [lf, List.take_length] at hD
      have s1 := b.new nD
      have hT1 := hT.kept (kept_same s1)
      have q1 := q.later s1
      refine ⟨_, rfl, D, fs, v, d, rfl, ⟨hD, nd, by omega⟩, hT1, hB, hc, hg, ?_⟩
      unfold behindB at q1
      cases hst : stepsB c fs d with
      | error n =>
        rw [hst] at q1
        exact q1
      | ok gs =>
        rw [hst] at q1
        have gr := steps_gro c fs d gs hst
        intro H2 qd s2 eq
        replace q1 : FRes K C (if 1 ≤ gs.length ∧ gs.length ≤ 6 then .ok gs else .error (items d).length) H1 Q E := q1
        have q2 := q1.later s2
        have hT2 := hT1.kept (kept_same s2)
        have no : ¬ (1 ≤ gs.length ∧ gs.length ≤ 6) → Out C E H2 (items d).length := fun hn => by
          rw [if_neg hn] at q2
          exact q2
        have lenD : ∃ (a : Addr) (xs : List V), v = .ref a ∧ xs.length = (items d).length ∧ ((∃ ys, SqL K H2 a ys ∧ ys.length = xs.length) ∨ (∃ ys, SqT K H2 a ys ∧ ys.length = xs.length)) := by
          rw [steps_over] at hst
          cases d with
          | list ds =>
            obtain ⟨a, xs, rfl, hx, hA⟩ := hT2.asLst
            exact ⟨a, xs, rfl, hA.len, .inl ⟨xs, hx, rfl⟩⟩
          | tuple ds =>
            obtain ⟨a, xs, rfl, hx, hA⟩ := hT2.asTup
            exact ⟨a, xs, rfl, hA.len, .inr ⟨xs, hx, rfl⟩⟩
          | _ => cases hst
        obtain ⟨av, xv, rfl, lv, hv⟩ := lenD
        have lk : (kvsOf gs).length = gs.length := kvsOf_len gs
        have bad : ¬ (1 ≤ gs.length ∧ gs.length ≤ 6) → ∀ k : Nat, k = xv.length → Out C E H2 k := fun hn k ek => by
          rw [ek, lv]
          exact no hn
        have lenR : (∃ ys, SqL K H2 av ys ∧ xv.length = ys.length) ∨ (∃ ys, SqT K H2 av ys ∧ xv.length = ys.length) := hv.elim (fun ⟨ys, a, b⟩ => .inl ⟨ys, a, b.symm⟩) (fun ⟨ys, a, b⟩ => .inr ⟨ys, a, b.symm⟩)
        refine ⟨_, rfl, qd, _, rfl, eq, _, _, rfl, rfl, _, rfl, ite2 (fun e1 => ⟨_, _, rfl, rfl, _, rfl, ite2 (fun e2 => ?_) (fun e2 => ?_)⟩) (fun e1 => ⟨_, rfl, iteT ?_⟩)⟩
        · have c2 : ¬ gs.length ≤ 6 := fun y => by
            rw [lk, decide_eq_true (show (gs.length : Int) ≤ (6 : Int) by omega)] at e2
            cases e2
          exact ⟨_, rfl, _, xv.length, rfl, lenR, out_of (bad (fun z => c2 z.2) _ rfl)⟩
        · have c1 : 1 ≤ gs.length := by
            have := of_decide_eq_true e1
            omega
          have c2 : gs.length ≤ 6 := by
            have : (!decide (((kvsOf gs).length : Int) ≤ (6 : Int))) = false := by simpa using e2
            rw [Bool.not_eq_false'] at this
            have := of_decide_eq_true this
            omega
          rw [if_pos ⟨c1, c2⟩] at q2
          refine ⟨_, rfl, qd, _, rfl, eq, fun H3 pt ts hsub hn hp hpr => ?_⟩
          exact q2 H3 pt (fun b o e => hsub b o e) ⟨_, hp, th_items hpr⟩
        · have c1 : ¬ 1 ≤ gs.length := fun y => e1 (decide_eq_true (by omega))
          exact ⟨_, rfl, _, xv.length, rfl, lenR, out_of (bad (fun z => c1 z.1) _ rfl)⟩
end
end St6

set_option autoImplicit false
set_option maxHeartbeats 4000000
namespace St6
open PySem PySem.Spec PyProof.Rows L2 Tg Cc Nn
/-! the law's own going through steps that fit -/
/-- a form as the law keeps it: a tuple without a dict of its own, its fields -/
def Fm (K : PySem.W.Frag) (H : Hp) (f : V) (fs : Fs) : Prop := ∃ a xs, f = .ref a ∧ Tz H a xs ∧ ThAll K H xs (fs.map fieldD)
theorem Fm.th {K : PySem.W.Frag} {H : Hp} {f : V} {fs : Fs} (h : Fm K H f fs) : Th K H f (formD fs) := by
  obtain ⟨a, xs, rfl, h1, h2⟩ := h
  exact .tup h1.sq h2
theorem Fm.same {K : PySem.W.Frag} {H H1 : Hp} {f : V} {fs : Fs} (h : Fm K H f fs) (s : Same H H1) : Fm K H1 f fs := by
  obtain ⟨a, xs, rfl, h1, h2⟩ := h
  exact ⟨a, xs, rfl, h1.same s, h2.kept (kept_same s)⟩
/-- no list within -/
def noLst : Nat → PyData → Bool
  | 0, _ => true
  | _ + 1, .list _ => false
  | m + 1, .tuple ds => ds.all (noLst m)
  | _ + 1, _ => true
theorem stepB_some {rec : Fs → PyData → Except Nat Fs} {fs gs : Fs} {d : PyData} (h : stepB rec fs d = some gs) : ∃ w r, d = .tuple (.str w :: r) ∧ leadB rec fs w r = some gs ∧ lenOf w = some r.length := by
  match d, h with
  | .tuple (.str w :: r), h =>
    refine ⟨w, r, rfl, h, ?_⟩
    by_cases e : lenOf w = some r.length
    · exact e
    · have h : leadB rec fs w r = some gs := h
      rw [lead_len e] at h
      cases h
theorem tst {wd : Str} (z : Str) {A B : Prop} (hA : wd = z → A) (hB : wd ≠ z → B) : if decide (V.str wd = V.str z) = true then A else B :=
  ite2 (fun e => hA (V.str.inj (of_decide_eq_true e))) (fun e => hB (fun y => e (decide_eq_true (congrArg V.str y))))
/-- new pairs, one for each field -/
def Prs (H : Hp) (ps : List (Addr × Str × Str)) : Prop := ∀ x ∈ ps, H x.1 = some (.tup [.str x.2.1, .str x.2.2])
theorem prs_snoc {H : Hp} {ps : List (Addr × Str × Str)} {D T : Addr} {k s : Str} {l : List V} (h : Prs H ps) (hD : H D = some (.lst l)) (l2 : List V) (hT : H T = some (.tup [.str k, .str s])) : Prs (upd H D (.lst l2)) (ps ++ [(T, k, s)]) := fun x hx => by
  have ne : ∀ {b : Addr} {xs : List V}, H b = some (.tup xs) → b ≠ D := fun e z => by
    rw [z, hD] at e
    cases e
  rcases List.mem_append.mp hx with h1 | h1
  · rw [upd_ne (ne (h x h1))]
    exact h x h1
  · rw [List.mem_singleton.mp h1, upd_ne (ne hT)]
    exact hT
theorem prs_same {H H1 : Hp} {ps : List (Addr × Str × Str)} (h : Prs H ps) (s : Same H H1) : Prs H1 ps := fun x hx => s _ _ (h x hx)
theorem set_map {fs : Fs} {o so x : Str} (h : getF fs o = some x) : setF fs o so = fs.map fun x => if x.1 = o then (x.1, so) else x := by
  have hp : fs.any (fun x => decide (x.1 = o)) = true := by
    unfold getF at h
    cases e : fs.find? fun y => decide (y.1 = o) with
    | none =>
      rw [e] at h
      cases h
    | some y => exact List.any_eq_true.mpr ⟨y, List.mem_of_find?_eq_some e, List.find?_some (p := fun y : Str × Str => decide (y.1 = o)) e⟩
  unfold setF
  rw [if_pos hp]
theorem refs_of {K : PySem.W.Frag} {H : Hp} : ∀ {fs : Fs} {xs : List V}, ThAll K H xs (fs.map fieldD) → ∃ ps : List Addr, xs = ps.map V.ref ∧ Paired (fun p (kv : Key × V) => SqT K H p [kV kv.1, kv.2]) ps (kvsOf fs)
  | [], xs, h => ⟨[], h.nil_of, .nil⟩
  | g :: r, xs, h => by
    obtain ⟨x, ys, rfl, t0, h⟩ := ThAll.cons_of (show ThAll K H xs (fieldD g :: r.map fieldD) from h)
    obtain ⟨ps, rfl, hp⟩ := refs_of h
    obtain ⟨p, zs, rfl, hz, hZ⟩ := t0.asTup
    obtain ⟨y0, y1, rfl, u0, u1⟩ := thAll2 hZ
    obtain rfl := u0.asStr
    obtain rfl := u1.asStr
    exact ⟨p :: ps, rfl, .cons hz hp⟩
theorem merge_of : ∀ (r acc : Fs), ((acc ++ r).map Prod.fst).Nodup → mergeK (kvsOf acc) (kvsOf r) = kvsOf (acc ++ r)
  | [], acc, _ => by
    rw [List.append_nil]
    rfl
  | g :: r, acc, nd => by
    have e : acc ++ g :: r = (acc ++ [g]) ++ r := by simp
    have hn : getF acc g.1 = none := getF_of_none fun hm => by
      rw [List.map_append, List.nodup_append] at nd
      exact nd.2.2 _ hm _ (List.mem_map.mpr ⟨g, List.mem_cons_self .., rfl⟩) rfl
    show mergeK (putK (kvsOf acc) (Sum.inr g.1) (V.str g.2)) (kvsOf r) = _
    rw [put_of, setF_new hn, e]
    exact merge_of r (acc ++ [g]) (by rw [← e]; exact nd)
theorem _root_.Tg.ThAll.app {K : PySem.W.Frag} {H : Hp} {xs ys : List V} {ds es : List PyData} (h : ThAll K H xs ds) (k : ThAll K H ys es) : ThAll K H (xs ++ ys) (ds ++ es) := by
  induction xs generalizing ds with
  | nil =>
    cases h
    exact k
  | cons x r ih =>
    cases h with
    | cons a b => exact .cons a (ih b)
theorem fm_snoc {K : PySem.W.Frag} {H : Hp} {l T : Addr} {fx : List V} {fs : Fs} {k s : Str} (tz : Tz H l (fx ++ [.ref T])) (hA : ThAll K H fx (fs.map fieldD)) (hT : H T = some (.tup [.str k, .str s])) : Fm K H (.ref l) (fs ++ [(k, s)]) := by
  refine ⟨l, _, rfl, tz, ?_⟩
  rw [List.map_append]
  have ap : ∀ {xs : List V} {ds : List PyData}, ThAll K H xs ds → ThAll K H (xs ++ [.ref T]) (ds ++ [fieldD (k, s)]) := by
    intro xs ds h
    induction xs generalizing ds with
    | nil =>
      cases h
      exact .cons (.tup (SqT.of hT) (.cons (.str _) (.cons (.str _) .nil))) .nil
    | cons x r ih =>
      cases h with
      | cons a b => exact .cons a (ih b)
  exact ap hA
def spLBehind (K : PySem.W.Frag) (c : Nat) : Sp := fun vs H Q _ => ∃ f fs v d gs, vs = [f, v] ∧ Fm K H f fs ∧ (fs.map Prod.fst).Nodup ∧ fs.length + growS c d ≤ 1000000 ∧ Th K H v d ∧ noLst (2 * c) d = true ∧ Bd 1000 (2 * c) d ∧ stepB (recOf c) fs d = some gs ∧ ∀ H' u, Same H H' → Fm K H' u gs → Q u H'
def spLEnd (K : PySem.W.Frag) (c : Nat) : Sp := fun vs H Q _ => ∃ f fs v d gs, vs = [f, v] ∧ Fm K H f fs ∧ (fs.map Prod.fst).Nodup ∧ fs.length + growB c d ≤ 1000000 ∧ Th K H v d ∧ noLst (2 * c + 1) d = true ∧ Bd 1000 (2 * c + 1) d ∧ stepsB c fs d = .ok gs ∧ ∀ H' u, Same H H' → Fm K H' u gs → Q u H'
section
variable {P : Program} {w : World} {K : PySem.W.Frag} {mg : Str → Option Value} {base : Heap} {c : Nat}
theorem sclend : FnScope ["fields", "steps", "step"] ["fields", "steps"] (defScope sLawEnd) := ⟨rfl, rfl, rfl, by decide +kernel, rfl, by decide +kernel, by decide +kernel⟩
theorem ok_lend {f : Addr} {fd : FuncData} (F : FnP K "_law_end" sLawEnd f fd) {f__law_behind : Addr} {fd__law_behind : FuncData} (c__law_behind : Cl P w K mg base CX0 "_law_behind" (2 + 2 * c) ["fields", "step"] (spLBehind K c) f__law_behind fd__law_behind)    : FnOk P w K mg base CX0 (2 + 2 * c + 1) f fd ["fields", "steps"] (spLEnd K c) := by
  refine F.ok sclend (fun vs H Q E h => ?_) (fun cdv A outer s H vs Q E hr h => ?_)
  · obtain ⟨f, fs, v, d, gs, rfl, _⟩ := h
    rfl
  · obtain ⟨f, fs, v, d, gs, rfl, hF, nd, hg, hT, hno, hB, hst, q⟩ := h
    have hu := hu_of hr
    have hs := szl
    refine ⟨_, PSs.nox (pss_cons (ps_for PassesOwn.never rfl (pi_tup (pv 1)) (pg_name (i := 2) sclend.nd rfl (Or.inl rfl)) (pss_one (ps_set (i := 0) sclend.nd rfl (Or.inl rfl) (pe_call c__law_behind.ok hr (by rfl) c__law_behind.m c__law_behind.kp c__law_behind.b .nil pass0 (pa_cons (pv 0) (pa_cons (pv 2) pa_nil))))))
      (pss_one (ps_ret (pv 0)))), ?_⟩
    have ht : isTup d = true := by
      rw [steps_over] at hst
      cases d <;> first | rfl | (cases hst; done) | cases hno
    obtain ⟨ds, rfl⟩ := isTup_eq ht
    have hno := List.all_eq_true.mp (show ds.all (noLst (2 * c)) = true from hno)
    obtain ⟨a, xs, rfl, hx, hA⟩ := hT.asTup
    have lx := hA.len
    rw [steps_over] at hst
    replace hst : goB (stepB (recOf c)) 0 fs ds = .ok gs := hst
    rw [grow_sum] at hg
    replace hg : fs.length + (ds.map (growS c)).sum ≤ 1000000 := hg
    refine ⟨_, rfl, a, rfl, ⟨xs, hx⟩, for_tup (K := K) (a := a) (xs := xs) (fun i σ' H' => (∃ fi fsi x2, σ' = [some fi, some (.ref a), x2] ∧ Fm K H' fi fsi ∧ (fsi.map Prod.fst).Nodup ∧ goB (stepB (recOf c)) i fsi (ds.drop i) = .ok gs ∧ fsi.length + ((ds.drop i).map (growS c)).sum ≤ 1000000) ∧ Same H H')
      ⟨⟨f, fs, _, rfl, hF, nd, hst, hg⟩, Same.refl H⟩ (fun i σ' H' _ ⟨_, s2⟩ => Sq.same (t := true) hx s2) ?_ ?_⟩
    · rintro i x σ' H1 hxi ⟨⟨fi, fsi, y2, rfl, hFi, ndi, hgo, hlen⟩, s1⟩
      obtain ⟨d, hd, td, md⟩ := ThAll.get2 hA hxi
      have hdr : ds.drop i = d :: ds.drop (i + 1) := by
        obtain ⟨hlt, e⟩ := List.getElem?_eq_some_iff.mp hd
        rw [List.drop_eq_getElem_cons hlt, e]
      rw [hdr, List.map_cons, List.sum_cons] at hlen
      rw [hdr, go_cons] at hgo
      cases hs1 : stepB (recOf c) fsi d with
      | none =>
        rw [hs1] at hgo
        cases hgo
      | some hs2 =>
        rw [hs1] at hgo
        have gr := stepS_gro c hs1
        exact ⟨_, rfl, _, rfl, fi, fsi, x, d, hs2, rfl, hFi, ndi, by omega, td.kept (kept_same s1), hno d md, hB.2 d md, hs1, fun H2 u s2 hu => ⟨⟨u, hs2, _, rfl, hu, (gr ndi).1, hgo, by have := (gr ndi).2; omega⟩, s1.trans s2⟩⟩
    · rintro σ' H1 ⟨⟨fi, fsi, y2, rfl, hFi, ndi, hgo, hlen⟩, s1⟩
      rw [lx, List.drop_length, go_nil] at hgo
      obtain rfl := Except.ok.inj hgo
      exact ⟨_, rfl, q H1 fi s1 hFi⟩
theorem sclbehind : FnScope ["fields", "step", "field", "sort", "one"] ["fields", "step"] (defScope sLawBehind) := ⟨rfl, rfl, rfl, by decide +kernel, rfl, by decide +kernel, by decide +kernel⟩
theorem ok_lbehind {f : Addr} {fd : FuncData} (F : FnP K "_law_behind" sLawBehind f fd) {f__law_end : Addr} {fd__law_end : FuncData} (c__law_end : Cl P w K mg base CX0 "_law_end" (2 + 2 * c + 1) ["fields", "steps"] (spLEnd K c) f__law_end fd__law_end) (mb_tuple : mg "tuple" = none) (mb_dict : mg "dict" = none)   : FnOk P w K mg base CX0 (2 + 2 * c + 1 + 1) f fd ["fields", "step"] (spLBehind K (c + 1)) := by
  refine F.ok sclbehind (fun vs H Q E h => ?_) (fun cdv A outer s H vs Q E hr h => ?_)
  · obtain ⟨f, fs, v, d, gs, rfl, _⟩ := h
    rfl
  · obtain ⟨f, fs, v, d, gs, rfl, hF, nd, hg, hT, hno, hB, hst, q⟩ := h
    have hu := hu_of hr
    have hs := szl
    refine ⟨_, PSs.nox (pss_cons (ps_if (pt_cmpR op_eq (pe_ix Cc.ix_B (pv 1) (pe_int) (fun _ _ => rfl)) (pe_str) (nomark _)) (pss_one (ps_ret (pe_call c__law_end.ok hr (by rfl) c__law_end.m c__law_end.kp c__law_end.b .nil pass0 (pa_cons (pv 0) (pa_cons (pe_ix Cc.ix_B (pv 1) (pe_int) (fun _ _ => rfl)) pa_nil))))) (pss_nil))
      (pss_cons (ps_if (pt_cmpR op_eq (pe_ix Cc.ix_B (pv 1) (pe_int) (fun _ _ => rfl)) (pe_str) (nomark _)) (pss_one (ps_ret (pe_callTy Nn.call_tuple_ofZ (by rfl) mb_tuple (by decide +kernel) (pa_cons (pe_lc (own := [("field", 2), ("sort", 3)]) (tt := tYes) rfl sclbehind.nd (pi_tup (pv 0)) (blkOk_by (own := [("field", 2), ("sort", 3)]) (N := ["fields", "step", "field", "sort", "one"]) (sc := defScope sLawBehind) (by decide +kernel)) (fun _ _ _ _ _ => Cc.pg_tupk (K := K) (n := 2) rfl rfl (pgs_cons (pg_name (i := 2) sclbehind.nd rfl (Or.inl rfl)) (pgs_cons (pg_name (i := 3) sclbehind.nd rfl (Or.inl rfl)) (pgs_nil)))) (fun _ _ _ _ _ => pts_nil) (fun _ _ _ _ _ => pe_tup (pa_cons (pe_ifExp (pt_cmpR op_eq (pv 2) (pe_ix (Cc.ix_Bk (K := K) rfl) (pv 1) (pe_int) (fun _ _ => rfl)) (nomark _)) (pe_ix (Cc.ix_Bk (K := K) rfl) (pv 1) (pe_int) (fun _ _ => rfl)) (pv 2)) (pa_cons (pv 3) pa_nil)))) pa_nil)))) (pss_nil))
      (pss_cons (ps_if (pt_cmpR op_eq (pe_ix Cc.ix_B (pv 1) (pe_int) (fun _ _ => rfl)) (pe_str) (nomark _)) (pss_one (ps_ret (pe_callTy Nn.call_tuple_ofZ (by rfl) mb_tuple (by decide +kernel) (pa_cons (pe_lc (own := [("one", 4)]) (g := gName 4) rfl sclbehind.nd (pi_tup (pv 0)) (blkOk_by (own := [("one", 4)]) (N := ["fields", "step", "field", "sort", "one"]) (sc := defScope sLawBehind) (by decide +kernel)) (fun _ _ _ _ _ => pg_name (i := 4) sclbehind.nd rfl (Or.inl rfl)) (fun _ _ _ _ _ => pts_one (pt_cmpR op_ne (pe_ix (Cc.ix_Bk (K := K) rfl) (pv 4) (pe_int) (fun _ _ => rfl)) (pe_ix (Cc.ix_Bk (K := K) rfl) (pv 1) (pe_int) (fun _ _ => rfl)) (nomark _))) (fun _ _ _ _ _ => pv 4)) pa_nil)))) (pss_nil))
      (pss_cons (ps_if (pt_cmpR op_eq (pe_ix Cc.ix_B (pv 1) (pe_int) (fun _ _ => rfl)) (pe_str) (nomark _)) (pss_one (ps_ret (pe_callTy Nn.call_tuple_ofZ (by rfl) mb_tuple (by decide +kernel) (pa_cons (pe_lc (own := [("field", 2), ("sort", 3)]) (tt := tYes) rfl sclbehind.nd (pi_tup (pv 0)) (blkOk_by (own := [("field", 2), ("sort", 3)]) (N := ["fields", "step", "field", "sort", "one"]) (sc := defScope sLawBehind) (by decide +kernel)) (fun _ _ _ _ _ => Cc.pg_tupk (K := K) (n := 2) rfl rfl (pgs_cons (pg_name (i := 2) sclbehind.nd rfl (Or.inl rfl)) (pgs_cons (pg_name (i := 3) sclbehind.nd rfl (Or.inl rfl)) (pgs_nil)))) (fun _ _ _ _ _ => pts_nil) (fun _ _ _ _ _ => pe_tup (pa_cons (pv 2) (pa_cons (pe_ifExp (pt_cmpR op_eq (pv 2) (pe_ix (Cc.ix_Bk (K := K) rfl) (pv 1) (pe_int) (fun _ _ => rfl)) (nomark _)) (pe_ix (Cc.ix_Bk (K := K) rfl) (pv 1) (pe_int) (fun _ _ => rfl)) (pv 3)) pa_nil)))) pa_nil)))) (pss_nil))
      (pss_cons (ps_if (pt_cmpR op_eq (pe_ix Cc.ix_B (pv 1) (pe_int) (fun _ _ => rfl)) (pe_str) (nomark _)) (pss_one (ps_ret (pv 0))) (pss_nil))
      (pss_cons (ps_if (pt_cmpR op_eq (pe_ix Cc.ix_B (pv 1) (pe_int) (fun _ _ => rfl)) (pe_str) (nomark _)) (pss_one (ps_ret (pe_op Nn.op_catY (pv 0) (Nn.pe_tupZ (pa_cons (pe_tup (pa_cons (pe_ix Cc.ix_B (pv 1) (pe_int) (fun _ _ => rfl)) (pa_cons (pe_dget hu (pe_callTy (Nn.call_dictT rfl) (by rfl) mb_dict (by decide +kernel) (pa_cons (pv 0) pa_nil)) (pe_ix Cc.ix_B (pv 1) (pe_int) (fun _ _ => rfl)) (fun _ _ => rfl)) pa_nil))) pa_nil))))) (pss_nil))
      (pss_one (ps_ret (pe_op Nn.op_catY (pv 0) (Nn.pe_tupZ (pa_cons (pe_tup (pa_cons (pe_ix Cc.ix_B (pv 1) (pe_int) (fun _ _ => rfl)) (pa_cons (pe_dget2 hu (pe_disp (pps_cons (pe_str) (pe_str) (pps_cons (pe_str) (pe_str) (pps_nil))) (by rfl) (by rfl) (fun z => by cases z) (by decide)) (pe_ix Cc.ix_B (pv 1) (pe_int) (fun _ _ => rfl)) (pe_ix Cc.ix_B (pv 1) (pe_int) (fun _ _ => rfl)) ⟨by rfl, by rfl, by rfl, by rfl⟩) pa_nil))) pa_nil))))))))))), ?_⟩
    obtain ⟨wd, r, rfl, h, hln⟩ := stepB_some hst
    replace h : leadB (stepsB c) fs wd r = some gs := h
    obtain ⟨a, xs0, rfl, hx, hA⟩ := hT.asTup
    obtain ⟨x0, xr, rfl, t0, hY⟩ := hA.cons_of
    obtain rfl := t0.asStr
    have ly := hY.len
    obtain ⟨fa, fx, rfl, hz, hFA⟩ := id hF
    have lf : fx.length = fs.length := by rw [hFA.len, List.length_map]
    have hno2 : ∀ x ∈ r, noLst (2 * c + 1) x = true := fun x hx => List.all_eq_true.mp (show (PyData.str wd :: r).all (noLst (2 * c + 1)) = true from hno) x (List.mem_cons_of_mem _ hx)
    have hB2 : ∀ x ∈ r, Bd 1000 (2 * c + 1) x := fun x hx => hB.2 x (List.mem_cons_of_mem _ hx)
    refine ⟨_, rfl, true, a, _, 0, _, rfl, rfl, hx, at0, rfl, _, rfl, tst "case" (fun e => ?_) (fun n1 => ?_)⟩
    · subst e
      obtain ⟨d0, d1, d2, d3, rfl⟩ := len4 (Option.some.inj hln).symm
      obtain ⟨x0, x1, x2, x3, e, t0, t1, t2, t3⟩ := th4 hA
      obtain rfl := List.tail_eq_of_cons_eq e
      replace h : caseB (stepsB c) fs d0 d1 d2 d3 = some gs := h
      unfold caseB at h
      have hy : stepsB c fs d2 = .ok gs := by
        cases ho : sortOf fs d0 with
        | none =>
          rw [ho] at h
          cases h
        | some el =>
          rw [ho] at h
          dsimp only at h
          by_cases k : (decide (el ∈ testL) && ofSort el d1) = true
          · rw [if_pos k] at h
            cases hy : stepsB c fs d2 with
            | error n =>
              rw [hy] at h
              cases h
            | ok x =>
              cases hn : stepsB c fs d3 with
              | error n =>
                rw [hy, hn] at h
                cases h
              | ok y =>
                rw [hy, hn] at h
                obtain ⟨_, rfl⟩ := ifs h
                rfl
          · rw [if_neg k] at h
            cases h
      have sum : growS (c + 1) (.tuple [.str "case", d0, d1, d2, d3]) = 1 + (growB c (.str "case") + (growB c d0 + (growB c d1 + (growB c d2 + (growB c d3 + 0))))) := rfl
      rw [sum] at hg
      exact ⟨_, rfl, _, rfl, true, a, _, 3, x2, rfl, rfl, hx, rfl, .ref fa, fs, x2, d2, gs, rfl, hF, nd, by omega, t2, hno2 d2 (by simp), hB2 d2 (by simp), hy, q⟩
    refine ⟨_, rfl, true, a, _, 0, _, rfl, rfl, hx, at0, rfl, _, rfl, tst "rename" (fun e => ?_) (fun n2 => ?_)⟩
    · subst e
      obtain ⟨d0, d1, rfl⟩ := len2 (Option.some.inj hln).symm
      obtain ⟨x0, x1, e, t0, t1⟩ := th2 hA
      obtain rfl := List.tail_eq_of_cons_eq e
      obtain ⟨hc, rfl⟩ := ifs (show renameB fs d0 d1 = some gs from h)
      obtain ⟨c1, c2⟩ := (Bool.and_eq_true _ _).mp hc
      obtain ⟨n, rfl, hn⟩ := isNew_of c2
      obtain rfl := t1.asStr
      obtain ⟨so, hso⟩ := Option.isSome_iff_exists.mp c1
      obtain ⟨o, rfl, ho⟩ := sortOf_of hso
      obtain rfl := t0.asStr
      replace q : ∀ H' u, Same H H' → Fm K H' u (fs.map (ren o n)) → Q u H' := q
      refine ⟨_, rfl, fa, rfl, ⟨fx, hz.sq⟩, fun D nD => ?_⟩
      refine lc_acc (walk_tup (K := K) (a := fa) (xs := fx)) (fun i acc H' => ∃ ps, acc = ps.map (fun x : Addr × Str × Str => V.ref x.1) ∧ ps.map Prod.snd = (fs.take i).map (ren o n) ∧ Prs H' ps ∧ But D H H') ⟨[], rfl, rfl, (fun x hx => by cases hx), But.refl.upd⟩ (fun i acc H' _ ⟨_, _, _, _, b⟩ _ => Sq.same (t := true) hz.sq (b.new nD)) ?_ ?_
      · rintro i x acc H1 H2 hi la ⟨ps, ea, ep, hp, b⟩ hD ⟨rfl, hx2⟩
        obtain ⟨dz, hdz, tz, mz⟩ := ThAll.get2 hFA hx2
        obtain ⟨g, hg2, rfl⟩ : ∃ g, fs[i]? = some g ∧ fieldD g = dz := by
          rw [List.getElem?_map] at hdz
          cases hg2 : fs[i]? with
          | none =>
            rw [hg2] at hdz
            cases hdz
          | some g =>
            rw [hg2] at hdz
            exact ⟨g, rfl, Option.some.inj hdz⟩
        obtain ⟨pz, zs, rfl, hpz, hZ⟩ := tz.asTup
        obtain ⟨y0, y1, rfl, u0, u1⟩ := thAll2 hZ
        obtain rfl := u0.asStr
        obtain rfl := u1.asStr
        have s2 := b.new nD
        have et : (fs.take (i + 1)).map (ren o n) = (fs.take i).map (ren o n) ++ [(ren o n) g] := by rw [List.take_succ, hg2, List.map_append]; rfl
        have done : ∀ (T : Addr) (k z : Str), H2 T = none → (k, z) = (ren o n) g → Push D i (fun i acc H' => ∃ ps, acc = ps.map (fun x : Addr × Str × Str => V.ref x.1) ∧ ps.map Prod.snd = (fs.take i).map (ren o n) ∧ Prs H' ps ∧ But D H H') (.ref T) (upd H2 T (.tup [.str k, .str z])) := fun T k z nT hk => by
          have sT := newS (o := .tup [V.str k, V.str z]) nT
          refine push (sT _ _ hD) la (by omega) ⟨ps ++ [(T, k, z)], ?_, ?_, prs_snoc (prs_same hp sT) (sT _ _ hD) _ upd_same, (b.same sT).upd⟩
          · rw [ea, List.map_append]
            rfl
          · rw [List.map_append, ep, et, ← hk]
            rfl
        refine ⟨pz, _, rfl, Sq.same (t := true) hpz s2, rfl, _, _, rfl, _, _, rfl, rfl, rfl, ?_⟩
        have hx1 := Sq.same (t := true) hx s2
        refine ⟨_, rfl, _, rfl, true, a, _, 1, _, rfl, rfl, hx1, rfl, rfl, _, rfl, ite2 (fun e => ?_) (fun e => ?_)⟩
        · have eq : g.1 = o := V.str.inj (of_decide_eq_true e)
          exact ⟨_, rfl, true, a, _, 2, _, rfl, rfl, hx1, rfl, _, rfl, by show 2 ≤ sizeLine; decide, fun T nT => done T n g.2 nT (by show _ = (if g.1 = o then n else g.1, g.2); rw [if_pos eq])⟩
        · have ne : ¬ g.1 = o := fun z => e (decide_eq_true (congrArg V.str z))
          exact ⟨_, rfl, _, rfl, by show 2 ≤ sizeLine; decide, fun T nT => done T g.1 g.2 nT (by show _ = (if g.1 = o then n else g.1, g.2); rw [if_neg ne])⟩
      · rintro acc H1 la ⟨ps, rfl, ep, hp, b⟩ hD
        rw [lf, List.take_length] at ep
        have s2 := b.new nD
        refine ⟨D, _, rfl, SqL.of hD, fun l H3 s3 nl tz => q H3 _ (s2.trans s3) ⟨l, _, rfl, tz, ?_⟩⟩
        have := th_fields (K := K) (prs_same hp s3)
        rw [ep] at this
        exact this
    refine ⟨_, rfl, true, a, _, 0, _, rfl, rfl, hx, at0, rfl, _, rfl, tst "drop" (fun e => ?_) (fun n3 => ?_)⟩
    · subst e
      obtain ⟨d0, rfl⟩ := len1 (Option.some.inj hln).symm
      obtain ⟨x0, e, t0⟩ := th1 hA
      obtain rfl := List.tail_eq_of_cons_eq e
      obtain ⟨hc, rfl⟩ := ifs (show dropB fs d0 = some gs from h)
      obtain ⟨so, hso⟩ := Option.isSome_iff_exists.mp hc
      obtain ⟨o, rfl, ho⟩ := sortOf_of hso
      obtain rfl := t0.asStr
      replace q : ∀ H' u, Same H H' → Fm K H' u (fs.filter fun x => !decide (x.1 = o)) → Q u H' := q
      refine ⟨_, rfl, fa, rfl, ⟨fx, hz.sq⟩, fun D nD => ?_⟩
      refine lc_it (walk_tup (K := K) (a := fa) (xs := fx)) (fun i H' => But D H H' ∧ ∃ acc, H' D = some (.lst acc) ∧ acc.length ≤ i ∧ ThAll K H acc (((fs.take i).filter fun x => !decide (x.1 = o)).map fieldD)) ⟨But.refl.upd, [], upd_same, Nat.le_refl _, .nil⟩ (fun i H' _ ⟨b, _⟩ => Sq.same (t := true) hz.sq (b.new nD)) ?_ ?_
      · rintro i x H1 H2 hi ⟨b, acc, hD, la, hacc⟩ ⟨rfl, hx2⟩
        obtain ⟨dz, hdz, tz, mz⟩ := ThAll.get2 hFA hx2
        obtain ⟨g, hg2, rfl⟩ : ∃ g, fs[i]? = some g ∧ fieldD g = dz := by
          rw [List.getElem?_map] at hdz
          cases hg2 : fs[i]? with
          | none =>
            rw [hg2] at hdz
            cases hdz
          | some g =>
            rw [hg2] at hdz
            exact ⟨g, rfl, Option.some.inj hdz⟩
        obtain ⟨pz, zs, rfl, hpz, hZ⟩ := id tz.asTup
        obtain ⟨y0, y1, rfl, u0, u1⟩ := thAll2 hZ
        obtain rfl := u0.asStr
        obtain rfl := u1.asStr
        have s2 := b.new nD
        have et : fs.take (i + 1) = fs.take i ++ [g] := by rw [List.take_succ, hg2]; rfl
        refine ⟨rfl, _, rfl, true, pz, _, 0, _, rfl, rfl, Sq.same (t := true) hpz s2, rfl, _, rfl, true, a, _, 1, _, rfl, rfl, Sq.same (t := true) hx s2, rfl, rfl, _, rfl, ite2 (fun e => ?_) (fun e => ?_)⟩
        · have ne : g.1 ≠ o := fun z => by
            rw [decide_eq_true (congrArg V.str z)] at e
            cases e
          refine ⟨_, rfl, acc, hD, by omega, b.upd, acc ++ [.ref pz], upd_same, by rw [List.length_append, List.length_singleton]; omega, ?_⟩
          rw [et, List.filter_append, List.filter_cons_of_pos (by simpa using ne), List.map_append]
          exact ThAll.app hacc (.cons tz .nil)
        · have eq : g.1 = o := by
            have h1 : (!decide (V.str g.1 = V.str o)) = false := by simpa using e
            rw [Bool.not_eq_false'] at h1
            exact V.str.inj (of_decide_eq_true h1)
          refine ⟨b, acc, hD, by omega, ?_⟩
          rw [et, List.filter_append, List.filter_cons_of_neg (by simpa using eq)]
          simpa using hacc
      · rintro H1 ⟨b, acc, hD, la, hacc⟩
        rw [lf, List.take_length] at hacc
        have s2 := b.new nD
        exact ⟨D, _, rfl, SqL.of hD, fun l H3 s3 nl tz => q H3 _ (s2.trans s3) ⟨l, _, rfl, tz, hacc.kept (kept_same (s2.trans s3))⟩⟩
    refine ⟨_, rfl, true, a, _, 0, _, rfl, rfl, hx, at0, rfl, _, rfl, tst "table" (fun e => ?_) (fun n4 => ?_)⟩
    · subst e
      obtain ⟨d0, d1, d2, d3, rfl⟩ := len4 (Option.some.inj hln).symm
      obtain ⟨x0, x1, x2, x3, e, t0, t1, t2, t3⟩ := th4 hA
      obtain rfl := List.tail_eq_of_cons_eq e
      replace h : tableB fs d0 d1 d2 d3 = some gs := h
      unfold tableB at h
      obtain ⟨el, hel⟩ : ∃ el, sortOf fs d0 = some el := by
        cases ho : sortOf fs d0 with
        | none =>
          rw [ho] at h
          cases h
        | some el => exact ⟨el, rfl⟩
      rw [hel] at h
      obtain ⟨hc, rfl⟩ := ifs h
      obtain ⟨o, rfl, ho⟩ := sortOf_of hel
      obtain rfl := t0.asStr
      obtain ⟨so, rfl⟩ : ∃ z, d1 = .str z := by
        have hsb : sortB d1 = true := ((Bool.and_eq_true _ _).mp ((Bool.and_eq_true _ _).mp ((Bool.and_eq_true _ _).mp hc).1).1).2
        cases d1 <;> first | exact ⟨_, rfl⟩ | cases hsb
      obtain rfl := t1.asStr
      replace q : ∀ H' u, Same H H' → Fm K H' u (setF fs o so) → Q u H' := q
      replace q : ∀ H' u, Same H H' → Fm K H' u (fs.map (fun x : Str × Str => if x.1 = o then (x.1, so) else x)) → Q u H' := by
        rw [← set_map ho]
        exact q
      refine ⟨_, rfl, fa, rfl, ⟨fx, hz.sq⟩, fun D nD => ?_⟩
      refine lc_acc (walk_tup (K := K) (a := fa) (xs := fx)) (fun i acc H' => ∃ ps, acc = ps.map (fun x : Addr × Str × Str => V.ref x.1) ∧ ps.map Prod.snd = (fs.take i).map (fun x : Str × Str => if x.1 = o then (x.1, so) else x) ∧ Prs H' ps ∧ But D H H') ⟨[], rfl, rfl, (fun x hx => by cases hx), But.refl.upd⟩ (fun i acc H' _ ⟨_, _, _, _, b⟩ _ => Sq.same (t := true) hz.sq (b.new nD)) ?_ ?_
      · rintro i x acc H1 H2 hi la ⟨ps, ea, ep, hp, b⟩ hD ⟨rfl, hx2⟩
        obtain ⟨dz, hdz, tz, mz⟩ := ThAll.get2 hFA hx2
        obtain ⟨g, hg2, rfl⟩ : ∃ g, fs[i]? = some g ∧ fieldD g = dz := by
          rw [List.getElem?_map] at hdz
          cases hg2 : fs[i]? with
          | none =>
            rw [hg2] at hdz
            cases hdz
          | some g =>
            rw [hg2] at hdz
            exact ⟨g, rfl, Option.some.inj hdz⟩
        obtain ⟨pz, zs, rfl, hpz, hZ⟩ := tz.asTup
        obtain ⟨y0, y1, rfl, u0, u1⟩ := thAll2 hZ
        obtain rfl := u0.asStr
        obtain rfl := u1.asStr
        have s2 := b.new nD
        have et : (fs.take (i + 1)).map (fun x : Str × Str => if x.1 = o then (x.1, so) else x) = (fs.take i).map (fun x : Str × Str => if x.1 = o then (x.1, so) else x) ++ [(fun x : Str × Str => if x.1 = o then (x.1, so) else x) g] := by rw [List.take_succ, hg2, List.map_append]; rfl
        have done : ∀ (T : Addr) (k z : Str), H2 T = none → (k, z) = (fun x : Str × Str => if x.1 = o then (x.1, so) else x) g → Push D i (fun i acc H' => ∃ ps, acc = ps.map (fun x : Addr × Str × Str => V.ref x.1) ∧ ps.map Prod.snd = (fs.take i).map (fun x : Str × Str => if x.1 = o then (x.1, so) else x) ∧ Prs H' ps ∧ But D H H') (.ref T) (upd H2 T (.tup [.str k, .str z])) := fun T k z nT hk => by
          have sT := newS (o := .tup [V.str k, V.str z]) nT
          refine push (sT _ _ hD) la (by omega) ⟨ps ++ [(T, k, z)], ?_, ?_, prs_snoc (prs_same hp sT) (sT _ _ hD) _ upd_same, (b.same sT).upd⟩
          · rw [ea, List.map_append]
            rfl
          · rw [List.map_append, ep, et, ← hk]
            rfl
        refine ⟨pz, _, rfl, Sq.same (t := true) hpz s2, rfl, _, _, rfl, _, _, rfl, rfl, rfl, ?_⟩
        have hx1 := Sq.same (t := true) hx s2
        refine ⟨_, rfl, _, rfl, _, rfl, true, a, _, 1, _, rfl, rfl, hx1, rfl, rfl, _, rfl, ite2 (fun e => ?_) (fun e => ?_)⟩
        · have eq : g.1 = o := V.str.inj (of_decide_eq_true e)
          exact ⟨_, rfl, true, a, _, 2, _, rfl, rfl, hx1, rfl, by show 2 ≤ sizeLine; decide, fun T nT => done T g.1 so nT (by show _ = (if g.1 = o then (g.1, so) else g); rw [if_pos eq])⟩
        · have ne : ¬ g.1 = o := fun z => e (decide_eq_true (congrArg V.str z))
          exact ⟨_, rfl, by show 2 ≤ sizeLine; decide, fun T nT => done T g.1 g.2 nT (by show _ = (if g.1 = o then (g.1, so) else g); rw [if_neg ne])⟩
      · rintro acc H1 la ⟨ps, rfl, ep, hp, b⟩ hD
        rw [lf, List.take_length] at ep
        have s2 := b.new nD
        refine ⟨D, _, rfl, SqL.of hD, fun l H3 s3 nl tz => q H3 _ (s2.trans s3) ⟨l, _, rfl, tz, ?_⟩⟩
        have := th_fields (K := K) (prs_same hp s3)
        rw [ep] at this
        exact this
    refine ⟨_, rfl, true, a, _, 0, _, rfl, rfl, hx, at0, rfl, _, rfl, tst "scale" (fun e => ?_) (fun n5 => ?_)⟩
    · subst e
      obtain ⟨d0, d1, d2, rfl⟩ := len3 (Option.some.inj hln).symm
      obtain ⟨_, rfl⟩ := ifs (show scaleB fs d0 d1 d2 = some gs from h)
      exact ⟨_, rfl, q H _ (Same.refl H) hF⟩
    refine ⟨_, rfl, true, a, _, 0, _, rfl, rfl, hx, at0, rfl, _, rfl, tst "copy" (fun e => ?_) (fun n6 => ?_)⟩
    · subst e
      obtain ⟨d0, d1, rfl⟩ := len2 (Option.some.inj hln).symm
      obtain ⟨x0, x1, e, t0, t1⟩ := th2 hA
      obtain rfl := List.tail_eq_of_cons_eq e
      replace h : copyB fs d0 d1 = some gs := h
      unfold copyB at h
      obtain ⟨el, hel⟩ : ∃ el, sortOf fs d0 = some el := by
        cases ho : sortOf fs d0 with
        | none =>
          rw [ho] at h
          cases h
        | some el => exact ⟨el, rfl⟩
      rw [hel] at h
      obtain ⟨hc, rfl⟩ := ifs h
      obtain ⟨o, rfl, ho⟩ := sortOf_of hel
      obtain rfl := t0.asStr
      obtain ⟨n, rfl, hn⟩ := isNew_of hc
      obtain rfl := t1.asStr
      obtain ⟨ps, rfl, hps⟩ := refs_of hFA
      refine ⟨_, rfl, _, rfl, true, a, _, 2, _, rfl, rfl, hx, rfl, _, rfl, fa, ps, kvsOf fs, rfl, hz, hps, fun p np => ?_⟩
      have s1 := newS (o := .dK (mergeK [] (kvsOf fs))) np
      have g := DGet.k (k := Sum.inr o) (upd_same (H := H) (a := p) (o := .dK (mergeK [] (kvsOf fs))))
      rw [show mergeK [] (kvsOf fs) = kvsOf fs from merge_of fs [] nd] at g
      rw [val_of, ho] at g
      rw [show mergeK [] (kvsOf fs) = kvsOf fs from merge_of fs [] nd] at s1 ⊢
      refine ⟨_, rfl, true, a, _, 1, _, rfl, rfl, Sq.same (t := true) hx s1, rfl, p, .str el, rfl, g, by show 2 ≤ sizeLine; decide, fun T nT => ⟨by show 1 ≤ sizeLine; decide, fun p2 H2 s2 n2 tz => ?_⟩⟩
      have sT := newS (o := .tup [V.str n, V.str el]) nT
      have s12 := (s1.trans sT).trans s2
      refine ⟨fa, p2, _, _, rfl, rfl, (hz.same s12).sq, tz, by simp, by rw [lf, List.length_singleton]; omega, fun p3 H3 s3 tz3 => q H3 _ (s12.trans s3) ?_⟩
      exact fm_snoc tz3 (hFA.kept (kept_same (s12.trans s3))) ((s2.trans s3) _ _ upd_same)
    rcases lenOf_in hln with e | e | e | e | e | e | e | e | e
    · exact absurd e n2
    · exact absurd e n6
    · exact absurd e n3
    · subst e
      obtain ⟨d0, d1, d2, rfl⟩ := len3 (Option.some.inj hln).symm
      obtain ⟨x0, x1, x2, e, t0, t1, t2⟩ := th3 hA
      obtain rfl := List.tail_eq_of_cons_eq e
      obtain ⟨hc, rfl⟩ := ifs (show putB fs d0 d1 d2 = some gs from h)
      obtain ⟨c1, c2⟩ := (Bool.and_eq_true _ _).mp hc
      obtain ⟨so, rfl⟩ : ∃ z, d1 = .str z := by
        have hsb : sortB d1 = true := ((Bool.and_eq_true _ _).mp c2).1
        cases d1 <;> first | exact ⟨_, rfl⟩ | cases hsb
      obtain rfl := t1.asStr
      obtain ⟨n, rfl, hn⟩ := isNew_of c1
      obtain rfl := t0.asStr
      refine ⟨_, rfl, _, rfl, true, a, _, 1, _, rfl, rfl, hx, rfl, fun pD nD => ⟨upd_same, ([(Sum.inr "sum", V.str "amount"), (Sum.inr "join", V.str "text")] : List (Key × V)), rfl, by show 2 ≤ 15; decide, ?_⟩⟩
      have s1 : Same H (upd (upd H pD (.dK [])) pD (.dK (mergeK [] ([(Sum.inr "sum", V.str "amount"), (Sum.inr "join", V.str "text")] : List (Key × V))))) := fun b o e => by
        have ne := ne_of_none e nD
        rw [upd_ne ne, upd_ne ne]
        exact e
      have g := DGet.k (k := Sum.inr (Str.ofString "put")) (upd_same (H := upd H pD (.dK [])) (a := pD) (o := .dK (mergeK [] ([(Sum.inr "sum", V.str "amount"), (Sum.inr "join", V.str "text")] : List (Key × V)))))
      rw [show valV (mergeK [] ([(Sum.inr "sum", V.str "amount"), (Sum.inr "join", V.str "text")] : List (Key × V))) (Sum.inr (Str.ofString "put")) = none from by kernel_rfl] at g
      have hd : (upd (upd H pD (.dK [])) pD (.dK (mergeK [] ([(Sum.inr "sum", V.str "amount"), (Sum.inr "join", V.str "text")] : List (Key × V))))) pD = some (.dK (mergeK [] ([(Sum.inr "sum", V.str "amount"), (Sum.inr "join", V.str "text")] : List (Key × V)))) := upd_same
      generalize upd (upd H pD (.dK [])) pD (.dK (mergeK [] ([(Sum.inr "sum", V.str "amount"), (Sum.inr "join", V.str "text")] : List (Key × V)))) = HD at s1 g hd ⊢
      have hx2 := Sq.same (t := true) hx s1
      refine ⟨pD, rfl, .inl ⟨_, .inl hd⟩, _, rfl, true, a, _, 0, _, rfl, rfl, hx2, rfl, _, rfl, true, a, _, 2, _, rfl, rfl, hx2, rfl, _, g, by show 2 ≤ sizeLine; decide, fun T nT => ⟨by show 1 ≤ sizeLine; decide, fun p2 H2 s2 n2 tz => ?_⟩⟩
      have sT := newS (o := .tup [V.str n, V.str so]) nT
      have s12 := (s1.trans sT).trans s2
      refine ⟨fa, p2, _, _, rfl, rfl, (hz.same s12).sq, tz, by simp, by rw [lf, List.length_singleton]; omega, fun p3 H3 s3 tz3 => q H3 _ (s12.trans s3) ?_⟩
      exact fm_snoc tz3 (hFA.kept (kept_same (s12.trans s3))) ((s2.trans s3) _ _ upd_same)
    · exact absurd e n5
    · subst e
      obtain ⟨d0, d1, rfl⟩ := len2 (Option.some.inj hln).symm
      obtain ⟨x0, x1, e, t0, t1⟩ := th2 hA
      obtain rfl := List.tail_eq_of_cons_eq e
      obtain ⟨hc, rfl⟩ := ifs (show sumB fs d0 d1 = some gs from h)
      obtain ⟨c1, c2⟩ := (Bool.and_eq_true _ _).mp hc
      obtain ⟨n, rfl, hn⟩ := isNew_of c1
      obtain rfl := t0.asStr
      refine ⟨_, rfl, _, rfl, true, a, _, 1, _, rfl, rfl, hx, rfl, fun pD nD => ⟨upd_same, ([(Sum.inr "sum", V.str "amount"), (Sum.inr "join", V.str "text")] : List (Key × V)), rfl, by show 2 ≤ 15; decide, ?_⟩⟩
      have s1 : Same H (upd (upd H pD (.dK [])) pD (.dK (mergeK [] ([(Sum.inr "sum", V.str "amount"), (Sum.inr "join", V.str "text")] : List (Key × V))))) := fun b o e => by
        have ne := ne_of_none e nD
        rw [upd_ne ne, upd_ne ne]
        exact e
      have g := DGet.k (k := Sum.inr (Str.ofString "sum")) (upd_same (H := upd H pD (.dK [])) (a := pD) (o := .dK (mergeK [] ([(Sum.inr "sum", V.str "amount"), (Sum.inr "join", V.str "text")] : List (Key × V)))))
      rw [show valV (mergeK [] ([(Sum.inr "sum", V.str "amount"), (Sum.inr "join", V.str "text")] : List (Key × V))) (Sum.inr (Str.ofString "sum")) = some (V.str "amount") from by kernel_rfl] at g
      have hd : (upd (upd H pD (.dK [])) pD (.dK (mergeK [] ([(Sum.inr "sum", V.str "amount"), (Sum.inr "join", V.str "text")] : List (Key × V))))) pD = some (.dK (mergeK [] ([(Sum.inr "sum", V.str "amount"), (Sum.inr "join", V.str "text")] : List (Key × V)))) := upd_same
      generalize upd (upd H pD (.dK [])) pD (.dK (mergeK [] ([(Sum.inr "sum", V.str "amount"), (Sum.inr "join", V.str "text")] : List (Key × V)))) = HD at s1 g hd ⊢
      have hx2 := Sq.same (t := true) hx s1
      refine ⟨pD, rfl, .inl ⟨_, .inl hd⟩, _, rfl, true, a, _, 0, _, rfl, rfl, hx2, rfl, _, rfl, true, a, _, 2, _, rfl, rfl, hx2, rfl, _, g, by show 2 ≤ sizeLine; decide, fun T nT => ⟨by show 1 ≤ sizeLine; decide, fun p2 H2 s2 n2 tz => ?_⟩⟩
      have sT := newS (o := .tup [V.str n, V.str "amount"]) nT
      have s12 := (s1.trans sT).trans s2
      refine ⟨fa, p2, _, _, rfl, rfl, (hz.same s12).sq, tz, by simp, by rw [lf, List.length_singleton]; omega, fun p3 H3 s3 tz3 => q H3 _ (s12.trans s3) ?_⟩
      exact fm_snoc tz3 (hFA.kept (kept_same (s12.trans s3))) ((s2.trans s3) _ _ upd_same)
    · subst e
      obtain ⟨d0, d1, rfl⟩ := len2 (Option.some.inj hln).symm
      obtain ⟨x0, x1, e, t0, t1⟩ := th2 hA
      obtain rfl := List.tail_eq_of_cons_eq e
      obtain ⟨hc, rfl⟩ := ifs (show joinB fs d0 d1 = some gs from h)
      obtain ⟨c1, c2⟩ := (Bool.and_eq_true _ _).mp hc
      obtain ⟨n, rfl, hn⟩ := isNew_of c1
      obtain rfl := t0.asStr
      refine ⟨_, rfl, _, rfl, true, a, _, 1, _, rfl, rfl, hx, rfl, fun pD nD => ⟨upd_same, ([(Sum.inr "sum", V.str "amount"), (Sum.inr "join", V.str "text")] : List (Key × V)), rfl, by show 2 ≤ 15; decide, ?_⟩⟩
      have s1 : Same H (upd (upd H pD (.dK [])) pD (.dK (mergeK [] ([(Sum.inr "sum", V.str "amount"), (Sum.inr "join", V.str "text")] : List (Key × V))))) := fun b o e => by
        have ne := ne_of_none e nD
        rw [upd_ne ne, upd_ne ne]
        exact e
      have g := DGet.k (k := Sum.inr (Str.ofString "join")) (upd_same (H := upd H pD (.dK [])) (a := pD) (o := .dK (mergeK [] ([(Sum.inr "sum", V.str "amount"), (Sum.inr "join", V.str "text")] : List (Key × V)))))
      rw [show valV (mergeK [] ([(Sum.inr "sum", V.str "amount"), (Sum.inr "join", V.str "text")] : List (Key × V))) (Sum.inr (Str.ofString "join")) = some (V.str "text") from by kernel_rfl] at g
      have hd : (upd (upd H pD (.dK [])) pD (.dK (mergeK [] ([(Sum.inr "sum", V.str "amount"), (Sum.inr "join", V.str "text")] : List (Key × V))))) pD = some (.dK (mergeK [] ([(Sum.inr "sum", V.str "amount"), (Sum.inr "join", V.str "text")] : List (Key × V)))) := upd_same
      generalize upd (upd H pD (.dK [])) pD (.dK (mergeK [] ([(Sum.inr "sum", V.str "amount"), (Sum.inr "join", V.str "text")] : List (Key × V)))) = HD at s1 g hd ⊢
      have hx2 := Sq.same (t := true) hx s1
      refine ⟨pD, rfl, .inl ⟨_, .inl hd⟩, _, rfl, true, a, _, 0, _, rfl, rfl, hx2, rfl, _, rfl, true, a, _, 2, _, rfl, rfl, hx2, rfl, _, g, by show 2 ≤ sizeLine; decide, fun T nT => ⟨by show 1 ≤ sizeLine; decide, fun p2 H2 s2 n2 tz => ?_⟩⟩
      have sT := newS (o := .tup [V.str n, V.str "text"]) nT
      have s12 := (s1.trans sT).trans s2
      refine ⟨fa, p2, _, _, rfl, rfl, (hz.same s12).sq, tz, by simp, by rw [lf, List.length_singleton]; omega, fun p3 H3 s3 tz3 => q H3 _ (s12.trans s3) ?_⟩
      exact fm_snoc tz3 (hFA.kept (kept_same (s12.trans s3))) ((s2.trans s3) _ _ upd_same)
    · exact absurd e n4
    · exact absurd e n1
end
end St6

set_option autoImplicit false
set_option maxHeartbeats 4000000
namespace St6
open PySem PySem.Spec PyProof.Rows L2 Tg Cc Nn TL
/-! a field of one of these sorts -/
theorem getF_mem {fs : Fs} (nd : (fs.map Prod.fst).Nodup) {n s : Str} (h : (n, s) ∈ fs) : getF fs n = some s := by
  induction fs with
  | nil => cases h
  | cons x r ih =>
    rw [List.map_cons, List.nodup_cons] at nd
    rcases List.mem_cons.mp h with e | h2
    · subst e
      exact getF_cons_pos rfl
    · rw [getF_cons_neg (fun e => nd.1 (List.mem_map.mpr ⟨(n, s), h2, e.symm⟩))]
      exact ih nd.2 h2
def Pick (fs : Fs) (l : List Str) : Option Str → Prop
  | none => ∀ n s, getF fs n = some s → s ∉ l
  | some s => ∃ z, getF fs s = some z ∧ z ∈ l
def spPick (K : PySem.W.Frag) : Sp := fun vs H Q _ => ∃ (d cl : Addr) (ns : List Int) (n : Nat) (f : V) (fs : Fs) (st : Addr) (l : List Str), vs = [.ref d, f, .ref st] ∧ Pen H d cl ns n ∧ n ≤ 900000000 ∧ Th K H f (formD fs) ∧ (fs.map Prod.fst).Nodup ∧ fs.length ≤ 1000 ∧ (∀ x ∈ fs, As x.1) ∧ SqT K H st (l.map V.str) ∧
  ∀ H' o, Fr [d] H H' → Pen H' d cl ns (n + 1) → Pick fs l o → Q (optV o) H'
section
variable {P : Program} {w : World} {K : PySem.W.Frag} {mg : Str → Option Value} {base : Heap}
theorem scpick : FnScope ["pen", "fields", "sorts", "field", "sort", "found"] ["pen", "fields", "sorts"] (defScope sLawPick) := ⟨rfl, rfl, rfl, by decide +kernel, rfl, by decide +kernel, by decide +kernel⟩
theorem ok_pick {f : Addr} {fd : FuncData} (F : FnP K "_law_pick" sLawPick f fd) {f__law_draw : Addr} {fd__law_draw : FuncData} (c__law_draw : Cl P w K mg base CX0 "_law_draw" 1 ["pen", "many"] (spDraw) f__law_draw fd__law_draw) (mb_len : mg "len" = none)   : FnOk P w K mg base CX0 2 f fd ["pen", "fields", "sorts"] (spPick K) := by
  refine F.ok scpick (fun vs H Q E h => ?_) (fun cdv A outer s H vs Q E hr h => ?_)
  · obtain ⟨d, cl, ns, n, f, fs, st, l, rfl, _⟩ := h
    rfl
  · obtain ⟨d, cl, ns, n, f, fs, st, l, rfl, hP, hn, hF, nd, hlen, hAs, hl, q⟩ := h
    have hu := hu_of hr
    have hs := szl
    refine ⟨_, PSs.nox (pss_cons (ps_setLc (i := 5) (own := [("field", 3), ("sort", 4)]) rfl scpick.nd rfl rfl (sw_true rfl rfl rfl (by decide +kernel)) (pi_tup (pv 1)) (blkOk_by (own := [("field", 3), ("sort", 4)]) (N := ["pen", "fields", "sorts", "field", "sort", "found"]) (sc := defScope sLawPick) (by decide +kernel)) (fun _ _ _ _ _ => Cc.pg_tupk (K := K) (n := 2) rfl rfl (pgs_cons (pg_name (i := 3) scpick.nd rfl (Or.inl rfl)) (pgs_cons (pg_name (i := 4) scpick.nd rfl (Or.inl rfl)) (pgs_nil)))) (fun _ _ _ _ _ => pts_one (pt_cmpR (Nn.op_inSk (K := K) rfl) (pv 4) (pv 2) (by with_unfolding_all rfl))) (fun _ _ _ _ _ => pv 3))
      (pss_one (ps_ret (pe_ifExp (pt_cmpR (op_neD hr.units) (pv 5) (pe_lst (pa_nil)) (nomark _)) (pe_ix ix_list (pv 5) (pe_call c__law_draw.ok (hr.mono (by decide)) (by rfl) c__law_draw.m c__law_draw.kp c__law_draw.b .nil pass0 (pa_cons (pv 0) (pa_cons (pe_callB call_len_seq (by rfl) mb_len (by decide +kernel) (pa_cons (pv 5) pa_nil)) pa_nil))) (fun _ _ => rfl)) (pe_non))))), ?_⟩
    obtain ⟨fa, fx, rfl, hz, hFA⟩ := hF.asTup
    have lf : fx.length = fs.length := by rw [hFA.len, List.length_map]
    refine ⟨_, rfl, fa, rfl, ⟨fx, hz⟩, fun D nD => ?_⟩
    refine lc_it (walk_tup (K := K) (a := fa) (xs := fx)) (fun i H' => But D H H' ∧ ∃ zs : List Str, H' D = some (.lst (zs.map V.str)) ∧ zs.length ≤ i ∧ (∀ j g, j < i → fs[j]? = some g → g.2 ∈ l → zs ≠ []) ∧ ∀ z ∈ zs, ∃ y, (z, y) ∈ fs ∧ y ∈ l) ⟨But.refl.upd, [], upd_same, Nat.le_refl _, fun j g h => absurd h (Nat.not_lt_zero j), fun z hz => by cases hz⟩ (fun i H' _ ⟨b, _⟩ => Sq.same (t := true) hz (b.new nD)) ?_ ?_
    · rintro i x H1 H2 hi ⟨b, zs, hD, lz, hno, hall⟩ ⟨rfl, hx2⟩
      obtain ⟨dz, hdz, tz, mz⟩ := ThAll.get2 hFA hx2
      obtain ⟨g, hg2, rfl⟩ : ∃ g, fs[i]? = some g ∧ fieldD g = dz := by
        rw [List.getElem?_map] at hdz
        cases hg2 : fs[i]? with
        | none =>
          rw [hg2] at hdz
          cases hdz
        | some g =>
          rw [hg2] at hdz
          exact ⟨g, rfl, Option.some.inj hdz⟩
      obtain ⟨pz, ys, rfl, hpz, hZ⟩ := tz.asTup
      obtain ⟨y0, y1, rfl, u0, u1⟩ := thAll2 hZ
      obtain rfl := u0.asStr
      obtain rfl := u1.asStr
      have s2 := b.new nD
      refine ⟨pz, _, rfl, Sq.same (t := true) hpz s2, rfl, _, _, rfl, _, _, rfl, rfl, rfl, _, rfl, _, rfl, st, _, rfl, .inr (Sq.same (t := true) hl s2), rfl, ?_, ?_⟩
      · exact List.all_eq_true.mpr fun y hy => by
          obtain ⟨z, _, rfl⟩ := List.mem_map.mp hy
          rfl
      rw [if_neg (by decide), in_strs]
      refine ⟨_, rfl, ite2 (fun e => ?_) (fun e => ?_)⟩
      · have hm := of_decide_eq_true e
        refine ⟨_, rfl, _, hD, by rw [List.length_map]; omega, b.upd, zs ++ [g.1], by rw [upd_same, List.map_append]; rfl, by rw [List.length_append, List.length_singleton]; omega, fun _ _ _ _ _ => by simp, fun z hz => ?_⟩
        rcases List.mem_append.mp hz with h1 | h1
        · exact hall z h1
        · rw [List.mem_singleton.mp h1]
          exact ⟨g.2, List.mem_of_getElem? hg2, hm⟩
      · refine ⟨b, zs, hD, by omega, fun j y hj hy hm => ?_, hall⟩
        by_cases ej : j = i
        · subst ej
          rw [hg2] at hy
          obtain rfl := Option.some.inj hy
          exact absurd (decide_eq_true hm) e
        · exact hno j y (by omega) hy hm
    · rintro H1 ⟨b, zs, hD, lz, hno, hall⟩
      have s1 := b.new nD
      have P1 := hP.fr (S := []) (fr_same s1) (by simp) (by simp)
      have nDd : d ≠ D := by
        obtain ⟨⟨ya, yb, hd1, _⟩, _, _⟩ := id hP
        exact ne_of_none hd1 nD
      refine ⟨_, rfl, Nat.zero_le _, fun p np => ⟨.list (zs.map PyData.str), .list [], .lst (SqL.of (newS np _ _ hD)) (dpAll_strs _), .lst (SqL.of upd_same) .nil, shaped_strs fun y hy => ?_, by decide +kernel, _, rfl, ?_⟩⟩
      · obtain ⟨y2, hm, _⟩ := hall y hy
        exact hAs _ hm
      have s2 := newS (o := .lst []) np
      rw [eqv_nil]
      cases zs with
      | nil => exact iteF (q _ none (fr_same (s1.trans s2)) ((P1.fr (S := []) (fr_same s2) (by simp) (by simp)).mono (by omega)) fun n0 s0 e0 hm => by
        unfold getF at e0
        cases e1 : fs.find? fun y => decide (y.1 = n0) with
        | none =>
          rw [e1] at e0
          cases e0
        | some y =>
          rw [e1] at e0
          obtain rfl := Option.some.inj e0
          obtain ⟨j, hj, ej⟩ := List.getElem_of_mem (List.mem_of_find?_eq_some e1)
          exact hno j y (by rw [lf]; exact hj) (by rw [List.getElem?_eq_getElem hj, ej]) hm rfl)
      | cons z0 zr =>
        refine iteT ?_
        have hD2 := s2 _ _ hD
        have P2 := P1.fr (S := []) (fr_same s2) (by simp) (by simp)
        have f2 : Fr [d] H (upd H1 p (.lst [])) := fr_same (s1.trans s2)
        generalize upd H1 p (.lst []) = HA at hD2 P2 f2 ⊢
        have lz2 : (z0 :: zr).length ≤ 1000 := by omega
        have l0 : 0 < (z0 :: zr).length := Nat.succ_pos _
        refine ⟨_, rfl, _, rfl, _, rfl, D, _, rfl, .inl (SqL.of hD2), d, cl, ns, _, n, rfl, P2, by omega, by rw [List.length_map]; omega, by rw [List.length_map]; omega, fun H3 k f3 P3 k0 k1 => ?_⟩
        obtain ⟨u, eu, mu⟩ := atI_map (f := V.str) (xs := z0 :: zr) k0 (by rw [List.length_map] at k1; exact k1)
        refine ⟨D, _, k, .str u, rfl, rfl, SqL.of (f3 _ _ (by simpa using nDd.symm) hD2), eu, ?_⟩
        obtain ⟨y, hm, hy⟩ := hall u mu
        exact q H3 (some u) (f2.trans f3) P3 ⟨y, getF_mem nd hm, hy⟩
end
end St6

set_option autoImplicit false
set_option maxHeartbeats 4000000
namespace St6
open PySem PySem.Spec PyProof.Rows L2 Tg Cc Nn TL
/-! rows of a table, values unlike -/
def kOf : PyData → Key
  | .int i => .inl i
  | .str s => .inr s
  | _ => .inl 0
theorem kV_kOf {D : PyData} (h : Plain D) : vOf D = kV (kOf D) := by
  cases D <;> first | rfl | exact h.elim
abbrev Rs := List (PyData × PyData)
def kvsR (rs : Rs) : List (Key × V) := rs.map fun x => (kOf x.1, vOf x.2)
def putR (rs : Rs) (k v : PyData) : Rs := if rs.any (fun x => decide (kOf x.1 = kOf k)) then rs.map fun x => if kOf x.1 = kOf k then (x.1, v) else x else rs ++ [(k, v)]
theorem putR_kvs (rs : Rs) (k v : PyData) : putK (kvsR rs) (kOf k) (vOf v) = kvsR (putR rs k v) := by
  have any_eq : ((kvsR rs).any fun kv => decide (kv.1 = kOf k)) = rs.any fun x => decide (kOf x.1 = kOf k) := by
    unfold kvsR
    rw [List.any_map]
    rfl
  unfold putK putR
  rw [any_eq]
  cases h : rs.any fun x => decide (kOf x.1 = kOf k)
  · rw [if_neg Bool.false_ne_true, if_neg Bool.false_ne_true]
    unfold kvsR
    rw [List.map_append]
    rfl
  · rw [if_pos rfl, if_pos rfl]
    unfold kvsR
    rw [List.map_map, List.map_map]
    refine List.map_congr_left fun x _ => ?_
    by_cases e : kOf x.1 = kOf k
    · show (if kOf x.1 = kOf k then _ else _) = (kOf (if kOf x.1 = kOf k then (x.1, v) else x).1, vOf (if kOf x.1 = kOf k then (x.1, v) else x).2)
      rw [if_pos e, if_pos e]
    · show (if kOf x.1 = kOf k then _ else _) = (kOf (if kOf x.1 = kOf k then (x.1, v) else x).1, vOf (if kOf x.1 = kOf k then (x.1, v) else x).2)
      rw [if_neg e, if_neg e]
/-- good rows -/
structure GoodR (old new : Str) (rs : Rs) (n : Nat) : Prop where
  len : rs.length ≤ n
  nd : (rs.map fun x => kOf x.1).Nodup
  ok : ∀ x ∈ rs, Plain x.1 ∧ ofSort old x.1 = true ∧ Plain x.2 ∧ ofSort new x.2 = true
theorem GoodR.put {old new : Str} {rs : Rs} {n : Nat} (h : GoodR old new rs n) {k v : PyData} (h1 : Plain k) (h2 : ofSort old k = true) (h3 : Plain v) (h4 : ofSort new v = true) : GoodR old new (putR rs k v) (n + 1) := by
  unfold putR
  cases e : rs.any fun x => decide (kOf x.1 = kOf k)
  · rw [if_neg Bool.false_ne_true]
    refine ⟨by rw [List.length_append, List.length_singleton]; have := h.len; omega, ?_, fun x hx => ?_⟩
    · rw [List.map_append, List.nodup_append]
      refine ⟨h.nd, by simp, fun a ha b hb => ?_⟩
      have : b = kOf k := by simpa using hb
      subst this
      obtain ⟨x, hx, rfl⟩ := List.mem_map.mp ha
      have := List.any_eq_false.mp e x hx
      simpa using this
    · rcases List.mem_append.mp hx with h0 | h0
      · exact h.ok x h0
      · rw [List.mem_singleton.mp h0]
        exact ⟨h1, h2, h3, h4⟩
  · rw [if_pos rfl]
    refine ⟨by rw [List.length_map]; have := h.len; omega, ?_, fun x hx => ?_⟩
    · rw [List.map_map]
      have e2 : rs.map ((fun x : PyData × PyData => kOf x.1) ∘ fun x => if kOf x.1 = kOf k then (x.1, v) else x) = rs.map fun x => kOf x.1 := List.map_congr_left fun x _ => by
        show kOf (if kOf x.1 = kOf k then (x.1, v) else x).1 = kOf x.1
        by_cases z : kOf x.1 = kOf k
        · rw [if_pos z]
        · rw [if_neg z]
      rw [e2]
      exact h.nd
    · obtain ⟨y, hy, rfl⟩ := List.mem_map.mp hx
      obtain ⟨o1, o2, o3, o4⟩ := h.ok y hy
      by_cases z : kOf y.1 = kOf k
      · rw [if_pos z]
        exact ⟨o1, o2, h3, h4⟩
      · rw [if_neg z]
        exact ⟨o1, o2, o3, o4⟩
def rowD (x : PyData × PyData) : PyData := .tuple [x.1, x.2]
theorem GoodR.rows {old new : Str} {rs : Rs} (h : GoodR old new rs 4) : rowsB old new (.tuple (rs.map rowD)) = true := by
  have e : (rs.map rowD).map keyOf = rs.map fun x => kOf x.1 := by
    rw [List.map_map]
    refine List.map_congr_left fun x hx => ?_
    obtain ⟨o1, _⟩ := h.ok x hx
    show keyOf (.tuple [x.1, x.2]) = kOf x.1
    cases h0 : x.1 <;> first | rfl | (rw [h0] at o1; exact o1.elim)
  show ((decide ((rs.map rowD).length ≤ 4) && (rs.map rowD).all (rowB old new)) && decide (((rs.map rowD).map keyOf).Nodup)) = true
  rw [e, List.length_map, decide_eq_true h.len, decide_eq_true h.nd, List.all_map, List.all_eq_true.mpr fun x hx => ?_]
  · rfl
  · obtain ⟨o1, o2, o3, o4⟩ := h.ok x hx
    show (ofSort old x.1 && ofSort new x.2) = true
    rw [o2, o4]
    rfl
def spRowsD (K : PySem.W.Frag) : Sp := fun vs H Q _ => ∃ (d cl : Addr) (ns : List Int) (n : Nat) (old new : Str), vs = [.ref d, .str old, .str new] ∧ Pen H d cl ns n ∧ n ≤ 800000000 ∧ old ∈ testL ∧ new ∈ sorts ∧
  ∀ H' q rs, Fr [d] H H' → Pen H' d cl ns (n + 361) → GoodR old new rs 4 → Th K H' (.ref q) (.tuple (rs.map rowD)) → Q (.ref q) H'
theorem th_rows {K : PySem.W.Frag} {H : Hp} {old new : Str} : ∀ {ts : List Addr} {rs : Rs}, (∀ x ∈ rs, Plain x.1 ∧ ofSort old x.1 = true ∧ Plain x.2 ∧ ofSort new x.2 = true) → Paired (fun (t : Addr) (q : Key × V) => H t = some (.tup [kV q.1, q.2])) ts (kvsR rs) → ThAll K H (ts.map V.ref) (rs.map rowD)
  | [], [], _, _ => .nil
  | t :: ts, g :: gs, ok, h => by
    cases h with
    | cons a b =>
      obtain ⟨o1, _, o3, _⟩ := ok g (List.mem_cons_self ..)
      have a : H t = some (.tup [kV (kOf g.1), vOf g.2]) := a
      rw [← kV_kOf o1] at a
      exact .cons (.tup (SqT.of a) (.cons (th_vOf o1) (.cons (th_vOf o3) .nil))) (th_rows (fun x hx => ok x (List.mem_cons_of_mem _ hx)) b)
section
variable {P : Program} {w : World} {K : PySem.W.Frag} {mg : Str → Option Value} {base : Heap}
theorem scrowsD : FnScope ["pen", "old", "new", "found", "k"] ["pen", "old", "new"] (defScope sLawRows) := ⟨rfl, rfl, rfl, by decide +kernel, rfl, by decide +kernel, by decide +kernel⟩
theorem ok_rowsD {f : Addr} {fd : FuncData} (F : FnP K "_law_rows" sLawRows f fd) {f__law_draw : Addr} {fd__law_draw : FuncData} (c__law_draw : Cl P w K mg base CX0 "_law_draw" 1 ["pen", "many"] (spDraw) f__law_draw fd__law_draw) {f__law_value : Addr} {fd__law_value : FuncData} (c__law_value : Cl P w K mg base CX0 "_law_value" 3 ["pen", "sort"] (spValueD) f__law_value fd__law_value) (mb_range : mg "range" = none) (mb_tuple : mg "tuple" = none) (mb_list : mg "list" = none)   : FnOk P w K mg base CX0 4 f fd ["pen", "old", "new"] (spRowsD K) := by
  refine F.ok scrowsD (fun vs H Q E h => ?_) (fun cdv A outer s H vs Q E hr h => ?_)
  · obtain ⟨d, cl, ns, n, old, new, rfl, _⟩ := h
    rfl
  · obtain ⟨d, cl, ns, n, old, new, rfl, hP, hn, ho, hne, q⟩ := h
    have hu := hu_of hr
    have hs := szl
    refine ⟨_, PSs.nox (pss_cons (ps_set (i := 3) scrowsD.nd rfl (Or.inl rfl) (pe_dnewK))
      (pss_cons (ps_for PassesOwn.never rfl (pi_range1 (by rfl) mb_range (pa_cons (pe_call c__law_draw.ok (hr.mono (by decide)) (by rfl) c__law_draw.m c__law_draw.kp c__law_draw.b .nil pass0 (pa_cons (pv 0) (pa_cons (pe_int) pa_nil))) pa_nil)) (pg_name (i := 4) scrowsD.nd rfl (Or.inl rfl)) (pss_one (ps_dput hu (pv 3) (pe_call c__law_value.ok (hr.mono (by decide)) (by rfl) c__law_value.m c__law_value.kp c__law_value.b .nil pass0 (pa_cons (pv 0) (pa_cons (pv 1) pa_nil))) (pe_call c__law_value.ok (hr.mono (by decide)) (by rfl) c__law_value.m c__law_value.kp c__law_value.b .nil pass0 (pa_cons (pv 0) (pa_cons (pv 2) pa_nil))) rfl)))
      (pss_one (ps_ret (pe_callTy call_tuple_of (by rfl) mb_tuple (by decide +kernel) (pa_cons (LiI.pe_listItems rfl (pv 3) (by rfl) mb_list (by decide +kernel)) pa_nil)))))), ?_⟩
    have hos : old ∈ sorts := (show ∀ z ∈ testL, z ∈ sorts by decide +kernel) old ho
    refine fun D nD => ?_
    obtain ⟨⟨ya, yb, hd0, _⟩, hc0, _⟩ := id hP
    have nDd : d ≠ D := ne_of_none hd0 nD
    have nDc : cl ≠ D := ne_of_none hc0 nD
    refine ⟨_, rfl, d, cl, ns, 5, n, rfl, hP.fr (fr_new (S := []) nD) (by simp) (by simp), by omega, by decide, by decide, fun H1 k f1 P1 k0 k1 => ⟨k, rfl, by omega, by omega, ?_⟩⟩
    obtain ⟨m, rfl⟩ := Int.eq_ofNat_of_zero_le k0
    have hm : m ≤ 4 := by omega
    have hD1 : H1 D = some (.dK (kvsR [])) := f1 _ _ (by simpa using nDd.symm) upd_same
    have f01 : Fr [D, d] H H1 := (fr_new (S := [D, d]) nD).trans (f1.mono (by simp))
    refine for_range (lo := 0) (n := m) (fun i σ' H' => (∃ y, σ' = [some (.ref d), some (.str old), some (.str new), some (.ref D), y]) ∧ Pen H' d cl ns (n + 1 + 90 * i) ∧ Fr [D, d] H H' ∧ ∃ rs, H' D = some (.dK (kvsR rs)) ∧ GoodR old new rs i) ⟨⟨_, rfl⟩, P1, f01, [], hD1, Nat.zero_le _, List.nodup_nil, fun x hx => by cases hx⟩ ?_ ?_
    · rintro i σ' H2 hi ⟨⟨y, rfl⟩, P2, f2, rs, hD2, gr⟩
      refine ⟨_, rfl, _, rfl, d, cl, ns, _, new, rfl, P2, by omega, hne, fun H3 Dv f3 P3 pl3 of3 => ⟨_, rfl, _, rfl, _, rfl, d, cl, ns, _, old, rfl, P3, by omega, hos, fun H4 Dk f4 P4 pl4 of4 => ?_⟩⟩
      have hD4 := f4 _ _ (by simpa using nDd.symm) (f3 _ _ (by simpa using nDd.symm) hD2)
      have gl := gr.len
      have put := DPut.k (k := kOf Dk) (v := vOf Dv) hD4 (by unfold kvsR; rw [List.length_map]; omega)
      rw [← kV_kOf pl4, putR_kvs] at put
      refine ⟨D, _, rfl, put, ⟨_, rfl⟩, (P4.fr (S := [D]) (fr_upd (by simp)) (by simpa using nDd) (by simpa using nDc)).mono (by omega), ((f2.trans (f3.mono (by simp))).trans (f4.mono (by simp))).trans (fr_upd (by simp)), putR rs Dk Dv, upd_same, gr.put pl4 of4 pl3 of3⟩
    · rintro σ' H2 ⟨⟨y, rfl⟩, P2, f2, rs, hD2, gr⟩
      refine ⟨_, rfl, D, _, rfl, hD2, fun H3 p ts hsub hn hts hpt hp hpr => ?_⟩
      have s3 : Same H2 H3 := fun b o e => hsub b o e
      refine ⟨p, _, rfl, .inl ⟨SqL.of hp, fun l nl => ?_⟩⟩
      have s4 := newS (o := .tup (ts.map V.ref)) nl
      have gr4 : GoodR old new rs 4 := ⟨by have := gr.len; omega, gr.nd, gr.ok⟩
      refine q _ l rs (Fr.drop (p := D) (S := [d]) (f2.trans (fr_same (s3.trans s4))) nD) ((P2.fr (S := []) (fr_same (s3.trans s4)) (by simp) (by simp)).mono (by omega)) gr4 ?_
      exact .tup (SqT.of upd_same) ((th_rows gr.ok hpr).kept (kept_same s4))
end
end St6

set_option autoImplicit false
set_option maxHeartbeats 4000000
namespace St6
open PySem PySem.Spec PyProof.Rows L2 Tg Cc TL Nn
def spDFormZ (K : PySem.W.Frag) : Sp := fun vs H Q _ => ∃ (d cl p : Addr) (ns : List Int) (zs : List Str) (m n least : Nat), vs = [.ref d, .ref p, .int (least : Nat)] ∧ Pen H d cl ns n ∧ n ≤ 900000000 ∧ H p = some (.lst (zs.map V.str)) ∧ Names zs m ∧ 6 ≤ m ∧ 1 ≤ least ∧ least ≤ 6 ∧
  ∀ H' u fs, Fr [d] H H' → Pen H' d cl ns (n + 10) → Fm K H' u fs → GoodF fs → least ≤ fs.length → fs.map Prod.fst = zs.take fs.length → Q u H'
section
variable {P : Program} {w : World} {K : PySem.W.Frag} {mg : Str → Option Value} {base : Heap}
theorem ok_dformZ {f : Addr} {fd : FuncData} (F : FnP K "_law_form" sForm f fd) {f__law_draw : Addr} {fd__law_draw : FuncData} (c__law_draw : Cl P w K mg base CX0 "_law_draw" 1 ["pen", "many"] (spDraw) f__law_draw fd__law_draw) (mb_range : mg "range" = none) (mb_tuple : mg "tuple" = none)   : FnOk P w K mg base CX0 2 f fd ["pen", "names", "least"] (spDFormZ K) := by
  refine F.ok scdform (fun vs H Q E h => ?_) (fun cdv A outer s H vs Q E hr h => ?_)
  · obtain ⟨d, cl, p, ns, zs, m, n, least, rfl, _⟩ := h
    rfl
  · obtain ⟨d, cl, p, ns, zs, m, n, least, rfl, hP, hn, hp, hN, hm, l1, l6, q⟩ := h
    have hu := hu_of hr
    have hs := szl
    refine ⟨_, PSs.nox (pss_cons (ps_set (i := 3) scdform.nd rfl (Or.inr rfl) (pe_lst (pa_cons (pe_str) (pa_cons (pe_str) (pa_cons (pe_str) (pa_cons (pe_str) (pa_cons (pe_str) (pa_cons (pe_str) pa_nil))))))))
      (pss_one (ps_ret (pe_callTy Nn.call_tuple_ofZ (by rfl) mb_tuple (by decide +kernel) (pa_cons (pe_lc (own := [("k", 4)]) (g := gName 4) (tt := tYes) rfl scdform.nd (pi_range1 (by rfl) mb_range (pa_cons (pe_op op_add (pv 2) (pe_call c__law_draw.ok (hr.mono (by decide)) (by rfl) c__law_draw.m c__law_draw.kp c__law_draw.b .nil pass0 (pa_cons (pv 0) (pa_cons (pe_op op_sub (pe_int) (pv 2)) pa_nil)))) pa_nil)) (blkOk_by (own := [("k", 4)]) (N := ["pen", "names", "least", "sorts", "k"]) (sc := defScope sForm) (by decide +kernel)) (fun _ _ _ _ _ => pg_name (i := 4) scdform.nd rfl (Or.inl rfl)) (fun _ _ _ _ _ => pts_nil) (fun _ _ _ _ _ => pe_tup (pa_cons (pe_ix (Cc.ix_listk (K := K) rfl) (pv 1) (pv 4) (fun _ _ => rfl)) (pa_cons (pe_ix (Cc.ix_listk (K := K) rfl) (pv 3) (pe_call c__law_draw.ok (hr.mono (by decide)) (by rfl) c__law_draw.m c__law_draw.kp c__law_draw.b .nil pass0 (pa_cons (pv 0) (pa_cons (pe_int) pa_nil))) (fun _ _ => rfl)) pa_nil)))) pa_nil))))), ?_⟩
    refine ⟨by show 6 ≤ sizeLine; decide, fun s ns_ => ?_⟩
    obtain ⟨⟨xa0, xb0, hd0, _⟩, hc0, _⟩ := id hP
    have s0 := newS (o := .lst (dsorts.map V.str)) ns_
    have P0 : Pen (upd H s (.lst (dsorts.map V.str))) d cl ns n := hP.fr (fr_new (S := []) ns_) (by simp) (by simp)
    refine ⟨_, rfl, _, rfl, _, rfl, _, _, rfl, rfl, d, cl, ns, 7 - (least : Int), n, rfl, P0, by omega, by omega, by omega, fun H1 k1 f1 P1 k10 k11 => ?_⟩
    obtain ⟨c, rfl⟩ := Int.eq_ofNat_of_zero_le k10
    refine ⟨_, _, rfl, rfl, _, rfl, by omega, by omega, fun L nL => ?_⟩
    obtain ⟨⟨xa, xb, hd1, _⟩, hc1, _⟩ := id P1
    have nsd : d ≠ s := ne_of_none hd0 ns_
    have npd : p ≠ d := ne_of hp hd0 (by intro z; cases z)
    have hs1 : H1 s = some (.lst (dsorts.map V.str)) := f1 _ _ (by simpa using nsd.symm) upd_same
    have hp1 : H1 p = some (.lst (zs.map V.str)) := f1 _ _ (by simpa using npd) (s0 _ _ hp)
    have nLd : d ≠ L := ne_of_none hd1 nL
    have nLc : cl ≠ L := ne_of_none hc1 nL
    have nLs : s ≠ L := ne_of_none hs1 nL
    have nLp : p ≠ L := ne_of_none hp1 nL
    refine lc_acc (walk_range (lo := 0) (n := ((least : Int) + (c : Int)).toNat)) (fun i acc H' => ∃ ps : List (Addr × Str × Str), acc = ps.map (fun x => V.ref x.1) ∧ (∀ x ∈ ps, H' x.1 = some (.tup [.str x.2.1, .str x.2.2])) ∧ ps.map (fun x => x.2.1) = zs.take i ∧ (∀ x ∈ ps, x.2.2 ∈ sorts) ∧ Fr [d, L] H1 H' ∧ Pen H' d cl ns (n + 1 + i))
      ⟨[], rfl, (fun _ z => by cases z), rfl, (fun _ z => by cases z), fr_upd (by simp), P1.fr (fr_new (S := []) nL) (by simp) (by simp)⟩ (fun _ _ _ _ _ _ => trivial) ?_ ?_
    · rintro i x acc H2 H3 hi la ⟨ps, rfl, h1, h2, h3, f2, P2⟩ hL ⟨rfl, rfl⟩
      have hp2 : H3 p = some (.lst (zs.map V.str)) := f2 _ _ (by simp [npd, nLp]) hp1
      have hs2 : H3 s = some (.lst (dsorts.map V.str)) := f2 _ _ (by simp [nsd.symm, nLs]) hs1
      have iz : i < zs.length := by
        rw [hN.len]
        omega
      obtain ⟨z, ez, _⟩ : ∃ z, atI (zs.map V.str) (0 + (i : Int)) = some (.str z) ∧ zs[i]? = some z := by
        refine ⟨zs[i], ?_, List.getElem?_eq_getElem iz⟩
        rw [Int.zero_add]
        exact atI_nat (by rw [List.getElem?_map, List.getElem?_eq_getElem iz]; rfl)
      have ezi : zs[i]? = some z := by assumption
      refine ⟨rfl, _, rfl, _, rfl, p, _, _, _, rfl, rfl, SqL.of hp2, ez, _, rfl, _, rfl, d, cl, ns, 6, _, rfl, P2, by omega, by decide, by decide, fun H4 d4 f4 P4 d40 d41 => ?_⟩
      have hL4 := f4 _ _ (by simpa using nLd.symm) hL
      obtain ⟨y, ey, my⟩ := atI_map (f := V.str) (xs := dsorts) d40 d41
      refine ⟨s, _, d4, _, rfl, rfl, SqL.of (f4 _ _ (by simpa using nsd.symm) hs2), ey, by show 2 ≤ sizeLine; decide, fun t nt => ?_⟩
      have s4 := newS (o := .tup [.str z, .str y]) nt
      refine push (s4 _ _ hL4) la (by omega) ⟨ps ++ [(t, z, y)], ?_, ?_, ?_, ?_, ((f2.trans (f4.mono (by simp))).trans (fr_same s4)).trans (fr_upd (by simp)), ((P4.fr (fr_new (S := []) nt) (by simp) (by simp)).fr (S := [L]) (fr_upd (by simp)) (by simpa using nLd) (by simpa using nLc)).mono (by omega)⟩
      · rw [List.map_append]
        rfl
      · intro x hx
        have keep : ∀ o : HO, upd H4 t (.tup [.str z, .str y]) x.1 = some o → (∀ l, o ≠ .lst l) → upd (upd H4 t (.tup [.str z, .str y])) L (.lst (ps.map (fun x => V.ref x.1) ++ [V.ref t])) x.1 = some o := fun o ho no => by
          rw [upd_ne]
          · exact ho
          · exact ne_of ho (s4 _ _ hL4) (no _)
        rcases List.mem_append.mp hx with h | h
        · have e := h1 x h
          refine keep _ (s4 _ _ (f4 _ _ ?_ e)) (fun l e => by cases e)
          obtain ⟨⟨xa2, xb2, hd2, _⟩, _⟩ := id P2
          simpa using ne_of e hd2 (by intro z; cases z)
        · rw [List.mem_singleton.mp h] at keep ⊢
          exact keep _ upd_same (fun l e => by cases e)
      · rw [List.map_append, h2, List.take_succ, ezi]
        rfl
      · intro x hx
        rcases List.mem_append.mp hx with h | h
        · exact h3 x h
        · rw [List.mem_singleton.mp h]
          exact dsorts_in my
    · rintro acc H2 la ⟨ps, rfl, h1, h2, h3, f2, P2⟩ hL
      rw [List.length_map] at la
      refine ⟨L, _, rfl, SqL.of hL, fun t HZ sZ nt tz => ?_⟩
      have fA : Fr [d] H HZ := by
        refine Fr.trans ?_ (fr_same sZ)
        refine Fr.drop (p := L) (S := [d]) (((fr_same s0).trans (f1.mono (by simp))).trans (f2.mono (by simp))) ?_
        exact s0.free (f1.free (by simpa using nLd.symm) nL)
      have el : (ps.map Prod.snd).length = ps.length := List.length_map _
      have en : (ps.map Prod.snd).map Prod.fst = zs.take ps.length := by
        rw [List.map_map, la]
        exact h2
      refine q _ (.ref t) (ps.map Prod.snd) fA ((P2.fr (fr_same (S := []) sZ) (by simp) (by simp)).mono (by omega)) ⟨t, _, rfl, tz, th_fields fun x hx => sZ _ _ (h1 x hx)⟩ ⟨by omega, by omega, ?_, fun x hx => ?_⟩ (by omega) (by rw [en, el])
      · rw [en]
        exact hN.nd.sublist (List.take_sublist _ _)
      · obtain ⟨y, hy, rfl⟩ := List.mem_map.mp hx
        have mz : y.2.1 ∈ zs := by
          have : y.2.1 ∈ zs.take ps.length := by
            rw [← en, List.map_map]
            exact List.mem_map.mpr ⟨y, hy, rfl⟩
          exact List.mem_of_mem_take this
        obtain ⟨g1, g2, g3⟩ := hN.ok _ mz
        exact ⟨g1, g2, g3, h3 y hy⟩
end
end St6

set_option autoImplicit false
set_option maxHeartbeats 4000000
namespace St6
open PySem PySem.Spec PyProof.Rows L2 Tg Cc Nn
/-! the law's going through, of cases within cases to c -/
theorem fn_sub {P : Program} {w : World} {K : PySem.W.Frag} {mg : Str → Option Value} {base : Heap} {k : Nat} {f : Addr} {fd : FuncData} {ps : List Str} {sp : Sp} (h : ∀ vs H Q E, sp vs H Q E → False) : FnOk P w K mg base CX0 k f fd ps sp :=
  ⟨fun vs H Q E a => (h vs H Q E a).elim, fun A outer s H args us vs Q E hr he hb hv a => (h vs H Q E a).elim⟩
theorem lbehind0 {K : PySem.W.Frag} (vs : List V) (H : Hp) (Q : VK) (E : XK) (h : spLBehind K 0 vs H Q E) : False := by
  obtain ⟨f, fs, v, d, gs, _, _, _, _, _, _, hB, hst, _⟩ := h
  obtain ⟨wd, r, rfl, _, _⟩ := stepB_some hst
  exact hB
theorem ok_lends {P : Program} {w : World} {K : PySem.W.Frag} {mg : Str → Option Value} {base : Heap} {f_b f_e : Addr} {fd_b fd_e : FuncData}
    (Fb : FnP K "_law_behind" sLawBehind f_b fd_b) (m_b : mg "_law_behind" = some (.ref f_b)) (b_b : Binds K fd_b ["fields", "step"] [])
    (Fe : FnP K "_law_end" sLawEnd f_e fd_e) (m_e : mg "_law_end" = some (.ref f_e)) (b_e : Binds K fd_e ["fields", "steps"] []) (mt : mg "tuple" = none) (md : mg "dict" = none) :
    ∀ c, FnOk P w K mg base CX0 (2 + 2 * c + 1) f_e fd_e ["fields", "steps"] (spLEnd K c)
  | 0 => ok_lend (c := 0) Fe ⟨fn_sub lbehind0, m_b, Fb.kp, b_b⟩
  | c + 1 => by
    have ih := ok_lends (P := P) (w := w) (base := base) Fb m_b b_b Fe m_e b_e mt md c
    exact ok_lend (c := c + 1) Fe ⟨ok_lbehind Fb ⟨ih, m_e, Fe.kp, b_e⟩ mt md, m_b, Fb.kp, b_b⟩
end St6

set_option autoImplicit false
set_option maxHeartbeats 2000000
/-! things that stand apart from some places -/
namespace Tg
open PySem PySem.Spec PyProof.Rows L2
mutual
/-- v stands for d, whatever lies at the places of S -/
inductive Ta (K : PySem.W.Frag) (S : Addr → Prop) (H : Hp) : V → PyData → Prop
  | non : Ta K S H .non .none
  | bl (b : Bool) : Ta K S H (.bl b) (.bool b)
  | int (i : Int) : Ta K S H (.int i) (.int i)
  | str (x : Str) : Ta K S H (.str x) (.str x)
  | lst {a : Addr} {xs : List V} {ds : List PyData} : ¬ S a → Rd H a (.lst xs) → TaAll K S H xs ds → Ta K S H (.ref a) (.list ds)
  | lstK {a : Addr} {xs : List V} {ds : List PyData} : (∀ H, SqL K H a xs) → TaAll K S H xs ds → Ta K S H (.ref a) (.list ds)
  | tup {a : Addr} {xs : List V} {ds : List PyData} : ¬ S a → Rd H a (.tup xs) → TaAll K S H xs ds → Ta K S H (.ref a) (.tuple ds)
  | tupK {a : Addr} {xs : List V} {ds : List PyData} : (∀ H, SqT K H a xs) → TaAll K S H xs ds → Ta K S H (.ref a) (.tuple ds)
  | dct {a : Addr} {kvs : List (Key × V)} : ¬ S a → H a = some (.dK kvs) → kvs.length ≤ 1 → Ta K S H (.ref a) (.dict [])
inductive TaAll (K : PySem.W.Frag) (S : Addr → Prop) (H : Hp) : List V → List PyData → Prop
  | nil : TaAll K S H [] []
  | cons {v : V} {vs : List V} {d : PyData} {ds : List PyData} : Ta K S H v d → TaAll K S H vs ds → TaAll K S H (v :: vs) (d :: ds)
end
mutual
theorem Ta.th {K : PySem.W.Frag} {S : Addr → Prop} {H : Hp} : ∀ {v : V} {d : PyData}, Ta K S H v d → Th K H v d
  | _, _, .non => .non
  | _, _, .bl b => .bl b
  | _, _, .int i => .int i
  | _, _, .str x => .str x
  | _, _, .lst _ r t => .lst (.inl r) t.th
  | _, _, .lstK r t => .lst (r H) t.th
  | _, _, .tup _ r t => .tup (.inl r) t.th
  | _, _, .tupK r t => .tup (r H) t.th
  | _, _, .dct _ r l => .dct r l
theorem TaAll.th {K : PySem.W.Frag} {S : Addr → Prop} {H : Hp} : ∀ {vs : List V} {ds : List PyData}, TaAll K S H vs ds → ThAll K H vs ds
  | _, _, .nil => .nil
  | _, _, .cons h t => .cons h.th t.th
end
mutual
theorem Ta.of {K : PySem.W.Frag} {H : Hp} : ∀ {v : V} {d : PyData}, Th K H v d → Ta K (fun _ => False) H v d
  | _, _, .non => .non
  | _, _, .bl b => .bl b
  | _, _, .int i => .int i
  | _, _, .str x => .str x
  | _, _, .lst (.inl r) t => .lst id r (TaAll.of t)
  | _, _, .lst (.inr r) t => .lstK (fun _ => .inr r) (TaAll.of t)
  | _, _, .tup (.inl r) t => .tup id r (TaAll.of t)
  | _, _, .tup (.inr r) t => .tupK (fun _ => .inr r) (TaAll.of t)
  | _, _, .dct r l => .dct id r l
theorem TaAll.of {K : PySem.W.Frag} {H : Hp} : ∀ {vs : List V} {ds : List PyData}, ThAll K H vs ds → TaAll K (fun _ => False) H vs ds
  | _, _, .nil => .nil
  | _, _, .cons h t => .cons (Ta.of h) (TaAll.of t)
end
mutual
/-- other heaps that agree but on S -/
theorem Ta.fr {K : PySem.W.Frag} {S : Addr → Prop} {H H1 : Hp} (k : ∀ b o, ¬ S b → H b = some o → H1 b = some o) : ∀ {v : V} {d : PyData}, Ta K S H v d → Ta K S H1 v d
  | _, _, .non => .non
  | _, _, .bl b => .bl b
  | _, _, .int i => .int i
  | _, _, .str x => .str x
  | _, _, .lst n r t => .lst n (r.elim (fun e => .inl (k _ _ n e)) fun ⟨o, e⟩ => .inr ⟨o, k _ _ n e⟩) (t.fr k)
  | _, _, .lstK r t => .lstK r (t.fr k)
  | _, _, .tup n r t => .tup n (r.elim (fun e => .inl (k _ _ n e)) fun ⟨o, e⟩ => .inr ⟨o, k _ _ n e⟩) (t.fr k)
  | _, _, .tupK r t => .tupK r (t.fr k)
  | _, _, .dct n r l => .dct n (k _ _ n r) l
theorem TaAll.fr {K : PySem.W.Frag} {S : Addr → Prop} {H H1 : Hp} (k : ∀ b o, ¬ S b → H b = some o → H1 b = some o) : ∀ {vs : List V} {ds : List PyData}, TaAll K S H vs ds → TaAll K S H1 vs ds
  | _, _, .nil => .nil
  | _, _, .cons h t => .cons (h.fr k) (t.fr k)
end
mutual
/-- a place where nothing lay stands apart -/
theorem Ta.also {K : PySem.W.Frag} {S : Addr → Prop} {H : Hp} {D : Addr} (nD : H D = none) : ∀ {v : V} {d : PyData}, Ta K S H v d → Ta K (fun b => b = D ∨ S b) H v d
  | _, _, .non => .non
  | _, _, .bl b => .bl b
  | _, _, .int i => .int i
  | _, _, .str x => .str x
  | _, _, .lst n r t => .lst (fun z => z.elim (fun e => r.elim (fun q => ne_of_none q nD e) fun ⟨o, q⟩ => ne_of_none q nD e) n) r (t.also nD)
  | _, _, .lstK r t => .lstK r (t.also nD)
  | _, _, .tup n r t => .tup (fun z => z.elim (fun e => r.elim (fun q => ne_of_none q nD e) fun ⟨o, q⟩ => ne_of_none q nD e) n) r (t.also nD)
  | _, _, .tupK r t => .tupK r (t.also nD)
  | _, _, .dct n r l => .dct (fun z => z.elim (fun e => ne_of_none r nD e) n) r l
theorem TaAll.also {K : PySem.W.Frag} {S : Addr → Prop} {H : Hp} {D : Addr} (nD : H D = none) : ∀ {vs : List V} {ds : List PyData}, TaAll K S H vs ds → TaAll K (fun b => b = D ∨ S b) H vs ds
  | _, _, .nil => .nil
  | _, _, .cons h t => .cons (h.also nD) (t.also nD)
end
mutual
theorem Ta.less {K : PySem.W.Frag} {S R : Addr → Prop} {H : Hp} (k : ∀ b, R b → S b) : ∀ {v : V} {d : PyData}, Ta K S H v d → Ta K R H v d
  | _, _, .non => .non
  | _, _, .bl b => .bl b
  | _, _, .int i => .int i
  | _, _, .str x => .str x
  | _, _, .lst n r t => .lst (fun z => n (k _ z)) r (t.less k)
  | _, _, .lstK r t => .lstK r (t.less k)
  | _, _, .tup n r t => .tup (fun z => n (k _ z)) r (t.less k)
  | _, _, .tupK r t => .tupK r (t.less k)
  | _, _, .dct n r l => .dct (fun z => n (k _ z)) r l
theorem TaAll.less {K : PySem.W.Frag} {S R : Addr → Prop} {H : Hp} (k : ∀ b, R b → S b) : ∀ {vs : List V} {ds : List PyData}, TaAll K S H vs ds → TaAll K R H vs ds
  | _, _, .nil => .nil
  | _, _, .cons h t => .cons (h.less k) (t.less k)
end
end Tg

set_option autoImplicit false
set_option maxHeartbeats 4000000
namespace St6
open PySem PySem.Spec PyProof.Rows L2 Tg Cc Nn TL
/-! what drawn steps are: plain data, steps that fit -/
/-- None, whole numbers, texts, tuples (and lists) of such -/
inductive Pu (l : Bool) : PyData → Prop
  | non : Pu l .none
  | int (i : Int) : Pu l (.int i)
  | str (s : Str) : Pu l (.str s)
  | tup {ds : List PyData} : (∀ d ∈ ds, Pu l d) → Pu l (.tuple ds)
  | lst {ds : List PyData} : l = true → (∀ d ∈ ds, Pu l d) → Pu l (.list ds)
theorem Pu.up {l : Bool} {d : PyData} (h : Pu l d) : Pu true d := by
  induction h with
  | non => exact .non
  | int i => exact .int i
  | str s => exact .str s
  | tup _ ih => exact .tup ih
  | lst _ _ ih => exact .lst rfl ih
theorem Pu.mem {l : Bool} {ds : List PyData} (h : Pu l (.tuple ds)) : ∀ d ∈ ds, Pu l d := by
  cases h with
  | tup h => exact h
theorem Pu.noLst {d : PyData} (h : Pu false d) : ∀ m, noLst m d = true := by
  induction h with
  | non => intro m; cases m <;> rfl
  | int i => intro m; cases m <;> rfl
  | str s => intro m; cases m <;> rfl
  | tup h ih =>
    intro m
    cases m with
    | zero => rfl
    | succ m => exact List.all_eq_true.mpr fun x hx => ih x hx m
  | lst e => cases e
theorem pu_tup2 {l : Bool} {a b : PyData} (h1 : Pu l a) (h2 : Pu l b) : Pu l (.tuple [a, b]) := .tup fun d hd => by
  rcases List.mem_cons.mp hd with rfl | hd
  · exact h1
  · rw [List.mem_singleton.mp hd]
    exact h2
theorem plain_pu {l : Bool} {d : PyData} (h : Plain d) : Pu l d := by
  cases d with
  | int i => exact .int i
  | str s => exact .str s
  | _ => exact h.elim
mutual
theorem Pu.shd {l : Bool} : ∀ {d : PyData} {N m : Nat}, Pu l d → Bd N m d → PyData.canLay0 d = true ∧ PyData.depth d ≤ m
  | .none, _, _, _, _ => ⟨rfl, Nat.zero_le _⟩
  | .bool _, _, _, h, _ => by cases h
  | .int _, _, _, _, _ => ⟨rfl, Nat.zero_le _⟩
  | .str s, _, _, _, b => by
    refine ⟨?_, Nat.zero_le _⟩
    have h1 : PyData.strOk s = true := by
      unfold PyData.strOk
      rw [Array.all_eq_true']
      intro c hc
      have := (bd_str.mp b).2 c (by simpa using hc)
      exact decide_eq_true (by omega)
    simpa [PyData.canLay0] using h1
  | .dict _, _, _, h, _ => by cases h
  | .tuple ds, _, 0, _, b => b.elim
  | .list ds, _, 0, _, b => b.elim
  | .tuple ds, _, m + 1, h, b => by
    have := shdAll ds (fun d hd => h.mem d hd) b.2
    simp only [PyData.canLay0, PyData.depth]
    exact ⟨this.1, by omega⟩
  | .list ds, _, m + 1, h, b => by
    have := shdAll ds (fun d hd => by
      cases h with
      | lst _ h => exact h d hd) b.2
    simp only [PyData.canLay0, PyData.depth]
    exact ⟨this.1, by omega⟩
theorem shdAll {l : Bool} {N m : Nat} : ∀ (ds : List PyData), (∀ d ∈ ds, Pu l d) → (∀ d ∈ ds, Bd N m d) → PyData.canLayAll0 ds = true ∧ PyData.depthAll ds ≤ m
  | [], _, _ => ⟨rfl, Nat.zero_le _⟩
  | d :: r, h, b => by
    have h1 := Pu.shd (h d (List.mem_cons_self ..)) (b d (List.mem_cons_self ..))
    have h2 := shdAll r (fun x hx => h x (List.mem_cons_of_mem _ hx)) (fun x hx => b x (List.mem_cons_of_mem _ hx))
    simp only [PyData.canLayAll0, PyData.depthAll, h1.1, h2.1, Bool.and_self]
    exact ⟨trivial, by omega⟩
end
theorem Pu.shaped {l : Bool} {d : PyData} {N m : Nat} (h : Pu l d) (b : Bd N m d) (hm : m ≤ 64) : SeqAt.shaped d = true := by
  have := h.shd b
  unfold SeqAt.shaped
  rw [this.1, decide_eq_true (by omega)]
  rfl
theorem Pu.eqv {l : Bool} {d : PyData} {N m : Nat} (h : Pu l d) (b : Bd N m d) : d.eqv d = true := SeqAt.eqv_refl d (h.shd b).1
mutual
theorem th_dp {l : Bool} {K : PySem.W.Frag} {H : Hp} : ∀ {v : V} {d : PyData}, Th K H v d → Pu l d → Dp K H v d
  | _, _, .non, _ => .non
  | _, _, .bl b, _ => .bl b
  | _, _, .int i, _ => .int i
  | _, _, .str x, _ => .str x
  | _, _, .lst r t, p => .lst r (thAll_dp t fun d hd => by
      cases p with
      | lst _ h => exact h d hd)
  | _, _, .tup r t, p => .tup r (thAll_dp t p.mem)
  | _, _, .dct _ _, p => by cases p
theorem thAll_dp {l : Bool} {K : PySem.W.Frag} {H : Hp} : ∀ {vs : List V} {ds : List PyData}, ThAll K H vs ds → (∀ d ∈ ds, Pu l d) → DpAll K H vs ds
  | _, _, .nil, _ => .nil
  | _, _, .cons h t, p => .cons (th_dp h (p _ (List.mem_cons_self ..))) (thAll_dp t fun d hd => p d (List.mem_cons_of_mem _ hd))
end
theorem _root_.Tg.Th.dp {l : Bool} {K : PySem.W.Frag} {H : Hp} {v : V} {d : PyData} (h : Th K H v d) (p : Pu l d) : Dp K H v d := th_dp h p
/-- places of lists and of dicts of some entries -/
def Odd (S : Addr → Prop) (H : Hp) : Prop := ∀ b, S b → (∃ l, H b = some (.lst l)) ∨ ∃ kvs, H b = some (.dK kvs) ∧ 1 < kvs.length
theorem Odd.tup {S : Addr → Prop} {H : Hp} (h : Odd S H) {a : Addr} {xs : List V} (r : Rd H a (.tup xs)) : ¬ S a := fun z => by
  rcases h a z with ⟨l, e⟩ | ⟨kvs, e, _⟩ <;> rcases r with r | ⟨o, r⟩ <;> (rw [e] at r; cases r)
mutual
theorem th_apart {K : PySem.W.Frag} {S : Addr → Prop} {H : Hp} (o : Odd S H) : ∀ {v : V} {d : PyData}, Th K H v d → Pu false d → Ta K S H v d
  | _, _, .non, _ => .non
  | _, _, .bl b, _ => .bl b
  | _, _, .int i, _ => .int i
  | _, _, .str x, _ => .str x
  | _, _, .lst r t, p => by
    cases p with
    | lst e h => cases e
  | _, _, .tup (.inl r) t, p => .tup (o.tup r) r (thAll_apart o t p.mem)
  | _, _, .tup (.inr r) t, p => .tupK (fun _ => .inr r) (thAll_apart o t p.mem)
  | _, _, .dct _ _, p => by cases p
theorem thAll_apart {K : PySem.W.Frag} {S : Addr → Prop} {H : Hp} (o : Odd S H) : ∀ {vs : List V} {ds : List PyData}, ThAll K H vs ds → (∀ d ∈ ds, Pu false d) → TaAll K S H vs ds
  | _, _, .nil, _ => .nil
  | _, _, .cons h t, p => .cons (th_apart o h (p _ (List.mem_cons_self ..))) (thAll_apart o t fun d hd => p d (List.mem_cons_of_mem _ hd))
end
theorem _root_.Tg.Th.apart {K : PySem.W.Frag} {S : Addr → Prop} {H : Hp} {v : V} {d : PyData} (h : Th K H v d) (o : Odd S H) (p : Pu false d) : Ta K S H v d := th_apart o h p
theorem _root_.Tg.ThAll.apart {K : PySem.W.Frag} {S : Addr → Prop} {H : Hp} {vs : List V} {ds : List PyData} (h : ThAll K H vs ds) (o : Odd S H) (p : ∀ d ∈ ds, Pu false d) : TaAll K S H vs ds := thAll_apart o h p
theorem odd_of {H : Hp} {d cl : Addr} {ns : List Int} {n : Nat} (P : Pen H d cl ns n) : Odd (fun b => b ∈ [d]) H := fun b hb => by
  obtain ⟨⟨x, y, h1, _⟩, _⟩ := id P
  rw [List.mem_singleton.mp hb]
  exact .inr ⟨_, h1, by show 1 < 4; omega⟩
theorem odd2 {H : Hp} {d cl L : Addr} {ns : List Int} {n : Nat} {l : List V} (P : Pen H d cl ns n) (hL : H L = some (.lst l)) : Odd (fun b => b ∈ [d, L]) H := fun b hb => by
  rcases List.mem_cons.mp hb with rfl | hb
  · exact odd_of P _ (List.mem_singleton_self _)
  · rw [List.mem_singleton.mp hb]
    exact .inl ⟨l, hL⟩
theorem frk {S : List Addr} {H H1 : Hp} (f : Fr S H H1) : ∀ b o, ¬ (b ∈ S) → H b = some o → H1 b = some o := fun b o n e => f b o n e
theorem _root_.Tg.Th.frN {K : PySem.W.Frag} {S : List Addr} {H H1 : Hp} {v : V} {d : PyData} (h : Th K H v d) (p : Pu false d) (o : Odd (fun b => b ∈ S) H) (f : Fr S H H1) : Th K H1 v d := ((h.apart o p).fr (frk f)).th
theorem _root_.Tg.ThAll.frN {K : PySem.W.Frag} {S : List Addr} {H H1 : Hp} {vs : List V} {ds : List PyData} (h : ThAll K H vs ds) (p : ∀ d ∈ ds, Pu false d) (o : Odd (fun b => b ∈ S) H) (f : Fr S H H1) : ThAll K H1 vs ds := ((h.apart o p).fr (frk f)).th
theorem pu_field {l : Bool} (g : Str × Str) : Pu l (fieldD g) := pu_tup2 (.str _) (.str _)
theorem pu_fields {l : Bool} (fs : Fs) : ∀ d ∈ fs.map fieldD, Pu l d := fun d hd => by
  obtain ⟨g, _, rfl⟩ := List.mem_map.mp hd
  exact pu_field g
theorem pu_form {l : Bool} (fs : Fs) : Pu l (formD fs) := .tup (pu_fields fs)
theorem Fm.frN {K : PySem.W.Frag} {S : List Addr} {H H1 : Hp} {f : V} {fs : Fs} (h : Fm K H f fs) (o : Odd (fun b => b ∈ S) H) (k : Fr S H H1) : Fm K H1 f fs := by
  obtain ⟨a, xs, rfl, h1, h2⟩ := h
  obtain ⟨ob, hd, e⟩ := h1
  exact ⟨a, xs, rfl, ⟨ob, hd, k _ _ (fun z => o.tup (.inr ⟨ob, e⟩) z) e⟩, h2.frN (pu_fields fs) o k⟩
/-! ### steps that leave the fields -/
/-- gs has the fields of fs -/
structure Ext (fs gs : Fs) : Prop where
  nd : (gs.map Prod.fst).Nodup
  has : ∀ n s, getF fs n = some s → getF gs n = some s
theorem Ext.refl {fs : Fs} (nd : (fs.map Prod.fst).Nodup) : Ext fs fs := ⟨nd, fun _ _ e => e⟩
theorem Ext.trans {fs gs hs : Fs} (a : Ext fs gs) (b : Ext gs hs) : Ext fs hs := ⟨b.nd, fun n s e => b.has n s (a.has n s e)⟩
theorem getF_app {fs : Fs} {n s : Str} (x : Str × Str) (h : getF fs n = some s) : getF (fs ++ [x]) n = some s := by
  unfold getF at h ⊢
  rw [List.find?_append]
  cases e : fs.find? fun y => decide (y.1 = n) with
  | none =>
    rw [e] at h
    cases h
  | some y =>
    rw [e] at h
    exact h
theorem Ext.new {fs : Fs} {n s : Str} (nd : (fs.map Prod.fst).Nodup) (h : getF fs n = none) : Ext fs (fs ++ [(n, s)]) := ⟨nd_new h nd, fun m t e => getF_app _ e⟩
/-- a step that leaves all fields as they are -/
def ModS (k : Nat) (fs : Fs) (d : PyData) : Prop := ∀ c gs, k ≤ c → Ext fs gs → stepB (recOf c) gs d = some gs
theorem ModS.mono {k m : Nat} {fs : Fs} {d : PyData} (h : ModS k fs d) (l : k ≤ m) : ModS m fs d := fun c gs hc e => h c gs (Nat.le_trans l hc) e
theorem ModS.ext {k : Nat} {fs gs : Fs} {d : PyData} (h : ModS k fs d) (e : Ext fs gs) : ModS k gs d := fun c hs hc x => h c hs hc (e.trans x)
theorem go_mods {k c : Nat} {fs gs : Fs} (hc : k ≤ c) (e : Ext fs gs) : ∀ (ds : List PyData) (i : Nat), (∀ d ∈ ds, ModS k fs d) → goB (stepB (recOf c)) i gs ds = .ok gs
  | [], _, _ => rfl
  | d :: r, i, h => by
    rw [go_cons, h d (List.mem_cons_self ..) c gs hc e]
    exact go_mods hc e r (i + 1) fun x hx => h x (List.mem_cons_of_mem _ hx)
theorem steps_mods {k c : Nat} {fs gs : Fs} {ds : List PyData} (hc : k ≤ c) (e : Ext fs gs) (h : ∀ d ∈ ds, ModS k fs d) : stepsB c gs (.tuple ds) = .ok gs := by
  rw [steps_over]
  exact go_mods hc e ds 0 h
theorem go_app (st : Fs → PyData → Option Fs) : ∀ (ds es : List PyData) (i : Nat) (fs gs : Fs) (r : Except Nat Fs), goB st i fs ds = .ok gs → (∀ j, goB st j gs es = r) → goB st i fs (ds ++ es) = r
  | [], es, i, fs, gs, r, h, k => by
    obtain rfl := Except.ok.inj (show Except.ok fs = Except.ok gs from h)
    exact k i
  | d :: ds, es, i, fs, gs, r, h, k => by
    show goB st i fs (d :: (ds ++ es)) = r
    rw [go_cons] at h ⊢
    cases e : st fs d with
    | none =>
      rw [e] at h
      cases h
    | some x =>
      rw [e] at h
      exact go_app st ds es (i + 1) x gs r h k
/-- some steps, then others -/
theorem steps_app {c : Nat} {fs gs hs : Fs} {ds es : List PyData} (h : stepsB c fs (.tuple ds) = .ok gs) (k : ∀ j, goB (stepB (recOf c)) j gs es = .ok hs) : stepsB c fs (.tuple (ds ++ es)) = .ok hs := by
  rw [steps_over] at h ⊢
  exact go_app _ ds es 0 fs gs _ h k
theorem steps_one {c : Nat} {fs gs : Fs} {d : PyData} (h : stepB (recOf c) fs d = some gs) (j : Nat) : goB (stepB (recOf c)) j fs [d] = .ok gs := by
  rw [go_cons, h]
  rfl
theorem eqF_refl {fs : Fs} (nd : (fs.map Prod.fst).Nodup) : eqF fs fs = true := by
  unfold eqF
  simp only [beq_self_eq_true, Bool.true_and, decide_true, List.all_eq_true]
  intro x hx
  exact decide_eq_true (getF_mem nd (show (x.1, x.2) ∈ fs from hx))
/-- of a case both of whose lists lead to the same -/
theorem case_of {c : Nat} {fs gs : Fs} {t s : Str} {val y n : PyData} (h : getF fs t = some s) (hs : s ∈ testL) (hv : ofSort s val = true) (hy : stepsB c fs y = .ok gs) {gn : Fs} (hn : stepsB c fs n = .ok gn) (e : eqF gs gn = true) :
    stepB (recOf (c + 1)) fs (.tuple [.str "case", .str t, val, y, n]) = some gs := by
  show caseB (stepsB c) fs (.str t) val y n = some gs
  unfold caseB
  rw [sortOf_str, h]
  dsimp only
  rw [decide_eq_true hs, hv, hy, hn]
  show (if eqF gs gn = true then some gs else none) = some gs
  rw [if_pos e]
theorem set_same {fs : Fs} {n s : Str} (nd : (fs.map Prod.fst).Nodup) (h : getF fs n = some s) : setF fs n s = fs := by
  rw [set_map h]
  conv => rhs; rw [← List.map_id fs]
  refine List.map_congr_left fun x hx => ?_
  by_cases e : x.1 = n
  · rw [if_pos e]
    have := getF_mem nd (show (x.1, x.2) ∈ fs from hx)
    rw [e, h] at this
    rw [Option.some.inj this]
    rfl
  · rw [if_neg e]
    rfl
theorem mod_scale {fs : Fs} {n s : Str} {t p : Int} (h : getF fs n = some s) (hs : s ∈ numsL) : ModS 0 fs (.tuple [.str "scale", .str n, .int t, .int p]) := fun c gs _ e => by
  show scaleB gs (.str n) (.int t) (.int p) = some gs
  unfold scaleB
  rw [sortOf_str, e.has n s h]
  show (if (decide (s ∈ numsL) && _) = true then some gs else none) = some gs
  rw [decide_eq_true hs]
  exact if_pos rfl
theorem table_of {fs : Fs} {t s so : Str} {rs : Rs} {ot : PyData} (h : getF fs t = some s) (hs : s ∈ testL) (hso : so ∈ testL) (hr : GoodR s so rs 4) (ho : otherB s so ot = true) (c : Nat) :
    stepB (recOf c) fs (.tuple [.str "table", .str t, .str so, .tuple (rs.map rowD), ot]) = some (setF fs t so) := by
  show tableB fs (.str t) (.str so) (.tuple (rs.map rowD)) ot = _
  unfold tableB
  rw [sortOf_str, h]
  dsimp only
  have h3 : sortB (.str so) = true := (show ∀ z ∈ testL, sortB (.str z) = true by decide +kernel) so hso
  show (if (((decide (s ∈ testL) && sortB (.str so)) && decide (so ∈ testL)) && (rowsB s so (.tuple (rs.map rowD)) && otherB s so ot)) = true then some (setF fs t so) else none) = _
  rw [decide_eq_true hs, h3, decide_eq_true hso, hr.rows, ho]
  exact if_pos rfl
theorem mod_table {fs : Fs} {t s : Str} {rs : Rs} {ot : PyData} (h : getF fs t = some s) (hs : s ∈ testL) (hr : GoodR s s rs 4) (ho : otherB s s ot = true) : ModS 0 fs (.tuple [.str "table", .str t, .str s, .tuple (rs.map rowD), ot]) := fun c gs _ e => by
  rw [table_of (e.has t s h) hs hs hr ho, set_same e.nd (e.has t s h)]
theorem mod_case {k : Nat} {fs : Fs} {t s : Str} {val : PyData} {ys zs : List PyData} (h : getF fs t = some s) (hs : s ∈ testL) (hv : ofSort s val = true) (hy : ∀ d ∈ ys, ModS k fs d) (hz : ∀ d ∈ zs, ModS k fs d) : ModS (k + 1) fs (.tuple [.str "case", .str t, val, .tuple ys, .tuple zs]) := fun c gs hc e => by
  obtain ⟨c, rfl⟩ : ∃ c', c = c' + 1 := ⟨c - 1, by omega⟩
  exact case_of (e.has t s h) hs hv (steps_mods (by omega) e hy) (steps_mods (by omega) e hz) (eqF_refl e.nd)
/-! ### how they are made -/
def partLen (L : Nat) : PyData → Nat
  | .tuple [.str k, _] => if k = "say" then 12 else L
  | _ => 0
/-- scales by small numbers, no joins, cases of such -/
inductive SyM : PyData → Prop
  | flat {w : Str} {r : List PyData} : w ≠ "scale" → w ≠ "join" → w ≠ "case" → SyM (.tuple (.str w :: r))
  | scale {n p : PyData} {t : Int} : t.natAbs ≤ 100 → SyM (.tuple [.str "scale", n, .int t, p])
  | case {t v : PyData} {ys zs : List PyData} : (∀ y ∈ ys, SyM y) → (∀ z ∈ zs, SyM z) → SyM (.tuple [.str "case", t, v, .tuple ys, .tuple zs])
def Sy (d : PyData) : Prop := SyM d ∨ ∃ n l, d = .tuple [.str "join", n, .tuple l] ∧ ∀ L, (l.map (partLen L)).sum ≤ 3 * L + 36
def isJoin : PyData → Bool
  | .tuple (.str w :: _) => decide (w = "join")
  | _ => false
theorem SyM.noJoin {d : PyData} (h : SyM d) : isJoin d = false := by
  cases h with
  | flat _ h2 _ => exact decide_eq_false h2
  | scale _ => exact (show decide (("scale" : Str) = "join") = false by decide +kernel)
  | case _ _ => exact (show decide (("case" : Str) = "join") = false by decide +kernel)
/-! ### how great -/
theorem grow_flat {d : PyData} (h : items d = []) (c : Nat) : growB c d = 0 := by
  rw [grow_sum, h]
  rfl
theorem sum_le {α : Type} (f : α → Nat) (B : Nat) : ∀ l : List α, (∀ x ∈ l, f x ≤ B) → (l.map f).sum ≤ l.length * B
  | [], _ => Nat.zero_le _
  | x :: r, h => by
    rw [List.map_cons, List.sum_cons, List.length_cons, Nat.succ_mul]
    have := h x (List.mem_cons_self ..)
    have := sum_le f B r fun y hy => h y (List.mem_cons_of_mem _ hy)
    omega
theorem grow_le {c B : Nat} {ds : List PyData} (h : ∀ d ∈ ds, growS c d ≤ B) : growB c (.tuple ds) ≤ ds.length * B := by
  rw [grow_sum]
  exact sum_le _ B ds h
theorem grow_str (c : Nat) (s : Str) : growB c (.str s) = 0 := grow_flat rfl c
theorem grow_int (c : Nat) (i : Int) : growB c (.int i) = 0 := grow_flat rfl c
theorem grow_non (c : Nat) : growB c .none = 0 := grow_flat rfl c
theorem grow_plain {d : PyData} (h : Plain d) (c : Nat) : growB c d = 0 := by
  cases d with
  | int i => exact grow_int c i
  | str s => exact grow_str c s
  | _ => exact h.elim
theorem growS_flat {d : PyData} (h : items d = []) (c : Nat) : growS c d = 1 := by
  cases c with
  | zero => rfl
  | succ c =>
    show 1 + ((items d).map (growB c)).sum = 1
    rw [h]
    rfl
theorem growS_plain {d : PyData} (h : Plain d) (c : Nat) : growS c d = 1 := by
  cases d with
  | int i => exact growS_flat rfl c
  | str s => exact growS_flat rfl c
  | _ => exact h.elim
/-- how many of what a tuple holds are put: one, and all that stand deeper -/
theorem growS_tup {B : Nat} {ds : List PyData} (h : ∀ c, (ds.map (growB c)).sum ≤ B) (c : Nat) : growS c (.tuple ds) ≤ 1 + B := by
  cases c with
  | zero => exact Nat.le_add_right _ _
  | succ c => exact Nat.add_le_add_left (h c) 1
theorem growS_pair {a b : PyData} (h1 : ∀ c, growB c a = 0) (h2 : ∀ c, growB c b = 0) (c : Nat) : growS c (.tuple [a, b]) ≤ 1 := growS_tup (B := 0) (fun c => by simp [h1, h2]) c
theorem grow_rows {old new : Str} {rs : Rs} (h : GoodR old new rs 4) (c : Nat) : growB c (.tuple (rs.map rowD)) ≤ 4 := by
  have := grow_le (c := c) (B := 1) (ds := rs.map rowD) fun d hd => by
    obtain ⟨x, hx, rfl⟩ := List.mem_map.mp hd
    obtain ⟨o1, _, o3, _⟩ := h.ok x hx
    exact growS_pair (grow_plain o1) (grow_plain o3) c
  rw [List.length_map] at this
  have := h.len
  omega
theorem grow_one {d : PyData} (h : Plain d) (c : Nat) : growB c (.tuple [d]) = 1 := by
  rw [grow_sum]
  show ([d].map (growS c)).sum = 1
  rw [List.map_singleton, List.sum_singleton, growS_plain h]
def gG : Nat → Nat
  | 0 => 6
  | k + 1 => 1 + 6 * gG k
/-- a drawn step that leaves the fields -/
structure ModD (k : Nat) (fs : Fs) (d : PyData) : Prop where
  pu : Pu false d
  bd : Bd 1000 (2 * k + 3) d
  gr : ∀ c, growS c d ≤ gG k
  md : ModS k fs d
  sy : SyM d
theorem gG_ge : ∀ k, 6 ≤ gG k
  | 0 => Nat.le_refl _
  | k + 1 => by
    have := gG_ge k
    show 6 ≤ 1 + 6 * gG k
    omega
theorem gG_up (k : Nat) : gG k ≤ gG (k + 1) := by
  show gG k ≤ 1 + 6 * gG k
  omega
theorem ModD.up {k : Nat} {fs : Fs} {d : PyData} (h : ModD k fs d) : ModD (k + 1) fs d :=
  ⟨h.pu, h.bd.mono (Nat.le_refl _) (by omega), fun c => Nat.le_trans (h.gr c) (gG_up k), h.md.mono (by omega), h.sy⟩
theorem ModD.of0 {fs : Fs} {d : PyData} (h : ModD 0 fs d) : ∀ k, ModD k fs d
  | 0 => h
  | k + 1 => (ModD.of0 h k).up
theorem bd_str40 {N m : Nat} {s : Str} (h : s.length ≤ N) (a : As s) : Bd N m (.str s) := bd_str.mpr ⟨h, a⟩
theorem bd_tup {N m : Nat} {ds : List PyData} (h : ds.length ≤ N) (b : ∀ d ∈ ds, Bd N m d) : Bd N (m + 1) (.tuple ds) := ⟨h, b⟩
theorem Plain.bd' {m : Nat} {D : PyData} (h : Plain D) : Bd 1000 m D := h.bd (by omega)
theorem rows_bd {old new : Str} {rs : Rs} (h : GoodR old new rs 4) (m : Nat) : Bd 1000 (m + 2) (.tuple (rs.map rowD)) := by
  refine bd_tup (by rw [List.length_map]; have := h.len; omega) fun d hd => ?_
  obtain ⟨x, hx, rfl⟩ := List.mem_map.mp hd
  obtain ⟨o1, _, o3, _⟩ := h.ok x hx
  refine bd_tup (by show 2 ≤ 1000; omega) fun y hy => ?_
  rcases List.mem_cons.mp hy with rfl | hy
  · exact o1.bd'
  · rw [List.mem_singleton.mp hy]
    exact o3.bd'
theorem rows_pu {l : Bool} {old new : Str} {rs : Rs} (h : GoodR old new rs 4) : Pu l (.tuple (rs.map rowD)) := .tup fun d hd => by
  obtain ⟨x, hx, rfl⟩ := List.mem_map.mp hd
  obtain ⟨o1, _, o3, _⟩ := h.ok x hx
  exact pu_tup2 (plain_pu o1) (plain_pu o3)
theorem as_lit {s : Str} (h : s.cps.toList.all (fun c => decide (c < 128)) = true) : As s := fun c hc => of_decide_eq_true (List.all_eq_true.mp h c hc)
theorem words_as : ∀ z ∈ (["rename", "copy", "drop", "put", "scale", "sum", "join", "table", "case", "code", "word", "amount", "text", "say", "field", "a-", "7"] : List Str), As z ∧ z.length ≤ 40 := fun z hz => by
  have := (show ∀ z ∈ (["rename", "copy", "drop", "put", "scale", "sum", "join", "table", "case", "code", "word", "amount", "text", "say", "field", "a-", "7"] : List Str), z.cps.toList.all (fun c => decide (c < 128)) = true ∧ z.length ≤ 40 by decide +kernel) z hz
  exact ⟨as_lit this.1, this.2⟩
theorem bd_word {m : Nat} {z : Str} (h : z ∈ (["rename", "copy", "drop", "put", "scale", "sum", "join", "table", "case", "code", "word", "amount", "text", "say", "field", "a-", "7"] : List Str)) : Bd 1000 m (.str z) := by
  obtain ⟨h1, h2⟩ := words_as z h
  exact bd_str40 (by omega) h1
/-- a field's name -/
def NameOk (z : Str) : Prop := Low z ∧ 1 ≤ z.length ∧ z.length ≤ 12
theorem NameOk.bd {m : Nat} {z : Str} (h : NameOk z) : Bd 1000 m (.str z) := bd_str40 (by have := h.2.2; omega) h.1.as
theorem getF_in {fs : Fs} {n s : Str} (h : getF fs n = some s) : ∃ x ∈ fs, x.1 = n ∧ x.2 = s := by
  unfold getF at h
  cases e : fs.find? fun y => decide (y.1 = n) with
  | none =>
    rw [e] at h
    cases h
  | some y =>
    rw [e] at h
    exact ⟨y, List.mem_of_find?_eq_some e, of_decide_eq_true (List.find?_some (p := fun y : Str × Str => decide (y.1 = n)) e), Option.some.inj h⟩
theorem GoodF.name {fs : Fs} (h : GoodF fs) {n s : Str} (e : getF fs n = some s) : NameOk n ∧ s ∈ sorts := by
  obtain ⟨x, hx, e1, e2⟩ := getF_in e
  obtain ⟨a, b, c, d⟩ := h.ok x hx
  rw [← e1, ← e2]
  exact ⟨⟨a, b, c⟩, d⟩
theorem lists_bd {N m : Nat} {ds : List PyData} (h : ds.length ≤ N) (b : ∀ d ∈ ds, Bd N m d) : Bd N (m + 1) (.list ds) := ⟨h, b⟩
end St6

set_option autoImplicit false
set_option maxHeartbeats 4000000
namespace St6
open PySem PySem.Spec PyProof.Rows L2 Tg Cc Nn TL
/-! drawn steps that leave the fields -/
def cT : Nat → Nat
  | 0 => 420
  | k + 1 => 462 + 6 * cT k
def pM (k : Nat) : Nat := 1 + 3 * cT k
theorem cT_ge : ∀ k, 420 ≤ cT k
  | 0 => Nat.le_refl _
  | k + 1 => by show 420 ≤ 462 + 6 * cT k; omega
def spMods (K : PySem.W.Frag) (k : Nat) : Sp := fun vs H Q _ => ∃ (pd cl : Addr) (ns : List Int) (n : Nat) (f : V) (fs : Fs) (many : Nat), vs = [.ref pd, f, .int (k : Nat), .int (many : Nat)] ∧ Pen H pd cl ns n ∧ n + pM k ≤ 700000000 ∧ Fm K H f fs ∧ GoodF fs ∧ 1 ≤ many ∧ many ≤ 4 ∧
  ∀ H' a ds, Fr [pd] H H' → Pen H' pd cl ns (n + pM k) → Th K H' (.ref a) (.tuple ds) → ds.length ≤ 3 → (∀ d ∈ ds, ModD k fs d) → Q (.ref a) H'
theorem getN_opt {H : Hp} {p : Addr} {fs : Fs} (o1 : Option Str) (h : H p = some (.dK (kvsOf fs))) : GetN H p (optV o1) (optV (o1.bind (getF fs))) := by
  cases o1 with
  | none => exact .inl ⟨rfl, rfl, _, .inl h⟩
  | some z =>
    have g := DGet.k (k := Sum.inr z) h
    rw [val_of] at g
    exact .inr ⟨_, g, by
      show optV (getF fs z) = _
      cases getF fs z <;> rfl⟩
theorem ac {α : Type} {P : α → Prop} {a : α} {l : List α} (h : P a) (t : ∀ x ∈ l, P x) : ∀ x ∈ a :: l, P x := fun x hx => (List.mem_cons.mp hx).elim (fun e => e ▸ h) (t x)
theorem an {α : Type} {P : α → Prop} : ∀ x ∈ ([] : List α), P x := fun _ hx => by cases hx
theorem and2 {c : Bool} {σ : L2.St} {H : Hp} {j : Nat} {v : V} {S E : Hp → Prop} (hv : σ[j]? = some (some v)) (hs : c = true → v ≠ .non → S H) (he : (c = true → v = .non) → E H) :
    (fun (c : Bool) H1 => if c = true then tTest (tOp (fun x y H Q => y = V.non ∧ Q (V.bl !decide (x = V.non)) H) (tVar j) (tC V.non)) σ H1 (fun b H1 => if b = true then S H1 else E H1) else E H1) c H := by
  show if c = true then _ else _
  by_cases e : c = true
  · rw [if_pos e]
    refine ⟨v, hv, rfl, _, rfl, ?_⟩
    show if (!decide (v = V.non)) = true then S H else E H
    by_cases n : v = .non
    · rw [if_neg (by rw [decide_eq_true n]; decide)]
      exact he fun _ => n
    · rw [if_pos (by rw [decide_eq_false n]; decide)]
      exact hs e n
  · rw [if_neg e]
    exact he fun z => absurd z e
theorem or2 {σ : L2.St} {H : Hp} {i j : Nat} {u v x y : V} {S E : Hp → Prop} (hu : σ[i]? = some (some u)) (hv : σ[j]? = some (some v)) (su : scal u x = true) (sv : scal v y = true) (hs : u = x ∨ v = y → S H) (he : u ≠ x → v ≠ y → E H) :
    tOr (tTest (tOp rEq (tVar i) (tC x))) (tTest (tOp rEq (tVar j) (tC y))) σ H (fun b H1 => if b = true then S H1 else E H1) := by
  refine ⟨u, hu, su, _, rfl, ?_⟩
  by_cases e : u = x
  · show if decide (u = x) = true then (if true = true then S H else E H) else _
    rw [if_pos (decide_eq_true e), if_pos rfl]
    exact hs (.inl e)
  · show if decide (u = x) = true then (if true = true then S H else E H) else _
    rw [if_neg (by rw [decide_eq_false e]; decide)]
    refine ⟨v, hv, sv, _, rfl, ?_⟩
    show if decide (v = y) = true then S H else E H
    by_cases e2 : v = y
    · rw [if_pos (decide_eq_true e2)]
      exact hs (.inr e2)
    · rw [if_neg (by rw [decide_eq_false e2]; decide)]
      exact he e e2
theorem modD_scale {fs : Fs} {n s : Str} {t p : Int} (hG : GoodF fs) (h : getF fs n = some s) (hs : s ∈ numsL) (ht : t.natAbs ≤ 100) (hp : p.natAbs ≤ 100) : ModD 0 fs (.tuple [.str "scale", .str n, .int t, .int p]) := by
  have big : ∀ i : Int, i.natAbs ≤ 100 → i.natAbs < 10 ^ 1000 := fun i hi => Nat.lt_of_le_of_lt hi (Nat.lt_of_lt_of_le (show 100 < 10 ^ 3 by decide) (Nat.pow_le_pow_right (by decide) (by decide)))
  refine ⟨.tup ?_, bd_tup (by show 4 ≤ 1000; omega) ?_, fun c => ?_, mod_scale h hs, .scale ht⟩
  · exact ac (.str _) (ac (.str _) (ac (.int _) (ac (.int _) (an))))
  · exact ac (bd_word (by decide +kernel)) (ac ((hG.name h).1.bd) (ac (bd_int.mpr (big _ ht)) (ac (bd_int.mpr (big _ hp)) (an))))
  · refine Nat.le_trans (growS_tup (B := 0) (fun c => ?_) c) (by decide)
    simp [grow_str, grow_int]
theorem modD_table {fs : Fs} {t s : Str} {rs : Rs} {ot : PyData} (hG : GoodF fs) (h : getF fs t = some s) (hs : s ∈ testL) (hr : GoodR s s rs 4) (ho : ot = .none ∨ ∃ v, ot = .tuple [v] ∧ Plain v ∧ ofSort s v = true) : ModD 0 fs (.tuple [.str "table", .str t, .str s, .tuple (rs.map rowD), ot]) := by
  have so : s ∈ (["rename", "copy", "drop", "put", "scale", "sum", "join", "table", "case", "code", "word", "amount", "text", "say", "field", "a-", "7"] : List Str) := (show ∀ z ∈ testL, z ∈ (["rename", "copy", "drop", "put", "scale", "sum", "join", "table", "case", "code", "word", "amount", "text", "say", "field", "a-", "7"] : List Str) by decide +kernel) s hs
  have og : ∀ c, growB c ot ≤ 1 := fun c => by
    rcases ho with rfl | ⟨v, rfl, pv, _⟩
    · rw [grow_non]
      omega
    · rw [grow_one pv]
      exact Nat.le_refl _
  refine ⟨.tup ?_, bd_tup (by show 5 ≤ 1000; omega) ?_, fun c => ?_, mod_table h hs hr ?_, .flat (by decide +kernel) (by decide +kernel) (by decide +kernel)⟩
  · exact ac (.str _) (ac (.str _) (ac (.str _) (ac (rows_pu hr) (ac (by
      rcases ho with rfl | ⟨v, rfl, pv, _⟩
      · exact .non
      · exact .tup fun x hx => by rw [List.mem_singleton.mp hx]; exact plain_pu pv) (an)))))
  · exact ac (bd_word (by decide +kernel)) (ac ((hG.name h).1.bd) (ac (bd_word so) (ac (rows_bd hr 0) (ac (by
      rcases ho with rfl | ⟨v, rfl, pv, _⟩
      · exact bd_non
      · exact bd_tup (by show 1 ≤ 1000; omega) fun x hx => by rw [List.mem_singleton.mp hx]; exact pv.bd') (an)))))
  · refine Nat.le_trans (growS_tup (B := 5) (fun c => ?_) c) (by decide)
    have h1 := grow_rows hr c
    have h2 := og c
    simp only [List.map_cons, List.map_nil, List.sum_cons, List.sum_nil, grow_str]
    omega
  · rcases ho with rfl | ⟨v, rfl, pv, hv⟩
    · exact decide_eq_true rfl
    · exact hv
theorem modD_case {k : Nat} {fs : Fs} {t s : Str} {val : PyData} {ys zs : List PyData} (hG : GoodF fs) (h : getF fs t = some s) (hs : s ∈ testL) (pv : Plain val) (hv : ofSort s val = true) (hy : ∀ d ∈ ys, ModD k fs d) (hz : ∀ d ∈ zs, ModD k fs d) (ly : ys.length ≤ 3) (lz : zs.length ≤ 3) : ModD (k + 1) fs (.tuple [.str "case", .str t, val, .tuple ys, .tuple zs]) := by
  refine ⟨.tup ?_, bd_tup (by show 5 ≤ 1000; omega) ?_, fun c => ?_, mod_case h hs hv (fun d hd => (hy d hd).md) (fun d hd => (hz d hd).md), .case (fun d hd => (hy d hd).sy) (fun d hd => (hz d hd).sy)⟩
  · exact ac (.str _) (ac (.str _) (ac (plain_pu pv) (ac (.tup fun d hd => (hy d hd).pu) (ac (.tup fun d hd => (hz d hd).pu) (an)))))
  · exact ac (bd_word (by decide +kernel)) (ac ((hG.name h).1.bd) (ac (pv.bd') (ac (bd_tup (by omega) fun d hd => (hy d hd).bd) (ac (bd_tup (by omega) fun d hd => (hz d hd).bd) (an)))))
  · refine growS_tup (B := 6 * gG k) (fun c => ?_) c
    have h1 := grow_le (c := c) (fun d hd => (hy d hd).gr c)
    have h2 := grow_le (c := c) (fun d hd => (hz d hd).gr c)
    have h3 : ys.length * gG k ≤ 3 * gG k := Nat.mul_le_mul_right _ ly
    have h4 : zs.length * gG k ≤ 3 * gG k := Nat.mul_le_mul_right _ lz
    simp only [List.map_cons, List.map_nil, List.sum_cons, List.sum_nil, grow_str, grow_plain pv]
    omega
def spMRec (K : PySem.W.Frag) (k : Nat) : Sp := fun vs H Q E => ∃ k', k = k' + 1 ∧ spMods K k' vs H Q E
section
variable {P : Program} {w : World} {K : PySem.W.Frag} {mg : Str → Option Value} {base : Heap} {k : Nat}
theorem scmodsS : FnScope ["pen", "fields", "deep", "many", "found", "k", "way", "test", "number", "sort", "times", "other", "yes", "no"] ["pen", "fields", "deep", "many"] (defScope sLawMods) := ⟨rfl, rfl, rfl, by decide +kernel, rfl, by decide +kernel, by decide +kernel⟩
theorem ok_modsS {f : Addr} {fd : FuncData} (F : FnP K "_law_mods" sLawMods f fd) {f__law_draw : Addr} {fd__law_draw : FuncData} (c__law_draw : Cl P w K mg base CX0 "_law_draw" 1 ["pen", "many"] (spDraw) f__law_draw fd__law_draw) {f__law_pick : Addr} {fd__law_pick : FuncData} (c__law_pick : Cl P w K mg base CX0 "_law_pick" 2 ["pen", "fields", "sorts"] (spPick K) f__law_pick fd__law_pick) {f__law_value : Addr} {fd__law_value : FuncData} (c__law_value : Cl P w K mg base CX0 "_law_value" 3 ["pen", "sort"] (spValueD) f__law_value fd__law_value) {f__law_rows : Addr} {fd__law_rows : FuncData} (c__law_rows : Cl P w K mg base CX0 "_law_rows" 4 ["pen", "old", "new"] (spRowsD K) f__law_rows fd__law_rows) (c__law_mods : Cl P w K mg base CX0 "_law_mods" (4 + k) ["pen", "fields", "deep", "many"] (spMRec K k) f fd) (mb_range : mg "range" = none) (mb_tuple : mg "tuple" = none) (mb_dict : mg "dict" = none) (mb_int : mg "int" = none)   : FnOk P w K mg base CX0 (4 + k + 1) f fd ["pen", "fields", "deep", "many"] (spMods K k) := by
  refine F.ok scmodsS (fun vs H Q E h => ?_) (fun cdv A outer s H vs Q E hr h => ?_)
  · obtain ⟨pd, cl, ns, n, f, fs, many, rfl, _⟩ := h
    rfl
  · obtain ⟨pd, cl, ns, n, f, fs, many, rfl, hP, hn, hF, hG, m1, m4, q⟩ := h
    have hu := hu_of hr
    have hs := szl
    refine ⟨_, PSs.nox (pss_cons (ps_set (i := 4) scmodsS.nd rfl (Or.inl rfl) (pe_lst (pa_nil)))
      (pss_cons (ps_for PassesOwn.never rfl (pi_range1 (by rfl) mb_range (pa_cons (pe_call c__law_draw.ok (hr.mono (by omega)) (by rfl) c__law_draw.m c__law_draw.kp c__law_draw.b .nil pass0 (pa_cons (pv 0) (pa_cons (pv 3) pa_nil))) pa_nil)) (pg_name (i := 5) scmodsS.nd rfl (Or.inl rfl)) (pss_cons (ps_set (i := 6) scmodsS.nd rfl (Or.inl rfl) (pe_call c__law_draw.ok (hr.mono (by omega)) (by rfl) c__law_draw.m c__law_draw.kp c__law_draw.b .nil pass0 (pa_cons (pv 0) (pa_cons (pe_int) pa_nil))))
      (pss_cons (ps_set (i := 7) scmodsS.nd rfl (Or.inl rfl) (pe_call c__law_pick.ok (hr.mono (by omega)) (by rfl) c__law_pick.m c__law_pick.kp c__law_pick.b .nil pass0 (pa_cons (pv 0) (pa_cons (pv 1) (pa_cons (pe_tup (pa_cons (pe_str) (pa_cons (pe_str) pa_nil))) pa_nil)))))
      (pss_cons (ps_set (i := 8) scmodsS.nd rfl (Or.inl rfl) (pe_call c__law_pick.ok (hr.mono (by omega)) (by rfl) c__law_pick.m c__law_pick.kp c__law_pick.b .nil pass0 (pa_cons (pv 0) (pa_cons (pv 1) (pa_cons (pe_tup (pa_cons (pe_str) (pa_cons (pe_str) pa_nil))) pa_nil)))))
      (pss_cons (ps_set (i := 9) scmodsS.nd rfl (Or.inl rfl) (Nn.pe_dgetN hu (pe_callTy (Nn.call_dictT rfl) (by rfl) mb_dict (by decide +kernel) (pa_cons (pv 1) pa_nil)) (pv 7) ⟨by rfl, by rfl, by rfl, by rfl⟩))
      (pss_one (ps_if (PW.pt (pw_and (pt_cmpR op_lt (pv 6) (pe_int) (nomark _)) (pw_and1 (pt_cmpR op_notN (pv 8) (pe_non) (nomark _))))) (pss_cons (ps_set (i := 10) scmodsS.nd rfl (Or.inl rfl) (pe_ix ix_list (pe_ix ix_list (pe_lst (pa_cons (pe_lst (pa_cons (pe_int) (pa_cons (pe_un un_neg (pe_int)) (pa_cons (pe_int) (pa_cons (pe_int) (pa_cons (pe_int) (pa_cons (pe_un un_neg (pe_int)) (pa_cons (pe_int) pa_nil)))))))) (pa_cons (pe_lst (pa_cons (pe_int) (pa_cons (pe_int) (pa_cons (pe_un un_neg (pe_int)) (pa_cons (pe_int) (pa_cons (pe_int) (pa_cons (pe_un un_neg (pe_int)) (pa_cons (pe_int) pa_nil)))))))) pa_nil))) (pe_callTy call_int1 (by rfl) mb_int (by decide +kernel) (pa_cons (pe_cmpR op_gt (pv 2) (pe_int) (nomark _)) pa_nil)) (fun _ _ => rfl)) (pe_call c__law_draw.ok (hr.mono (by omega)) (by rfl) c__law_draw.m c__law_draw.kp c__law_draw.b .nil pass0 (pa_cons (pv 0) (pa_cons (pe_int) pa_nil))) (fun _ _ => rfl)))
      (pss_one (ps_expr (pe_bm PySem.F.plainAttrs_list PySem.F.slot_list_append PySem.F.type_list_append mt_append (pv 4) (pa_cons (pe_tup (pa_cons (pe_str) (pa_cons (pv 8) (pa_cons (pv 10) (pa_cons (pe_op op_sub (pe_call c__law_draw.ok (hr.mono (by omega)) (by rfl) c__law_draw.m c__law_draw.kp c__law_draw.b .nil pass0 (pa_cons (pv 0) (pa_cons (pe_int) pa_nil))) (pe_int)) pa_nil))))) pa_nil))))) (pss_one (ps_if (PW.pt (pw_and (pt_cmpR op_notN (pv 7) (pe_non) (nomark _)) (pw_and1 (PW.pt (pw_or (pt_cmpR op_eq (pv 6) (pe_int) (nomark _)) (pw_or1 (pt_cmpR op_eq (pv 2) (pe_int) (nomark _)))))))) (pss_cons (ps_set (i := 11) scmodsS.nd rfl (Or.inl rfl) (pe_ix ix_list (pe_lst (pa_cons (pe_non) (pa_cons (pe_tup (pa_cons (pe_call c__law_value.ok (hr.mono (by omega)) (by rfl) c__law_value.m c__law_value.kp c__law_value.b .nil pass0 (pa_cons (pv 0) (pa_cons (pv 9) pa_nil))) pa_nil)) pa_nil))) (pe_call c__law_draw.ok (hr.mono (by omega)) (by rfl) c__law_draw.m c__law_draw.kp c__law_draw.b .nil pass0 (pa_cons (pv 0) (pa_cons (pe_int) pa_nil))) (fun _ _ => rfl)))
      (pss_one (ps_expr (pe_bm PySem.F.plainAttrs_list PySem.F.slot_list_append PySem.F.type_list_append mt_append (pv 4) (pa_cons (pe_tup (pa_cons (pe_str) (pa_cons (pv 7) (pa_cons (pv 9) (pa_cons (pe_call c__law_rows.ok (hr.mono (by omega)) (by rfl) c__law_rows.m c__law_rows.kp c__law_rows.b .nil pass0 (pa_cons (pv 0) (pa_cons (pv 9) (pa_cons (pv 9) pa_nil)))) (pa_cons (pv 11) pa_nil)))))) pa_nil))))) (pss_one (ps_if (pt_cmpR op_notN (pv 7) (pe_non) (nomark _)) (pss_cons (ps_par (i := 12) (j := 13) rfl scmodsS.nd rfl rfl (by decide) rfl rfl (pa_cons (pe_call c__law_mods.ok (hr.mono (by omega)) (by rfl) c__law_mods.m c__law_mods.kp c__law_mods.b .nil pass0 (pa_cons (pv 0) (pa_cons (pv 1) (pa_cons (pe_op op_sub (pv 2) (pe_int)) (pa_cons (pe_int) pa_nil))))) (pa_cons (pe_call c__law_mods.ok (hr.mono (by omega)) (by rfl) c__law_mods.m c__law_mods.kp c__law_mods.b .nil pass0 (pa_cons (pv 0) (pa_cons (pv 1) (pa_cons (pe_op op_sub (pv 2) (pe_int)) (pa_cons (pe_int) pa_nil))))) pa_nil)) (by rfl))
      (pss_one (ps_expr (pe_bm PySem.F.plainAttrs_list PySem.F.slot_list_append PySem.F.type_list_append mt_append (pv 4) (pa_cons (pe_tup (pa_cons (pe_str) (pa_cons (pv 7) (pa_cons (pe_call c__law_value.ok (hr.mono (by omega)) (by rfl) c__law_value.m c__law_value.kp c__law_value.b .nil pass0 (pa_cons (pv 0) (pa_cons (pv 9) pa_nil))) (pa_cons (pv 12) (pa_cons (pv 13) pa_nil)))))) pa_nil))))) (pss_nil))))))))))))
      (pss_one (ps_ret (pe_callTy call_tuple_of (by rfl) mb_tuple (by decide +kernel) (pa_cons (pv 4) pa_nil)))))), ?_⟩
    refine ⟨Nat.zero_le _, fun L nL => ?_⟩
    obtain ⟨⟨ya, yb, hd0, _⟩, hc0, _⟩ := id hP
    obtain ⟨fa, fx0, ef, _⟩ := id hF
    subst ef
    have nLd : pd ≠ L := ne_of_none hd0 nL
    have nLc : cl ≠ L := ne_of_none hc0 nL
    have pm : pM k = 1 + 3 * cT k := rfl
    have cge := cT_ge k
    refine ⟨_, rfl, _, rfl, pd, cl, ns, _, n, rfl, hP.fr (fr_new (S := []) nL) (by simp) (by simp), by omega, by omega, by omega, fun H1 c0 f1 P1 k0 k1 => ⟨c0, rfl, by omega, by omega, ?_⟩⟩
    obtain ⟨mm, rfl⟩ := Int.eq_ofNat_of_zero_le k0
    have hmm : mm ≤ 3 := by omega
    have hL1 : H1 L = some (.lst []) := f1 _ _ (by simpa using nLd.symm) upd_same
    have f01 : Fr [pd, L] H H1 := (fr_new (S := [pd, L]) nL).trans (f1.mono (by simp))
    refine for_range (lo := 0) (n := mm) (fun i σ' H' => (∃ x5 x6 x7 x8 x9 x10 x11 x12 x13, σ' = [some (.ref pd), some (.ref fa), some (.int (k : Nat)), some (.int (many : Nat)), some (.ref L), x5, x6, x7, x8, x9, x10, x11, x12, x13]) ∧ Pen H' pd cl ns (n + 1 + cT k * i) ∧ Fr [pd, L] H H' ∧ ∃ acc ds, H' L = some (.lst acc) ∧ ThAll K H' acc ds ∧ ds.length ≤ i ∧ ∀ d ∈ ds, ModD k fs d) ⟨⟨_, _, _, _, _, _, _, _, _, rfl⟩, P1, f01, [], [], hL1, .nil, Nat.le_refl _, fun d hd => by cases hd⟩ ?_ ?_
    · rintro i σ' H2 hi ⟨⟨x5, x6, x7, x8, x9, x10, x11, x12, x13, rfl⟩, P2, f2, acc, ds, hL2, tA, ld, hM⟩
      have cTi : cT k * i ≤ cT k * 2 := Nat.mul_le_mul_left _ (by omega)
      have cTs : cT k * (i + 1) = cT k * i + cT k := Nat.mul_succ _ _
      have hF2 : Fm K H2 (.ref fa) fs := hF.frN (odd_of hP) (Fr.drop (p := L) (S := [pd]) (f2.mono (by simp)) nL)
      have nam : ∀ x ∈ fs, As x.1 := fun x hx => (hG.ok x hx).1.as
      have g6 := hG.hi
      -- way
      refine ⟨_, rfl, pd, cl, ns, 4, _, rfl, P2, by omega, by decide, by decide, fun H3 way f3 P3 w0 w1 => ?_⟩
      -- test
      refine ⟨_, rfl, _, rfl, by show 2 ≤ sizeLine; decide, fun st nst => ?_⟩
      have s3 := newS (o := .tup [V.str "code", V.str "word"]) nst
      have P3b := P3.fr (S := []) (fr_same s3) (by simp) (by simp)
      have F3 := f3.trans (fr_same (S := [pd]) s3)
      refine ⟨pd, cl, ns, _, _, fs, st, testL, rfl, P3b, by omega, (hF2.frN (odd_of P2) F3).th, hG.nd, by omega, nam, SqT.of upd_same, fun H4 o1 f4 P4 pk1 => ?_⟩
      -- number
      refine ⟨_, rfl, _, rfl, by show 2 ≤ sizeLine; decide, fun st2 nst2 => ?_⟩
      have s4 := newS (o := .tup [V.str "code", V.str "amount"]) nst2
      have P4b := P4.fr (S := []) (fr_same s4) (by simp) (by simp)
      have F4 := (F3.trans f4).trans (fr_same (S := [pd]) s4)
      refine ⟨pd, cl, ns, _, _, fs, st2, numsL, rfl, P4b, by omega, (hF2.frN (odd_of P2) F4).th, hG.nd, by omega, nam, SqT.of upd_same, fun H5 o2 f5 P5 pk2 => ?_⟩
      have F5 := F4.trans f5
      -- sort
      obtain ⟨_, fx, e5, hz, hFA⟩ := hF2.frN (odd_of P2) F5
      cases e5
      obtain ⟨ps, rfl, hps⟩ := refs_of hFA
      refine ⟨_, rfl, fa, ps, kvsOf fs, rfl, hz, hps, fun p np => ?_⟩
      rw [show mergeK [] (kvsOf fs) = kvsOf fs from merge_of fs [] hG.nd]
      refine ⟨p, rfl, .inl ⟨_, .inl upd_same⟩, _, rfl, _, getN_opt o1 upd_same, ?_⟩
      have F6 := F5.trans (fr_same (S := [pd]) (newS (o := .dK (kvsOf fs)) np))
      have P6 := P5.fr (S := []) (fr_same (newS (o := .dK (kvsOf fs)) np)) (by simp) (by simp)
      generalize (upd H5 p (.dK (kvsOf fs))) = H6 at F6 P6 ⊢
      have hL6 : H6 L = some (.lst acc) := F6 _ _ (by simpa using nLd.symm) hL2
      have tA6 := tA.frN (fun d hd => (hM d hd).pu) (odd_of P2) F6
      have hF6 : Fm K H6 (.ref fa) fs := hF2.frN (odd_of P2) F6
      have lacc := tA.len
      have fin : ∀ (H8 : Hp) (T : Addr) (d : PyData), Fr [pd] H6 H8 → Pen H8 pd cl ns (n + 1 + cT k * i + cT k) → Th K H8 (.ref T) d → ModD k fs d →
          Pen (upd H8 L (.lst (acc ++ [.ref T]))) pd cl ns (n + 1 + cT k * (i + 1)) ∧ Fr [pd, L] H (upd H8 L (.lst (acc ++ [.ref T]))) ∧ ∃ acc' ds', upd H8 L (.lst (acc ++ [.ref T])) L = some (.lst acc') ∧ ThAll K (upd H8 L (.lst (acc ++ [.ref T]))) acc' ds' ∧ ds'.length ≤ i + 1 ∧ ∀ d ∈ ds', ModD k fs d := fun H8 T d f8 P8 t8 m8 => by
        have hL8 := f8 _ _ (by simpa using nLd.symm) hL6
        have fu : Fr [pd, L] H8 (upd H8 L (.lst (acc ++ [.ref T]))) := fr_upd (by simp)
        have od := odd2 P8 hL8
        refine ⟨(P8.fr (S := [L]) (fr_upd (by simp)) (by simpa using nLd) (by simpa using nLc)).mono (by omega), ((f2.trans (F6.mono (by simp))).trans (f8.mono (by simp))).trans fu, acc ++ [.ref T], ds ++ [d], upd_same, ?_, by rw [List.length_append, List.length_singleton]; omega, fun x hx => ?_⟩
        · exact ThAll.app ((tA6.frN (fun d hd => (hM d hd).pu) (odd_of P6) f8).frN (fun d hd => (hM d hd).pu) od fu) (.cons (t8.frN m8.pu od fu) .nil)
        · rcases List.mem_append.mp hx with h1 | h1
          · exact hM x h1
          · rw [List.mem_singleton.mp h1]
            exact m8
      refine ⟨_, rfl, _, _, rfl, rfl, _, rfl, ?_⟩
      refine and2 (v := optV o2) rfl (fun e1 e2 => ?_) (fun e1 => ?_)
      · -- scale
        obtain ⟨z, rfl⟩ : ∃ z, o2 = some z := by
          cases o2 with
          | none => exact absurd rfl e2
          | some z => exact ⟨z, rfl⟩
        obtain ⟨s2, hs2, ms2⟩ := pk2
        refine ⟨_, rfl, _, rfl, by show 7 ≤ sizeLine; decide, fun l1 n1 => ⟨_, rfl, _, rfl, by show 7 ≤ sizeLine; decide, fun l2 n2 => ⟨by show 2 ≤ sizeLine; decide, fun l3 n3 => ?_⟩⟩⟩
        have t1 := newS (o := .lst ([1, -1, 0, 1, 0, -1, 1].map V.int)) n1
        have t2 := newS (o := .lst ([1, 2, -1, 3, 0, -2, 1].map V.int)) n2
        have t3 := newS (o := .lst [V.ref l1, V.ref l2]) n3
        have hl1 := t3 _ _ (t2 _ _ (upd_same (H := H6) (a := l1) (o := .lst ([1, -1, 0, 1, 0, -1, 1].map V.int))))
        have hl2 := t3 _ _ (upd_same (H := upd H6 l1 (.lst ([1, -1, 0, 1, 0, -1, 1].map V.int))) (a := l2) (o := .lst ([1, 2, -1, 3, 0, -2, 1].map V.int)))
        have hl3 := upd_same (H := upd (upd H6 l1 (.lst ([1, -1, 0, 1, 0, -1, 1].map V.int))) l2 (.lst ([1, 2, -1, 3, 0, -2, 1].map V.int))) (a := l3) (o := .lst [V.ref l1, V.ref l2])
        have s6 := (t1.trans t2).trans t3
        refine ⟨_, rfl, _, _, rfl, rfl, .inr ⟨_, rfl, ?_⟩⟩
        obtain ⟨la, ms, hla, hms, lms, sms⟩ : ∃ (la : Addr) (ms : List Int), atI [V.ref l1, V.ref l2] (if decide ((1 : Int) < (k : Nat)) = true then 1 else 0) = some (V.ref la) ∧ upd (upd (upd H6 l1 (.lst ([1, -1, 0, 1, 0, -1, 1].map V.int))) l2 (.lst ([1, 2, -1, 3, 0, -2, 1].map V.int))) l3 (.lst [V.ref l1, V.ref l2]) la = some (.lst (ms.map V.int)) ∧ ms.length = 7 ∧ (∀ m ∈ ms, Int.natAbs m ≤ 100) := by
          by_cases e : decide ((1 : Int) < (k : Nat)) = true
          · rw [if_pos e]
            exact ⟨l2, _, rfl, hl2, rfl, by decide⟩
          · rw [if_neg e]
            exact ⟨l1, _, rfl, hl1, rfl, by decide⟩
        refine ⟨l3, _, _, _, rfl, rfl, SqL.of hl3, hla, ?_⟩
        have P7 := P6.fr (S := []) (fr_same s6) (by simp) (by simp)
        have F7 := fr_same (S := [pd]) s6
        obtain ⟨⟨zb, zc, hd7, _⟩, _, _⟩ := id P7
        have nla : la ≠ pd := ne_of hms hd7 (by intro z; cases z)
        refine ⟨_, rfl, pd, cl, ns, 7, _, rfl, P7, by omega, by decide, by decide, fun H8 t f8 P8 w80 w81 => ?_⟩
        obtain ⟨tv, etv, mtv⟩ := atI_map (f := V.int) (xs := ms) w80 (by rw [lms]; exact w81)
        refine ⟨la, _, t, _, rfl, rfl, SqL.of (f8 _ _ (by simpa using nla) hms), etv, ?_⟩
        have F8 := F7.trans f8
        have hL8 := F8 _ _ (by simpa using nLd.symm) hL6
        refine ⟨_, rfl, .inl ⟨rfl, _, SqL.of hL8⟩, _, rfl, _, rfl, _, rfl, pd, cl, ns, 9, _, rfl, P8, by omega, by decide, by decide, fun H9 y f9 P9 y0 y1 => ⟨_, _, rfl, rfl, by show 4 ≤ sizeLine; decide, fun T nT => ?_⟩⟩
        have s9 := newS (o := .tup [V.str "scale", V.str z, V.int tv, V.int (y - 4)]) nT
        refine ⟨L, _, _, rfl, rfl, s9 _ _ (f9 _ _ (by simpa using nLd.symm) hL8), by omega, ⟨_, _, _, _, _, _, _, _, _, rfl⟩, fin _ T _ ((F8.trans f9).trans (fr_same s9)) ((P9.fr (S := []) (fr_same s9) (by simp) (by simp)).mono (by omega)) (.tup (SqT.of upd_same) (.cons (.str _) (.cons (.str _) (.cons (.int _) (.cons (.int _) .nil))))) ((modD_scale hG hs2 ms2 (sms tv mtv) (by omega)).of0 k)⟩
      · cases o1 with
        | none => 
          refine ⟨_, rfl, rfl, _, rfl, iteF ?_⟩
          refine ⟨_, rfl, rfl, _, rfl, iteF ?_⟩
          exact ⟨⟨_, _, _, _, _, _, _, _, _, rfl⟩, P6.fr (S := []) Fr.refl (by simp) (by simp) |>.mono (by omega), f2.trans (F6.mono (by simp)), acc, ds, hL6, tA6, by omega, hM⟩
        | some z =>
          obtain ⟨s1, hs1, ms1⟩ := pk1
          have so1 : s1 ∈ sorts := (show ∀ z ∈ testL, z ∈ sorts by decide +kernel) s1 ms1
          rw [show optV ((some z).bind (getF fs)) = .str s1 by show optV (getF fs z) = _; rw [hs1]; rfl]
          refine ⟨_, rfl, rfl, _, rfl, iteT ?_⟩
          refine or2 rfl rfl rfl rfl (fun e2 => ?_) (fun e2 e3 => ?_)
          · -- table
            refine ⟨_, rfl, _, rfl, pd, cl, ns, _, s1, rfl, P6, by omega, so1, fun H7 Dv f7 P7 pl7 of7 => ⟨by show 1 ≤ sizeLine; decide, fun T0 nT0 => ⟨by show 2 ≤ sizeLine; decide, fun l nl => ?_⟩⟩⟩
            have t1 := newS (o := .tup [vOf Dv]) nT0
            have t2 := newS (o := .lst [V.non, V.ref T0]) nl
            have P7b := P7.fr (S := []) (fr_same (t1.trans t2)) (by simp) (by simp)
            have F7 := f7.trans (fr_same (S := [pd]) (t1.trans t2))
            have hl := upd_same (H := upd H7 T0 (.tup [vOf Dv])) (a := l) (o := .lst [V.non, V.ref T0])
            have tT : Th K (upd (upd H7 T0 (.tup [vOf Dv])) l (.lst [V.non, V.ref T0])) (.ref T0) (.tuple [Dv]) := .tup (SqT.of (t2 _ _ upd_same)) (.cons (th_vOf pl7) .nil)
            generalize upd (upd H7 T0 (.tup [vOf Dv])) l (.lst [V.non, V.ref T0]) = H7b at hl tT P7b F7 ⊢
            obtain ⟨⟨zb, zc, hd7, _⟩, _, _⟩ := id P7b
            have nl7 : l ≠ pd := ne_of hl hd7 (by intro z; cases z)
            refine ⟨_, rfl, pd, cl, ns, 2, _, rfl, P7b, by omega, by decide, by decide, fun H8 t f8 P8 w80 w81 => ?_⟩
            obtain ⟨vo, ot, hvo, hto, hot⟩ : ∃ vo ot, atI [V.non, V.ref T0] t = some vo ∧ Th K H7b vo ot ∧ (ot = .none ∨ ∃ v, ot = .tuple [v] ∧ Plain v ∧ ofSort s1 v = true) := by
              rcases (show t = 0 ∨ t = 1 by omega) with rfl | rfl
              · exact ⟨_, _, rfl, .non, .inl rfl⟩
              · exact ⟨_, _, rfl, tT, .inr ⟨Dv, rfl, pl7, of7⟩⟩
            have puo : Pu false ot := by
              rcases hot with rfl | ⟨v, rfl, pv, _⟩
              · exact .non
              · exact .tup fun x hx => by rw [List.mem_singleton.mp hx]; exact plain_pu pv
            refine ⟨l, _, t, _, rfl, rfl, SqL.of (f8 _ _ (by simpa using nl7) hl), hvo, ?_⟩
            have hL8 := (F7.trans f8) _ _ (by simpa using nLd.symm) hL6
            refine ⟨_, rfl, .inl ⟨rfl, _, SqL.of hL8⟩, _, rfl, _, rfl, _, rfl, _, rfl, _, rfl, pd, cl, ns, _, s1, s1, rfl, P8, by omega, ms1, so1, fun H9 qr rs f9 P9 gr t9 => ⟨_, rfl, by show 5 ≤ sizeLine; decide, fun T nT => ?_⟩⟩
            have s9 := newS (o := .tup [V.str "table", V.str z, V.str s1, V.ref qr, vo]) nT
            refine ⟨L, _, _, rfl, rfl, s9 _ _ (f9 _ _ (by simpa using nLd.symm) hL8), by omega, ⟨_, _, _, _, _, _, _, _, _, rfl⟩, fin _ T _ (((F7.trans f8).trans f9).trans (fr_same s9)) ((P9.fr (S := []) (fr_same s9) (by simp) (by simp)).mono (by omega)) (.tup (SqT.of upd_same) (.cons (.str _) (.cons (.str _) (.cons (.str _) (.cons (t9.kept (kept_same s9)) (.cons (((hto.frN puo (odd_of P7b) f8).frN puo (odd_of P8) f9).kept (kept_same s9)) .nil)))))) ((modD_table hG hs1 ms1 gr hot).of0 k)⟩
          · -- case
            obtain ⟨kk, rfl⟩ : ∃ kk, k = kk + 1 := by
              cases k with
              | zero => exact absurd rfl e3
              | succ kk => exact ⟨kk, rfl⟩
            have c2 : cT (kk + 1) = 462 + 6 * cT kk := rfl
            have p2 : pM kk = 1 + 3 * cT kk := rfl
            have ek : ((kk + 1 : Nat) : Int) - 1 = (kk : Nat) := by omega
            refine ⟨_, rfl, rfl, _, rfl, iteT ?_⟩
            refine ⟨_, rfl, _, rfl, _, rfl, _, _, rfl, rfl, kk, rfl, pd, cl, ns, _, _, fs, 4, congrArg (fun z : Int => [V.ref pd, V.ref fa, V.int z, V.int 4]) ek, P6, by omega, hF6, hG, by omega, by omega, fun H7 ya ys f7 P7 t7 l7 m7 => ?_⟩
            refine ⟨_, rfl, _, rfl, _, rfl, _, _, rfl, rfl, kk, rfl, pd, cl, ns, _, _, fs, 4, congrArg (fun z : Int => [V.ref pd, V.ref fa, V.int z, V.int 4]) ek, P7, by omega, hF6.frN (odd_of P6) f7, hG, by omega, by omega, fun H8 za zs f8 P8 t8 l8 m8 => ?_⟩
            have hL8 := (f7.trans f8) _ _ (by simpa using nLd.symm) hL6
            have puy : Pu false (.tuple ys) := .tup fun d hd => (m7 d hd).pu
            have puz : Pu false (.tuple zs) := .tup fun d hd => (m8 d hd).pu
            refine ⟨_, _, rfl, ?_⟩
            refine ⟨_, rfl, .inl ⟨rfl, _, SqL.of hL8⟩, _, rfl, _, rfl, _, rfl, pd, cl, ns, _, s1, rfl, P8, by omega, so1, fun H9 Dv f9 P9 pl9 of9 => ⟨_, rfl, _, rfl, by show 5 ≤ sizeLine; decide, fun T nT => ?_⟩⟩
            have s9 := newS (o := .tup [V.str "case", V.str z, vOf Dv, V.ref ya, V.ref za]) nT
            refine ⟨L, _, _, rfl, rfl, s9 _ _ (f9 _ _ (by simpa using nLd.symm) hL8), by omega, ⟨_, _, _, _, _, _, _, _, _, rfl⟩, fin _ T _ (((f7.trans f8).trans f9).trans (fr_same s9)) ((P9.fr (S := []) (fr_same s9) (by simp) (by simp)).mono (by omega)) (.tup (SqT.of upd_same) (.cons (.str _) (.cons (.str _) (.cons (th_vOf pl9) (.cons (((t7.frN puy (odd_of P7) f8).frN puy (odd_of P8) f9).kept (kept_same s9)) (.cons ((t8.frN puz (odd_of P8) f9).kept (kept_same s9)) .nil)))))) (modD_case hG hs1 ms1 pl9 of9 m7 m8 l7 l8)⟩
    · rintro σ' H2 ⟨⟨x5, x6, x7, x8, x9, x10, x11, x12, x13, rfl⟩, P2, f2, acc, ds, hL2, tA, ld, hM⟩
      have cTi : cT k * mm ≤ cT k * 3 := Nat.mul_le_mul_left _ hmm
      refine ⟨_, rfl, L, _, rfl, .inl ⟨SqL.of hL2, fun T nT => ?_⟩⟩
      have s2 := newS (o := .tup acc) nT
      exact q _ T ds (Fr.drop (p := L) (S := [pd]) ((f2.mono (by simp)).trans (fr_same s2)) nL) ((P2.fr (S := []) (fr_same s2) (by simp) (by simp)).mono (by omega)) (.tup (SqT.of upd_same) (tA.kept (kept_same s2))) (by omega) hM
end
end St6

set_option autoImplicit false
set_option maxHeartbeats 4000000
namespace St6
open PySem PySem.Spec PyProof.Rows L2 Tg Cc Nn TL
/-! drawn steps that change the fields -/
abbrev wordsL : List Str := ["rename", "copy", "drop", "put", "scale", "sum", "join", "table", "case", "code", "word", "amount", "text", "say", "field", "a-", "7"]
structure StepD (fs : Fs) (new : Str) (d : PyData) (gs : Fs) : Prop where
  pu : Pu false d
  bd : Bd 1000 9 d
  gr : ∀ c, growS c d ≤ 2000
  st : ∀ c, 3 ≤ c → stepB (recOf c) fs d = some gs
  gf : GoodF gs
  nm : ∀ z ∈ gs.map Prod.fst, z = new ∨ z ∈ fs.map Prod.fst
  sy : Sy d
theorem sy_flat {w : Str} {r : List PyData} (h : (decide (w ≠ "scale") && (decide (w ≠ "join") && decide (w ≠ "case"))) = true) : SyM (.tuple (.str w :: r)) := by
  rw [Bool.and_eq_true, Bool.and_eq_true] at h
  exact .flat (of_decide_eq_true h.1) (of_decide_eq_true h.2.1) (of_decide_eq_true h.2.2)
structure NewN (fs : Fs) (new : Str) : Prop where
  ok : NameOk new
  no : getF fs new = none
theorem NewN.isB {fs : Fs} {new : Str} (h : NewN fs new) : isNewB fs (.str new) = true := by
  have h1 : smallB 12 (.str new) = true := by
    show ((decide (1 ≤ new.length) && decide (new.length ≤ 12)) && new.cps.toList.all lowC) = true
    rw [decide_eq_true h.ok.2.1, decide_eq_true h.ok.2.2, List.all_eq_true.mpr h.ok.1]
    rfl
  unfold isNewB
  rw [h1, sortOf_str, h.no]
  rfl
theorem words_sorts {s : Str} (h : s ∈ sorts) : s ∈ wordsL := (show ∀ z ∈ sorts, z ∈ wordsL by decide +kernel) s h
theorem sort_sortB {s : Str} (h : s ∈ sorts) : sortB (.str s) = true := (show ∀ z ∈ sorts, sortB (.str z) = true by decide +kernel) s h
theorem test_sorts {s : Str} (h : s ∈ testL) : s ∈ sorts := (show ∀ z ∈ testL, z ∈ sorts by decide +kernel) s h
/-- a form with one field more -/
theorem good_new {fs : Fs} {new s : Str} (hG : GoodF fs) (hN : NewN fs new) (h5 : fs.length ≤ 5) (hs : s ∈ sorts) : GoodF (fs ++ [(new, s)]) :=
  ⟨by rw [List.length_append]; have := hG.lo; omega, by rw [List.length_append, List.length_singleton]; omega, nd_new hN.no hG.nd, fun x hx => by
    rcases List.mem_append.mp hx with h | h
    · exact hG.ok x h
    · rw [List.mem_singleton.mp h]
      exact ⟨hN.ok.1, hN.ok.2.1, hN.ok.2.2, hs⟩⟩
theorem nm_new {fs : Fs} {new s : Str} : ∀ z ∈ (fs ++ [(new, s)]).map Prod.fst, z = new ∨ z ∈ fs.map Prod.fst := fun z hz => by
  rw [List.map_append] at hz
  rcases List.mem_append.mp hz with h | h
  · exact .inr h
  · exact .inl (by simpa using h)
/-! drop -/
theorem drop_good {fs : Fs} {o : Str} (hG : GoodF fs) (h3 : 2 ≤ fs.length) : GoodF (fs.filter fun x => !decide (x.1 = o)) := by
  refine ⟨?_, Nat.le_trans (List.length_filter_le _ _) hG.hi, ?_, fun x hx => hG.ok x (List.mem_filter.mp hx).1⟩
  · match fs, h3, hG.nd with
    | x :: y :: r, _, nd =>
      have ne : x.1 ≠ y.1 := fun e => by
        rw [List.map_cons, List.nodup_cons] at nd
        exact nd.1 (by rw [e]; exact List.mem_cons_self ..)
      by_cases e : x.1 = o
      · exact List.length_pos_of_mem (a := y) (List.mem_filter.mpr ⟨by simp, by rw [decide_eq_false fun z => ne (e.trans z.symm)]; rfl⟩)
      · exact List.length_pos_of_mem (a := x) (List.mem_filter.mpr ⟨by simp, by rw [decide_eq_false e]; rfl⟩)
  · exact hG.nd.sublist (List.Sublist.map _ List.filter_sublist)
theorem nm_drop {fs : Fs} {o new : Str} : ∀ z ∈ (fs.filter fun x => !decide (x.1 = o)).map Prod.fst, z = new ∨ z ∈ fs.map Prod.fst := fun z hz => by
  obtain ⟨x, hx, rfl⟩ := List.mem_map.mp hz
  exact .inr (List.mem_map.mpr ⟨x, (List.mem_filter.mp hx).1, rfl⟩)
theorem drop_st {fs : Fs} {o s : Str} (h : getF fs o = some s) (c : Nat) : stepB (recOf c) fs (.tuple [.str "drop", .str o]) = some (fs.filter fun x => !decide (x.1 = o)) := by
  show dropB fs (.str o) = _
  unfold dropB
  rw [sortOf_str, h]
  rfl
theorem strs_gr {a b : Str} (c : Nat) : growS c (.tuple [.str a, .str b]) ≤ 1 := growS_pair (fun c => grow_str c a) (fun c => grow_str c b) c
theorem stD_drop {fs : Fs} {o s new : Str} (hG : GoodF fs) (h : getF fs o = some s) (h3 : 2 ≤ fs.length) : StepD fs new (.tuple [.str "drop", .str o]) (fs.filter fun x => !decide (x.1 = o)) :=
  ⟨.tup (ac (.str _) (ac (.str _) an)), bd_tup (by show 2 ≤ 1000; omega) (ac (bd_word (by decide +kernel)) (ac (hG.name h).1.bd an)), fun c => Nat.le_trans (strs_gr c) (by omega), fun c _ => drop_st h c, drop_good hG h3, nm_drop, .inl (sy_flat (by decide +kernel))⟩
/-! rename -/
theorem rename_st {fs : Fs} {o s new : Str} (h : getF fs o = some s) (hN : NewN fs new) (c : Nat) : stepB (recOf c) fs (.tuple [.str "rename", .str o, .str new]) = some (fs.map (ren o new)) := by
  show renameB fs (.str o) (.str new) = _
  unfold renameB
  rw [sortOf_str, h, hN.isB]
  rfl
theorem rename_good {fs : Fs} {o new : Str} (hG : GoodF fs) (hN : NewN fs new) : GoodF (fs.map (ren o new)) := by
  refine ⟨by rw [List.length_map]; exact hG.lo, by rw [List.length_map]; exact hG.hi, ren_nd hG.nd hN.no, fun x hx => ?_⟩
  obtain ⟨y, hy, rfl⟩ := List.mem_map.mp hx
  obtain ⟨a, b, c, d⟩ := hG.ok y hy
  unfold ren
  by_cases e : y.1 = o
  · simp only [if_pos e]
    exact ⟨hN.ok.1, hN.ok.2.1, hN.ok.2.2, d⟩
  · simp only [if_neg e]
    exact ⟨a, b, c, d⟩
theorem nm_ren {fs : Fs} {o new : Str} : ∀ z ∈ (fs.map (ren o new)).map Prod.fst, z = new ∨ z ∈ fs.map Prod.fst := fun z hz => by
  obtain ⟨x, hx, rfl⟩ := List.mem_map.mp hz
  obtain ⟨y, hy, rfl⟩ := List.mem_map.mp hx
  unfold ren
  by_cases e : y.1 = o
  · exact .inl (if_pos e)
  · exact .inr (List.mem_map.mpr ⟨y, hy, (if_neg e).symm⟩)
theorem strs_gr3 {a b d : Str} (c : Nat) : growS c (.tuple [.str a, .str b, .str d]) ≤ 1 := growS_tup (B := 0) (fun c => by simp [grow_str]) c
theorem stD_rename {fs : Fs} {o s new : Str} (hG : GoodF fs) (h : getF fs o = some s) (hN : NewN fs new) : StepD fs new (.tuple [.str "rename", .str o, .str new]) (fs.map (ren o new)) :=
  ⟨.tup (ac (.str _) (ac (.str _) (ac (.str _) an))), bd_tup (by show 3 ≤ 1000; omega) (ac (bd_word (by decide +kernel)) (ac (hG.name h).1.bd (ac hN.ok.bd an))), fun c => Nat.le_trans (strs_gr3 c) (by omega), fun c _ => rename_st h hN c, rename_good hG hN, nm_ren, .inl (sy_flat (by decide +kernel))⟩
/-! copy -/
theorem copy_st {fs : Fs} {o s new : Str} (h : getF fs o = some s) (hN : isNewB fs (.str new) = true) (c : Nat) : stepB (recOf c) fs (.tuple [.str "copy", .str o, .str new]) = some (fs ++ [(new, s)]) := by
  show copyB fs (.str o) (.str new) = _
  unfold copyB
  rw [sortOf_str, h]
  dsimp only
  rw [if_pos hN]
  rfl
theorem stD_copy {fs : Fs} {o s new : Str} (hG : GoodF fs) (h : getF fs o = some s) (hN : NewN fs new) (h5 : fs.length ≤ 5) : StepD fs new (.tuple [.str "copy", .str o, .str new]) (fs ++ [(new, s)]) :=
  ⟨.tup (ac (.str _) (ac (.str _) (ac (.str _) an))), bd_tup (by show 3 ≤ 1000; omega) (ac (bd_word (by decide +kernel)) (ac (hG.name h).1.bd (ac hN.ok.bd an))), fun c => Nat.le_trans (strs_gr3 c) (by omega), fun c _ => copy_st h hN.isB c, good_new hG hN h5 (hG.name h).2, nm_new, .inl (sy_flat (by decide +kernel))⟩
/-! put -/
theorem put_st {fs : Fs} {new s : Str} {v : PyData} (hN : isNewB fs (.str new) = true) (hs : s ∈ sorts) (hv : ofSort s v = true) (c : Nat) : stepB (recOf c) fs (.tuple [.str "put", .str new, .str s, v]) = some (fs ++ [(new, s)]) := by
  show putB fs (.str new) (.str s) v = _
  unfold putB
  show (if (isNewB fs (.str new) && (sortB (.str s) && ofSort s v)) = true then some (fs ++ [(new, s)]) else none) = _
  rw [hN, sort_sortB hs, hv]
  exact if_pos rfl
theorem put_pu {l : Bool} {new s : Str} {v : PyData} (pv : Plain v) : Pu l (.tuple [.str "put", .str new, .str s, v]) := .tup (ac (.str _) (ac (.str _) (ac (.str _) (ac (plain_pu pv) an))))
theorem put_bd {m : Nat} {new s : Str} {v : PyData} (hn : NameOk new) (hs : s ∈ sorts) (pv : Plain v) : Bd 1000 (m + 1) (.tuple [.str "put", .str new, .str s, v]) := bd_tup (by show 4 ≤ 1000; omega) (ac (bd_word (by decide +kernel)) (ac hn.bd (ac (bd_word (words_sorts hs)) (ac pv.bd' an))))
theorem put_gr {new s : Str} {v : PyData} (pv : Plain v) (c : Nat) : growS c (.tuple [.str "put", .str new, .str s, v]) ≤ 1 := growS_tup (B := 0) (fun c => by simp [grow_str, grow_plain pv]) c
theorem stD_put {fs : Fs} {new s : Str} {v : PyData} (hG : GoodF fs) (hN : NewN fs new) (h5 : fs.length ≤ 5) (hs : s ∈ sorts) (pv : Plain v) (hv : ofSort s v = true) : StepD fs new (.tuple [.str "put", .str new, .str s, v]) (fs ++ [(new, s)]) :=
  ⟨put_pu pv, put_bd hN.ok hs pv, fun c => Nat.le_trans (put_gr pv c) (by omega), fun c _ => put_st hN.isB hs hv c, good_new hG hN h5 hs, nm_new, .inl (sy_flat (by decide +kernel))⟩
/-! table -/
theorem set_names (fs : Fs) {t s so : Str} (h : getF fs t = some s) : (setF fs t so).map Prod.fst = fs.map Prod.fst := by
  rw [set_map h, List.map_map]
  refine List.map_congr_left fun x _ => ?_
  show (if x.1 = t then (x.1, so) else x).1 = x.1
  by_cases e : x.1 = t
  · rw [if_pos e]
  · rw [if_neg e]
theorem set_good {fs : Fs} {t s so : Str} (hG : GoodF fs) (h : getF fs t = some s) (hs : so ∈ sorts) : GoodF (setF fs t so) := by
  have e := set_names fs (so := so) h
  have el : (setF fs t so).length = fs.length := by
    have := congrArg List.length e
    rwa [List.length_map, List.length_map] at this
  refine ⟨by rw [el]; exact hG.lo, by rw [el]; exact hG.hi, by rw [e]; exact hG.nd, fun x hx => ?_⟩
  rw [set_map h] at hx
  obtain ⟨y, hy, rfl⟩ := List.mem_map.mp hx
  obtain ⟨a, b, c, d⟩ := hG.ok y hy
  by_cases e : y.1 = t
  · simp only [if_pos e]
    exact ⟨a, b, c, hs⟩
  · simp only [if_neg e]
    exact ⟨a, b, c, d⟩
theorem stD_table {fs : Fs} {t s so new : Str} {rs : Rs} {v : PyData} (hG : GoodF fs) (h : getF fs t = some s) (hs : s ∈ testL) (hso : so ∈ testL) (hr : GoodR s so rs 4) (pv : Plain v) (hv : ofSort so v = true) : StepD fs new (.tuple [.str "table", .str t, .str so, .tuple (rs.map rowD), .tuple [v]]) (setF fs t so) := by
  refine ⟨.tup (ac (.str _) (ac (.str _) (ac (.str _) (ac (rows_pu hr) (ac (.tup (ac (plain_pu pv) an)) an))))), bd_tup (by show 5 ≤ 1000; omega) (ac (bd_word (by decide +kernel)) (ac (hG.name h).1.bd (ac (bd_word (words_sorts (test_sorts hso))) (ac (rows_bd hr 6) (ac (bd_tup (by show 1 ≤ 1000; omega) (ac pv.bd' an)) an))))), fun c => ?_, fun c _ => table_of h hs hso hr (ot := .tuple [v]) hv c, set_good hG h (test_sorts hso), fun z hz => .inr (by rw [set_names fs h] at hz; exact hz), .inl (sy_flat (by decide +kernel))⟩
  refine Nat.le_trans (growS_tup (B := 5) (fun c => ?_) c) (by decide)
  have h1 := grow_rows hr c
  simp only [List.map_cons, List.map_nil, List.sum_cons, List.sum_nil, grow_str, grow_one pv]
  omega
/-! sum -/
theorem stD_sum {fs : Fs} {new : Str} {l : List PyData} (hG : GoodF fs) (hN : NewN fs new) (h5 : fs.length ≤ 5) (h1 : 1 ≤ l.length) (h6 : l.length ≤ 6) (hl : ∀ d ∈ l, ∃ n s, d = .str n ∧ getF fs n = some s ∧ s ∈ numsL) : StepD fs new (.tuple [.str "sum", .str new, .tuple l]) (fs ++ [(new, ("amount" : Str))]) := by
  refine ⟨.tup (ac (.str _) (ac (.str _) (ac (.tup fun d hd => ?_) an))), bd_tup (by show 3 ≤ 1000; omega) (ac (bd_word (by decide +kernel)) (ac hN.ok.bd (ac (bd_tup (by omega) fun d hd => ?_) an))), fun c => ?_, fun c _ => ?_, good_new hG hN h5 (by decide +kernel), nm_new, .inl (sy_flat (by decide +kernel))⟩
  · obtain ⟨n, s, rfl, _⟩ := hl d hd
    exact .str _
  · obtain ⟨n, s, rfl, e, _⟩ := hl d hd
    exact (hG.name e).1.bd
  · refine Nat.le_trans (growS_tup (B := 6) (fun c => ?_) c) (by decide)
    have h := grow_le (c := c) (B := 1) (ds := l) fun d hd => by
      obtain ⟨n, s, rfl, _⟩ := hl d hd
      exact Nat.le_of_eq (growS_flat rfl c)
    simp only [List.map_cons, List.map_nil, List.sum_cons, List.sum_nil, grow_str]
    omega
  · show sumB fs (.str new) (.tuple l) = _
    unfold sumB
    have hs : sumsB fs (.tuple l) = true := by
      show ((decide (1 ≤ l.length) && decide (l.length ≤ 6)) && l.all fun f => amongB numsL (sortOf fs f)) = true
      rw [decide_eq_true h1, decide_eq_true h6, List.all_eq_true.mpr fun d hd => ?_]
      · rfl
      · obtain ⟨n, s, rfl, e, m⟩ := hl d hd
        rw [sortOf_str, e]
        exact decide_eq_true m
    rw [hN.isB, hs]
    exact if_pos rfl
/-! join -/
structure PartD (fs : Fs) (d : PyData) : Prop where
  pu : Pu false d
  bd : Bd 1000 1 d
  gr : ∀ c, growS c d ≤ 1
  pt : partB fs d = true
theorem part_field {fs : Fs} {n s : Str} (hG : GoodF fs) (h : getF fs n = some s) (hs : s ∈ joinL) : PartD fs (.tuple [.str "field", .str n]) :=
  ⟨pu_tup2 (.str _) (.str _), bd_tup (by show 2 ≤ 1000; omega) (ac (bd_word (by decide +kernel)) (ac (hG.name h).1.bd an)), strs_gr, by
    show (decide (("field" : Str) = "field") && amongB joinL (sortOf fs (.str n))) = true
    rw [sortOf_str, h, decide_eq_true rfl]
    exact decide_eq_true hs⟩
theorem part_say {fs : Fs} {z : Str} (h : sayB (.str z) = true) (hl : z.length ≤ 12) (ha : As z) : PartD fs (.tuple [.str "say", .str z]) :=
  ⟨pu_tup2 (.str _) (.str _), bd_tup (by show 2 ≤ 1000; omega) (ac (bd_word (by decide +kernel)) (ac (bd_str40 (by omega) ha) an)), strs_gr, h⟩
theorem low_say {z : Str} (h : Low z) (h1 : 1 ≤ z.length) (h8 : z.length ≤ 12) : sayB (.str z) = true := by
  show ((decide (1 ≤ z.length) && decide (z.length ≤ 12)) && z.cps.toList.all sayC) = true
  rw [decide_eq_true h1, decide_eq_true h8, List.all_eq_true.mpr fun c hc => ?_]
  · rfl
  · have hl := h c hc
    have e : (Str.ofString "abcdefghijklmnopqrstuvwxyz0123456789 -").cps.toList = (Str.ofString "abcdefghijklmnopqrstuvwxyz").cps.toList ++ (Str.ofString "0123456789 -").cps.toList := by decide +kernel
    unfold sayC
    rw [e]
    have hm := low_mem c
    rw [hl] at hm
    exact decide_eq_true (List.mem_append_left _ (of_decide_eq_true hm))
theorem stD_join {fs : Fs} {new : Str} {l : List PyData} (hG : GoodF fs) (hN : NewN fs new) (h5 : fs.length ≤ 5) (h1 : 1 ≤ l.length) (h8 : l.length ≤ 8) (hl : ∀ d ∈ l, PartD fs d) (hsy : ∀ L, (l.map (partLen L)).sum ≤ 3 * L + 36) : StepD fs new (.tuple [.str "join", .str new, .tuple l]) (fs ++ [(new, ("text" : Str))]) := by
  refine ⟨.tup (ac (.str _) (ac (.str _) (ac (.tup fun d hd => (hl d hd).pu) an))), bd_tup (by show 3 ≤ 1000; omega) (ac (bd_word (by decide +kernel)) (ac hN.ok.bd (ac (bd_tup (by omega) fun d hd => (hl d hd).bd.mono (Nat.le_refl _) (by omega)) an))), fun c => ?_, fun c _ => ?_, good_new hG hN h5 (by decide +kernel), nm_new, .inr ⟨_, l, rfl, hsy⟩⟩
  · refine Nat.le_trans (growS_tup (B := 8) (fun c => ?_) c) (by decide)
    have h := grow_le (c := c) (B := 1) (ds := l) fun d hd => (hl d hd).gr c
    simp only [List.map_cons, List.map_nil, List.sum_cons, List.sum_nil, grow_str]
    omega
  · show joinB fs (.str new) (.tuple l) = _
    unfold joinB
    have hs : partsB fs (.tuple l) = true := by
      show ((decide (1 ≤ l.length) && decide (l.length ≤ 8)) && l.all (partB fs)) = true
      rw [decide_eq_true h1, decide_eq_true h8, List.all_eq_true.mpr fun d hd => (hl d hd).pt]
      rfl
    rw [hN.isB, hs]
    exact if_pos rfl
/-! cases -/
theorem gG2 {k : Nat} (h : k ≤ 2) : gG k ≤ 223 := by
  match k, h with
  | 0, _ => decide
  | 1, _ => decide
  | 2, _ => decide
/-- one half of a case -/
structure Half (fs : Fs) (l : List PyData) (gs : Fs) : Prop where
  pu : ∀ d ∈ l, Pu false d
  bd : ∀ d ∈ l, Bd 1000 7 d
  gr : ∀ c, growB c (.tuple l) ≤ 900
  st : ∀ c, 2 ≤ c → stepsB c fs (.tuple l) = .ok gs
  ln : l.length ≤ 10
  sy : ∀ d ∈ l, SyM d
theorem mods_gr {k : Nat} {fs : Fs} {l : List PyData} (hk : k ≤ 2) (h : ∀ d ∈ l, ModD k fs d) (hl : l.length ≤ 3) (c : Nat) : growB c (.tuple l) ≤ 669 := by
  have h1 := grow_le (c := c) fun d hd => (h d hd).gr c
  have h2 : l.length * gG k ≤ 3 * 223 := Nat.mul_le_mul hl (gG2 hk)
  omega
theorem half_mods {k : Nat} {fs : Fs} {l : List PyData} (hG : GoodF fs) (hk : k ≤ 2) (h : ∀ d ∈ l, ModD k fs d) (hl : l.length ≤ 3) : Half fs l fs :=
  ⟨fun d hd => (h d hd).pu, fun d hd => (h d hd).bd.mono (Nat.le_refl _) (by omega), fun c => by have := mods_gr hk h hl c; omega, fun c hc => steps_mods (k := k) (by omega) (Ext.refl hG.nd) (fun d hd => (h d hd).md), by omega, fun d hd => (h d hd).sy⟩
theorem grow_app (c : Nat) (a b : List PyData) : growB c (.tuple (a ++ b)) = growB c (.tuple a) + growB c (.tuple b) := by
  rw [grow_sum, grow_sum, grow_sum]
  show ((a ++ b).map (growS c)).sum = _
  rw [List.map_append, List.sum_append]
  rfl
theorem grow_sing (c : Nat) (d : PyData) : growB c (.tuple [d]) = growS c d := by
  rw [grow_sum]
  show ([d].map (growS c)).sum = _
  rw [List.map_singleton, List.sum_singleton]
theorem half_yes {k : Nat} {fs : Fs} {new s : Str} {v : PyData} {l : List PyData} (hG : GoodF fs) (hN : NewN fs new) (hk : k ≤ 2) (h : ∀ d ∈ l, ModD k fs d) (hl : l.length ≤ 3) (hs : s ∈ sorts) (pv : Plain v) (hv : ofSort s v = true) : Half fs (l ++ [.tuple [.str "put", .str new, .str s, v]]) (fs ++ [(new, s)]) := by
  have a := half_mods hG hk h hl
  refine ⟨fun d hd => ?_, fun d hd => ?_, fun c => ?_, fun c hc => ?_, by rw [List.length_append, List.length_singleton]; omega, fun d hd => (List.mem_append.mp hd).elim (a.sy d) fun h1 => by rw [List.mem_singleton.mp h1]; exact sy_flat (by decide +kernel)⟩
  · rcases List.mem_append.mp hd with h1 | h1
    · exact a.pu d h1
    · rw [List.mem_singleton.mp h1]
      exact put_pu pv
  · rcases List.mem_append.mp hd with h1 | h1
    · exact a.bd d h1
    · rw [List.mem_singleton.mp h1]
      exact put_bd hN.ok hs pv
  · rw [grow_app, grow_sing]
    have := mods_gr hk h hl c
    have := put_gr (new := new) (s := s) pv c
    omega
  · exact steps_app (a.st c hc) (steps_one (put_st hN.isB hs hv c))
theorem half_no {k : Nat} {fs : Fs} {new s : Str} {v : PyData} {l : List PyData} (hG : GoodF fs) (hN : NewN fs new) (hk : k ≤ 2) (h : ∀ d ∈ l, ModD k fs d) (hl : l.length ≤ 3) (hs : s ∈ sorts) (pv : Plain v) (hv : ofSort s v = true) : Half fs ([.tuple [.str "put", .str new, .str s, v]] ++ l) (fs ++ [(new, s)]) := by
  have a := half_mods hG hk h hl
  refine ⟨fun d hd => ?_, fun d hd => ?_, fun c => ?_, fun c hc => ?_, by rw [List.length_append, List.length_singleton]; omega, fun d hd => (List.mem_append.mp hd).elim (fun h1 => by rw [List.mem_singleton.mp h1]; exact sy_flat (by decide +kernel)) (a.sy d)⟩
  · rcases List.mem_append.mp hd with h1 | h1
    · rw [List.mem_singleton.mp h1]
      exact put_pu pv
    · exact a.pu d h1
  · rcases List.mem_append.mp hd with h1 | h1
    · rw [List.mem_singleton.mp h1]
      exact put_bd hN.ok hs pv
    · exact a.bd d h1
  · rw [grow_app, grow_sing]
    have := mods_gr hk h hl c
    have := put_gr (new := new) (s := s) pv c
    omega
  · refine steps_app (gs := fs ++ [(new, s)]) ?_ fun j => go_mods (k := k) (by omega) (Ext.new hG.nd hN.no) l j fun d hd => (h d hd).md
    rw [steps_over]
    exact steps_one (put_st hN.isB hs hv c) 0
theorem half_bd {fs gs : Fs} {l : List PyData} (h : Half fs l gs) : Bd 1000 8 (.tuple l) := bd_tup (by have := h.ln; omega) h.bd
theorem stD_case {fs gs gn : Fs} {t s new : Str} {val : PyData} {ys zs : List PyData} (hG : GoodF fs) (h : getF fs t = some s) (hs : s ∈ testL) (pv : Plain val) (hv : ofSort s val = true) (hy : Half fs ys gs) (hz : Half fs zs gn) (e : eqF gs gn = true) (gg : GoodF gs) (nm : ∀ z ∈ gs.map Prod.fst, z = new ∨ z ∈ fs.map Prod.fst) : StepD fs new (.tuple [.str "case", .str t, val, .tuple ys, .tuple zs]) gs := by
  refine ⟨.tup (ac (.str _) (ac (.str _) (ac (plain_pu pv) (ac (.tup hy.pu) (ac (.tup hz.pu) an))))), bd_tup (by show 5 ≤ 1000; omega) (ac (bd_word (by decide +kernel)) (ac (hG.name h).1.bd (ac pv.bd' (ac (half_bd hy) (ac (half_bd hz) an))))), fun c => ?_, fun c hc => ?_, gg, nm, .inl (.case hy.sy hz.sy)⟩
  · refine Nat.le_trans (growS_tup (B := 1800) (fun c => ?_) c) (by decide)
    have := hy.gr c
    have := hz.gr c
    simp only [List.map_cons, List.map_nil, List.sum_cons, List.sum_nil, grow_str, grow_plain pv]
    omega
  · obtain ⟨c, rfl⟩ : ∃ c', c = c' + 1 := ⟨c - 1, by omega⟩
    exact case_of h hs hv (hy.st c (by omega)) (hz.st c (by omega)) e
/-- a field put last: its copy, it dropped, the copy renamed -/
def lastF (fs : Fs) (o s : Str) : Fs := (fs.filter fun x => !decide (x.1 = o)) ++ [(o, s)]
theorem getF_filter {fs : Fs} {o n : Str} (ne : n ≠ o) : getF (fs.filter fun x => !decide (x.1 = o)) n = getF fs n := by
  induction fs with
  | nil => rfl
  | cons x r ih =>
    by_cases e : x.1 = o
    · rw [List.filter_cons_of_neg (by rw [decide_eq_true e]; decide), ih, getF_cons_neg (fun z => ne (z.symm.trans e))]
    · rw [List.filter_cons_of_pos (by rw [decide_eq_false e]; rfl)]
      by_cases e2 : x.1 = n
      · rw [getF_cons_pos e2, getF_cons_pos e2]
      · rw [getF_cons_neg e2, getF_cons_neg e2, ih]
theorem getF_filter_o (fs : Fs) (o : Str) : getF (fs.filter fun x => !decide (x.1 = o)) o = none := getF_of_none fun hm => by
  obtain ⟨x, hx, e⟩ := List.mem_map.mp hm
  have := (List.mem_filter.mp hx).2
  rw [decide_eq_true e] at this
  cases this
theorem getF_snoc {fs : Fs} {n s m : Str} : getF (fs ++ [(n, s)]) m = (getF fs m).or (if n = m then some s else none) := by
  induction fs with
  | nil =>
    by_cases e : n = m
    · rw [if_pos e]
      exact getF_cons_pos e
    · rw [if_neg e]
      exact getF_cons_neg e
  | cons x r ih =>
    by_cases e : x.1 = m
    · rw [List.cons_append, getF_cons_pos e, getF_cons_pos e]
      rfl
    · rw [List.cons_append, getF_cons_neg e, getF_cons_neg e, ih]
theorem last_len {fs : Fs} (nd : (fs.map Prod.fst).Nodup) {o s : Str} (h : getF fs o = some s) : (lastF fs o s).length = fs.length := by
  unfold lastF
  rw [List.length_append, List.length_singleton]
  induction fs with
  | nil => cases h
  | cons x r ih =>
    rw [List.map_cons, List.nodup_cons] at nd
    by_cases e : x.1 = o
    · rw [List.filter_cons_of_neg (by rw [decide_eq_true e]; decide), List.filter_eq_self.mpr fun y hy => ?_, List.length_cons]
      rw [decide_eq_false fun z => nd.1 (List.mem_map.mpr ⟨y, hy, z.trans e.symm⟩)]
      rfl
    · rw [List.filter_cons_of_pos (by rw [decide_eq_false e]; rfl), List.length_cons, List.length_cons, ← ih nd.2 (by rwa [getF_cons_neg e] at h)]
theorem last_good {fs : Fs} {o s : Str} (hG : GoodF fs) (h : getF fs o = some s) : GoodF (lastF fs o s) := by
  have ll := last_len hG.nd h
  have hn := hG.name h
  refine ⟨by rw [ll]; exact hG.lo, by rw [ll]; exact hG.hi, nd_new (getF_filter_o fs o) (hG.nd.sublist (List.Sublist.map _ List.filter_sublist)), fun x hx => ?_⟩
  rcases List.mem_append.mp hx with h1 | h1
  · exact hG.ok x (List.mem_filter.mp h1).1
  · rw [List.mem_singleton.mp h1]
    exact ⟨hn.1.1, hn.1.2.1, hn.1.2.2, hn.2⟩
theorem last_get {fs : Fs} {o s : Str} (h : getF fs o = some s) (m : Str) : getF (lastF fs o s) m = getF fs m := by
  unfold lastF
  rw [getF_snoc]
  by_cases e : m = o
  · subst e
    rw [getF_filter_o, if_pos rfl, h]
    rfl
  · rw [getF_filter e, if_neg fun z => e z.symm]
    cases getF fs m <;> rfl
theorem eqF_of {fs gs : Fs} (l : fs.length = gs.length) (nd : (fs.map Prod.fst).Nodup) (h : ∀ m, getF gs m = getF fs m) : eqF fs gs = true := by
  unfold eqF
  rw [l]
  simp only [beq_self_eq_true, Bool.true_and, decide_true, List.all_eq_true]
  intro x hx
  exact decide_eq_true ((h x.1).trans (getF_mem nd (show (x.1, x.2) ∈ fs from hx)))
theorem nm_last {fs : Fs} {o s new : Str} (h : getF fs o = some s) : ∀ z ∈ (lastF fs o s).map Prod.fst, z = new ∨ z ∈ fs.map Prod.fst := fun z hz => by
  obtain ⟨x, hx, rfl⟩ := List.mem_map.mp hz
  rcases List.mem_append.mp hx with h1 | h1
  · exact .inr (List.mem_map.mpr ⟨x, (List.mem_filter.mp h1).1, rfl⟩)
  · rw [List.mem_singleton.mp h1]
    obtain ⟨y, hy, e, _⟩ := getF_in h
    exact .inr (List.mem_map.mpr ⟨y, hy, e⟩)
theorem half_last {fs : Fs} {o s new : Str} (hG : GoodF fs) (h : getF fs o = some s) (hN : NewN fs new) : Half fs [.tuple [.str "copy", .str o, .str new], .tuple [.str "drop", .str o], .tuple [.str "rename", .str new, .str o]] (lastF fs o s) := by
  have hn := hG.name h
  have bo : ∀ {m : Nat}, Bd 1000 m (.str o) := hn.1.bd
  have bn : ∀ {m : Nat}, Bd 1000 m (.str new) := hN.ok.bd
  have no : o ≠ new := fun e => by
    rw [e, hN.no] at h
    cases h
  refine ⟨ac (.tup (ac (.str _) (ac (.str _) (ac (.str _) an)))) (ac (.tup (ac (.str _) (ac (.str _) an))) (ac (.tup (ac (.str _) (ac (.str _) (ac (.str _) an)))) an)),
    ac (bd_tup (by show 3 ≤ 1000; omega) (ac (bd_word (by decide +kernel)) (ac bo (ac bn an)))) (ac (bd_tup (by show 2 ≤ 1000; omega) (ac (bd_word (by decide +kernel)) (ac bo an))) (ac (bd_tup (by show 3 ≤ 1000; omega) (ac (bd_word (by decide +kernel)) (ac bn (ac bo an)))) an)), fun c => ?_, fun c _ => ?_, by show 3 ≤ 10; omega, ac (sy_flat (by decide +kernel)) (ac (sy_flat (by decide +kernel)) (ac (sy_flat (by decide +kernel)) an))⟩
  · have := grow_le (c := c) (B := 1) (ds := [.tuple [.str "copy", .str o, .str new], .tuple [.str "drop", .str o], .tuple [.str "rename", .str new, .str o]]) (ac (strs_gr3 c) (ac (strs_gr c) (ac (strs_gr3 c) an)))
    exact Nat.le_trans this (by show 3 * 1 ≤ 900; omega)
  · rw [steps_over]
    show goB (stepB (recOf c)) 0 fs [.tuple [.str "copy", .str o, .str new], .tuple [.str "drop", .str o], .tuple [.str "rename", .str new, .str o]] = _
    have g1 : getF (fs ++ [(new, s)]) o = some s := getF_app _ h
    rw [go_cons, copy_st h hN.isB c]
    show goB (stepB (recOf c)) 1 (fs ++ [(new, s)]) [.tuple [.str "drop", .str o], .tuple [.str "rename", .str new, .str o]] = _
    rw [go_cons, drop_st g1 c]
    have e1 : (fs ++ [(new, s)]).filter (fun x => !decide (x.1 = o)) = (fs.filter fun x => !decide (x.1 = o)) ++ [(new, s)] := by
      rw [List.filter_append, List.filter_cons_of_pos (by rw [decide_eq_false fun z => no z.symm]; rfl)]
      rfl
    rw [e1]
    have g2 : getF ((fs.filter fun x => !decide (x.1 = o)) ++ [(new, s)]) new = some s := by
      rw [getF_snoc, getF_filter (fun z => no z.symm), hN.no, if_pos rfl]
      rfl
    have n2 : NewN ((fs.filter fun x => !decide (x.1 = o)) ++ [(new, s)]) o := ⟨hn.1, by rw [getF_snoc, getF_filter_o, if_neg fun z => no z.symm]; rfl⟩
    have := rename_st g2 n2 c
    show goB (stepB (recOf c)) 2 ((fs.filter fun x => !decide (x.1 = o)) ++ [(new, s)]) [.tuple [.str "rename", .str new, .str o]] = _
    rw [go_cons, this]
    show Except.ok (((fs.filter fun x => !decide (x.1 = o)) ++ [(new, s)]).map (ren new o)) = Except.ok (lastF fs o s)
    unfold lastF
    rw [List.map_append]
    have e3 : (fs.filter fun x => !decide (x.1 = o)).map (ren new o) = fs.filter fun x => !decide (x.1 = o) := by
      conv => rhs; rw [← List.map_id (fs.filter fun x => !decide (x.1 = o))]
      refine List.map_congr_left fun x hx => ?_
      have hx := (List.mem_filter.mp hx).1
      unfold ren
      rw [if_neg fun z => getF_none hN.no (List.mem_map.mpr ⟨x, hx, z⟩)]
      rfl
    rw [e3]
    show Except.ok (_ ++ [ren new o (new, s)]) = _
    unfold ren
    rw [if_pos rfl]
end St6

set_option autoImplicit false
set_option maxHeartbeats 4000000
namespace St6
open PySem PySem.Spec PyProof.Rows L2 Tg Cc Nn TL
/-! a drawn step -/
def cS (k : Nat) : Nat := 700 + 2 * pM (k - 1)
def spStepD (K : PySem.W.Frag) (k : Nat) : Sp := fun vs H Q _ => ∃ (pd cl : Addr) (ns : List Int) (n : Nat) (f : V) (fs : Fs) (new : Str), vs = [.ref pd, f, .str new, .int (k : Nat)] ∧ Pen H pd cl ns n ∧ n + cS k ≤ 700000000 ∧ Fm K H f fs ∧ GoodF fs ∧ NewN fs new ∧ k ≤ 3 ∧
  ∀ H' a d gs, Fr [pd] H H' → Pen H' pd cl ns (n + cS k) → Th K H' (.ref a) d → StepD fs new d gs → Q (.ref a) H'
theorem and_p {R1 R2 : TT} {σ : L2.St} {H : Hp} {b1 b2 : Bool} {k : Bool → Hp → Prop} (h1 : ∀ k : Bool → Hp → Prop, k b1 H → R1 σ H k) (h2 : ∀ k : Bool → Hp → Prop, k b2 H → R2 σ H k) (h : k (b1 && b2) H) : tAnd R1 R2 σ H k := by
  refine h1 _ ?_
  show if b1 = true then R2 σ H k else k false H
  cases b1 with
  | true =>
    rw [if_pos rfl]
    exact h2 _ h
  | false =>
    rw [if_neg (by decide)]
    exact h
theorem and_q {c b2 : Bool} {σ : L2.St} {H : Hp} {R2 : TT} {S E : Hp → Prop} (h2 : ∀ k : Bool → Hp → Prop, k b2 H → R2 σ H k) (hs : c = true → b2 = true → S H) (he : (c && b2) = false → E H) :
    (fun (c : Bool) H1 => if c = true then R2 σ H1 (fun b H1 => if b = true then S H1 else E H1) else E H1) c H := by
  show if c = true then R2 σ H (fun b H1 => if b = true then S H1 else E H1) else E H
  cases c with
  | true =>
    rw [if_pos rfl]
    refine h2 _ ?_
    show if b2 = true then S H else E H
    cases b2 with
    | true =>
      rw [if_pos rfl]
      exact hs rfl rfl
    | false =>
      rw [if_neg (by decide)]
      exact he rfl
  | false =>
    rw [if_neg (by decide)]
    exact he rfl
theorem or_q {c b2 : Bool} {σ : L2.St} {H : Hp} {R2 : TT} {S E : Hp → Prop} (h2 : ∀ k : Bool → Hp → Prop, k b2 H → R2 σ H k) (hs : (c || b2) = true → S H) (he : c = false → b2 = false → E H) :
    (fun (c : Bool) H1 => if c = true then S H1 else R2 σ H1 (fun b H1 => if b = true then S H1 else E H1)) c H := by
  show if c = true then S H else R2 σ H (fun b H1 => if b = true then S H1 else E H1)
  cases c with
  | true =>
    rw [if_pos rfl]
    exact hs rfl
  | false =>
    rw [if_neg (by decide)]
    refine h2 _ ?_
    show if b2 = true then S H else E H
    cases b2 with
    | true =>
      rw [if_pos rfl]
      exact hs rfl
    | false =>
      rw [if_neg (by decide)]
      exact he rfl rfl
theorem or_p {R1 R2 : TT} {σ : L2.St} {H : Hp} {b1 b2 : Bool} {k : Bool → Hp → Prop} (h1 : ∀ k : Bool → Hp → Prop, k b1 H → R1 σ H k) (h2 : ∀ k : Bool → Hp → Prop, k b2 H → R2 σ H k) (h : k (b1 || b2) H) : tOr R1 R2 σ H k := by
  refine h1 _ ?_
  show if b1 = true then k true H else R2 σ H k
  cases b1 with
  | true =>
    rw [if_pos rfl]
    exact h
  | false =>
    rw [if_neg (by decide)]
    exact h2 _ h
theorem sum_sub {α : Type} {f : α → Nat} : ∀ {l m : List α}, l.Sublist m → (l.map f).sum ≤ (m.map f).sum
  | _, _, .slnil => Nat.le_refl _
  | _, _, .cons a h => by
    rw [List.map_cons, List.sum_cons]
    exact Nat.le_trans (sum_sub h) (Nat.le_add_left _ _)
  | _, _, .cons₂ a h => by
    rw [List.map_cons, List.sum_cons, List.map_cons, List.sum_cons]
    exact Nat.add_le_add_left (sum_sub h) _
theorem cutV_take (xs : List V) (m : Nat) : cutV xs none (some (m : Int)) = xs.take m := by
  unfold cutV
  have e1 : HT.sIx xs.length 0 none = 0 := rfl
  have e2 : HT.sIx xs.length xs.length (some (m : Int)) = min m xs.length := by
    show (if (m : Int) < 0 then ((m : Int) + xs.length).toNat else min (m : Int).toNat xs.length) = _
    rw [if_neg (by omega), Int.toNat_natCast]
  rw [e1, e2, List.drop_zero, Nat.sub_zero]
  by_cases h : m ≤ xs.length
  · rw [Nat.min_eq_left h]
  · rw [Nat.min_eq_right (by omega), List.take_length, List.take_of_length_le (by omega)]
theorem cutV_drop (xs : List V) (m : Nat) : cutV xs (some (m : Int)) none = xs.drop m := by
  unfold cutV
  have e1 : HT.sIx xs.length 0 (some (m : Int)) = min m xs.length := by
    show (if (m : Int) < 0 then ((m : Int) + xs.length).toNat else min (m : Int).toNat xs.length) = _
    rw [if_neg (by omega), Int.toNat_natCast]
  have e2 : HT.sIx xs.length xs.length none = xs.length := rfl
  rw [e1, e2]
  by_cases h : m ≤ xs.length
  · rw [Nat.min_eq_left h, List.take_of_length_le (by rw [List.length_drop]; omega)]
  · rw [Nat.min_eq_right (by omega), List.drop_eq_nil_of_le (by omega), List.drop_eq_nil_of_le (by omega), List.take_nil]
theorem thTake {K : PySem.W.Frag} {H : Hp} : ∀ {xs : List V} {ds : List PyData} (m : Nat), ThAll K H xs ds → ThAll K H (xs.take m) (ds.take m)
  | _, _, 0, _ => .nil
  | _, _, m + 1, .nil => .nil
  | _, _, m + 1, .cons h t => .cons h (thTake m t)
theorem thDrop {K : PySem.W.Frag} {H : Hp} : ∀ {xs : List V} {ds : List PyData} (m : Nat), ThAll K H xs ds → ThAll K H (xs.drop m) (ds.drop m)
  | _, _, 0, h => h
  | _, _, m + 1, .nil => .nil
  | _, _, m + 1, .cons h t => thDrop m t
theorem of_word_is {D : PyData} (h : ofSort "word" D = true) : ∃ z, D = .str z ∧ Low z ∧ 1 ≤ z.length ∧ z.length ≤ 8 := by
  unfold ofSort at h
  rw [if_pos rfl] at h
  cases D with
  | str z =>
    have h : ((decide (1 ≤ z.length) && decide (z.length ≤ 8)) && z.cps.toList.all lowC) = true := h
    rw [Bool.and_eq_true, Bool.and_eq_true] at h
    exact ⟨z, rfl, fun c hc => List.all_eq_true.mp h.2 c hc, of_decide_eq_true h.1.1, of_decide_eq_true h.1.2⟩
  | _ => cases h
theorem some_of {o : Option Str} (h : (!decide (optV o = V.non)) = true) : ∃ z, o = some z := by
  cases o with
  | none => cases h
  | some z => exact ⟨z, rfl⟩
theorem pick_some {fs : Fs} {l : List Str} {o : Option Str} {z s : Str} (h : Pick fs l o) (hz : getF fs z = some s) (hs : s ∈ l) : ∃ y t, o = some y ∧ getF fs y = some t ∧ t ∈ l := by
  cases o with
  | none => exact absurd hs (h z s hz)
  | some y =>
    obtain ⟨t, h1, h2⟩ := h
    exact ⟨y, t, rfl, h1, h2⟩
theorem cut_mem {xs : List V} {lo hi : Option Int} {x : V} (h : x ∈ cutV xs lo hi) : x ∈ xs := by
  unfold cutV at h
  exact List.mem_of_mem_drop (List.mem_of_mem_take h)
section
variable {P : Program} {w : World} {K : PySem.W.Frag} {mg : Str → Option Value} {base : Heap} {k : Nat}
theorem scstepD : FnScope ["pen", "fields", "new", "deep", "way", "old", "test", "kind", "number", "rope", "sort", "parts", "put", "no", "last", "some"] ["pen", "fields", "new", "deep"] (defScope sLawStep) := ⟨rfl, rfl, rfl, by decide +kernel, rfl, by decide +kernel, by decide +kernel⟩
theorem ok_stepD {f : Addr} {fd : FuncData} (F : FnP K "_law_step" sLawStep f fd) {f__law_draw : Addr} {fd__law_draw : FuncData} (c__law_draw : Cl P w K mg base CX0 "_law_draw" 1 ["pen", "many"] (spDraw) f__law_draw fd__law_draw) {f__law_pick : Addr} {fd__law_pick : FuncData} (c__law_pick : Cl P w K mg base CX0 "_law_pick" 2 ["pen", "fields", "sorts"] (spPick K) f__law_pick fd__law_pick) {f__law_value : Addr} {fd__law_value : FuncData} (c__law_value : Cl P w K mg base CX0 "_law_value" 3 ["pen", "sort"] (spValueD) f__law_value fd__law_value) {f__law_rows : Addr} {fd__law_rows : FuncData} (c__law_rows : Cl P w K mg base CX0 "_law_rows" 4 ["pen", "old", "new"] (spRowsD K) f__law_rows fd__law_rows) {f__law_mods : Addr} {fd__law_mods : FuncData} (c__law_mods : Cl P w K mg base CX0 "_law_mods" (4 + k) ["pen", "fields", "deep", "many"] (spMRec K k) f__law_mods fd__law_mods) (mb_len : mg "len" = none) (mb_dict : mg "dict" = none)   : FnOk P w K mg base CX0 (4 + k + 1) f fd ["pen", "fields", "new", "deep"] (spStepD K k) := by
  refine F.ok scstepD (fun vs H Q E h => ?_) (fun cdv A outer s H vs Q E hr h => ?_)
  · obtain ⟨pd, cl, ns, n, f, fs, new, rfl, _⟩ := h
    rfl
  · obtain ⟨pd, cl, ns, n, f, fs, new, rfl, hP, hn, hF, hG, hN, hk, q⟩ := h
    have hu := hu_of hr
    have hs := szl
    refine ⟨_, PSs.nox (pss_cons (ps_set (i := 4) scstepD.nd rfl (Or.inl rfl) (pe_call c__law_draw.ok (hr.mono (by omega)) (by rfl) c__law_draw.m c__law_draw.kp c__law_draw.b .nil pass0 (pa_cons (pv 0) (pa_cons (pe_int) pa_nil))))
      (pss_cons (ps_set (i := 5) scstepD.nd rfl (Or.inl rfl) (pe_ix Cc.ix_B (pe_ix ix_tup (pv 1) (pe_call c__law_draw.ok (hr.mono (by omega)) (by rfl) c__law_draw.m c__law_draw.kp c__law_draw.b .nil pass0 (pa_cons (pv 0) (pa_cons (pe_callB call_len_seq (by rfl) mb_len (by decide +kernel) (pa_cons (pv 1) pa_nil)) pa_nil))) (fun _ _ => rfl)) (pe_int) (fun _ _ => rfl)))
      (pss_cons (ps_par (i := 6) (j := 7) rfl scstepD.nd rfl rfl (by decide) rfl rfl (pa_cons (pe_call c__law_pick.ok (hr.mono (by omega)) (by rfl) c__law_pick.m c__law_pick.kp c__law_pick.b .nil pass0 (pa_cons (pv 0) (pa_cons (pv 1) (pa_cons (pe_tup (pa_cons (pe_str) (pa_cons (pe_str) pa_nil))) pa_nil)))) (pa_cons (pe_ix ix_list (pe_lst (pa_cons (pe_str) (pa_cons (pe_str) (pa_cons (pe_str) (pa_cons (pe_str) pa_nil))))) (pe_call c__law_draw.ok (hr.mono (by omega)) (by rfl) c__law_draw.m c__law_draw.kp c__law_draw.b .nil pass0 (pa_cons (pv 0) (pa_cons (pe_int) pa_nil))) (fun _ _ => rfl)) pa_nil)) (by rfl))
      (pss_cons (ps_par (i := 8) (j := 9) rfl scstepD.nd rfl rfl (by decide) rfl rfl (pa_cons (pe_call c__law_pick.ok (hr.mono (by omega)) (by rfl) c__law_pick.m c__law_pick.kp c__law_pick.b .nil pass0 (pa_cons (pv 0) (pa_cons (pv 1) (pa_cons (pe_tup (pa_cons (pe_str) (pa_cons (pe_str) pa_nil))) pa_nil)))) (pa_cons (pe_call c__law_pick.ok (hr.mono (by omega)) (by rfl) c__law_pick.m c__law_pick.kp c__law_pick.b .nil pass0 (pa_cons (pv 0) (pa_cons (pv 1) (pa_cons (pe_tup (pa_cons (pe_str) (pa_cons (pe_str) pa_nil))) pa_nil)))) pa_nil)) (by rfl))
      (pss_cons (ps_set (i := 10) scstepD.nd rfl (Or.inl rfl) (pe_ix ix_list (pe_lst (pa_cons (pe_str) (pa_cons (pe_str) pa_nil))) (pe_call c__law_draw.ok (hr.mono (by omega)) (by rfl) c__law_draw.m c__law_draw.kp c__law_draw.b .nil pass0 (pa_cons (pv 0) (pa_cons (pe_int) pa_nil))) (fun _ _ => rfl)))
      (pss_cons (ps_if (PW.pt (pw_and (pt_cmpR op_eq (pv 4) (pe_int) (nomark _)) (pw_and1 (pt_cmpR op_gt (pe_callB call_len_seq (by rfl) mb_len (by decide +kernel) (pa_cons (pv 1) pa_nil)) (pe_int) (nomark _))))) (pss_one (ps_ret (pe_tup (pa_cons (pe_str) (pa_cons (pv 5) pa_nil))))) (pss_nil))
      (pss_cons (ps_if (PW.pt (pw_and (pt_cmpR op_eq (pv 4) (pe_int) (nomark _)) (pw_and1 (pt_cmpR op_notN (pv 6) (pe_non) (nomark _))))) (pss_one (ps_ret (pe_tup (pa_cons (pe_str) (pa_cons (pv 6) (pa_cons (pv 10) (pa_cons (pe_call c__law_rows.ok (hr.mono (by omega)) (by rfl) c__law_rows.m c__law_rows.kp c__law_rows.b .nil pass0 (pa_cons (pv 0) (pa_cons (pe_dget hu (pe_callTy (Nn.call_dictT rfl) (by rfl) mb_dict (by decide +kernel) (pa_cons (pv 1) pa_nil)) (pv 6) (fun _ _ => rfl)) (pa_cons (pv 10) pa_nil)))) (pa_cons (pe_tup (pa_cons (pe_call c__law_value.ok (hr.mono (by omega)) (by rfl) c__law_value.m c__law_value.kp c__law_value.b .nil pass0 (pa_cons (pv 0) (pa_cons (pv 10) pa_nil))) pa_nil)) pa_nil)))))))) (pss_nil))
      (pss_cons (ps_if (PW.pt (pw_or (pt_cmpR op_eq (pv 4) (pe_int) (nomark _)) (pw_or1 (pt_cmpR op_gt (pe_callB call_len_seq (by rfl) mb_len (by decide +kernel) (pa_cons (pv 1) pa_nil)) (pe_int) (nomark _))))) (pss_one (ps_ret (pe_tup (pa_cons (pe_str) (pa_cons (pv 5) (pa_cons (pv 2) pa_nil)))))) (pss_nil))
      (pss_cons (ps_if (PW.pt (pw_and (pt_cmpR op_eq (pv 4) (pe_int) (nomark _)) (pw_and1 (pt_cmpR op_notN (pv 8) (pe_non) (nomark _))))) (pss_one (ps_ret (pe_tup (pa_cons (pe_str) (pa_cons (pv 2) (pa_cons (pe_slice Cc.sl_B (pe_tup (pa_cons (pv 8) (pa_cons (pe_call c__law_pick.ok (hr.mono (by omega)) (by rfl) c__law_pick.m c__law_pick.kp c__law_pick.b .nil pass0 (pa_cons (pv 0) (pa_cons (pv 1) (pa_cons (pe_tup (pa_cons (pe_str) (pa_cons (pe_str) pa_nil))) pa_nil)))) (pa_cons (pv 8) pa_nil)))) po_none (po_some (pe_op op_add (pe_int) (pe_call c__law_draw.ok (hr.mono (by omega)) (by rfl) c__law_draw.m c__law_draw.kp c__law_draw.b .nil pass0 (pa_cons (pv 0) (pa_cons (pe_int) pa_nil)))))) pa_nil)))))) (pss_nil))
      (pss_cons (ps_if (PW.pt (pw_and (pt_cmpR op_eq (pv 4) (pe_int) (nomark _)) (pw_and1 (pt_cmpR op_notN (pv 9) (pe_non) (nomark _))))) (pss_cons (ps_set (i := 11) scstepD.nd rfl (Or.inl rfl) (pe_tup (pa_cons (pe_tup (pa_cons (pe_str) (pa_cons (pe_str) pa_nil))) (pa_cons (pe_tup (pa_cons (pe_str) (pa_cons (pv 9) pa_nil))) (pa_cons (pe_tup (pa_cons (pe_str) (pa_cons (pe_call c__law_value.ok (hr.mono (by omega)) (by rfl) c__law_value.m c__law_value.kp c__law_value.b .nil pass0 (pa_cons (pv 0) (pa_cons (pe_str) pa_nil))) pa_nil))) (pa_cons (pe_tup (pa_cons (pe_str) (pa_cons (pv 9) pa_nil))) (pa_cons (pe_tup (pa_cons (pe_str) (pa_cons (pe_str) pa_nil))) pa_nil)))))))
      (pss_cons (ps_set (i := 11) scstepD.nd rfl (Or.inl rfl) (pe_op Cc.op_catB (pv 11) (pe_tup (pa_cons (pe_tup (pa_cons (pe_str) (pa_cons (pe_call c__law_pick.ok (hr.mono (by omega)) (by rfl) c__law_pick.m c__law_pick.kp c__law_pick.b .nil pass0 (pa_cons (pv 0) (pa_cons (pv 1) (pa_cons (pe_tup (pa_cons (pe_str) (pa_cons (pe_str) pa_nil))) pa_nil)))) pa_nil))) pa_nil))))
      (pss_one (ps_ret (pe_tup (pa_cons (pe_str) (pa_cons (pv 2) (pa_cons (pe_slice Cc.sl_B (pe_slice Cc.sl_B (pv 11) (po_some (pe_call c__law_draw.ok (hr.mono (by omega)) (by rfl) c__law_draw.m c__law_draw.kp c__law_draw.b .nil pass0 (pa_cons (pv 0) (pa_cons (pe_int) pa_nil)))) po_none) po_none (po_some (pe_op op_add (pe_int) (pe_call c__law_draw.ok (hr.mono (by omega)) (by rfl) c__law_draw.m c__law_draw.kp c__law_draw.b .nil pass0 (pa_cons (pv 0) (pa_cons (pe_int) pa_nil)))))) pa_nil)))))))) (pss_nil))
      (pss_cons (ps_if (PW.pt (pw_and (pt_cmpR op_eq (pv 4) (pe_int) (nomark _)) (pw_and (pt_cmpR op_notN (pv 6) (pe_non) (nomark _)) (pw_and1 (pt_cmpR op_gt (pv 3) (pe_int) (nomark _)))))) (pss_cons (ps_set (i := 12) scstepD.nd rfl (Or.inl rfl) (pe_tup (pa_cons (pe_str) (pa_cons (pv 2) (pa_cons (pv 10) (pa_cons (pe_call c__law_value.ok (hr.mono (by omega)) (by rfl) c__law_value.m c__law_value.kp c__law_value.b .nil pass0 (pa_cons (pv 0) (pa_cons (pv 10) pa_nil))) pa_nil))))))
      (pss_cons (ps_set (i := 13) scstepD.nd rfl (Or.inl rfl) (pe_op Cc.op_catB (pe_tup (pa_cons (pe_tup (pa_cons (pe_str) (pa_cons (pv 2) (pa_cons (pv 10) (pa_cons (pe_call c__law_value.ok (hr.mono (by omega)) (by rfl) c__law_value.m c__law_value.kp c__law_value.b .nil pass0 (pa_cons (pv 0) (pa_cons (pv 10) pa_nil))) pa_nil))))) pa_nil)) (pe_call c__law_mods.ok (hr.mono (by omega)) (by rfl) c__law_mods.m c__law_mods.kp c__law_mods.b .nil pass0 (pa_cons (pv 0) (pa_cons (pv 1) (pa_cons (pe_op op_sub (pv 3) (pe_int)) (pa_cons (pe_int) pa_nil)))))))
      (pss_cons (ps_if (pt_cmpR op_eq (pe_call c__law_draw.ok (hr.mono (by omega)) (by rfl) c__law_draw.m c__law_draw.kp c__law_draw.b .nil pass0 (pa_cons (pv 0) (pa_cons (pe_int) pa_nil))) (pe_int) (nomark _)) (pss_cons (ps_set (i := 14) scstepD.nd rfl (Or.inl rfl) (pe_tup (pa_cons (pe_tup (pa_cons (pe_str) (pa_cons (pv 5) (pa_cons (pv 2) pa_nil)))) (pa_cons (pe_tup (pa_cons (pe_str) (pa_cons (pv 5) pa_nil))) (pa_cons (pe_tup (pa_cons (pe_str) (pa_cons (pv 2) (pa_cons (pv 5) pa_nil)))) pa_nil)))))
      (pss_cons (ps_set (i := 15) scstepD.nd rfl (Or.inl rfl) (Ys.pe_stepL (pe_lst (pa_cons (pe_call c__law_mods.ok (hr.mono (by omega)) (by rfl) c__law_mods.m c__law_mods.kp c__law_mods.b .nil pass0 (pa_cons (pv 0) (pa_cons (pv 1) (pa_cons (pe_op op_sub (pv 3) (pe_int)) (pa_cons (pe_int) pa_nil))))) (pa_cons (pv 14) pa_nil))) (po_some (pe_op op_sub (pe_int) (pe_op op_mul (pe_int) (pe_call c__law_draw.ok (hr.mono (by omega)) (by rfl) c__law_draw.m c__law_draw.kp c__law_draw.b .nil pass0 (pa_cons (pv 0) (pa_cons (pe_int) pa_nil))))))))
      (pss_one (ps_ret (pe_tup (pa_cons (pe_str) (pa_cons (pv 6) (pa_cons (pe_call c__law_value.ok (hr.mono (by omega)) (by rfl) c__law_value.m c__law_value.kp c__law_value.b .nil pass0 (pa_cons (pv 0) (pa_cons (pe_dget hu (pe_callTy (Nn.call_dictT rfl) (by rfl) mb_dict (by decide +kernel) (pa_cons (pv 1) pa_nil)) (pv 6) (fun _ _ => rfl)) pa_nil))) (pa_cons (pe_ix ix_list (pv 15) (pe_int) (fun _ _ => rfl)) (pa_cons (pe_ix ix_list (pv 15) (pe_int) (fun _ _ => rfl)) pa_nil)))))))))) (pss_nil))
      (pss_one (ps_ret (pe_tup (pa_cons (pe_str) (pa_cons (pv 6) (pa_cons (pe_call c__law_value.ok (hr.mono (by omega)) (by rfl) c__law_value.m c__law_value.kp c__law_value.b .nil pass0 (pa_cons (pv 0) (pa_cons (pe_dget hu (pe_callTy (Nn.call_dictT rfl) (by rfl) mb_dict (by decide +kernel) (pa_cons (pv 1) pa_nil)) (pv 6) (fun _ _ => rfl)) pa_nil))) (pa_cons (pe_op Cc.op_catB (pe_call c__law_mods.ok (hr.mono (by omega)) (by rfl) c__law_mods.m c__law_mods.kp c__law_mods.b .nil pass0 (pa_cons (pv 0) (pa_cons (pv 1) (pa_cons (pe_op op_sub (pv 3) (pe_int)) (pa_cons (pe_int) pa_nil))))) (pe_tup (pa_cons (pv 12) pa_nil))) (pa_cons (pv 13) pa_nil))))))))))) (pss_nil))
      (pss_one (ps_ret (pe_ifExp (pt_cmpR op_eq (pv 4) (pe_int) (nomark _)) (pe_tup (pa_cons (pe_str) (pa_cons (pv 5) (pa_cons (pv 2) pa_nil)))) (pe_tup (pa_cons (pe_str) (pa_cons (pv 2) (pa_cons (pv 7) (pa_cons (pe_call c__law_value.ok (hr.mono (by omega)) (by rfl) c__law_value.m c__law_value.kp c__law_value.b .nil pass0 (pa_cons (pv 0) (pa_cons (pv 7) pa_nil))) pa_nil))))))))))))))))))), ?_⟩
    obtain ⟨fa, fx0, ef, _⟩ := id hF
    subst ef
    have nam : ∀ x ∈ fs, As x.1 := fun x hx => (hG.ok x hx).1.as
    have g6 := hG.hi
    have glo := hG.lo
    have cs : cS k = 700 + 2 * pM (k - 1) := rfl
    have odd := odd_of hP
    -- way
    refine ⟨_, rfl, pd, cl, ns, 8, _, rfl, hP, by omega, by decide, by decide, fun H1 way f1 P1 w0 w1 => ?_⟩
    -- old
    have F1 := f1
    obtain ⟨_, fx1, e1, hz1, hA1⟩ := hF.frN odd F1
    cases e1
    have lf1 : fx1.length = fs.length := by rw [hA1.len, List.length_map]
    refine ⟨_, rfl, _, rfl, _, rfl, fa, _, rfl, .inr hz1.sq, pd, cl, ns, _, _, rfl, P1, by omega, by omega, by omega, fun H2 ko f2 P2 ko0 ko1 => ?_⟩
    have F2 := F1.trans f2
    obtain ⟨_, fx, e2, hz2, hA2⟩ := hF.frN odd F2
    cases e2
    have lf : fx.length = fs.length := by rw [hA2.len, List.length_map]
    obtain ⟨kn, rfl⟩ := Int.eq_ofNat_of_zero_le ko0
    have hkn : kn < fx.length := by omega
    obtain ⟨dz, hdz, tz, mz⟩ := ThAll.get2 hA2 (List.getElem?_eq_getElem hkn)
    obtain ⟨g, hg2, rfl⟩ : ∃ g, g ∈ fs ∧ fieldD g = dz := by
      obtain ⟨g, hg, e⟩ := List.mem_map.mp mz
      exact ⟨g, hg, e⟩
    obtain ⟨po, ys, eo, hpo, hZ⟩ := tz.asTup
    obtain ⟨y0, y1, rfl, u0, u1⟩ := thAll2 hZ
    obtain rfl := u0.asStr
    obtain rfl := u1.asStr
    obtain ⟨old, so⟩ := g
    have ho : getF fs old = some so := getF_mem hG.nd hg2
    refine ⟨fa, _, _, _, rfl, rfl, hz2.sq, atI_nat (j := kn) (by rw [List.getElem?_eq_getElem hkn, eo]), true, po, _, 0, _, rfl, rfl, hpo, at0, ?_⟩
    -- test, kind
    refine ⟨_, rfl, _, rfl, by show 2 ≤ sizeLine; decide, fun st nst => ?_⟩
    have s2 := newS (o := .tup [V.str "code", V.str "word"]) nst
    refine ⟨pd, cl, ns, _, _, fs, st, testL, rfl, P2.fr (S := []) (fr_same s2) (by simp) (by simp), by omega, (hF.frN odd (F2.trans (fr_same s2))).th, hG.nd, by omega, nam, SqT.of upd_same, fun H3 o1 f3 P3 pk1 => ?_⟩
    have F3 := (F2.trans (fr_same (S := [pd]) s2)).trans f3
    refine ⟨by show 4 ≤ sizeLine; decide, fun lk nlk => ?_⟩
    have s3 := newS (o := .lst ([("code" : Str), "word", "amount", "text"].map V.str)) nlk
    have nlkd : lk ≠ pd := by
      obtain ⟨⟨xa, xb, hd, _⟩, _, _⟩ := id P3
      exact fun z => ne_of_none hd nlk z.symm
    refine ⟨_, rfl, pd, cl, ns, 4, _, rfl, P3.fr (S := []) (fr_same s3) (by simp) (by simp), by omega, by decide, by decide, fun H4 kk f4 P4 kk0 kk1 => ?_⟩
    have F4 := (F3.trans (fr_same (S := [pd]) s3)).trans f4
    obtain ⟨kind, ekk, mkk⟩ := atI_map (f := V.str) (xs := [("code" : Str), "word", "amount", "text"]) kk0 kk1
    have hkind : kind ∈ sorts := (show ∀ z ∈ ([("code" : Str), "word", "amount", "text"]), z ∈ sorts by decide +kernel) kind mkk
    refine ⟨lk, _, kk, _, rfl, rfl, SqL.of (f4 _ _ (by simpa using nlkd) upd_same), ekk, ?_⟩
    refine ⟨_, _, rfl, ?_⟩
    -- number, rope
    refine ⟨_, rfl, _, rfl, by show 2 ≤ sizeLine; decide, fun st4 nst4 => ?_⟩
    have s4 := newS (o := .tup [V.str "code", V.str "amount"]) nst4
    refine ⟨pd, cl, ns, _, _, fs, st4, numsL, rfl, P4.fr (S := []) (fr_same s4) (by simp) (by simp), by omega, (hF.frN odd (F4.trans (fr_same s4))).th, hG.nd, by omega, nam, SqT.of upd_same, fun H5 o2 f5 P5 pk2 => ?_⟩
    have F5 := (F4.trans (fr_same (S := [pd]) s4)).trans f5
    refine ⟨_, rfl, _, rfl, by show 2 ≤ sizeLine; decide, fun st5 nst5 => ?_⟩
    have s5 := newS (o := .tup [V.str "word", V.str "text"]) nst5
    refine ⟨pd, cl, ns, _, _, fs, st5, joinL, rfl, P5.fr (S := []) (fr_same s5) (by simp) (by simp), by omega, (hF.frN odd (F5.trans (fr_same s5))).th, hG.nd, by omega, nam, SqT.of upd_same, fun H6 o3 f6 P6 pk3 => ?_⟩
    have F6 := (F5.trans (fr_same (S := [pd]) s5)).trans f6
    refine ⟨_, _, rfl, ?_⟩
    -- sort
    refine ⟨by show 2 ≤ sizeLine; decide, fun ls nls => ?_⟩
    have s6 := newS (o := .lst (testL.map V.str)) nls
    have nlsd : ls ≠ pd := by
      obtain ⟨⟨xa, xb, hd, _⟩, _, _⟩ := id P6
      exact fun z => ne_of_none hd nls z.symm
    refine ⟨_, rfl, pd, cl, ns, 2, _, rfl, P6.fr (S := []) (fr_same s6) (by simp) (by simp), by omega, by decide, by decide, fun H7 ks f7 P7 ks0 ks1 => ?_⟩
    have F7 := (F6.trans (fr_same (S := [pd]) s6)).trans f7
    obtain ⟨sort, eks, msort⟩ := atI_map (f := V.str) (xs := testL) ks0 ks1
    refine ⟨ls, _, ks, _, rfl, rfl, SqL.of (f7 _ _ (by simpa using nlsd) upd_same), eks, ?_⟩
    have hF7 := hF.frN odd F7
    obtain ⟨_, fx7, e7, hz7, hA7⟩ := id hF7
    cases e7
    have lf7 : fx7.length = fs.length := by rw [hA7.len, List.length_map]
    have odd7 := odd_of P7
    have mso := test_sorts msort
    clear F1 F2 F3 F4 F5 F6 s2 s3 s4 s5 s6 f1 f2 f3 f4 f5 f6 f7
    have P7 := P7.mono (show n + 1 + 1 + 1 + 1 + 1 + 1 + 1 ≤ n + 7 by omega)
    refine ⟨_, rfl, rfl, _, rfl, ?_⟩
    refine and_q (fun k hk => ⟨_, rfl, fa, _, rfl, .inr hz7.sq, _, _, rfl, rfl, _, rfl, hk⟩) (fun e1 e1b => ?_) (fun e1 => ?_)
    · -- drop
      have l3 := of_decide_eq_true e1b
      refine ⟨_, rfl, by show 2 ≤ sizeLine; decide, fun T nT => ?_⟩
      have sT := newS (o := .tup [V.str "drop", V.str old]) nT
      exact q _ T _ _ (F7.trans (fr_same sT)) ((P7.fr (S := []) (fr_same sT) (by simp) (by simp)).mono (by omega)) (.tup (SqT.of upd_same) (.cons (.str _) (.cons (.str _) .nil))) (stD_drop hG ho (by omega))
    refine ⟨_, rfl, rfl, _, rfl, ?_⟩
    refine and_q (fun k hk => ⟨_, rfl, rfl, _, rfl, hk⟩) (fun e2 e2b => ?_) (fun e2 => ?_)
    · -- table
      obtain ⟨t, rfl⟩ := some_of e2b
      obtain ⟨s1, hs1, ms1⟩ := pk1
      obtain ⟨ps, rfl, hps⟩ := refs_of hA7
      refine ⟨_, rfl, _, rfl, _, rfl, _, rfl, fa, ps, kvsOf fs, rfl, hz7, hps, fun p np => ?_⟩
      have sp := newS (o := .dK (mergeK [] (kvsOf fs))) np
      have g := DGet.k (k := Sum.inr t) (upd_same (H := H7) (a := p) (o := .dK (mergeK [] (kvsOf fs))))
      rw [show mergeK [] (kvsOf fs) = kvsOf fs from merge_of fs [] hG.nd] at g
      rw [val_of, hs1] at g
      rw [show mergeK [] (kvsOf fs) = kvsOf fs from merge_of fs [] hG.nd] at sp ⊢
      refine ⟨_, rfl, p, .str s1, rfl, g, _, rfl, pd, cl, ns, _, s1, sort, rfl, P7.fr (S := []) (fr_same sp) (by simp) (by simp), by omega, ms1, mso, fun H9 qr rs f9 P9 gr t9 => ?_⟩
      refine ⟨_, rfl, _, rfl, pd, cl, ns, _, sort, rfl, P9, by omega, mso, fun H10 Dv f10 P10 pl10 of10 => ⟨by show 1 ≤ sizeLine; decide, fun T0 nT0 => ⟨by show 5 ≤ sizeLine; decide, fun T nT => ?_⟩⟩⟩
      have t0 := newS (o := .tup [vOf Dv]) nT0
      have tT := newS (o := .tup [V.str "table", V.str t, V.str sort, V.ref qr, V.ref T0]) nT
      have ss := t0.trans tT
      exact q _ T _ _ ((((F7.trans (fr_same sp)).trans f9).trans f10).trans (fr_same ss)) ((P10.fr (S := []) (fr_same ss) (by simp) (by simp)).mono (by omega)) (.tup (SqT.of upd_same) (.cons (.str _) (.cons (.str _) (.cons (.str _) (.cons ((t9.frN (rows_pu gr) (odd_of P9) f10).kept (kept_same ss)) (.cons (.tup (SqT.of (tT _ _ upd_same)) (.cons (th_vOf pl10) .nil)) .nil)))))) (stD_table hG hs1 ms1 msort gr pl10 of10)
    refine ⟨_, rfl, rfl, _, rfl, ?_⟩
    refine or_q (fun k hk => ⟨_, rfl, fa, _, rfl, .inr hz7.sq, _, _, rfl, rfl, _, rfl, hk⟩) (fun e3 => ?_) (fun e3 e3b => ?_)
    · -- rename
      refine ⟨_, rfl, _, rfl, by show 3 ≤ sizeLine; decide, fun T nT => ?_⟩
      have sT := newS (o := .tup [V.str "rename", V.str old, V.str new]) nT
      exact q _ T _ _ (F7.trans (fr_same sT)) ((P7.fr (S := []) (fr_same sT) (by simp) (by simp)).mono (by omega)) (.tup (SqT.of upd_same) (.cons (.str _) (.cons (.str _) (.cons (.str _) .nil)))) (stD_rename hG ho hN)
    have h5 : fs.length ≤ 5 := by
      have := of_decide_eq_false e3b
      omega
    refine ⟨_, rfl, rfl, _, rfl, ?_⟩
    refine and_q (fun k hk => ⟨_, rfl, rfl, _, rfl, hk⟩) (fun e4 e4b => ?_) (fun e4 => ?_)
    · -- sum
      obtain ⟨z, rfl⟩ := some_of e4b
      obtain ⟨s2, hs2, ms2⟩ := pk2
      refine ⟨_, rfl, _, rfl, _, rfl, _, rfl, by show 2 ≤ sizeLine; decide, fun st nst => ?_⟩
      have s8 := newS (o := .tup [V.str "code", V.str "amount"]) nst
      refine ⟨pd, cl, ns, _, _, fs, st, numsL, rfl, P7.fr (S := []) (fr_same s8) (by simp) (by simp), by omega, (hF7.frN odd7 (fr_same s8)).th, hG.nd, by omega, nam, SqT.of upd_same, fun H8 o4 f8 P8 pk4 => ?_⟩
      obtain ⟨z4, s4, rfl, hs4, ms4⟩ := pick_some pk4 hs2 ms2
      refine ⟨_, rfl, by show 3 ≤ sizeLine; decide, fun Tq nTq => ?_⟩
      have sq := newS (o := .tup [V.str z, V.str z4, V.str z]) nTq
      have P8b := P8.fr (S := []) (fr_same sq) (by simp) (by simp)
      refine ⟨_, rfl, pd, cl, ns, 3, _, rfl, P8b, by omega, by decide, by decide, fun H9 kd f9 P9 d0 d1 => ?_⟩
      obtain ⟨kd, rfl⟩ := Int.eq_ofNat_of_zero_le d0
      have nTd : Tq ≠ pd := by
        obtain ⟨⟨xa, xb, hd, _⟩, _, _⟩ := id P8
        exact fun z => ne_of_none hd nTq z.symm
      have hx : SqT K H9 Tq [V.str z, V.str z4, V.str z] := SqT.of (f9 _ _ (by simpa using nTd) upd_same)
      refine ⟨_, _, rfl, rfl, _, rfl, true, Tq, _, rfl, hx, fun p H' s' hp => ⟨by show 3 ≤ sizeLine; decide, fun T nT => ?_⟩⟩
      have sT := newS (o := .tup [V.str "sum", V.str new, V.ref p]) nT
      rw [show (1 : Int) + (kd : Int) = ((1 + kd : Nat) : Int) by omega, cutV_take] at hp
      have hA : ThAll K H' ([V.str z, V.str z4, V.str z].take (1 + kd)) ([PyData.str z, .str z4, .str z].take (1 + kd)) := thTake _ (.cons (.str _) (.cons (.str _) (.cons (.str _) .nil)))
      have ln : ([PyData.str z, .str z4, .str z].take (1 + kd)).length = min (1 + kd) 3 := List.length_take
      exact q _ T _ _ (((((F7.trans (fr_same s8)).trans f8).trans (fr_same sq)).trans f9).trans (fr_same (s'.trans sT))) ((P9.fr (S := []) (fr_same (s'.trans sT)) (by simp) (by simp)).mono (by omega)) (.tup (SqT.of upd_same) (.cons (.str _) (.cons (.str _) (.cons ((Th.tup hp hA).kept (kept_same sT)) .nil)))) (stD_sum hG hN h5 (by omega) (by omega) fun d hd => by
        have := List.mem_of_mem_take hd
        exact ac (P := fun d => ∃ n s, d = .str n ∧ getF fs n = some s ∧ s ∈ numsL) ⟨z, s2, rfl, hs2, ms2⟩ (ac ⟨z4, s4, rfl, hs4, ms4⟩ (ac ⟨z, s2, rfl, hs2, ms2⟩ an)) d this)
    refine ⟨_, rfl, rfl, _, rfl, ?_⟩
    refine and_q (fun k hk => ⟨_, rfl, rfl, _, rfl, hk⟩) (fun e5 e5b => ?_) (fun e5 => ?_)
    · -- join
      obtain ⟨rope, rfl⟩ := some_of e5b
      obtain ⟨s3, hs3, ms3⟩ := pk3
      have pf := part_field hG hs3 ms3
      have pa : PartD fs (.tuple [.str "say", .str "a-"]) := part_say (by decide +kernel) (by decide +kernel) (as_lit (by decide +kernel))
      have p7 : PartD fs (.tuple [.str "say", .str "7"]) := part_say (by decide +kernel) (by decide +kernel) (as_lit (by decide +kernel))
      refine ⟨by show 2 ≤ sizeLine; decide, fun T1 n1 => ⟨_, rfl, by show 2 ≤ sizeLine; decide, fun T2 n2 => ?_⟩⟩
      have t1 := newS (o := .tup [V.str "say", V.str "a-"]) n1
      have t2 := newS (o := .tup [V.str "field", V.str rope]) n2
      refine ⟨_, rfl, pd, cl, ns, _, "word", rfl, P7.fr (S := []) (fr_same (t1.trans t2)) (by simp) (by simp), by omega, by decide +kernel, fun H8 Dw f8 P8 plw ofw => ⟨by show 2 ≤ sizeLine; decide, fun T3 n3 => ⟨_, rfl, by show 2 ≤ sizeLine; decide, fun T4 n4 => ⟨by show 2 ≤ sizeLine; decide, fun T5 n5 => ⟨by show 5 ≤ sizeLine; decide, fun TP nTP => ?_⟩⟩⟩⟩⟩
      obtain ⟨w, rfl, lw, w1, w8⟩ := of_word_is ofw
      have pw : PartD fs (.tuple [.str "say", .str w]) := part_say (low_say lw w1 (by omega)) (by omega) lw.as
      have t3 := newS (o := .tup [V.str "say", V.str w]) n3
      have t4 := newS (o := .tup [V.str "field", V.str rope]) n4
      have t5 := newS (o := .tup [V.str "say", V.str "7"]) n5
      have tP := newS (o := .tup [V.ref T1, V.ref T2, V.ref T3, V.ref T4, V.ref T5]) nTP
      have u1 : Th K H8 (.ref T1) (.tuple [.str "say", .str "a-"]) := (Th.tup (SqT.of (t2 _ _ upd_same)) (.cons (.str _) (.cons (.str _) .nil))).frN pa.pu (odd_of (P7.fr (S := []) (fr_same (t1.trans t2)) (by simp) (by simp))) f8
      have u2 : Th K H8 (.ref T2) (.tuple [.str "field", .str rope]) := (Th.tup (SqT.of upd_same) (.cons (.str _) (.cons (.str _) .nil))).frN pf.pu (odd_of (P7.fr (S := []) (fr_same (t1.trans t2)) (by simp) (by simp))) f8
      have F8 := (F7.trans (fr_same (S := [pd]) (t1.trans t2))).trans f8
      have s35 := ((t3.trans t4).trans t5).trans tP
      have u3 := t4.trans (t5.trans tP)
      have tP5 : Th K (upd (upd (upd (upd H8 T3 (.tup [V.str "say", V.str w])) T4 (.tup [V.str "field", V.str rope])) T5 (.tup [V.str "say", V.str "7"])) TP (.tup [V.ref T1, V.ref T2, V.ref T3, V.ref T4, V.ref T5])) (.ref TP) (.tuple [.tuple [.str "say", .str "a-"], .tuple [.str "field", .str rope], .tuple [.str "say", .str w], .tuple [.str "field", .str rope], .tuple [.str "say", .str "7"]]) :=
        .tup (SqT.of upd_same) (.cons (u1.kept (kept_same s35)) (.cons (u2.kept (kept_same s35)) (.cons (.tup (SqT.of (u3 _ _ upd_same)) (.cons (.str _) (.cons (.str _) .nil))) (.cons (.tup (SqT.of ((t5.trans tP) _ _ upd_same)) (.cons (.str _) (.cons (.str _) .nil))) (.cons (.tup (SqT.of (tP _ _ upd_same)) (.cons (.str _) (.cons (.str _) .nil))) .nil)))))
      have P9 := P8.fr (S := []) (fr_same s35) (by simp) (by simp)
      have F9 := F8.trans (fr_same (S := [pd]) s35)
      have pu5 : Pu false (.tuple [.tuple [.str "say", .str "a-"], .tuple [.str "field", .str rope], .tuple [.str "say", .str w], .tuple [.str "field", .str rope], .tuple [.str "say", .str "7"]]) := .tup (ac pa.pu (ac pf.pu (ac pw.pu (ac pf.pu (ac p7.pu an)))))
      -- one part more
      refine ⟨_, rfl, _, rfl, _, rfl, by show 2 ≤ sizeLine; decide, fun st nst => ?_⟩
      have s9 := newS (o := .tup [V.str "word", V.str "text"]) nst
      refine ⟨pd, cl, ns, _, _, fs, st, joinL, rfl, P9.fr (S := []) (fr_same s9) (by simp) (by simp), by omega, (hF.frN odd (F9.trans (fr_same s9))).th, hG.nd, by omega, nam, SqT.of upd_same, fun H10 o5 f10 P10 pk5 => ?_⟩
      obtain ⟨z5, s5, rfl, hs5, ms5⟩ := pick_some pk5 hs3 ms3
      have pz := part_field hG hs5 ms5
      have F10 := (F9.trans (fr_same (S := [pd]) s9)).trans f10
      have tP10 := (tP5.frN pu5 (odd_of P9) (fr_same s9)).frN pu5 (odd_of (P9.fr (S := []) (fr_same s9) (by simp) (by simp))) f10
      refine ⟨by show 2 ≤ sizeLine; decide, fun T6 n6 => ⟨by show 1 ≤ sizeLine; decide, fun TQ nTQ => ?_⟩⟩
      have t6 := newS (o := .tup [V.str "field", V.str z5]) n6
      have tQ := newS (o := .tup [V.ref T6]) nTQ
      obtain ⟨_, xp, ep, hxp, hAp⟩ := (tP10.kept (kept_same (t6.trans tQ))).asTup
      cases ep
      have lxp := hAp.len
      refine ⟨true, TP, TQ, _, _, rfl, rfl, hxp, (show SqT K _ _ _ from SqT.of upd_same), by rw [lxp]; show 5 + 1 ≤ sizeLine; decide, fun pp H11 s11 hpp => ?_⟩
      have tA11 : Th K H11 (.ref pp) (.tuple ([.tuple [.str "say", .str "a-"], .tuple [.str "field", .str rope], .tuple [.str "say", .str w], .tuple [.str "field", .str rope], .tuple [.str "say", .str "7"]] ++ [.tuple [.str "field", .str z5]])) :=
        .tup hpp ((hAp.app (.cons (.tup (SqT.of (tQ _ _ upd_same)) (.cons (.str _) (.cons (.str _) .nil))) .nil)).kept (kept_same s11))
      have P11 := P10.fr (S := []) (fr_same ((t6.trans tQ).trans s11)) (by simp) (by simp)
      have F11 := F10.trans (fr_same (S := [pd]) ((t6.trans tQ).trans s11))
      have parts : ∀ d ∈ ([.tuple [.str "say", .str "a-"], .tuple [.str "field", .str rope], .tuple [.str "say", .str w], .tuple [.str "field", .str rope], .tuple [.str "say", .str "7"]] ++ [.tuple [.str "field", .str z5]] : List PyData), PartD fs d := ac pa (ac pf (ac pw (ac pf (ac p7 (ac pz an)))))
      have lps : ([.tuple [.str "say", .str "a-"], .tuple [.str "field", .str rope], .tuple [.str "say", .str w], .tuple [.str "field", .str rope], .tuple [.str "say", .str "7"]] ++ [.tuple [.str "field", .str z5]] : List PyData).length = 6 := rfl
      have lsum : ∀ L, (([.tuple [.str "say", .str "a-"], .tuple [.str "field", .str rope], .tuple [.str "say", .str w], .tuple [.str "field", .str rope], .tuple [.str "say", .str "7"]] ++ [.tuple [.str "field", .str z5]] : List PyData).map (partLen L)).sum ≤ 3 * L + 36 := fun L => by
        show 12 + (L + (12 + (L + (12 + (L + 0))))) ≤ 3 * L + 36
        omega
      generalize ([.tuple [.str "say", .str "a-"], .tuple [.str "field", .str rope], .tuple [.str "say", .str w], .tuple [.str "field", .str rope], .tuple [.str "say", .str "7"]] ++ [.tuple [.str "field", .str z5]] : List PyData) = ps6 at tA11 parts lps lsum ⊢
      have pu6 : Pu false (.tuple ps6) := .tup fun d hd => (parts d hd).pu
      refine ⟨_, rfl, _, rfl, _, rfl, pd, cl, ns, 3, _, rfl, P11, by omega, by decide, by decide, fun H12 ka f12 P12 a0 a1 => ?_⟩
      obtain ⟨ka, rfl⟩ := Int.eq_ofNat_of_zero_le a0
      obtain ⟨_, x6, e6, hx6, hA6⟩ := (tA11.frN pu6 (odd_of P11) f12).asTup
      cases e6
      refine ⟨_, rfl, true, pp, _, rfl, hx6, fun pq H13 s13 hpq => ?_⟩
      rw [cutV_drop] at hpq
      have tA13 : Th K H13 (.ref pq) (.tuple (ps6.drop ka)) := .tup hpq ((thDrop ka hA6).kept (kept_same s13))
      have pu13 : Pu false (.tuple (ps6.drop ka)) := .tup fun d hd => (parts d (List.mem_of_mem_drop hd)).pu
      have P13 := P12.fr (S := []) (fr_same s13) (by simp) (by simp)
      refine ⟨_, rfl, pd, cl, ns, 6, _, rfl, P13, by omega, by decide, by decide, fun H14 kb f14 P14 b0 b1 => ?_⟩
      obtain ⟨kb, rfl⟩ := Int.eq_ofNat_of_zero_le b0
      obtain ⟨_, x7, e7, hx7, hA7b⟩ := (tA13.frN pu13 (odd_of P13) f14).asTup
      cases e7
      refine ⟨_, _, rfl, rfl, _, rfl, true, pq, _, rfl, hx7, fun pr H15 s15 hpr => ⟨by show 3 ≤ sizeLine; decide, fun T nT => ?_⟩⟩
      rw [show (1 : Int) + (kb : Int) = ((1 + kb : Nat) : Int) by omega, cutV_take] at hpr
      have sT := newS (o := .tup [V.str "join", V.str new, V.ref pr]) nT
      have ln : ((ps6.drop ka).take (1 + kb)).length = min (1 + kb) (6 - ka) := by rw [List.length_take, List.length_drop, lps]
      exact q _ T _ _ ((((F11.trans f12).trans (fr_same s13)).trans f14).trans (fr_same (s15.trans sT))) ((P14.fr (S := []) (fr_same (s15.trans sT)) (by simp) (by simp)).mono (by omega)) (.tup (SqT.of upd_same) (.cons (.str _) (.cons (.str _) (.cons ((Th.tup hpr ((thTake _ hA7b).kept (kept_same s15))).kept (kept_same sT)) .nil)))) (stD_join hG hN h5 (by omega) (by omega) (fun d hd => parts d (List.mem_of_mem_drop (List.mem_of_mem_take hd))) fun L => Nat.le_trans (sum_sub (f := partLen L) ((List.take_sublist _ _).trans (List.drop_sublist _ _))) (lsum L))
    refine ⟨_, rfl, rfl, _, rfl, ?_⟩
    refine and_q (fun k hk => and_p (fun k hk => ⟨_, rfl, rfl, _, rfl, hk⟩) (fun k hk => ⟨_, rfl, _, _, rfl, rfl, _, rfl, hk⟩) hk) (fun e6 e6b => ?_) (fun e6 => ?_)
    · -- case
      rw [Bool.and_eq_true] at e6b
      obtain ⟨t, rfl⟩ := some_of e6b.1
      obtain ⟨s1, hs1, ms1⟩ := pk1
      have ms1s := test_sorts ms1
      have kpos := of_decide_eq_true e6b.2
      obtain ⟨kk, rfl⟩ : ∃ kk, k = kk + 1 := ⟨k - 1, by omega⟩
      rw [show kk + 1 - 1 = kk from rfl] at cs
      have ek : ((kk + 1 : Nat) : Int) - 1 = (kk : Nat) := by omega
      have hk2 : kk ≤ 2 := by omega
      -- put
      refine ⟨_, rfl, _, rfl, _, rfl, _, rfl, pd, cl, ns, _, sort, rfl, P7, by omega, mso, fun H8 Dp f8 P8 plp ofp => ⟨by show 4 ≤ sizeLine; decide, fun Tp nTp => ?_⟩⟩
      have sp := newS (o := .tup [V.str "put", V.str new, V.str sort, vOf Dp]) nTp
      have tp8 : Th K (upd H8 Tp (.tup [V.str "put", V.str new, V.str sort, vOf Dp])) (.ref Tp) (.tuple [.str "put", .str new, .str sort, Dp]) := .tup (SqT.of upd_same) (.cons (.str _) (.cons (.str _) (.cons (.str _) (.cons (th_vOf plp) .nil))))
      have P8b := P8.fr (S := []) (fr_same sp) (by simp) (by simp)
      have F8 := (F7.trans f8).trans (fr_same (S := [pd]) sp)
      generalize (upd H8 Tp (.tup [V.str "put", V.str new, V.str sort, vOf Dp])) = H8b at tp8 P8b F8 ⊢
      have pup : Pu false (.tuple [.str "put", .str new, .str sort, Dp]) := put_pu plp
      -- no
      refine ⟨_, rfl, _, rfl, _, rfl, _, rfl, pd, cl, ns, _, sort, rfl, P8b, by omega, mso, fun H9 Dn f9 P9 pln ofn => ⟨by show 4 ≤ sizeLine; decide, fun Tn nTn => ⟨by show 1 ≤ sizeLine; decide, fun Tl nTl => ?_⟩⟩⟩
      have sn := newS (o := .tup [V.str "put", V.str new, V.str sort, vOf Dn]) nTn
      have sl := newS (o := .tup [V.ref Tn]) nTl
      have tl9 : Th K (upd (upd H9 Tn (.tup [V.str "put", V.str new, V.str sort, vOf Dn])) Tl (.tup [V.ref Tn])) (.ref Tl) (.tuple [.tuple [.str "put", .str new, .str sort, Dn]]) := .tup (SqT.of upd_same) (.cons (.tup (SqT.of (sl _ _ upd_same)) (.cons (.str _) (.cons (.str _) (.cons (.str _) (.cons (th_vOf pln) .nil))))) .nil)
      have P9b := P9.fr (S := []) (fr_same (sn.trans sl)) (by simp) (by simp)
      have F9 := (F8.trans f9).trans (fr_same (S := [pd]) (sn.trans sl))
      have tp9 := (tp8.frN pup (odd_of P8b) f9).kept (kept_same (sn.trans sl))
      generalize (upd (upd H9 Tn (.tup [V.str "put", V.str new, V.str sort, vOf Dn])) Tl (.tup [V.ref Tn])) = H9b at tl9 P9b F9 tp9 ⊢
      have pul : Pu false (.tuple [.tuple [.str "put", .str new, .str sort, Dn]]) := .tup (ac (put_pu pln) an)
      refine ⟨_, rfl, _, rfl, _, rfl, _, _, rfl, rfl, kk, rfl, pd, cl, ns, _, _, fs, 4, congrArg (fun z : Int => [V.ref pd, V.ref fa, V.int z, V.int 4]) ek, P9b, by omega, hF.frN odd F9, hG, by omega, by omega, fun H10 na nn f10 P10 t10 l10 m10 => ?_⟩
      have puN : Pu false (.tuple nn) := .tup fun d hd => (m10 d hd).pu
      obtain ⟨_, xl, el, hxl, hAl⟩ := (tl9.frN pul (odd_of P9b) f10).asTup
      cases el
      obtain ⟨_, xn, en, hxn, hAn⟩ := t10.asTup
      cases en
      have lxl := hAl.len
      have lxn := hAn.len
      refine ⟨true, Tl, na, _, _, rfl, rfl, hxl, hxn, by rw [lxl, lxn]; show 1 + nn.length ≤ sizeLine; omega, fun pno H11 s11 hno => ?_⟩
      have tno : Th K H11 (.ref pno) (.tuple ([.tuple [.str "put", .str new, .str sort, Dn]] ++ nn)) := .tup hno ((hAl.app hAn).kept (kept_same s11))
      have halfN := half_no hG hN hk2 (fun d hd => m10 d hd) l10 mso pln ofn
      have puno : Pu false (.tuple ([.tuple [.str "put", .str new, .str sort, Dn]] ++ nn)) := .tup halfN.pu
      have P11 := P10.fr (S := []) (fr_same s11) (by simp) (by simp)
      have F11 := (F9.trans f10).trans (fr_same (S := [pd]) s11)
      have tp11 := (tp9.frN pup (odd_of P9b) f10).kept (kept_same s11)
      -- which
      refine ⟨_, rfl, pd, cl, ns, 2, _, rfl, P11, by omega, by decide, by decide, fun H12 wb f12 P12 wb0 wb1 => ⟨rfl, _, rfl, ite2 (fun e => ?_) (fun e => ?_)⟩⟩
      · -- the last
        refine ⟨_, rfl, _, rfl, by show 3 ≤ sizeLine; decide, fun L1 nL1 => ⟨_, rfl, by show 2 ≤ sizeLine; decide, fun L2 nL2 => ⟨_, rfl, _, rfl, by show 3 ≤ sizeLine; decide, fun L3 nL3 => ⟨by show 3 ≤ sizeLine; decide, fun LL nLL => ?_⟩⟩⟩⟩
        have i1 := newS (o := .tup [V.str "copy", V.str old, V.str new]) nL1
        have i2 := newS (o := .tup [V.str "drop", V.str old]) nL2
        have i3 := newS (o := .tup [V.str "rename", V.str new, V.str old]) nL3
        have i4 := newS (o := .tup [V.ref L1, V.ref L2, V.ref L3]) nLL
        have ii := ((i1.trans i2).trans i3).trans i4
        have tlast : Th K (upd (upd (upd (upd H12 L1 (.tup [V.str "copy", V.str old, V.str new])) L2 (.tup [V.str "drop", V.str old])) L3 (.tup [V.str "rename", V.str new, V.str old])) LL (.tup [V.ref L1, V.ref L2, V.ref L3])) (.ref LL) (.tuple [.tuple [.str "copy", .str old, .str new], .tuple [.str "drop", .str old], .tuple [.str "rename", .str new, .str old]]) :=
          .tup (SqT.of upd_same) (.cons (.tup (SqT.of ((i2.trans (i3.trans i4)) _ _ upd_same)) (.cons (.str _) (.cons (.str _) (.cons (.str _) .nil)))) (.cons (.tup (SqT.of ((i3.trans i4) _ _ upd_same)) (.cons (.str _) (.cons (.str _) .nil))) (.cons (.tup (SqT.of (i4 _ _ upd_same)) (.cons (.str _) (.cons (.str _) (.cons (.str _) .nil)))) .nil)))
        have P13 := P12.fr (S := []) (fr_same ii) (by simp) (by simp)
        have F13 := (F11.trans f12).trans (fr_same (S := [pd]) ii)
        have tno13 := (tno.frN puno (odd_of P11) f12).kept (kept_same ii)
        generalize (upd (upd (upd (upd H12 L1 (.tup [V.str "copy", V.str old, V.str new])) L2 (.tup [V.str "drop", V.str old])) L3 (.tup [V.str "rename", V.str new, V.str old])) LL (.tup [V.ref L1, V.ref L2, V.ref L3])) = H13 at tlast P13 F13 tno13 ⊢
        have halfL := half_last hG ho hN
        have pula : Pu false (.tuple [.tuple [.str "copy", .str old, .str new], .tuple [.str "drop", .str old], .tuple [.str "rename", .str new, .str old]]) := .tup halfL.pu
        refine ⟨_, rfl, _, rfl, _, rfl, _, _, rfl, rfl, kk, rfl, pd, cl, ns, _, _, fs, 4, congrArg (fun z : Int => [V.ref pd, V.ref fa, V.int z, V.int 4]) ek, P13, by omega, hF.frN odd F13, hG, by omega, by omega, fun H14 ma mm f14 P14 t14 l14 m14 => ?_⟩
        have puM : Pu false (.tuple mm) := .tup fun d hd => (m14 d hd).pu
        have halfM := half_mods hG hk2 (fun d hd => m14 d hd) l14
        refine ⟨_, rfl, by show 2 ≤ sizeLine; decide, fun LS nLS => ?_⟩
        have j1 := newS (o := .lst [V.ref ma, V.ref LL]) nLS
        have P14b := P14.fr (S := []) (fr_same j1) (by simp) (by simp)
        have nLSd : LS ≠ pd := by
          obtain ⟨⟨xa, xb, hd, _⟩, _, _⟩ := id P14
          exact fun z => ne_of_none hd nLS z.symm
        refine ⟨_, rfl, pd, cl, ns, 2, _, rfl, P14b, by omega, by decide, by decide, fun H15 j f15 P15 j0 j1' => ?_⟩
        have tm15 := (t14.kept (kept_same j1)).frN puM (odd_of P14b) f15
        have tl15 := ((tlast.frN pula (odd_of P13) f14).kept (kept_same j1)).frN pula (odd_of P14b) f15
        have tno15 := ((tno13.frN puno (odd_of P13) f14).kept (kept_same j1)).frN puno (odd_of P14b) f15
        have F15 := ((F13.trans f14).trans (fr_same (S := [pd]) j1)).trans f15
        have hLS15 : H15 LS = some (.lst [V.ref ma, V.ref LL]) := f15 _ _ (by simpa using nLSd) upd_same
        refine ⟨_, _, rfl, rfl, .inl (by decide), _, _, rfl, rfl, _, rfl, LS, _, _, rfl, rfl, by omega, SqL.of hLS15, fun ps nps => ?_⟩
        obtain ⟨xa, xb, exs, yd, zd, gs, gn, ty, tz, hy, hz, ee, gg, nm⟩ : ∃ xa xb, (if (1 : Int) - 2 * j = 1 then [V.ref ma, V.ref LL] else [V.ref ma, V.ref LL].reverse) = [xa, xb] ∧ ∃ yd zd gs gn, Th K H15 xa (.tuple yd) ∧ Th K H15 xb (.tuple zd) ∧ Half fs yd gs ∧ Half fs zd gn ∧ eqF gs gn = true ∧ GoodF gs ∧ ∀ z ∈ gs.map Prod.fst, z = new ∨ z ∈ fs.map Prod.fst := by
          rcases (show j = 0 ∨ j = 1 by omega) with rfl | rfl
          · exact ⟨_, _, rfl, mm, _, fs, lastF fs old so, tm15, tl15, halfM, halfL, eqF_of (last_len hG.nd ho).symm hG.nd (last_get ho), hG, fun z hz => .inr hz⟩
          · exact ⟨_, _, rfl, _, mm, lastF fs old so, fs, tl15, tm15, halfL, halfM, eqF_of (last_len hG.nd ho) (last_good hG ho).nd fun m => (last_get ho m).symm, last_good hG ho, nm_last ho⟩
        rw [exs]
        have jp := newS (o := .lst [xa, xb]) nps
        have P16 := P15.fr (S := []) (fr_same jp) (by simp) (by simp)
        have F16 := F15.trans (fr_same (S := [pd]) jp)
        have tno16 := tno15.kept (kept_same jp)
        have ty16 := ty.kept (kept_same jp)
        have tz16 := tz.kept (kept_same jp)
        have hps16 := upd_same (H := H15) (a := ps) (o := .lst [xa, xb])
        have nps_ : ps ≠ pd := by
          obtain ⟨⟨xa, xb, hd, _⟩, _, _⟩ := id P15
          exact fun z => ne_of_none hd nps z.symm
        generalize (upd H15 ps (.lst [xa, xb])) = H16 at P16 F16 tno16 ty16 tz16 hps16 ⊢
        have puy : Pu false (.tuple yd) := .tup hy.pu
        have puz : Pu false (.tuple zd) := .tup hz.pu
        obtain ⟨_, fx16, e16, hz16, hA16⟩ := hF.frN odd F16
        cases e16
        obtain ⟨pps, rfl, hpps⟩ := refs_of hA16
        refine ⟨_, rfl, _, rfl, _, rfl, fa, pps, kvsOf fs, rfl, hz16, hpps, fun p np => ?_⟩
        have sp16 := newS (o := .dK (mergeK [] (kvsOf fs))) np
        have g := DGet.k (k := Sum.inr t) (upd_same (H := H16) (a := p) (o := .dK (mergeK [] (kvsOf fs))))
        rw [show mergeK [] (kvsOf fs) = kvsOf fs from merge_of fs [] hG.nd] at g
        rw [val_of, hs1] at g
        rw [show mergeK [] (kvsOf fs) = kvsOf fs from merge_of fs [] hG.nd] at sp16 ⊢
        refine ⟨_, rfl, p, .str s1, rfl, g, pd, cl, ns, _, s1, rfl, P16.fr (S := []) (fr_same sp16) (by simp) (by simp), by omega, ms1s, fun H17 Dv f17 P17 pl17 of17 => ?_⟩
        have odd16 := odd_of (P16.fr (S := []) (fr_same sp16) (by simp) (by simp))
        have hps17 : H17 ps = some (.lst [xa, xb]) := f17 _ _ (by simpa using nps_) (sp16 _ _ hps16)
        refine ⟨_, rfl, ps, _, 0, _, rfl, rfl, SqL.of hps17, at0, _, rfl, ps, _, 1, _, rfl, rfl, SqL.of hps17, rfl, by show 5 ≤ sizeLine; decide, fun T nT => ?_⟩
        have sT := newS (o := .tup [V.str "case", V.str t, vOf Dv, xa, xb]) nT
        exact q _ T _ _ (((F16.trans (fr_same sp16)).trans f17).trans (fr_same sT)) ((P17.fr (S := []) (fr_same sT) (by simp) (by simp)).mono (by omega)) (.tup (SqT.of upd_same) (.cons (.str _) (.cons (.str _) (.cons (th_vOf pl17) (.cons (((ty16.kept (kept_same sp16)).frN puy odd16 f17).kept (kept_same sT)) (.cons (((tz16.kept (kept_same sp16)).frN puz odd16 f17).kept (kept_same sT)) .nil)))))) (stD_case hG hs1 ms1 pl17 of17 hy hz ee gg nm)
      · -- the other
        have F12 := F11.trans f12
        have tno12 := tno.frN puno (odd_of P11) f12
        have tp12 := tp11.frN pup (odd_of P11) f12
        obtain ⟨_, fx16, e16, hz16, hA16⟩ := hF.frN odd F12
        cases e16
        obtain ⟨pps, rfl, hpps⟩ := refs_of hA16
        refine ⟨_, rfl, _, rfl, _, rfl, fa, pps, kvsOf fs, rfl, hz16, hpps, fun p np => ?_⟩
        have sp16 := newS (o := .dK (mergeK [] (kvsOf fs))) np
        have g := DGet.k (k := Sum.inr t) (upd_same (H := H12) (a := p) (o := .dK (mergeK [] (kvsOf fs))))
        rw [show mergeK [] (kvsOf fs) = kvsOf fs from merge_of fs [] hG.nd] at g
        rw [val_of, hs1] at g
        rw [show mergeK [] (kvsOf fs) = kvsOf fs from merge_of fs [] hG.nd] at sp16 ⊢
        have P12b := P12.fr (S := []) (fr_same sp16) (by simp) (by simp)
        refine ⟨_, rfl, p, .str s1, rfl, g, pd, cl, ns, _, s1, rfl, P12b, by omega, ms1s, fun H17 Dv f17 P17 pl17 of17 => ?_⟩
        have F17 := (F12.trans (fr_same (S := [pd]) sp16)).trans f17
        have tno17 := (tno12.kept (kept_same sp16)).frN puno (odd_of P12b) f17
        have tp17 := (tp12.kept (kept_same sp16)).frN pup (odd_of P12b) f17
        refine ⟨_, rfl, _, rfl, _, rfl, _, _, rfl, rfl, kk, rfl, pd, cl, ns, _, _, fs, 4, congrArg (fun z : Int => [V.ref pd, V.ref fa, V.int z, V.int 4]) ek, P17, by omega, hF.frN odd F17, hG, by omega, by omega, fun H18 ma mm f18 P18 t18 l18 m18 => ?_⟩
        have puM : Pu false (.tuple mm) := .tup fun d hd => (m18 d hd).pu
        have halfY := half_yes hG hN hk2 (fun d hd => m18 d hd) l18 mso plp ofp
        refine ⟨_, rfl, by show 1 ≤ sizeLine; decide, fun TQ nTQ => ?_⟩
        have sQ := newS (o := .tup [V.ref Tp]) nTQ
        obtain ⟨_, xm, em, hxm, hAm⟩ := (t18.kept (kept_same sQ)).asTup
        cases em
        have lxm := hAm.len
        have tp18 := (tp17.frN pup (odd_of P17) f18).kept (kept_same sQ)
        refine ⟨true, ma, TQ, _, _, rfl, rfl, hxm, (show SqT K _ _ _ from SqT.of upd_same), by rw [lxm]; show mm.length + 1 ≤ sizeLine; omega, fun py H19 s19 hpy => ?_⟩
        have ty19 : Th K H19 (.ref py) (.tuple (mm ++ [.tuple [.str "put", .str new, .str sort, Dp]])) := .tup hpy ((hAm.app (.cons tp18 .nil)).kept (kept_same s19))
        refine ⟨_, rfl, by show 5 ≤ sizeLine; decide, fun T nT => ?_⟩
        have sT := newS (o := .tup [V.str "case", V.str t, vOf Dv, V.ref py, V.ref pno]) nT
        have ss := (sQ.trans s19).trans sT
        exact q _ T _ _ ((F17.trans f18).trans (fr_same ss)) ((P18.fr (S := []) (fr_same ss) (by simp) (by simp)).mono (by omega)) (.tup (SqT.of upd_same) (.cons (.str _) (.cons (.str _) (.cons (th_vOf pl17) (.cons (ty19.kept (kept_same sT)) (.cons ((tno17.frN puno (odd_of P17) f18).kept (kept_same ss)) .nil)))))) (stD_case hG hs1 ms1 pl17 of17 halfY halfN (eqF_refl (nd_new hN.no hG.nd)) (good_new hG hN h5 mso) nm_new)
    
    refine ⟨_, rfl, rfl, _, rfl, ite2 (fun e7 => ?_) (fun e7 => ?_)⟩
    · refine ⟨_, rfl, _, rfl, by show 3 ≤ sizeLine; decide, fun T nT => ?_⟩
      have sT := newS (o := .tup [V.str "copy", V.str old, V.str new]) nT
      exact q _ T _ _ (F7.trans (fr_same sT)) ((P7.fr (S := []) (fr_same sT) (by simp) (by simp)).mono (by omega)) (.tup (SqT.of upd_same) (.cons (.str _) (.cons (.str _) (.cons (.str _) .nil)))) (stD_copy hG ho hN h5)
    · refine ⟨_, rfl, _, rfl, _, rfl, _, rfl, pd, cl, ns, _, kind, rfl, P7, by omega, hkind, fun H8 Dv f8 P8 pl8 of8 => ⟨by show 4 ≤ sizeLine; decide, fun T nT => ?_⟩⟩
      have sT := newS (o := .tup [V.str "put", V.str new, V.str kind, vOf Dv]) nT
      exact q _ T _ _ ((F7.trans f8).trans (fr_same sT)) ((P8.fr (S := []) (fr_same sT) (by simp) (by simp)).mono (by omega)) (.tup (SqT.of upd_same) (.cons (.str _) (.cons (.str _) (.cons (.str _) (.cons (th_vOf pl8) .nil))))) (stD_put hG hN h5 hkind pl8 of8)
end
end St6

set_option autoImplicit false
set_option maxHeartbeats 4000000
namespace St6
open PySem PySem.Spec PyProof.Rows L2 Tg Cc Nn TL
/-! drawn steps, one behind the other -/
def cL (k : Nat) : Nat := cS k + pM k + 1
structure StepsD (fs : Fs) (ds : List PyData) (gs : Fs) : Prop where
  pu : ∀ d ∈ ds, Pu false d
  bd : ∀ d ∈ ds, Bd 1000 9 d
  gr : ∀ d ∈ ds, ∀ c, growS c d ≤ 2000
  st : ∀ c, 3 ≤ c → stepsB c fs (.tuple ds) = .ok gs
  gf : GoodF gs
  sy : ∀ d ∈ ds, Sy d
def joins (ds : List PyData) : Nat := (ds.filter isJoin).length
/-- names for new fields -/
structure News (fs : Fs) (zs : List Str) : Prop where
  nd : zs.Nodup
  ok : ∀ z ∈ zs, NameOk z
  off : ∀ z ∈ zs, z ∉ fs.map Prod.fst
def spListD (K : PySem.W.Frag) (k : Nat) : Sp := fun vs H Q _ => ∃ (pd cl : Addr) (ns : List Int) (n : Nat) (f : V) (fs : Fs) (p : Addr) (zs : List Str) (many : Nat), vs = [.ref pd, f, .ref p, .int (many : Nat), .int (k : Nat)] ∧ Pen H pd cl ns n ∧ n + 1 + many * cL k ≤ 600000000 ∧ Fm K H f fs ∧ GoodF fs ∧ H p = some (.lst (zs.map V.str)) ∧ News fs zs ∧ many ≤ zs.length ∧ many ≤ 8 ∧ k ≤ 3 ∧
  ∀ H' a ds gs, Fr [pd] H H' → Pen H' pd cl ns (n + 1 + many * cL k) → Th K H' (.ref a) (.tuple ds) → StepsD fs ds gs → ds.length ≤ 3 * many → joins ds ≤ many → (∀ z ∈ gs.map Prod.fst, z ∈ fs.map Prod.fst ∨ z ∈ zs.take many) → Q (.ref a) H'
theorem StepsD.bdT {fs gs : Fs} {ds : List PyData} (h : StepsD fs ds gs) (l : ds.length ≤ 1000) : Bd 1000 10 (.tuple ds) := bd_tup l h.bd
theorem StepsD.puT {fs gs : Fs} {ds : List PyData} (h : StepsD fs ds gs) : Pu false (.tuple ds) := .tup h.pu
theorem StepsD.grT {fs gs : Fs} {ds : List PyData} (h : StepsD fs ds gs) (c : Nat) : growB c (.tuple ds) ≤ ds.length * 2000 := grow_le fun d hd => h.gr d hd c
theorem StepsD.nil {fs : Fs} (hG : GoodF fs) : StepsD fs [] fs := ⟨an, an, an, fun c _ => by rw [steps_over]; rfl, hG, an⟩
theorem StepsD.step {fs gs hs : Fs} {ds : List PyData} {d : PyData} {new : Str} (h : StepsD fs ds gs) (k : StepD gs new d hs) : StepsD fs (ds ++ [d]) hs := by
  refine ⟨fun x hx => ?_, fun x hx => ?_, fun x hx => ?_, fun c hc => steps_app (h.st c hc) (steps_one (k.st c hc)), k.gf, fun x hx => ?_⟩
  all_goals rcases List.mem_append.mp hx with h1 | h1
  · exact h.pu x h1
  · rw [List.mem_singleton.mp h1]
    exact k.pu
  · exact h.bd x h1
  · rw [List.mem_singleton.mp h1]
    exact k.bd
  · exact h.gr x h1
  · rw [List.mem_singleton.mp h1]
    exact k.gr
  · exact h.sy x h1
  · rw [List.mem_singleton.mp h1]
    exact k.sy
theorem joins_app (a b : List PyData) : joins (a ++ b) = joins a + joins b := by
  unfold joins
  rw [List.filter_append, List.length_append]
theorem joins_one (d : PyData) : joins [d] ≤ 1 := List.length_filter_le _ _
theorem joins_mods {k : Nat} {fs : Fs} {es : List PyData} (m : ∀ d ∈ es, ModD k fs d) : joins es = 0 := by
  unfold joins
  rw [List.filter_eq_nil_iff.mpr fun d hd => by rw [(m d hd).sy.noJoin]; decide]
  rfl
theorem gG3 {k : Nat} (h : k ≤ 3) : gG k ≤ 2000 := by
  match k, h with
  | 0, _ => decide
  | 1, _ => decide
  | 2, _ => decide
  | 3, _ => decide
theorem StepsD.mods {k : Nat} {fs gs : Fs} {ds es : List PyData} (h : StepsD fs ds gs) (hk : k ≤ 3) (m : ∀ d ∈ es, ModD k gs d) : StepsD fs (ds ++ es) gs := by
  refine ⟨fun x hx => ?_, fun x hx => ?_, fun x hx => ?_, fun c hc => steps_app (h.st c hc) fun j => go_mods (k := k) (by omega) (Ext.refl h.gf.nd) es j fun d hd => (m d hd).md, h.gf, fun x hx => ?_⟩
  all_goals rcases List.mem_append.mp hx with h1 | h1
  · exact h.pu x h1
  · exact (m x h1).pu
  · exact h.bd x h1
  · exact (m x h1).bd.mono (Nat.le_refl _) (by omega)
  · exact h.gr x h1
  · exact fun c => Nat.le_trans ((m x h1).gr c) (gG3 hk)
  · exact h.sy x h1
  · exact .inl (m x h1).sy
section
variable {P : Program} {w : World} {K : PySem.W.Frag} {mg : Str → Option Value} {base : Heap} {k : Nat}
theorem sclistD : FnScope ["pen", "form", "news", "many", "deep", "found", "k", "fields", "some"] ["pen", "form", "news", "many", "deep"] (defScope sLawList) := ⟨rfl, rfl, rfl, by decide +kernel, rfl, by decide +kernel, by decide +kernel⟩
theorem ok_listD {f : Addr} {fd : FuncData} (F : FnP K "_law_list" sLawList f fd) {f__law_draw : Addr} {fd__law_draw : FuncData} (c__law_draw : Cl P w K mg base CX0 "_law_draw" 1 ["pen", "many"] (spDraw) f__law_draw fd__law_draw) {f__law_end : Addr} {fd__law_end : FuncData} (c__law_end : Cl P w K mg base CX0 "_law_end" 13 ["fields", "steps"] (spLEnd K 5) f__law_end fd__law_end) {f__law_step : Addr} {fd__law_step : FuncData} (c__law_step : Cl P w K mg base CX0 "_law_step" (4 + k + 1) ["pen", "fields", "new", "deep"] (spStepD K k) f__law_step fd__law_step) {f__law_mods : Addr} {fd__law_mods : FuncData} (c__law_mods : Cl P w K mg base CX0 "_law_mods" (4 + k + 1) ["pen", "fields", "deep", "many"] (spMods K k) f__law_mods fd__law_mods) (mb_range : mg "range" = none)  (hk3 : k ≤ 3) : FnOk P w K mg base CX0 14 f fd ["pen", "form", "news", "many", "deep"] (spListD K k) := by
  refine F.ok sclistD (fun vs H Q E h => ?_) (fun cdv A outer s H vs Q E hr h => ?_)
  · obtain ⟨pd, cl, ns, n, f, fs, p, zs, many, rfl, _⟩ := h
    rfl
  · obtain ⟨pd, cl, ns, n, f, fs, p, zs, many, rfl, hP, hn, hF, hG, hp, hN, hz, hm, hk, q⟩ := h
    have hu := hu_of hr
    have hs := szl
    refine ⟨_, PSs.nox (pss_cons (ps_set (i := 5) sclistD.nd rfl (Or.inl rfl) (pe_tup (pa_nil)))
      (pss_cons (ps_for PassesOwn.never rfl (pi_range1 (by rfl) mb_range (pa_cons (pe_call c__law_draw.ok (hr.mono (by omega)) (by rfl) c__law_draw.m c__law_draw.kp c__law_draw.b .nil pass0 (pa_cons (pv 0) (pa_cons (pe_op op_add (pv 3) (pe_int)) pa_nil))) pa_nil)) (pg_name (i := 6) sclistD.nd rfl (Or.inl rfl)) (pss_cons (ps_set (i := 7) sclistD.nd rfl (Or.inl rfl) (pe_call c__law_end.ok (hr.mono (by omega)) (by rfl) c__law_end.m c__law_end.kp c__law_end.b .nil pass0 (pa_cons (pv 1) (pa_cons (pv 5) pa_nil))))
      (pss_cons (ps_set (i := 8) sclistD.nd rfl (Or.inl rfl) (pe_tup (pa_cons (pe_call c__law_step.ok (hr.mono (by omega)) (by rfl) c__law_step.m c__law_step.kp c__law_step.b .nil pass0 (pa_cons (pv 0) (pa_cons (pv 7) (pa_cons (pe_ix ix_list (pv 2) (pv 6) (fun _ _ => rfl)) (pa_cons (pv 4) pa_nil))))) pa_nil)))
      (pss_one (ps_set (i := 5) sclistD.nd rfl (Or.inl rfl) (pe_op Cc.op_catB (pv 5) (pe_ix ix_list (pe_lst (pa_cons (pv 8) (pa_cons (pe_call c__law_mods.ok (hr.mono (by omega)) (by rfl) c__law_mods.m c__law_mods.kp c__law_mods.b .nil pass0 (pa_cons (pv 0) (pa_cons (pv 7) (pa_cons (pv 4) (pa_cons (pe_int) pa_nil))))) pa_nil))) (pe_call c__law_draw.ok (hr.mono (by omega)) (by rfl) c__law_draw.m c__law_draw.kp c__law_draw.b .nil pass0 (pa_cons (pv 0) (pa_cons (pe_int) pa_nil))) (fun _ _ => rfl))))))))
      (pss_one (ps_ret (pv 5))))), ?_⟩
    refine ⟨Nat.zero_le _, fun T0 nT0 => ?_⟩
    have s0 := newS (o := .tup []) nT0
    obtain ⟨fa, fx0, ef, _⟩ := id hF
    subst ef
    have odd := odd_of hP
    have cl_ : cL k = cS k + pM k + 1 := rfl
    have mc : many * cL k ≤ 600000000 := by omega
    refine ⟨_, rfl, _, rfl, _, _, rfl, rfl, pd, cl, ns, _, n, rfl, hP.fr (S := []) (fr_same s0) (by simp) (by simp), by omega, by omega, by omega, fun H1 c0 f1 P1 k0 k1 => ⟨c0, rfl, by omega, by omega, ?_⟩⟩
    obtain ⟨mm, rfl⟩ := Int.eq_ofNat_of_zero_le k0
    have hmm : mm ≤ many := by omega
    have npd : p ≠ pd := by
      obtain ⟨⟨xa, xb, hd, _⟩, _, _⟩ := id hP
      exact ne_of hp hd (by intro z; cases z)
    refine for_range (lo := 0) (n := mm) (fun i σ' H' => (∃ a x6 x7 x8, σ' = [some (.ref pd), some (.ref fa), some (.ref p), some (.int (many : Nat)), some (.int (k : Nat)), some (.ref a), x6, x7, x8] ∧ ∃ ds gs, Th K H' (.ref a) (.tuple ds) ∧ StepsD fs ds gs ∧ ds.length ≤ 3 * i ∧ joins ds ≤ i ∧ ∀ z ∈ gs.map Prod.fst, z ∈ fs.map Prod.fst ∨ z ∈ zs.take i) ∧ Pen H' pd cl ns (n + 1 + i * cL k) ∧ Fr [pd] H H')
      ⟨⟨T0, _, _, _, rfl, [], fs, (Th.tup (SqT.of upd_same) .nil).frN (.tup an) (odd_of (hP.fr (S := []) (fr_same s0) (by simp) (by simp))) f1, .nil hG, Nat.le_refl _, Nat.le_refl _, fun z hz => .inl hz⟩, P1.mono (by omega), (fr_same s0).trans f1⟩ ?_ ?_
    · rintro i σ' H2 hi ⟨⟨a, x6, x7, x8, rfl, ds, gs, tA, hD, ld, lj, nm⟩, P2, F2⟩
      have ic : i * cL k + cL k ≤ many * cL k := by
        rw [← Nat.succ_mul]
        exact Nat.mul_le_mul_right _ (by omega)
      have is : (i + 1) * cL k = i * cL k + cL k := Nat.succ_mul _ _
      have gt := hD.grT 5
      have g6 := hG.hi
      have lds : ds.length * 2000 ≤ 24 * 2000 := Nat.mul_le_mul_right _ (by omega)
      refine ⟨_, rfl, _, rfl, _, fs, _, _, gs, rfl, hF.frN odd F2, hG.nd, by omega, tA, hD.puT.noLst _, (hD.bdT (by omega)).mono (Nat.le_refl _) (by omega), hD.st 5 (by omega), fun H3 fu s3 hFu => ?_⟩
      have P3 := P2.fr (S := []) (fr_same s3) (by simp) (by simp)
      have F3 := F2.trans (fr_same (S := [pd]) s3)
      have tA3 := tA.kept (kept_same s3)
      have hiz : i < zs.length := by omega
      have hp3 : H3 p = some (.lst (zs.map V.str)) := F3 _ _ (by simpa using npd) hp
      have hNew : NewN gs zs[i] := ⟨hN.ok _ (List.getElem_mem hiz), getF_of_none fun hm2 => by
        rcases nm _ hm2 with h1 | h1
        · exact hN.off _ (List.getElem_mem hiz) h1
        · obtain ⟨j, hj, ej⟩ := List.getElem_of_mem h1
          rw [List.length_take] at hj
          rw [List.getElem_take] at ej
          exact absurd ((List.getElem_inj hN.nd).mp ej) (by omega)⟩
      have ez : (zs.map V.str)[i]? = some (.str zs[i]) := by
        rw [List.getElem?_map, List.getElem?_eq_getElem hiz]
        rfl
      refine ⟨_, rfl, _, rfl, _, rfl, _, rfl, p, _, _, _, rfl, rfl, SqL.of hp3, (by rw [Int.zero_add]; exact atI_nat ez), _, rfl, pd, cl, ns, _, fu, gs, zs[i], rfl, P3, by omega, hFu, hD.gf, hNew, hk, fun H4 ta d hs' f4 P4 t4 hS => ?_⟩
      refine ⟨by show 1 ≤ sizeLine; decide, fun T1 nT1 => ?_⟩
      have s4 := newS (o := .tup [V.ref ta]) nT1
      have P4b := P4.fr (S := []) (fr_same s4) (by simp) (by simp)
      have F4 := f4.trans (fr_same (S := [pd]) s4)
      have tA4 := tA3.frN hD.puT (odd_of P3) F4
      have tS4 : Th K (upd H4 T1 (.tup [V.ref ta])) (.ref T1) (.tuple [d]) := .tup (SqT.of upd_same) (.cons (t4.kept (kept_same s4)) .nil)
      have puS : Pu false (.tuple [d]) := .tup (ac hS.pu an)
      refine ⟨_, rfl, _, rfl, _, rfl, _, rfl, _, rfl, pd, cl, ns, _, fu, gs, 2, rfl, P4b, by omega, hFu.frN (odd_of P3) F4, hD.gf, by omega, by omega, fun H5 ma es f5 P5 t5 l5 m5 => ?_⟩
      have tA5 := tA4.frN hD.puT (odd_of P4b) f5
      have tS5 := tS4.frN puS (odd_of P4b) f5
      have puM : Pu false (.tuple es) := .tup fun d hd => (m5 d hd).pu
      refine ⟨by show 2 ≤ sizeLine; decide, fun LS nLS => ?_⟩
      have s5 := newS (o := .lst [V.ref T1, V.ref ma]) nLS
      have P5b := P5.fr (S := []) (fr_same s5) (by simp) (by simp)
      have nLSd : LS ≠ pd := by
        obtain ⟨⟨xa, xb, hd, _⟩, _, _⟩ := id P5
        exact fun z => ne_of_none hd nLS z.symm
      refine ⟨_, rfl, pd, cl, ns, 2, _, rfl, P5b, by omega, by decide, by decide, fun H6 j f6 P6 j0 j1 => ?_⟩
      have hLS : H6 LS = some (.lst [V.ref T1, V.ref ma]) := f6 _ _ (by simpa using nLSd) upd_same
      have tA6 := (tA5.kept (kept_same s5)).frN hD.puT (odd_of P5b) f6
      have tS6 := (tS5.kept (kept_same s5)).frN puS (odd_of P5b) f6
      have tM6 := (t5.kept (kept_same s5)).frN puM (odd_of P5b) f6
      have F6 := (((F3.trans F4).trans f5).trans (fr_same (S := [pd]) s5)).trans f6
      obtain ⟨b, es2, gs2, eb, tB, hD2, l2, j2, nm2⟩ : ∃ b es2 gs2, atI [V.ref T1, V.ref ma] j = some (V.ref b) ∧ Th K H6 (.ref b) (.tuple es2) ∧ StepsD fs (ds ++ es2) gs2 ∧ es2.length ≤ 3 ∧ joins es2 ≤ 1 ∧ ∀ z ∈ gs2.map Prod.fst, z ∈ fs.map Prod.fst ∨ z ∈ zs.take (i + 1) := by
        rcases (show j = 0 ∨ j = 1 by omega) with rfl | rfl
        · refine ⟨T1, [d], hs', rfl, tS6, hD.step hS, by show 1 ≤ 3; omega, joins_one d, fun z hz => ?_⟩
          rcases hS.nm z hz with h1 | h1
          · rw [h1]
            exact .inr (List.mem_take_iff_getElem.mpr ⟨i, by omega, rfl⟩)
          · exact (nm z h1).imp_right fun h2 => (List.take_sublist_take_left (Nat.le_succ i)).subset h2
        · exact ⟨ma, es, gs, rfl, tM6, hD.mods hk m5, l5, by rw [joins_mods m5]; omega, fun z hz => (nm z hz).imp_right fun h2 => (List.take_sublist_take_left (Nat.le_succ i)).subset h2⟩
      refine ⟨LS, _, j, _, rfl, rfl, SqL.of hLS, eb, ?_⟩
      obtain ⟨_, xa, ea, hxa, hAa⟩ := tA6.asTup
      cases ea
      obtain ⟨_, xb, eb2, hxb, hAb⟩ := tB.asTup
      cases eb2
      have lxa := hAa.len
      have lxb := hAb.len
      refine ⟨true, a, b, _, _, rfl, rfl, hxa, hxb, by rw [lxa, lxb]; omega, fun pp H7 s7 hpp => ?_⟩
      exact ⟨⟨pp, _, _, _, rfl, ds ++ es2, gs2, .tup hpp ((hAa.app hAb).kept (kept_same s7)), hD2, by rw [List.length_append]; omega, by rw [joins_app]; omega, nm2⟩, (P6.fr (S := []) (fr_same s7) (by simp) (by simp)).mono (by omega), F6.trans (fr_same s7)⟩
    · rintro σ' H2 ⟨⟨a, x6, x7, x8, rfl, ds, gs, tA, hD, ld, lj, nm⟩, P2, F2⟩
      have ic : mm * cL k ≤ many * cL k := Nat.mul_le_mul_right _ hmm
      exact ⟨_, rfl, q H2 a ds gs F2 (P2.mono (by omega)) tA hD (by omega) (by omega) fun z hz => (nm z hz).imp_right fun h => (List.take_sublist_take_left hmm).subset h⟩
end
end St6

set_option autoImplicit false
set_option maxHeartbeats 4000000
namespace St6
open PySem PySem.Spec PyProof.Rows L2 Tg Cc Nn TL
/-! what steps make of values -/
abbrev Mv := Str → Option PyData
def upM (m : Mv) (n : Str) (o : Option PyData) : Mv := fun z => if z = n then o else m z
def intOf : PyData → Int
  | .int i => i
  | _ => 0
def valM (m : Mv) (a : PyData) : PyData := (m (txtOf a)).getD .none
def eqP : PyData → PyData → Bool
  | .int i, .int j => decide (i = j)
  | .str a, .str b => decide (a = b)
  | _, _ => false
def firstOf : PyData → PyData
  | .tuple (a :: _) => a
  | _ => .none
def secondOf : PyData → PyData
  | .tuple (_ :: b :: _) => b
  | _ => .none
def partM (m : Mv) : PyData → Str
  | .tuple [.str k, d] => if k = "say" then txtOf d else txtOf (valM m d)
  | _ => ""
def sumM (m : Mv) (l : List PyData) : Int := (l.map fun f => intOf (valM m f)).sum
def joinM (m : Mv) (l : List PyData) : Str := Txt.join (Str.ofString "") (l.map (partM m))
def tabM (v : PyData) (rows : List PyData) (other : PyData) : PyData := match rows.find? fun r => eqP v (firstOf r) with
  | some r => secondOf r
  | none => match other with
    | .tuple [x] => x
    | _ => v
def doLead (rec : Mv → PyData → Mv) (m : Mv) (w : Str) : List PyData → Mv
  | [a] => if w = "drop" then upM m (txtOf a) none else m
  | [a, b] => if w = "rename" then upM (upM m (txtOf b) (m (txtOf a))) (txtOf a) none else if w = "copy" then upM m (txtOf b) (m (txtOf a)) else if w = "sum" then upM m (txtOf a) (some (.int (sumM m (items b)))) else if w = "join" then upM m (txtOf a) (some (.str (joinM m (items b)))) else m
  | [a, b, c] => if w = "put" then upM m (txtOf a) (some c) else if w = "scale" then upM m (txtOf a) (some (.int (intOf (valM m a) * intOf b + intOf c))) else m
  | [a, b, c, d] => if w = "table" then upM m (txtOf a) (some (tabM (valM m a) (items c) d)) else if w = "case" then (if eqP (valM m a) b = true then rec m c else rec m d) else m
  | _ => m
def doS (rec : Mv → PyData → Mv) (m : Mv) : PyData → Mv
  | .tuple (.str w :: r) => doLead rec m w r
  | _ => m
def doGo (st : Mv → PyData → Mv) : Mv → List PyData → Mv
  | m, [] => m
  | m, d :: r => doGo st (st m d) r
def doB : Nat → Mv → PyData → Mv
  | 0, m, d => doGo (doS fun m _ => m) m (items d)
  | c + 1, m, d => doGo (doS (doB c)) m (items d)
def dRec : Nat → Mv → PyData → Mv
  | 0 => fun m _ => m
  | c + 1 => doB c
theorem do_over (c : Nat) (m : Mv) (d : PyData) : doB c m d = doGo (doS (dRec c)) m (items d) := by cases c <;> rfl
theorem doGo_cons (st : Mv → PyData → Mv) (m : Mv) (d : PyData) (r : List PyData) : doGo st m (d :: r) = doGo st (st m d) r := rfl
/-! how long texts become -/
def lenLead (rec : Nat → PyData → Nat) (L : Nat) (w : Str) : List PyData → Nat
  | [_, b] => if w = "join" then max L ((items b).map (partLen L)).sum else L
  | [_, _, c, d] => if w = "case" then max (rec L c) (rec L d) else L
  | _ => L
def lenS (rec : Nat → PyData → Nat) (L : Nat) : PyData → Nat
  | .tuple (.str w :: r) => lenLead rec L w r
  | _ => L
def lenGo (st : Nat → PyData → Nat) : Nat → List PyData → Nat
  | L, [] => L
  | L, d :: r => lenGo st (st L d) r
def lngB : Nat → Nat → PyData → Nat
  | 0, L, d => lenGo (lenS fun L _ => L) L (items d)
  | c + 1, L, d => lenGo (lenS (lngB c)) L (items d)
def lRec : Nat → Nat → PyData → Nat
  | 0 => fun L _ => L
  | c + 1 => lngB c
theorem len_over (c L : Nat) (d : PyData) : lngB c L d = lenGo (lenS (lRec c)) L (items d) := by cases c <;> rfl
theorem lenLead_ge {rec : Nat → PyData → Nat} (h : ∀ L d, L ≤ rec L d) (L : Nat) (w : Str) (r : List PyData) : L ≤ lenLead rec L w r := by
  unfold lenLead
  split
  · split
    · exact Nat.le_max_left _ _
    · exact Nat.le_refl _
  · split
    · exact Nat.le_trans (h L _) (Nat.le_max_left _ _)
    · exact Nat.le_refl _
  · exact Nat.le_refl _
theorem lenS_ge {rec : Nat → PyData → Nat} (h : ∀ L d, L ≤ rec L d) (L : Nat) (d : PyData) : L ≤ lenS rec L d := by
  unfold lenS
  split
  · exact lenLead_ge h L _ _
  · exact Nat.le_refl _
theorem lenGo_ge {st : Nat → PyData → Nat} (h : ∀ L d, L ≤ st L d) : ∀ (l : List PyData) (L : Nat), L ≤ lenGo st L l
  | [], L => Nat.le_refl _
  | d :: r, L => Nat.le_trans (h L d) (lenGo_ge h r (st L d))
theorem lngB_ge : ∀ (c L : Nat) (d : PyData), L ≤ lngB c L d
  | 0, L, d => lenGo_ge (lenS_ge fun L d => Nat.le_refl L) _ _
  | c + 1, L, d => lenGo_ge (lenS_ge (lngB_ge c)) _ _
theorem lRec_ge : ∀ (c L : Nat) (d : PyData), L ≤ lRec c L d
  | 0, L, d => Nat.le_refl L
  | c + 1, L, d => lngB_ge c L d
/-! values that stand for fields -/
def VOk (L : Nat) (s : Str) (v : PyData) : Prop := if s ∈ numsL then ∃ i, v = .int i else ∃ z, v = .str z ∧ z.length ≤ L ∧ As z
def MOk (L : Nat) (fs : Fs) (m : Mv) : Prop := ∀ n s, getF fs n = some s → ∃ v, m n = some v ∧ VOk L s v
theorem VOk.mono {L L' : Nat} {s : Str} {v : PyData} (h : VOk L s v) (l : L ≤ L') : VOk L' s v := by
  unfold VOk at h ⊢
  by_cases e : s ∈ numsL
  · rw [if_pos e] at h ⊢
    exact h
  · rw [if_neg e] at h ⊢
    obtain ⟨z, h1, h2, h3⟩ := h
    exact ⟨z, h1, Nat.le_trans h2 l, h3⟩
theorem MOk.mono {L L' : Nat} {fs : Fs} {m : Mv} (h : MOk L fs m) (l : L ≤ L') : MOk L' fs m := fun n s e => let ⟨v, h1, h2⟩ := h n s e; ⟨v, h1, h2.mono l⟩
theorem vok_int {L : Nat} {s : Str} (h : s ∈ numsL) (i : Int) : VOk L s (.int i) := by
  unfold VOk
  rw [if_pos h]
  exact ⟨i, rfl⟩
theorem vok_str {L : Nat} {s z : Str} (h : s ∉ numsL) (hl : z.length ≤ L) (ha : As z) : VOk L s (.str z) := by
  unfold VOk
  rw [if_neg h]
  exact ⟨z, rfl, hl, ha⟩
theorem vok_num {L : Nat} {s : Str} {v : PyData} (h : VOk L s v) (hs : s ∈ numsL) : ∃ i, v = .int i := by
  unfold VOk at h
  rw [if_pos hs] at h
  exact h
theorem vok_txt {L : Nat} {s : Str} {v : PyData} (h : VOk L s v) (hs : s ∉ numsL) : ∃ z, v = .str z ∧ z.length ≤ L ∧ As z := by
  unfold VOk at h
  rw [if_neg hs] at h
  exact h
/-- a value of a sort -/
theorem vok_sort {L : Nat} {s : Str} {v : PyData} (hs : s ∈ sorts) (hv : ofSort s v = true) (hL : 40 ≤ L) : VOk L s v := by
  unfold ofSort at hv
  by_cases e1 : s = "word"
  · subst e1
    rw [if_pos rfl] at hv
    cases v with
    | str z =>
      have hv : ((decide (1 ≤ z.length) && decide (z.length ≤ 8)) && z.cps.toList.all lowC) = true := hv
      rw [Bool.and_eq_true, Bool.and_eq_true] at hv
      have h8 := of_decide_eq_true hv.1.2
      exact vok_str (by decide +kernel) (by omega) (Low.as fun c hc => List.all_eq_true.mp hv.2 c hc)
    | _ => cases hv
  · rw [if_neg e1] at hv
    by_cases e2 : s = "text"
    · subst e2
      rw [if_pos rfl] at hv
      cases v with
      | str z =>
        have hv : (z.cps.toList.all signB && decide (z.length ≤ 40)) = true := hv
        rw [Bool.and_eq_true] at hv
        have h8 := of_decide_eq_true hv.2
        exact vok_str (by decide +kernel) (by omega) fun c hc => sign_as (List.all_eq_true.mp hv.1 c hc)
      | _ => cases hv
    · rw [if_neg e2] at hv
      have hn : s ∈ numsL := by
        have := (show ∀ z ∈ sorts, z = "word" ∨ z = "text" ∨ z ∈ numsL by decide +kernel) s hs
        rcases this with h | h | h
        · exact absurd h e1
        · exact absurd h e2
        · exact h
      cases v with
      | int i => exact vok_int hn i
      | _ => cases hv
theorem VOk.plain {L : Nat} {s : Str} {v : PyData} (h : VOk L s v) : (∃ i, v = .int i) ∨ ∃ z, v = .str z ∧ z.length ≤ L ∧ As z := by
  unfold VOk at h
  by_cases e : s ∈ numsL
  · rw [if_pos e] at h
    exact .inl h
  · rw [if_neg e] at h
    exact .inr h
theorem getF_snocD {fs : Fs} {n s m : Str} : getF (fs ++ [(n, s)]) m = (getF fs m).or (if n = m then some s else none) := by
  induction fs with
  | nil =>
    by_cases e : n = m
    · rw [if_pos e]
      exact getF_cons_pos e
    · rw [if_neg e]
      exact getF_cons_neg e
  | cons x r ih =>
    by_cases e : x.1 = m
    · rw [List.cons_append, getF_cons_pos e, getF_cons_pos e]
      rfl
    · rw [List.cons_append, getF_cons_neg e, getF_cons_neg e, ih]
/-- fields all of whose sorts are sorts -/
def SOk (fs : Fs) : Prop := ∀ n s, getF fs n = some s → s ∈ sorts
theorem mok_new {L : Nat} {fs : Fs} {m : Mv} {n s : Str} {v : PyData} (h : MOk L fs m) (hn : getF fs n = none) (hv : VOk L s v) : MOk L (fs ++ [(n, s)]) (upM m n (some v)) := fun z t e => by
  rw [getF_snocD] at e
  unfold upM
  by_cases ez : z = n
  · subst ez
    rw [hn, if_pos rfl] at e
    rw [if_pos rfl]
    obtain rfl := Option.some.inj e
    exact ⟨v, rfl, hv⟩
  · rw [if_neg (fun h => ez h.symm)] at e
    rw [if_neg ez]
    cases hz : getF fs z with
    | none =>
      rw [hz] at e
      cases e
    | some u =>
      rw [hz] at e
      obtain rfl := Option.some.inj e
      exact h z u hz
theorem getF_inD {fs : Fs} {n s : Str} (h : getF fs n = some s) : (n, s) ∈ fs := by
  unfold getF at h
  cases e : fs.find? fun y => decide (y.1 = n) with
  | none =>
    rw [e] at h
    cases h
  | some y =>
    rw [e] at h
    have e1 : y.1 = n := of_decide_eq_true (List.find?_some (p := fun y : Str × Str => decide (y.1 = n)) e)
    have e2 : y.2 = s := Option.some.inj h
    have := List.mem_of_find?_eq_some e
    rw [← e1, ← e2]
    exact this
structure FOk (fs : Fs) : Prop where
  nd : (fs.map Prod.fst).Nodup
  so : ∀ x ∈ fs, x.2 ∈ sorts
theorem FOk.get {fs : Fs} (h : FOk fs) {n s : Str} (e : getF fs n = some s) : s ∈ sorts := h.so _ (getF_inD e)
theorem getF_ren {o n : Str} (no : o ≠ n) : ∀ {fs : Fs} (hn : getF fs n = none) (z : Str), getF (fs.map (ren o n)) z = if z = n then getF fs o else if z = o then none else getF fs z
  | [], _, z => by
    show none = _
    by_cases e : z = n
    · rw [if_pos e]
      rfl
    · rw [if_neg e]
      by_cases e2 : z = o
      · rw [if_pos e2]
      · rw [if_neg e2]
        rfl
  | x :: r, hn, z => by
    have xn : ¬ x.1 = n := fun e => by
      rw [getF_cons_pos e] at hn
      cases hn
    have ih := getF_ren no (fs := r) (by rwa [getF_cons_neg xn] at hn) z
    rw [List.map_cons]
    by_cases eo : x.1 = o
    · have er : ren o n x = (n, x.2) := by
        unfold ren
        rw [if_pos eo]
      rw [er, getF_cons_pos eo]
      by_cases e : z = n
      · rw [if_pos e, getF_cons_pos e.symm]
      · rw [if_neg e, getF_cons_neg (fun h => e h.symm), ih, if_neg e]
        by_cases e2 : z = o
        · rw [if_pos e2, if_pos e2]
        · rw [if_neg e2, if_neg e2, getF_cons_neg (fun h => e2 (h.symm.trans eo))]
    · have er : ren o n x = x := by
        unfold ren
        rw [if_neg eo]
      rw [er, getF_cons_neg eo]
      by_cases e : z = n
      · rw [if_pos e, getF_cons_neg (fun h => xn (h.trans e)), ih, if_pos e]
      · rw [if_neg e]
        by_cases e2 : z = o
        · rw [if_pos e2, getF_cons_neg (fun h => eo (h.trans e2)), ih, if_neg e, if_pos e2]
        · rw [if_neg e2]
          by_cases e3 : x.1 = z
          · rw [getF_cons_pos e3, getF_cons_pos e3]
          · rw [getF_cons_neg e3, getF_cons_neg e3, ih, if_neg e, if_neg e2]
theorem getF_dropD (o : Str) : ∀ (fs : Fs) (z : Str), getF (fs.filter fun x => !decide (x.1 = o)) z = if z = o then none else getF fs z
  | [], z => by
    show none = _
    by_cases e : z = o
    · rw [if_pos e]
    · rw [if_neg e]
      rfl
  | x :: r, z => by
    have ih := getF_dropD o r z
    by_cases eo : x.1 = o
    · rw [List.filter_cons_of_neg (by rw [decide_eq_true eo]; decide), ih]
      by_cases e : z = o
      · rw [if_pos e, if_pos e]
      · rw [if_neg e, if_neg e, getF_cons_neg (fun h => e (h.symm.trans eo))]
    · rw [List.filter_cons_of_pos (by rw [decide_eq_false eo]; rfl)]
      by_cases e3 : x.1 = z
      · rw [getF_cons_pos e3, getF_cons_pos e3, if_neg (fun h => eo (e3.trans h))]
      · rw [getF_cons_neg e3, getF_cons_neg e3, ih]
theorem getF_setD {t so : Str} : ∀ {fs : Fs} (z : Str), getF (fs.map fun x => if x.1 = t then (x.1, so) else x) z = if z = t then (getF fs t).map (fun _ => so) else getF fs z
  | [], z => by
    show none = _
    by_cases e : z = t
    · rw [if_pos e]
      rfl
    · rw [if_neg e]
      rfl
  | x :: r, z => by
    have ih := getF_setD (t := t) (so := so) (fs := r) z
    rw [List.map_cons]
    by_cases et : x.1 = t
    · rw [if_pos et]
      by_cases e : z = t
      · rw [if_pos e, getF_cons_pos (x := (x.1, so)) (et.trans e.symm), getF_cons_pos et]
        rfl
      · rw [if_neg e, getF_cons_neg (x := (x.1, so)) (fun h => e (h.symm.trans et)), getF_cons_neg (x := x) (fun h => e (h.symm.trans et)), ih, if_neg e]
    · rw [if_neg et]
      by_cases e3 : x.1 = z
      · rw [getF_cons_pos e3, getF_cons_pos e3, if_neg (fun h => et (e3.trans h))]
      · rw [getF_cons_neg e3, ih, getF_cons_neg et, getF_cons_neg e3]
theorem upM_self (m : Mv) (n : Str) (o : Option PyData) : upM m n o n = o := if_pos rfl
theorem upM_ne {m : Mv} {n z : Str} {o : Option PyData} (h : z ≠ n) : upM m n o z = m z := if_neg h
theorem valM_of {m : Mv} {n : Str} {v : PyData} (h : m n = some v) : valM m (.str n) = v := by
  show (m n).getD .none = v
  rw [h]
  rfl
theorem fok_new {fs : Fs} {n s : Str} (h : FOk fs) (hn : getF fs n = none) (hs : s ∈ sorts) : FOk (fs ++ [(n, s)]) := ⟨nd_new hn h.nd, fun x hx => by
  rcases List.mem_append.mp hx with h1 | h1
  · exact h.so x h1
  · rw [List.mem_singleton.mp h1]
    exact hs⟩
theorem txt_not : ∀ z ∈ joinL, z ∉ numsL := by decide +kernel
theorem sayC_as {c : Nat} (h : sayC c = true) : c < 128 := by
  have := (show ∀ c ∈ (Str.ofString "abcdefghijklmnopqrstuvwxyz0123456789 -").cps.toList, c < 128 by decide +kernel)
  exact this c (of_decide_eq_true h)
/-- what a part of a join is -/
theorem part_of {L : Nat} {fs : Fs} {m : Mv} {d : PyData} (h : partB fs d = true) (hm : MOk L fs m) : (∃ z, d = .tuple [.str "say", .str z] ∧ z.length ≤ 12 ∧ As z) ∨ ∃ n z, d = .tuple [.str "field", .str n] ∧ m n = some (.str z) ∧ z.length ≤ L ∧ As z := by
  match d, h with
  | .tuple [.str w, d], h =>
    have h : (if w = "say" then sayB d else (decide (w = "field") && amongB joinL (sortOf fs d))) = true := h
    by_cases e : w = "say"
    · subst e
      rw [if_pos rfl] at h
      cases d with
      | str z =>
        have h : ((decide (1 ≤ z.length) && decide (z.length ≤ 12)) && z.cps.toList.all sayC) = true := h
        rw [Bool.and_eq_true, Bool.and_eq_true] at h
        exact .inl ⟨z, rfl, of_decide_eq_true h.1.2, fun c hc => sayC_as (List.all_eq_true.mp h.2 c hc)⟩
      | _ => cases h
    · rw [if_neg e, Bool.and_eq_true] at h
      obtain ⟨h1, h2⟩ := h
      obtain rfl := of_decide_eq_true h1
      cases ho : sortOf fs d with
      | none =>
        rw [ho] at h2
        cases h2
      | some s =>
        rw [ho] at h2
        obtain ⟨n, rfl, hn⟩ := sortOf_of ho
        have hs : s ∈ joinL := of_decide_eq_true h2
        obtain ⟨v, hv, hk⟩ := hm n s hn
        obtain ⟨z, rfl, lz, az⟩ := vok_txt hk (txt_not s hs)
        exact .inr ⟨n, z, rfl, hv, lz, az⟩
theorem part_len {L : Nat} {fs : Fs} {m : Mv} {d : PyData} (h : partB fs d = true) (hm : MOk L fs m) : (partM m d).length ≤ partLen L d ∧ As (partM m d) := by
  rcases part_of h hm with ⟨z, rfl, lz, az⟩ | ⟨n, z, rfl, hv, lz, az⟩
  · exact ⟨lz, az⟩
  · have e : partM m (.tuple [.str "field", .str n]) = z := by
      show txtOf (valM m (.str n)) = z
      rw [valM_of hv]
      rfl
    rw [e]
    exact ⟨lz, az⟩
theorem join_facts {zs : List Str} (h : ∀ z ∈ zs, As z) : As (Txt.join (Str.ofString "") zs) ∧ (Txt.join (Str.ofString "") zs).length = (zs.map (·.length)).sum := by
  have t0 : tl (Str.ofString "") = [] := by decide +kernel
  refine ⟨fun c hc => ?_, ?_⟩
  · have hc : c ∈ tl (Txt.join (Str.ofString "") zs) := hc
    rw [join_eq, tl_join, t0] at hc
    obtain ⟨y, hy, hey⟩ := joinL_mem _ _ hc
    obtain ⟨z, hz, rfl⟩ := List.mem_map.mp hy
    exact h z hz c hey
  · rw [len_tl, join_eq, tl_join, t0, joinL_len, List.map_map]
    have e : (zs.map (List.length ∘ tl)) = zs.map (·.length) := List.map_congr_left fun z _ => (len_tl z).symm
    rw [e]
theorem joinM_ok {L : Nat} {fs : Fs} {m : Mv} {l : List PyData} (h : ∀ d ∈ l, partB fs d = true) (hm : MOk L fs m) : As (joinM m l) ∧ (joinM m l).length ≤ (l.map (partLen L)).sum := by
  have hz : ∀ z ∈ l.map (partM m), As z := fun z hz => by
    obtain ⟨d, hd, rfl⟩ := List.mem_map.mp hz
    exact (part_len (h d hd) hm).2
  obtain ⟨a, b⟩ := join_facts hz
  refine ⟨a, ?_⟩
  show (Txt.join (Str.ofString "") (l.map (partM m))).length ≤ _
  rw [b, List.map_map]
  clear a b hz
  induction l with
  | nil => exact Nat.le_refl _
  | cons d r ih =>
    rw [List.map_cons, List.map_cons, List.sum_cons, List.sum_cons]
    have h1 := (part_len (h d (List.mem_cons_self ..)) hm).1
    have h2 := ih fun x hx => h x (List.mem_cons_of_mem _ hx)
    exact Nat.add_le_add h1 h2
/-- what a table makes -/
theorem row_of {a b : Str} {d : PyData} (h : rowB a b d = true) : ∃ x y, d = .tuple [x, y] ∧ ofSort a x = true ∧ ofSort b y = true := by
  match d, h with
  | .tuple [x, y], h =>
    have h : (ofSort a x && ofSort b y) = true := h
    rw [Bool.and_eq_true] at h
    exact ⟨x, y, rfl, h.1, h.2⟩
theorem tabM_ok {L : Nat} {s so : Str} {v rows other : PyData} (hL : 40 ≤ L) (hso : so ∈ sorts) (hv : VOk L s v) (hr : rowsB s so rows = true) (ho : otherB s so other = true) : VOk L so (tabM v (items rows) other) := by
  obtain ⟨l, rfl⟩ : ∃ l, rows = .tuple l := by
    cases rows <;> first | exact ⟨_, rfl⟩ | cases hr
  have hr : ((decide (l.length ≤ 4) && l.all (rowB s so)) && decide ((l.map keyOf).Nodup)) = true := hr
  rw [Bool.and_eq_true, Bool.and_eq_true] at hr
  unfold tabM
  cases e : (items (.tuple l)).find? fun r => eqP v (firstOf r) with
  | some r =>
    dsimp only
    obtain ⟨x, y, rfl, _, hy⟩ := row_of (List.all_eq_true.mp hr.1.2 r (List.mem_of_find?_eq_some e))
    exact vok_sort hso hy hL
  | none =>
    dsimp only
    match other, ho with
    | .none, ho =>
      have ho : so = s := of_decide_eq_true ho
      rw [ho]
      exact hv
    | .tuple [x], ho => exact vok_sort hso ho hL
theorem among_of {l : List Str} {o : Option Str} (h : amongB l o = true) : ∃ s, o = some s ∧ s ∈ l := by
  cases o with
  | none => cases h
  | some s => exact ⟨s, rfl, of_decide_eq_true h⟩
theorem lead_ok {rec : Fs → PyData → Except Nat Fs} {dr : Mv → PyData → Mv} {lr : Nat → PyData → Nat} (ih : ∀ L fs d gs m, rec fs d = .ok gs → FOk fs → MOk L fs m → 40 ≤ L → FOk gs ∧ MOk (lr L d) gs (dr m d)) (hge : ∀ L d, L ≤ lr L d)
    {L : Nat} {fs gs : Fs} {m : Mv} {w : Str} {r : List PyData} (h : leadB rec fs w r = some gs) (hf : FOk fs) (hm : MOk L fs m) (hL : 40 ≤ L) : FOk gs ∧ MOk (lenLead lr L w r) gs (doLead dr m w r) := by
  have hln : lenOf w = some r.length := by
    by_cases e : lenOf w = some r.length
    · exact e
    · rw [lead_len e] at h
      cases h
  rcases lenOf_in hln with e | e | e | e | e | e | e | e | e
  · -- rename
    subst e
    obtain ⟨d0, d1, rfl⟩ := len2 (Option.some.inj hln).symm
    obtain ⟨hc, rfl⟩ := ifs (show renameB fs d0 d1 = some gs from h)
    obtain ⟨c1, c2⟩ := (Bool.and_eq_true _ _).mp hc
    obtain ⟨n, rfl, hn⟩ := isNew_of c2
    obtain ⟨so, hso⟩ := Option.isSome_iff_exists.mp c1
    obtain ⟨o, rfl, ho⟩ := sortOf_of hso
    have no : o ≠ n := fun e => by
      rw [e, hn] at ho
      cases ho
    show FOk (fs.map (ren o n)) ∧ MOk L (fs.map (ren o n)) (upM (upM m n (m o)) o none)
    refine ⟨⟨ren_nd hf.nd hn, fun x hx => ?_⟩, fun z s e => ?_⟩
    · obtain ⟨y, hy, rfl⟩ := List.mem_map.mp hx
      exact hf.so y hy
    · rw [getF_ren no hn] at e
      by_cases ez : z = n
      · rw [if_pos ez, ho] at e
        obtain rfl := Option.some.inj e
        rw [ez, upM_ne (Ne.symm no), upM_self]
        exact hm o so ho
      · rw [if_neg ez] at e
        by_cases eo : z = o
        · rw [if_pos eo] at e
          cases e
        · rw [if_neg eo] at e
          rw [upM_ne eo, upM_ne ez]
          exact hm z s e
  · -- copy
    subst e
    obtain ⟨d0, d1, rfl⟩ := len2 (Option.some.inj hln).symm
    replace h : copyB fs d0 d1 = some gs := h
    unfold copyB at h
    obtain ⟨el, hel⟩ : ∃ el, sortOf fs d0 = some el := by
      cases ho : sortOf fs d0 with
      | none =>
        rw [ho] at h
        cases h
      | some el => exact ⟨el, rfl⟩
    rw [hel] at h
    obtain ⟨hc, rfl⟩ := ifs h
    obtain ⟨o, rfl, ho⟩ := sortOf_of hel
    obtain ⟨n, rfl, hn⟩ := isNew_of hc
    obtain ⟨v, hv, hk⟩ := hm o el ho
    refine ⟨fok_new hf hn (hf.get ho), ?_⟩
    show MOk L (fs ++ [(n, el)]) (upM m n (m o))
    rw [hv]
    exact mok_new hm hn hk
  · -- drop
    subst e
    obtain ⟨d0, rfl⟩ := len1 (Option.some.inj hln).symm
    obtain ⟨hc, rfl⟩ := ifs (show dropB fs d0 = some gs from h)
    obtain ⟨so, hso⟩ := Option.isSome_iff_exists.mp hc
    obtain ⟨o, rfl, ho⟩ := sortOf_of hso
    refine ⟨⟨hf.nd.sublist (List.Sublist.map _ List.filter_sublist), fun x hx => hf.so x (List.mem_filter.mp hx).1⟩, fun z s e => ?_⟩
    have e : getF (fs.filter fun x => !decide (x.1 = o)) z = some s := e
    rw [getF_dropD] at e
    by_cases ez : z = o
    · rw [if_pos ez] at e
      cases e
    · rw [if_neg ez] at e
      obtain ⟨v, h1, h2⟩ := hm z s e
      exact ⟨v, (upM_ne ez).trans h1, h2⟩
  · -- put
    subst e
    obtain ⟨d0, d1, d2, rfl⟩ := len3 (Option.some.inj hln).symm
    obtain ⟨hc, rfl⟩ := ifs (show putB fs d0 d1 d2 = some gs from h)
    obtain ⟨c1, c2⟩ := (Bool.and_eq_true _ _).mp hc
    obtain ⟨c3, c4⟩ := (Bool.and_eq_true _ _).mp c2
    obtain ⟨n, rfl, hn⟩ := isNew_of c1
    obtain ⟨so, rfl⟩ : ∃ z, d1 = .str z := by
      cases d1 <;> first | exact ⟨_, rfl⟩ | cases c3
    have hs : so ∈ sorts := of_decide_eq_true c3
    exact ⟨fok_new hf hn hs, mok_new hm hn (vok_sort hs c4 hL)⟩
  · -- scale
    subst e
    obtain ⟨d0, d1, d2, rfl⟩ := len3 (Option.some.inj hln).symm
    obtain ⟨hc, rfl⟩ := ifs (show scaleB fs d0 d1 d2 = some gs from h)
    obtain ⟨c1, c2⟩ := (Bool.and_eq_true _ _).mp hc
    obtain ⟨el, hel, hn⟩ := among_of c1
    obtain ⟨o, rfl, ho⟩ := sortOf_of hel
    refine ⟨hf, fun z s e => ?_⟩
    show ∃ v, upM m o (some (.int (intOf (valM m (.str o)) * intOf d1 + intOf d2))) z = some v ∧ VOk L s v
    by_cases ez : z = o
    · subst ez
      rw [ho] at e
      obtain rfl := Option.some.inj e
      exact ⟨_, upM_self _ _ _, vok_int hn _⟩
    · rw [upM_ne ez]
      exact hm z s e
  · -- sum
    subst e
    obtain ⟨d0, d1, rfl⟩ := len2 (Option.some.inj hln).symm
    obtain ⟨hc, rfl⟩ := ifs (show sumB fs d0 d1 = some gs from h)
    obtain ⟨c1, c2⟩ := (Bool.and_eq_true _ _).mp hc
    obtain ⟨n, rfl, hn⟩ := isNew_of c1
    exact ⟨fok_new hf hn (by decide +kernel), mok_new hm hn (vok_int (by decide +kernel) _)⟩
  · -- join
    subst e
    obtain ⟨d0, d1, rfl⟩ := len2 (Option.some.inj hln).symm
    obtain ⟨hc, rfl⟩ := ifs (show joinB fs d0 d1 = some gs from h)
    obtain ⟨c1, c2⟩ := (Bool.and_eq_true _ _).mp hc
    obtain ⟨n, rfl, hn⟩ := isNew_of c1
    obtain ⟨l, rfl⟩ : ∃ l, d1 = .tuple l := by
      cases d1 <;> first | exact ⟨_, rfl⟩ | cases c2
    have c2 : ((decide (1 ≤ l.length) && decide (l.length ≤ 8)) && l.all (partB fs)) = true := c2
    rw [Bool.and_eq_true] at c2
    obtain ⟨ja, jl⟩ := joinM_ok (fun d hd => List.all_eq_true.mp c2.2 d hd) hm
    show FOk _ ∧ MOk (max L (l.map (partLen L)).sum) (fs ++ [(n, ("text" : Str))]) (upM m n (some (.str (joinM m l))))
    exact ⟨fok_new hf hn (by decide +kernel), mok_new (hm.mono (Nat.le_max_left _ _)) hn (vok_str (by decide +kernel) (Nat.le_trans jl (Nat.le_max_right _ _)) ja)⟩
  · -- table
    subst e
    obtain ⟨d0, d1, d2, d3, rfl⟩ := len4 (Option.some.inj hln).symm
    replace h : tableB fs d0 d1 d2 d3 = some gs := h
    unfold tableB at h
    cases ho : sortOf fs d0 with
    | none =>
      rw [ho] at h
      cases h
    | some el =>
      rw [ho] at h
      obtain ⟨hc, rfl⟩ := ifs h
      obtain ⟨c1, c2⟩ := (Bool.and_eq_true _ _).mp hc
      obtain ⟨c3, c4⟩ := (Bool.and_eq_true _ _).mp c1
      obtain ⟨c5, c6⟩ := (Bool.and_eq_true _ _).mp c3
      obtain ⟨c7, c8⟩ := (Bool.and_eq_true _ _).mp c2
      obtain ⟨o, rfl, ho⟩ := sortOf_of ho
      obtain ⟨so, rfl⟩ : ∃ z, d1 = .str z := by
        cases d1 <;> first | exact ⟨_, rfl⟩ | cases c6
      have hs : so ∈ sorts := of_decide_eq_true c6
      obtain ⟨v, hv, hk⟩ := hm o el ho
      have hw := tabM_ok hL hs hk c7 c8
      have e1 : setF fs o so = fs.map fun x => if x.1 = o then (x.1, so) else x := set_map ho
      show FOk (setF fs o so) ∧ MOk L (setF fs o so) (upM m o (some (tabM (valM m (.str o)) (items d2) d3)))
      rw [e1, valM_of hv]
      refine ⟨⟨?_, fun x hx => ?_⟩, fun z s e => ?_⟩
      · rw [List.map_map]
        have : (Prod.fst ∘ fun x : Str × Str => if x.1 = o then (x.1, so) else x) = Prod.fst := by
          funext x
          show (if x.1 = o then (x.1, so) else x).1 = x.1
          by_cases e : x.1 = o
          · rw [if_pos e]
          · rw [if_neg e]
        rw [this]
        exact hf.nd
      · obtain ⟨y, hy, rfl⟩ := List.mem_map.mp hx
        by_cases e : y.1 = o
        · rw [if_pos e]
          exact hs
        · rw [if_neg e]
          exact hf.so y hy
      · rw [getF_setD] at e
        by_cases ez : z = o
        · rw [if_pos ez, show getF fs o = some el from ho] at e
          obtain rfl := Option.some.inj e
          exact ⟨_, by rw [ez]; exact upM_self _ _ _, hw⟩
        · rw [if_neg ez] at e
          rw [upM_ne ez]
          exact hm z s e
  · -- case
    subst e
    obtain ⟨d0, d1, d2, d3, rfl⟩ := len4 (Option.some.inj hln).symm
    obtain ⟨x, y, hx, hy, e, eg⟩ : ∃ x y, rec fs d2 = .ok x ∧ rec fs d3 = .ok y ∧ eqF x y = true ∧ gs = x := by
      replace h : caseB rec fs d0 d1 d2 d3 = some gs := h
      unfold caseB at h
      cases ho : sortOf fs d0 with
      | none =>
        rw [ho] at h
        cases h
      | some el =>
        rw [ho] at h
        dsimp only at h
        by_cases k : (decide (el ∈ testL) && ofSort el d1) = true
        · rw [if_pos k] at h
          cases hy : rec fs d2 with
          | error n =>
            rw [hy] at h
            cases h
          | ok x =>
            cases hn : rec fs d3 with
            | error n =>
              rw [hy, hn] at h
              cases h
            | ok y =>
              rw [hy, hn] at h
              obtain ⟨he, rfl⟩ := ifs h
              exact ⟨_, y, rfl, rfl, he, rfl⟩
        · rw [if_neg k] at h
          cases h
    subst eg
    obtain ⟨fx, mx⟩ := ih L fs d2 gs m hx hf hm hL
    obtain ⟨fy, my⟩ := ih L fs d3 y m hy hf hm hL
    refine ⟨fx, ?_⟩
    show MOk (max (lr L d2) (lr L d3)) gs (if eqP (valM m d0) d1 = true then dr m d2 else dr m d3)
    by_cases k : eqP (valM m d0) d1 = true
    · rw [if_pos k]
      exact mx.mono (Nat.le_max_left _ _)
    · rw [if_neg k]
      intro z s e2
      refine (my.mono (Nat.le_max_right _ _)) z s ?_
      unfold eqF at e
      simp only [Bool.and_eq_true, List.all_eq_true] at e
      exact of_decide_eq_true (e.2 _ (getF_inD e2))
theorem step_ok {c : Nat} (ih : ∀ L fs d gs m, recOf c fs d = .ok gs → FOk fs → MOk L fs m → 40 ≤ L → FOk gs ∧ MOk (lRec c L d) gs (dRec c m d)) {L : Nat} {fs gs : Fs} {m : Mv} {d : PyData} (h : stepB (recOf c) fs d = some gs) (hf : FOk fs) (hm : MOk L fs m) (hL : 40 ≤ L) :
    FOk gs ∧ MOk (lenS (lRec c) L d) gs (doS (dRec c) m d) := by
  obtain ⟨w, r, rfl, h, _⟩ := stepB_some h
  exact lead_ok ih (lRec_ge c) h hf hm hL
theorem go_ok {c : Nat} (ih : ∀ L fs d gs m, recOf c fs d = .ok gs → FOk fs → MOk L fs m → 40 ≤ L → FOk gs ∧ MOk (lRec c L d) gs (dRec c m d)) : ∀ (ds : List PyData) (i L : Nat) (fs gs : Fs) (m : Mv), goB (stepB (recOf c)) i fs ds = .ok gs → FOk fs → MOk L fs m → 40 ≤ L →
    FOk gs ∧ MOk (lenGo (lenS (lRec c)) L ds) gs (doGo (doS (dRec c)) m ds)
  | [], i, L, fs, gs, m, h, hf, hm, hL => by
    obtain rfl := Except.ok.inj (show Except.ok fs = Except.ok gs from h)
    exact ⟨hf, hm⟩
  | d :: r, i, L, fs, gs, m, h, hf, hm, hL => by
    rw [go_cons] at h
    cases e : stepB (recOf c) fs d with
    | none =>
      rw [e] at h
      cases h
    | some hs =>
      rw [e] at h
      obtain ⟨f1, m1⟩ := step_ok ih e hf hm hL
      exact go_ok ih r (i + 1) _ hs gs _ h f1 m1 (Nat.le_trans hL (lenS_ge (lRec_ge c) L d))
theorem rec_ok : ∀ (c : Nat), ∀ L fs d gs m, recOf c fs d = .ok gs → FOk fs → MOk L fs m → 40 ≤ L → FOk gs ∧ MOk (lRec c L d) gs (dRec c m d)
  | 0, L, fs, d, gs, m, h, _, _, _ => by cases h
  | c + 1, L, fs, d, gs, m, h, hf, hm, hL => by
    have h : stepsB c fs d = .ok gs := h
    rw [steps_over] at h
    show FOk gs ∧ MOk (lngB c L d) gs (doB c m d)
    rw [len_over, do_over]
    cases d with
    | list ds => exact go_ok (rec_ok c) ds 0 L fs gs m h hf hm hL
    | tuple ds => exact go_ok (rec_ok c) ds 0 L fs gs m h hf hm hL
    | _ => cases h
/-- what steps that fit make of values that fit -/
theorem do_ok (c : Nat) {L : Nat} {fs gs : Fs} {d : PyData} {m : Mv} (h : stepsB c fs d = .ok gs) (hf : FOk fs) (hm : MOk L fs m) (hL : 40 ≤ L) : FOk gs ∧ MOk (lngB c L d) gs (doB c m d) := rec_ok (c + 1) L fs d gs m h hf hm hL
end St6

set_option autoImplicit false
set_option maxHeartbeats 4000000
namespace St6
open PySem PySem.Spec PyProof.Rows L2 Tg Cc Nn TL
/-! deeds on values -/
/-- the dict at p holds m -/
def HeldM (H : Hp) (p : Addr) (m : Mv) (B : Nat) : Prop := ∃ kvs, H p = some (.dK kvs) ∧ kvs.length ≤ B ∧ ∀ z, valV kvs (Sum.inr z) = (m z).map vOf
theorem valV_dropK (k j : Key) : ∀ kvs : List (Key × V), valV (dropK kvs k) j = if j = k then none else valV kvs j
  | [] => by
    show none = _
    by_cases e : j = k
    · rw [if_pos e]
    · rw [if_neg e]
      rfl
  | x :: r => by
    have ih := valV_dropK k j r
    unfold dropK at ih ⊢
    by_cases e : x.1 = k
    · rw [List.filter_cons_of_neg (by simpa using e), ih]
      by_cases ej : j = k
      · rw [if_pos ej, if_pos ej]
      · rw [if_neg ej, if_neg ej, valV_neg (fun h => ej (h.symm.trans e))]
    · rw [List.filter_cons_of_pos (by simpa using e)]
      by_cases e2 : x.1 = j
      · rw [valV_pos e2, valV_pos e2, if_neg (fun h => e (e2.trans h))]
      · rw [valV_neg e2, valV_neg e2, ih]
theorem heldm_put {H : Hp} {p : Addr} {m : Mv} {B : Nat} {kvs : List (Key × V)} (lk : kvs.length ≤ B) (hv : ∀ z, valV kvs (Sum.inr z) = (m z).map vOf) (n : Str) (v : PyData) : HeldM (upd H p (.dK (putK kvs (Sum.inr n) (vOf v)))) p (upM m n (some v)) (B + 1) := by
  refine ⟨_, upd_same, Nat.le_trans (length_putK _ _ _) (by omega), fun z => ?_⟩
  rw [valV_put]
  unfold upM
  by_cases e : z = n
  · rw [if_pos (congrArg Sum.inr e), if_pos e]
    rfl
  · rw [if_neg (fun h => e (Sum.inr.inj h)), if_neg e]
    exact hv z
theorem heldm_drop {H : Hp} {p : Addr} {m : Mv} {B : Nat} {kvs : List (Key × V)} (lk : kvs.length ≤ B) (hv : ∀ z, valV kvs (Sum.inr z) = (m z).map vOf) (n : Str) : HeldM (upd H p (.dK (dropK kvs (Sum.inr n)))) p (upM m n none) B := by
  refine ⟨_, upd_same, Nat.le_trans (List.length_filter_le _ _) lk, fun z => ?_⟩
  rw [valV_dropK]
  unfold upM
  by_cases e : z = n
  · rw [if_pos (congrArg Sum.inr e), if_pos e]
    rfl
  · rw [if_neg (fun h => e (Sum.inr.inj h)), if_neg e]
    exact hv z
theorem dget_m {H : Hp} {p : Addr} {m : Mv} {kvs : List (Key × V)} (hp : H p = some (.dK kvs)) (hv : ∀ z, valV kvs (Sum.inr z) = (m z).map vOf) {n : Str} {v : PyData} (h : m n = some v) : DGet H p (.str n) (some (vOf v)) := by
  have g := DGet.k (k := Sum.inr n) hp
  rw [hv n, h] at g
  exact g
theorem HeldM.mono {H : Hp} {p : Addr} {m : Mv} {B B' : Nat} (h : HeldM H p m B) (l : B ≤ B') : HeldM H p m B' := let ⟨k, a, b, c⟩ := h; ⟨k, a, Nat.le_trans b l, c⟩
theorem HeldM.same {H H1 : Hp} {p : Addr} {m : Mv} {B : Nat} (h : HeldM H p m B) (s : Same H H1) : HeldM H1 p m B := let ⟨k, a, b, c⟩ := h; ⟨k, s _ _ a, b, c⟩
mutual
theorem th_frD {K : PySem.W.Frag} {p : Addr} {H H1 : Hp} {kvs : List (Key × V)} (hp : H p = some (.dK kvs)) (f : Fr [p] H H1) : ∀ {v : V} {d : PyData}, Th K H v d → Pu false d → Th K H1 v d
  | _, _, .non, _ => .non
  | _, _, .bl b, _ => .bl b
  | _, _, .int i, _ => .int i
  | _, _, .str x, _ => .str x
  | _, _, .lst r t, h => by
    cases h with
    | lst e h => cases e
  | _, _, .tup (.inl r) t, h => .tup (.inl (r.elim (fun e => .inl (f _ _ (by simpa using ne_of e hp (by intro z; cases z)) e)) fun ⟨o, e⟩ => .inr ⟨o, f _ _ (by simpa using ne_of e hp (by intro z; cases z)) e⟩)) (thAll_frD hp f t h.mem)
  | _, _, .tup (.inr r) t, h => .tup (.inr r) (thAll_frD hp f t h.mem)
  | _, _, .dct _ _, h => by cases h
theorem thAll_frD {K : PySem.W.Frag} {p : Addr} {H H1 : Hp} {kvs : List (Key × V)} (hp : H p = some (.dK kvs)) (f : Fr [p] H H1) : ∀ {vs : List V} {ds : List PyData}, ThAll K H vs ds → (∀ d ∈ ds, Pu false d) → ThAll K H1 vs ds
  | _, _, .nil, _ => .nil
  | _, _, .cons h t, k => .cons (th_frD hp f h (k _ (List.mem_cons_self ..))) (thAll_frD hp f t fun d hd => k d (List.mem_cons_of_mem _ hd))
end
theorem th_val {K : PySem.W.Frag} {H : Hp} {x : V} {s : Str} {d : PyData} (h : Th K H x d) (hv : ofSort s d = true) : x = vOf d := by
  unfold ofSort at hv
  split at hv
  · cases d <;> first | (cases h; rfl) | cases hv
  · split at hv
    · cases d <;> first | (cases h; rfl) | cases hv
    · cases d <;> first | (cases h; rfl) | cases hv
/-- the numbers that scales take, small enough -/
def tmLead (rec : PyData → Bool) (w : Str) : List PyData → Bool
  | [_, t, _] => !decide (w = "scale") || decide ((intOf t).natAbs < 1073741824)
  | [_, _, y, n] => !decide (w = "case") || (rec y && rec n)
  | _ => true
def tmS (rec : PyData → Bool) : PyData → Bool
  | .tuple (.str w :: r) => tmLead rec w r
  | _ => true
def tmB : Nat → PyData → Bool
  | 0, d => (items d).all (tmS fun _ => true)
  | c + 1, d => (items d).all (tmS (tmB c))
def tRec : Nat → PyData → Bool
  | 0 => fun _ => true
  | c + 1 => tmB c
theorem tm_over (c : Nat) (d : PyData) : tmB c d = (items d).all (tmS (tRec c)) := by cases c <;> rfl
theorem growS_pos (c : Nat) (d : PyData) : 1 ≤ growS c d := by
  cases c with
  | zero => exact Nat.le_refl _
  | succ c => exact Nat.le_add_right _ _
theorem eqP_dec {L : Nat} {s : Str} {v d : PyData} (hv : VOk L s v) (hs : s ∈ sorts) (hd : ofSort s d = true) : decide (vOf v = vOf d) = eqP v d ∧ scal (vOf v) (vOf d) = true := by
  have hd2 := vok_sort (L := 40) hs hd (Nat.le_refl _)
  by_cases e : s ∈ numsL
  · obtain ⟨i, rfl⟩ := vok_num hv e
    obtain ⟨j, rfl⟩ := vok_num hd2 e
    refine ⟨decide_eq_decide.mpr ⟨fun h => V.int.inj h, fun h => congrArg V.int h⟩, rfl⟩
  · obtain ⟨y, rfl, _, _⟩ := vok_txt hv e
    obtain ⟨z, rfl, _, _⟩ := vok_txt hd2 e
    refine ⟨decide_eq_decide.mpr ⟨fun h => V.str.inj h, fun h => congrArg V.str h⟩, rfl⟩
theorem upM_same {m : Mv} {n : Str} {v : PyData} (h : m n = some v) : upM m n (some v) = m := by
  funext z
  unfold upM
  by_cases e : z = n
  · rw [if_pos e, e, h]
  · rw [if_neg e]
def spDo (K : PySem.W.Frag) (c : Nat) (w : Str) (n : Nat) : Sp := fun vs H Q _ => ∃ p v r m fs gs L B, vs = [.ref p, v] ∧ Th K H v (.tuple (.str w :: r)) ∧ Pu false (.tuple (.str w :: r)) ∧ r.length = n ∧ HeldM H p m B ∧ B + growS c (.tuple (.str w :: r)) ≤ 1000000 ∧ leadB (recOf c) fs w r = some gs ∧ FOk fs ∧ MOk L fs m ∧ 40 ≤ L ∧ lenLead (lRec c) L w r ≤ 16000000 ∧ tmLead (tRec c) w r = true ∧
  ∀ H', Fr [p] H H' → HeldM H' p (doLead (dRec c) m w r) (B + growS c (.tuple (.str w :: r))) → Q .non H'
def spDoSteps (K : PySem.W.Frag) (c : Nat) : Sp := fun vs H Q _ => ∃ p v d m fs gs L B, vs = [.ref p, v] ∧ Th K H v d ∧ (Pu false d ∨ d = .list []) ∧ HeldM H p m B ∧ B + growB c d ≤ 1000000 ∧ stepsB c fs d = .ok gs ∧ FOk fs ∧ MOk L fs m ∧ 40 ≤ L ∧ lngB c L d ≤ 16000000 ∧ tmB c d = true ∧
  ∀ H', Fr [p] H H' → HeldM H' p (doB c m d) (B + growB c d) → Q .non H'
def spDoCaseOf (K : PySem.W.Frag) : Nat → Sp
  | 0 => fun _ _ _ _ => False
  | c + 1 => spDo K (c + 1) "case" 4
theorem pi_or {X : Cx} {tg e : Expr} {wi wj : TI} (h : PI X tg e wi) (k : PI X tg e wj) : PI X tg e (fun σ H R => wi σ H R ∨ wj σ H R) :=
  ⟨fun pins s σ H R I a => a.elim (fun a => h.run pins s σ H R I a) fun a => k.run pins s σ H R I a⟩
section
variable {P : Program} {w : World} {K : PySem.W.Frag} {mg : Str → Option Value} {base : Heap} {c : Nat}
theorem scdorename : FnScope ["held", "step", "_", "old", "new"] ["held", "step"] (defScope sDoRename) := ⟨rfl, rfl, rfl, by decide +kernel, rfl, by decide +kernel, by decide +kernel⟩
theorem ok_dorename {f : Addr} {fd : FuncData} (F : FnP K "_do_rename" sDoRename f fd)     : FnOk P w K mg base CX0 1 f fd ["held", "step"] (spDo K c "rename" 2) := by
  refine F.ok scdorename (fun vs H Q E h => ?_) (fun cdv A outer s H vs Q E hr h => ?_)
  · obtain ⟨p, v, r, m, fs, gs, L, B, rfl, _⟩ := h
    rfl
  · obtain ⟨p, v, r, m, fs, gs, L, B, rfl, hT, hpu, hlen, hM, hB, h, hf, hm, hL, hl, htm, q⟩ := h
    have hu := hu_of hr
    have hs := szl
    have g1 := growS_pos c (.tuple (.str "rename" :: r))
    refine ⟨_, PSs.nox (pss_cons (ps_asg (pv 1) (pg_tup rfl (pgs_cons (pg_name (i := 2) scdorename.nd rfl (Or.inl rfl)) (pgs_cons (pg_name (i := 3) scdorename.nd rfl (Or.inl rfl)) (pgs_cons (pg_name (i := 4) scdorename.nd rfl (Or.inl rfl)) (pgs_nil))))))
      (pss_one (ps_dput hu (pv 0) (pv 4) (pe_dpop1 (pv 0) (pv 3) ⟨by rfl, by rfl, by rfl, by rfl⟩) rfl))), ?_⟩
    obtain ⟨d0, d1, rfl⟩ := len2 hlen
    obtain ⟨a, xs, rfl, hx, hA⟩ := hT.asTup
    obtain ⟨x0, x1, rfl, t0, t1⟩ := th2 hA
    obtain ⟨kvs, hp, lk, hv⟩ := hM
    
    obtain ⟨hc, rfl⟩ := ifs (show renameB fs d0 d1 = some gs from h)
    obtain ⟨c1, c2⟩ := (Bool.and_eq_true _ _).mp hc
    obtain ⟨n, rfl, hn⟩ := isNew_of c2
    obtain ⟨so, hso⟩ := Option.isSome_iff_exists.mp c1
    obtain ⟨o, rfl, ho⟩ := sortOf_of hso
    obtain rfl := t0.asStr
    obtain rfl := t1.asStr
    obtain ⟨v, hmv, hk⟩ := hm o so ho
    have no : n ≠ o := fun e => by
      rw [e, ho] at hn
      cases hn
    refine ⟨_, rfl, a, _, rfl, hx, rfl, _, _, rfl, _, _, rfl, _, _, rfl, rfl, ?_⟩
    refine ⟨_, rfl, p, rfl, .inl ⟨kvs, .inl hp⟩, _, rfl, kvs, Sum.inr o, vOf v, hp, rfl, by rw [hv o, hmv]; rfl, ?_⟩
    obtain ⟨k2, e2, l2, v2⟩ := heldm_drop (H := H) (p := p) lk hv o
    have e3 := e2.symm.trans upd_same
    cases e3
    refine ⟨_, rfl, _, rfl, p, _, rfl, DPut.k (k := Sum.inr n) upd_same (by omega), ?_⟩
    refine q _ ((fr_upd (by simp)).trans (fr_upd (by simp))) ?_
    have hh := heldm_put (H := upd H p (.dK (dropK kvs (Sum.inr o)))) (p := p) l2 v2 n v
    have em : upM (upM m o none) n (some v) = upM (upM m n (m o)) o none := by
      funext z
      unfold upM
      by_cases e1 : z = n
      · rw [if_pos e1, if_neg (fun e => no (e1.symm.trans e)), if_pos e1, hmv]
      · rw [if_neg e1, if_neg e1]
    rw [em] at hh
    exact hh.mono (by omega)
theorem scdocopy : FnScope ["held", "step", "_", "old", "new"] ["held", "step"] (defScope sDoCopy) := ⟨rfl, rfl, rfl, by decide +kernel, rfl, by decide +kernel, by decide +kernel⟩
theorem ok_docopy {f : Addr} {fd : FuncData} (F : FnP K "_do_copy" sDoCopy f fd)     : FnOk P w K mg base CX0 1 f fd ["held", "step"] (spDo K c "copy" 2) := by
  refine F.ok scdocopy (fun vs H Q E h => ?_) (fun cdv A outer s H vs Q E hr h => ?_)
  · obtain ⟨p, v, r, m, fs, gs, L, B, rfl, _⟩ := h
    rfl
  · obtain ⟨p, v, r, m, fs, gs, L, B, rfl, hT, hpu, hlen, hM, hB, h, hf, hm, hL, hl, htm, q⟩ := h
    have hu := hu_of hr
    have hs := szl
    have g1 := growS_pos c (.tuple (.str "copy" :: r))
    refine ⟨_, PSs.nox (pss_cons (ps_asg (pv 1) (pg_tup rfl (pgs_cons (pg_name (i := 2) scdocopy.nd rfl (Or.inl rfl)) (pgs_cons (pg_name (i := 3) scdocopy.nd rfl (Or.inl rfl)) (pgs_cons (pg_name (i := 4) scdocopy.nd rfl (Or.inl rfl)) (pgs_nil))))))
      (pss_one (ps_dput hu (pv 0) (pv 4) (pe_dget hu (pv 0) (pv 3) (fun _ _ => rfl)) rfl))), ?_⟩
    obtain ⟨d0, d1, rfl⟩ := len2 hlen
    obtain ⟨a, xs, rfl, hx, hA⟩ := hT.asTup
    obtain ⟨x0, x1, rfl, t0, t1⟩ := th2 hA
    obtain ⟨kvs, hp, lk, hv⟩ := hM
    
    replace h : copyB fs d0 d1 = some gs := h
    unfold copyB at h
    obtain ⟨el, hel⟩ : ∃ el, sortOf fs d0 = some el := by
      cases ho : sortOf fs d0 with
      | none =>
        rw [ho] at h
        cases h
      | some el => exact ⟨el, rfl⟩
    rw [hel] at h
    obtain ⟨hc, rfl⟩ := ifs h
    obtain ⟨o, rfl, ho⟩ := sortOf_of hel
    obtain ⟨n, rfl, hn⟩ := isNew_of hc
    obtain rfl := t0.asStr
    obtain rfl := t1.asStr
    obtain ⟨v, hmv, hk⟩ := hm o el ho
    refine ⟨_, rfl, a, _, rfl, hx, rfl, _, _, rfl, _, _, rfl, _, _, rfl, rfl, ?_⟩
    refine ⟨_, rfl, _, rfl, p, _, rfl, dget_m hp hv hmv, _, rfl, _, rfl, p, _, rfl, DPut.k (k := Sum.inr n) hp (by omega), ?_⟩
    refine q _ (fr_upd (by simp)) ?_
    show HeldM _ p (upM m n (m o)) (B + _)
    rw [hmv]
    exact (heldm_put lk hv n v).mono (by omega)
theorem scdodrop : FnScope ["held", "step"] ["held", "step"] (defScope sDoDrop) := ⟨rfl, rfl, rfl, by decide +kernel, rfl, by decide +kernel, by decide +kernel⟩
theorem ok_dodrop {f : Addr} {fd : FuncData} (F : FnP K "_do_drop" sDoDrop f fd)     : FnOk P w K mg base CX0 1 f fd ["held", "step"] (spDo K c "drop" 1) := by
  refine F.ok scdodrop (fun vs H Q E h => ?_) (fun cdv A outer s H vs Q E hr h => ?_)
  · obtain ⟨p, v, r, m, fs, gs, L, B, rfl, _⟩ := h
    rfl
  · obtain ⟨p, v, r, m, fs, gs, L, B, rfl, hT, hpu, hlen, hM, hB, h, hf, hm, hL, hl, htm, q⟩ := h
    have hu := hu_of hr
    have hs := szl
    have g1 := growS_pos c (.tuple (.str "drop" :: r))
    refine ⟨_, PSs.nox (pss_one (ps_ddel (pv 0) (pe_ix Cc.ix_B (pv 1) (pe_int) (fun _ _ => rfl)))), ?_⟩
    obtain ⟨d0, rfl⟩ := len1 hlen
    obtain ⟨a, xs, rfl, hx, hA⟩ := hT.asTup
    obtain ⟨x0, rfl, t0⟩ := th1 hA
    obtain ⟨kvs, hp, lk, hv⟩ := hM
    obtain ⟨hc, rfl⟩ := ifs (show dropB fs d0 = some gs from h)
    obtain ⟨so, hso⟩ := Option.isSome_iff_exists.mp hc
    obtain ⟨o, rfl, ho⟩ := sortOf_of hso
    obtain rfl := t0.asStr
    obtain ⟨v, hmv, hk⟩ := hm o so ho
    refine ⟨_, rfl, _, rfl, true, a, _, 1, _, rfl, rfl, hx, rfl, p, kvs, Sum.inr o, rfl, hp, rfl, by rw [hv o, hmv]; rfl, ?_⟩
    exact q _ (fr_upd (by simp)) ((heldm_drop lk hv o).mono (by omega))
theorem scdoput : FnScope ["held", "step"] ["held", "step"] (defScope sDoPut) := ⟨rfl, rfl, rfl, by decide +kernel, rfl, by decide +kernel, by decide +kernel⟩
theorem ok_doput {f : Addr} {fd : FuncData} (F : FnP K "_do_put" sDoPut f fd)     : FnOk P w K mg base CX0 1 f fd ["held", "step"] (spDo K c "put" 3) := by
  refine F.ok scdoput (fun vs H Q E h => ?_) (fun cdv A outer s H vs Q E hr h => ?_)
  · obtain ⟨p, v, r, m, fs, gs, L, B, rfl, _⟩ := h
    rfl
  · obtain ⟨p, v, r, m, fs, gs, L, B, rfl, hT, hpu, hlen, hM, hB, h, hf, hm, hL, hl, htm, q⟩ := h
    have hu := hu_of hr
    have hs := szl
    have g1 := growS_pos c (.tuple (.str "put" :: r))
    refine ⟨_, PSs.nox (pss_one (ps_dput hu (pv 0) (pe_ix Cc.ix_B (pv 1) (pe_int) (fun _ _ => rfl)) (pe_ix Cc.ix_B (pv 1) (pe_int) (fun _ _ => rfl)) rfl)), ?_⟩
    obtain ⟨d0, d1, d2, rfl⟩ := len3 hlen
    obtain ⟨a, xs, rfl, hx, hA⟩ := hT.asTup
    obtain ⟨x0, x1, x2, rfl, t0, t1, t2⟩ := th3 hA
    obtain ⟨kvs, hp, lk, hv⟩ := hM
    obtain ⟨hc, rfl⟩ := ifs (show putB fs d0 d1 d2 = some gs from h)
    obtain ⟨c1, c2⟩ := (Bool.and_eq_true _ _).mp hc
    obtain ⟨c3, c4⟩ := (Bool.and_eq_true _ _).mp c2
    obtain ⟨n, rfl, hn⟩ := isNew_of c1
    obtain rfl := t0.asStr
    obtain rfl := th_val t2 c4
    refine ⟨_, rfl, true, a, _, 3, _, rfl, rfl, hx, rfl, _, rfl, _, rfl, true, a, _, 1, _, rfl, rfl, hx, rfl, p, _, rfl, DPut.k (k := Sum.inr n) hp (by omega), ?_⟩
    exact q _ (fr_upd (by simp)) ((heldm_put lk hv n d2).mono (by omega))
theorem scdoscale : FnScope ["held", "step", "_", "field", "times", "plus"] ["held", "step"] (defScope sDoScale) := ⟨rfl, rfl, rfl, by decide +kernel, rfl, by decide +kernel, by decide +kernel⟩
theorem ok_doscale {f : Addr} {fd : FuncData} (F : FnP K "_do_scale" sDoScale f fd)     : FnOk P w K mg base CX0 1 f fd ["held", "step"] (spDo K c "scale" 3) := by
  refine F.ok scdoscale (fun vs H Q E h => ?_) (fun cdv A outer s H vs Q E hr h => ?_)
  · obtain ⟨p, v, r, m, fs, gs, L, B, rfl, _⟩ := h
    rfl
  · obtain ⟨p, v, r, m, fs, gs, L, B, rfl, hT, hpu, hlen, hM, hB, h, hf, hm, hL, hl, htm, q⟩ := h
    have hu := hu_of hr
    have hs := szl
    have g1 := growS_pos c (.tuple (.str "scale" :: r))
    refine ⟨_, PSs.nox (pss_cons (ps_asg (pv 1) (pg_tup rfl (pgs_cons (pg_name (i := 2) scdoscale.nd rfl (Or.inl rfl)) (pgs_cons (pg_name (i := 3) scdoscale.nd rfl (Or.inl rfl)) (pgs_cons (pg_name (i := 4) scdoscale.nd rfl (Or.inl rfl)) (pgs_cons (pg_name (i := 5) scdoscale.nd rfl (Or.inl rfl)) (pgs_nil)))))))
      (pss_one (ps_dput hu (pv 0) (pv 3) (pe_op op_add (pe_op op_mul (pe_dget hu (pv 0) (pv 3) (fun _ _ => rfl)) (pv 4)) (pv 5)) rfl))), ?_⟩
    obtain ⟨d0, d1, d2, rfl⟩ := len3 hlen
    obtain ⟨a, xs, rfl, hx, hA⟩ := hT.asTup
    obtain ⟨x0, x1, x2, rfl, t0, t1, t2⟩ := th3 hA
    obtain ⟨kvs, hp, lk, hv⟩ := hM
    obtain ⟨hc, rfl⟩ := ifs (show scaleB fs d0 d1 d2 = some gs from h)
    obtain ⟨c1, c2⟩ := (Bool.and_eq_true _ _).mp hc
    obtain ⟨c3, c4⟩ := (Bool.and_eq_true _ _).mp c2
    obtain ⟨el, hel, hn⟩ := among_of c1
    obtain ⟨o, rfl, ho⟩ := sortOf_of hel
    obtain ⟨i1, rfl⟩ : ∃ i, d1 = .int i := by
      cases d1 <;> first | exact ⟨_, rfl⟩ | cases c3
    obtain ⟨i2, rfl⟩ : ∃ i, d2 = .int i := by
      cases d2 <;> first | exact ⟨_, rfl⟩ | cases c4
    obtain rfl := t0.asStr
    cases t1
    cases t2
    obtain ⟨v, hmv, hk⟩ := hm o el ho
    obtain ⟨i, rfl⟩ := vok_num hk hn
    refine ⟨_, rfl, a, _, rfl, hx, rfl, _, _, rfl, _, _, rfl, _, _, rfl, _, _, rfl, rfl, ?_⟩
    have ht : i1.natAbs < 1073741824 := of_decide_eq_true (show decide (i1.natAbs < 1073741824) = true from htm)
    refine ⟨_, rfl, _, rfl, p, _, rfl, dget_m hp hv hmv, _, rfl, i, i1, rfl, rfl, .inr ⟨Int.lt_of_lt_of_le (show (-(2 : Int) ^ 64) < -1073741824 by decide) (by omega), Int.lt_of_le_of_lt (show i1 ≤ 1073741824 by omega) (by decide)⟩, _, rfl, _, _, rfl, rfl, _, rfl, _, rfl, p, _, rfl, DPut.k (k := Sum.inr o) hp (by omega), ?_⟩
    refine q _ (fr_upd (by simp)) ?_
    have e : doLead (dRec c) m "scale" [.str o, .int i1, .int i2] = upM m o (some (.int (i * i1 + i2))) := by
      show upM m o (some (.int (intOf (valM m (.str o)) * i1 + i2))) = _
      rw [valM_of hmv]
      rfl
    rw [e]
    exact (heldm_put lk hv o (.int (i * i1 + i2))).mono (by omega)
theorem scdosum : FnScope ["held", "step", "_", "new", "fields", "field"] ["held", "step"] (defScope sDoSum) := ⟨rfl, rfl, rfl, by decide +kernel, rfl, by decide +kernel, by decide +kernel⟩
theorem ok_dosum {f : Addr} {fd : FuncData} (F : FnP K "_do_sum" sDoSum f fd)  (mb_sum : mg "sum" = none)   : FnOk P w K mg base CX0 1 f fd ["held", "step"] (spDo K c "sum" 2) := by
  refine F.ok scdosum (fun vs H Q E h => ?_) (fun cdv A outer s H vs Q E hr h => ?_)
  · obtain ⟨p, v, r, m, fs, gs, L, B, rfl, _⟩ := h
    rfl
  · obtain ⟨p, v, r, m, fs, gs, L, B, rfl, hT, hpu, hlen, hM, hB, h, hf, hm, hL, hl, htm, q⟩ := h
    have hu := hu_of hr
    have hs := szl
    have g1 := growS_pos c (.tuple (.str "sum" :: r))
    refine ⟨_, PSs.nox (pss_cons (ps_asg (pv 1) (pg_tup rfl (pgs_cons (pg_name (i := 2) scdosum.nd rfl (Or.inl rfl)) (pgs_cons (pg_name (i := 3) scdosum.nd rfl (Or.inl rfl)) (pgs_cons (pg_name (i := 4) scdosum.nd rfl (Or.inl rfl)) (pgs_nil))))))
      (pss_one (ps_dput hu (pv 0) (pv 3) (pe_callB (cr_sum rfl) (by rfl) mb_sum (by decide +kernel) (pa_cons (pe_lc (own := [("field", 5)]) (g := gName 5) (tt := tYes) rfl scdosum.nd (pi_tup (pv 4)) (blkOk_by (own := [("field", 5)]) (N := ["held", "step", "_", "new", "fields", "field"]) (sc := defScope sDoSum) (by decide +kernel)) (fun _ _ _ _ _ => pg_name (i := 5) scdosum.nd rfl (Or.inl rfl)) (fun _ _ _ _ _ => pts_nil) (fun _ _ _ _ _ => pe_dget hu (pv 0) (pv 5) (fun _ _ => rfl))) pa_nil)) rfl))), ?_⟩
    obtain ⟨d0, d1, rfl⟩ := len2 hlen
    obtain ⟨a, xs, rfl, hx, hA⟩ := hT.asTup
    obtain ⟨x0, x1, rfl, t0, t1⟩ := th2 hA
    obtain ⟨kvs, hp, lk, hv⟩ := hM
    
    obtain ⟨hc, rfl⟩ := ifs (show sumB fs d0 d1 = some gs from h)
    obtain ⟨c1, c2⟩ := (Bool.and_eq_true _ _).mp hc
    obtain ⟨n, rfl, hn⟩ := isNew_of c1
    obtain ⟨l, rfl⟩ : ∃ l, d1 = .tuple l := by
      cases d1 <;> first | exact ⟨_, rfl⟩ | cases c2
    replace c2 : ((decide (1 ≤ l.length) && decide (l.length ≤ 6)) && l.all fun f => amongB numsL (sortOf fs f)) = true := c2
    rw [Bool.and_eq_true, Bool.and_eq_true] at c2
    have l6 := of_decide_eq_true c2.1.2
    obtain rfl := t0.asStr
    obtain ⟨a1, xs1, rfl, hx1, hA1⟩ := t1.asTup
    have lx1 := hA1.len
    refine ⟨_, rfl, a, _, rfl, hx, rfl, _, _, rfl, _, _, rfl, _, _, rfl, rfl, ?_⟩
    refine ⟨_, rfl, a1, rfl, ⟨_, hx1⟩, fun D nD => ?_⟩
    have npD : p ≠ D := ne_of_none hp nD
    refine lc_acc (walk_tup (K := K) (a := a1) (xs := xs1)) (fun i acc H' => acc = ((l.take i).map fun f => V.int (intOf (valM m f))) ∧ But D H H') ⟨rfl, But.refl.upd⟩ (fun i acc H' _ ⟨_, b⟩ _ => Sq.same (t := true) hx1 (b.new nD)) ?_ ?_
    · rintro i x acc H1 H2 hi la ⟨rfl, b⟩ hD ⟨rfl, hx2⟩
      obtain ⟨dx, hdx, tx, mx⟩ := ThAll.get2 hA1 hx2
      obtain ⟨el, hel, hnn⟩ := among_of (List.all_eq_true.mp c2.2 dx mx)
      obtain ⟨o, rfl, ho⟩ := sortOf_of hel
      obtain rfl := tx.asStr
      obtain ⟨v, hmv, hk⟩ := hm o el ho
      obtain ⟨iv, rfl⟩ := vok_num hk hnn
      refine ⟨rfl, _, rfl, _, rfl, p, _, rfl, dget_m (b.new nD _ _ hp) hv hmv, push hD la (by omega) ⟨?_, b.upd⟩⟩
      rw [List.take_succ, hdx]
      show _ = ((l.take i) ++ [PyData.str o]).map _
      rw [List.map_append]
      show _ = _ ++ [V.int (intOf (valM m (.str o)))]
      rw [valM_of hmv]
      rfl
    · rintro acc H1 la ⟨rfl, b⟩ hD
      rw [lx1, List.take_length] at hD
      have s1 := b.new nD
      have hp1 := s1 _ _ hp
      refine ⟨D, l.map (fun f => intOf (valM m f)), rfl, SqL.of (by rw [List.map_map]; exact hD), _, rfl, _, rfl, p, _, rfl, DPut.k (k := Sum.inr n) hp1 (by omega), ?_⟩
      exact q _ ((fr_same s1).trans (fr_upd (by simp))) ((heldm_put lk hv n (.int (sumM m l))).mono (by omega))
theorem scdojoin : FnScope ["held", "step", "_", "new", "parts", "word", "thing"] ["held", "step"] (defScope sDoJoin) := ⟨rfl, rfl, rfl, by decide +kernel, rfl, by decide +kernel, by decide +kernel⟩
theorem ok_dojoin {f : Addr} {fd : FuncData} (F : FnP K "_do_join" sDoJoin f fd)     : FnOk P w K mg base CX0 1 f fd ["held", "step"] (spDo K c "join" 2) := by
  refine F.ok scdojoin (fun vs H Q E h => ?_) (fun cdv A outer s H vs Q E hr h => ?_)
  · obtain ⟨p, v, r, m, fs, gs, L, B, rfl, _⟩ := h
    rfl
  · obtain ⟨p, v, r, m, fs, gs, L, B, rfl, hT, hpu, hlen, hM, hB, h, hf, hm, hL, hl, htm, q⟩ := h
    have hu := hu_of hr
    have hs := szl
    have g1 := growS_pos c (.tuple (.str "join" :: r))
    refine ⟨_, PSs.nox (pss_cons (ps_asg (pv 1) (pg_tup rfl (pgs_cons (pg_name (i := 2) scdojoin.nd rfl (Or.inl rfl)) (pgs_cons (pg_name (i := 3) scdojoin.nd rfl (Or.inl rfl)) (pgs_cons (pg_name (i := 4) scdojoin.nd rfl (Or.inl rfl)) (pgs_nil))))))
      (pss_one (ps_dput hu (pv 0) (pv 3) (pe_join (pe_str) (pe_lc (own := [("word", 5), ("thing", 6)]) (tt := tYes) rfl scdojoin.nd (pi_tup (pv 4)) (blkOk_by (own := [("word", 5), ("thing", 6)]) (N := ["held", "step", "_", "new", "parts", "word", "thing"]) (sc := defScope sDoJoin) (by decide +kernel)) (fun _ _ _ _ _ => Cc.pg_tupk (K := K) (n := 2) rfl rfl (pgs_cons (pg_name (i := 5) scdojoin.nd rfl (Or.inl rfl)) (pgs_cons (pg_name (i := 6) scdojoin.nd rfl (Or.inl rfl)) (pgs_nil)))) (fun _ _ _ _ _ => pts_nil) (fun _ _ _ _ _ => pe_ifExp (pt_cmpR op_eq (pv 5) (pe_str) (nomark _)) (pv 6) (pe_dget hu (pv 0) (pv 6) (fun _ _ => rfl))))) rfl))), ?_⟩
    obtain ⟨d0, d1, rfl⟩ := len2 hlen
    obtain ⟨a, xs, rfl, hx, hA⟩ := hT.asTup
    obtain ⟨x0, x1, rfl, t0, t1⟩ := th2 hA
    obtain ⟨kvs, hp, lk, hv⟩ := hM
    
    obtain ⟨hc, rfl⟩ := ifs (show joinB fs d0 d1 = some gs from h)
    obtain ⟨c1, c2⟩ := (Bool.and_eq_true _ _).mp hc
    obtain ⟨n, rfl, hn⟩ := isNew_of c1
    obtain ⟨l, rfl⟩ : ∃ l, d1 = .tuple l := by
      cases d1 <;> first | exact ⟨_, rfl⟩ | cases c2
    replace c2 : ((decide (1 ≤ l.length) && decide (l.length ≤ 8)) && l.all (partB fs)) = true := c2
    rw [Bool.and_eq_true, Bool.and_eq_true] at c2
    have l8 := of_decide_eq_true c2.1.2
    have hl : max L (l.map (partLen L)).sum ≤ 16000000 := hl
    have jj := joinM_ok (fun d hd => List.all_eq_true.mp c2.2 d hd) hm
    obtain rfl := t0.asStr
    obtain ⟨a1, xs1, rfl, hx1, hA1⟩ := t1.asTup
    have lx1 := hA1.len
    refine ⟨_, rfl, a, _, rfl, hx, rfl, _, _, rfl, _, _, rfl, _, _, rfl, rfl, ?_⟩
    refine ⟨⟨_, rfl⟩, _, rfl, a1, rfl, ⟨_, hx1⟩, fun D nD => ?_⟩
    have npD : p ≠ D := ne_of_none hp nD
    refine lc_acc (walk_tup (K := K) (a := a1) (xs := xs1)) (fun i acc H' => acc = ((l.take i).map fun f => V.str (partM m f)) ∧ But D H H') ⟨rfl, But.refl.upd⟩ (fun i acc H' _ ⟨_, b⟩ _ => Sq.same (t := true) hx1 (b.new nD)) ?_ ?_
    · rintro i x acc H1 H2 hi la ⟨rfl, b⟩ hD ⟨rfl, hx2⟩
      obtain ⟨dx, hdx, tx, mx⟩ := ThAll.get2 hA1 hx2
      have s2 := b.new nD
      have hstep : ∀ y : Str, y = partM m dx → ((l.take (i + 1)).map fun f => V.str (partM m f)) = ((l.take i).map fun f => V.str (partM m f)) ++ [V.str y] := fun y ey => by
        rw [List.take_succ, hdx]
        show ((l.take i) ++ [dx]).map _ = _
        rw [List.map_append, ey]
        rfl
      rcases part_of (List.all_eq_true.mp c2.2 dx mx) hm with ⟨z, rfl, lz, az⟩ | ⟨o, z, rfl, hmv, lz, az⟩
      · obtain ⟨pz, ys, rfl, hpz, hZ⟩ := tx.asTup
        obtain ⟨y0, y1, rfl, u0, u1⟩ := thAll2 hZ
        obtain rfl := u0.asStr
        obtain rfl := u1.asStr
        refine ⟨pz, _, rfl, Sq.same (t := true) hpz s2, rfl, _, _, rfl, _, _, rfl, rfl, rfl, ?_⟩
        exact ⟨_, rfl, rfl, _, rfl, iteT ⟨_, rfl, push hD la (by omega) ⟨(hstep z rfl).symm, b.upd⟩⟩⟩
      · obtain ⟨pz, ys, rfl, hpz, hZ⟩ := tx.asTup
        obtain ⟨y0, y1, rfl, u0, u1⟩ := thAll2 hZ
        obtain rfl := u0.asStr
        obtain rfl := u1.asStr
        refine ⟨pz, _, rfl, Sq.same (t := true) hpz s2, rfl, _, _, rfl, _, _, rfl, rfl, rfl, ?_⟩
        have ez : z = partM m (.tuple [.str "field", .str o]) := by
          show z = txtOf (valM m (.str o))
          rw [valM_of hmv]
          rfl
        exact ⟨_, rfl, rfl, _, rfl, iteF ⟨_, rfl, _, rfl, p, _, rfl, dget_m (s2 _ _ hp) hv hmv, push hD la (by omega) ⟨(hstep z ez).symm, b.upd⟩⟩⟩
    · rintro acc H1 la ⟨rfl, b⟩ hD
      rw [lx1, List.take_length] at hD
      have s1 := b.new nD
      have hp1 := s1 _ _ hp
      have el : ((l.map (partM m)).map (·.length)).sum + (l.map (partM m)).length * (Str.ofString "").length = (joinM m l).length := by
        have e0 : (Str.ofString "").length = 0 := by decide +kernel
        rw [e0, Nat.mul_zero, Nat.add_zero]
        exact (join_facts fun z hz => by
          obtain ⟨d, hd, rfl⟩ := List.mem_map.mp hz
          exact (part_len (List.all_eq_true.mp c2.2 d hd) hm).2).2.symm
      refine ⟨_, D, l.map (partM m), rfl, rfl, .inl (SqL.of (by rw [List.map_map]; exact hD)), by rw [el]; omega, _, rfl, _, rfl, p, _, rfl, DPut.k (k := Sum.inr n) hp1 (by omega), ?_⟩
      exact q _ ((fr_same s1).trans (fr_upd (by simp))) ((heldm_put lk hv n (.str (joinM m l))).mono (by omega))
end
end St6

set_option autoImplicit false
set_option maxHeartbeats 4000000
namespace St6
open PySem PySem.Spec PyProof.Rows L2 Tg Cc Nn TL
/-! tables, cases, all steps -/

theorem tabM_skip {v : PyData} {rows : List PyData} {other : PyData} (h : rows.find? (fun r => eqP v (firstOf r)) = none) : tabM v rows other = match other with
    | .tuple [x] => x
    | _ => v := by
  unfold tabM
  rw [h] <;> rfl
theorem tabM_hit {v : PyData} {rows : List PyData} {other r : PyData} (h : rows.find? (fun r => eqP v (firstOf r)) = some r) : tabM v rows other = secondOf r := by
  unfold tabM
  rw [h]
theorem sq_frD {K : PySem.W.Frag} {p : Addr} {H H1 : Hp} {kvs : List (Key × V)} (hp : H p = some (.dK kvs)) (f : Fr [p] H H1) {a : Addr} {xs : List V} (h : SqT K H a xs) : SqT K H1 a xs := by
  rcases h with h | h
  · rcases h with e | ⟨o, e⟩
    · exact .inl (.inl (f _ _ (by simpa using ne_of e hp (by intro z; cases z)) e))
    · exact .inl (.inr ⟨o, f _ _ (by simpa using ne_of e hp (by intro z; cases z)) e⟩)
  · exact .inr h
theorem find_take {α : Type} {f : α → Bool} {l : List α} {i : Nat} {x : α} (h : (l.take i).find? f = none) (hx : l[i]? = some x) (hf : f x = true) : l.find? f = some x := by
  obtain ⟨hlt, e⟩ := List.getElem?_eq_some_iff.mp hx
  have el : l = l.take i ++ (x :: l.drop (i + 1)) := by
    rw [← e, ← List.drop_eq_getElem_cons hlt, List.take_append_drop]
  rw [el, List.find?_append, h]
  show (x :: l.drop (i + 1)).find? f = some x
  rw [List.find?_cons_of_pos hf]
theorem find_snoc {α : Type} {f : α → Bool} {l : List α} {i : Nat} {x : α} (h : (l.take i).find? f = none) (hx : l[i]? = some x) (hf : f x = false) : (l.take (i + 1)).find? f = none := by
  rw [List.take_succ, hx, List.find?_append, h]
  show ([x] : List α).find? f = none
  rw [List.find?_cons_of_neg (by rw [hf]; decide)]
  rfl
section
variable {P : Program} {w : World} {K : PySem.W.Frag} {mg : Str → Option Value} {base : Heap} {c : Nat}
theorem scdotable : FnScope ["held", "step", "field", "rows", "other", "value", "new_value"] ["held", "step"] (defScope sDoTable) := ⟨rfl, rfl, rfl, by decide +kernel, rfl, by decide +kernel, by decide +kernel⟩
theorem ok_dotable {f : Addr} {fd : FuncData} (F : FnP K "_do_table" sDoTable f fd)     : FnOk P w K mg base CX0 1 f fd ["held", "step"] (spDo K c "table" 4) := by
  refine F.ok scdotable (fun vs H Q E h => ?_) (fun cdv A outer s H vs Q E hr h => ?_)
  · obtain ⟨p, v, r, m, fs, gs, L, B, rfl, _⟩ := h
    rfl
  · obtain ⟨p, v, r, m, fs, gs, L, B, rfl, hT, hpu, hlen, hM, hB, h, hf, hm, hL, hl, htm, q⟩ := h
    have hu := hu_of hr
    have hs := szl
    have g1 := growS_pos c (.tuple (.str "table" :: r))
    refine ⟨_, PSs.nox (pss_cons (ps_par3 (i := 2) (j := 3) (l := 4) rfl scdotable.nd rfl rfl rfl (by decide) (by decide) (by decide) rfl rfl rfl (pa_cons (pe_ix Cc.ix_B (pv 1) (pe_int) (fun _ _ => rfl)) (pa_cons (pe_ix Cc.ix_B (pv 1) (pe_int) (fun _ _ => rfl)) (pa_cons (pe_ix Cc.ix_B (pv 1) (pe_int) (fun _ _ => rfl)) pa_nil))) (by rfl))
      (pss_cons (ps_for PassesOwn.never rfl (pi_tup (pv 3)) (pg_tup rfl (pgs_cons (pg_name (i := 5) scdotable.nd rfl (Or.inl rfl)) (pgs_cons (pg_name (i := 6) scdotable.nd rfl (Or.inl rfl)) (pgs_nil)))) (pss_one (ps_if (pt_cmpR op_eq (pe_dget hu (pv 0) (pv 2) (fun _ _ => rfl)) (pv 5) (nomark _)) (pss_cons (ps_dput hu (pv 0) (pv 2) (pv 6) rfl)
      (pss_one (ps_retN))) (pss_nil))))
      (pss_one (ps_if (pt_cmpR op_notN (pv 4) (pe_non) (nomark _)) (pss_one (ps_dput hu (pv 0) (pv 2) (pe_ix Cc.ix_B (pv 4) (pe_int) (fun _ _ => rfl)) rfl)) (pss_nil))))), ?_⟩
    obtain ⟨d0, d1, d2, d3, rfl⟩ := len4 hlen
    obtain ⟨a, xs, rfl, hx, hA⟩ := hT.asTup
    obtain ⟨x0, x1, x2, x3, rfl, t0, t1, t2, t3⟩ := th4 hA
    obtain ⟨kvs, hp, lk, hv⟩ := hM
    replace h : tableB fs d0 d1 d2 d3 = some gs := h
    unfold tableB at h
    obtain ⟨el, hel⟩ : ∃ el, sortOf fs d0 = some el := by
      cases ho : sortOf fs d0 with
      | none =>
        rw [ho] at h
        cases h
      | some el => exact ⟨el, rfl⟩
    rw [hel] at h
    obtain ⟨hc, rfl⟩ := ifs h
    obtain ⟨c1, c2⟩ := (Bool.and_eq_true _ _).mp hc
    obtain ⟨c3, c4⟩ := (Bool.and_eq_true _ _).mp c1
    obtain ⟨c5, c6⟩ := (Bool.and_eq_true _ _).mp c3
    obtain ⟨c7, c8⟩ := (Bool.and_eq_true _ _).mp c2
    obtain ⟨o, rfl, ho⟩ := sortOf_of hel
    obtain ⟨so, rfl⟩ : ∃ z, d1 = .str z := by
      cases d1 <;> first | exact ⟨_, rfl⟩ | cases c6
    have hel : el ∈ sorts := hf.get ho
    obtain ⟨l, rfl⟩ : ∃ l, d2 = .tuple l := by
      cases d2 <;> first | exact ⟨_, rfl⟩ | cases c7
    have c7' : ((decide (l.length ≤ 4) && l.all (rowB el so)) && decide ((l.map keyOf).Nodup)) = true := c7
    rw [Bool.and_eq_true, Bool.and_eq_true] at c7'
    have rowsOk := List.all_eq_true.mp c7'.1.2
    obtain rfl := t0.asStr
    obtain ⟨a2, xs2, rfl, hx2, hA2⟩ := t2.asTup
    have lx2 := hA2.len
    obtain ⟨v, hmv, hk⟩ := hm o el ho
    have hdo : doLead (dRec c) m "table" [.str o, .str so, .tuple l, d3] = upM m o (some (tabM v l d3)) := by
      show upM m o (some (tabM (valM m (.str o)) l d3)) = _
      rw [valM_of hmv]
    rw [hdo] at q
    refine ⟨_, rfl, true, a, _, 1, _, rfl, rfl, hx, rfl, _, rfl, true, a, _, 3, _, rfl, rfl, hx, rfl, _, rfl, true, a, _, 4, _, rfl, rfl, hx, rfl, _, _, _, rfl, ?_⟩
    refine ⟨_, rfl, a2, rfl, ⟨_, hx2⟩, for_tup (K := K) (a := a2) (xs := xs2) (fun i σ' H' => (∃ y5 y6, σ' = [some (.ref p), some (.ref a), some (.str o), some (.ref a2), some x3, y5, y6]) ∧ H' = H ∧ (l.take i).find? (fun r => eqP v (firstOf r)) = none)
      ⟨⟨_, _, rfl⟩, rfl, rfl⟩ (fun i σ' H' _ ⟨_, e, _⟩ => by rw [e]; exact hx2) ?_ ?_⟩
    · rintro i x σ' H' hxi ⟨⟨y5, y6, rfl⟩, rfl, hno⟩
      obtain ⟨dx, hdx, tx, mx⟩ := ThAll.get2 hA2 hxi
      obtain ⟨u, w, rfl, hu, hw⟩ := row_of (rowsOk dx mx)
      obtain ⟨pz, zs, rfl, hpz, hZ⟩ := tx.asTup
      obtain ⟨z0, z1, rfl, u0, u1⟩ := thAll2 hZ
      obtain rfl := th_val u0 hu
      obtain rfl := th_val u1 hw
      obtain ⟨ed, es⟩ := eqP_dec hk hel hu
      refine ⟨pz, _, rfl, hpz, rfl, _, _, rfl, _, _, rfl, rfl, ?_⟩
      refine ⟨_, rfl, _, rfl, p, _, rfl, dget_m hp hv hmv, _, rfl, es, _, rfl, ?_⟩
      rw [ed]
      cases e : eqP v u with
      | true =>
        refine iteT ⟨_, rfl, _, rfl, _, rfl, p, _, rfl, DPut.k (k := Sum.inr o) hp (by omega), ?_⟩
        refine q _ (fr_upd (by simp)) ?_
        rw [tabM_hit (find_take hno hdx e)]
        exact (heldm_put lk hv o w).mono (by omega)
      | false => exact iteF ⟨⟨_, _, rfl⟩, rfl, find_snoc hno hdx e⟩
    · rintro σ' H' ⟨⟨y5, y6, rfl⟩, rfl, hno⟩
      rw [lx2, List.take_length] at hno
      rw [tabM_skip hno] at q
      match d3, c8, t3, q with
      | .none, c8, t3, q =>
        cases t3
        refine ⟨_, rfl, rfl, _, rfl, iteF ?_⟩
        refine q _ Fr.refl ?_
        show HeldM _ p (upM m o (some v)) _
        rw [upM_same hmv]
        exact ⟨kvs, hp, by omega, hv⟩
      | .tuple [y], c8, t3, q =>
        obtain ⟨a3, xs3, rfl, hx3, hA3⟩ := t3.asTup
        obtain ⟨w3, r3, rfl, tw, hr3⟩ := hA3.cons_of
        obtain rfl := hr3.nil_of
        obtain rfl := th_val tw c8
        refine ⟨_, rfl, rfl, _, rfl, iteT ?_⟩
        refine ⟨_, rfl, true, a3, _, 0, _, rfl, rfl, hx3, at0, _, rfl, _, rfl, p, _, rfl, DPut.k (k := Sum.inr o) hp (by omega), ?_⟩
        exact q _ (fr_upd (by simp)) ((heldm_put lk hv o y).mono (by omega))
theorem scdocase : FnScope ["held", "step", "_", "field", "value", "yes", "no"] ["held", "step"] (defScope sDoCase) := ⟨rfl, rfl, rfl, by decide +kernel, rfl, by decide +kernel, by decide +kernel⟩
theorem ok_docase {f : Addr} {fd : FuncData} (F : FnP K "_do_case" sDoCase f fd) {f__do_steps : Addr} {fd__do_steps : FuncData} (c__do_steps : Cl P w K mg base CX0 "_do_steps" (2 + 2 * c) ["held", "steps"] (spDoSteps K c) f__do_steps fd__do_steps)    : FnOk P w K mg base CX0 (2 + 2 * c + 1) f fd ["held", "step"] (spDo K (c + 1) "case" 4) := by
  refine F.ok scdocase (fun vs H Q E h => ?_) (fun cdv A outer s H vs Q E hr h => ?_)
  · obtain ⟨p, v, r, m, fs, gs, L, B, rfl, _⟩ := h
    rfl
  · obtain ⟨p, v, r, m, fs, gs, L, B, rfl, hT, hpu, hlen, hM, hB, h, hf, hm, hL, hl, htm, q⟩ := h
    have hu := hu_of hr
    have hs := szl
    refine ⟨_, PSs.nox (pss_cons (ps_asg (pv 1) (pg_tup rfl (pgs_cons (pg_name (i := 2) scdocase.nd rfl (Or.inl rfl)) (pgs_cons (pg_name (i := 3) scdocase.nd rfl (Or.inl rfl)) (pgs_cons (pg_name (i := 4) scdocase.nd rfl (Or.inl rfl)) (pgs_cons (pg_name (i := 5) scdocase.nd rfl (Or.inl rfl)) (pgs_cons (pg_name (i := 6) scdocase.nd rfl (Or.inl rfl)) (pgs_nil))))))))
      (pss_one (ps_expr (pe_call c__do_steps.ok hr (by rfl) c__do_steps.m c__do_steps.kp c__do_steps.b .nil pass0 (pa_cons (pv 0) (pa_cons (pe_ifExp (pt_cmpR op_eq (pe_dget hu (pv 0) (pv 3) (fun _ _ => rfl)) (pv 4) (nomark _)) (pv 5) (pv 6)) pa_nil)))))), ?_⟩
    obtain ⟨d0, d1, d2, d3, rfl⟩ := len4 hlen
    obtain ⟨a, xs, rfl, hx, hA⟩ := hT.asTup
    obtain ⟨x0, x1, x2, x3, rfl, t0, t1, t2, t3⟩ := th4 hA
    obtain ⟨kvs, hp, lk, hv⟩ := id hM
    obtain ⟨el, x, y, hel, hte, hval, hy, hn⟩ : ∃ el x y, sortOf fs d0 = some el ∧ el ∈ testL ∧ ofSort el d1 = true ∧ stepsB c fs d2 = .ok x ∧ stepsB c fs d3 = .ok y := by
      replace h : caseB (stepsB c) fs d0 d1 d2 d3 = some gs := h
      unfold caseB at h
      cases ho : sortOf fs d0 with
      | none =>
        rw [ho] at h
        cases h
      | some el =>
        rw [ho] at h
        dsimp only at h
        by_cases k : (decide (el ∈ testL) && ofSort el d1) = true
        · rw [if_pos k] at h
          rw [Bool.and_eq_true] at k
          cases hy : stepsB c fs d2 with
          | error n =>
            rw [hy] at h
            cases h
          | ok x =>
            cases hn : stepsB c fs d3 with
            | error n =>
              rw [hy, hn] at h
              cases h
            | ok y => exact ⟨el, x, y, rfl, of_decide_eq_true k.1, k.2, rfl, rfl⟩
        · rw [if_neg k] at h
          cases h
    obtain ⟨o, rfl, ho⟩ := sortOf_of hel
    have hso : el ∈ sorts := hf.get ho
    obtain rfl := t0.asStr
    obtain rfl := th_val t1 hval
    obtain ⟨v, hmv, hk⟩ := hm o el ho
    obtain ⟨ed, es⟩ := eqP_dec hk hso hval
    have gsz : growS (c + 1) (.tuple [.str "case", .str o, d1, d2, d3]) = 1 + (growB c (.str "case") + (growB c (.str o) + (growB c d1 + (growB c d2 + (growB c d3 + 0))))) := rfl
    have hl : max (lngB c L d2) (lngB c L d3) ≤ 16000000 := hl
    have htm : (tmB c d2 && tmB c d3) = true := htm
    rw [Bool.and_eq_true] at htm
    have pm : ∀ z ∈ [PyData.str "case", .str o, d1, d2, d3], Pu false z := hpu.mem
    have hdo : doLead (dRec (c + 1)) m "case" [.str o, d1, d2, d3] = if eqP v d1 = true then doB c m d2 else doB c m d3 := by
      show (if eqP (valM m (.str o)) d1 = true then doB c m d2 else doB c m d3) = _
      rw [valM_of hmv]
    rw [hdo] at q
    refine ⟨_, rfl, a, _, rfl, hx, rfl, _, _, rfl, _, _, rfl, _, _, rfl, _, _, rfl, _, _, rfl, rfl, ?_⟩
    refine ⟨_, rfl, _, rfl, _, rfl, p, _, rfl, dget_m hp hv hmv, _, rfl, es, _, rfl, ?_⟩
    rw [ed]
    cases e : eqP v d1 with
    | true =>
      rw [e, if_pos rfl] at q
      exact iteT ⟨_, rfl, p, _, d2, m, fs, x, L, B, rfl, t2, .inl (pm _ (by simp)), hM, by omega, hy, hf, hm, hL, by omega, htm.1, fun H' f hM' => q H' f (hM'.mono (by omega))⟩
    | false =>
      rw [e, if_neg (by decide)] at q
      exact iteF ⟨_, rfl, p, _, d3, m, fs, y, L, B, rfl, t3, .inl (pm _ (by simp)), hM, by omega, hn, hf, hm, hL, by omega, htm.2, fun H' f hM' => q H' f (hM'.mono (by omega))⟩
theorem scdosteps : FnScope ["held", "steps", "step", "deed"] ["held", "steps"] (defScope sDoSteps) := ⟨rfl, rfl, rfl, by decide +kernel, rfl, by decide +kernel, by decide +kernel⟩
theorem ok_dosteps {f : Addr} {fd : FuncData} (F : FnP K "_do_steps" sDoSteps f fd)   {aD f_rename f_copy f_drop f_put f_scale f_sum f_join f_table f_case : Addr} (m_DEEDS : mg "DEEDS" = some (.ref aD)) (hD_ : KTab K w aD (leadsV f_rename f_copy f_drop f_put f_scale f_sum f_join f_table f_case)) (H_rename : Held P w K mg base (1 + 2 * c) f_rename (spDo K c "rename" 2)) (H_copy : Held P w K mg base (1 + 2 * c) f_copy (spDo K c "copy" 2)) (H_drop : Held P w K mg base (1 + 2 * c) f_drop (spDo K c "drop" 1)) (H_put : Held P w K mg base (1 + 2 * c) f_put (spDo K c "put" 3)) (H_scale : Held P w K mg base (1 + 2 * c) f_scale (spDo K c "scale" 3)) (H_sum : Held P w K mg base (1 + 2 * c) f_sum (spDo K c "sum" 2)) (H_join : Held P w K mg base (1 + 2 * c) f_join (spDo K c "join" 2)) (H_table : Held P w K mg base (1 + 2 * c) f_table (spDo K c "table" 4)) (H_case : Held P w K mg base (1 + 2 * c) f_case (spDoCaseOf K c))  : FnOk P w K mg base CX0 (1 + 2 * c + 1) f fd ["held", "steps"] (spDoSteps K c) := by
  refine F.ok scdosteps (fun vs H Q E h => ?_) (fun cdv A outer s H vs Q E hr h => ?_)
  · obtain ⟨p, v, d, m, fs, gs, L, B, rfl, _⟩ := h
    rfl
  · obtain ⟨p, v, d, m, fs, gs, L, B, rfl, hT, hpu, hM, hB, hst, hf, hm, hL, hl, htm, q⟩ := h
    have hu := hu_of hr
    have hs := szl
    refine ⟨_, PSs.nox (pss_one (ps_for PassesOwn.never rfl (pi_or (pi_list (pv 1)) (pi_tup (pv 1))) (pg_name (i := 2) scdosteps.nd rfl (Or.inl rfl)) (pss_cons (ps_set (i := 3) scdosteps.nd rfl (Or.inl rfl) (pe_ix Nn.ix_ktab (pe_glob (v := .ref aD) rfl m_DEEDS rfl) (pe_ix Cc.ix_B (pv 2) (pe_int) (fun _ _ => rfl)) (fun _ _ => rfl)))
      (pss_one (ps_expr (Nn.pe_callH (k := 1 + 2 * c) (i := 3) hr rfl (Or.inl rfl) (pa_cons (pv 0) (pa_cons (pv 2) pa_nil)))))))), ?_⟩
    rcases hpu with hpu | rfl
    · have htu : isTup d = true := by
        rw [steps_over] at hst
        cases d <;> first | rfl | (cases hst; done) | (cases hpu with | lst e => cases e)
      obtain ⟨ds, rfl⟩ := isTup_eq htu
      obtain ⟨a, xs, rfl, hx, hA⟩ := hT.asTup
      have lx := hA.len
      rw [steps_over] at hst
      replace hst : goB (stepB (recOf c)) 0 fs ds = .ok gs := hst
      have eg : growB c (.tuple ds) = (ds.map (growS c)).sum := grow_sum c _
      have el : lngB c L (.tuple ds) = lenGo (lenS (lRec c)) L ds := len_over c L _
      have et : tmB c (.tuple ds) = ds.all (tmS (tRec c)) := tm_over c _
      have ed : doB c m (.tuple ds) = doGo (doS (dRec c)) m ds := do_over c m _
      rw [eg] at hB q
      rw [el] at hl
      rw [et] at htm
      rw [ed] at q
      refine .inr ⟨_, rfl, a, rfl, ⟨xs, hx⟩, for_tup (K := K) (a := a) (xs := xs) (fun i σ' H' => (∃ y2 y3, σ' = [some (.ref p), some (.ref a), y2, y3]) ∧ Fr [p] H H' ∧ ∃ mi fsi Li Bi, HeldM H' p mi Bi ∧ Bi + ((ds.drop i).map (growS c)).sum ≤ B + (ds.map (growS c)).sum ∧ goB (stepB (recOf c)) i fsi (ds.drop i) = .ok gs ∧ FOk fsi ∧ MOk Li fsi mi ∧ 40 ≤ Li ∧ lenGo (lenS (lRec c)) Li (ds.drop i) ≤ 16000000 ∧ doGo (doS (dRec c)) mi (ds.drop i) = doGo (doS (dRec c)) m ds)
        ⟨⟨_, _, rfl⟩, Fr.refl, m, fs, L, B, hM, Nat.le_refl _, hst, hf, hm, hL, hl, rfl⟩ (fun i σ' H' _ ⟨_, f, _⟩ => ?_) ?_ ?_⟩
      · obtain ⟨kvs, hp, _⟩ := hM
        exact sq_frD hp f hx
      · rintro i x σ' H' hxi ⟨⟨y2, y3, rfl⟩, f, mi, fsi, Li, Bi, hMi, hBi, hgo, hfi, hmi, hLi, hli, hdo⟩
        obtain ⟨dx, hdx, tx, mx⟩ := ThAll.get2 hA hxi
        have hdr : ds.drop i = dx :: ds.drop (i + 1) := by
          obtain ⟨hlt, e⟩ := List.getElem?_eq_some_iff.mp hdx
          rw [List.drop_eq_getElem_cons hlt, e]
        rw [hdr, go_cons] at hgo
        rw [hdr, List.map_cons, List.sum_cons] at hBi
        rw [hdr] at hli hdo
        obtain ⟨gi, hs1, hgo2⟩ : ∃ g, stepB (recOf c) fsi dx = some g ∧ goB (stepB (recOf c)) (i + 1) g (ds.drop (i + 1)) = .ok gs := by
          cases e : stepB (recOf c) fsi dx with
          | none =>
            rw [e] at hgo
            cases hgo
          | some g =>
            rw [e] at hgo
            exact ⟨g, rfl, hgo⟩
        obtain ⟨fok2, mok2⟩ := step_ok (rec_ok c) hs1 hfi hmi hLi
        have htx := List.all_eq_true.mp htm dx mx
        have pdx := hpu.mem dx mx
        have lge : lenS (lRec c) Li dx ≤ 16000000 := Nat.le_trans (lenGo_ge (lenS_ge (lRec_ge c)) (ds.drop (i + 1)) (lenS (lRec c) Li dx)) hli
        obtain ⟨kvs, hp, _⟩ := id hM
        have tdx := th_frD hp f tx pdx
        obtain ⟨wd, r, rfl, hlead, hln⟩ := stepB_some hs1
        obtain ⟨a2, ys, rfl, hx2, hA2⟩ := tdx.asTup
        obtain ⟨y0, yr, rfl, t0, hY⟩ := hA2.cons_of
        obtain rfl := t0.asStr
        replace htx : tmLead (tRec c) wd r = true := htx
        replace lge : lenLead (lRec c) Li wd r ≤ 16000000 := lge
        have fin : ∀ H2, Fr [p] H' H2 → HeldM H2 p (doLead (dRec c) mi wd r) (Bi + growS c (.tuple (.str wd :: r))) → Fr [p] H H2 ∧ ∃ mi fsi Li Bi, HeldM H2 p mi Bi ∧ Bi + ((ds.drop (i + 1)).map (growS c)).sum ≤ B + (ds.map (growS c)).sum ∧ goB (stepB (recOf c)) (i + 1) fsi (ds.drop (i + 1)) = .ok gs ∧ FOk fsi ∧ MOk Li fsi mi ∧ 40 ≤ Li ∧ lenGo (lenS (lRec c)) Li (ds.drop (i + 1)) ≤ 16000000 ∧ doGo (doS (dRec c)) mi (ds.drop (i + 1)) = doGo (doS (dRec c)) m ds :=
          fun H2 f2 hM2 => ⟨f.trans f2, _, gi, _, _, hM2, by omega, hgo2, fok2, mok2, Nat.le_trans hLi (lenS_ge (lRec_ge c) Li _), hli, hdo⟩
        refine ⟨_, rfl, true, a2, _, 0, _, rfl, rfl, hx2, at0, ?_⟩
        rcases lenOf_in hln with rfl | rfl | rfl | rfl | rfl | rfl | rfl | rfl | rfl
        · exact ⟨aD, _, _, .ref f_rename, rfl, rfl, hD_, by rw [look_lead]; rfl, f_rename, _, rfl, H_rename, _, rfl, _, rfl, p, .ref a2, r, mi, fsi, gi, Li, Bi, rfl, tdx, pdx, (Option.some.inj hln).symm, hMi, by omega, hlead, hfi, hmi, hLi, by omega, htx, fun H2 f2 hM2 => ⟨⟨_, _, rfl⟩, fin H2 f2 hM2⟩⟩
        · exact ⟨aD, _, _, .ref f_copy, rfl, rfl, hD_, by rw [look_lead]; rfl, f_copy, _, rfl, H_copy, _, rfl, _, rfl, p, .ref a2, r, mi, fsi, gi, Li, Bi, rfl, tdx, pdx, (Option.some.inj hln).symm, hMi, by omega, hlead, hfi, hmi, hLi, by omega, htx, fun H2 f2 hM2 => ⟨⟨_, _, rfl⟩, fin H2 f2 hM2⟩⟩
        · exact ⟨aD, _, _, .ref f_drop, rfl, rfl, hD_, by rw [look_lead]; rfl, f_drop, _, rfl, H_drop, _, rfl, _, rfl, p, .ref a2, r, mi, fsi, gi, Li, Bi, rfl, tdx, pdx, (Option.some.inj hln).symm, hMi, by omega, hlead, hfi, hmi, hLi, by omega, htx, fun H2 f2 hM2 => ⟨⟨_, _, rfl⟩, fin H2 f2 hM2⟩⟩
        · exact ⟨aD, _, _, .ref f_put, rfl, rfl, hD_, by rw [look_lead]; rfl, f_put, _, rfl, H_put, _, rfl, _, rfl, p, .ref a2, r, mi, fsi, gi, Li, Bi, rfl, tdx, pdx, (Option.some.inj hln).symm, hMi, by omega, hlead, hfi, hmi, hLi, by omega, htx, fun H2 f2 hM2 => ⟨⟨_, _, rfl⟩, fin H2 f2 hM2⟩⟩
        · exact ⟨aD, _, _, .ref f_scale, rfl, rfl, hD_, by rw [look_lead]; rfl, f_scale, _, rfl, H_scale, _, rfl, _, rfl, p, .ref a2, r, mi, fsi, gi, Li, Bi, rfl, tdx, pdx, (Option.some.inj hln).symm, hMi, by omega, hlead, hfi, hmi, hLi, by omega, htx, fun H2 f2 hM2 => ⟨⟨_, _, rfl⟩, fin H2 f2 hM2⟩⟩
        · exact ⟨aD, _, _, .ref f_sum, rfl, rfl, hD_, by rw [look_lead]; rfl, f_sum, _, rfl, H_sum, _, rfl, _, rfl, p, .ref a2, r, mi, fsi, gi, Li, Bi, rfl, tdx, pdx, (Option.some.inj hln).symm, hMi, by omega, hlead, hfi, hmi, hLi, by omega, htx, fun H2 f2 hM2 => ⟨⟨_, _, rfl⟩, fin H2 f2 hM2⟩⟩
        · exact ⟨aD, _, _, .ref f_join, rfl, rfl, hD_, by rw [look_lead]; rfl, f_join, _, rfl, H_join, _, rfl, _, rfl, p, .ref a2, r, mi, fsi, gi, Li, Bi, rfl, tdx, pdx, (Option.some.inj hln).symm, hMi, by omega, hlead, hfi, hmi, hLi, by omega, htx, fun H2 f2 hM2 => ⟨⟨_, _, rfl⟩, fin H2 f2 hM2⟩⟩
        · exact ⟨aD, _, _, .ref f_table, rfl, rfl, hD_, by rw [look_lead]; rfl, f_table, _, rfl, H_table, _, rfl, _, rfl, p, .ref a2, r, mi, fsi, gi, Li, Bi, rfl, tdx, pdx, (Option.some.inj hln).symm, hMi, by omega, hlead, hfi, hmi, hLi, by omega, htx, fun H2 f2 hM2 => ⟨⟨_, _, rfl⟩, fin H2 f2 hM2⟩⟩
        · refine ⟨aD, _, _, .ref f_case, rfl, rfl, hD_, by rw [look_lead]; rfl, f_case, _, rfl, H_case, _, rfl, _, rfl, ?_⟩
          cases c with
          | zero =>
            obtain ⟨d0, d1, d2, d3, rfl⟩ := len4 (Option.some.inj hln).symm
            exfalso
            replace hlead : caseB (recOf 0) fsi d0 d1 d2 d3 = some gi := hlead
            unfold caseB at hlead
            cases ho : sortOf fsi d0 with
            | none =>
              rw [ho] at hlead
              cases hlead
            | some el =>
              rw [ho] at hlead
              dsimp only at hlead
              by_cases k : (decide (el ∈ testL) && ofSort el d1) = true
              · rw [if_pos k] at hlead
                cases hlead
              · rw [if_neg k] at hlead
                cases hlead
          | succ c => exact ⟨p, .ref a2, r, mi, fsi, gi, Li, Bi, rfl, tdx, pdx, (Option.some.inj hln).symm, hMi, by omega, hlead, hfi, hmi, hLi, by omega, htx, fun H2 f2 hM2 => ⟨⟨_, _, rfl⟩, fin H2 f2 hM2⟩⟩
      · rintro σ' H' ⟨⟨y2, y3, rfl⟩, f, mi, fsi, Li, Bi, hMi, hBi, hgo, hfi, hmi, hLi, hli, hdo⟩
        rw [lx, List.drop_length] at hdo hBi
        obtain rfl : mi = doGo (doS (dRec c)) m ds := hdo
        exact q H' f (hMi.mono (by simpa using hBi))
    · obtain ⟨a, xs, rfl, hx, hA⟩ := hT.asLst
      obtain rfl := hA.nil_of
      have eg : growB c (.list []) = 0 := by rw [grow_sum]; rfl
      have ed : doB c m (.list []) = m := by rw [do_over]; rfl
      rw [eg, ed] at q
      refine .inl ⟨_, rfl, a, rfl, ⟨_, hx⟩, for_list (K := K) (a := a) (xs := []) (fun i σ' H' => H' = H) rfl (fun i σ' H' _ e => by rw [e]; exact hx) (fun i x σ' H' hxi _ => by simp at hxi) (fun σ' H' e => ?_)⟩
      subst e
      exact q _ Fr.refl (hM.mono (by omega))
end
end St6

set_option autoImplicit false
set_option maxHeartbeats 4000000
namespace St6
open PySem PySem.Spec PyProof.Rows L2 Tg Cc Nn TL
/-! done -/

structure DeedsOk (P : Program) (w : World) (K : PySem.W.Frag) (mg : Str → Option Value) (base : Heap) (f_rename f_copy f_drop f_put f_scale f_sum f_join f_table : Addr) : Prop where
  h_rename : ∀ c, Held P w K mg base 1 f_rename (spDo K c "rename" 2)
  h_copy : ∀ c, Held P w K mg base 1 f_copy (spDo K c "copy" 2)
  h_drop : ∀ c, Held P w K mg base 1 f_drop (spDo K c "drop" 1)
  h_put : ∀ c, Held P w K mg base 1 f_put (spDo K c "put" 3)
  h_scale : ∀ c, Held P w K mg base 1 f_scale (spDo K c "scale" 3)
  h_sum : ∀ c, Held P w K mg base 1 f_sum (spDo K c "sum" 2)
  h_join : ∀ c, Held P w K mg base 1 f_join (spDo K c "join" 2)
  h_table : ∀ c, Held P w K mg base 1 f_table (spDo K c "table" 4)

theorem held_upD {P : Program} {w : World} {K : PySem.W.Frag} {mg : Str → Option Value} {base : Heap} {j k : Nat} {f : Addr} {sp : Sp} (h : Held P w K mg base j f sp) (le : j ≤ k) : Held P w K mg base k f sp := by
  obtain ⟨fd, ps, ok, kp, b⟩ := h.ex
  exact ⟨fd, ps, ⟨fun vs H Q E a => ok.len vs H Q E a, fun A outer s H args us vs Q E hr he hb hv a => ok.run A outer s H args us vs Q E (hr.mono le) he hb hv a⟩, kp, b⟩
theorem ok_deeds {P : Program} {w : World} {K : PySem.W.Frag} {mg : Str → Option Value} {base : Heap} {f_rename f_copy f_drop f_put f_scale f_sum f_join f_table f_case f_l : Addr} {fd_case fd_l : FuncData} (DO : DeedsOk P w K mg base f_rename f_copy f_drop f_put f_scale f_sum f_join f_table)
    (Fc : FnP K "_do_case" sDoCase f_case fd_case) (m_c : mg "_do_case" = some (.ref f_case)) (b_c : Binds K fd_case ["held", "step"] [])
    (Fl : FnP K "_do_steps" sDoSteps f_l fd_l) (m_l : mg "_do_steps" = some (.ref f_l)) (b_l : Binds K fd_l ["held", "steps"] [])
    {aD : Addr} (m_D : mg "DEEDS" = some (.ref aD)) (hD : KTab K w aD (leadsV f_rename f_copy f_drop f_put f_scale f_sum f_join f_table f_case)) : ∀ c, FnOk P w K mg base CX0 (2 + 2 * c) f_l fd_l ["held", "steps"] (spDoSteps K c)
  | c => by
    have hc : Held P w K mg base (1 + 2 * c) f_case (spDoCaseOf K c) := by
      cases c with
      | zero => exact ⟨fd_case, ["held", "step"], fn_sub fun _ _ _ _ h => h, Fc.kp, b_c⟩
      | succ c =>
        have ih := ok_deeds DO Fc m_c b_c Fl m_l b_l m_D hD c
        exact held_of (x := "_do_case") ⟨ok_docase Fc ⟨ih, m_l, Fl.kp, b_l⟩, m_c, Fc.kp, b_c⟩ (by omega)
    have all := ok_dosteps (c := c) Fl m_D hD (held_upD (DO.h_rename c) (by omega)) (held_upD (DO.h_copy c) (by omega)) (held_upD (DO.h_drop c) (by omega)) (held_upD (DO.h_put c) (by omega)) (held_upD (DO.h_scale c) (by omega)) (held_upD (DO.h_sum c) (by omega)) (held_upD (DO.h_join c) (by omega)) (held_upD (DO.h_table c) (by omega)) hc
    have e : 1 + 2 * c + 1 = 2 + 2 * c := by omega
    rw [← e]
    exact all

/-- what a form's values stand for -/
def mOf : Fs → List PyData → Mv
  | g :: r, d :: ds => fun z => if g.1 = z then some d else mOf r ds z
  | _, _ => fun _ => none
theorem mOf_none : ∀ {fs : Fs} {ds : List PyData} {z : Str}, z ∉ fs.map Prod.fst → mOf fs ds z = none
  | [], [], _, _ => rfl
  | [], _ :: _, _, _ => rfl
  | _ :: _, [], _, _ => rfl
  | g :: r, d :: ds, z, h => by
    show (if g.1 = z then some d else mOf r ds z) = none
    rw [if_neg (fun e => h (by rw [← e]; exact List.mem_cons_self ..))]
    exact mOf_none fun h2 => h (List.mem_cons_of_mem _ h2)
theorem mOf_snoc : ∀ {fs : Fs} {ds : List PyData} {g : Str × Str} {d : PyData}, fs.length = ds.length → g.1 ∉ fs.map Prod.fst → mOf (fs ++ [g]) (ds ++ [d]) = upM (mOf fs ds) g.1 (some d)
  | [], [], g, d, _, _ => by
    funext z
    show (if g.1 = z then some d else none) = if z = g.1 then some d else none
    by_cases e : g.1 = z
    · rw [if_pos e, if_pos e.symm]
    · rw [if_neg e, if_neg (fun h => e h.symm)]
  | x :: r, y :: ds, g, d, hl, hn => by
    funext z
    have ih := mOf_snoc (fs := r) (ds := ds) (g := g) (d := d) (by simpa using hl) (fun h => hn (List.mem_cons_of_mem _ h))
    show (if x.1 = z then some y else mOf (r ++ [g]) (ds ++ [d]) z) = if z = g.1 then some d else (if x.1 = z then some y else mOf r ds z)
    rw [ih]
    unfold upM
    by_cases e : x.1 = z
    · rw [if_pos e, if_pos e, if_neg (fun h => hn (by rw [← h, ← e]; exact List.mem_cons_self ..))]
    · rw [if_neg e, if_neg e]
  | [], _ :: _, _, _, hl, _ => by simp at hl
  | _ :: _, [], _, _, hl, _ => by simp at hl
theorem passB {P : Program} {w : World} {X : Cx} : Passes (L2.CX P w) X E0 := fun pins σ H s e s1 _ ⟨_, _, _, _, _, _, _, _, _, _, _, _, z⟩ => z.elim
def spDone (K : PySem.W.Frag) (c : Nat) : Sp := fun vs H Q _ => ∃ u fs v d w Ds gs L, vs = [u, v, w] ∧ Th K H u (formD fs) ∧ FOk fs ∧ Th K H v d ∧ (Pu false d ∨ d = .list []) ∧ Th K H w (.tuple Ds) ∧ Ds.length = fs.length ∧ (∀ D ∈ Ds, ∃ L s, VOk L s D) ∧ MOk L fs (mOf fs Ds) ∧ Bd 1000 (2 * c + 1) d ∧ c ≤ 9 ∧ fs.length + growB c d ≤ 900000 ∧ stepsB c fs d = .ok gs ∧ 1 ≤ gs.length ∧ gs.length ≤ 6 ∧ 40 ≤ L ∧ lngB c L d ≤ 16000000 ∧ tmB c d = true ∧
  ∀ H' q, Same H H' → Th K H' (.ref q) (.tuple (gs.map fun g => valM (doB c (mOf fs Ds) d) (.str g.1))) → Q (.ref q) H'
theorem th_plainV {K : PySem.W.Frag} {H : Hp} {x : V} {d : PyData} (h : Th K H x d) (hv : ∃ L s, VOk L s d) : x = vOf d := by
  obtain ⟨L, s, hv⟩ := hv
  rcases hv.plain with ⟨i, rfl⟩ | ⟨z, rfl, _⟩ <;> (cases h; rfl)
theorem th_vOfV {K : PySem.W.Frag} {H : Hp} {d : PyData} (hv : ∃ L s, VOk L s d) : Th K H (vOf d) d := by
  obtain ⟨L, s, hv⟩ := hv
  rcases hv.plain with ⟨i, rfl⟩ | ⟨z, rfl, _⟩
  · exact .int _
  · exact .str _
section
variable {P : Program} {w : World} {K : PySem.W.Frag} {mg : Str → Option Value} {base : Heap} {C : Addr} {c : Nat}
theorem scdone : FnScope ["form", "steps", "values", "field", "_", "value", "held"] ["form", "steps", "values"] (defScope sDone) := ⟨rfl, rfl, rfl, by decide +kernel, rfl, by decide +kernel, by decide +kernel⟩
theorem ok_done {f : Addr} {fd : FuncData} (F : FnP K "done" sDone f fd) {f__do_steps : Addr} {fd__do_steps : FuncData} (c__do_steps : Cl P w K mg base CX0 "_do_steps" (2 + 2 * c) ["held", "steps"] (spDoSteps K c) f__do_steps fd__do_steps) {f_form_behind : Addr} {fd_form_behind : FuncData} (c_form_behind : Cl P w K mg base (L2.CX P w) "form_behind" (8 + 3 * c + 1) ["form", "steps"] (spFormBehind K C c) f_form_behind fd_form_behind) (mb_tuple : mg "tuple" = none) (mb_zip : mg "zip" = none)   : FnOk P w K mg base CX0 (9 + 3 * c + 1) f fd ["form", "steps", "values"] (spDone K c) := by
  refine F.ok scdone (fun vs H Q E h => ?_) (fun cdv A outer s H vs Q E hr h => ?_)
  · obtain ⟨u, fs, v, d, w, Ds, gs, L, rfl, _⟩ := h
    rfl
  · obtain ⟨u, fs, v, d, w, Ds, gs, L, rfl, hF, hf, hT, hpu, hW, hln, hvs, hm, hBd, hc9, hgr, hst, g1, g6, hL, hl, htm, q⟩ := h
    have hu := hu_of hr
    have hs := szl
    refine ⟨_, PSs.nox (pss_cons (ps_set (i := 6) scdone.nd rfl (Or.inr rfl) (pe_dc (own := [("value", 5), ("field", 3), ("_", 4)]) (tt := tYes) rfl scdone.nd (RZ.pi_zipA (by rfl) mb_zip (pa_cons (pv 0) (pa_cons (pv 2) pa_nil))) (blkOk_by (own := [("value", 5), ("field", 3), ("_", 4)]) (N := ["form", "steps", "values", "field", "_", "value", "held"]) (sc := defScope sDone) (by decide +kernel)) (fun _ _ _ _ _ => Cc.pg_tupk (K := K) (n := 2) rfl rfl (pgs_cons (Cc.pg_tupk (K := K) (n := 2) rfl rfl (pgs_cons (pg_name (i := 3) scdone.nd rfl (Or.inl rfl)) (pgs_cons (pg_name (i := 4) scdone.nd rfl (Or.inl rfl)) (pgs_nil)))) (pgs_cons (pg_name (i := 5) scdone.nd rfl (Or.inl rfl)) (pgs_nil)))) (fun _ _ _ _ _ => pts_nil) (fun _ _ _ _ _ => pv 3) (fun _ _ _ _ _ => pv 5)))
      (pss_cons (ps_expr (pe_call c__do_steps.ok (hr.mono (by omega)) (by rfl) c__do_steps.m c__do_steps.kp c__do_steps.b .nil pass0 (pa_cons (pv 6) (pa_cons (pv 1) pa_nil))))
      (pss_one (ps_ret (pe_callTy call_tuple_of (by rfl) mb_tuple (by decide +kernel) (pa_cons (pe_lc (own := [("field", 3), ("_", 4)]) (tt := tYes) rfl scdone.nd (pi_tup (pe_call c_form_behind.ok (hr.mono (by omega)) (by rfl) c_form_behind.m c_form_behind.kp c_form_behind.b .nil passB (pa_cons (pv 0) (pa_cons (pv 1) pa_nil)))) (blkOk_by (own := [("field", 3), ("_", 4)]) (N := ["form", "steps", "values", "field", "_", "value", "held"]) (sc := defScope sDone) (by decide +kernel)) (fun _ _ _ _ _ => Cc.pg_tupk (K := K) (n := 2) rfl rfl (pgs_cons (pg_name (i := 3) scdone.nd rfl (Or.inl rfl)) (pgs_cons (pg_name (i := 4) scdone.nd rfl (Or.inl rfl)) (pgs_nil)))) (fun _ _ _ _ _ => pts_nil) (fun _ _ _ _ _ => pe_dget hu (pv 6) (pv 3) (fun _ _ => rfl))) pa_nil)))))), ?_⟩
    obtain ⟨pf, fx, rfl, hx, hFA⟩ := hF.asTup
    obtain ⟨pw, wx, rfl, hwx, hWA⟩ := hW.asTup
    have lfx : fx.length = fs.length := by rw [hFA.len, List.length_map]
    have lwx : wx.length = Ds.length := hWA.len
    refine ⟨_, rfl, _, rfl, pf, pw, fx, wx, rfl, .inr ⟨hx, hwx, fun D nD => ?_⟩⟩
    refine dc_it (walk_zipT (K := K) (a := pf) (b := pw) (xs := fx) (ys := wx) rfl) (fun i H' => But D H H' ∧ ∃ kvs, H' D = some (.dK kvs) ∧ kvs.length ≤ i ∧ ∀ z, valV kvs (Sum.inr z) = (mOf (fs.take i) (Ds.take i) z).map vOf) ⟨But.refl.upd, [], upd_same, Nat.le_refl _, fun z => rfl⟩ (fun i H' _ ⟨b, _⟩ => ⟨Sq.same (t := true) hx (b.new nD), Sq.same (t := true) hwx (b.new nD)⟩) ?_ ?_
    · rintro i y H1 H2 hi ⟨b, kvs, hD, lk, hv⟩ ⟨T, x, z, rfl, nT, rfl, ex, ez⟩
      obtain ⟨dz, hdz, tz, mz⟩ := ThAll.get2 hFA ex
      obtain ⟨dx, hdx, tx, mx⟩ := ThAll.get2 hWA ez
      obtain ⟨g, hg, rfl⟩ : ∃ g, fs[i]? = some g ∧ fieldD g = dz := by
        rw [List.getElem?_map] at hdz
        cases hg : fs[i]? with
        | none =>
          rw [hg] at hdz
          cases hdz
        | some g =>
          rw [hg] at hdz
          exact ⟨g, rfl, Option.some.inj hdz⟩
      obtain ⟨pz, zs, rfl, hpz, hZ⟩ := tz.asTup
      obtain ⟨y0, y1, rfl, u0, u1⟩ := thAll2 hZ
      obtain rfl := u0.asStr
      obtain rfl := u1.asStr
      obtain rfl := th_plainV tx (hvs dx mx)
      have sT := newS (o := .tup [V.ref pz, vOf dx]) nT
      have s12 := (b.new nD).trans sT
      have il : i < fs.length := (List.getElem?_eq_some_iff.mp hg).1
      refine ⟨T, _, rfl, SqT.of upd_same, rfl, _, _, rfl, ⟨pz, _, rfl, Sq.same (t := true) hpz s12, rfl, _, _, rfl, _, _, rfl, rfl, _, _, rfl, rfl, rfl, ?_⟩⟩
      refine ⟨_, rfl, _, rfl, _, Sum.inr g.1, rfl, sT _ _ hD, by omega, (b.same sT).upd, _, upd_same, Nat.le_trans (length_putK _ _ _) (by omega), fun z => ?_⟩
      have e1 : fs.take (i + 1) = fs.take i ++ [g] := by rw [List.take_succ, hg]; rfl
      have e2 : Ds.take (i + 1) = Ds.take i ++ [dx] := by rw [List.take_succ, hdx]; rfl
      have nk : g.1 ∉ (fs.take i).map Prod.fst := nd_take (f := Prod.fst) hf.nd hg
      rw [e1, e2, mOf_snoc (by rw [List.length_take, List.length_take, hln]) nk, valV_put]
      unfold upM
      by_cases e : z = g.1
      · rw [if_pos (congrArg Sum.inr e), if_pos e]
        rfl
      · rw [if_neg (fun h => e (Sum.inr.inj h)), if_neg e]
        exact hv z
    · rintro H1 ⟨b, kvs, hD, lk, hv⟩
      have mn : min fx.length wx.length = fs.length := by rw [lfx, lwx, hln, Nat.min_self]
      rw [mn] at lk hv
      rw [List.take_length, List.take_of_length_le (by omega)] at hv
      have s1 := b.new nD
      have hM : HeldM H1 D (mOf fs Ds) fs.length := ⟨kvs, hD, lk, hv⟩
      have hT1 := hT.kept (kept_same s1)
      refine ⟨_, rfl, _, rfl, D, v, d, _, fs, gs, L, _, rfl, hT1, hpu, hM, by omega, hst, hf, hm, hL, hl, htm, fun H2 f2 hM2 => ?_⟩
      have fH : Same H H2 := (Fr.drop (p := D) (S := []) ((fr_same s1).trans f2) nD).same
      have beh : behindB c fs d = .ok gs := by
        unfold behindB
        rw [hst]
        exact if_pos ⟨g1, g6⟩
      have hT2 := hT.kept (kept_same fH)
      refine ⟨_, rfl, _, rfl, _, fs, v, d, rfl, hF.kept (kept_same fH), hf.nd, hT2, hBd, hc9, by omega, ?_⟩
      rw [beh]
      intro H3 qf s3 t3z
      have t3 := t3z.th
      have hM3 := hM2.same s3
      obtain ⟨a3, gx, e3, hgx, hGA⟩ := t3.asTup
      cases e3
      have lgx : gx.length = gs.length := by rw [hGA.len, List.length_map]
      have mok := (do_ok c hst hf hm hL).2
      refine ⟨qf, rfl, ⟨gx, hgx⟩, fun D3 nD3 => ?_⟩
      refine lc_acc (walk_tup (K := K) (a := qf) (xs := gx)) (fun i acc H' => acc = ((gs.take i).map fun g => vOf (valM (doB c (mOf fs Ds) d) (.str g.1))) ∧ But D3 H3 H') ⟨rfl, But.refl.upd⟩ (fun i acc H' _ ⟨_, b⟩ _ => Sq.same (t := true) hgx (b.new nD3)) ?_ ?_
      · rintro i x acc H4 H5 hi la ⟨rfl, b4⟩ hD4 ⟨rfl, hx2⟩
        obtain ⟨dz, hdz, tz, mz⟩ := ThAll.get2 hGA hx2
        obtain ⟨g, hg, rfl⟩ : ∃ g, gs[i]? = some g ∧ fieldD g = dz := by
          rw [List.getElem?_map] at hdz
          cases hg : gs[i]? with
          | none =>
            rw [hg] at hdz
            cases hdz
          | some g =>
            rw [hg] at hdz
            exact ⟨g, rfl, Option.some.inj hdz⟩
        obtain ⟨pz, zs, rfl, hpz, hZ⟩ := tz.asTup
        obtain ⟨y0, y1, rfl, u0, u1⟩ := thAll2 hZ
        obtain rfl := u0.asStr
        obtain rfl := u1.asStr
        have s4 := b4.new nD3
        have gnd := (do_ok c hst hf hm hL).1.nd
        obtain ⟨vv, hvv, hk⟩ := mok g.1 g.2 (getF_mem gnd (List.mem_of_getElem? hg))
        obtain ⟨k4, p4, _, v4⟩ := hM3.same s4
        refine ⟨pz, _, rfl, Sq.same (t := true) hpz s4, rfl, _, _, rfl, _, _, rfl, rfl, rfl, ?_⟩
        refine ⟨_, rfl, _, rfl, D, _, rfl, dget_m p4 v4 hvv, push hD4 la (by omega) ⟨?_, b4.upd⟩⟩
        rw [List.take_succ, hg]
        rw [List.map_append]
        show _ = _ ++ [vOf (valM (doB c (mOf fs Ds) d) (.str g.1))]
        rw [valM_of hvv]
      · rintro acc H4 la ⟨rfl, b4⟩ hD4
        rw [lgx, List.take_length] at hD4
        refine ⟨D3, _, rfl, .inl ⟨SqL.of hD4, fun T nT => ?_⟩⟩
        have s4 := b4.new nD3
        have sT := newS (o := .tup (gs.map fun g => vOf (valM (doB c (mOf fs Ds) d) (.str g.1)))) nT
        refine q _ T ((fH.trans s3).trans (s4.trans sT)) (.tup (SqT.of upd_same) ?_)
        have all : ∀ (l : Fs), (∀ g ∈ l, g ∈ gs) → ThAll K (upd H4 T (.tup (gs.map fun g => vOf (valM (doB c (mOf fs Ds) d) (.str g.1))))) (l.map fun g => vOf (valM (doB c (mOf fs Ds) d) (.str g.1))) (l.map fun g => valM (doB c (mOf fs Ds) d) (.str g.1)) := by
          intro l hl2
          induction l with
          | nil => exact .nil
          | cons g r ih =>
            have gnd := (do_ok c hst hf hm hL).1.nd
            obtain ⟨vv, hvv, hk⟩ := mok g.1 g.2 (getF_mem gnd (hl2 g (List.mem_cons_self ..)))
            rw [List.map_cons, List.map_cons, valM_of hvv]
            exact .cons (th_vOfV ⟨_, _, hk⟩) (ih fun x hx => hl2 x (List.mem_cons_of_mem _ hx))
        exact all gs fun g hg => hg
end
end St6

set_option autoImplicit false
set_option maxHeartbeats 4000000
namespace St6
open PySem PySem.Spec PyProof.Rows L2 Tg Cc Nn TL
/-! how great numbers become by drawn steps; values alike where fields stand -/
def IntB (E : Nat) (m : Mv) : Prop := ∀ n i, m n = some (.int i) → i.natAbs ≤ 10 ^ E
theorem IntB.mono {E E' : Nat} {m : Mv} (h : IntB E m) (l : E ≤ E') : IntB E' m := fun n i e => Nat.le_trans (h n i e) (Nat.pow_le_pow_right (by decide) l)
theorem IntB.up {E : Nat} {m : Mv} (h : IntB E m) (n : Str) (o : Option PyData) (ho : ∀ i, o = some (.int i) → i.natAbs ≤ 10 ^ E) : IntB E (upM m n o) := fun z i e => by
  unfold upM at e
  by_cases ez : z = n
  · rw [if_pos ez] at e
    exact ho i e
  · rw [if_neg ez] at e
    exact h z i e
theorem int_val {E : Nat} {m : Mv} (h : IntB E m) (d : PyData) : (intOf (valM m d)).natAbs ≤ 10 ^ E := by
  unfold valM
  cases e : m (txtOf d) with
  | none => exact Nat.zero_le _
  | some v =>
    cases v with
    | int i => exact h _ i e
    | _ => exact Nat.zero_le _
theorem int_sum {E : Nat} {m : Mv} (h : IntB E m) : ∀ l : List PyData, (sumM m l).natAbs ≤ l.length * 10 ^ E
  | [] => Nat.zero_le _
  | d :: r => by
    have h1 := int_val h d
    have h2 := int_sum h r
    show (intOf (valM m d) + sumM m r).natAbs ≤ (r.length + 1) * 10 ^ E
    rw [Nat.succ_mul]
    have := Int.natAbs_add_le (intOf (valM m d)) (sumM m r)
    omega
theorem bd_int_le {N m E : Nat} {i : Int} (h : Bd N m (.int i)) (hE : N ≤ E) : i.natAbs ≤ 10 ^ E := Nat.le_of_lt (Nat.lt_of_lt_of_le (bd_int.mp h) (Nat.pow_le_pow_right (by decide) hE))
theorem bd_mem {N m : Nat} {l : List PyData} {d : PyData} (h : Bd N m (.tuple l)) (hd : d ∈ l) : ∃ m', Bd N m' d := by
  cases m with
  | zero => exact h.elim
  | succ m => exact ⟨m, h.2 d hd⟩
theorem bd_len {N m : Nat} {l : List PyData} (h : Bd N m (.tuple l)) : l.length ≤ N := by
  cases m with
  | zero => exact h.elim
  | succ m => exact h.1
theorem bd_lst_mem {N m : Nat} {l : List PyData} {d : PyData} (h : Bd N m (.list l)) (hd : d ∈ l) : ∃ m', Bd N m' d := by
  cases m with
  | zero => exact h.elim
  | succ m => exact ⟨m, h.2 d hd⟩
theorem items_mem {N m : Nat} {d x : PyData} (h : Bd N m d) (hx : x ∈ items d) : ∃ m', Bd N m' x := by
  cases d with
  | list l => exact bd_lst_mem h hx
  | tuple l => exact bd_mem h hx
  | _ => cases hx
theorem second_bd {N m : Nat} {d : PyData} (h : Bd N m d) : ∃ m', Bd N m' (secondOf d) := by
  match d, h with
  | .tuple (a :: b :: r), h => exact bd_mem h (show b ∈ a :: b :: r by simp)
  | .tuple [], _ => exact ⟨0, bd_non⟩
  | .tuple [_], _ => exact ⟨0, bd_non⟩
  | .none, _ => exact ⟨0, bd_non⟩
  | .bool _, _ => exact ⟨0, bd_non⟩
  | .int _, _ => exact ⟨0, bd_non⟩
  | .str _, _ => exact ⟨0, bd_non⟩
  | .list _, _ => exact ⟨0, bd_non⟩
  | .dict _, _ => exact ⟨0, bd_non⟩
theorem int_tab {E N m1 m2 : Nat} {v rows other : PyData} (hv : ∀ i, v = .int i → i.natAbs ≤ 10 ^ E) (hr : Bd N m1 rows) (ho : Bd N m2 other) (hE : N ≤ E) : ∀ i, tabM v (items rows) other = .int i → i.natAbs ≤ 10 ^ E := fun i e => by
  unfold tabM at e
  cases h : (items rows).find? fun r => eqP v (firstOf r) with
  | some r =>
    rw [h] at e
    dsimp only at e
    obtain ⟨m', hb⟩ := items_mem hr (List.mem_of_find?_eq_some h)
    obtain ⟨m'', hb2⟩ := second_bd hb
    rw [e] at hb2
    exact bd_int_le hb2 hE
  | none =>
    rw [h] at e
    dsimp only at e
    split at e
    · rename_i x
      obtain ⟨m', hb⟩ := bd_mem ho (List.mem_singleton_self _)
      rw [e] at hb
      exact bd_int_le hb hE
    · exact hv i e
theorem int_flat {c E k : Nat} {m : Mv} {w : Str} {r : List PyData} (h1 : w ≠ "scale") (h3 : w ≠ "case") (hb : Bd 1000 k (.tuple (.str w :: r))) (hm : IntB E m) (hE : 1000 ≤ E) : IntB (E + 3) (doLead (dRec c) m w r) := by
  have up := hm.mono (Nat.le_add_right E 3)
  have el : ∀ d ∈ r, ∃ k', Bd 1000 k' d := fun d hd => bd_mem hb (List.mem_cons_of_mem _ hd)
  have old : ∀ (z : Str) i, m z = some (.int i) → i.natAbs ≤ 10 ^ (E + 3) := fun z i e => up z i e
  unfold doLead
  split
  · split
    · exact up.up _ _ fun i e => by cases e
    · exact up
  · rename_i a b
    split
    · exact (up.up _ _ fun i e => old _ i e).up _ _ fun i e => by cases e
    split
    · exact up.up _ _ fun i e => old _ i e
    split
    · refine up.up _ _ fun i e => ?_
      have e2 : sumM m (items b) = i := by
        have := Option.some.inj e
        exact PyData.int.inj this
      have hs := int_sum hm (items b)
      rw [e2] at hs
      have hl : (items b).length ≤ 1000 := by
        obtain ⟨k', hb'⟩ := el b (by simp)
        cases b with
        | tuple l => exact bd_len hb'
        | list l =>
          cases k' with
          | zero => exact hb'.elim
          | succ k' => exact hb'.1
        | _ => exact Nat.zero_le _
      refine Nat.le_trans hs ?_
      rw [Nat.pow_add, Nat.mul_comm]
      exact Nat.mul_le_mul_left _ hl
    split
    · exact up.up _ _ fun i e => by cases e
    · exact up
  · rename_i a b c'
    split
    · refine up.up _ _ fun i e => ?_
      obtain ⟨k', hb'⟩ := el c' (by simp)
      rw [Option.some.inj e] at hb'
      exact bd_int_le hb' (by omega)
    · exact up
  · rename_i a b c' d'
    split
    · refine up.up _ _ fun i e => ?_
      obtain ⟨k1, hb1⟩ := el c' (by simp)
      obtain ⟨k2, hb2⟩ := el d' (by simp)
      refine int_tab (fun j ej => ?_) hb1 hb2 (by omega) i (Option.some.inj e)
      have := int_val up a
      rw [ej] at this
      exact this
    · exact up
  · exact up
theorem int_scale {c E : Nat} {m : Mv} {n p : PyData} {t : Int} {k : Nat} (ht : t.natAbs ≤ 100) (hp : Bd 1000 k p) (hm : IntB E m) (hE : 1000 ≤ E) : IntB (E + 3) (doLead (dRec c) m "scale" [n, .int t, p]) := by
  have up := hm.mono (Nat.le_add_right E 3)
  show IntB (E + 3) (upM m (txtOf n) (some (.int (intOf (valM m n) * t + intOf p))))
  refine up.up _ _ fun i e => ?_
  obtain rfl := PyData.int.inj (Option.some.inj e)
  have h1 := int_val hm n
  have h2 : (intOf p).natAbs ≤ 10 ^ E := by
    cases p with
    | int j => exact bd_int_le hp hE
    | _ => exact Nat.zero_le _
  have h3 : (intOf (valM m n) * t).natAbs ≤ 10 ^ E * 100 := by
    rw [Int.natAbs_mul]
    exact Nat.mul_le_mul h1 ht
  have h4 := Int.natAbs_add_le (intOf (valM m n) * t) (intOf p)
  have h5 : 10 ^ (E + 3) = 10 ^ E * 1000 := by rw [Nat.pow_add]
  rw [h5]
  omega
theorem int_sym {d : PyData} (h : SyM d) : ∀ (c E k : Nat) (m : Mv), Bd 1000 k d → IntB E m → 1000 ≤ E → IntB (E + 3 * growS c d) (doS (dRec c) m d) := by
  induction h with
  | @flat w r h1 h2 h3 =>
    intro c E k m hb hm hE
    have := growS_pos c (.tuple (.str w :: r))
    exact (int_flat h1 h3 hb hm hE).mono (by omega)
  | @scale n p t ht =>
    intro c E k m hb hm hE
    have := growS_pos c (.tuple [.str "scale", n, .int t, p])
    obtain ⟨k', hb'⟩ := bd_mem hb (show p ∈ [PyData.str "scale", n, .int t, p] by simp)
    exact (int_scale (c := c) ht hb' hm hE).mono (by omega)
  | @case t v ys zs hys hzs iy iz =>
    intro c E k m hb hm hE
    have go : ∀ (l : List PyData) (ih : ∀ y ∈ l, ∀ (c E k : Nat) (m : Mv), Bd 1000 k y → IntB E m → 1000 ≤ E → IntB (E + 3 * growS c y) (doS (dRec c) m y)) (c E : Nat) (m : Mv), (∀ y ∈ l, ∃ k, Bd 1000 k y) → IntB E m → 1000 ≤ E → IntB (E + 3 * (l.map (growS c)).sum) (doGo (doS (dRec c)) m l) := by
      intro l
      induction l with
      | nil => exact fun _ c E m _ hm _ => hm
      | cons y r ihl =>
        intro ih c E m hbs hm hE
        obtain ⟨ky, hky⟩ := hbs y (List.mem_cons_self ..)
        have h1 := ih y (List.mem_cons_self ..) c E ky m hky hm hE
        have h2 := ihl (fun z hz => ih z (List.mem_cons_of_mem _ hz)) c _ _ (fun z hz => hbs z (List.mem_cons_of_mem _ hz)) h1 (by omega)
        rw [List.map_cons, List.sum_cons]
        exact h2.mono (by omega)
    cases c with
    | zero =>
      have g := growS_pos 0 (.tuple [.str "case", t, v, .tuple ys, .tuple zs])
      show IntB _ (if eqP (valM m t) v = true then m else m)
      split <;> exact hm.mono (by omega)
    | succ c =>
      have e : growS (c + 1) (.tuple [.str "case", t, v, .tuple ys, .tuple zs]) = 1 + (growB c (.str "case") + (growB c t + (growB c v + (growB c (.tuple ys) + (growB c (.tuple zs) + 0))))) := rfl
      have ey : growB c (.tuple ys) = (ys.map (growS c)).sum := grow_sum c _
      have ez : growB c (.tuple zs) = (zs.map (growS c)).sum := grow_sum c _
      obtain ⟨ky, hby⟩ := bd_mem hb (show PyData.tuple ys ∈ [PyData.str "case", t, v, .tuple ys, .tuple zs] by simp)
      obtain ⟨kz, hbz⟩ := bd_mem hb (show PyData.tuple zs ∈ [PyData.str "case", t, v, .tuple ys, .tuple zs] by simp)
      show IntB _ (if eqP (valM m t) v = true then doB c m (.tuple ys) else doB c m (.tuple zs))
      split
      · rw [do_over]
        exact (go ys iy c E m (fun y hy => bd_mem hby hy) hm hE).mono (by omega)
      · rw [do_over]
        exact (go zs iz c E m (fun y hy => bd_mem hbz hy) hm hE).mono (by omega)
theorem int_sy {d : PyData} (h : Sy d) (c E k : Nat) (m : Mv) (hb : Bd 1000 k d) (hm : IntB E m) (hE : 1000 ≤ E) : IntB (E + 3 * growS c d) (doS (dRec c) m d) := by
  rcases h with h | ⟨n, l, rfl, _⟩
  · exact int_sym h c E k m hb hm hE
  · have := growS_pos c (.tuple [.str "join", n, .tuple l])
    exact (int_flat (c := c) (by decide +kernel) (by decide +kernel) hb hm hE).mono (by omega)
theorem int_steps {c : Nat} : ∀ (l : List PyData) (E : Nat) (m : Mv), (∀ d ∈ l, Sy d) → (∀ d ∈ l, ∃ k, Bd 1000 k d) → IntB E m → 1000 ≤ E → IntB (E + 3 * (l.map (growS c)).sum) (doGo (doS (dRec c)) m l)
  | [], E, m, _, _, hm, _ => hm
  | d :: r, E, m, hs, hb, hm, hE => by
    obtain ⟨k, hk⟩ := hb d (List.mem_cons_self ..)
    have h1 := int_sy (hs d (List.mem_cons_self ..)) c E k m hk hm hE
    have h2 := int_steps (c := c) r _ _ (fun z hz => hs z (List.mem_cons_of_mem _ hz)) (fun z hz => hb z (List.mem_cons_of_mem _ hz)) h1 (by omega)
    rw [List.map_cons, List.sum_cons]
    exact h2.mono (by omega)
/-! values alike -/
def AgF (fs : Fs) (a b : Mv) : Prop := ∀ n s, getF fs n = some s → a n = b n
theorem AgF.val {fs : Fs} {a b : Mv} (h : AgF fs a b) {n s : Str} (e : getF fs n = some s) : valM a (.str n) = valM b (.str n) := by
  show (a n).getD .none = (b n).getD .none
  rw [h n s e]
theorem ag_new {fs : Fs} {a b : Mv} {n s : Str} {o : Option PyData} (h : AgF fs a b) (hn : getF fs n = none) : AgF (fs ++ [(n, s)]) (upM a n o) (upM b n o) := fun z t e => by
  unfold upM
  by_cases ez : z = n
  · rw [if_pos ez, if_pos ez]
  · rw [if_neg ez, if_neg ez]
    rw [getF_snocD] at e
    rw [if_neg (fun h => ez h.symm)] at e
    cases hz : getF fs z with
    | none =>
      rw [hz] at e
      cases e
    | some u => exact h z u hz
theorem ag_lead {rec : Fs → PyData → Except Nat Fs} {dr : Mv → PyData → Mv} (ih : ∀ fs d gs a b, rec fs d = .ok gs → AgF fs a b → AgF gs (dr a d) (dr b d)) {fs gs : Fs} {a b : Mv} {w : Str} {r : List PyData} (h : leadB rec fs w r = some gs) (hg : AgF fs a b) : AgF gs (doLead dr a w r) (doLead dr b w r) := by
  have hln : lenOf w = some r.length := by
    by_cases e : lenOf w = some r.length
    · exact e
    · rw [lead_len e] at h
      cases h
  rcases lenOf_in hln with e | e | e | e | e | e | e | e | e
  · -- rename
    subst e
    obtain ⟨d0, d1, rfl⟩ := len2 (Option.some.inj hln).symm
    obtain ⟨hc, rfl⟩ := ifs (show renameB fs d0 d1 = some gs from h)
    obtain ⟨c1, c2⟩ := (Bool.and_eq_true _ _).mp hc
    obtain ⟨n, rfl, hn⟩ := isNew_of c2
    obtain ⟨so, hso⟩ := Option.isSome_iff_exists.mp c1
    obtain ⟨o, rfl, ho⟩ := sortOf_of hso
    have no : o ≠ n := fun e => by
      rw [e, hn] at ho
      cases ho
    show AgF (fs.map (ren o n)) (upM (upM a n (a o)) o none) (upM (upM b n (b o)) o none)
    intro z s e
    rw [getF_ren no hn] at e
    unfold upM
    by_cases eo : z = o
    · rw [if_pos eo, if_pos eo]
    · rw [if_neg eo, if_neg eo]
      by_cases ez : z = n
      · rw [if_pos ez, if_pos ez]
        exact hg o so ho
      · rw [if_neg ez, if_neg ez]
        rw [if_neg ez, if_neg eo] at e
        exact hg z s e
  · -- copy
    subst e
    obtain ⟨d0, d1, rfl⟩ := len2 (Option.some.inj hln).symm
    replace h : copyB fs d0 d1 = some gs := h
    unfold copyB at h
    obtain ⟨el, hel⟩ : ∃ el, sortOf fs d0 = some el := by
      cases ho : sortOf fs d0 with
      | none =>
        rw [ho] at h
        cases h
      | some el => exact ⟨el, rfl⟩
    rw [hel] at h
    obtain ⟨hc, rfl⟩ := ifs h
    obtain ⟨o, rfl, ho⟩ := sortOf_of hel
    obtain ⟨n, rfl, hn⟩ := isNew_of hc
    show AgF (fs ++ [(n, el)]) (upM a n (a o)) (upM b n (b o))
    rw [hg o el ho]
    exact ag_new hg hn
  · -- drop
    subst e
    obtain ⟨d0, rfl⟩ := len1 (Option.some.inj hln).symm
    obtain ⟨hc, rfl⟩ := ifs (show dropB fs d0 = some gs from h)
    obtain ⟨so, hso⟩ := Option.isSome_iff_exists.mp hc
    obtain ⟨o, rfl, ho⟩ := sortOf_of hso
    intro z s e
    have e : getF (fs.filter fun x => !decide (x.1 = o)) z = some s := e
    show upM a o none z = upM b o none z
    unfold upM
    by_cases ez : z = o
    · rw [if_pos ez, if_pos ez]
    · rw [if_neg ez, if_neg ez]
      rw [getF_dropD, if_neg ez] at e
      exact hg z s e
  · -- put
    subst e
    obtain ⟨d0, d1, d2, rfl⟩ := len3 (Option.some.inj hln).symm
    obtain ⟨hc, rfl⟩ := ifs (show putB fs d0 d1 d2 = some gs from h)
    obtain ⟨c1, c2⟩ := (Bool.and_eq_true _ _).mp hc
    obtain ⟨n, rfl, hn⟩ := isNew_of c1
    exact ag_new hg hn
  · -- scale
    subst e
    obtain ⟨d0, d1, d2, rfl⟩ := len3 (Option.some.inj hln).symm
    obtain ⟨hc, rfl⟩ := ifs (show scaleB fs d0 d1 d2 = some gs from h)
    obtain ⟨c1, c2⟩ := (Bool.and_eq_true _ _).mp hc
    obtain ⟨el, hel, hn⟩ := among_of c1
    obtain ⟨o, rfl, ho⟩ := sortOf_of hel
    intro z s e
    show upM a o (some (.int (intOf (valM a (.str o)) * intOf d1 + intOf d2))) z = upM b o (some (.int (intOf (valM b (.str o)) * intOf d1 + intOf d2))) z
    rw [hg.val ho]
    unfold upM
    by_cases ez : z = o
    · rw [if_pos ez, if_pos ez]
    · rw [if_neg ez, if_neg ez]
      exact hg z s e
  · -- sum
    subst e
    obtain ⟨d0, d1, rfl⟩ := len2 (Option.some.inj hln).symm
    obtain ⟨hc, rfl⟩ := ifs (show sumB fs d0 d1 = some gs from h)
    obtain ⟨c1, c2⟩ := (Bool.and_eq_true _ _).mp hc
    obtain ⟨n, rfl, hn⟩ := isNew_of c1
    obtain ⟨l, rfl⟩ : ∃ l, d1 = .tuple l := by
      cases d1 <;> first | exact ⟨_, rfl⟩ | cases c2
    replace c2 : ((decide (1 ≤ l.length) && decide (l.length ≤ 6)) && l.all fun f => amongB numsL (sortOf fs f)) = true := c2
    rw [Bool.and_eq_true] at c2
    have e : sumM a l = sumM b l := by
      unfold sumM
      have : l.map (fun f => intOf (valM a f)) = l.map fun f => intOf (valM b f) := List.map_congr_left fun f hf => by
        obtain ⟨s, hs, _⟩ := among_of (List.all_eq_true.mp c2.2 f hf)
        obtain ⟨z, rfl, hz⟩ := sortOf_of hs
        rw [hg.val hz]
      rw [this]
    show AgF (fs ++ [(n, ("amount" : Str))]) (upM a n (some (.int (sumM a l)))) (upM b n (some (.int (sumM b l))))
    rw [e]
    exact ag_new hg hn
  · -- join
    subst e
    obtain ⟨d0, d1, rfl⟩ := len2 (Option.some.inj hln).symm
    obtain ⟨hc, rfl⟩ := ifs (show joinB fs d0 d1 = some gs from h)
    obtain ⟨c1, c2⟩ := (Bool.and_eq_true _ _).mp hc
    obtain ⟨n, rfl, hn⟩ := isNew_of c1
    obtain ⟨l, rfl⟩ : ∃ l, d1 = .tuple l := by
      cases d1 <;> first | exact ⟨_, rfl⟩ | cases c2
    have c2 : ((decide (1 ≤ l.length) && decide (l.length ≤ 8)) && l.all (partB fs)) = true := c2
    rw [Bool.and_eq_true] at c2
    have e : joinM a l = joinM b l := by
      unfold joinM
      have : l.map (partM a) = l.map (partM b) := List.map_congr_left fun f hf => by
        have hp := List.all_eq_true.mp c2.2 f hf
        match f, hp with
        | .tuple [.str k, d], hp =>
          have hp : (if k = "say" then sayB d else (decide (k = "field") && amongB joinL (sortOf fs d))) = true := hp
          show (if k = "say" then txtOf d else txtOf (valM a d)) = if k = "say" then txtOf d else txtOf (valM b d)
          by_cases ek : k = "say"
          · rw [if_pos ek, if_pos ek]
          · rw [if_neg ek, if_neg ek]
            rw [if_neg ek, Bool.and_eq_true] at hp
            obtain ⟨s, hs, _⟩ := among_of hp.2
            obtain ⟨z, rfl, hz⟩ := sortOf_of hs
            rw [hg.val hz]
      rw [this]
    show AgF (fs ++ [(n, ("text" : Str))]) (upM a n (some (.str (joinM a l)))) (upM b n (some (.str (joinM b l))))
    rw [e]
    exact ag_new hg hn
  · -- table
    subst e
    obtain ⟨d0, d1, d2, d3, rfl⟩ := len4 (Option.some.inj hln).symm
    replace h : tableB fs d0 d1 d2 d3 = some gs := h
    unfold tableB at h
    cases ho : sortOf fs d0 with
    | none =>
      rw [ho] at h
      cases h
    | some el =>
      rw [ho] at h
      obtain ⟨hc, rfl⟩ := ifs h
      obtain ⟨o, rfl, ho⟩ := sortOf_of ho
      have e1 : setF fs o (txtOf d1) = fs.map fun x => if x.1 = o then (x.1, txtOf d1) else x := set_map ho
      show AgF (setF fs o (txtOf d1)) (upM a o (some (tabM (valM a (.str o)) (items d2) d3))) (upM b o (some (tabM (valM b (.str o)) (items d2) d3)))
      rw [e1, hg.val ho]
      intro z s e
      unfold upM
      by_cases ez : z = o
      · rw [if_pos ez, if_pos ez]
      · rw [if_neg ez, if_neg ez]
        rw [getF_setD, if_neg ez] at e
        exact hg z s e
  · -- case
    subst e
    obtain ⟨d0, d1, d2, d3, rfl⟩ := len4 (Option.some.inj hln).symm
    obtain ⟨el, x, y, hel, hx, hy, e, eg⟩ : ∃ el x y, sortOf fs d0 = some el ∧ rec fs d2 = .ok x ∧ rec fs d3 = .ok y ∧ eqF x y = true ∧ gs = x := by
      replace h : caseB rec fs d0 d1 d2 d3 = some gs := h
      unfold caseB at h
      cases ho : sortOf fs d0 with
      | none =>
        rw [ho] at h
        cases h
      | some el =>
        rw [ho] at h
        dsimp only at h
        by_cases k : (decide (el ∈ testL) && ofSort el d1) = true
        · rw [if_pos k] at h
          cases hy : rec fs d2 with
          | error n =>
            rw [hy] at h
            cases h
          | ok x =>
            cases hn : rec fs d3 with
            | error n =>
              rw [hy, hn] at h
              cases h
            | ok y =>
              rw [hy, hn] at h
              obtain ⟨he, rfl⟩ := ifs h
              exact ⟨el, _, y, rfl, rfl, rfl, he, rfl⟩
        · rw [if_neg k] at h
          cases h
    subst eg
    obtain ⟨o, rfl, ho⟩ := sortOf_of hel
    show AgF gs (if eqP (valM a (.str o)) d1 = true then dr a d2 else dr a d3) (if eqP (valM b (.str o)) d1 = true then dr b d2 else dr b d3)
    rw [hg.val ho]
    by_cases k : eqP (valM b (.str o)) d1 = true
    · rw [if_pos k, if_pos k]
      exact ih fs d2 gs a b hx hg
    · rw [if_neg k, if_neg k]
      intro z s e2
      refine ih fs d3 y a b hy hg z s ?_
      unfold eqF at e
      simp only [Bool.and_eq_true, List.all_eq_true] at e
      exact of_decide_eq_true (e.2 _ (getF_inD e2))
theorem ag_go {c : Nat} (ih : ∀ fs d gs a b, recOf c fs d = .ok gs → AgF fs a b → AgF gs (dRec c a d) (dRec c b d)) : ∀ (ds : List PyData) (i : Nat) (fs gs : Fs) (a b : Mv), goB (stepB (recOf c)) i fs ds = .ok gs → AgF fs a b → AgF gs (doGo (doS (dRec c)) a ds) (doGo (doS (dRec c)) b ds)
  | [], i, fs, gs, a, b, h, hg => by
    obtain rfl := Except.ok.inj (show Except.ok fs = Except.ok gs from h)
    exact hg
  | d :: r, i, fs, gs, a, b, h, hg => by
    rw [go_cons] at h
    cases e : stepB (recOf c) fs d with
    | none =>
      rw [e] at h
      cases h
    | some hs =>
      rw [e] at h
      obtain ⟨w, l, rfl, hl, _⟩ := stepB_some e
      exact ag_go ih r (i + 1) hs gs _ _ h (ag_lead ih hl hg)
theorem ag_rec : ∀ (c : Nat), ∀ fs d gs a b, recOf c fs d = .ok gs → AgF fs a b → AgF gs (dRec c a d) (dRec c b d)
  | 0, fs, d, gs, a, b, h, _ => by cases h
  | c + 1, fs, d, gs, a, b, h, hg => by
    have h : stepsB c fs d = .ok gs := h
    rw [steps_over] at h
    show AgF gs (doB c a d) (doB c b d)
    rw [do_over, do_over]
    cases d with
    | list ds => exact ag_go (ag_rec c) ds 0 fs gs a b h hg
    | tuple ds => exact ag_go (ag_rec c) ds 0 fs gs a b h hg
    | _ => cases h
theorem ag_steps (c : Nat) {fs gs : Fs} {d : PyData} {a b : Mv} (h : stepsB c fs d = .ok gs) (hg : AgF fs a b) : AgF gs (doB c a d) (doB c b d) := ag_rec (c + 1) fs d gs a b h hg
/-! the values of all fields -/
theorem mOf_map : ∀ {fs : Fs} (m : Mv), (fs.map Prod.fst).Nodup → (∀ n s, getF fs n = some s → ∃ v, m n = some v) → AgF fs (mOf fs (fs.map fun g => valM m (.str g.1))) m
  | [], m, _, _ => fun n s e => by cases e
  | g :: r, m, nd, h => fun n s e => by
    rw [List.map_cons, List.nodup_cons] at nd
    show (if g.1 = n then some (valM m (.str g.1)) else mOf r (r.map fun g => valM m (.str g.1)) n) = m n
    by_cases en : g.1 = n
    · rw [if_pos en]
      obtain ⟨v, hv⟩ := h g.1 g.2 (getF_cons_pos rfl)
      rw [valM_of hv, ← en, hv]
    · rw [if_neg en]
      rw [getF_cons_neg en] at e
      refine mOf_map m nd.2 (fun z t ez => ?_) n s e
      have zn : ¬ g.1 = z := fun h => nd.1 (by rw [h]; exact List.mem_map.mpr ⟨(z, t), getF_inD ez, rfl⟩)
      exact h z t (by rw [getF_cons_neg zn]; exact ez)
theorem map_mOf : ∀ {fs : Fs} {Ds : List PyData}, Ds.length = fs.length → (fs.map Prod.fst).Nodup → fs.map (fun g => valM (mOf fs Ds) (.str g.1)) = Ds
  | [], [], _, _ => rfl
  | g :: r, d :: ds, hl, nd => by
    rw [List.map_cons, List.nodup_cons] at nd
    have ih := map_mOf (fs := r) (Ds := ds) (by simpa using hl) nd.2
    have e0 : valM (mOf (g :: r) (d :: ds)) (.str g.1) = d := by
      show ((if g.1 = g.1 then some d else mOf r ds g.1)).getD .none = d
      rw [if_pos rfl]
      rfl
    have e1 : r.map (fun x => valM (mOf (g :: r) (d :: ds)) (.str x.1)) = r.map fun x => valM (mOf r ds) (.str x.1) := List.map_congr_left fun x hx => by
      show ((if g.1 = x.1 then some d else mOf r ds x.1)).getD .none = (mOf r ds x.1).getD .none
      rw [if_neg (fun e => nd.1 (List.mem_map.mpr ⟨x, hx, e.symm⟩))]
    rw [List.map_cons, e0, e1, ih]
  | [], _ :: _, hl, _ => by simp at hl
  | _ :: _, [], hl, _ => by simp at hl
theorem ag_vals {gs : Fs} {a b : Mv} (h : AgF gs a b) (nd : (gs.map Prod.fst).Nodup) : gs.map (fun g => valM a (.str g.1)) = gs.map fun g => valM b (.str g.1) := List.map_congr_left fun g hg => h.val (getF_mem nd (show (g.1, g.2) ∈ gs from hg))
theorem doGo_app (st : Mv → PyData → Mv) : ∀ (a b : List PyData) (m : Mv), doGo st m (a ++ b) = doGo st (doGo st m a) b
  | [], _, _ => rfl
  | d :: r, b, m => doGo_app st r b (st m d)
end St6

set_option autoImplicit false
set_option maxHeartbeats 4000000
namespace St6
open PySem PySem.Spec PyProof.Rows L2 Tg Cc Nn TL
/-! how long texts become by drawn steps, and what scales take
-/
theorem lenGo_id {st : Nat → PyData → Nat} : ∀ (l : List PyData) (L : Nat), (∀ d ∈ l, ∀ L, st L d = L) → lenGo st L l = L
  | [], _, _ => rfl
  | d :: r, L, h => by
    show lenGo st (st L d) r = L
    rw [h d (List.mem_cons_self ..)]
    exact lenGo_id r L fun x hx => h x (List.mem_cons_of_mem _ hx)
theorem len_sym {d : PyData} (h : SyM d) : ∀ c L, lenS (lRec c) L d = L := by
  induction h with
  | @flat w r h1 h2 h3 =>
    intro c L
    show lenLead (lRec c) L w r = L
    unfold lenLead
    split
    · rw [if_neg h2]
    · rw [if_neg h3]
    · rfl
  | scale _ => intro c L; rfl
  | @case t v ys zs _ _ iy iz =>
    intro c L
    show max (lRec c L (.tuple ys)) (lRec c L (.tuple zs)) = L
    cases c with
    | zero => exact Nat.max_self L
    | succ c =>
      show max (lngB c L (.tuple ys)) (lngB c L (.tuple zs)) = L
      rw [len_over, len_over]
      show max (lenGo (lenS (lRec c)) L ys) (lenGo (lenS (lRec c)) L zs) = L
      rw [lenGo_id ys L fun d hd L => iy d hd c L, lenGo_id zs L fun d hd L => iz d hd c L, Nat.max_self]
theorem tm_sym {d : PyData} (h : SyM d) : ∀ c, tmS (tRec c) d = true := by
  induction h with
  | @flat w r h1 h2 h3 =>
    intro c
    show tmLead (tRec c) w r = true
    unfold tmLead
    split
    · rw [decide_eq_false h1]
      rfl
    · rw [decide_eq_false h3]
      rfl
    · rfl
  | @scale n p t ht =>
    intro c
    show (!decide (("scale" : Str) = "scale") || decide ((intOf (.int t)).natAbs < 1073741824)) = true
    rw [decide_eq_true (show (intOf (.int t)).natAbs < 1073741824 from Nat.lt_of_le_of_lt ht (by decide)), Bool.or_true]
  | @case t v ys zs _ _ iy iz =>
    intro c
    show (!decide (("case" : Str) = "case") || (tRec c (.tuple ys) && tRec c (.tuple zs))) = true
    have hy : tRec c (.tuple ys) = true ∧ tRec c (.tuple zs) = true := by
      cases c with
      | zero => exact ⟨rfl, rfl⟩
      | succ c =>
        refine ⟨?_, ?_⟩
        · show tmB c (.tuple ys) = true
          rw [tm_over]
          exact List.all_eq_true.mpr fun d hd => iy d hd c
        · show tmB c (.tuple zs) = true
          rw [tm_over]
          exact List.all_eq_true.mpr fun d hd => iz d hd c
    rw [hy.1, hy.2]
    exact Bool.or_true _
theorem tm_sy {d : PyData} (h : Sy d) (c : Nat) : tmS (tRec c) d = true := by
  rcases h with h | ⟨n, l, rfl, _⟩
  · exact tm_sym h c
  · rfl
theorem len_sy {d : PyData} (h : Sy d) (c L : Nat) (hL : 36 ≤ L) : lenS (lRec c) L d ≤ 4 ^ (joins [d]) * L := by
  rcases h with h | ⟨n, l, rfl, hl⟩
  · rw [len_sym h]
    exact Nat.le_mul_of_pos_left L (Nat.pow_pos (by decide))
  · have e : joins [.tuple [.str "join", n, .tuple l]] = 1 := by
      have hj : isJoin (.tuple [.str "join", n, .tuple l]) = true := (show decide (("join" : Str) = "join") = true from decide_eq_true rfl)
      unfold joins
      rw [List.filter_cons_of_pos (p := isJoin) hj]
      rfl
    rw [e]
    show max L (l.map (partLen L)).sum ≤ 4 ^ 1 * L
    have := hl L
    omega
theorem lenGo_le {c : Nat} : ∀ (ds : List PyData) (L : Nat), (∀ d ∈ ds, Sy d) → 36 ≤ L → lenGo (lenS (lRec c)) L ds ≤ 4 ^ (joins ds) * L
  | [], L, _, _ => by
    show L ≤ 4 ^ 0 * L
    omega
  | d :: r, L, h, hL => by
    have h1 := len_sy (h d (List.mem_cons_self ..)) c L hL
    have h2 := lenGo_le (c := c) r (lenS (lRec c) L d) (fun x hx => h x (List.mem_cons_of_mem _ hx)) (Nat.le_trans hL (lenS_ge (lRec_ge c) L d))
    have e : joins (d :: r) = joins [d] + joins r := joins_app [d] r
    show lenGo (lenS (lRec c)) (lenS (lRec c) L d) r ≤ _
    refine Nat.le_trans h2 ?_
    rw [e, Nat.pow_add]
    calc 4 ^ joins r * lenS (lRec c) L d ≤ 4 ^ joins r * (4 ^ joins [d] * L) := Nat.mul_le_mul_left _ h1
      _ = 4 ^ joins [d] * 4 ^ joins r * L := by rw [← Nat.mul_assoc, Nat.mul_comm (4 ^ joins r)]
theorem steps_len {fs gs : Fs} {ds : List PyData} (h : StepsD fs ds gs) (hj : joins ds ≤ 8) (c : Nat) : lngB c 40 (.tuple ds) ≤ 16000000 := by
  rw [len_over]
  refine Nat.le_trans (lenGo_le ds 40 h.sy (by decide)) ?_
  have : 4 ^ joins ds ≤ 4 ^ 8 := Nat.pow_le_pow_right (by decide) hj
  have e : 4 ^ 8 = 65536 := by decide
  omega
theorem steps_tm {fs gs : Fs} {ds : List PyData} (h : StepsD fs ds gs) (c : Nat) : tmB c (.tuple ds) = true := by
  rw [tm_over]
  exact List.all_eq_true.mpr fun d hd => tm_sy (h.sy d hd) c
theorem GoodF.fok {fs : Fs} (h : GoodF fs) : FOk fs := ⟨h.nd, fun x hx => (h.ok x hx).2.2.2⟩
/-- values that fit stand for a form's fields
-/
theorem mok_fits : ∀ {fs : Fs} {Ds : List PyData}, Ds.length = fs.length → (∀ x ∈ fs, x.2 ∈ sorts) → ((Ds.zip fs).all fun x => ofSort x.2.2 x.1) = true → MOk 40 fs (mOf fs Ds)
  | [], [], _, _, _ => fun n s e => by cases e
  | g :: r, d :: ds, hl, hs, h => fun n s e => by
    have h : (ofSort g.2 d && (ds.zip r).all fun x => ofSort x.2.2 x.1) = true := h
    rw [Bool.and_eq_true] at h
    show ∃ v, (if g.1 = n then some d else mOf r ds n) = some v ∧ VOk 40 s v
    by_cases en : g.1 = n
    · rw [if_pos en]
      rw [getF_cons_pos en] at e
      obtain rfl := Option.some.inj e
      exact ⟨d, rfl, vok_sort (hs g (List.mem_cons_self ..)) h.1 (Nat.le_refl _)⟩
    · rw [if_neg en]
      rw [getF_cons_neg en] at e
      exact mok_fits (by simpa using hl) (fun x hx => hs x (List.mem_cons_of_mem _ hx)) h.2 n s e
  | [], _ :: _, hl, _, _ => by simp at hl
  | _ :: _, [], hl, _, _ => by simp at hl
theorem vals_fits {fs : Fs} {Ds : List PyData} (h : fitsB fs (.tuple Ds) = true) (hs : ∀ x ∈ fs, x.2 ∈ sorts) : Ds.length = fs.length ∧ MOk 40 fs (mOf fs Ds) := by
  have h : (decide (Ds.length = fs.length) && (Ds.zip fs).all fun x => ofSort x.2.2 x.1) = true := h
  rw [Bool.and_eq_true] at h
  exact ⟨of_decide_eq_true h.1, mok_fits (of_decide_eq_true h.1) hs h.2⟩
theorem plain_vok {D : PyData} (h : Plain D) : ∃ L s, VOk L s D := by
  cases D with
  | int i => exact ⟨0, "code", vok_int (by decide +kernel) i⟩
  | str z => exact ⟨z.length, "text", vok_str (by decide +kernel) (Nat.le_refl _) h.2⟩
  | _ => exact h.elim
end St6

set_option autoImplicit false
set_option maxHeartbeats 4000000
namespace St6
open PySem PySem.Spec PyProof.Rows L2 Tg Cc Nn TL
/-! the defs that call themselves, to any depth -/
section
variable {P : Program} {w : World} {K : PySem.W.Frag} {mg : Str → Option Value} {base : Heap}
theorem ok_mods {f f_d f_p f_v f_r : Addr} {fd fd_d fd_p fd_v fd_r : FuncData} (F : FnP K "_law_mods" sLawMods f fd) (cD : Cl P w K mg base CX0 "_law_draw" 1 ["pen", "many"] spDraw f_d fd_d) (cP : Cl P w K mg base CX0 "_law_pick" 2 ["pen", "fields", "sorts"] (spPick K) f_p fd_p) (cV : Cl P w K mg base CX0 "_law_value" 3 ["pen", "sort"] spValueD f_v fd_v) (cR : Cl P w K mg base CX0 "_law_rows" 4 ["pen", "old", "new"] (spRowsD K) f_r fd_r)
    (m_ : mg "_law_mods" = some (.ref f)) (b_ : Binds K fd ["pen", "fields", "deep", "many"] []) (h1 : mg "range" = none) (h2 : mg "tuple" = none) (h3 : mg "dict" = none) (h4 : mg "int" = none) : ∀ k, FnOk P w K mg base CX0 (4 + k + 1) f fd ["pen", "fields", "deep", "many"] (spMods K k)
  | 0 => ok_modsS (k := 0) F cD cP cV cR ⟨fn_sub fun vs H Q E ⟨m', e, _⟩ => by omega, m_, F.kp, b_⟩ h1 h2 h3 h4
  | k + 1 => ok_modsS (k := k + 1) F cD cP cV cR ⟨(ok_mods F cD cP cV cR m_ b_ h1 h2 h3 h4 k).imp fun vs H Q E ⟨m', e, h⟩ => by
      obtain rfl : k = m' := by omega
      exact h, m_, F.kp, b_⟩ h1 h2 h3 h4
theorem mods_rec {f : Addr} {fd : FuncData} (h : ∀ k, FnOk P w K mg base CX0 (4 + k + 1) f fd ["pen", "fields", "deep", "many"] (spMods K k)) : ∀ k, FnOk P w K mg base CX0 (4 + k) f fd ["pen", "fields", "deep", "many"] (spMRec K k)
  | 0 => fn_sub fun vs H Q E ⟨m', e, _⟩ => by omega
  | k + 1 => (h k).imp fun vs H Q E ⟨m', e, h⟩ => by
      obtain rfl : k = m' := by omega
      exact h
end
end St6

set_option autoImplicit false
set_option maxHeartbeats 4000000
set_option exponentiation.threshold 1000
namespace Fx
open PySem PySem.Spec PyProof.Rows L2 Tg Cc TL St6
abbrev Ok (d : PyData) : Prop := Bd 150000 20 d
theorem lineN {n : Nat} (h : n ≤ 150000) : n ≤ sizeLine := by
  rw [szl]
  omega
section
variable {P : Program} {w : World} {K : PySem.W.Frag} {mg : Str → Option Value} {base : Heap}
def spSmall (K : PySem.W.Frag) : Sp := fun vs H Q _ => ∃ v d n, vs = [v, .int (n : Nat)] ∧ Th K H v d ∧ Ok d ∧ ∀ H', Same H H' → Q (.bl (smallB n d)) H'
def spName (K : PySem.W.Frag) : Sp := fun vs H Q _ => ∃ v d, vs = [v] ∧ Th K H v d ∧ Ok d ∧ ∀ H', Same H H' → Q (.bl (smallB 12 d)) H'
def spSort (K : PySem.W.Frag) : Sp := fun vs H Q _ => ∃ v d, vs = [v] ∧ Th K H v d ∧ Ok d ∧ ∀ H', Same H H' → Q (.bl (sortB d)) H'
def spField (K : PySem.W.Frag) : Sp := fun vs H Q _ => ∃ v d, vs = [v] ∧ Th K H v d ∧ Ok d ∧ ∀ H', Same H H' → Q (.bl (fieldB d)) H'
def spForm (K : PySem.W.Frag) : Sp := fun vs H Q _ => ∃ v d, vs = [v] ∧ Th K H v d ∧ Ok d ∧ ∀ H', Same H H' → Q (.bl (formB d)) H'
theorem ok_small {f : Addr} {fd : FuncData} (F : FnP K "_is_small" sIsSmall f fd)  (mb_isinstance : mg "isinstance" = none) (mb_str : mg "str" = none) (mb_len : mg "len" = none) (mb_all : mg "all" = none)   : FnOk P w K mg base CX0 1 f fd ["thing", "longest"] (spSmall K) := by
  refine F.ok scsmall (fun vs H Q E h => ?_) (fun cdv A outer s H vs Q E hr h => ?_)
  · obtain ⟨v, d, n, rfl, _⟩ := h
    rfl
  · obtain ⟨v, d, n, rfl, hT, hB, q⟩ := h
    have hu := hu_of hr
    refine ⟨_, PSs.nox (pss_cons (ps_if (PW.pt (pw_or (pt_not (pt_val (pe_callB call_isi (by rfl) mb_isinstance (by decide +kernel) (pa_cons (pv 0) (pa_cons (pe_bltn (v := .ty "str") (by rfl) mb_str (by decide +kernel) rfl) pa_nil))))) (pw_or1 (pt_not (pt_chain op_le op_le (pe_int) (pe_callB call_len_str (by rfl) mb_len (by decide +kernel) (pa_cons (pv 0) pa_nil)) (pv 1)))))) (pss_one (ps_ret (pe_bl))) (pss_nil))
      (pss_one (ps_ret (pe_callB (cr_all rfl) (by rfl) mb_all (by decide +kernel) (pa_cons (pe_lc (own := [("sign", 2)]) (g := gName 2) (tt := tYes) rfl scsmall.nd (pi_str (pv 0)) (blkOk_by (own := [("sign", 2)]) (N := ["thing", "longest", "sign"]) (sc := defScope sIsSmall) (by decide +kernel)) (fun _ _ _ _ _ => pg_name (i := 2) scsmall.nd rfl (Or.inl rfl)) (fun _ _ _ _ _ => pts_nil) (fun _ _ _ _ _ => pe_chain op_le_str op_le_str (pe_str) (pv 2) (pe_str))) pa_nil))))), ?_⟩
    refine ⟨_, rfl, v, .ty "str", _, _, _, rfl, .ty "str", hT.ty, kit_ty (kit_str d), _, rfl, ?_⟩
    cases hs : isStr d with
    | false =>
      refine iteT (iteT ?_)
      have e := q H (Same.refl H)
      rw [smallB_not hs] at e
      exact e
    | true =>
      obtain ⟨z, rfl⟩ := isStr_eq hs
      obtain rfl := hT.asStr
      have hz := (bd_str.mp hB).1
      refine iteF ⟨_, rfl, z, rfl, lineN hz, _, _, rfl, rfl, _, rfl, ?_⟩
      have val : smallB n (.str z) = ((decide (1 ≤ z.length) && decide (z.length ≤ n)) && z.cps.toList.all lowC) := rfl
      refine ite2 (fun e1 => ⟨_, rfl, _, _, rfl, rfl, _, rfl, ite2 (fun e2 => ?_) (fun e2 => ?_)⟩) (fun e1 => ⟨_, rfl, iteT ?_⟩)
      · have c2 : ¬ z.length ≤ n := fun y => by
          rw [decide_eq_true (show (z.length : Int) ≤ (n : Int) by omega)] at e2
          cases e2
        have e := q H (Same.refl H)
        rw [val, decide_eq_false c2, Bool.and_false, Bool.false_and] at e
        exact e
      · have c1 : 1 ≤ z.length := by
          have := of_decide_eq_true e1
          omega
        have c2 : z.length ≤ n := by
          have : (!decide ((z.length : Int) ≤ (n : Int))) = false := by simpa using e2
          rw [Bool.not_eq_false'] at this
          have := of_decide_eq_true this
          omega
        rw [val, decide_eq_true c1, decide_eq_true c2, Bool.true_and, Bool.true_and] at q
        refine ⟨_, rfl, z, rfl, fun D nD => ?_⟩
        refine lc_acc (walk_str (z := z)) (fun i acc H' => But D H H' ∧ acc = (z.cps.toList.take i).map fun c => V.bl (lowC c)) ⟨But.refl.upd, rfl⟩ (fun _ _ _ _ _ _ => trivial) ?_ ?_
        · rintro i x acc H1 H2 hi la ⟨b, ea⟩ hD ⟨rfl, c, hc, rfl⟩
          have hc2 : z.cps.toList[i]? = some c := by rw [Array.getElem?_toList]; exact hc
          have hl : z.length = z.cps.size := rfl
          have put : ∀ k : Bool, k = lowC c → Push D i (fun i acc H' => But D H H' ∧ acc = (z.cps.toList.take i).map fun c => V.bl (lowC c)) (.bl k) H2 := fun k ek => by
            refine push hD la (by omega) ⟨b.upd, ?_⟩
            rw [ea, ek, List.take_succ, hc2, List.map_append]
            rfl
          refine ⟨rfl, _, rfl, _, _, rfl, rfl, _, rfl, ite2 (fun e => ?_) (fun e => ?_)⟩
          · rw [le_sign] at e
            exact ⟨_, _, rfl, rfl, put _ (by rw [sign_le]; unfold lowC; rw [e, Bool.true_and])⟩
          · rw [le_sign] at e
            exact put _ (by unfold lowC; rw [Bool.eq_false_iff.mpr e, Bool.false_and])
        · rintro acc H' la ⟨b, rfl⟩ hD
          rw [List.take_of_length_le (by rw [Array.length_toList]; exact Nat.le_refl _)] at hD
          refine ⟨D, z.cps.toList.map lowC, rfl, SqL.of (by rw [hD, List.map_map]; rfl), ?_⟩
          rw [List.all_map]
          exact q H' (b.new nD)
      · have c1 : ¬ 1 ≤ z.length := fun y => e1 (decide_eq_true (by omega))
        have e := q H (Same.refl H)
        rw [val, decide_eq_false c1, Bool.false_and, Bool.false_and] at e
        exact e
theorem ok_name {f : Addr} {fd : FuncData} (F : FnP K "is_name" sIsName f fd) {f__is_small : Addr} {fd__is_small : FuncData} (c__is_small : Cl P w K mg base CX0 "_is_small" 1 ["thing", "longest"] (spSmall K) f__is_small fd__is_small)  {u12 : Value} (m_LONGEST_NAME : mg "LONGEST_NAME" = some u12) (h12 : RelV (.int 12) u12)  : FnOk P w K mg base CX0 2 f fd ["thing"] (spName K) := by
  refine F.ok scname (fun vs H Q E h => ?_) (fun cdv A outer s H vs Q E hr h => ?_)
  · obtain ⟨v, d, rfl, _⟩ := h
    rfl
  · obtain ⟨v, d, rfl, hT, hB, q⟩ := h
    have hu := hu_of hr
    refine ⟨_, PSs.nox (pss_one (ps_ret (pe_call c__is_small.ok (hr.mono (by decide)) (by rfl) c__is_small.m c__is_small.kp c__is_small.b .nil pass0 (pa_cons (pv 0) (pa_cons (pe_glob rfl m_LONGEST_NAME h12) pa_nil))))), ?_⟩
    exact ⟨_, rfl, v, d, 12, rfl, hT, hB, q⟩
theorem ok_sort {f : Addr} {fd : FuncData} (F : FnP K "is_sort" sIsSort f fd)  (mb_isinstance : mg "isinstance" = none) (mb_str : mg "str" = none) {aS : Addr} (m_SORTS : mg "SORTS" = some (.ref aS)) (hS : ∀ H, SqT K H aS (sorts.map V.str))  : FnOk P w K mg base CX0 1 f fd ["thing"] (spSort K) := by
  refine F.ok scsort (fun vs H Q E h => ?_) (fun cdv A outer s H vs Q E hr h => ?_)
  · obtain ⟨v, d, rfl, _⟩ := h
    rfl
  · obtain ⟨v, d, rfl, hT, hB, q⟩ := h
    have hu := hu_of hr
    refine ⟨_, PSs.nox (pss_one (ps_ret (pe_and (pe_callB call_isi (by rfl) mb_isinstance (by decide +kernel) (pa_cons (pv 0) (pa_cons (pe_bltn (v := .ty "str") (by rfl) mb_str (by decide +kernel) rfl) pa_nil))) (pe_one (pe_cmpR op_in_seq (pv 0) (pe_glob (v := .ref aS) rfl m_SORTS rfl) (by with_unfolding_all rfl)))))), ?_⟩
    refine ⟨_, rfl, v, .ty "str", _, _, _, rfl, .ty "str", hT.ty, kit_ty (kit_str d), _, rfl, ?_⟩
    cases hs : isStr d with
    | false =>
      have e := q H (Same.refl H)
      rw [sortB_not hs] at e
      exact iteF e
    | true =>
      obtain ⟨z, rfl⟩ := isStr_eq hs
      obtain rfl := hT.asStr
      refine iteT ⟨_, rfl, aS, _, rfl, .inr (hS H), rfl, by decide +kernel, ?_⟩
      rw [if_neg (by decide), in_strs]
      exact q H (Same.refl H)
theorem ok_field {f : Addr} {fd : FuncData} (F : FnP K "_is_field" sIsField f fd) {f_is_name : Addr} {fd_is_name : FuncData} (c_is_name : Cl P w K mg base CX0 "is_name" 2 ["thing"] (spName K) f_is_name fd_is_name) {f_is_sort : Addr} {fd_is_sort : FuncData} (c_is_sort : Cl P w K mg base CX0 "is_sort" 1 ["thing"] (spSort K) f_is_sort fd_is_sort) (mb_isinstance : mg "isinstance" = none) (mb_tuple : mg "tuple" = none) (mb_len : mg "len" = none)   : FnOk P w K mg base CX0 3 f fd ["thing"] (spField K) := by
  refine F.ok scfield (fun vs H Q E h => ?_) (fun cdv A outer s H vs Q E hr h => ?_)
  · obtain ⟨v, d, rfl, _⟩ := h
    rfl
  · obtain ⟨v, d, rfl, hT, hB, q⟩ := h
    have hu := hu_of hr
    refine ⟨_, PSs.nox (pss_one (ps_ret (pe_and (pe_callB call_isi (by rfl) mb_isinstance (by decide +kernel) (pa_cons (pv 0) (pa_cons (pe_bltn (v := .ty "tuple") (by rfl) mb_tuple (by decide +kernel) rfl) pa_nil))) (pe_and (pe_cmpR op_eq (pe_callB call_len (by rfl) mb_len (by decide +kernel) (pa_cons (pv 0) pa_nil)) (pe_int) (nomark _)) (pe_and (pe_call c_is_name.ok (hr.mono (by decide)) (by rfl) c_is_name.m c_is_name.kp c_is_name.b .nil pass0 (pa_cons (pe_ix Cc.ix_B (pv 0) (pe_int) (fun _ _ => rfl)) pa_nil)) (pe_one (pe_call c_is_sort.ok (hr.mono (by decide)) (by rfl) c_is_sort.m c_is_sort.kp c_is_sort.b .nil pass0 (pa_cons (pe_ix Cc.ix_B (pv 0) (pe_int) (fun _ _ => rfl)) pa_nil)))))))), ?_⟩
    refine ⟨_, rfl, v, .ty "tuple", _, _, _, rfl, .ty "tuple", hT.ty, kit_ty (kit_tup d), _, rfl, ?_⟩
    cases ht : isTup d with
    | false =>
      have e := q H (Same.refl H)
      rw [fieldB_not ht] at e
      exact iteF e
    | true =>
      obtain ⟨ds, rfl⟩ := isTup_eq ht
      obtain ⟨a, xs, rfl, hx, hA⟩ := hT.asTup
      have lx := hA.len
      refine iteT ⟨_, rfl, _, _, rfl, .inr ⟨_, hx, rfl⟩, rfl, _, rfl, ite2 (fun e => ?_) (fun e => ?_)⟩
      · have e2 : xs.length = 2 := by
          rw [St6.dec_int] at e
          have := of_decide_eq_true e
          omega
        obtain ⟨x0, x1, rfl⟩ := len2 e2
        obtain ⟨d0, d1, rfl⟩ := len2 (lx.symm.trans e2)
        obtain ⟨t0, t1⟩ : Th K H x0 d0 ∧ Th K H x1 d1 := by
          cases hA with
          | cons h0 h1 =>
            cases h1 with
            | cons h1 _ => exact ⟨h0, h1⟩
        have bs := (Bd.tup hB).2
        refine ⟨_, rfl, true, a, _, 0, x0, rfl, rfl, hx, rfl, x0, d0, rfl, t0, bs d0 (by simp), fun H1 s1 => ⟨_, rfl, ?_⟩⟩
        have val : fieldB (.tuple [d0, d1]) = (smallB 12 d0 && sortB d1) := rfl
        rw [val] at q
        cases hn : smallB 12 d0 with
        | false =>
          rw [hn, Bool.false_and] at q
          exact iteF (q H1 s1)
        | true =>
          rw [hn, Bool.true_and] at q
          exact iteT ⟨_, rfl, true, a, _, 1, x1, rfl, rfl, (Sq.same (t := true) hx s1), rfl, x1, d1, rfl, t1.kept (kept_same s1), bs d1 (by simp), fun H2 s2 => q H2 (s1.trans s2)⟩
      · have e2 : ds.length ≠ 2 := fun z => e (by rw [lx, z]; decide)
        have e3 := q H (Same.refl H)
        rw [fieldB_len e2] at e3
        exact e3
theorem ok_form {f : Addr} {fd : FuncData} (F : FnP K "is_form" sIsForm f fd) {f__is_field : Addr} {fd__is_field : FuncData} (c__is_field : Cl P w K mg base CX0 "_is_field" 3 ["thing"] (spField K) f__is_field fd__is_field) (mb_isinstance : mg "isinstance" = none) (mb_tuple : mg "tuple" = none) (mb_len : mg "len" = none) (mb_all : mg "all" = none) {u6 : Value} (m_MOST_FIELDS : mg "MOST_FIELDS" = some u6) (h6 : RelV (.int 6) u6)  : FnOk P w K mg base CX0 4 f fd ["thing"] (spForm K) := by
  refine F.ok scform (fun vs H Q E h => ?_) (fun cdv A outer s H vs Q E hr h => ?_)
  · obtain ⟨v, d, rfl, _⟩ := h
    rfl
  · obtain ⟨v, d, rfl, hT, hB, q⟩ := h
    have hu := hu_of hr
    refine ⟨_, PSs.nox (pss_cons (ps_if (PW.pt (pw_or (pt_not (pt_val (pe_callB call_isi (by rfl) mb_isinstance (by decide +kernel) (pa_cons (pv 0) (pa_cons (pe_bltn (v := .ty "tuple") (by rfl) mb_tuple (by decide +kernel) rfl) pa_nil))))) (pw_or1 (pt_not (pt_chain op_le op_le (pe_int) (pe_callB call_len (by rfl) mb_len (by decide +kernel) (pa_cons (pv 0) pa_nil)) (pe_glob rfl m_MOST_FIELDS h6)))))) (pss_one (ps_ret (pe_bl))) (pss_nil))
      (pss_cons (ps_if (pt_not (pt_val (pe_callB (cr_all rfl) (by rfl) mb_all (by decide +kernel) (pa_cons (pe_lc (own := [("part", 1)]) (g := gName 1) (tt := tYes) rfl scform.nd (pi_tup (pv 0)) (blkOk_by (own := [("part", 1)]) (N := ["thing", "part"]) (sc := defScope sIsForm) (by decide +kernel)) (fun _ _ _ _ _ => pg_name (i := 1) scform.nd rfl (Or.inl rfl)) (fun _ _ _ _ _ => pts_nil) (fun _ _ _ _ _ => pe_call c__is_field.ok (hr.mono (by decide)) (by rfl) c__is_field.m c__is_field.kp c__is_field.b .nil pass0 (pa_cons (pv 1) pa_nil))) pa_nil)))) (pss_one (ps_ret (pe_bl))) (pss_nil))
      (pss_one (ps_ret (pe_cmpR op_eq (pe_callB Ys.call_lenK (by rfl) mb_len (by decide +kernel) (pa_cons (Ys.pe_scK (own := [("part", 1)]) (g := gName 1) (tt := tYes) rfl scform.nd (pi_tup (pv 0)) (blkOk_by (own := [("part", 1)]) (N := ["thing", "part"]) (sc := defScope sIsForm) (by decide +kernel)) (fun _ _ _ _ _ => pg_name (i := 1) scform.nd rfl (Or.inl rfl)) (fun _ _ _ _ _ => pts_nil) (fun _ _ _ _ _ => pe_ix (Cc.ix_Bk (K := K) rfl) (pv 1) (pe_int) (fun _ _ => rfl))) pa_nil)) (pe_callB call_len (by rfl) mb_len (by decide +kernel) (pa_cons (pv 0) pa_nil)) (nomark _)))))), ?_⟩
    refine ⟨_, rfl, v, .ty "tuple", _, _, _, rfl, .ty "tuple", hT.ty, kit_ty (kit_tup d), _, rfl, ?_⟩
    cases ht : isTup d with
    | false =>
      have e := q H (Same.refl H)
      rw [formB_not ht] at e
      exact iteT (iteT e)
    | true =>
      obtain ⟨ds, rfl⟩ := isTup_eq ht
      obtain ⟨a, xs, rfl, hx, hA⟩ := hT.asTup
      have lx := hA.len
      have bs := Bd.tup hB
      have val : formB (.tuple ds) = ((decide (1 ≤ ds.length) && decide (ds.length ≤ 6)) && ds.all fieldB && decide ((ds.map nameOf).Nodup)) := rfl
      refine iteF ⟨_, rfl, _, _, rfl, .inr ⟨_, hx, rfl⟩, _, _, rfl, rfl, _, rfl, ite2 (fun e1 => ⟨_, _, rfl, rfl, _, rfl, ite2 (fun e2 => ?_) (fun e2 => ?_)⟩) (fun e1 => ⟨_, rfl, iteT ?_⟩)⟩
      · have c2 : ¬ ds.length ≤ 6 := fun y => by
          rw [decide_eq_true (show (xs.length : Int) ≤ 6 by omega)] at e2
          cases e2
        have e := q H (Same.refl H)
        rw [val, decide_eq_false c2, Bool.and_false, Bool.false_and, Bool.false_and] at e
        exact e
      · have c1 : 1 ≤ ds.length := by
          have := of_decide_eq_true e1
          omega
        have c2 : ds.length ≤ 6 := by
          have : (!decide ((xs.length : Int) ≤ 6)) = false := by simpa using e2
          rw [Bool.not_eq_false'] at this
          have := of_decide_eq_true this
          omega
        rw [val, decide_eq_true c1, decide_eq_true c2, Bool.true_and, Bool.true_and] at q
        refine ⟨_, rfl, a, rfl, ⟨xs, hx⟩, fun D nD => ?_⟩
        refine lc_acc (walk_tup (K := K) (a := a) (xs := xs)) (fun i acc H' => But D H H' ∧ acc = (ds.take i).map fun d => V.bl (fieldB d)) ⟨But.refl.upd, rfl⟩ (fun i acc H' _ ⟨b, _⟩ _ => Sq.same (t := true) hx (b.new nD)) ?_ ?_
        · rintro i x acc H1 H2 hi la ⟨b, ea⟩ hD ⟨rfl, hx2⟩
          obtain ⟨d, hd, td, md⟩ := ThAll.get2 hA hx2
          have s1 := b.new nD
          refine ⟨rfl, _, rfl, x, d, rfl, td.kept (kept_same s1), (bs.2 d md), fun H3 s3 => ?_⟩
          refine push (s3 _ _ hD) la (by omega) ⟨(b.same s3).upd, ?_⟩
          rw [ea, List.take_succ, hd, List.map_append]
          rfl
        · rintro acc H1 la ⟨b, rfl⟩ hD
          have s1 := b.new nD
          rw [lx, List.take_length] at hD
          refine ⟨D, ds.map fieldB, rfl, SqL.of (by rw [hD, List.map_map]; rfl), _, rfl, ?_⟩
          rw [List.all_map]
          cases hf : ds.all fieldB with
          | false =>
            rw [hf, Bool.false_and] at q
            exact (show if (!(ds.all fieldB)) = true then _ else _ from by rw [hf]; exact iteT (q H1 s1))
          | true =>
            rw [hf, Bool.true_and] at q
            refine (show if (!(ds.all fieldB)) = true then _ else _ from by
              rw [hf]
              refine iteF ?_
              have hx1 := Sq.same (t := true) hx s1
              refine ⟨_, rfl, a, rfl, ⟨xs, hx1⟩, fun D2 nD2 => ?_⟩
              refine sc_acc (walk_tup (K := K) (a := a) (xs := xs)) (fun i S m H' => But D2 H1 H' ∧ Met1 (ds.map nameOf) i S m) ⟨But.refl.upd, Met1.zero⟩ (fun i S m H' _ ⟨b, _⟩ _ => Sq.same (t := true) hx1 (b.new nD2)) ?_ ?_
              · rintro i x S m H2 H3 hi ⟨b2, mt⟩ hD2 ⟨rfl, hx2⟩
                obtain ⟨d, hd, td, md⟩ := ThAll.get2 hA hx2
                obtain ⟨p, x1, z, rfl, hp, ed, _⟩ := field_parts td (all_fields hf hd)
                have s2 := s1.trans (b2.new nD2)
                refine ⟨rfl, _, rfl, true, p, _, 0, _, rfl, rfl, Sq.same (t := true) hp s2, rfl, ?_⟩
                refine pushK (Sum.inr (nameOf d)) rfl hD2 (mt.few (by omega)) ⟨b2.upd, mt.next (by rw [List.length_map]; omega) _ ?_⟩
                rw [List.getD_eq_getElem?_getD, List.getElem?_map, hd]
                rfl
              · rintro S m H2 ⟨b2, mt⟩ hD2
                rw [lx, ← List.length_map (f := nameOf)] at mt
                refine ⟨D2, S, m, rfl, hD2, _, rfl, _, _, rfl, .inr ⟨_, Sq.same (t := true) hx1 (b2.new nD2), rfl⟩, rfl, ?_⟩
                have e := mt.all
                rw [List.length_map] at e
                rw [St6.dec_int, lx, e]
                exact q H2 (s1.trans (b2.new nD2)))
      · have c1 : ¬ 1 ≤ ds.length := fun y => e1 (decide_eq_true (by omega))
        have e := q H (Same.refl H)
        rw [val, decide_eq_false c1, Bool.false_and, Bool.false_and, Bool.false_and] at e
        exact e
end
section
variable {P : Program} {w : World} {K : PySem.W.Frag} {mg : Str → Option Value} {base : Heap}
def spSign : Sp := fun vs H Q _ => ∃ c : Nat, vs = [.str ⟨#[c]⟩] ∧ Q (.bl (signB c)) H
def spTextB (K : PySem.W.Frag) : Sp := fun vs H Q _ => ∃ v d, vs = [v] ∧ Th K H v d ∧ Ok d ∧ ∀ H', Same H H' → Q (.bl (txtB d)) H'
def spWhole (K : PySem.W.Frag) : Sp := fun vs H Q _ => ∃ v d, vs = [v] ∧ Th K H v d ∧ Ok d ∧ ∀ H', Same H H' → Q (.bl (wholeB d)) H'
def spOfSort (K : PySem.W.Frag) : Sp := fun vs H Q _ => ∃ v d s, vs = [v, .str s] ∧ Th K H v d ∧ Ok d ∧ ∀ H', Same H H' → Q (.bl (ofSort s d)) H'
def spFits (K : PySem.W.Frag) : Sp := fun vs H Q _ => ∃ f fs v d, vs = [f, v] ∧ Th K H f (formD fs) ∧ Ok (formD fs) ∧ formB (formD fs) = true ∧ Th K H v d ∧ Ok d ∧ ∀ H', Same H H' → Q (.bl (fitsB fs d)) H'
theorem ok_sign {f : Addr} {fd : FuncData} (F : FnP K "is_sign" sIsSign f fd)  (mb_ord : mg "ord" = none) {u37 : Value} (m_PERCENT : mg "PERCENT" = some u37) (h37 : RelV (.int 37) u37)  : FnOk P w K mg base CX0 1 f fd ["sign"] (spSign) := by
  refine F.ok scsign (fun vs H Q E h => ?_) (fun cdv A outer s H vs Q E hr h => ?_)
  · obtain ⟨c, rfl, _⟩ := h
    rfl
  · obtain ⟨c, rfl, q⟩ := h
    have hu := hu_of hr
    refine ⟨_, PSs.nox (pss_one (ps_ret (pe_and (pe_chain op_le_str op_le_str (pe_str) (pv 0) (pe_str)) (pe_one (pe_cmpR op_ne (pe_callB call_ord (by rfl) mb_ord (by decide +kernel) (pa_cons (pv 0) pa_nil)) (pe_glob rfl m_PERCENT h37) (nomark _)))))), ?_⟩
    have e : signB c = ((decide (32 ≤ c) && decide (c ≤ 126)) && decide (c ≠ 37)) := rfl
    have l1 : (⟨#[c]⟩ : Str).length = 1 := rfl
    refine ⟨_, rfl, _, _, rfl, rfl, _, rfl, ite2 (fun e1 => ?_) (fun e1 => ?_)⟩
    · rw [le_blank] at e1
      refine ⟨_, _, rfl, rfl, _, rfl, ite2 (fun e2 => ?_) (fun e2 => ?_)⟩
      · rw [tilde_le] at e2
        refine ⟨_, rfl, ⟨#[c]⟩, rfl, l1, rfl, ?_⟩
        rw [e, e1, e2] at q
        have e3 : (!decide (V.int ((c : Nat) : Int) = V.int 37)) = decide (c ≠ 37) := by
          rw [St6.dec_int, decide_not]
          congr 1
          exact decide_eq_decide.mpr (by omega)
        exact (show Q (.bl (!decide (V.int ((c : Nat) : Int) = V.int 37))) H from by rw [e3]; exact q)
      · rw [tilde_le] at e2
        rw [e, e1, Bool.eq_false_iff.mpr e2] at q
        exact q
    · rw [le_blank] at e1
      rw [e, Bool.eq_false_iff.mpr e1] at q
      exact ⟨_, rfl, iteF q⟩
theorem ok_text {f : Addr} {fd : FuncData} (F : FnP K "is_text" sIsText f fd) {f_is_sign : Addr} {fd_is_sign : FuncData} (c_is_sign : Cl P w K mg base CX0 "is_sign" 1 ["sign"] (spSign) f_is_sign fd_is_sign) (mb_isinstance : mg "isinstance" = none) (mb_str : mg "str" = none) (mb_all : mg "all" = none)   : FnOk P w K mg base CX0 2 f fd ["thing"] (spTextB K) := by
  refine F.ok sctext (fun vs H Q E h => ?_) (fun cdv A outer s H vs Q E hr h => ?_)
  · obtain ⟨v, d, rfl, _⟩ := h
    rfl
  · obtain ⟨v, d, rfl, hT, hB, q⟩ := h
    have hu := hu_of hr
    refine ⟨_, PSs.nox (pss_one (ps_ret (pe_and (pe_callB call_isi (by rfl) mb_isinstance (by decide +kernel) (pa_cons (pv 0) (pa_cons (pe_bltn (v := .ty "str") (by rfl) mb_str (by decide +kernel) rfl) pa_nil))) (pe_one (pe_callB (cr_all rfl) (by rfl) mb_all (by decide +kernel) (pa_cons (pe_lc (own := [("sign", 1)]) (g := gName 1) (tt := tYes) rfl sctext.nd (pi_str (pv 0)) (blkOk_by (own := [("sign", 1)]) (N := ["thing", "sign"]) (sc := defScope sIsText) (by decide +kernel)) (fun _ _ _ _ _ => pg_name (i := 1) sctext.nd rfl (Or.inl rfl)) (fun _ _ _ _ _ => pts_nil) (fun _ _ _ _ _ => pe_call c_is_sign.ok (hr.mono (by decide)) (by rfl) c_is_sign.m c_is_sign.kp c_is_sign.b .nil pass0 (pa_cons (pv 1) pa_nil))) pa_nil)))))), ?_⟩
    refine ⟨_, rfl, v, .ty "str", _, _, _, rfl, .ty "str", hT.ty, kit_ty (kit_str d), _, rfl, ?_⟩
    cases hs : isStr d with
    | false =>
      have e := q H (Same.refl H)
      rw [txtB_not hs] at e
      exact iteF e
    | true =>
      obtain ⟨z, rfl⟩ := isStr_eq hs
      obtain rfl := hT.asStr
      refine iteT ⟨_, rfl, z, rfl, fun D nD => ?_⟩
      have hz := (bd_str.mp hB).1
      have hl : z.length = z.cps.size := rfl
      refine lc_acc (walk_str (z := z)) (fun i acc H' => But D H H' ∧ acc = (z.cps.toList.take i).map fun c => V.bl (signB c)) ⟨But.refl.upd, rfl⟩ (fun _ _ _ _ _ _ => trivial) ?_ ?_
      · rintro i x acc H1 H2 hi la ⟨b, ea⟩ hD ⟨rfl, c, hc, rfl⟩
        have hc2 : z.cps.toList[i]? = some c := by rw [Array.getElem?_toList]; exact hc
        refine ⟨rfl, _, rfl, c, rfl, push hD la (by omega) ⟨b.upd, ?_⟩⟩
        rw [ea, List.take_succ, hc2, List.map_append]
        rfl
      · rintro acc H' la ⟨b, rfl⟩ hD
        rw [List.take_of_length_le (by rw [Array.length_toList]; exact Nat.le_refl _)] at hD
        refine ⟨D, z.cps.toList.map signB, rfl, SqL.of (by rw [hD, List.map_map]; rfl), ?_⟩
        rw [List.all_map]
        exact q H' (b.new nD)
theorem ok_whole {f : Addr} {fd : FuncData} (F : FnP K "is_whole" sIsWhole f fd)  (mb_isinstance : mg "isinstance" = none) (mb_int : mg "int" = none) (mb_bool : mg "bool" = none)   : FnOk P w K mg base CX0 1 f fd ["thing"] (spWhole K) := by
  refine F.ok scwhole (fun vs H Q E h => ?_) (fun cdv A outer s H vs Q E hr h => ?_)
  · obtain ⟨v, d, rfl, _⟩ := h
    rfl
  · obtain ⟨v, d, rfl, hT, hB, q⟩ := h
    have hu := hu_of hr
    refine ⟨_, PSs.nox (pss_one (ps_ret (pe_and (pe_callB call_isi (by rfl) mb_isinstance (by decide +kernel) (pa_cons (pv 0) (pa_cons (pe_bltn (v := .ty "int") (by rfl) mb_int (by decide +kernel) rfl) pa_nil))) (pe_one (pe_not (pe_callB call_isi (by rfl) mb_isinstance (by decide +kernel) (pa_cons (pv 0) (pa_cons (pe_bltn (v := .ty "bool") (by rfl) mb_bool (by decide +kernel) rfl) pa_nil)))))))), ?_⟩
    refine ⟨_, rfl, v, .ty "int", _, _, _, rfl, .ty "int", hT.ty, kit_ty (kit_int d), _, rfl, ?_⟩
    rw [whole_is] at q
    cases hi : isInt d with
    | false =>
      rw [hi] at q
      exact iteF (q H (Same.refl H))
    | true =>
      rw [hi] at q
      exact iteT ⟨_, rfl, v, .ty "bool", _, _, _, rfl, .ty "bool", hT.ty, kit_ty (kit_bool d), _, rfl, q H (Same.refl H)⟩
theorem ok_ofsort {f : Addr} {fd : FuncData} (F : FnP K "is_of_sort" sIsOfSort f fd) {f__is_small : Addr} {fd__is_small : FuncData} (c__is_small : Cl P w K mg base CX0 "_is_small" 1 ["thing", "longest"] (spSmall K) f__is_small fd__is_small) {f_is_text : Addr} {fd_is_text : FuncData} (c_is_text : Cl P w K mg base CX0 "is_text" 2 ["thing"] (spTextB K) f_is_text fd_is_text) {f_is_whole : Addr} {fd_is_whole : FuncData} (c_is_whole : Cl P w K mg base CX0 "is_whole" 1 ["thing"] (spWhole K) f_is_whole fd_is_whole) (mb_len : mg "len" = none) {u8 u40 : Value} (m_LONGEST_WORD : mg "LONGEST_WORD" = some u8) (h8 : RelV (.int 8) u8) (m_LONGEST_TEXT : mg "LONGEST_TEXT" = some u40) (h40 : RelV (.int 40) u40)  : FnOk P w K mg base CX0 3 f fd ["value", "sort"] (spOfSort K) := by
  refine F.ok scofsort (fun vs H Q E h => ?_) (fun cdv A outer s H vs Q E hr h => ?_)
  · obtain ⟨v, d, s, rfl, _⟩ := h
    rfl
  · obtain ⟨v, d, s, rfl, hT, hB, q⟩ := h
    have hu := hu_of hr
    refine ⟨_, PSs.nox (pss_cons (ps_if (pt_cmpR op_eq (pv 1) (pe_str) (nomark _)) (pss_one (ps_ret (pe_call c__is_small.ok (hr.mono (by decide)) (by rfl) c__is_small.m c__is_small.kp c__is_small.b .nil pass0 (pa_cons (pv 0) (pa_cons (pe_glob rfl m_LONGEST_WORD h8) pa_nil))))) (pss_nil))
      (pss_cons (ps_if (pt_cmpR op_eq (pv 1) (pe_str) (nomark _)) (pss_one (ps_ret (pe_and (pe_call c_is_text.ok (hr.mono (by decide)) (by rfl) c_is_text.m c_is_text.kp c_is_text.b .nil pass0 (pa_cons (pv 0) pa_nil)) (pe_one (pe_cmpR op_le (pe_callB call_len_str (by rfl) mb_len (by decide +kernel) (pa_cons (pv 0) pa_nil)) (pe_glob rfl m_LONGEST_TEXT h40) (nomark _)))))) (pss_nil))
      (pss_one (ps_ret (pe_call c_is_whole.ok (hr.mono (by decide)) (by rfl) c_is_whole.m c_is_whole.kp c_is_whole.b .nil pass0 (pa_cons (pv 0) pa_nil)))))), ?_⟩
    unfold ofSort at q
    refine ⟨_, rfl, rfl, _, rfl, ite2 (fun e => ?_) (fun e => ?_)⟩
    · rw [St6.dec_str] at e
      rw [if_pos (of_decide_eq_true e)] at q
      exact ⟨_, rfl, v, d, 8, rfl, hT, hB, q⟩
    · rw [St6.dec_str] at e
      rw [if_neg (fun z => e (decide_eq_true z))] at q
      refine ⟨_, rfl, rfl, _, rfl, ite2 (fun e2 => ?_) (fun e2 => ?_)⟩
      · rw [St6.dec_str] at e2
        rw [if_pos (of_decide_eq_true e2)] at q
        refine ⟨_, rfl, v, d, rfl, hT, hB, fun H1 s1 => ⟨_, rfl, ?_⟩⟩
        cases ht : txtB d with
        | false =>
          rw [ht, Bool.false_and] at q
          exact iteF (q H1 s1)
        | true =>
          rw [ht, Bool.true_and] at q
          cases hs : isStr d with
          | false =>
            rw [txtB_not hs] at ht
            cases ht
          | true =>
            obtain ⟨z, rfl⟩ := isStr_eq hs
            obtain rfl := hT.asStr
            have hz := (bd_str.mp hB).1
            refine iteT ⟨_, rfl, z, rfl, lineN hz, _, _, rfl, rfl, ?_⟩
            have e3 : decide ((z.length : Int) ≤ 40) = decide (z.length ≤ 40) := decide_eq_decide.mpr (by omega)
            exact (show Q (.bl (decide ((z.length : Int) ≤ 40))) H1 from by rw [e3]; exact q H1 s1)
      · rw [St6.dec_str] at e2
        rw [if_neg (fun z => e2 (decide_eq_true z))] at q
        exact ⟨_, rfl, v, d, rfl, hT, hB, q⟩
theorem ok_fits {f : Addr} {fd : FuncData} (F : FnP K "fits" sFits f fd) {f_is_form : Addr} {fd_is_form : FuncData} (c_is_form : Cl P w K mg base CX0 "is_form" 4 ["thing"] (spForm K) f_is_form fd_is_form) {f_is_of_sort : Addr} {fd_is_of_sort : FuncData} (c_is_of_sort : Cl P w K mg base CX0 "is_of_sort" 3 ["value", "sort"] (spOfSort K) f_is_of_sort fd_is_of_sort) (mb_isinstance : mg "isinstance" = none) (mb_tuple : mg "tuple" = none) (mb_len : mg "len" = none) (mb_all : mg "all" = none) (mb_zip : mg "zip" = none)   : FnOk P w K mg base CX0 5 f fd ["form", "values"] (spFits K) := by
  refine F.ok scfits (fun vs H Q E h => ?_) (fun cdv A outer s H vs Q E hr h => ?_)
  · obtain ⟨f, fs, v, d, rfl, _⟩ := h
    rfl
  · obtain ⟨p, fs, v, d, rfl, hF, bF, gF, hT, hB, q⟩ := h
    have hu := hu_of hr
    refine ⟨_, PSs.nox (pss_cons (ps_if (PW.pt (pw_or (pt_not (pt_val (pe_call c_is_form.ok (hr.mono (by decide)) (by rfl) c_is_form.m c_is_form.kp c_is_form.b .nil pass0 (pa_cons (pv 0) pa_nil)))) (pw_or (pt_not (pt_val (pe_callB call_isi (by rfl) mb_isinstance (by decide +kernel) (pa_cons (pv 1) (pa_cons (pe_bltn (v := .ty "tuple") (by rfl) mb_tuple (by decide +kernel) rfl) pa_nil))))) (pw_or1 (pt_cmpR op_ne (pe_callB call_len (by rfl) mb_len (by decide +kernel) (pa_cons (pv 1) pa_nil)) (pe_callB call_len (by rfl) mb_len (by decide +kernel) (pa_cons (pv 0) pa_nil)) (nomark _)))))) (pss_one (ps_ret (pe_bl))) (pss_nil))
      (pss_one (ps_ret (pe_callB (cr_all rfl) (by rfl) mb_all (by decide +kernel) (pa_cons (pe_lc (own := [("value", 2), ("_", 3), ("sort", 4)]) (tt := tYes) rfl scfits.nd (RZ.pi_zipA (by rfl) mb_zip (pa_cons (pv 1) (pa_cons (pv 0) pa_nil))) (blkOk_by (own := [("value", 2), ("_", 3), ("sort", 4)]) (N := ["form", "values", "value", "_", "sort"]) (sc := defScope sFits) (by decide +kernel)) (fun _ _ _ _ _ => Cc.pg_tupk (K := K) (n := 2) rfl rfl (pgs_cons (pg_name (i := 2) scfits.nd rfl (Or.inl rfl)) (pgs_cons (Cc.pg_tupk (K := K) (n := 2) rfl rfl (pgs_cons (pg_name (i := 3) scfits.nd rfl (Or.inl rfl)) (pgs_cons (pg_name (i := 4) scfits.nd rfl (Or.inl rfl)) (pgs_nil)))) (pgs_nil)))) (fun _ _ _ _ _ => pts_nil) (fun _ _ _ _ _ => pe_call c_is_of_sort.ok (hr.mono (by decide)) (by rfl) c_is_of_sort.m c_is_of_sort.kp c_is_of_sort.b .nil pass0 (pa_cons (pv 2) (pa_cons (pv 4) pa_nil)))) pa_nil))))), ?_⟩
    refine ⟨_, rfl, p, formD fs, rfl, hF, bF, fun H1 s1 => ?_⟩
    rw [gF]
    have hT1 := hT.kept (kept_same s1)
    obtain ⟨pf, fx, rfl, hf, hFA⟩ := hF.asTup
    have lf : fx.length = fs.length := by rw [hFA.len, List.length_map]
    refine ⟨_, rfl, iteF ⟨_, rfl, v, .ty "tuple", _, _, _, rfl, .ty "tuple", hT1.ty, kit_ty (kit_tup d), _, rfl, ?_⟩⟩
    cases ht : isTup d with
    | false =>
      have e := q H1 s1
      rw [fitsB_not ht] at e
      exact iteT (iteT e)
    | true =>
      obtain ⟨ds, rfl⟩ := isTup_eq ht
      obtain ⟨a, xs, rfl, hx, hA⟩ := hT1.asTup
      have lx := hA.len
      have hf1 := Sq.same (t := true) hf s1
      have bs := Bd.tup hB
      refine iteF ⟨_, rfl, _, _, rfl, .inr ⟨_, hx, rfl⟩, _, rfl, _, _, rfl, .inr ⟨_, hf1, rfl⟩, rfl, _, rfl, ite2 (fun e => ?_) (fun e => ?_)⟩
      · have ne : ¬ ds.length = fs.length := fun z => by
          rw [St6.dec_int, decide_eq_true (show (xs.length : Int) = fx.length by omega)] at e
          cases e
        have e2 := q H1 s1
        rw [show fitsB fs (.tuple ds) = (decide (ds.length = fs.length) && (ds.zip fs).all fun x => ofSort x.2.2 x.1) from rfl, decide_eq_false ne, Bool.false_and] at e2
        exact e2
      · have eq : ds.length = fs.length := by
          have e3 : (!decide (V.int (xs.length : Nat) = V.int (fx.length : Nat))) = false := by simpa using e
          rw [St6.dec_int, Bool.not_eq_false'] at e3
          have := of_decide_eq_true e3
          omega
        refine ⟨_, rfl, _, rfl, a, pf, xs, fx, rfl, .inr ⟨hx, hf1, fun D nD => ?_⟩⟩
        refine lc_acc (walk_zipT (K := K) (a := a) (b := pf) (xs := xs) (ys := fx) rfl) (fun i acc H' => But D H1 H' ∧ acc = ((ds.zip fs).take i).map fun x => V.bl (ofSort x.2.2 x.1)) ⟨But.refl.upd, rfl⟩ (fun i acc H' _ ⟨b, _⟩ _ => ⟨Sq.same (t := true) hx (b.new nD), Sq.same (t := true) hf1 (b.new nD)⟩) ?_ ?_
        · rintro i y acc H2 H3 hi la ⟨b, ea⟩ hD ⟨T, x, z, rfl, nT, rfl, ex, ez⟩
          obtain ⟨dx, hdx, tx, mx⟩ := ThAll.get2 hA ex
          obtain ⟨dz, hdz, tz, mz⟩ := ThAll.get2 hFA ez
          obtain ⟨g, hg, rfl⟩ : ∃ g, fs[i]? = some g ∧ fieldD g = dz := by
            rw [List.getElem?_map] at hdz
            cases hg : fs[i]? with
            | none =>
              rw [hg] at hdz
              cases hdz
            | some g =>
              rw [hg] at hdz
              exact ⟨g, rfl, Option.some.inj hdz⟩
          obtain ⟨pz, zs, rfl, hpz, hZ⟩ := tz.asTup
          have ez2 : zs = [.str g.1, .str g.2] := by
            cases hZ with
            | cons h0 h1 =>
              cases h1 with
              | cons h1 h2 =>
                cases h2
                cases h0
                cases h1
                rfl
          subst ez2
          have sT := newS (o := .tup [x, .ref pz]) nT
          have s12 := (b.new nD).trans sT
          refine ⟨T, _, rfl, SqT.of upd_same, rfl, _, _, rfl, _, _, rfl, ⟨pz, _, rfl, Sq.same (t := true) hpz (s1.trans s12), rfl, _, _, rfl, _, _, rfl, rfl, rfl, rfl, ?_⟩⟩
          refine ⟨_, rfl, _, rfl, x, dx, g.2, rfl, tx.kept (kept_same s12), bs.2 dx mx, fun H4 s4 => ?_⟩
          have bD := (b.same sT).same s4
          have hD4 := s4 _ _ (sT _ _ hD)
          have lim := bs.1
          refine push hD4 la (by omega) ⟨bD.upd, ?_⟩
          rw [ea, zip_take hdx hg, List.map_append]
          rfl
        · rintro acc H2 la ⟨b, rfl⟩ hD
          have lz : (ds.zip fs).length = ds.length := by rw [List.length_zip]; omega
          rw [List.take_of_length_le (by rw [lz]; omega)] at hD
          refine ⟨D, (ds.zip fs).map fun x => ofSort x.2.2 x.1, rfl, SqL.of (by rw [hD, List.map_map]; rfl), ?_⟩
          rw [List.all_map]
          have e2 := q H2 (s1.trans (b.new nD))
          rw [show fitsB fs (.tuple ds) = (decide (ds.length = fs.length) && (ds.zip fs).all fun x => ofSort x.2.2 x.1) from rfl, decide_eq_true eq, Bool.true_and] at e2
          exact e2
end
end Fx

set_option autoImplicit false
set_option maxHeartbeats 4000000
namespace St6
open PySem PySem.Spec PyProof.Rows L2 Tg Cc Nn TL
/-! the law -/

def spLaw (K : PySem.W.Frag) : Sp := fun vs H Q _ => ∃ (a : Addr) (ns : List Int), vs = [.ref a] ∧ SqL K H a (ns.map V.int) ∧ ns.length ≤ 63 ∧ ∀ H', Q (.bl true) H'
theorem cL2 : cL 2 ≤ 80000 := by decide +kernel
theorem form_bd {N : Nat} {gs : Fs} (hN : 1000 ≤ N) (h : GoodF gs) : Bd N 2 (formD gs) := bd_tup (by rw [List.length_map]; have := h.hi; omega) fun d hd => by
  obtain ⟨g, hg, rfl⟩ := List.mem_map.mp hd
  obtain ⟨a, b, c, e⟩ := h.ok g hg
  refine bd_tup (by show 2 ≤ N; omega) (ac (bd_str40 (by omega) a.as) (ac ((bd_word (m := 1) (words_sorts e)).mono hN (Nat.le_refl _)) an))
theorem pu_vals {l : Bool} {Ds : List PyData} (h : ∀ D ∈ Ds, ∃ L s, VOk L s D) : Pu l (.tuple Ds) := .tup fun D hD => by
  obtain ⟨L, s, hv⟩ := h D hD
  rcases hv.plain with ⟨i, rfl⟩ | ⟨z, rfl, _⟩
  · exact .int _
  · exact .str _
theorem can_str {z : Str} (a : As z) : PyData.canLay0 (.str z) = true := by
  have h1 : PyData.strOk z = true := by
    unfold PyData.strOk
    rw [Array.all_eq_true']
    intro c hc
    have := a c (by simpa using hc)
    exact decide_eq_true (by omega)
  simpa [PyData.canLay0] using h1
theorem can_vals : ∀ {Ds : List PyData}, (∀ D ∈ Ds, ∃ L s, VOk L s D) → PyData.canLayAll0 Ds = true ∧ PyData.depthAll Ds = 0
  | [], _ => ⟨rfl, rfl⟩
  | D :: r, h => by
    have h2 := can_vals fun x hx => h x (List.mem_cons_of_mem _ hx)
    obtain ⟨L, s, hv⟩ := h D (List.mem_cons_self ..)
    rcases hv.plain with ⟨i, rfl⟩ | ⟨z, rfl, _, az⟩
    · simp only [PyData.canLayAll0, PyData.canLay0, PyData.depthAll, PyData.depth, h2.1, h2.2, Bool.true_and]
      exact ⟨trivial, rfl⟩
    · have h1 := can_str az
      simp only [PyData.canLayAll0, PyData.depthAll, PyData.depth, h1, h2.1, h2.2, Bool.true_and]
      exact ⟨trivial, rfl⟩
theorem shaped_vals {Ds : List PyData} (h : ∀ D ∈ Ds, ∃ L s, VOk L s D) : SeqAt.shaped (.tuple Ds) = true := by
  have := can_vals h
  unfold SeqAt.shaped
  simp only [PyData.canLay0, PyData.depth, this.1, this.2]
  decide
theorem eqv_vals {Ds : List PyData} (h : ∀ D ∈ Ds, ∃ L s, VOk L s D) : (PyData.tuple Ds).eqv (.tuple Ds) = true := SeqAt.eqv_refl _ (by simp only [PyData.canLay0]; exact (can_vals h).1)
theorem cutV_both (xs : List V) (a b : Nat) (h : a ≤ b) (hb : b ≤ xs.length) : cutV xs (some (a : Int)) (some (b : Int)) = (xs.drop a).take (b - a) := by
  unfold cutV
  have e1 : HT.sIx xs.length 0 (some (a : Int)) = a := by
    show (if (a : Int) < 0 then ((a : Int) + xs.length).toNat else min (a : Int).toNat xs.length) = _
    rw [if_neg (by omega), Int.toNat_natCast]
    omega
  have e2 : HT.sIx xs.length xs.length (some (b : Int)) = b := by
    show (if (b : Int) < 0 then ((b : Int) + xs.length).toNat else min (b : Int).toNat xs.length) = _
    rw [if_neg (by omega), Int.toNat_natCast]
    omega
  rw [e1, e2]
theorem go_any {st : Fs → PyData → Option Fs} : ∀ (ds : List PyData) (i j : Nat) (fs gs : Fs), goB st i fs ds = .ok gs → goB st j fs ds = .ok gs
  | [], _, _, _, _, h => h
  | d :: r, i, j, fs, gs, h => by
    rw [go_cons] at h ⊢
    cases e : st fs d with
    | none =>
      rw [e] at h
      cases h
    | some x =>
      rw [e] at h
      exact go_any r (i + 1) (j + 1) x gs h
theorem StepsD.app {fs gs hs : Fs} {a b : List PyData} (h : StepsD fs a gs) (k : StepsD gs b hs) : StepsD fs (a ++ b) hs :=
  ⟨fun d hd => (List.mem_append.mp hd).elim (h.pu d) (k.pu d), fun d hd => (List.mem_append.mp hd).elim (h.bd d) (k.bd d), fun d hd => (List.mem_append.mp hd).elim (h.gr d) (k.gr d),
   fun c hc => steps_app (h.st c hc) fun j => go_any b 0 j gs hs (by have := k.st c hc; rwa [steps_over] at this), k.gf, fun d hd => (List.mem_append.mp hd).elim (h.sy d) (k.sy d)⟩
theorem steps_len4 {fs gs : Fs} {ds : List PyData} (h : StepsD fs ds gs) (hj : joins ds ≤ 4) (c : Nat) : lngB c 40 (.tuple ds) ≤ 10240 := by
  rw [len_over]
  refine Nat.le_trans (lenGo_le ds 40 h.sy (by decide)) ?_
  have : 4 ^ joins ds ≤ 4 ^ 4 := Nat.pow_le_pow_right (by decide) hj
  have e : 4 ^ 4 = 256 := by decide
  omega
theorem mOf_mem : ∀ {fs : Fs} {Ds : List PyData} {z : Str} {d : PyData}, mOf fs Ds z = some d → d ∈ Ds
  | g :: r, x :: ds, z, d, h => by
    have h : (if g.1 = z then some x else mOf r ds z) = some d := h
    by_cases e : g.1 = z
    · rw [if_pos e] at h
      rw [Option.some.inj h]
      exact List.mem_cons_self ..
    · rw [if_neg e] at h
      exact List.mem_cons_of_mem _ (mOf_mem h)
  | [], _, _, _, h => by cases h
  | _ :: _, [], _, _, h => by cases h
theorem int_mOf {fs : Fs} {Ds : List PyData} (h : ∀ D ∈ Ds, Plain D) : IntB 1000 (mOf fs Ds) := fun n i e => by
  have : i.natAbs < 10 ^ 13 := h _ (mOf_mem e)
  exact Nat.le_of_lt (Nat.lt_of_lt_of_le this (Nat.pow_le_pow_right (by decide) (by decide)))
/-- what steps tell of a form's values -/

def resD (gs : Fs) (m : Mv) : List PyData := gs.map fun g => valM m (.str g.1)
theorem res_vok {L : Nat} {gs : Fs} {m : Mv} (nd : (gs.map Prod.fst).Nodup) (h : MOk L gs m) : ∀ D ∈ resD gs m, ∃ s, VOk L s D := fun D hD => by
  obtain ⟨g, hg, rfl⟩ := List.mem_map.mp hD
  obtain ⟨vv, hvv, hk⟩ := h g.1 g.2 (getF_mem nd hg)
  rw [valM_of hvv]
  exact ⟨_, hk⟩
theorem res_bd {gs : Fs} {m : Mv} {E : Nat} (l6 : gs.length ≤ 6) (nd : (gs.map Prod.fst).Nodup) (h : MOk 10240 gs m) (hi : IntB E m) (hE : E < 150000) : Bd 150000 20 (.tuple (resD gs m)) := by
  refine bd_tup (by unfold resD; rw [List.length_map]; omega) fun D hD => ?_
  obtain ⟨s, hv⟩ := res_vok nd h D hD
  obtain ⟨g, hg, rfl⟩ := List.mem_map.mp hD
  rcases hv.plain with ⟨i, ei⟩ | ⟨z, ez, lz, az⟩
  · rw [ei]
    have := int_val hi (.str g.1)
    rw [ei] at this
    exact bd_int.mpr (Nat.lt_of_le_of_lt this (Nat.pow_lt_pow_right (by decide) hE))
  · rw [ez]
    exact bd_str.mpr ⟨by omega, az⟩
section
variable {P : Program} {w : World} {K : PySem.W.Frag} {mg : Str → Option Value} {base : Heap} {C : Addr}
theorem sclaw : FnScope ["script", "pen", "turn", "names", "form", "one", "amid", "other", "again", "values", "left", "both"] ["script"] (defScope sLaw) := ⟨rfl, rfl, rfl, by decide +kernel, rfl, by decide +kernel, by decide +kernel⟩
theorem ok_law {f : Addr} {fd : FuncData} (F : FnP K "law" sLaw f fd) {f__law_pen : Addr} {fd__law_pen : FuncData} (c__law_pen : Cl P w K mg base CX0 "_law_pen" 1 ["script"] (spPen K) f__law_pen fd__law_pen) {f__law_names : Addr} {fd__law_names : FuncData} (c__law_names : Cl P w K mg base CX0 "_law_names" 2 ["pen", "many"] (spNames) f__law_names fd__law_names) {f__law_form : Addr} {fd__law_form : FuncData} (c__law_form : Cl P w K mg base CX0 "_law_form" 2 ["pen", "names", "least"] (spDFormZ K) f__law_form fd__law_form) {f__law_list : Addr} {fd__law_list : FuncData} (c__law_list : Cl P w K mg base CX0 "_law_list" 14 ["pen", "form", "news", "many", "deep"] (spListD K 2) f__law_list fd__law_list) {f__law_values : Addr} {fd__law_values : FuncData} (c__law_values : Cl P w K mg base CX0 "_law_values" 4 ["pen", "form"] (spValuesD K) f__law_values fd__law_values) {f_done : Addr} {fd_done : FuncData} (c_done : Cl P w K mg base CX0 "done" 25 ["form", "steps", "values"] (spDone K 5) f_done fd_done) {f_form_behind : Addr} {fd_form_behind : FuncData} (c_form_behind : Cl P w K mg base (L2.CX P w) "form_behind" 24 ["form", "steps"] (spFormBehind K C 5) f_form_behind fd_form_behind) {f_fits : Addr} {fd_fits : FuncData} (c_fits : Cl P w K mg base CX0 "fits" 5 ["form", "values"] (Fx.spFits K) f_fits fd_fits) (mb_range : mg "range" = none) (mb_min : mg "min" = none) (mb_len : mg "len" = none)   : FnOk P w K mg base CX0 26 f fd ["script"] (spLaw K) := by
  refine F.ok sclaw (fun vs H Q E h => ?_) (fun cdv A outer s H vs Q E hr h => ?_)
  · obtain ⟨a, ns, rfl, _⟩ := h
    rfl
  · obtain ⟨a, ns, rfl, hS, hl, q⟩ := h
    have hu := hu_of hr
    have hs := szl
    refine ⟨_, PSs.nox (pss_cons (ps_set (i := 1) sclaw.nd rfl (Or.inl rfl) (pe_call c__law_pen.ok (hr.mono (by decide)) (by rfl) c__law_pen.m c__law_pen.kp c__law_pen.b .nil pass0 (pa_cons (pv 0) pa_nil)))
      (pss_cons (ps_for PassesOwn.never rfl (pi_range1 (by rfl) mb_range (pa_cons (pe_op op_add (pe_int) (pe_callB (call_min2 rfl) (by rfl) mb_min (by decide +kernel) (pa_cons (pe_int) (pa_cons (pe_callB call_len_seq (by rfl) mb_len (by decide +kernel) (pa_cons (pv 0) pa_nil)) pa_nil)))) pa_nil)) (pg_name (i := 2) sclaw.nd rfl (Or.inl rfl)) (pss_cons (ps_set (i := 3) sclaw.nd rfl (Or.inl rfl) (pe_call c__law_names.ok (hr.mono (by decide)) (by rfl) c__law_names.m c__law_names.kp c__law_names.b .nil pass0 (pa_cons (pv 1) (pa_cons (pe_int) pa_nil))))
      (pss_cons (ps_set (i := 4) sclaw.nd rfl (Or.inl rfl) (pe_call c__law_form.ok (hr.mono (by decide)) (by rfl) c__law_form.m c__law_form.kp c__law_form.b .nil pass0 (pa_cons (pv 1) (pa_cons (pv 3) (pa_cons (pe_int) pa_nil)))))
      (pss_cons (ps_set (i := 5) sclaw.nd rfl (Or.inl rfl) (pe_call c__law_list.ok (hr.mono (by decide)) (by rfl) c__law_list.m c__law_list.kp c__law_list.b .nil pass0 (pa_cons (pv 1) (pa_cons (pv 4) (pa_cons (pe_slice sl_list (pv 3) (po_some (pe_int)) (po_some (pe_int))) (pa_cons (pe_int) (pa_cons (pe_int) pa_nil)))))))
      (pss_cons (ps_set (i := 6) sclaw.nd rfl (Or.inl rfl) (pe_call c_form_behind.ok (hr.mono (by decide)) (by rfl) c_form_behind.m c_form_behind.kp c_form_behind.b .nil passB (pa_cons (pv 4) (pa_cons (pv 5) pa_nil))))
      (pss_cons (ps_set (i := 7) sclaw.nd rfl (Or.inl rfl) (pe_call c__law_list.ok (hr.mono (by decide)) (by rfl) c__law_list.m c__law_list.kp c__law_list.b .nil pass0 (pa_cons (pv 1) (pa_cons (pv 6) (pa_cons (pe_slice sl_list (pv 3) (po_some (pe_int)) po_none) (pa_cons (pe_int) (pa_cons (pe_int) pa_nil)))))))
      (pss_cons (ps_if (PW.pt (pw_or (pt_cmpR (op_neD hr.units) (pe_call c_form_behind.ok (hr.mono (by decide)) (by rfl) c_form_behind.m c_form_behind.kp c_form_behind.b .nil passB (pa_cons (pv 4) (pa_cons (pe_op Cc.op_catB (pv 5) (pv 7)) pa_nil))) (pe_call c_form_behind.ok (hr.mono (by decide)) (by rfl) c_form_behind.m c_form_behind.kp c_form_behind.b .nil passB (pa_cons (pv 6) (pa_cons (pv 7) pa_nil))) (nomark _)) (pw_or1 (pt_cmpR (op_neD hr.units) (pe_call c_form_behind.ok (hr.mono (by decide)) (by rfl) c_form_behind.m c_form_behind.kp c_form_behind.b .nil passB (pa_cons (pv 6) (pa_cons (pe_tup (pa_nil)) pa_nil))) (pv 6) (nomark _))))) (pss_one (ps_ret (pe_bl))) (pss_nil))
      (pss_one (ps_for PassesOwn.never rfl (pi_range1 (by rfl) mb_range (pa_cons (pe_int) pa_nil)) (pg_name (i := 8) sclaw.nd rfl (Or.inl rfl)) (pss_cons (ps_set (i := 9) sclaw.nd rfl (Or.inl rfl) (pe_call c__law_values.ok (hr.mono (by decide)) (by rfl) c__law_values.m c__law_values.kp c__law_values.b .nil pass0 (pa_cons (pv 1) (pa_cons (pv 4) pa_nil))))
      (pss_cons (ps_set (i := 10) sclaw.nd rfl (Or.inl rfl) (pe_call c_done.ok (hr.mono (by decide)) (by rfl) c_done.m c_done.kp c_done.b .nil pass0 (pa_cons (pv 4) (pa_cons (pv 5) (pa_cons (pv 9) pa_nil)))))
      (pss_cons (ps_set (i := 11) sclaw.nd rfl (Or.inl rfl) (pe_call c_done.ok (hr.mono (by decide)) (by rfl) c_done.m c_done.kp c_done.b .nil pass0 (pa_cons (pv 4) (pa_cons (pe_op Cc.op_catB (pv 5) (pv 7)) (pa_cons (pv 9) pa_nil)))))
      (pss_cons (ps_if (PW.pt (pw_and (pt_val (pe_call c_fits.ok (hr.mono (by decide)) (by rfl) c_fits.m c_fits.kp c_fits.b .nil pass0 (pa_cons (pv 6) (pa_cons (pv 10) pa_nil)))) (pw_and1 (pt_cmpR (op_neD hr.units) (pv 11) (pe_call c_done.ok (hr.mono (by decide)) (by rfl) c_done.m c_done.kp c_done.b .nil pass0 (pa_cons (pv 6) (pa_cons (pv 7) (pa_cons (pv 10) pa_nil)))) (nomark _))))) (pss_one (ps_ret (pe_bl))) (pss_nil))
      (pss_one (ps_if (pt_cmpR (op_neD hr.units) (pe_call c_done.ok (hr.mono (by decide)) (by rfl) c_done.m c_done.kp c_done.b .nil pass0 (pa_cons (pv 4) (pa_cons (pe_lst (pa_nil)) (pa_cons (pv 9) pa_nil)))) (pv 9) (nomark _)) (pss_one (ps_ret (pe_bl))) (pss_nil))))))))))))))))
      (pss_one (ps_ret (pe_bl))))), ?_⟩
    refine ⟨_, rfl, a, ns, rfl, hS, hl, fun H1 d cl ms s1 nd nc P0 => ?_⟩
    have ln : ((ns.map V.int).length : Int) = (ns.length : Nat) := by rw [List.length_map]
    refine ⟨_, rfl, a, _, rfl, .inl (s1.seq hS), _, _, rfl, _, _, rfl, rfl, ?_⟩
    rw [ln]
    have turns : ∃ t : Nat, t ≤ 10 ∧ (3 + (if (ns.length : Int) < 7 then (ns.length : Int) else 7)) = (t : Int) := by
      by_cases c : (ns.length : Int) < 7
      · exact ⟨3 + ns.length, by omega, by rw [if_pos c]; omega⟩
      · exact ⟨10, by omega, by rw [if_neg c]; rfl⟩
    obtain ⟨t, ht, et⟩ := turns
    refine ⟨3 + (if (ns.length : Int) < 7 then (ns.length : Int) else 7), rfl, by omega, by omega, ?_⟩
    rw [et, Int.toNat_natCast]
    have c2 := cL2
    refine for_range (lo := 0) (n := t) (fun i σ' H' => (∃ x2 x3 x4 x5 x6 x7 x8 x9 x10 x11, σ' = [some (.ref a), some (.ref d), x2, x3, x4, x5, x6, x7, x8, x9, x10, x11]) ∧ Pen H' d cl ms (1000000 * i)) ⟨⟨_, _, _, _, _, _, _, _, _, _, rfl⟩, P0⟩ ?_ ?_
    · rintro i σ' H2 hi ⟨⟨x2, x3, x4, x5, x6, x7, x8, x9, x10, x11, rfl⟩, P2⟩
      refine ⟨_, rfl, d, cl, ms, 20, _, rfl, P2, by omega, by omega, fun H3 p zs f3 P3 hp hN => ?_⟩
      refine ⟨_, rfl, _, rfl, d, cl, p, ms, zs, 20, _, 1, rfl, P3, by omega, hp, hN, by omega, by omega, by omega, fun H4 u4 fs f4 P4 hF gF l4 nm4 => ?_⟩
      have npd : p ≠ d := by
        obtain ⟨⟨xa, xb, hd, _⟩, _, _⟩ := id P3
        exact ne_of hp hd (by intro z; cases z)
      have hp4 : H4 p = some (.lst (zs.map V.str)) := f4 _ _ (by simpa using npd) hp
      have lz := hN.len
      have hl4 := gF.hi
      have unl : ∀ (j k : Nat) (hj : j < zs.length) (hk : k < zs.length), j ≠ k → zs[j] ≠ zs[k] := fun j k hj hk ne e => ne ((List.getElem_inj hN.nd).mp e)
      -- one
      refine ⟨_, rfl, _, rfl, _, rfl, _, rfl, _, rfl, p, _, rfl, SqL.of hp4, fun pn npn => ?_⟩
      have ec : cutV (zs.map V.str) (some 6) (some 10) = ((zs.drop 6).take 4).map V.str := by
        rw [show (some (6 : Int)) = some ((6 : Nat) : Int) from rfl, show (some (10 : Int)) = some ((10 : Nat) : Int) from rfl, cutV_both _ 6 10 (by omega) (by rw [List.length_map]; omega), List.map_take, List.map_drop]
      have s4 := newS (o := .lst (cutV (zs.map V.str) (some 6) (some 10))) npn
      have P4b := P4.fr (S := []) (fr_same s4) (by simp) (by simp)
      have news1 : News fs ((zs.drop 6).take 4) := ⟨hN.nd.sublist ((List.take_sublist _ _).trans (List.drop_sublist _ _)), fun z hz => hN.ok z (List.mem_of_mem_drop (List.mem_of_mem_take hz)), fun z hz hm => by
        rw [nm4] at hm
        obtain ⟨j, hj, ej⟩ := List.getElem_of_mem (List.mem_of_mem_take hz)
        obtain ⟨k, hk, ek⟩ := List.getElem_of_mem hm
        rw [List.length_take] at hk
        rw [List.length_drop] at hj
        rw [List.getElem_drop] at ej
        rw [List.getElem_take] at ek
        exact absurd ((List.getElem_inj hN.nd).mp (ej.trans ek.symm)) (by omega)⟩
      refine ⟨d, cl, ms, _, u4, fs, pn, (zs.drop 6).take 4, 4, rfl, P4b, by omega, hF.same s4, gF, by rw [upd_same, ec], news1, by rw [List.length_take, List.length_drop]; omega, by omega, by omega, fun H5 pa ds1 gs1 f5 P5 t5 hD1 ld1 hj1 nmA => ?_⟩
      have gt1 := hD1.grT 5
      have lds1 : ds1.length * 2000 ≤ 12 * 2000 := Nat.mul_le_mul_right _ (by omega)
      have hF5 := (hF.same s4).frN (odd_of P4b) f5
      have bT1 := (hD1.bdT (by omega)).mono (N' := 1000) (m' := 11) (Nat.le_refl _) (by omega)
      have hst1 := hD1.st 5 (by omega)
      have hp5 : H5 p = some (.lst (zs.map V.str)) := f5 _ _ (by simpa using npd) (s4 _ _ hp4)
      have g1hi := hD1.gf.hi
      -- amid
      refine ⟨_, rfl, _, rfl, _, fs, _, .tuple ds1, rfl, hF5.th, gF.nd, t5, bT1, by omega, by omega, ?_⟩
      have beh1 : behindB 5 fs (.tuple ds1) = .ok gs1 := by
        unfold behindB
        rw [hst1]
        exact if_pos ⟨hD1.gf.lo, hD1.gf.hi⟩
      rw [beh1]
      intro H6 qa s6 za
      have hA6 : Fm K H6 (.ref qa) gs1 := let ⟨xs, z1, z2⟩ := za; ⟨qa, xs, rfl, z1, z2⟩
      have hF6 := hF5.same s6
      have t6 := t5.kept (kept_same s6)
      have P6 := P5.fr (S := []) (fr_same s6) (by simp) (by simp)
      have hp6 := s6 _ _ hp5
      -- other
      refine ⟨_, rfl, _, rfl, _, rfl, _, rfl, p, _, rfl, SqL.of hp6, fun pm npm => ?_⟩
      have ed : cutV (zs.map V.str) (some 10) none = (zs.drop 10).map V.str := by
        rw [show (some (10 : Int)) = some ((10 : Nat) : Int) from rfl, cutV_drop, List.map_drop]
      have s7 := newS (o := .lst (cutV (zs.map V.str) (some 10) none)) npm
      have P6b := P6.fr (S := []) (fr_same s7) (by simp) (by simp)
      have news2 : News gs1 (zs.drop 10) := ⟨hN.nd.sublist (List.drop_sublist _ _), fun z hz => hN.ok z (List.mem_of_mem_drop hz), fun z hz hm => by
        obtain ⟨j, hj, ej⟩ := List.getElem_of_mem hz
        rw [List.length_drop] at hj
        rw [List.getElem_drop] at ej
        rcases nmA z hm with h | h
        · rw [nm4] at h
          obtain ⟨k, hk, ek⟩ := List.getElem_of_mem h
          rw [List.length_take] at hk
          rw [List.getElem_take] at ek
          exact absurd ((List.getElem_inj hN.nd).mp (ej.trans ek.symm)) (by omega)
        · obtain ⟨k, hk, ek⟩ := List.getElem_of_mem (List.mem_of_mem_take h)
          rw [List.length_take, List.length_drop] at hk
          rw [List.getElem_take, List.getElem_drop] at ek
          exact absurd ((List.getElem_inj hN.nd).mp (ej.trans ek.symm)) (by omega)⟩
      refine ⟨d, cl, ms, _, .ref qa, gs1, pm, zs.drop 10, 4, rfl, P6b, by omega, hA6.same s7, hD1.gf, by rw [upd_same, ed], news2, by rw [List.length_drop]; omega, by omega, by omega, fun H7 pb ds2 gs2 f7 P7 t7b hD2 ld2 hj2 _ => ?_⟩
      have hF7 := (hF6.same s7).frN (odd_of P6b) f7
      have hA7 := (hA6.same s7).frN (odd_of P6b) f7
      have t7a := (t6.kept (kept_same s7)).frN hD1.puT (odd_of P6b) f7
      have gt2 := hD2.grT 5
      have lds2 : ds2.length * 2000 ≤ 12 * 2000 := Nat.mul_le_mul_right _ (by omega)
      have bT2 := (hD2.bdT (by omega)).mono (N' := 1000) (m' := 11) (Nat.le_refl _) (by omega)
      have hst2 := hD2.st 5 (by omega)
      have hDb := hD1.app hD2
      have lb : (ds1 ++ ds2).length = ds1.length + ds2.length := List.length_append
      have gtb := hDb.grT 5
      have ldsb : (ds1 ++ ds2).length * 2000 ≤ 24 * 2000 := Nat.mul_le_mul_right _ (by omega)
      have bTb := (hDb.bdT (by omega)).mono (N' := 1000) (m' := 11) (Nat.le_refl _) (by omega)
      have hstb := hDb.st 5 (by omega)
      have hjb : joins (ds1 ++ ds2) ≤ 8 := by rw [joins_app]; omega
      have g2hi := hD2.gf.hi
      have behb : behindB 5 fs (.tuple (ds1 ++ ds2)) = .ok gs2 := by
        unfold behindB
        rw [hstb]
        exact if_pos ⟨hD2.gf.lo, hD2.gf.hi⟩
      have beh2 : behindB 5 gs1 (.tuple ds2) = .ok gs2 := by
        unfold behindB
        rw [hst2]
        exact if_pos ⟨hD2.gf.lo, hD2.gf.hi⟩
      have beh0 : behindB 5 gs1 (.tuple []) = .ok gs1 := by
        unfold behindB
        rw [show stepsB 5 gs1 (.tuple []) = .ok gs1 from rfl]
        exact if_pos ⟨hD1.gf.lo, hD1.gf.hi⟩
      have cat : ∀ {HH : Hp}, Th K HH (.ref pa) (.tuple ds1) → Th K HH (.ref pb) (.tuple ds2) → ∃ xs ys, SqT K HH pa xs ∧ SqT K HH pb ys ∧ xs.length + ys.length ≤ sizeLine ∧ ∀ (pc : Addr) (H' : Hp), Same HH H' → SqT K H' pc (xs ++ ys) → Th K H' (.ref pc) (.tuple (ds1 ++ ds2)) := fun h1 h2 => by
        obtain ⟨_, xs, e1, hx, hA⟩ := h1.asTup
        cases e1
        obtain ⟨_, ys, e2, hy, hB⟩ := h2.asTup
        cases e2
        exact ⟨xs, ys, hx, hy, by rw [hA.len, hB.len]; omega, fun pc H' s' hq => .tup hq ((hA.app hB).kept (kept_same s'))⟩
      obtain ⟨xs1, ys1, c1, c2_, c3, c4⟩ := cat t7a t7b
      refine ⟨_, rfl, _, rfl, _, rfl, true, pa, pb, _, _, rfl, rfl, c1, c2_, c3, fun pc H8 s8 hpc => ?_⟩
      have tc8 := c4 pc H8 s8 hpc
      refine ⟨_, fs, _, .tuple (ds1 ++ ds2), rfl, (hF7.same s8).th, gF.nd, tc8, bTb, by omega, by omega, ?_⟩
      rw [behb]
      intro H9 q9 s9 z9
      have s79 := s8.trans s9
      refine ⟨_, rfl, _, rfl, _, gs1, _, .tuple ds2, rfl, (hA7.same s79).th, hD1.gf.nd, t7b.kept (kept_same s79), bT2, by omega, by omega, ?_⟩
      rw [beh2]
      intro HA qA sA zA
      have fb2 := form_bd (Nat.le_refl _) hD2.gf
      have sh2 := (pu_form (l := false) gs2).shaped fb2 (by omega)
      have eq2 := (pu_form (l := false) gs2).eqv fb2
      refine ⟨_, _, (z9.th.kept (kept_same sA)).dp (pu_form (l := false) gs2), zA.th.dp (pu_form (l := false) gs2), sh2, sh2, _, rfl, ?_⟩
      rw [eq2]
      refine iteF ?_
      have s7A := s79.trans sA
      refine ⟨_, rfl, Nat.zero_le _, fun Te nTe => ?_⟩
      have sTe := newS (o := .tup []) nTe
      refine ⟨_, gs1, _, .tuple [], rfl, (hA7.same (s7A.trans sTe)).th, hD1.gf.nd, .tup (SqT.of upd_same) .nil, ⟨by show 0 ≤ 1000; omega, an⟩, by omega, by show gs1.length + growB 5 (.tuple []) ≤ 1000000; rw [show growB 5 (.tuple []) = 0 from rfl]; omega, ?_⟩
      rw [beh0]
      intro HB qB sB zB
      have s7B := (s7A.trans sTe).trans sB
      have fb1 := form_bd (Nat.le_refl _) hD1.gf
      have sh1 := (pu_form (l := false) gs1).shaped fb1 (by omega)
      have eq1 := (pu_form (l := false) gs1).eqv fb1
      refine ⟨_, rfl, _, _, zB.th.dp (pu_form (l := false) gs1), (hA7.same s7B).th.dp (pu_form (l := false) gs1), sh1, sh1, _, rfl, ?_⟩
      rw [eq1]
      refine iteF ?_
      have PB := P7.fr (S := []) (fr_same s7B) (by simp) (by simp)
      refine ⟨6, rfl, by decide, by decide, for_range (lo := 0) (n := 6) (fun j σ' H' => (∃ x2 x8 x9 x10 x11, σ' = [some (.ref a), some (.ref d), x2, some (.ref p), some u4, some (.ref pa), some (.ref qa), some (.ref pb), x8, x9, x10, x11]) ∧ Pen H' d cl ms (1000000 * i + 700000 + 280 * j) ∧ Fm K H' u4 fs ∧ Fm K H' (.ref qa) gs1 ∧ Th K H' (.ref pa) (.tuple ds1) ∧ Th K H' (.ref pb) (.tuple ds2)) ⟨⟨_, _, _, _, _, rfl⟩, PB.mono (by omega), hF7.same s7B, hA7.same s7B, t7a.kept (kept_same s7B), t7b.kept (kept_same s7B)⟩ ?_ ?_⟩
      · rintro j σ' HC hjj ⟨⟨x2, x8, x9, x10, x11, rfl⟩, PC, hFC, hAC, tCa, tCb⟩
        refine ⟨_, rfl, _, rfl, d, cl, ms, _, u4, fs, rfl, PC, by omega, hFC.th, gF, fun HD qv Ds fD PD hvD plD fitD => ?_⟩
        have hFD := hFC.frN (odd_of PC) fD
        have hAD := hAC.frN (odd_of PC) fD
        have tDa := tCa.frN hD1.puT (odd_of PC) fD
        have tDb := tCb.frN hD2.puT (odd_of PC) fD
        obtain ⟨lnD, mok⟩ := vals_fits fitD gF.fok.so
        have tvD : Th K HD (.ref qv) (.tuple Ds) := .tup (SqT.of hvD) (th_vals plD)
        have pv : ∀ D ∈ Ds, ∃ L s, VOk L s D := fun D hD => plain_vok (plD D hD)
        have len1_ := steps_len4 hD1 hj1 5
        have dok1 := do_ok 5 hst1 gF.fok mok (Nat.le_refl _)
        have dokb := do_ok 5 hstb gF.fok mok (Nat.le_refl _)
        -- left
        refine ⟨_, rfl, _, rfl, _, rfl, u4, fs, .ref pa, .tuple ds1, .ref qv, Ds, gs1, 40, rfl, hFD.th, gF.fok, tDa, .inl hD1.puT, tvD, lnD, pv, mok, bT1, by omega, by omega, hst1, hD1.gf.lo, hD1.gf.hi, Nat.le_refl _, by omega, steps_tm hD1 5, fun HE ql sE tl => ?_⟩
        replace tl : Th K HE (.ref ql) (.tuple (resD gs1 (doB 5 (mOf fs Ds) (.tuple ds1)))) := tl
        -- both
        obtain ⟨xs2, ys2, e1, e2, e3, e4⟩ := cat (tDa.kept (kept_same sE)) (tDb.kept (kept_same sE))
        refine ⟨_, rfl, _, rfl, _, rfl, true, pa, pb, _, _, rfl, rfl, e1, e2, e3, fun pc2 HF sF hpc2 => ?_⟩
        have tcF := e4 pc2 HF sF hpc2
        have sDF := sE.trans sF
        refine ⟨_, rfl, u4, fs, .ref pc2, .tuple (ds1 ++ ds2), .ref qv, Ds, gs2, 40, rfl, (hFD.same sDF).th, gF.fok, tcF, .inl hDb.puT, tvD.kept (kept_same sDF), lnD, pv, mok, bTb, by omega, by omega, hstb, hD2.gf.lo, hD2.gf.hi, Nat.le_refl _, steps_len hDb hjb 5, steps_tm hDb 5, fun HG qb2 sG tb => ?_⟩
        replace tb : Th K HG (.ref qb2) (.tuple (resD gs2 (doB 5 (mOf fs Ds) (.tuple (ds1 ++ ds2))))) := tb
        have sDG := sDF.trans sG
        have tlG := tl.kept (kept_same (sF.trans sG))
        have okF : Fx.Ok (formD gs1) := (form_bd (N := 150000) (by omega) hD1.gf).mono (Nat.le_refl _) (by omega)
        have int1 : IntB (1000 + 3 * (ds1.map (growS 5)).sum) (doB 5 (mOf fs Ds) (.tuple ds1)) := by
          rw [do_over]
          exact int_steps ds1 1000 _ hD1.sy (fun z hz => ⟨9, hD1.bd z hz⟩) (int_mOf plD) (Nat.le_refl _)
        have gsum : growB 5 (.tuple ds1) = (ds1.map (growS 5)).sum := grow_sum 5 _
        have okL : Fx.Ok (.tuple (resD gs1 (doB 5 (mOf fs Ds) (.tuple ds1)))) := res_bd g1hi hD1.gf.nd (dok1.2.mono len1_) int1 (by omega)
        have vokL : ∀ D ∈ resD gs1 (doB 5 (mOf fs Ds) (.tuple ds1)), ∃ L s, VOk L s D := fun D hD => ⟨_, res_vok hD1.gf.nd dok1.2 D hD⟩
        have vokB : ∀ D ∈ resD gs2 (doB 5 (mOf fs Ds) (.tuple (ds1 ++ ds2))), ∃ L s, VOk L s D := fun D hD => ⟨_, res_vok hD2.gf.nd dokb.2 D hD⟩
        refine ⟨_, rfl, _, rfl, .ref qa, gs1, .ref ql, _, rfl, (hAD.same sDG).th, okF, hD1.gf.form, tlG, okL, fun HH sH => ⟨_, rfl, ?_⟩⟩
        have sDH := sDG.trans sH
        cases hb : fitsB gs1 (.tuple (resD gs1 (doB 5 (mOf fs Ds) (.tuple ds1)))) with
        | false =>
          refine iteF (iteF ?_)
          have sZ := sDH
          refine ⟨_, rfl, Nat.zero_le _, fun Le nLe => ?_⟩
          have sL := newS (o := .lst []) nLe
          have sZL := sZ.trans sL
          refine ⟨_, rfl, u4, fs, .ref Le, .list [], .ref qv, Ds, fs, 40, rfl, (hFD.same sZL).th, gF.fok, .lst (SqL.of upd_same) .nil, .inr rfl, tvD.kept (kept_same sZL), lnD, pv, mok, ⟨by show 0 ≤ 1000; omega, an⟩, by omega, by show fs.length + growB 5 (.list []) ≤ 900000; rw [show growB 5 (.list []) = 0 from rfl]; omega, rfl, gF.lo, gF.hi, Nat.le_refl _, by decide, rfl, fun HY qy sY ty => ?_⟩
          have e0 : (fs.map fun g => valM (doB 5 (mOf fs Ds) (.list [])) (.str g.1)) = Ds := map_mOf lnD gF.nd
          rw [e0] at ty
          have sZY := sZL.trans sY
          have puD := pu_vals (l := false) pv
          refine ⟨_, rfl, _, _, ty.dp puD, (tvD.kept (kept_same sZY)).dp puD, shaped_vals pv, shaped_vals pv, _, rfl, ?_⟩
          rw [eqv_vals pv]
          refine iteF ?_
          exact ⟨⟨_, _, _, _, _, rfl⟩, (PD.fr (S := []) (fr_same sZY) (by simp) (by simp)).mono (by omega), hFD.same sZY, hAD.same sZY, tDa.kept (kept_same sZY), tDb.kept (kept_same sZY)⟩
        | true =>
          refine iteT ?_
          obtain ⟨lnL, mokL⟩ := vals_fits hb hD1.gf.fok.so
          refine ⟨_, rfl, _, rfl, _, rfl, _, rfl, .ref qa, gs1, .ref pb, .tuple ds2, .ref ql, _, gs2, 40, rfl, (hAD.same sDH).th, hD1.gf.fok, tDb.kept (kept_same sDH), .inl hD2.puT, tlG.kept (kept_same sH), lnL, vokL, mokL, bT2, by omega, by omega, hst2, hD2.gf.lo, hD2.gf.hi, Nat.le_refl _, steps_len hD2 (by omega) 5, steps_tm hD2 5, fun HI qi sI ti => ?_⟩
          have eqd : (gs2.map fun g => valM (doB 5 (mOf gs1 (resD gs1 (doB 5 (mOf fs Ds) (.tuple ds1)))) (.tuple ds2)) (.str g.1)) = resD gs2 (doB 5 (mOf fs Ds) (.tuple (ds1 ++ ds2))) := by
            have h1 : AgF gs1 (mOf gs1 (resD gs1 (doB 5 (mOf fs Ds) (.tuple ds1)))) (doB 5 (mOf fs Ds) (.tuple ds1)) := mOf_map _ hD1.gf.nd fun n s e => let ⟨v, hv, _⟩ := dok1.2 n s e; ⟨v, hv⟩
            have h2 := ag_vals (ag_steps 5 hst2 h1) hD2.gf.nd
            have h3 : doB 5 (mOf fs Ds) (.tuple (ds1 ++ ds2)) = doB 5 (doB 5 (mOf fs Ds) (.tuple ds1)) (.tuple ds2) := by
              rw [do_over, do_over, do_over]
              exact doGo_app _ ds1 ds2 _
            rw [h2, h3]
            rfl
          rw [eqd] at ti
          have puB := pu_vals (l := false) vokB
          refine ⟨_, _, (tb.kept (kept_same (sH.trans sI))).dp puB, ti.dp puB, shaped_vals vokB, shaped_vals vokB, _, rfl, ?_⟩
          rw [eqv_vals vokB]
          refine iteF ?_
          have sZ := sDH.trans sI
          refine ⟨_, rfl, Nat.zero_le _, fun Le nLe => ?_⟩
          have sL := newS (o := .lst []) nLe
          have sZL := sZ.trans sL
          refine ⟨_, rfl, u4, fs, .ref Le, .list [], .ref qv, Ds, fs, 40, rfl, (hFD.same sZL).th, gF.fok, .lst (SqL.of upd_same) .nil, .inr rfl, tvD.kept (kept_same sZL), lnD, pv, mok, ⟨by show 0 ≤ 1000; omega, an⟩, by omega, by show fs.length + growB 5 (.list []) ≤ 900000; rw [show growB 5 (.list []) = 0 from rfl]; omega, rfl, gF.lo, gF.hi, Nat.le_refl _, by decide, rfl, fun HY qy sY ty => ?_⟩
          have e0 : (fs.map fun g => valM (doB 5 (mOf fs Ds) (.list [])) (.str g.1)) = Ds := map_mOf lnD gF.nd
          rw [e0] at ty
          have sZY := sZL.trans sY
          have puD := pu_vals (l := false) pv
          refine ⟨_, rfl, _, _, ty.dp puD, (tvD.kept (kept_same sZY)).dp puD, shaped_vals pv, shaped_vals pv, _, rfl, ?_⟩
          rw [eqv_vals pv]
          refine iteF ?_
          exact ⟨⟨_, _, _, _, _, rfl⟩, (PD.fr (S := []) (fr_same sZY) (by simp) (by simp)).mono (by omega), hFD.same sZY, hAD.same sZY, tDa.kept (kept_same sZY), tDb.kept (kept_same sZY)⟩
      · rintro σ' HC ⟨⟨x2, x8, x9, x10, x11, rfl⟩, PC, hFC, hAC, tCa, tCb⟩
        exact ⟨⟨_, _, _, _, _, _, _, _, _, _, rfl⟩, PC.mono (by omega)⟩
    · rintro σ' H2 ⟨⟨x2, x3, x4, x5, x6, x7, x8, x9, x10, x11, rfl⟩, P2⟩
      exact q H2
end
end St6

set_option maxHeartbeats 0
namespace St6
open PySem PySem.Spec PyProof.Rows L2 Cc
def mkD (x : Str) (i : Nat) : He.DefD := ⟨(x, none), x, x, defArgs (top i), defBody (top i), defScope (top i), [], []⟩
def dBad : He.DefD := ⟨("BadStep", some "__init__"), "__init__", "BadStep.__init__", defArgs sInit, defBody sInit, defScope sInit, [], []⟩
def fn : List He.DefD := [mkD "is_sign" 4, mkD "is_text" 5, mkD "is_whole" 17, mkD "_is_small" 19, mkD "is_name" 18, mkD "is_sort" 15, mkD "is_of_sort" 16, mkD "_sort_of" 32, mkD "_is_new" 33, mkD "_is_saying" 42, mkD "_is_part" 41, mkD "_is_row" 45, mkD "_is_other" 46, mkD "_are_rows" 44, mkD "_behind_rename" 34, mkD "_behind_copy" 35, mkD "_behind_drop" 36, mkD "_behind_put" 37, mkD "_behind_scale" 38, mkD "_behind_sum" 39, mkD "_behind_join" 40, mkD "_behind_table" 43, mkD "_behind_case" 47, mkD "_sorts_behind_step" 31, mkD "_sorts_behind" 30, mkD "form_behind" 29, mkD "_do_rename" 52, mkD "_do_copy" 53, mkD "_do_drop" 54, mkD "_do_put" 55, mkD "_do_scale" 56, mkD "_do_sum" 57, mkD "_do_join" 58, mkD "_do_table" 59, mkD "_do_case" 60, mkD "_do_steps" 51, mkD "done" 50, mkD "is_form" 12, mkD "_is_field" 13, mkD "fits" 14, mkD "_law_pen" 63, mkD "_law_draw" 64, mkD "_law_names" 65, mkD "_law_form" 71, mkD "_law_word" 66, mkD "_law_text" 67, mkD "_law_number" 68, mkD "_law_value" 69, mkD "_law_pick" 72, mkD "_law_rows" 73, mkD "_law_mods" 74, mkD "_law_step" 75, mkD "_law_behind" 76, mkD "_law_end" 77, mkD "_law_values" 70, mkD "_law_list" 78, mkD "law" 79, dBad]
def fa : List He.Fa := ([.glo "is_sign", .glo "is_text", .glo "is_whole", .glo "_is_small", .glo "is_name", .glo "is_sort", .glo "is_of_sort", .glo "_sort_of", .glo "_is_new", .glo "_is_saying", .glo "_is_part", .glo "_is_row", .glo "_is_other", .glo "_are_rows", .glo "_behind_rename", .glo "_behind_copy", .glo "_behind_drop", .glo "_behind_put", .glo "_behind_scale", .glo "_behind_sum", .glo "_behind_join", .glo "_behind_table", .glo "_behind_case", .glo "_sorts_behind_step", .glo "_sorts_behind"] : List He.Fa) ++ ([.glo "form_behind", .glo "_do_rename", .glo "_do_copy", .glo "_do_drop", .glo "_do_put", .glo "_do_scale", .glo "_do_sum", .glo "_do_join", .glo "_do_table", .glo "_do_case", .glo "_do_steps", .glo "done", .glo "is_form", .glo "_is_field", .glo "fits", .glo "_law_pen", .glo "_law_draw", .glo "_law_names", .glo "_law_form", .glo "_law_word", .glo "_law_text", .glo "_law_number", .glo "_law_value", .glo "_law_pick", .glo "_law_rows"] : List He.Fa) ++ ([.glo "_law_mods", .glo "_law_step", .glo "_law_behind", .glo "_law_end", .glo "_law_values", .glo "_law_list", .glo "law", .int "PERCENT" 37, .int "MOST_FIELDS" 6, .int "LONGEST_NAME" 12, .int "LONGEST_WORD" 8, .int "LONGEST_TEXT" 40, .int "MOST_SUMMED" 6, .int "MOST_PARTS" 8, .int "MOST_ROWS" 4, .int "LONGEST_SAYING" 12, .glo "SORTS", .glo "NUMBERS", .glo "TESTED", .glo "JOINED", .free "abs", .free "all", .free "bool", .free "dict", .free "enumerate"] : List He.Fa) ++ ([.free "int", .free "isinstance", .free "len", .free "list", .free "min", .free "ord", .free "range", .free "str", .free "sum", .free "tuple", .free "zip", .glo "BadStep", .noat "BadStep" "at", .meth "BadStep" "__init__", .str "SAYING_SIGNS" "abcdefghijklmnopqrstuvwxyz0123456789 -", .glo "LENGTHS", .glo "LEADS", .glo "DEEDS"] : List He.Fa)
def keys9 : List Str := ["rename", "copy", "drop", "put", "scale", "sum", "join", "table", "case"]
def lensD : List (Str × He.Dv) := [("rename", .int 3), ("copy", .int 3), ("drop", .int 2), ("put", .int 4), ("scale", .int 4), ("sum", .int 3), ("join", .int 3), ("table", .int 5), ("case", .int 5)]
def leadsD : List (Str × He.Dv) := [("rename", .glo "_behind_rename"), ("copy", .glo "_behind_copy"), ("drop", .glo "_behind_drop"), ("put", .glo "_behind_put"), ("scale", .glo "_behind_scale"), ("sum", .glo "_behind_sum"), ("join", .glo "_behind_join"), ("table", .glo "_behind_table"), ("case", .glo "_behind_case")]
def ts : List He.Tab := [(fun K => He.ga K "LENGTHS", keys9), (fun K => He.ga K "LEADS", keys9), (fun K => He.ga K "DEEDS", keys9)]
def deedsD : List (Str × He.Dv) := [("rename", .glo "_do_rename"), ("copy", .glo "_do_copy"), ("drop", .glo "_do_drop"), ("put", .glo "_do_put"), ("scale", .glo "_do_scale"), ("sum", .glo "_do_sum"), ("join", .glo "_do_join"), ("table", .glo "_do_table"), ("case", .glo "_do_case")]
/-- the class of a refusal: what the rules ask of it -/
def oexB (K : PySem.W.Frag) (C : Addr) : Bool := match K.lookup C with
  | some ⟨.type t, _, .cls cd, sl⟩ => (match cd.mro, sl.toList with
    | .ref C' :: bm, [_, _, _, _, some (.builtin n), _] => decide (t = "type") && (decide (C' = C) && (decide (n = "ValueError.__new__") && (!cd.hasDel && (cd.hasDict && PySem.HandSPX.refsVE bm))))
    | _, _ => false)
  | _ => false
theorem oexB_ok {K : PySem.W.Frag} {C : Addr} (h : oexB K C = true) : ∃ nm q N bs bm sn sub ab col dd k0 k1 k2 k3 k5, K.lookup C = some (excClassObj nm q C N bs bm true sn sub ab col dd k0 k1 k2 k3 k5 "ValueError.__new__") ∧ PySem.HandSPX.refsVE bm = true := by
  unfold oexB at h
  split at h
  · rename_i t od cd sl e
    split at h
    · rename_i C' bm k0 k1 k2 k3 n k5 em es
      obtain ⟨h1, h⟩ := He.ba h
      obtain ⟨h2, h⟩ := He.ba h
      obtain ⟨h3, h⟩ := He.ba h
      obtain ⟨h4, h⟩ := He.ba h
      obtain ⟨h5, h6⟩ := He.ba h
      have e1 := of_decide_eq_true h1
      have e2 := of_decide_eq_true h2
      have e3 := of_decide_eq_true h3
      subst e1 e2 e3
      obtain ⟨nm, bs, mro, ns, qn, hd, sn, sub, ab, col, del⟩ := cd
      have e4 : del = false := by simpa using h4
      have e5 : hd = true := h5
      have e6 : mro = .ref C' :: bm := em
      subst e4 e5 e6
      have e7 : sl = #[k0, k1, k2, k3, some (.builtin "ValueError.__new__"), k5] := by
        rw [← es]
      subst e7
      exact ⟨_, _, _, _, bm, _, _, _, _, _, _, _, _, _, _, e, h6⟩
    · cases h
  · cases h
theorem vals_kv {K : PySem.W.Frag} {a : Addr} {kd : List (Str × He.Dv)} (h : He.valsB K a kd = true) : ∀ x ∈ kd.map (fun q => (q.1, He.Dv.v K q.2)), ∃ u, PySem.W.nsIn K a x.1 = some (some u) ∧ RelV x.2 u := fun x hx => by
  obtain ⟨q, hq, rfl⟩ := List.mem_map.mp hx
  exact He.valsB_ok h hq
def ex (K : PySem.W.Frag) : Bool := He.tupB K "SORTS" [.str "code", .str "amount", .str "word", .str "text"] && (He.tupB K "NUMBERS" [.str "code", .str "amount"] && (He.tupB K "TESTED" [.str "code", .str "word"] && (He.tupB K "JOINED" [.str "word", .str "text"] && (He.valsB K (He.ga K "DEEDS") deedsD && (Nn.keysB K (He.ga K "DEEDS") keys9 && (He.valsB K (He.ga K "LENGTHS") lensD && (He.valsB K (He.ga K "LEADS") leadsD && (Nn.keysB K (He.ga K "LENGTHS") keys9 && (Nn.keysB K (He.ga K "LEADS") keys9 && (oexB K (He.ga K "BadStep") && (decide (PySem.W.findIn K (.ref (He.ga K "BadStep")) "__setattr__" = some (some (.builtin "object.__setattr__"))) && (decide (PySem.W.subIn K (.ref (He.ga K "BadStep")) (.type "BaseException") = some true) && (decide (PySem.W.typeIn K (.ref (He.ga K "BadStep")) = some (.type "type")) && (PySem.W.keepIn K (.ref (He.ga K "BadStep")) && (decide (PySem.W.exmOne K (.ref (He.ga K "BadStep")) (.ref (He.ga K "BadStep")) = some true))))))))))))))))
abbrev R : PySem.W.OpenRow := PySem.W.OpenLaw.row PySem.Challenge.rw_eventledger_k17_whole_steps_behind_steps
abbrev hk : PySem.W.Hook := He.hookX 5 fa fn ts [] ex
def ob (s : PySem.W.SharedT) : He.AlX := He.obsX 5 fa fn ts [] ex (HandSHeadRun.getT s)
theorem ob_eq (s : PySem.W.SharedT) : ob s = hk.obs s.abs := He.obsX_eq (HandSHeadRun.getT_eq s)
abbrev loose : List Str := (["BadStep", "SAYING_SIGNS", "LENGTHS", "LEADS", "DEEDS", "PERCENT", "MOST_FIELDS", "LONGEST_NAME", "LONGEST_WORD", "LONGEST_TEXT", "MOST_SUMMED", "MOST_PARTS", "MOST_ROWS", "LONGEST_SAYING", "SORTS", "NUMBERS", "TESTED", "JOINED", "is_sign", "is_text", "is_whole", "_is_small", "is_name", "is_sort", "is_of_sort"] : List Str) ++ (["_sort_of", "_is_new", "_is_saying", "_is_part", "_is_row", "_is_other", "_are_rows", "_behind_rename", "_behind_copy", "_behind_drop", "_behind_put", "_behind_scale", "_behind_sum", "_behind_join", "_behind_table", "_behind_case", "_sorts_behind_step", "_sorts_behind", "form_behind", "_do_rename", "_do_copy", "_do_drop", "_do_put", "_do_scale", "_do_sum"] : List Str) ++ (["_do_join", "_do_table", "_do_case", "_do_steps", "done", "is_form", "_is_field", "fits", "_law_pen", "_law_draw", "_law_names", "_law_form", "_law_word", "_law_text", "_law_number", "_law_value", "_law_pick", "_law_rows", "_law_mods", "_law_step", "_law_behind", "_law_end", "_law_values", "_law_list"] : List Str)
theorem run_no (w : World) : HandSHeadRun.RunEq R (PySem.W.view R.prog [79]) hk ob 3000 loose (w.withFollow "special-get-raises" false) := by
  intro os
  kernel_rfl
theorem run_yes (w : World) : HandSHeadRun.RunEq R (PySem.W.view R.prog [79]) hk ob 3000 loose (w.withFollow "special-get-raises" true) := by
  intro os
  kernel_rfl
theorem run (w : World) : HandSHeadRun.RunEq R (PySem.W.view R.prog [79]) hk ob 3000 loose w :=
  PySem.W.byRow2 "special-get-raises" (P := fun w => HandSHeadRun.RunEq R (PySem.W.view R.prog [79]) hk ob 3000 loose w) run_no run_yes w
theorem facts {P : Program} {w : World} {K : PySem.W.Frag} {h : Heap} {mg : Str → Option Value} {f : Addr} (X : K.In h) (G : h.Ns mainGlobals mg) (hfa : mg ("law" : Str) = some (.ref f)) (cx : He.SaysX fa fn ts [] ex w h K) :
    ∃ fd : FuncData, (∀ (s : Shared) (v : Value), BindsTo s fd ⟨[v], []⟩ [("script", v)]) ∧ ∀ base : Heap, K.In base → base.Ns mainGlobals mg → FnOk P w K mg base CX0 26 f fd ["script"] (spLaw K) := by
  have c := cx.t.d
  obtain ⟨fd0, F0⟩ := c.def_ 0 (d := mkD "is_sign" 4) rfl
  obtain ⟨fd1, F1⟩ := c.def_ 1 (d := mkD "is_text" 5) rfl
  obtain ⟨fd2, F2⟩ := c.def_ 2 (d := mkD "is_whole" 17) rfl
  obtain ⟨fd3, F3⟩ := c.def_ 3 (d := mkD "_is_small" 19) rfl
  obtain ⟨fd4, F4⟩ := c.def_ 4 (d := mkD "is_name" 18) rfl
  obtain ⟨fd5, F5⟩ := c.def_ 5 (d := mkD "is_sort" 15) rfl
  obtain ⟨fd6, F6⟩ := c.def_ 6 (d := mkD "is_of_sort" 16) rfl
  obtain ⟨fd7, F7⟩ := c.def_ 7 (d := mkD "_sort_of" 32) rfl
  obtain ⟨fd8, F8⟩ := c.def_ 8 (d := mkD "_is_new" 33) rfl
  obtain ⟨fd9, F9⟩ := c.def_ 9 (d := mkD "_is_saying" 42) rfl
  obtain ⟨fd10, F10⟩ := c.def_ 10 (d := mkD "_is_part" 41) rfl
  obtain ⟨fd11, F11⟩ := c.def_ 11 (d := mkD "_is_row" 45) rfl
  obtain ⟨fd12, F12⟩ := c.def_ 12 (d := mkD "_is_other" 46) rfl
  obtain ⟨fd13, F13⟩ := c.def_ 13 (d := mkD "_are_rows" 44) rfl
  obtain ⟨fd14, F14⟩ := c.def_ 14 (d := mkD "_behind_rename" 34) rfl
  obtain ⟨fd15, F15⟩ := c.def_ 15 (d := mkD "_behind_copy" 35) rfl
  obtain ⟨fd16, F16⟩ := c.def_ 16 (d := mkD "_behind_drop" 36) rfl
  obtain ⟨fd17, F17⟩ := c.def_ 17 (d := mkD "_behind_put" 37) rfl
  obtain ⟨fd18, F18⟩ := c.def_ 18 (d := mkD "_behind_scale" 38) rfl
  obtain ⟨fd19, F19⟩ := c.def_ 19 (d := mkD "_behind_sum" 39) rfl
  obtain ⟨fd20, F20⟩ := c.def_ 20 (d := mkD "_behind_join" 40) rfl
  obtain ⟨fd21, F21⟩ := c.def_ 21 (d := mkD "_behind_table" 43) rfl
  obtain ⟨fd22, F22⟩ := c.def_ 22 (d := mkD "_behind_case" 47) rfl
  obtain ⟨fd23, F23⟩ := c.def_ 23 (d := mkD "_sorts_behind_step" 31) rfl
  obtain ⟨fd24, F24⟩ := c.def_ 24 (d := mkD "_sorts_behind" 30) rfl
  obtain ⟨fd25, F25⟩ := c.def_ 25 (d := mkD "form_behind" 29) rfl
  obtain ⟨fd26, F26⟩ := c.def_ 26 (d := mkD "_do_rename" 52) rfl
  obtain ⟨fd27, F27⟩ := c.def_ 27 (d := mkD "_do_copy" 53) rfl
  obtain ⟨fd28, F28⟩ := c.def_ 28 (d := mkD "_do_drop" 54) rfl
  obtain ⟨fd29, F29⟩ := c.def_ 29 (d := mkD "_do_put" 55) rfl
  obtain ⟨fd30, F30⟩ := c.def_ 30 (d := mkD "_do_scale" 56) rfl
  obtain ⟨fd31, F31⟩ := c.def_ 31 (d := mkD "_do_sum" 57) rfl
  obtain ⟨fd32, F32⟩ := c.def_ 32 (d := mkD "_do_join" 58) rfl
  obtain ⟨fd33, F33⟩ := c.def_ 33 (d := mkD "_do_table" 59) rfl
  obtain ⟨fd34, F34⟩ := c.def_ 34 (d := mkD "_do_case" 60) rfl
  obtain ⟨fd35, F35⟩ := c.def_ 35 (d := mkD "_do_steps" 51) rfl
  obtain ⟨fd36, F36⟩ := c.def_ 36 (d := mkD "done" 50) rfl
  obtain ⟨fd37, F37⟩ := c.def_ 37 (d := mkD "is_form" 12) rfl
  obtain ⟨fd38, F38⟩ := c.def_ 38 (d := mkD "_is_field" 13) rfl
  obtain ⟨fd39, F39⟩ := c.def_ 39 (d := mkD "fits" 14) rfl
  obtain ⟨fd40, F40⟩ := c.def_ 40 (d := mkD "_law_pen" 63) rfl
  obtain ⟨fd41, F41⟩ := c.def_ 41 (d := mkD "_law_draw" 64) rfl
  obtain ⟨fd42, F42⟩ := c.def_ 42 (d := mkD "_law_names" 65) rfl
  obtain ⟨fd43, F43⟩ := c.def_ 43 (d := mkD "_law_form" 71) rfl
  obtain ⟨fd44, F44⟩ := c.def_ 44 (d := mkD "_law_word" 66) rfl
  obtain ⟨fd45, F45⟩ := c.def_ 45 (d := mkD "_law_text" 67) rfl
  obtain ⟨fd46, F46⟩ := c.def_ 46 (d := mkD "_law_number" 68) rfl
  obtain ⟨fd47, F47⟩ := c.def_ 47 (d := mkD "_law_value" 69) rfl
  obtain ⟨fd48, F48⟩ := c.def_ 48 (d := mkD "_law_pick" 72) rfl
  obtain ⟨fd49, F49⟩ := c.def_ 49 (d := mkD "_law_rows" 73) rfl
  obtain ⟨fd50, F50⟩ := c.def_ 50 (d := mkD "_law_mods" 74) rfl
  obtain ⟨fd51, F51⟩ := c.def_ 51 (d := mkD "_law_step" 75) rfl
  obtain ⟨fd52, F52⟩ := c.def_ 52 (d := mkD "_law_behind" 76) rfl
  obtain ⟨fd53, F53⟩ := c.def_ 53 (d := mkD "_law_end" 77) rfl
  obtain ⟨fd54, F54⟩ := c.def_ 54 (d := mkD "_law_values" 70) rfl
  obtain ⟨fd55, F55⟩ := c.def_ 55 (d := mkD "_law_list" 78) rfl
  obtain ⟨fd56, F56⟩ := c.def_ 56 (d := mkD "law" 79) rfl
  have mb_abs := He.free_ok X G (c.fact 70 (f := .free "abs") rfl)
  have mb_all := He.free_ok X G (c.fact 71 (f := .free "all") rfl)
  have mb_bool := He.free_ok X G (c.fact 72 (f := .free "bool") rfl)
  have mb_dict := He.free_ok X G (c.fact 73 (f := .free "dict") rfl)
  have mb_enumerate := He.free_ok X G (c.fact 74 (f := .free "enumerate") rfl)
  have mb_int := He.free_ok X G (c.fact 75 (f := .free "int") rfl)
  have mb_isinstance := He.free_ok X G (c.fact 76 (f := .free "isinstance") rfl)
  have mb_len := He.free_ok X G (c.fact 77 (f := .free "len") rfl)
  have mb_list := He.free_ok X G (c.fact 78 (f := .free "list") rfl)
  have mb_min := He.free_ok X G (c.fact 79 (f := .free "min") rfl)
  have mb_ord := He.free_ok X G (c.fact 80 (f := .free "ord") rfl)
  have mb_range := He.free_ok X G (c.fact 81 (f := .free "range") rfl)
  have mb_str := He.free_ok X G (c.fact 82 (f := .free "str") rfl)
  have mb_sum := He.free_ok X G (c.fact 83 (f := .free "sum") rfl)
  have mb_tuple := He.free_ok X G (c.fact 84 (f := .free "tuple") rfl)
  have mb_zip := He.free_ok X G (c.fact 85 (f := .free "zip") rfl)
  obtain ⟨t_PERCENT, e_PERCENT⟩ := He.int_ok X G (c.fact 57 (f := .int "PERCENT" 37) rfl)
  obtain ⟨t_MOST_FIELDS, e_MOST_FIELDS⟩ := He.int_ok X G (c.fact 58 (f := .int "MOST_FIELDS" 6) rfl)
  obtain ⟨t_LONGEST_NAME, e_LONGEST_NAME⟩ := He.int_ok X G (c.fact 59 (f := .int "LONGEST_NAME" 12) rfl)
  obtain ⟨t_LONGEST_WORD, e_LONGEST_WORD⟩ := He.int_ok X G (c.fact 60 (f := .int "LONGEST_WORD" 8) rfl)
  obtain ⟨t_LONGEST_TEXT, e_LONGEST_TEXT⟩ := He.int_ok X G (c.fact 61 (f := .int "LONGEST_TEXT" 40) rfl)
  obtain ⟨t_MOST_SUMMED, e_MOST_SUMMED⟩ := He.int_ok X G (c.fact 62 (f := .int "MOST_SUMMED" 6) rfl)
  obtain ⟨t_MOST_PARTS, e_MOST_PARTS⟩ := He.int_ok X G (c.fact 63 (f := .int "MOST_PARTS" 8) rfl)
  obtain ⟨t_MOST_ROWS, e_MOST_ROWS⟩ := He.int_ok X G (c.fact 64 (f := .int "MOST_ROWS" 4) rfl)
  obtain ⟨t_LONGEST_SAYING, e_LONGEST_SAYING⟩ := He.int_ok X G (c.fact 65 (f := .int "LONGEST_SAYING" 12) rfl)
  have g_SORTS := He.glo_ok X G (c.fact 66 (f := .glo "SORTS") rfl)
  have g_NUMBERS := He.glo_ok X G (c.fact 67 (f := .glo "NUMBERS") rfl)
  have g_TESTED := He.glo_ok X G (c.fact 68 (f := .glo "TESTED") rfl)
  have g_JOINED := He.glo_ok X G (c.fact 69 (f := .glo "JOINED") rfl)
  obtain ⟨z_SORTS, y1⟩ := He.ba cx.more
  have q_SORTS := He.tupB_ok z_SORTS
  obtain ⟨z_NUMBERS, y1⟩ := He.ba y1
  have q_NUMBERS := He.tupB_ok z_NUMBERS
  obtain ⟨z_TESTED, y1⟩ := He.ba y1
  have q_TESTED := He.tupB_ok z_TESTED
  obtain ⟨z_JOINED, y1⟩ := He.ba y1
  have q_JOINED := He.tupB_ok z_JOINED
  obtain ⟨vE, y1⟩ := He.ba y1
  obtain ⟨kE, y1⟩ := He.ba y1
  obtain ⟨vL, y1⟩ := He.ba y1
  obtain ⟨vD, y1⟩ := He.ba y1
  obtain ⟨kL, y1⟩ := He.ba y1
  obtain ⟨kD, y1⟩ := He.ba y1
  obtain ⟨yo, y1⟩ := He.ba y1
  obtain ⟨ys, y1⟩ := He.ba y1
  obtain ⟨yb, y1⟩ := He.ba y1
  obtain ⟨yt, y1⟩ := He.ba y1
  obtain ⟨yk, ym⟩ := He.ba y1
  obtain ⟨esL, nL, kdL⟩ := cx.t.tab 0 (t := (fun K => He.ga K "LENGTHS", keys9)) rfl
  obtain ⟨esD, nD, kdD⟩ := cx.t.tab 1 (t := (fun K => He.ga K "LEADS", keys9)) rfl
  have hL_ : Nn.KTab K w (He.ga K "LENGTHS") lens := Nn.ktab_of kdL kL (vals_kv vL)
  have hD_ : Nn.KTab K w (He.ga K "LEADS") (leadsV (He.ga K "_behind_rename") (He.ga K "_behind_copy") (He.ga K "_behind_drop") (He.ga K "_behind_put") (He.ga K "_behind_scale") (He.ga K "_behind_sum") (He.ga K "_behind_join") (He.ga K "_behind_table") (He.ga K "_behind_case")) := Nn.ktab_of kdD kD (vals_kv vD)
  have g_LENGTHS := He.glo_ok X G (c.fact 90 (f := .glo "LENGTHS") rfl)
  have g_LEADS := He.glo_ok X G (c.fact 91 (f := .glo "LEADS") rfl)
  obtain ⟨t_SAY, e_SAYING_SIGNS⟩ := He.str_ok X G (c.fact 89 (f := .str "SAYING_SIGNS" "abcdefghijklmnopqrstuvwxyz0123456789 -") rfl)
  obtain ⟨fdI, FI⟩ := c.def_ 57 (d := dBad) rfl
  have mI := He.meth_ok (c.fact 88 (f := .meth "BadStep" "__init__") rfl)
  have T : BadS K mg (He.ga K "BadStep") (He.ma K (He.ga K "BadStep") "__init__") fdI := ⟨⟨oexB_ok yo, of_decide_eq_true ys, of_decide_eq_true yb, of_decide_eq_true yt, yk⟩, He.glo_ok X G (c.fact 86 (f := .glo "BadStep") rfl), of_decide_eq_true ym, He.noat_ok (c.fact 87 (f := .noat "BadStep" "at") rfl), mI.at_, beq_iff_eq.mp mI.fn, FI⟩
  obtain ⟨esE, nE, kdE⟩ := cx.t.tab 2 (t := (fun K => He.ga K "DEEDS", keys9)) rfl
  have hE_ : Nn.KTab K w (He.ga K "DEEDS") (leadsV (He.ga K "_do_rename") (He.ga K "_do_copy") (He.ga K "_do_drop") (He.ga K "_do_put") (He.ga K "_do_scale") (He.ga K "_do_sum") (He.ga K "_do_join") (He.ga K "_do_table") (He.ga K "_do_case")) := Nn.ktab_of kdE kE (vals_kv vE)
  have g_DEEDS := He.glo_ok X G (c.fact 92 (f := .glo "DEEDS") rfl)
  have m0 := He.glo_ok X G (c.fact 0 (f := .glo "is_sign") rfl)
  have m1 := He.glo_ok X G (c.fact 1 (f := .glo "is_text") rfl)
  have m2 := He.glo_ok X G (c.fact 2 (f := .glo "is_whole") rfl)
  have m3 := He.glo_ok X G (c.fact 3 (f := .glo "_is_small") rfl)
  have m4 := He.glo_ok X G (c.fact 4 (f := .glo "is_name") rfl)
  have m5 := He.glo_ok X G (c.fact 5 (f := .glo "is_sort") rfl)
  have m6 := He.glo_ok X G (c.fact 6 (f := .glo "is_of_sort") rfl)
  have m7 := He.glo_ok X G (c.fact 7 (f := .glo "_sort_of") rfl)
  have m8 := He.glo_ok X G (c.fact 8 (f := .glo "_is_new") rfl)
  have m9 := He.glo_ok X G (c.fact 9 (f := .glo "_is_saying") rfl)
  have m10 := He.glo_ok X G (c.fact 10 (f := .glo "_is_part") rfl)
  have m11 := He.glo_ok X G (c.fact 11 (f := .glo "_is_row") rfl)
  have m12 := He.glo_ok X G (c.fact 12 (f := .glo "_is_other") rfl)
  have m13 := He.glo_ok X G (c.fact 13 (f := .glo "_are_rows") rfl)
  have m14 := He.glo_ok X G (c.fact 14 (f := .glo "_behind_rename") rfl)
  have m15 := He.glo_ok X G (c.fact 15 (f := .glo "_behind_copy") rfl)
  have m16 := He.glo_ok X G (c.fact 16 (f := .glo "_behind_drop") rfl)
  have m17 := He.glo_ok X G (c.fact 17 (f := .glo "_behind_put") rfl)
  have m18 := He.glo_ok X G (c.fact 18 (f := .glo "_behind_scale") rfl)
  have m19 := He.glo_ok X G (c.fact 19 (f := .glo "_behind_sum") rfl)
  have m20 := He.glo_ok X G (c.fact 20 (f := .glo "_behind_join") rfl)
  have m21 := He.glo_ok X G (c.fact 21 (f := .glo "_behind_table") rfl)
  have m22 := He.glo_ok X G (c.fact 22 (f := .glo "_behind_case") rfl)
  have m23 := He.glo_ok X G (c.fact 23 (f := .glo "_sorts_behind_step") rfl)
  have m24 := He.glo_ok X G (c.fact 24 (f := .glo "_sorts_behind") rfl)
  have m25 := He.glo_ok X G (c.fact 25 (f := .glo "form_behind") rfl)
  have m26 := He.glo_ok X G (c.fact 26 (f := .glo "_do_rename") rfl)
  have m27 := He.glo_ok X G (c.fact 27 (f := .glo "_do_copy") rfl)
  have m28 := He.glo_ok X G (c.fact 28 (f := .glo "_do_drop") rfl)
  have m29 := He.glo_ok X G (c.fact 29 (f := .glo "_do_put") rfl)
  have m30 := He.glo_ok X G (c.fact 30 (f := .glo "_do_scale") rfl)
  have m31 := He.glo_ok X G (c.fact 31 (f := .glo "_do_sum") rfl)
  have m32 := He.glo_ok X G (c.fact 32 (f := .glo "_do_join") rfl)
  have m33 := He.glo_ok X G (c.fact 33 (f := .glo "_do_table") rfl)
  have m34 := He.glo_ok X G (c.fact 34 (f := .glo "_do_case") rfl)
  have m35 := He.glo_ok X G (c.fact 35 (f := .glo "_do_steps") rfl)
  have m36 := He.glo_ok X G (c.fact 36 (f := .glo "done") rfl)
  have m37 := He.glo_ok X G (c.fact 37 (f := .glo "is_form") rfl)
  have m38 := He.glo_ok X G (c.fact 38 (f := .glo "_is_field") rfl)
  have m39 := He.glo_ok X G (c.fact 39 (f := .glo "fits") rfl)
  have m40 := He.glo_ok X G (c.fact 40 (f := .glo "_law_pen") rfl)
  have m41 := He.glo_ok X G (c.fact 41 (f := .glo "_law_draw") rfl)
  have m42 := He.glo_ok X G (c.fact 42 (f := .glo "_law_names") rfl)
  have m43 := He.glo_ok X G (c.fact 43 (f := .glo "_law_form") rfl)
  have m44 := He.glo_ok X G (c.fact 44 (f := .glo "_law_word") rfl)
  have m45 := He.glo_ok X G (c.fact 45 (f := .glo "_law_text") rfl)
  have m46 := He.glo_ok X G (c.fact 46 (f := .glo "_law_number") rfl)
  have m47 := He.glo_ok X G (c.fact 47 (f := .glo "_law_value") rfl)
  have m48 := He.glo_ok X G (c.fact 48 (f := .glo "_law_pick") rfl)
  have m49 := He.glo_ok X G (c.fact 49 (f := .glo "_law_rows") rfl)
  have m50 := He.glo_ok X G (c.fact 50 (f := .glo "_law_mods") rfl)
  have m51 := He.glo_ok X G (c.fact 51 (f := .glo "_law_step") rfl)
  have m52 := He.glo_ok X G (c.fact 52 (f := .glo "_law_behind") rfl)
  have m53 := He.glo_ok X G (c.fact 53 (f := .glo "_law_end") rfl)
  have m54 := He.glo_ok X G (c.fact 54 (f := .glo "_law_values") rfl)
  have m55 := He.glo_ok X G (c.fact 55 (f := .glo "_law_list") rfl)
  have e := hfa.symm.trans (He.glo_ok X G (c.fact 56 (f := .glo "law") rfl))
  cases e
  have b := FunD.bindsA (ps := ["script"]) F56 fun _ _ _ _ _ _ us hl => match us, hl with | [_], _ => rfl
  refine ⟨fd56, fun s v => b s [v] rfl, fun base _ _ => ?_⟩
  have b0 := FunD.bindsN (ps := ["sign"]) F0 fun _ _ _ _ _ _ us hl => match us, hl with | [_], _ => rfl
  have c_is_sign : Cl P w K mg base CX0 "is_sign" _ _ _ _ _ := ⟨ok_sign F0 mb_ord e_PERCENT ⟨_, rfl⟩, m0, F0.kp, b0⟩
  have b1 := FunD.bindsN (ps := ["thing"]) F1 fun _ _ _ _ _ _ us hl => match us, hl with | [_], _ => rfl
  have c_is_text : Cl P w K mg base CX0 "is_text" _ _ _ _ _ := ⟨ok_text F1 c_is_sign mb_isinstance mb_str mb_all, m1, F1.kp, b1⟩
  have b2 := FunD.bindsN (ps := ["thing"]) F2 fun _ _ _ _ _ _ us hl => match us, hl with | [_], _ => rfl
  have c_is_whole : Cl P w K mg base CX0 "is_whole" _ _ _ _ _ := ⟨ok_whole F2 mb_isinstance mb_int mb_bool, m2, F2.kp, b2⟩
  have b3 := FunD.bindsN (ps := ["thing", "longest"]) F3 fun _ _ _ _ _ _ us hl => match us, hl with | [_, _], _ => rfl
  have c__is_small : Cl P w K mg base CX0 "_is_small" _ _ _ _ _ := ⟨ok_small F3 mb_isinstance mb_str mb_len mb_all, m3, F3.kp, b3⟩
  have b4 := FunD.bindsN (ps := ["thing"]) F4 fun _ _ _ _ _ _ us hl => match us, hl with | [_], _ => rfl
  have c_is_name : Cl P w K mg base CX0 "is_name" _ _ _ _ _ := ⟨ok_name F4 c__is_small e_LONGEST_NAME ⟨_, rfl⟩, m4, F4.kp, b4⟩
  have b5 := FunD.bindsN (ps := ["thing"]) F5 fun _ _ _ _ _ _ us hl => match us, hl with | [_], _ => rfl
  have c_is_sort : Cl P w K mg base CX0 "is_sort" _ _ _ _ _ := ⟨ok_sort F5 mb_isinstance mb_str g_SORTS q_SORTS, m5, F5.kp, b5⟩
  have b6 := FunD.bindsN (ps := ["value", "sort"]) F6 fun _ _ _ _ _ _ us hl => match us, hl with | [_, _], _ => rfl
  have c_is_of_sort : Cl P w K mg base CX0 "is_of_sort" _ _ _ _ _ := ⟨ok_ofsort F6 c__is_small c_is_text c_is_whole mb_len e_LONGEST_WORD ⟨_, rfl⟩ e_LONGEST_TEXT ⟨_, rfl⟩, m6, F6.kp, b6⟩
  have b7 := FunD.bindsN (ps := ["sorts", "field"]) F7 fun _ _ _ _ _ _ us hl => match us, hl with | [_, _], _ => rfl
  have c__sort_of : Cl P w K mg base CX0 "_sort_of" _ _ _ _ _ := ⟨ok_sortof F7 mb_isinstance mb_str, m7, F7.kp, b7⟩
  have b8 := FunD.bindsN (ps := ["sorts", "field"]) F8 fun _ _ _ _ _ _ us hl => match us, hl with | [_, _], _ => rfl
  have c__is_new : Cl P w K mg base CX0 "_is_new" _ _ _ _ _ := ⟨ok_isnew F8 c_is_name, m8, F8.kp, b8⟩
  have b9 := FunD.bindsN (ps := ["thing"]) F9 fun _ _ _ _ _ _ us hl => match us, hl with | [_], _ => rfl
  have c__is_saying : Cl P w K mg base CX0 "_is_saying" _ _ _ _ _ := ⟨ok_saying F9 mb_isinstance mb_str mb_len mb_all e_LONGEST_SAYING ⟨_, rfl⟩ e_SAYING_SIGNS ⟨_, rfl⟩, m9, F9.kp, b9⟩
  have b10 := FunD.bindsN (ps := ["sorts", "part"]) F10 fun _ _ _ _ _ _ us hl => match us, hl with | [_, _], _ => rfl
  have c__is_part : Cl P w K mg base CX0 "_is_part" _ _ _ _ _ := ⟨ok_part F10 c__is_saying c__sort_of mb_isinstance mb_str mb_len mb_tuple g_JOINED q_JOINED, m10, F10.kp, b10⟩
  have b11 := FunD.bindsN (ps := ["row", "elder", "sort"]) F11 fun _ _ _ _ _ _ us hl => match us, hl with | [_, _, _], _ => rfl
  have c__is_row : Cl P w K mg base CX0 "_is_row" _ _ _ _ _ := ⟨ok_row F11 c_is_of_sort mb_isinstance mb_tuple mb_len, m11, F11.kp, b11⟩
  have b12 := FunD.bindsN (ps := ["other", "elder", "sort"]) F12 fun _ _ _ _ _ _ us hl => match us, hl with | [_, _, _], _ => rfl
  have c__is_other : Cl P w K mg base CX0 "_is_other" _ _ _ _ _ := ⟨ok_other F12 c_is_of_sort mb_isinstance mb_tuple mb_len, m12, F12.kp, b12⟩
  have b13 := FunD.bindsN (ps := ["rows", "elder", "sort"]) F13 fun _ _ _ _ _ _ us hl => match us, hl with | [_, _, _], _ => rfl
  have c__are_rows : Cl P w K mg base CX0 "_are_rows" _ _ _ _ _ := ⟨ok_rows F13 c__is_row mb_isinstance mb_tuple mb_len mb_all e_MOST_ROWS ⟨_, rfl⟩, m13, F13.kp, b13⟩
  have b24 := FunD.bindsN (ps := ["sorts", "steps"]) F24 fun _ _ _ _ _ _ us hl => match us, hl with | [_, _], _ => rfl
  have b14 := FunD.bindsN (ps := ["sorts", "step"]) F14 fun _ _ _ _ _ _ us hl => match us, hl with | [_, _], _ => rfl
  have b15 := FunD.bindsN (ps := ["sorts", "step"]) F15 fun _ _ _ _ _ _ us hl => match us, hl with | [_, _], _ => rfl
  have b16 := FunD.bindsN (ps := ["sorts", "step"]) F16 fun _ _ _ _ _ _ us hl => match us, hl with | [_, _], _ => rfl
  have b17 := FunD.bindsN (ps := ["sorts", "step"]) F17 fun _ _ _ _ _ _ us hl => match us, hl with | [_, _], _ => rfl
  have b18 := FunD.bindsN (ps := ["sorts", "step"]) F18 fun _ _ _ _ _ _ us hl => match us, hl with | [_, _], _ => rfl
  have b19 := FunD.bindsN (ps := ["sorts", "step"]) F19 fun _ _ _ _ _ _ us hl => match us, hl with | [_, _], _ => rfl
  have b20 := FunD.bindsN (ps := ["sorts", "step"]) F20 fun _ _ _ _ _ _ us hl => match us, hl with | [_, _], _ => rfl
  have b21 := FunD.bindsN (ps := ["sorts", "step"]) F21 fun _ _ _ _ _ _ us hl => match us, hl with | [_, _], _ => rfl
  have b22 := FunD.bindsN (ps := ["sorts", "step"]) F22 fun _ _ _ _ _ _ us hl => match us, hl with | [_, _], _ => rfl
  have b23 := FunD.bindsN (ps := ["sorts", "step"]) F23 fun _ _ _ _ _ _ us hl => match us, hl with | [_, _], _ => rfl
  have LO : LeadsOk P w K mg base (He.ga K "_behind_rename") (He.ga K "_behind_copy") (He.ga K "_behind_drop") (He.ga K "_behind_put") (He.ga K "_behind_scale") (He.ga K "_behind_sum") (He.ga K "_behind_join") (He.ga K "_behind_table") := ⟨fun rec => held_of (x := "_behind_rename") ⟨ok_brename (rec := rec) F14 c__sort_of c__is_new, m14, F14.kp, b14⟩ (by decide), fun rec => held_of (x := "_behind_copy") ⟨ok_bcopy (rec := rec) F15 c__sort_of c__is_new, m15, F15.kp, b15⟩ (by decide), fun rec => held_of (x := "_behind_drop") ⟨ok_bdrop (rec := rec) F16 c__sort_of, m16, F16.kp, b16⟩ (by decide), fun rec => held_of (x := "_behind_put") ⟨ok_bput (rec := rec) F17 c__is_new c_is_sort c_is_of_sort, m17, F17.kp, b17⟩ (by decide), fun rec => held_of (x := "_behind_scale") ⟨ok_bscale (rec := rec) F18 c__sort_of c_is_whole g_NUMBERS q_NUMBERS, m18, F18.kp, b18⟩ (by decide), fun rec => held_of (x := "_behind_sum") ⟨ok_bsum (rec := rec) F19 c__is_new c__sort_of mb_isinstance mb_tuple mb_len mb_all e_MOST_SUMMED ⟨_, rfl⟩ g_NUMBERS q_NUMBERS, m19, F19.kp, b19⟩ (by decide), fun rec => held_of (x := "_behind_join") ⟨ok_bjoin (rec := rec) F20 c__is_new c__is_part mb_isinstance mb_tuple mb_len mb_all e_MOST_PARTS ⟨_, rfl⟩, m20, F20.kp, b20⟩ (by decide), fun rec => held_of (x := "_behind_table") ⟨ok_btable (rec := rec) F21 c__sort_of c_is_sort c__are_rows c__is_other g_TESTED q_TESTED, m21, F21.kp, b21⟩ (by decide)⟩
  have c__sorts_behind : Cl P w K mg base (L2.CX P w) "_sorts_behind" _ _ _ _ _ := ⟨ok_sorts T LO F22 m22 b22 F23 m23 b23 F24 m24 b24 c__sort_of c_is_of_sort mb_isinstance mb_tuple mb_str mb_len mb_list mb_enumerate g_TESTED q_TESTED g_LENGTHS hL_ g_LEADS hD_ 5, m24, F24.kp, b24⟩
  have b25 := FunD.bindsN (ps := ["form", "steps"]) F25 fun _ _ _ _ _ _ us hl => match us, hl with | [_, _], _ => rfl
  have c_form_behind : Cl P w K mg base (L2.CX P w) "form_behind" _ _ _ _ _ := ⟨ok_behind (c := 5) F25 c__sorts_behind mb_len mb_tuple e_MOST_FIELDS ⟨_, rfl⟩ T, m25, F25.kp, b25⟩
  have b35 := FunD.bindsN (ps := ["held", "steps"]) F35 fun _ _ _ _ _ _ us hl => match us, hl with | [_, _], _ => rfl
  have b26 := FunD.bindsN (ps := ["held", "step"]) F26 fun _ _ _ _ _ _ us hl => match us, hl with | [_, _], _ => rfl
  have b27 := FunD.bindsN (ps := ["held", "step"]) F27 fun _ _ _ _ _ _ us hl => match us, hl with | [_, _], _ => rfl
  have b28 := FunD.bindsN (ps := ["held", "step"]) F28 fun _ _ _ _ _ _ us hl => match us, hl with | [_, _], _ => rfl
  have b29 := FunD.bindsN (ps := ["held", "step"]) F29 fun _ _ _ _ _ _ us hl => match us, hl with | [_, _], _ => rfl
  have b30 := FunD.bindsN (ps := ["held", "step"]) F30 fun _ _ _ _ _ _ us hl => match us, hl with | [_, _], _ => rfl
  have b31 := FunD.bindsN (ps := ["held", "step"]) F31 fun _ _ _ _ _ _ us hl => match us, hl with | [_, _], _ => rfl
  have b32 := FunD.bindsN (ps := ["held", "step"]) F32 fun _ _ _ _ _ _ us hl => match us, hl with | [_, _], _ => rfl
  have b33 := FunD.bindsN (ps := ["held", "step"]) F33 fun _ _ _ _ _ _ us hl => match us, hl with | [_, _], _ => rfl
  have b34 := FunD.bindsN (ps := ["held", "step"]) F34 fun _ _ _ _ _ _ us hl => match us, hl with | [_, _], _ => rfl
  have DO : DeedsOk P w K mg base (He.ga K "_do_rename") (He.ga K "_do_copy") (He.ga K "_do_drop") (He.ga K "_do_put") (He.ga K "_do_scale") (He.ga K "_do_sum") (He.ga K "_do_join") (He.ga K "_do_table") := ⟨fun c => held_of (x := "_do_rename") ⟨ok_dorename (c := c) F26, m26, F26.kp, b26⟩ (by decide), fun c => held_of (x := "_do_copy") ⟨ok_docopy (c := c) F27, m27, F27.kp, b27⟩ (by decide), fun c => held_of (x := "_do_drop") ⟨ok_dodrop (c := c) F28, m28, F28.kp, b28⟩ (by decide), fun c => held_of (x := "_do_put") ⟨ok_doput (c := c) F29, m29, F29.kp, b29⟩ (by decide), fun c => held_of (x := "_do_scale") ⟨ok_doscale (c := c) F30, m30, F30.kp, b30⟩ (by decide), fun c => held_of (x := "_do_sum") ⟨ok_dosum (c := c) F31 mb_sum, m31, F31.kp, b31⟩ (by decide), fun c => held_of (x := "_do_join") ⟨ok_dojoin (c := c) F32, m32, F32.kp, b32⟩ (by decide), fun c => held_of (x := "_do_table") ⟨ok_dotable (c := c) F33, m33, F33.kp, b33⟩ (by decide)⟩
  have c__do_steps : Cl P w K mg base CX0 "_do_steps" _ _ _ _ _ := ⟨ok_deeds DO F34 m34 b34 F35 m35 b35 g_DEEDS hE_ 5, m35, F35.kp, b35⟩
  have b36 := FunD.bindsN (ps := ["form", "steps", "values"]) F36 fun _ _ _ _ _ _ us hl => match us, hl with | [_, _, _], _ => rfl
  have c_done : Cl P w K mg base CX0 "done" _ _ _ _ _ := ⟨ok_done (c := 5) F36 c__do_steps c_form_behind mb_tuple mb_zip, m36, F36.kp, b36⟩
  have b40 := FunD.bindsN (ps := ["script"]) F40 fun _ _ _ _ _ _ us hl => match us, hl with | [_], _ => rfl
  have c__law_pen : Cl P w K mg base CX0 "_law_pen" _ _ _ _ _ := ⟨ok_pen (k := 0) F40 mb_range, m40, F40.kp, b40⟩
  have b41 := FunD.bindsN (ps := ["pen", "many"]) F41 fun _ _ _ _ _ _ us hl => match us, hl with | [_, _], _ => rfl
  have c__law_draw : Cl P w K mg base CX0 "_law_draw" _ _ _ _ _ := ⟨ok_draw (k := 0) F41 mb_len mb_abs mb_range, m41, F41.kp, b41⟩
  have b42 := FunD.bindsN (ps := ["pen", "many"]) F42 fun _ _ _ _ _ _ us hl => match us, hl with | [_, _], _ => rfl
  have c__law_names : Cl P w K mg base CX0 "_law_names" _ _ _ _ _ := ⟨ok_names F42 c__law_draw mb_range, m42, F42.kp, b42⟩
  have b43 := FunD.bindsN (ps := ["pen", "names", "least"]) F43 fun _ _ _ _ _ _ us hl => match us, hl with | [_, _, _], _ => rfl
  have c__law_form : Cl P w K mg base CX0 "_law_form" _ _ _ _ _ := ⟨ok_dformZ F43 c__law_draw mb_range mb_tuple, m43, F43.kp, b43⟩
  have b44 := FunD.bindsN (ps := ["pen"]) F44 fun _ _ _ _ _ _ us hl => match us, hl with | [_], _ => rfl
  have c__law_word : Cl P w K mg base CX0 "_law_word" _ _ _ _ _ := ⟨ok_wordD F44 c__law_draw mb_range, m44, F44.kp, b44⟩
  have b45 := FunD.bindsN (ps := ["pen"]) F45 fun _ _ _ _ _ _ us hl => match us, hl with | [_], _ => rfl
  have c__law_text : Cl P w K mg base CX0 "_law_text" _ _ _ _ _ := ⟨ok_textD F45 c__law_draw mb_range, m45, F45.kp, b45⟩
  have b46 := FunD.bindsN (ps := ["pen"]) F46 fun _ _ _ _ _ _ us hl => match us, hl with | [_], _ => rfl
  have c__law_number : Cl P w K mg base CX0 "_law_number" _ _ _ _ _ := ⟨ok_numberD F46 c__law_draw, m46, F46.kp, b46⟩
  have b47 := FunD.bindsN (ps := ["pen", "sort"]) F47 fun _ _ _ _ _ _ us hl => match us, hl with | [_, _], _ => rfl
  have c__law_value : Cl P w K mg base CX0 "_law_value" _ _ _ _ _ := ⟨ok_valueD F47 c__law_number c__law_word c__law_text, m47, F47.kp, b47⟩
  have b48 := FunD.bindsN (ps := ["pen", "fields", "sorts"]) F48 fun _ _ _ _ _ _ us hl => match us, hl with | [_, _, _], _ => rfl
  have c__law_pick : Cl P w K mg base CX0 "_law_pick" _ _ _ _ _ := ⟨ok_pick F48 c__law_draw mb_len, m48, F48.kp, b48⟩
  have b49 := FunD.bindsN (ps := ["pen", "old", "new"]) F49 fun _ _ _ _ _ _ us hl => match us, hl with | [_, _, _], _ => rfl
  have c__law_rows : Cl P w K mg base CX0 "_law_rows" _ _ _ _ _ := ⟨ok_rowsD F49 c__law_draw c__law_value mb_range mb_tuple mb_list, m49, F49.kp, b49⟩
  have b50 := FunD.bindsN (ps := ["pen", "fields", "deep", "many"]) F50 fun _ _ _ _ _ _ us hl => match us, hl with | [_, _, _, _], _ => rfl
  have modsA := ok_mods (P := P) (w := w) (base := base) F50 c__law_draw c__law_pick c__law_value c__law_rows m50 b50 mb_range mb_tuple mb_dict mb_int
  have c__law_mods : Cl P w K mg base CX0 "_law_mods" _ _ _ _ _ := ⟨modsA 2, m50, F50.kp, b50⟩
  have c__law_modsR : Cl P w K mg base CX0 "_law_mods" _ _ _ _ _ := ⟨mods_rec modsA 2, m50, F50.kp, b50⟩
  have b51 := FunD.bindsN (ps := ["pen", "fields", "new", "deep"]) F51 fun _ _ _ _ _ _ us hl => match us, hl with | [_, _, _, _], _ => rfl
  have c__law_step : Cl P w K mg base CX0 "_law_step" _ _ _ _ _ := ⟨ok_stepD (k := 2) F51 c__law_draw c__law_pick c__law_value c__law_rows c__law_modsR mb_len mb_dict, m51, F51.kp, b51⟩
  have b53 := FunD.bindsN (ps := ["fields", "steps"]) F53 fun _ _ _ _ _ _ us hl => match us, hl with | [_, _], _ => rfl
  have b52 := FunD.bindsN (ps := ["fields", "step"]) F52 fun _ _ _ _ _ _ us hl => match us, hl with | [_, _], _ => rfl
  have c__law_end : Cl P w K mg base CX0 "_law_end" _ _ _ _ _ := ⟨ok_lends F52 m52 b52 F53 m53 b53 mb_tuple mb_dict 5, m53, F53.kp, b53⟩
  have b54 := FunD.bindsN (ps := ["pen", "form"]) F54 fun _ _ _ _ _ _ us hl => match us, hl with | [_, _], _ => rfl
  have c__law_values : Cl P w K mg base CX0 "_law_values" _ _ _ _ _ := ⟨ok_valuesD F54 c__law_value mb_tuple, m54, F54.kp, b54⟩
  have b55 := FunD.bindsN (ps := ["pen", "form", "news", "many", "deep"]) F55 fun _ _ _ _ _ _ us hl => match us, hl with | [_, _, _, _, _], _ => rfl
  have c__law_list : Cl P w K mg base CX0 "_law_list" _ _ _ _ _ := ⟨ok_listD (k := 2) F55 c__law_draw c__law_end c__law_step c__law_mods mb_range (by decide), m55, F55.kp, b55⟩
  have x_is_sign : Cl P w K mg base CX0 "is_sign" _ _ _ _ _ := ⟨Fx.ok_sign F0 mb_ord e_PERCENT ⟨_, rfl⟩, m0, F0.kp, b0⟩
  have x_is_text : Cl P w K mg base CX0 "is_text" _ _ _ _ _ := ⟨Fx.ok_text F1 x_is_sign mb_isinstance mb_str mb_all, m1, F1.kp, b1⟩
  have x_is_whole : Cl P w K mg base CX0 "is_whole" _ _ _ _ _ := ⟨Fx.ok_whole F2 mb_isinstance mb_int mb_bool, m2, F2.kp, b2⟩
  have x__is_small : Cl P w K mg base CX0 "_is_small" _ _ _ _ _ := ⟨Fx.ok_small F3 mb_isinstance mb_str mb_len mb_all, m3, F3.kp, b3⟩
  have x_is_name : Cl P w K mg base CX0 "is_name" _ _ _ _ _ := ⟨Fx.ok_name F4 x__is_small e_LONGEST_NAME ⟨_, rfl⟩, m4, F4.kp, b4⟩
  have x_is_sort : Cl P w K mg base CX0 "is_sort" _ _ _ _ _ := ⟨Fx.ok_sort F5 mb_isinstance mb_str g_SORTS q_SORTS, m5, F5.kp, b5⟩
  have b38 := FunD.bindsN (ps := ["thing"]) F38 fun _ _ _ _ _ _ us hl => match us, hl with | [_], _ => rfl
  have x__is_field : Cl P w K mg base CX0 "_is_field" _ _ _ _ _ := ⟨Fx.ok_field F38 x_is_name x_is_sort mb_isinstance mb_tuple mb_len, m38, F38.kp, b38⟩
  have b37 := FunD.bindsN (ps := ["thing"]) F37 fun _ _ _ _ _ _ us hl => match us, hl with | [_], _ => rfl
  have x_is_form : Cl P w K mg base CX0 "is_form" _ _ _ _ _ := ⟨Fx.ok_form F37 x__is_field mb_isinstance mb_tuple mb_len mb_all e_MOST_FIELDS ⟨_, rfl⟩, m37, F37.kp, b37⟩
  have x_is_of_sort : Cl P w K mg base CX0 "is_of_sort" _ _ _ _ _ := ⟨Fx.ok_ofsort F6 x__is_small x_is_text x_is_whole mb_len e_LONGEST_WORD ⟨_, rfl⟩ e_LONGEST_TEXT ⟨_, rfl⟩, m6, F6.kp, b6⟩
  have b39 := FunD.bindsN (ps := ["form", "values"]) F39 fun _ _ _ _ _ _ us hl => match us, hl with | [_, _], _ => rfl
  have x_fits : Cl P w K mg base CX0 "fits" _ _ _ _ _ := ⟨Fx.ok_fits F39 x_is_form x_is_of_sort mb_isinstance mb_tuple mb_len mb_all mb_zip, m39, F39.kp, b39⟩
  exact ok_law F56 c__law_pen c__law_names c__law_form c__law_list c__law_values c_done c_form_behind x_fits mb_range mb_min mb_len
end St6
open PySem PySem.W PySem.Calls PyProof.Rows
theorem PySem.Challenge.cw_eventledger_k17_whole_steps_behind_steps_holds : PySem.Challenge.rw_eventledger_k17_whole_steps_behind_steps.Holds := by
  w_on; o_law
  refine HandSHeadRun.head_any (r := OpenLaw.row PySem.Challenge.rw_eventledger_k17_whole_steps_behind_steps) (q := view (OpenLaw.row PySem.Challenge.rw_eventledger_k17_whole_steps_behind_steps).prog [79]) (H := St6.hk) (ob := St6.ob) (M := 3000) (loose := St6.loose) (d := HandSHeadRun.topDef (OpenLaw.row PySem.Challenge.rw_eventledger_k17_whole_steps_behind_steps).prog 79) (kwd := []) St6.ob_eq
    (by kernel_rfl) (fun s => by kernel_rfl) St6.run (by kernel_rfl) (by kernel_rfl) (by kernel_rfl) (by rfl) (by first | assumption | decide +kernel) (by decide +kernel) ⟨rfl, rfl, rfl, rfl, rfl, by decide +kernel⟩ ?hw ?hc
  case hw => w_witness2
  case hc =>
    refine L2.walk_ofE (l := PySem.Challenge.rw_eventledger_k17_whole_steps_behind_steps) (n := 63) (k := 26) (x := "script") (CX := L2.CX0) rfl (by decide) (by kernel_rfl) ⟨rfl, by decide, by decide⟩ ?F (fun _ _ _ _ z => z)
    intro w mg fa h Y G hmg0
    obtain ⟨K, KX, c⟩ := Y
    have hmg : mg ("law" : PySem.Str) = some (.ref fa) := by
      have e : (HandSHeadRun.topDef (OpenLaw.row PySem.Challenge.rw_eventledger_k17_whole_steps_behind_steps).prog 79).name = ("law" : PySem.Str) := by kernel_rfl
      rw [← e]
      exact hmg0
    obtain ⟨fd, hb, hF⟩ := St6.facts (P := (PySem.Challenge.rw_eventledger_k17_whole_steps_behind_steps).prog) (w := w) KX G hmg c
    exact ⟨K, fd, St6.spLaw K, KX, hb, fun H a ns hl _ hS => ⟨a, ns, rfl, hS, hl, fun _ => rfl⟩, hF⟩
