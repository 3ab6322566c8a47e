import PyProof.Rows.All
import Wide.All
import OpenK.AllK
import Wide.FinOn
import PyProof.DictUpdate
import HandS.Base
import HandS.Call
import HandS.List
import HandS.Dict
import HandS.More
import HandS.DictComp
import HandS.ListItems
import HandS.Conv
import PyProof.TupleOfGen
import PyProof.EqKinds
import KE.KExcIs
import KE.KExcInit
import PyProof.ExcBaseAll.RuntimeError
import HandS.ForExc
import HandS.ExcInit
import HandS.ExcField
import HandS.ExcIs
import HandS.ExcValue
import HandS.WordsExc
import HandS.TryOnly
import HandS.ForMost
import HandS.IsInst
import HandS.TupAny
import HandS.Defaults
import HandS.Walk
import HandS.Strs
import HandS.SetBool
import HandS.SetKeys
import PyProof.FitsInt
import HandS.Comp
import HandS.Iter
import KE.KEqSeq
import HandS.Codes
import HandS.Text
import HandS.Style
import HandS.Zip
import HandS.CallLocal
import HandS.Steps
import KE.GoesMore
import KE.KStateDown
import HandS.Ends
import HandS.Words
import HandS.Head0
import HandS.Head1
import HandS.Head2
import HandS.HeadEnd
import HandS.HeadHook1
import HandS.HeadHook2
import HandS.HeadHook3
import HandS.HeadHook4
import PyProof.AttrMissHeap
import PyProof.TupleIter
import PyProof.WalksMore
import HandS.StrMore
import HandS.FStr
import HandS.Replace
import HandS.ReplaceLit
import KE.GoesNew
import PyProof.Rows.StrRev
import KE.GoesEnumKw
import PyProof.Rows.CallKwBuiltin
import HandS.TupMul
import HandS.DictEq
import PyProof.NeKinds
import HandS.TupSets
import HandS.SortRule
import Lean
import PySem.Challenge.RW_eventledger_k16_more_than_six_amid
set_option Elab.async false
set_option linter.all false
set_option maxRecDepth 100000
set_option autoImplicit false
set_option maxHeartbeats 2000000
/-! one dict merged into another, as `**` in a display does it -/
namespace Nn
open PySem PySem.Spec PyProof.Rows L2
section
variable {prog : Program} {w : World} {K : Type} [DecidableEq K] {knd : KeyKind prog w K} {A : Around} {E : Value → Shared → Prop} {s : Shared}
theorem dictPut_pairs {d : Addr} {kvs : List (K × Value)} {k : K} {key v : Value} {Q : Unit → Shared → Prop} (hkey : knd.is k key = true) (hm : s.heap.DictOf knd d kvs)
    (hQ : ∀ h', h'.DictOf knd d (stored kvs k v) → Heap.SameBut d s.heap h' → Q () { s with heap := h' })
    (hsz : kvs.length ≤ sizeLine) :
    wpAny (model prog w) A (dictPut d (knd.hash k) key v) Q E s := by
  obtain ⟨o, es, ep, ho, hc, hd, hk, hp, hn⟩ := hm
  have hes : es.size ≤ sizeLine := by have e1 := hp.length; have e2 : es.toList.length = es.size := by simp
                                      omega
  unfold dictPut
  refine wpAny_bind (wpAny_dictFind_of hkey ho hd hk ?_)
  have hidx : (es.findIdx? fun e => knd.is k e.key) = kvs.findIdx? fun kv => decide (kv.1 = k) := by
    rw [← hp.findIdx k]; obtain ⟨l⟩ := es; simp
  cases hi : es.findIdx? fun e => knd.is k e.key with
  | some i =>
    refine wpAny_updateDict ho hd (hQ _ ⟨_, _, ep, Heap.get?_update_self _ ho (Obj.isFreed_of_dict (Obj.data_mapDict hd _)),
      hc.mapDict _, Obj.data_mapDict hd _, hk.modify _ _, ?_, ?_⟩ (Heap.SameBut.update ..))
    · rw [stored, if_pos (any_of_findIdx_some (hidx ▸ hi))]
      have hl : (es.toList.findIdx? fun e => knd.is k e.key) = some i := by rw [← hi]; obtain ⟨l⟩ := es; simp
      have := hp.modify hn hl v
      obtain ⟨l⟩ := es
      simpa using this
    · rw [stored, if_pos (any_of_findIdx_some (hidx ▸ hi)), keys_map_store]; exact hn
  | none =>
    have hnot : k ∉ kvs.map (·.1) := not_mem_of_findIdx_none (hidx ▸ hi)
    have hany : ¬ (kvs.any fun kv => decide (kv.1 = k)) = true := by
      rw [List.any_eq_true]; rintro ⟨kv, hkv, he⟩
      exact hnot (List.mem_map.mpr ⟨kv, hkv, of_decide_eq_true he⟩)
    refine wpAny_updateDictKeys (hz := hes) ho hd (hQ _ ⟨_, _, ep + 1, Heap.get?_update_self _ ho (Obj.isFreed_of_dict (Obj.data_mapDictKeys hd _)),
      hc.mapDictKeys _, Obj.data_mapDictKeys hd _, hk.push hkey _, ?_, ?_⟩ (Heap.SameBut.update ..))
    · rw [stored, if_neg hany]
      have := hp.append hkey (knd.hash k) v
      obtain ⟨l⟩ := es
      simpa using this
    · rw [stored, if_neg hany, List.map_append, List.nodup_append]
      refine ⟨hn, by simp, ?_⟩
      intro a ha b hb
      simp only [List.map_cons, List.map_nil, List.mem_singleton] at hb
      subst hb
      exact fun e => hnot (e ▸ ha)
theorem no_ref {v : Value} (h : carriedByValue v = true) : ∀ a, v ≠ .ref a := fun a e => by
  subst e
  cases h
theorem mergeMapping_pairs {d o : Addr} {kvs more : List (K × Value)} {Q : Unit → Shared → Prop} (hdo : d ≠ o) (hoS : (o == sysModules) = false)
    (hd : s.heap.DictOf knd d kvs) (ho : s.heap.DictOf knd o more)
    (hQ : ∀ h', h'.DictOf knd d (merged kvs more) → h'.DictOf knd o more → Heap.SameBut d s.heap h' → Q () { s with heap := h' })
    (hsz : kvs.length + more.length ≤ sizeLine) :
    wpAny (model prog w) A (mergeMapping d (.ref o) false) Q E s := by
  obtain ⟨od, esd, epd, hod, hcd, hdd, hkd, hpd, hnd⟩ := id hd
  obtain ⟨oo, eso, epo, hoo, hco, hdo', hko, hpo, hno⟩ := id ho
  have hlen : more.length = eso.size := by rw [← hpo.length]; simp
  unfold mergeMapping
  refine wpAny_bind (wpAny_isInstance ho.typeIs isSubtype_dict_dict ?_)
  simp only [if_true]
  refine wpAny_bind (wpAny_specialOf ho.typeIs F.slot_dict_iter.lookup ?_)
  simp only [beq_self_eq_true]
  refine wpAny_bind (wpAny_pure ?_)
  show wpAny _ _ (ite ((o == sysModules) = true) _ _) _ _ s
  rw [if_neg (by rw [hoS]; exact Bool.false_ne_true)]
  simp only [Bool.false_eq_true, if_false]
  have main : wpAny (model prog w) A (do
      let l ← dictEntries o
      let epoch ← dictEpoch o
      forIn (List.range l.size) PUnit.unit fun i (_ : PUnit) => (do
        let l' ← dictEntries o
        match l'[i]? with
          | some e => do
            holding [e.key, e.val] (dictPut d e.hash e.key e.val)
            let ep' ← dictEpoch o
            if (ep' != epoch) = true then do
              (unsupported "dict.changed-during-merge" : Sem PUnit)
              pure (ForInStep.yield PUnit.unit)
            else pure (ForInStep.yield PUnit.unit)
          | _ => do
            (unsupported "dict.changed-during-merge" : Sem PUnit)
            pure (ForInStep.yield PUnit.unit) : Sem (ForInStep PUnit))
      pure ()) Q E s := by
    refine wpAny_bind (wpAny_dictEntries hoo hdo' ?_)
    refine wpAny_bind (wpAny_dictEpoch hoo hdo' ?_)
    refine wpAny_bind ?_
    rw [List.range_eq_range']
    refine wpAny_forIn_list _
      (fun rest _ s' => ∃ h' i, s' = { s with heap := h' } ∧ rest = List.range' i (eso.size - i) ∧ i ≤ eso.size ∧ h'.DictOf knd d (merged kvs (more.take i)) ∧ h'.get? o = some oo ∧ Heap.SameBut d s.heap h')
      _ ?_ ?_ _ _ ⟨s.heap, 0, rfl, by simp, Nat.zero_le _, by simpa [merged] using hd, hoo, Heap.SameBut.refl _ _⟩
    · rintro x rest b s' ⟨h', i, rfl, hr, hi, hd', hoo', hs'⟩
      have hlt : i < eso.size := by
        rcases Nat.lt_or_ge i eso.size with h | h
        · exact h
        · rw [Nat.sub_eq_zero_of_le h] at hr; simp at hr
      obtain ⟨rfl, hrest⟩ : x = i ∧ rest = List.range' (i + 1) (eso.size - (i + 1)) := by
        have e : eso.size - i = (eso.size - (i + 1)) + 1 := by omega
        rw [e, List.range'_succ] at hr
        injection hr with h1 h2
        exact ⟨h1, h2⟩
      refine wpAny_bind (wpAny_dictEntries hoo' hdo' ?_)
      rw [Array.getElem?_eq_getElem hlt]
      obtain ⟨kv, hkv⟩ : ∃ kv, more[x]? = some kv := ⟨more[x]'(by rw [hlen]; exact hlt), List.getElem?_eq_getElem _⟩
      obtain ⟨k, v⟩ := kv
      obtain ⟨hkey, hval⟩ := hpo.get? (e := eso[x]) (by simp [hlt]) hkv
      obtain ⟨k', hkey', hhash⟩ := hko eso[x] (Array.getElem_mem hlt)
      obtain rfl : k' = k := knd.inj _ _ _ hkey' hkey
      show wpAny _ _ (holding [eso[x].key, eso[x].val] (dictPut d eso[x].hash eso[x].key eso[x].val) >>= _) _ _ _
      rw [hhash, hval]
      have hmx : (merged kvs (more.take x)).length ≤ sizeLine := by
        have e1 := merged_length_le kvs (more.take x)
        have e2 : (more.take x).length ≤ more.length := by rw [List.length_take]; omega
        omega
      refine wpAny_bind (wpAny_holding (dictPut_pairs (hsz := hmx) hkey hd' fun h'' hd'' hs'' => ?_))
      have hoo'' : h''.get? o = some oo := (hs''.2 o (Ne.symm hdo)).trans hoo'
      refine wpAny_bind (wpAny_dictEpoch hoo'' hdo' ?_)
      rw [if_neg (by simp)]
      exact wpAny_pure ⟨h'', x + 1, rfl, hrest, hlt, by rw [merged_take_succ kvs more x (k', v) hkv]; exact hd'', hoo'', hs'.trans hs''⟩
    · rintro b s' ⟨h', i, rfl, hr, hi, hd', hoo', hs'⟩
      have hin : i = eso.size := by
        rcases Nat.lt_or_ge i eso.size with h | h
        · have e : eso.size - i = (eso.size - (i + 1)) + 1 := by omega
          rw [e, List.range'_succ] at hr; exact nomatch hr
        · exact Nat.le_antisymm hi h
      refine wpAny_pure (hQ h' ?_ ⟨oo, eso, epo, hoo', hco, hdo', hko, hpo, hno⟩ hs')
      rw [hin, ← hlen, List.take_length] at hd'; exact hd'
  refine wpAny_bind (wpAny_dictEntries hod hdd ?_)
  split
  · refine wpAny_bind (wpAny_dictEntries hoo hdo' ?_)
    refine wpAny_bind (wpAny_of_eq (?_ : _ = pure PUnit.unit) main)
    rw [← Array.forIn_toList]
    refine forIn_yield_id _ fun e he c => ?_
    obtain ⟨k, hkey, _⟩ := hko e (Array.mem_toList_iff.mp he)
    have nr := no_ref (knd.byValue k _ hkey)
    split
    · rename_i a ea
      exact absurd ea (nr a)
    · rfl
  · exact main
end
end Nn

set_option autoImplicit false
set_option maxHeartbeats 2000000
/-! `{**d, k: v}` -/
namespace Nn
open PySem PySem.Spec PyProof.Rows L2
def tDStar (td tk tv : TE) : TE := fun σ H Q => ∀ p, H p = none → td σ (upd H p (.dK [])) fun x H1 => ∃ d kvs, x = .ref d ∧ d ≠ p ∧ H1 p = some (.dK []) ∧ H1 d = some (.dK kvs) ∧
  ∀ p2, upd H1 p (.dK kvs) p2 = none → tk σ (upd (upd H1 p (.dK kvs)) p2 (.dK [])) fun x H2 => tv σ H2 fun v H3 => ∃ k ks, x = kV k ∧ H3 p2 = some (.dK []) ∧ p2 ≠ p ∧ H3 p = some (.dK ks) ∧ ks.length < sizeLine ∧
    Q (.ref p) (upd (upd H3 p2 (.dK [(k, v)])) p (.dK (putK ks k v)))
theorem wpAny_tryC {prog : Program} {w : World} {A : Around} {α : Type} {m : Sem α} {h : Value → Sem α} {Q : α → Shared → Prop} {E : Value → Shared → Prop} {s : Shared}
    (q : wpAny (model prog w) A m Q (fun e s' => wpAny (model prog w) A (h e) Q E s') s) : wpAny (model prog w) A (m.tryCatch h) Q E s := fun Γ p hΓ => by
  rw [Sem.wp_tryCatch]
  exact Sem.wp_mono _ Γ m (fun _ _ _ h' => h') (fun e p' s' h' => h' Γ p' hΓ) p s (q Γ p hΓ)
def one1 (F : V → V → Hp → Prop) : List (V × V) → Hp → Prop := fun ps H => match ps with
  | [(x, y)] => F x y H
  | _ => False
section
variable {X : Cx} {d k v : Expr} {td tk tv : TE} {pos : Pos}
theorem pe_dstar (hd : PE X d td) (hk : PE X k tk) (hv : PE X v tv) : PE X (.Dict [none, some k] [d, v] pos) (tDStar td tk tv) := by
  refine ⟨fun pins s σ H Q I h => ?_⟩
  rw [arm_eval_Dict]
  show wpAny _ _ (do standAt pos; dictDisplay [(none, do let x ← eval d X.env; standAt pos; pure x), (some (eval k X.env), do let x ← eval v X.env; standAt pos; pure x)]) _ _ _
  refine wpAny_bind (wpAny_standAt ?_)
  unfold dictDisplay
  dsimp only
  simp only [List.forIn_cons, List.forIn_nil, List.isEmpty_nil, if_true]
  have hn := I.hok.fresh (Nat.le_refl s.heap.objs.size)
  have I1 := I.laid (a := s.heap.objs.size) (o := .dK []) (h' := s.heap.push { cls := .type "dict", data := .dict #[] }) (t' := s.toks) (fun _ _ q => Heap.get?_push_of_some _ q) (Nat.le_refl _) (dk_empty s.heap I.big)
  refine wpAny_bind (wpAny_bind (wpAny_bind (wpAny_pure ?_)))
  refine wpAny_bind (wpAny_alloc ?_)
  refine wpAny_bind (wpAny_holding (wpAny_bind (thn (hd.run pins _ σ _ _ I1 (h _ hn)) fun u s1 ⟨x, H1, I2, rx, a, kvs, ex, ne, e1, e2, q⟩ => wpAny_bind (wpAny_standAt (wpAny_pure ?_)))))
  generalize s.heap.objs.size = p at *
  subst ex
  obtain rfl : u = Value.ref a := rx
  obtain ⟨z1, hp1, vs1, r1, d1⟩ := dk_of I2.hok e1
  obtain ⟨z2, hp2, vs2, r2, d2⟩ := dk_of I2.hok e2
  cases r1
  have nd2 : (vs2.map (·.1)).Nodup := let ⟨_, _, _, _, _, _, _, _, n⟩ := d2; n
  have l2 : kvs.length = vs2.length := Paired.length r2
  refine wpAny_bind (wpAny_onRaise (wpAny_tryC (wpAny_onRaise (wpAny_holding (mergeMapping_pairs (knd := mixKind X.prog X.w) (Ne.symm ne) hp2 d1 d2 (fun h' dd' _ hs' => ?_) (by rw [List.length_nil]; omega))))))
  rw [merged_nil_of_nodup _ nd2] at dd'
  have I3 : Inv X pins σ (upd H1 p (.dK kvs)) { s1 with heap := h', toks := s1.toks } := d_write I2 (by rw [e1]; exact True.intro) hs' (let ⟨q, _, _, hq, _⟩ := dd'; ⟨q, hq⟩) (dk_new z2 hp1 r2 dd')
  refine wpAny_pure ?_
  dsimp only
  rw [if_neg (by simp)]
  refine wpAny_bind (wpAny_pure (wpAny_pure ?_))
  dsimp only
  refine wpAny_bind ?_
  rw [if_neg (by simp)]
  have hn2 := I3.hok.fresh (Nat.le_refl h'.objs.size)
  have I4 := I3.laid (a := h'.objs.size) (o := .dK []) (h' := h'.push { cls := .type "dict", data := .dict #[] }) (t' := s1.toks) (fun _ _ q => Heap.get?_push_of_some _ q) (Nat.le_refl _) (dk_empty h' I3.big)
  refine wpAny_bind (wpAny_holding (wpAny_subDict (knd := mixKind X.prog X.w) (by simp) (thn ((pps_cons hk hv pps_nil).run pins _ σ _ (one1 _) I4 (q _ hn2)) fun ws s2 ⟨ps, H4, I5, rel, y⟩ => ?_)))
  generalize h'.objs.size = p2 at *
  match ps, y, rel with
  | [(x, y1)], y, rel =>
    obtain ⟨key, ks, ex, g1, ne2, g2, ls, q2⟩ := (show ∃ k ks, x = kV k ∧ H4 p2 = some (.dK []) ∧ p2 ≠ p ∧ H4 p = some (.dK ks) ∧ ks.length < sizeLine ∧ Q (.ref p) (upd (upd H4 p2 (.dK [(k, y1)])) p (.dK (putK ks k y1))) from y)
    subst ex
    obtain ⟨rs, c, rk⟩ := carries_of (P := X.prog) (w := X.w) (kvs := [(key, y1)]) rel
    obtain ⟨z3, hp3, vs3, r3, d3⟩ := dk_of I5.hok g1
    cases r3
    refine ⟨rs, c, d3, fun h4 dd4 hs4 => ?_⟩
    have e4 : (mergeK [] [(key, y1)]) = [(key, y1)] := rfl
    have rk2 := rk.merge (kvs := []) (vs := []) .nil
    rw [e4] at rk2
    have I6 : Inv X pins σ (upd H4 p2 (.dK [(key, y1)])) { s2 with heap := h4, toks := s2.toks + ws.length } := d_write I5 (by rw [g1]; exact True.intro) hs4 (let ⟨q, _, _, hq, _⟩ := dd4; ⟨q, hq⟩) (dk_new (by show 1 ≤ sizeLine; decide) hp3 rk2 dd4)
    have g3 : (upd H4 p2 (.dK [(key, y1)])) p = some (.dK ks) := by rw [upd_ne (Ne.symm ne2)]; exact g2
    obtain ⟨z5, hp5, vs5, r5, d5⟩ := dk_of I6.hok g3
    have l5 : ks.length = vs5.length := Paired.length r5
    have lk : (merged [] rs).length = 1 := (Paired.length rk2).symm
    refine wpAny_bind (wpAny_onRaise (wpAny_holding (mergeMapping_pairs (knd := mixKind X.prog X.w) (Ne.symm ne2) hp3 d5 dd4 (fun h5 dd5 _ hs5 => ?_) (by rw [lk]; omega))))
    have rk5 := rk2.merge r5
    have I7 := d_write (s := { s2 with heap := h4, toks := s2.toks + ws.length }) (h' := h5) (t' := s2.toks + ws.length) (ob := .dK (putK ks key y1)) I6 (by rw [g3]; exact True.intro) hs5 (let ⟨q, _, _, hq, _⟩ := dd5; ⟨q, hq⟩) (dk_new (by have := length_putK ks key y1; omega) hp5 rk5 dd5)
    refine wpAny_pure (wpAny_pure ⟨.ref p, _, I7, rfl, q2⟩)
end
end Nn

set_option autoImplicit false
set_option maxHeartbeats 2000000
/-! tuple(d.items()) -/
namespace PySem
open Sem (wp)
open AutoSeq1 (wpAny_loadPart')
section
variable {K : Type} [DecidableEq K] {prog : Program} {w : World} {knd : KeyKind prog w K} {A : Around} {E : Value → Shared → Prop} {s : Shared} {r d : Addr} {kvs : List (K × Value)} {ep : Nat}
theorem code_tuple_new_items {Q₁ : Value → Shared → Prop} (hh : A.handled = none) (hv : s.heap.IsItemsView r d) (hm : s.heap.DictAt knd d kvs ep) (hn : kvs.length ≤ sizeLine)
    (h : ∀ (h' : Heap) (tk : Nat) (as : List Addr), (∀ b o, s.heap.get? b = some o → h'.get? b = some o) → as.length = kvs.length → PySem.W.KdxG knd kvs s.heap.objs.size h' as → Q₁ (.ref h'.objs.size) { s with heap := h'.push { cls := .type "tuple", data := .seq (as.map Value.ref).toArray }, toks := tk }) :
    codeAny (model prog w) A (.call (.builtin "tuple.__new__") ⟨[.type "tuple", .ref r], []⟩) (wants Q₁ E) s := by
  refine codeAny_of_tree ?_
  show wpAny _ A.in1 (do checkBuiltinCall "tuple.__new__" ⟨[.type "tuple", .ref r], []⟩; again (.builtin "tuple.__new__" ⟨[.type "tuple", .ref r], []⟩)) _ _ s
  refine wpAny_bind (wpAny_of_eq (F.newCall_tuple_1 _) (wpAny_pure ⟨plainId_quiet F.plain_tuple_new _, codeAny_builtin F.entry_tuple_new ?_⟩))
  rw [Around.under_plainId F.plain_tuple_new _]
  have hsub := sub_tuple_self
  have hinit := init_tuple_lookup
  have hmh := madeHere_tuple
  have hTI : s.TypeIs (.ref r) "dict_items" := let ⟨o, ho, hc, _⟩ := hv; ⟨o, ho, hc⟩
  have hh1 : A.in1.handled = none := hh
  wp_walk using wpAny_typeOf hTI, PySem.W.kdx_collect (knd := knd) (A := A.in1) hh1 hv hm hn
  intro h' tk as hk hl hG
  show wpAny _ _ (Builtin.Tuple.tupleExact (as.map Value.ref).toArray >>= fun v => ret v) _ _ _
  unfold Builtin.Tuple.tupleExact
  refine wpAny_bind (wpAny_newObj_type ?_ (by show (as.map Value.ref).toArray.size ≤ sizeLine; rw [List.size_toArray, List.length_map]; omega))
  refine wpAny_pure ?_
  exact h h' tk as hk hl hG
theorem call_tuple_items {Q : Value → Shared → Prop} (hh : A.handled = none) (hv : s.heap.IsItemsView r d) (hm : s.heap.DictAt knd d kvs ep) (hn : kvs.length ≤ sizeLine)
    (hQ : ∀ (h' : Heap) (tk : Nat) (as : List Addr), (∀ b o, s.heap.get? b = some o → h'.get? b = some o) → as.length = kvs.length → PySem.W.KdxG knd kvs s.heap.objs.size h' as → Q (.ref h'.objs.size) { s with heap := h'.push { cls := .type "tuple", data := .seq (as.map Value.ref).toArray }, toks := tk }) :
    wpAny (model prog w) A (call (.type "tuple") [.ref r]) Q E s := by
  refine callType_codes (Q₁ := fun obj s₁ => s₁.TypeIs obj "tuple" ∧ Q obj s₁) F.called_tuple (F.typeCall_tuple_1 _) F.entry_object_init
    (code_tuple_new_items (knd := knd) (A := A.in1) hh hv hm hn fun h' tk as hk hl hG => ⟨⟨_, Heap.get?_push_size _ rfl, rfl⟩, hQ h' tk as hk hl hG⟩) fun obj s₁ h₁ => ?_
  exact ⟨h₁.1, F.args_object_init_2 obj _, object_init_meets F.called_tuple.init.lookup F.called_tuple.made (by decide) prog w A.in1 _ s₁ ⟨h₁.1, rfl, h₁.2⟩⟩
end
end PySem
namespace Nn
open PySem PySem.Spec PyProof.Rows L2 LiI
def rTupItems : V → Hp → VK → Prop := fun x H Q => ∃ (d : Addr) (kvs : List (Key × V)), x = .ref d ∧ H d = some (.dK kvs) ∧
  ∀ (H' : Hp) (p : Addr) (ts : List Addr), (∀ b o, H b = some o → H' b = some o) → H p = none → H' p = some (.tup (ts.map V.ref)) → Paired (fun (t : Addr) (q : Key × V) => H' t = some (.tup [kV q.1, q.2])) ts kvs → Q (.ref p) H'
def tTupItems (te : TE) : TE := fun σ H Q => te σ H fun x H1 => rTupItems x H1 Q
theorem paired_imp {α β : Type} {F G : α → β → Prop} (h : ∀ x y, F x y → G x y) : ∀ {xs : List α} {ys : List β}, Paired F xs ys → Paired G xs ys
  | _, _, .nil => .nil
  | _, _, .cons a t => .cons (h _ _ a) (paired_imp h t)
section
variable {X : Cx} {e : Expr} {te : TE} {p apos cpos pos : Pos}
theorem tups_laid {pins : List (Addr × Obj)} {σ : L2.St} {H : Hp} {s : Shared} {h' : Heap} {tk : Nat} {kvs : List (Key × V)} {vs : List (Key × Value)} {as : List Addr} (I : Inv X pins σ H s) (kv : KV kvs vs)
    (hk : ∀ b o, s.heap.get? b = some o → h'.get? b = some o) (hl : as.length = vs.length) (hG : PySem.W.KdxG (mixKind X.prog X.w) vs s.heap.objs.size h' as) :
    ∃ H' : Hp, (∀ b o, H b = some o → H' b = some o) ∧ Paired (fun (t : Addr) (q : Key × V) => H' t = some (.tup [kV q.1, q.2])) as kvs ∧ Inv X pins σ H' { s with heap := h', toks := tk } := by
  have lk : kvs.length = vs.length := Paired.length kv
  have nd : as.Nodup := List.Pairwise.imp (fun {a b} (h : a < b) => Nat.ne_of_lt h) hG.rise
  have new : ∀ t ∈ as, H t = none := fun t ht => I.hok.fresh (Nat.le_of_lt (hG.above t ht))
  have atP := putT_at as kvs H (by omega) nd
  have off : ∀ b, b ∉ as → putT H as kvs b = H b := fun b h1 => putT_off as kvs _ h1
  have low : ∀ b o, s.heap.get? b = some o → b ∉ as := fun b o e => fun z => absurd (Heap.lt_size e) (Nat.not_lt.mpr (Nat.le_of_lt (hG.above b z)))
  have kp : ∀ b u, H b = some u → (putT H as kvs) b = some u := fun b u e => by
    rw [off b (fun z => by rw [new b z] at e; cases e)]
    exact e
  refine ⟨putT H as kvs, kp, atP, ?_⟩
  refine I.call' (ch := []) rfl ⟨fun b o q _ _ _ => hk b o q, fun b o q _ _ _ => ⟨o.slots, hk b o q⟩, fun b o q n _ => ?_, fun b o q _ => ⟨o, hk b o q⟩, fun b xs q => kp b _ q, fun b o u q => kp b _ q, fun b ps q => ⟨#[], by rw [kp b _ q]; simp⟩⟩ (fun b u q => ?_) I.bare fun b z => by simp at z
  · rw [off b (low b o q)]
    exact n
  · by_cases hb : b ∈ as
    · obtain ⟨j, pk, e1, e2, e3⟩ := paired_ix atP hb
      rw [e3] at q
      cases q
      obtain ⟨key, k, x, f1, f2, f3⟩ := hG.pairs j b e1
      obtain ⟨qv, g1, g2, g3⟩ := LiI.paired_get kv e2
      rw [f1] at g1
      cases g1
      have rk : RelV (kV pk.1) key := by
        rw [g2]
        exact relV_key (show keyIs k key = true from f2)
      exact ⟨by show 2 ≤ sizeLine; decide, [key, x], .cons rk (.cons g3 .nil), ⟨_, f3, rfl, _, rfl⟩⟩
    · rw [off b hb] at q
      exact (I.hok b u q).stay (fun d v _ y => hk d v y) (fun d y => kp d _ y) fun d xs y => kp d _ y
/-- tuple(e.items()) -/
theorem pe_tupItems (hc : X.calm = true) (he : PE X e te) (hg : Gl X "tuple") (hm : X.mg "tuple" = none) (hv : bootBuiltins "tuple" = some (.type "tuple")) (hbase : attributeBase e "items" X.env (eval e X.env) = eval e X.env := by rfl) (hline : (apos.endLine == cpos.line) = true := by rfl)
    (hs : starEach [.Call (.Attribute e "items" apos) [] [] cpos] X.env = (false, eval (.Call (.Attribute e "items" apos) [] [] cpos) X.env) :: starEach [] X.env := by rfl) :
    PE X (.Call (.Name "tuple" p) [.Call (.Attribute e "items" apos) [] [] cpos] [] pos) (tTupItems te) := by
  refine ⟨fun pins s σ H Q I hq => ?_⟩
  refine wpAny_Call_Name_kw (ld_blt I hg hm hv ?_)
  refine PyProof.Rows.callWith_type1 ?_ hs rfl
  rw [hs]
  show wpAny _ _ (spliced ((false, eval (.Call (.Attribute e "items" apos) [] [] cpos) X.env) :: backTo pos (starEach [] X.env))) _ _ s
  refine Calls.spliced_cons ?_
  refine wpAny_Call_method (T := "dict") (id := "dict.items") hbase rfl hline F.plainAttrs_dict F.slot_dict_items F.type_dict_items (thn (he.run pins s σ H _ I hq) fun u s1 ⟨x, H1, I1, rx, d, kvs, ex, hd, q⟩ => ?_)
  subst ex
  obtain rfl : u = Value.ref d := rx
  obtain ⟨hz, hs0, vs, kv, hdo⟩ := I1.hok d _ hd
  obtain ⟨ep, hat⟩ := hdo.dictAt
  have lk : kvs.length = vs.length := Paired.length kv
  have I2 : Inv X pins σ H1 { s1 with heap := s1.heap.push { cls := .type "dict_items", data := .fields #[.ref d] } } := I1.kept (t' := s1.toks) fun b ob q => Heap.get?_push_of_some _ q
  refine ⟨hdo.typeIs, hdo.mapOf.noDict, ?_⟩
  show wpAny _ _ (callWith cpos (.builtin "dict.items") [.ref d] [] []) _ X.xe s1
  refine method_meetsIn F.slot_dict_items F.entry_dict_items rfl (PySem.evalArgs_none ⟨rfl, hdo.typeIs, F.args_dict_items_1 _, _, meets_dict_items (mixKind X.prog X.w) d hs0, ⟨vs, hdo⟩, ?_⟩)
  refine Calls.spliced_nil ?_
  refine PySem.call_tuple_items (knd := mixKind X.prog X.w) (kvs := vs) (ep := ep) (I1.ok.hd hc) ⟨_, Heap.get?_push_size _ rfl, rfl, rfl⟩ (hat.push _) (by omega) fun h' tk as hk hl hG => ?_
  obtain ⟨H', k1, k2, J⟩ := tups_laid (tk := tk) I2 kv hk hl hG
  have n1 := J.hok.fresh (Nat.le_refl h'.objs.size)
  have n0 : H1 h'.objs.size = none := by
    cases e0 : H1 h'.objs.size with
    | none => rfl
    | some o =>
      rw [k1 _ _ e0] at n1
      cases n1
  have vr : Vals (as.map V.ref) (as.map Value.ref) := LiI.vals_refs as
  have J2 := J.laid (a := h'.objs.size) (o := .tup (as.map V.ref)) (h' := h'.push { cls := .type "tuple", data := .seq (as.map Value.ref).toArray }) (t' := tk) (fun _ _ q => Heap.get?_push_of_some _ q) (Nat.le_refl _)
    (show ObjOk X.prog X.w _ _ _ (.tup (as.map V.ref)) from ⟨by rw [List.length_map]; omega, _, vr, IsTup.new _ _⟩)
  refine ⟨.ref _, _, J2, rfl, q _ _ as (fun b o e => ?_) n0 upd_same ?_⟩
  · have hb : b ≠ h'.objs.size := ne_of_none e n0
    rw [upd_ne hb]
    exact k1 b o e
  · refine paired_imp (fun t q e => ?_) k2
    rw [upd_ne (ne_of_none e n1)]
    exact e
end
end Nn

set_option autoImplicit false
set_option maxHeartbeats 2000000
/-! fields: a dict of texts to texts -/
namespace Nn
open PySem PySem.Spec PyProof.Rows L2
abbrev Fs := List (Str × Str)
def kvsOf (fs : Fs) : List (Key × V) := fs.map fun x => (Sum.inr x.1, V.str x.2)
def getF (fs : Fs) (n : Str) : Option Str := (fs.find? fun x => decide (x.1 = n)).map Prod.snd
def setF (fs : Fs) (n s : Str) : Fs := if fs.any (fun x => decide (x.1 = n)) then fs.map fun x => if x.1 = n then (x.1, s) else x else fs ++ [(n, s)]
def eqF (fs gs : Fs) : Bool := decide (fs.length = gs.length) && fs.all fun x => decide (getF gs x.1 = some x.2)
theorem kvsOf_len (fs : Fs) : (kvsOf fs).length = fs.length := List.length_map _
theorem getF_cons_pos {x : Str × Str} {r : Fs} {n : Str} (h : x.1 = n) : getF (x :: r) n = some x.2 := by
  unfold getF
  rw [List.find?_cons_of_pos (by simpa using h)]
  rfl
theorem getF_cons_neg {x : Str × Str} {r : Fs} {n : Str} (h : ¬ x.1 = n) : getF (x :: r) n = getF r n := by
  unfold getF
  rw [List.find?_cons_of_neg (by simpa using h)]
theorem val_of : ∀ (fs : Fs) (n : Str), valV (kvsOf fs) (Sum.inr n) = (getF fs n).map V.str
  | [], n => rfl
  | x :: r, n => by
    by_cases h : x.1 = n
    · rw [getF_cons_pos h]
      exact valV_pos (p := ((Sum.inr x.1 : Key), V.str x.2)) (by rw [h])
    · rw [getF_cons_neg h, ← val_of r n]
      exact valV_neg (p := ((Sum.inr x.1 : Key), V.str x.2)) (fun e => h (Sum.inr.inj e))
theorem put_of (fs : Fs) (n s : Str) : putK (kvsOf fs) (Sum.inr n) (V.str s) = kvsOf (setF fs n s) := by
  have any_eq : ((kvsOf fs).any fun kv => decide (kv.1 = (Sum.inr n : Key))) = fs.any fun x => decide (x.1 = n) := by
    unfold kvsOf
    rw [List.any_map]
    congr 1
    funext x
    exact decide_eq_decide.mpr ⟨fun e => Sum.inr.inj e, fun e => congrArg Sum.inr e⟩
  unfold putK setF
  rw [any_eq]
  cases h : fs.any fun x => decide (x.1 = n)
  · rw [if_neg Bool.false_ne_true, if_neg Bool.false_ne_true]
    unfold kvsOf
    rw [List.map_append]
    rfl
  · rw [if_pos rfl, if_pos rfl]
    unfold kvsOf
    rw [List.map_map, List.map_map]
    refine List.map_congr_left fun x _ => ?_
    by_cases e : x.1 = n
    · have e2 : (Sum.inr x.1 : Key) = Sum.inr n := congrArg Sum.inr e
      show (if (Sum.inr x.1 : Key) = Sum.inr n then _ else _) = _
      rw [if_pos e2]
      show _ = ((Sum.inr (if x.1 = n then (x.1, s) else x).1 : Key), V.str (if x.1 = n then (x.1, s) else x).2)
      rw [if_pos e]
    · show (if (Sum.inr x.1 : Key) = Sum.inr n then _ else _) = _
      rw [if_neg (fun z => e (Sum.inr.inj z))]
      show _ = ((Sum.inr (if x.1 = n then (x.1, s) else x).1 : Key), V.str (if x.1 = n then (x.1, s) else x).2)
      rw [if_neg e]
theorem hits_F {P : Program} {w : World} {A : Around} {s : Shared} {gs : Fs} {vb : List (Key × Value)} (rb : KV (kvsOf gs) vb) : ∀ {fs : Fs} {va : List (Key × Value)}, KV (kvsOf fs) va → PySem.W.KeqHits A s vb va (fs.all fun x => decide (getF gs x.1 = some x.2))
  | [], _, .nil => .nil
  | x :: r, _, .cons (b := q) h t => by
    have ih := hits_F (P := P) (w := w) (A := A) (s := s) rb (fs := r) t
    obtain ⟨h1, h2⟩ := h
    obtain ⟨k, v⟩ := q
    have h1 : (Sum.inr x.1 : Key) = k := h1
    subst h1
    obtain ⟨t1, rfl⟩ : ∃ t, v = Value.str x.2 t := (show ∃ t, v = Value.str x.2 t from h2)
    have rr : RelO (valV (kvsOf gs) (Sum.inr x.1)) (valueAt vb (Sum.inr x.1)) := rb.val _
    rw [val_of] at rr
    cases hg : getF gs x.1 with
    | none =>
      rw [hg] at rr
      have e : valueAt vb (Sum.inr x.1 : Key) = none := by
        cases hv : valueAt vb (Sum.inr x.1 : Key) with
        | none => rfl
        | some y =>
          rw [hv] at rr
          exact rr.elim
      have e2 : ((x :: r).all fun x => decide (getF gs x.1 = some x.2)) = false := by
        rw [List.all_cons, hg]
        simp
      rw [e2]
      exact .miss e
    | some z =>
      rw [hg] at rr
      obtain ⟨y, hy, ry⟩ := RelO.some_of (v := V.str z) rr
      obtain ⟨t2, rfl⟩ : ∃ t, y = Value.str z t := (show ∃ t, y = Value.str z t from ry)
      have e2 : ((x :: r).all fun x => decide (getF gs x.1 = some x.2)) = ((x.2 == z) && r.all fun x => decide (getF gs x.1 = some x.2)) := by
        rw [List.all_cons, hg]
        congr 1
        by_cases e : x.2 = z
        · rw [e]; simp
        · rw [decide_eq_false (fun y => e (Option.some.inj y).symm)]
          exact (beq_eq_false_iff_ne.mpr e).symm
      rw [e2]
      exact .hit hy (SeqAt.EqAt.str_str x.2 t1 z t2) ih
section
variable {X : Cx}
def rEqF : R2 := fun x y H Q => ∃ a b fs gs, x = .ref a ∧ y = .ref b ∧ H a = some (.dK (kvsOf fs)) ∧ H b = some (.dK (kvsOf gs)) ∧ Q (.bl (eqF fs gs)) H
theorem op_eqF (hu : X.A.units < cLine) : OpR X (compareOp .Eq) rEqF := by
  intro pins s σ H x y v u Q I rx ry h
  obtain ⟨a, b, fs, gs, rfl, rfl, ea, eb, q⟩ := h
  obtain rfl : v = Value.ref a := rx
  obtain rfl : u = Value.ref b := ry
  obtain ⟨_, ya, va, ra, da⟩ := (show ObjOk X.prog X.w H s.heap a (.dK (kvsOf fs)) from I.hok a _ ea)
  obtain ⟨_, yb, vb, rb, db⟩ := (show ObjOk X.prog X.w H s.heap b (.dK (kvsOf gs)) from I.hok b _ eb)
  have la : va.length = fs.length := by rw [← kvsOf_len fs]; exact (Paired.length ra).symm
  have lb : vb.length = gs.length := by rw [← kvsOf_len gs]; exact (Paired.length rb).symm
  refine PySem.W.keq_eq (knd := mixKind X.prog X.w) ya yb da db hu (fun _ => hits_F (P := X.prog) (w := X.w) rb ra) (fin_bl I q ?_)
  unfold eqF
  rw [la, lb]
  rfl
end
end Nn

set_option autoImplicit false
set_option maxHeartbeats 2000000
/-! written dicts, asked by any text: get with a default, an item -/
namespace Nn
open PySem PySem.Spec PyProof.Rows L2
/-- the first of that name -/
def lookV (kvs : List (Str × V)) (z : Str) : Option V := (kvs.find? fun x => decide (x.1 = z)).map Prod.snd
/-- the written dict at a holds just these -/
def KTab (K : PySem.W.Frag) (w : World) (a : Addr) (kvs : List (Str × V)) : Prop := ∃ es n, KDict K w a es n ∧ ∀ z, ∃ r, PySem.W.nsIn K a z = some r ∧ RelO (lookV kvs z) r
/-- the keys in their order, by a look -/
def keysB (K : PySem.W.Frag) (a : Addr) (ks : List Str) : Bool := match K.lookup a with
  | some ⟨_, _, .dict es _, _⟩ => (decide (es.toList.length = ks.length) && (es.toList.zip ks).all fun p => p.1.key.isStr p.2) && !(es.toList.any (·.refKey))
  | _ => false
theorem find_keys {z : Str} : ∀ {es : List DictEntry} {ks : List Str}, es.length = ks.length → ((es.zip ks).all fun p => p.1.key.isStr p.2) = true → z ∉ ks → es.find? (·.key.isStr z) = none
  | [], _, _, _, _ => rfl
  | e :: r, [], h, _, _ => by cases h
  | e :: r, k :: ks, h, hall, hz => by
    rw [List.zip_cons_cons, List.all_cons, Bool.and_eq_true] at hall
    have ne : e.key.isStr z = false := by
      cases hk : e.key with
      | str x t =>
        have h1 := hall.1
        rw [hk] at h1
        have e1 : x = k := by simpa [Value.isStr] using h1
        have : x ≠ z := fun y => hz (by rw [← y, e1]; exact List.mem_cons_self ..)
        simpa [Value.isStr] using this
      | _ => rfl
    rw [List.find?_cons_of_neg (by rw [ne]; exact Bool.false_ne_true)]
    exact find_keys (by simpa using h) hall.2 fun y => hz (List.mem_cons_of_mem _ y)
theorem ktab_of {K : PySem.W.Frag} {w : World} {a : Addr} {es : Array DictEntry} {n : Nat} (D : KDict K w a es n) {kvs : List (Str × V)} (hk : keysB K a (kvs.map Prod.fst) = true)
    (hv : ∀ x ∈ kvs, ∃ u, PySem.W.nsIn K a x.1 = some (some u) ∧ RelV x.2 u) : KTab K w a kvs := by
  refine ⟨es, n, D, fun z => ?_⟩
  unfold keysB at hk
  rw [D.at_] at hk
  rw [Bool.and_eq_true, Bool.and_eq_true] at hk
  obtain ⟨⟨h1, h2⟩, h3⟩ := hk
  unfold lookV
  cases hf : kvs.find? fun x => decide (x.1 = z) with
  | some x =>
    have hx := List.mem_of_find?_eq_some hf
    have e0 := List.find?_some (p := fun x : Str × V => decide (x.1 = z)) hf
    have e : x.1 = z := of_decide_eq_true e0
    obtain ⟨u, hu, ru⟩ := hv x hx
    rw [e] at hu
    exact ⟨some u, hu, ru⟩
  | none =>
    have nz : z ∉ kvs.map Prod.fst := fun y => by
      obtain ⟨x, hx, rfl⟩ := List.mem_map.mp y
      have := List.find?_eq_none.mp hf x hx
      exact this (decide_eq_true rfl)
    refine ⟨none, ?_, trivial⟩
    unfold PySem.W.nsIn
    rw [D.at_]
    show (match es.toList.find? (·.key.isStr z) with
      | some e => some (some e.val)
      | none => if es.toList.any (·.refKey) then none else some none) = some none
    rw [find_keys (of_decide_eq_true h1) h2 nz]
    have h4 : es.toList.any (·.refKey) = false := by simpa using h3
    show (if es.toList.any (·.refKey) = true then none else some none) = some none
    rw [h4]
    rfl
section
variable {X : Cx} {o e f : Expr} {apos cpos : Pos} {td ty tx : TE}
def tKGet2 (K : PySem.W.Frag) (w : World) (td ty tx : TE) : TE := fun σ H Q => td σ H fun x H1 => ∃ a kvs, x = .ref a ∧ KTab K w a kvs ∧ ty σ H1 fun y H2 => tx σ H2 fun z H3 => ∃ s, y = .str s ∧ Q ((lookV kvs s).getD z) H3
theorem pe_kget2 (ho : PE X o td) (he : PE X e ty) (hf : PE X f tx) (m : M2 X o "get" apos e f cpos) : PE X (.Call (.Attribute o "get" apos) [e, f] [] cpos) (tKGet2 X.K X.w td ty tx) := by
  refine ⟨fun pins s σ H Q I h => ?_⟩
  refine wpAny_Call_method m.base m.few m.line PySem.F.plainAttrs_dict PySem.F.slot_dict_get PySem.F.type_dict_get (thn (ho.run pins s σ H _ I h) fun u s1 ⟨x, H1, I1, rx, a, kvs, ex, ⟨es, n, D, look⟩, q1⟩ => ?_)
  subst ex
  obtain rfl : u = Value.ref a := rx
  have hm1 := PySem.W.mapOf_K (prog := X.prog) (w := X.w) I1.kIn D.at_ D.lit
  refine ⟨hm1.typeIs, hm1.noDict, ?_⟩
  rw [m.trees]
  refine Calls.callWith_builtin rfl (Calls.evalArgs_plain (Calls.spliced_cons (thn (he.run pins s1 σ H1 _ I1 q1) fun iv s2 ⟨y, H2, I2, ry, q2⟩ =>
    Calls.spliced_cons (thn (hf.run pins s2 σ H2 _ I2 q2) fun fv s3 ⟨z, H3, I3, rz, st, ey, q3⟩ => Calls.spliced_nil ?_))))
  subst ey
  obtain ⟨t, rfl⟩ := (show ∃ t, iv = Value.str st t from ry)
  obtain ⟨r, hr, rr⟩ := look st
  have hm := PySem.W.mapOf_K (prog := X.prog) (w := X.w) I3.kIn D.at_ D.lit
  refine call_meetsIn PySem.F.slot_dict_get hm.typeIs PySem.F.entry_dict_get (PySem.F.args_dict_get_3 _ _ _) (meets_dict_get_default (strKind X.prog X.w) a (strKind_is X.prog X.w st t) D.low fv) ⟨_, hm, ?_⟩
  rw [PySem.W.find_K D.at_ hr]
  exact ⟨_, H3, I3.tok _, rr.getD rz, q3⟩
/-- d[z], there -/
def rKItem (K : PySem.W.Frag) (w : World) : R2 := fun x y H Q => ∃ a kvs s v, x = .ref a ∧ y = .str s ∧ KTab K w a kvs ∧ lookV kvs s = some v ∧ Q v H
theorem ix_ktab : IxR X (rKItem X.K X.w) := by
  intro value slice pins s σ H x y v u Q I rx ry h hs
  obtain ⟨a, kvs, st, v0, ex, ey, ⟨es, n, D, look⟩, hl, q⟩ := h
  obtain ⟨r, hr, rr⟩ := look st
  rw [hl] at rr
  obtain ⟨u0, rfl, ru⟩ := rr.some_of
  exact ix_kdict value slice pins s σ H x y v u Q I rx ry ⟨a, st, v0, ex, ey, ⟨es, n, u0, D.at_, D.lit, hr, ru⟩, q⟩ hs
end
end Nn

set_option autoImplicit false
set_option maxHeartbeats 4000000
namespace Kx
open PySem PySem.Spec PyProof.Rows L2
abbrev reB : List Value := [.type "RuntimeError", .type "Exception", .type "BaseException", .type "object"]
/-- what the written part says of a class over RuntimeError with an __init__ of its own -/
structure RexC (K : PySem.W.Frag) (C : Addr) : Prop where
  ini : PySem.W.excInitIn K C reB "RuntimeError.__new__" = true
  ovr : PySem.W.excOver K C reB = true
  hd : PySem.W.hasDictIn K C = true
  sa : PySem.W.findIn K (.ref C) "__setattr__" = some (some (.builtin "object.__setattr__"))
  exC : PySem.W.subIn K (.ref C) (.type "BaseException") = some true
  tyC : PySem.W.typeIn K (.ref C) = some (.type "type")
  kC : PySem.W.keepIn K (.ref C) = true
section
open Builtin Builtin.ObjectAttr PySem.W
variable {prog : Program} {w : World} {A : Around} {R : Result → Shared → Prop} {hp : Heap} {g : Array GenState} {d : Drawn} {t : Nat} {os : OsState}
/-- the first field of an exception, whatever its built-in base -/
theorem first_field {B : String} {bmB : List Value} (SF : StoreFacts B bmB "object.__setattr__" "object") {K : PySem.W.Frag} {name : Str} {tk : Tok} {v : Value} {x C : Addr} {fv : Array Value} (X : K.In hp) (hx : hp.get? x = some { cls := .ref C, data := .fields fv })
    (ov : PySem.W.excOver K C bmB = true) (hd : PySem.W.hasDictIn K C = true) (ht : PySem.W.takerIn K C name = some none)
    (hq : ∀ h' tk' dx, (∀ b o, b ≠ x → hp.get? b = some o → h'.get? b = some o) → hp.objs.size ≤ dx → dx ≠ x → h'.get? x = some { cls := .ref C, dict := some dx, data := .fields fv } →
      h'.Ns1 dx (fun y => if y = name then some v else none) → R (.ok (.ret .none)) ⟨h', g, d, tk', os⟩) :
    codeAny (model prog w) A (.call (.builtin "object.__setattr__") ⟨[.ref x, .str name tk, v], []⟩) R ⟨hp, g, d, t, os⟩ := by
  have I : PySem.W.InstAt hp x { cls := .ref C, data := .fields fv } C none := ⟨hx, rfl, rfl, trivial⟩
  have hxs : x ≠ hp.objs.size := Nat.ne_of_lt (Heap.lt_size hx)
  refine PySem.W.osa_openX (s := ⟨hp, g, d, t, os⟩) SF X I ov ht fun b => ?_
  obtain ⟨cd, hc, hh⟩ := PySem.W.any_some hd
  have hcls : PySem.W.Looks (model prog w) hp (classData C) cd := PySem.W.looks_clsIn X hc
  obtain ⟨nm, bs, mro, ns, qn, hd1, sn, sb, ab, col, del⟩ := cd
  dsimp only at hh
  subst hh
  unfold storeInOwnDict ownDictForStores
  repeat (first | with_reducible refine PySem.HandSPX.store_in_new ?_ ?_ | with_reducible refine wpAny_loadPart_at hx ?_ | with_reducible refine hcls.at ?_ | wp_step)
  · exact ⟨_, #[], _, (Heap.get?_update_ne _ _ _ _ hxs.symm).trans (Heap.get?_push_at rfl rfl), rfl, fun e he => absurd he (by simp), fun _ => rfl⟩
  · intro h' tk' hn' hs
    have hx₁ : (hp.push { cls := .type "dict", data := .dict #[] }).get? x = some { cls := .ref C, data := .fields fv } := Heap.get?_push_of_some _ hx
    refine hq h' tk' hp.objs.size (fun b o hb ho => ?_) (Nat.le_refl _) hxs.symm ?_ hn'
    · exact (hs.2 b (Nat.ne_of_lt (Heap.lt_size ho))).trans ((Heap.get?_update_ne _ _ _ _ hb).trans (Heap.get?_push_of_some _ ho))
    · exact (hs.2 x hxs).trans (Heap.get?_update_self _ hx₁ rfl)
end
section
variable {X : Cx} {pins : List (Addr × Obj)} {σ : L2.St} {H : Hp} {s : Shared} {a C dx : Addr} {f : Str} {y : V} {u : Value} {Q : Unit → Shared → Prop} {E : Value → Shared → Prop} {A : Around}
theorem osr_new (T : RexC X.K C) (I : Inv X pins σ H s) (e : H a = some (exo a C none)) (hno : PySem.W.takerIn X.K C f = some none) (ry : RelV y u)
    (h : ∀ dx s', H dx = none → dx ≠ a → Inv X pins σ (upd (upd H dx (exd dx [(f, y)])) a (exo a C (some dx))) s' → Q () s') : wpAny (model X.prog X.w) A (setAttr (.ref a) f u) Q E s := by
  obtain ⟨t1, ho⟩ := exo_at I.hok e
  obtain ⟨hp, g, d, t, os⟩ := s
  refine PySem.W.set_plain I.kIn (ox := { cls := .ref C, dict := none, data := .fields #[.ref t1, .none, .none, .none, .bool false, .none] }) (od := none) ⟨ho, rfl, rfl, trivial⟩ T.sa ?_
  refine first_field PySem.F.store_RuntimeError I.kIn ho T.ovr T.hd hno (fun h' tk' dx k dn dne hx hn => ?_)
  have hnd : H dx = none := I.hok.fresh dn
  have nd : ∀ {b : Addr} {o : Obj}, hp.get? b = some o → b ≠ dx := fun {b o} q => Nat.ne_of_lt (Nat.lt_of_lt_of_le (Heap.lt_size q) dn)
  have na : ∀ {b : Addr}, H b = none → b ≠ a := fun {b} n z => by
    rw [z, e] at n
    cases n
  refine h dx _ hnd dne (I.un (t' := tk') {
    keep := fun b o q n _ _ => k b o (na n) q
    slot := fun b o q n _ _ => ⟨o.slots, k b o (na n) q⟩
    free := fun b o q n _ => by rw [upd_ne (na n), upd_ne (nd q)]; exact n
    there := fun b o q _ => by
      by_cases hb : b = a
      · exact ⟨_, by rw [hb]; exact hx⟩
      · exact ⟨o, k b o hb q⟩
    tups := fun b xs q => by rw [upd_ne (at_ne e q exo_tup), upd_ne (ne_of_none q hnd)]; exact q
    frzs := fun b o v q => by rw [upd_ne (at_ne e q exo_frz), upd_ne (ne_of_none q hnd)]; exact q
    tbls := fun b ps q => ⟨#[], by rw [upd_ne (at_ne e q exo_tbl), upd_ne (ne_of_none q hnd), q]; simp⟩ } fun b o q => ?_)
  by_cases hb : b = a
  · subst hb
    rw [upd_same] at q
    cases q
    exact exo_ok hx
  · rw [upd_ne hb] at q
    by_cases hd : b = dx
    · subst hd
      rw [upd_same] at q
      cases q
      exact exd_ok hn (relO_put (fs := []) ry fun g => True.intro)
    · rw [upd_ne hd] at q
      exact (I.hok b o q).stay (fun c v hc z => k c v (by
          rcases hc with hc | hc
          · rw [hc]
            exact hb
          · exact at_ne e hc exo_own) z)
        (fun c hc => by rw [upd_ne (at_ne e hc exo_own), upd_ne (ne_of_none hc hnd)]; exact hc) (fun c xs hc => by rw [upd_ne (at_ne e hc exo_tup), upd_ne (ne_of_none hc hnd)]; exact hc)
end
def tOsr (K : PySem.W.Frag) (f : Str) (to te : TE) : TS := fun D σ H => te σ H fun y H1 => to σ H1 fun x H2 => ∃ a C : Addr, x = .ref a ∧ RexC K C ∧ PySem.W.takerIn K C f = some none ∧
  H2 a = some (exo a C none) ∧ ∀ dx, H2 dx = none → dx ≠ a → D.nx σ (upd (upd H2 dx (exd dx [(f, y)])) a (exo a C (some dx)))
section
variable {X : Cx} {o e : Expr} {es : List Expr} {to te : TE} {ta : TA} {f : Str} {p p' p1 p2 pos : Pos}
/-- self.f = e in the __init__ of such a class -/
theorem ps_osr (ho : PE X o to) (he : PE X e te) (hs : swapsWith e (some (.Attribute o f p')) pos.line X.env = pure false := by rfl) : PS X (.Assign [.Attribute o f p'] e pos) (tOsr X.K f to te) := by
  refine ⟨fun pins s σ H D I h => ?_⟩
  refine plainObj_wpAny_Assign_Attribute (thn (he.run pins s σ H _ I h) fun v s1 ⟨y, H1, I1, r1, q1⟩ => thn (ho.run pins s1 σ H1 _ I1 q1) fun u s2 ⟨x, H2, I2, r2, a, C, ex, T, hno, ea, q⟩ => ?_) hs
  subst ex
  obtain rfl : u = Value.ref a := r2
  exact osr_new T I2 ea hno r1 fun dx s' n ne J => ⟨σ, _, J, q dx n ne⟩
/-- such a class, called -/
theorem pmk_rex {CX : CXT} {x : Str} {C fI : Addr} {k : Nat} {fd : FuncData} {ps : List Str} {sp : Sp} {ds : List Value} {dvs : List V} (T : RexC X.K C) (iC : PySem.W.findIn X.K (.ref C) "__init__" = some (some (.ref fI))) (tI : PySem.W.typeIn X.K (.ref fI) = some (.type "function"))
    (F1 : FnOk X.prog X.w X.K X.mg X.base CX k fI fd ps sp) (hr : Room (k + 1) X.A) (hb : Binds X.K fd ps ds) (hd : Vals dvs ds) (hx : Passes CX X (fun _ _ _ => False)) (hg : Gl X x) (hm : X.mg x = some (.ref C)) (ha : PA X (e :: es) ta)
    (hdb : (x == ("__debug__" : Str)) = false := by decide) (he : starEach (e :: es) X.env = (false, eval e X.env) :: starEach es X.env := by rfl) (hpl : (backTo pos (starEach es X.env)).any (·.1) = false := by rfl) :
    PMk X (.Call (.Name x p) (e :: es) [] pos) (tMkO C sp dvs ta) := by
  intro pins s σ H Q I h
  refine wpAny_Call_Name_kw (ld_glob I hg hm ?_ hdb)
  refine PySem.W.callWith_K (h₀ := X.base) I.ok.mod.kin T.kC (thn (ha.run pos pins s σ H _ I h) fun us s1 ⟨vs, H1, I1, r1, hz, q1⟩ => ⟨I1.kIn, ?_⟩) he hpl
  show wpAny _ _ (call (.ref C) us) _ _ _
  obtain ⟨hp, g, dr, tk, os⟩ := s1
  obtain ⟨nm, N, qn, bs, bm, hdct, sn, sub, ab, col, dd, k0, k1, k2, k3, k5, hC, hT⟩ := PySem.W.excInit_of I1.kIn T.ini
  have hsz : hp.objs.size ≤ hp.objs.size + 1 := Nat.le_succ _
  have hn : H1 (hp.objs.size + 1) = none := I1.hok.fresh hsz
  have hq := q1 (hp.objs.size + 1) hn
  have kk : ∀ b o, hp.get? b = some o → ((hp.push (PySem.W.kdv_tup us)).push (PySem.HandSPX.excO C hp.objs.size)).get? b = some o := fun b o e => Heap.get?_push_of_some _ (Heap.get?_push_of_some _ e)
  have hget : ((hp.push (PySem.W.kdv_tup us)).push (PySem.HandSPX.excO C hp.objs.size)).get? (hp.objs.size + 1) = some (PySem.HandSPX.excO C hp.objs.size) := by heap_get
  have I2 : Inv X pins σ (upd H1 (hp.objs.size + 1) (exo (hp.objs.size + 1) C none)) ⟨(hp.push (PySem.W.kdv_tup us)).push (PySem.HandSPX.excO C hp.objs.size), g, dr, tk, os⟩ :=
    I1.laid (t' := tk) (a := hp.objs.size + 1) (o := exo (hp.objs.size + 1) C none) (h' := (hp.push (PySem.W.kdv_tup us)).push (PySem.HandSPX.excO C hp.objs.size)) kk hsz (exo_ok hget)
  have r2 : Vals (V.ref (hp.objs.size + 1) :: (vs ++ dvs)) (Value.ref (hp.objs.size + 1) :: (us ++ ds)) := .cons rfl (r1.append hd)
  have hl : (Value.ref (hp.objs.size + 1) :: us ++ ds).length = ps.length := by
    have e := r2.length
    rw [F1.len _ _ _ _ hq] at e
    exact e.symm
  have hus : us.length ≤ sizeLine := by
    rw [← Paired.length r1, sizeLine_eq]
    omega
  refine wpAny_call (PySem.HandSPX.call_own F.excBase_RuntimeError hT hC (PySem.W.looks_findIn I1.kIn iC) (fun self => PySem.W.bind_fn I1.kIn self tI) hus
    (codeAny_mono (F1.run _ X.stack _ _ ⟨Value.ref (hp.objs.size + 1) :: us, []⟩ (Value.ref (hp.objs.size + 1) :: (us ++ ds)) _ _ (fun _ _ _ => False) (hr.make C us []) (I2.env0.make C us []) (hb _ (Value.ref (hp.objs.size + 1) :: us) I2.kIn hl) r2 hq) fun r s' hq' => ?_))
  cases r with
  | error er => exact hx pins σ _ _ er s' I2 hq'
  | ok fl =>
    cases fl with
    | ret u =>
      obtain ⟨v, H2, os2, bare2, un2, hok2, rv, ev, d, fs, ea, ed, hd1, q2⟩ := hq'
      subst ev
      obtain ⟨h2, g2, d2, t2, os'⟩ := s'
      exact ⟨rv, mk_end (raises_own T.exC T.tyC) I1 hsz kk un2 hok2 os2 bare2 ea ed hd1 q2⟩
    | next => exact False.elim hq'
    | brk => exact False.elim hq'
    | cont => exact False.elim hq'
end
/-! ### a caught exception, kept behind its handler -/
def Exh (cls : Value) (d : Option Addr) (a : Addr) : HO := .ext fun h => ∃ (oe : Obj) (vs : Array Value), h.get? a = some oe ∧ Zc cls d oe ∧ oe.data = .fields vs
theorem exh_ok {P : Program} {w : World} {H : Hp} {h : Heap} {a : Addr} {cls : Value} {d : Option Addr} {oe : Obj} {vs : Array Value} (e : h.get? a = some oe) (z : Zc cls d oe) (dd : oe.data = .fields vs) : ObjOk P w H h a (Exh cls d a) :=
  ⟨⟨oe, vs, e, z, dd⟩, ⟨oe, e⟩, fun _ _ ⟨o, v, q, r⟩ k => ⟨o, v, k o q, r⟩⟩
theorem exh_at {P : Program} {w : World} {H : Hp} {h : Heap} {a : Addr} {cls : Value} {d : Option Addr} (hok : HOk P w H h) (e : H a = some (Exh cls d a)) : ∃ (oe : Obj) (vs : Array Value), h.get? a = some oe ∧ Zc cls d oe ∧ oe.data = .fields vs := by
  have x : ObjOk P w H h a (Exh cls d a) := hok a _ e
  exact x.1
section
variable {X : Cx} {pins : List (Addr × Obj)} {σ : L2.St} {H : Hp} {s : Shared}
theorem Inv.track (I : L2.Inv X pins σ H s) {a : Addr} {cls : Value} {d : Option Addr} {oe : Obj} {vs : Array Value} (na : H a = none) (n0 : X.s_0.heap.get? a = none) (he : s.heap.get? a = some oe) (hz : Zc cls d oe) (hd : oe.data = .fields vs)
    (nL : a ≠ X.env.locals) (np : ∀ p ∈ X.pn ++ pins, p.1 ≠ a) : L2.Inv X pins σ (upd H a (Exh cls d a)) s := by
  have U := I.base
  refine ⟨I.ok, I.os, I.bare, ⟨U.keep, U.slot, fun b o q n hx => ?_, U.there, fun b xs q => ?_, fun b o v q => ?_, fun b ps q => ?_⟩, I.loc, I.cell, ?_, fun x c e => ?_, fun p hp => ?_, HOk.laidN I.hok (fun _ _ e => e) na (exh_ok he hz hd), I.len⟩
  · rw [upd_ne (fun z => by rw [z, n0] at q; cases q)]
    exact U.free b o q n hx
  · have z := U.tups b xs q
    rw [upd_ne (ne_of_none z na)]
    exact z
  · have z := U.frzs b o v q
    rw [upd_ne (ne_of_none z na)]
    exact z
  · obtain ⟨m, z⟩ := U.tbls b ps q
    exact ⟨m, by rw [upd_ne (ne_of_none z na)]; exact z⟩
  · rw [upd_ne (Ne.symm nL)]
    exact I.free
  · have nc : c ≠ a := fun z => by
      obtain ⟨v, o, ho, hc⟩ := I.cell x c e
      rw [z, he] at ho
      cases ho
      rw [hd] at hc
      cases hc
    rw [upd_ne nc]
    exact I.freeC x c e
  · obtain ⟨e1, n1, n2, n3, n4⟩ := I.pin p hp
    exact ⟨e1, by rw [upd_ne (np p hp)]; exact n1, n2, n3, n4⟩
end
/-- as wAs, but what was caught stays told of behind the suite -/
def wKeep (K : PySem.W.Frag) (c : Value) (i : Nat) (ts : Addr → Value → Option Addr → TS) (Wout : WX) (D : Ends) : WX := fun cls d σ H =>
  ∃ b, PySem.W.exmOne K cls c = some b ∧ (b = true → ∀ a, H a = none → ts a cls d { nx := fun σ' H' => D.nx (σ'.set i none) (upd H' a (Exh cls d a)), rt := D.rt, bk := fun σ' H' => D.bk (σ'.set i none) H', ct := fun σ' H' => D.ct (σ'.set i none) H' } (σ.set i (some (.ref a))) H) ∧
    (b = false → Wout cls d σ H)
section
variable {X : Cx} {x n : Str} {c : Value} {i : Nat} {body suite : List Stmt} {b₀ : Stmt} {np pos pos' : Pos} {tb : WX → TS} {ts : Addr → Value → Option Addr → TS} {Wout : WX}
theorem ps_try_keep (hs : X.stack = X.env :: X.outer) (hf : X.env.frame = some X.env.locals) (hex : X.ex = []) (hN : X.N.Nodup) (hi : X.N[i]? = some n) (hln : X.env.kindOf n = some .local) (hc : Names X x c) (tk : Takes X Wout)
    (hb : ∀ (W : WX) (pn : List (Addr × Obj)) (xe : Value → Shared → Prop), Takes (X.tr pn xe) W → PassesOwn (model X.prog X.w) X.A X.env xe → PSs (X.tr pn xe) body (tb W))
    (hsu : ∀ (a : Addr) (oe : Obj) (cls : Value) (d : Option Addr) (pn : List (Addr × Obj)), Zc cls d oe → (∃ vs, oe.data = .fields vs) → PSs (X.suite a ((a, oe) :: pn)) (b₀ :: suite) (ts a cls d)) :
    PS X (.Try body [.ExceptHandler (some (.Name x np)) (some n) (b₀ :: suite) pos'] [] [] pos) (fun D σ H => tb (wKeep X.K c i ts Wout D) D σ H) := by
  refine ⟨fun pins s σ H D I h => ?_⟩
  have ok := I.ok
  have hfr : X.A.frames = some (X.env :: X.outer) := by rw [ok.frames, hs]
  have hloc : Loc X.env.scope n := .inl hln
  refine wpAny_Try_except ?_
  refine wpAny_mono ((hb (wKeep X.K c i ts Wout D) (X.pn ++ pins) (fun e s₁ => wpAny (model X.prog X.w) X.A (noteFrame e X.env) (fun _ s₂ => wpAny (model X.prog X.w) X.A (setFlight e none) (fun _ s₃ =>
    wpAny (model X.prog X.w) X.A (handleBy e X.env [.ExceptHandler (some (.Name x np)) (some n) (b₀ :: suite) pos']) (SP X pins D) X.xe s₃) X.xe s₂) X.xe s₁) (fun u s' xx => ?_) PassesOwn.looking).run [] s σ H D (I.toTry _) h) (fun f s1 hsp => ?_) (fun e s1 he => he)
  · obtain ⟨a, B, sI, pins', σ', H', cls, d, rfl, J', nb, up, sky, na, os, ag, b, hb1, hyes, hno⟩ := xx
    have J : L2.Inv X pins σ' H' sI := J'.ofTry ok
    have sky' : Sky B (X.env :: X.outer) a (Zc cls d) X.env.locals s'.heap := by rw [← hs]; exact sky
    show wpAny (model X.prog X.w) X.A (noteFrame (.ref a) X.env) _ _ _
    refine Sky.land Zc.steady hfr hf sky' fun h3 fl3 up3 => ?_
    have J3 : L2.Inv X pins σ' H' { s' with heap := h3 } := J.landed nb fl3.1 (up.trans up3) os ag
    obtain ⟨oe3, vs3, he3, hz3, hd3⟩ := fl3.there
    have nfr : a ∉ frs (X.env :: X.outer) := fun hm => by
      obtain ⟨_, o', e', hnf⟩ := fl3.2.2.1.mem hm
      rw [he3] at e'; cases e'
      exact hnf _ hd3
    have nI : sI.heap.get? a = none := by
      cases q : sI.heap.get? a with
      | none => rfl
      | some o =>
        have z := nb a o q (by rw [hs]; exact nfr)
        rw [fl3.2.1] at z
        cases z
    have n0 : X.s_0.heap.get? a = none := by
      cases q : X.s_0.heap.get? a with
      | none => rfl
      | some o =>
        obtain ⟨o', z⟩ := J.base.there a o q (by rw [hex]; exact fun z => nomatch z)
        rw [nI] at z
        cases z
    have nP : ∀ p ∈ X.pn ++ pins, p.1 ≠ a := fun p hp z => by
      obtain ⟨e1, _⟩ := J.pin p hp
      rw [z, nI] at e1
      cases e1
    have nL : a ≠ X.env.locals := fun z => nfr (List.mem_filterMap.mpr ⟨X.env, List.mem_cons_self, by rw [hf, z]⟩)
    have nF : a ∉ X.fs := fun hm => by
      obtain ⟨e, he, q⟩ := List.mem_filterMap.mp hm
      exact nfr (List.mem_filterMap.mpr ⟨e, List.mem_cons_of_mem _ he, q⟩)
    have S3 := J3.suite he3 hd3 na nL nF
    refine wpAny_handleBy_cons (codeAny_handlers_test ?_) (by intro q; cases q)
    have LT : PySem.W.Looks (model X.prog X.w) h3 (typeOf (.ref a)) cls := fun A Q E s k q => wpAny_typeOf_ref (k _ _ he3) (by rw [hz3.1]; exact q)
    have LM := PySem.W.exm_one (M := model X.prog X.w) (J3.kIn) LT hb1
    have test : ∀ {Q : Value → Shared → Prop} {E : Value → Shared → Prop}, Q c { s' with heap := h3 } → wpAny (model X.prog X.w) (X.A.mark (some (.ref a))) (eval (.Name x np) X.env) Q E { s' with heap := h3 } := fun {Q E} q => by
      obtain ⟨hg, hdbg, hm | ⟨hm, hv, hnn⟩⟩ := hc
      · exact ld_glob (X := X.suite a ((a, oe3) :: (X.pn ++ pins))) S3 hg hm q hdbg
      · exact ld_blt (X := X.suite a ((a, oe3) :: (X.pn ++ pins))) S3 hg hm hv q hnn hdbg
    refine test (LM.here ?_)
    cases b with
    | true =>
      refine codeAny_handlers_suite_as ?_
      refine HandSPX.lands_againZ fl3 fun h4 fl4 up4 => ?_
      have J4 : L2.Inv X pins σ' H' { s' with heap := h4 } := J.landed nb fl4.1 ((up.trans up3).trans up4) os ag
      obtain ⟨oe4, vs4, he4, hz4, hd4⟩ := fl4.there
      have S4 := J4.suite he4 hd4 na nL nF
      refine store_ok (X := X.suite a ((a, oe4) :: (X.pn ++ pins))) (v := .ref a) S4 hN hi hloc rfl (fun s5 S5 => ?_) (.inr hln)
      refine wpAny_mono ((hsu a oe4 cls d (X.pn ++ pins) hz4 ⟨_, hd4⟩).run [] s5 _ H' _ S5 (hyes rfl a na)) (fun f s6 hsp => ?_) (fun _ _ z => False.elim z)
      have end_ : ∀ {σ6 : L2.St} {H6 : Hp} {Q : Shared → Prop}, L2.Inv (X.suite a ((a, oe4) :: (X.pn ++ pins))) [] σ6 H6 s6 → (∀ s7, L2.Inv X pins (σ6.set i none) H6 s7 → Q s7) →
          wpAny (model X.prog X.w) X.A (do bindName X.env n .none; unbindBehindTheSuite X.env n pos') (fun _ s7 => Q s7) X.xe s6 := fun {σ6 H6 Q} S6 hq => gone_ok (S6.unsuite ok) hN hi hln hq
      cases f with
      | next =>
        obtain ⟨σ6, H6, S6, q6⟩ := hsp
        obtain ⟨p1, p2, _⟩ := S6.pin (a, oe4) (List.mem_append_left _ List.mem_cons_self)
        have T6 : L2.Inv X pins σ6 (upd H6 a (Exh cls d a)) s6 := Inv.track (S6.unsuite ok) p2 n0 p1 hz4 hd4 nL nP
        exact gone_ok T6 hN hi hln fun s7 J7 => ⟨_, _, J7, q6⟩
      | brk =>
        obtain ⟨σ6, H6, S6, q6⟩ := hsp
        exact end_ S6 fun s7 J7 => ⟨_, _, J7, q6⟩
      | cont =>
        obtain ⟨σ6, H6, S6, q6⟩ := hsp
        exact end_ S6 fun s7 J7 => ⟨_, _, J7, q6⟩
      | ret u =>
        obtain ⟨v6, σ6, H6, S6, r6, q6⟩ := hsp
        exact end_ S6 fun s7 J7 => ⟨_, _, _, J7, r6, q6⟩
    | false =>
      show wpAny _ X.A (handleBy (.ref a) X.env []) _ _ _
      refine wpAny_handleBy_nil ?_
      obtain ⟨k1, k2, k3, oe, vs, T, oT, ts', he, hz, hd, h1, hr⟩ := id fl3
      unfold PySem.passOn
      refine wpAny_bind (wpAny_field he hd h1 ?_)
      rw [if_neg (show ¬ ((Value.ref T == Value.none) = true) from by simp)]
      have fin : wpAny (model X.prog X.w) X.A (setFlight (.ref a) X.env.frame) (fun _ s4 => wpAny (model X.prog X.w) X.A (throw (.ref a) : Sem Flow) (SP X pins D) X.xe s4) X.xe { s' with heap := h3 } := by
        rw [hf]
        refine HandSPX.setFlight_upZ fl3 fun h4 hh4 up4 => wpAny_throw (tk _ _ ?_)
        exact ⟨a, B, sI, pins, σ', H', cls, d, rfl, J, nb, (up.trans up3).trans up4, .inr (.inr (by rw [hs]; exact hh4)), na, os, ag, hno rfl⟩
      first
        | exact wpAny_bind (wpAny_pure (wpAny_bind fin))
        | exact wpAny_bind fin
  · cases f with
    | next =>
      obtain ⟨σ', H', J', q⟩ := hsp
      exact wpAny_execs_nil ⟨σ', H', J'.ofTry ok, q⟩
    | brk =>
      obtain ⟨σ', H', J', q⟩ := hsp
      exact ⟨σ', H', J'.ofTry ok, q⟩
    | cont =>
      obtain ⟨σ', H', J', q⟩ := hsp
      exact ⟨σ', H', J'.ofTry ok, q⟩
    | ret u =>
      obtain ⟨v, σ', H', J', r, q⟩ := hsp
      exact ⟨v, σ', H', J'.ofTry ok, r, q⟩
end
/-- e.f, e a kept exception of an own class -/
def tXh (K : PySem.W.Frag) (f : Str) (te : TE) : TE := fun σ H Q => te σ H fun x H1 => ∃ (a C dd : Addr) (fs : List (Str × V)) (v : V), x = .ref a ∧ H1 a = some (Exh (.ref C) (some dd) a) ∧ XfC K C ∧ PySem.W.findIn K (.ref C) f = some none ∧ H1 dd = some (.xd fs) ∧ fs.lookup f = some v ∧ Q v H1
/-- isinstance(e, c), e a kept exception of an own class -/
def rIsH (K : PySem.W.Frag) : List V → Hp → VK → Prop := fun xs H Q => ∃ (a D dd : Addr) (fs : List (Str × V)) (c : V) (cv : Value) (b : Bool), xs = [.ref a, c] ∧ H a = some (Exh (.ref D) (some dd) a) ∧ H dd = some (.xd fs) ∧ ExcC K D ∧ (PySem.W.clsIn K D).isSome = true ∧ (∀ u, RelV c u → u = cv) ∧ PySem.W.kitOne K (.ref D) cv = some b ∧ Q (.bl b) H
section
variable {X : Cx}
theorem pe_xh {e : Expr} {te : TE} {pos : Pos} {n : Str} (he : PE X e te) (hb : attributeBase e n X.env (eval e X.env) = eval e X.env := by rfl) : PE X (.Attribute e n pos) (tXh X.K n te) := by
  refine ⟨fun pins s σ H Q I h => ?_⟩
  refine attr_of hb (thn (he.run pins s σ H _ I h) fun u s1 hh => ?_)
  obtain ⟨x, H1, I1, rx, a, C, dd, fs, v, ex, eh, T, hno, ea, l, q⟩ := hh
  subst ex
  obtain rfl : u = Value.ref a := rx
  obtain ⟨oe, vs, ha, hz, hd⟩ := exh_at I1.hok eh
  have hx : ObjOk X.prog X.w H1 s1.heap dd (.xd fs) := I1.hok dd _ ea
  obtain ⟨mA, hns, hr⟩ := hx
  obtain ⟨od, ho, hl⟩ := lookIn_ns hns
  obtain ⟨u, hu, ru⟩ := RelO.some_of (v := v) (o := mA n) (by rw [← l]; exact hr n)
  have J : PySem.W.InstAt s1.heap a oe C (some od) := ⟨ha, hz.1, by unfold PySem.W.notCls; rw [hd] <;> rfl, by rw [hz.2]; exact ho⟩
  exact HandSPX.exc_get I1.kIn J T.ga T.gg T.exC (PySem.W.findObj_own T.hdC hno rfl (by rw [hl, hu])) (handed_of ru) ⟨v, H1, I1.tok _, ru, q⟩
theorem call_isH : CallR X (.builtin "isinstance") (rIsH X.K) := by
  intro pins s σ H xs us Q I r h
  obtain ⟨a, D, dd, fs, c, cv, b, rfl, eh, ed, C, cl, hcv, e, q⟩ := h
  cases r with
  | cons rx rr =>
    cases rr with
    | cons rt rr =>
      cases rr
      cases rx
      have ec := hcv _ rt
      subst ec
      obtain ⟨oe, vs, ha, hz, hd⟩ := exh_at I.hok eh
      have hx : ObjOk X.prog X.w H s.heap dd (.xd fs) := I.hok dd _ ed
      obtain ⟨mA, hns, hr⟩ := hx
      obtain ⟨od, ho, hl⟩ := lookIn_ns hns
      have J : PySem.W.InstAt s.heap a oe D (some od) := ⟨ha, hz.1, by unfold PySem.W.notCls; rw [hd] <;> rfl, by rw [hz.2]; exact ho⟩
      exact PySem.W.kia_one (PySem.W.kitx_exc cl C.hg C.hk C.hs C.ha C.hn C.ht C.hm) I.kIn J e (fun z => nomatch z) fun tk => ⟨.bl b, H, I.kept (t' := tk) fun _ _ z => z, rfl, q⟩
end
end Kx

set_option autoImplicit false
set_option maxHeartbeats 2000000
/-! what a caller has of a def; slices and sums of several kinds of things -/
namespace Cc
open PySem PySem.Spec PyProof.Rows L2
structure Cl (P : Program) (w : World) (K : PySem.W.Frag) (mg : Str → Option Value) (base : Heap) (CX : CXT) (x : Str) (k : Nat) (ps : List Str) (sp : Sp) (f : Addr) (fd : FuncData) : Prop where
  ok : FnOk P w K mg base CX k f fd ps sp
  m : mg x = some (.ref f)
  kp : PySem.W.keepIn K (.ref f) = true
  b : Binds K fd ps []
/-- a tuple (t) or a list of xs -/
def Sq (t : Bool) (K : PySem.W.Frag) (H : Hp) (a : Addr) (xs : List V) : Prop := if t = true then SqT K H a xs else SqL K H a xs
theorem Sq.same {t : Bool} {K : PySem.W.Frag} {H H1 : Hp} {a : Addr} {xs : List V} (h : Sq t K H a xs) (s : Same H H1) : Sq t K H1 a xs := by
  cases t with
  | false => exact s.seq h
  | true =>
    rcases (show SqT K H a xs from h) with (h | ⟨o, h⟩) | h
    · exact (show SqT K H1 a xs from .inl (.inl (s _ _ h)))
    · exact (show SqT K H1 a xs from .inl (.inr ⟨o, s _ _ h⟩))
    · exact (show SqT K H1 a xs from .inr h)
/-- .., a list that stands by itself -/
def SqM (t : Bool) (K : PySem.W.Frag) (H : Hp) (a : Addr) (xs : List V) : Prop := if t = true then SqT K H a xs else H a = some (.lst xs)
theorem SqM.sq {t : Bool} {K : PySem.W.Frag} {H : Hp} {a : Addr} {xs : List V} (h : SqM t K H a xs) : Sq t K H a xs := by
  cases t with
  | false => exact (show SqL K H a xs from SqL.of h)
  | true => exact h
theorem SqM.same {t : Bool} {K : PySem.W.Frag} {H H1 : Hp} {a : Addr} {xs : List V} (h : SqM t K H a xs) (s : Same H H1) : SqM t K H1 a xs := by
  cases t with
  | false => exact s _ _ h
  | true => exact Sq.same (t := true) h s
theorem newS {H : Hp} {p : Addr} {o : HO} (h : H p = none) : Same H (upd H p o) := fun b x e => by
  rw [upd_ne (ne_of_none e h)]
  exact e
section
variable {X : Cx}
/-- a list or a tuple cut -/
def rSlB (K : PySem.W.Frag) : V → Option Int → Option Int → Hp → VK → Prop := fun x lo hi H Q => ∃ t a xs, x = .ref a ∧ Sq t K H a xs ∧ ∀ p H', Same H H' → SqM t K H' p (cutV xs lo hi) → Q (.ref p) H'
theorem whole_cut {xs : List V} {lo hi : Option Int} (h : HT.sIx xs.length 0 lo = 0 ∧ HT.sIx xs.length xs.length hi = xs.length) : cutV xs lo hi = xs := by
  unfold cutV
  rw [h.1, h.2, List.drop_zero, Nat.sub_zero, List.take_length]
theorem sl_B : SlR X (rSlB X.K) := by
  intro pins s σ H x v vl vu lo hi sl Q I rx hs pl pu h
  obtain ⟨t, a, xs, rfl, hx, q⟩ := h
  cases t with
  | false => exact sl_list pins s σ H _ v vl vu lo hi sl Q I rx hs pl pu ⟨a, xs, rfl, hx, fun p np => q p _ (newS np) (show _ = _ from upd_same)⟩
  | true => exact sl_tupA pins s σ H _ v vl vu lo hi sl Q I rx hs pl pu ⟨a, xs, rfl, hx, fun w => q a H (Same.refl H) (show SqT _ _ _ _ from by rw [whole_cut w]; exact hx), fun _ p np => q p _ (newS np) (show SqT _ _ _ _ from SqT.of upd_same)⟩
/-- a text, a list, a tuple cut -/
def rSlAny (K : PySem.W.Frag) : V → Option Int → Option Int → Hp → VK → Prop := fun x lo hi H Q => rSlS x lo hi H Q ∨ rSlB K x lo hi H Q
theorem sl_any : SlR X (rSlAny X.K) := sl_str.or sl_B
/-- two lists, or two tuples, put together -/
def rCatB (K : PySem.W.Frag) : R2 := fun x y H Q => ∃ t a b xs ys, x = .ref a ∧ y = .ref b ∧ SqM t K H a xs ∧ SqM t K H b ys ∧ xs.length + ys.length ≤ sizeLine ∧ ∀ p H', Same H H' → SqM t K H' p (xs ++ ys) → Q (.ref p) H'
theorem op_catB : OpR X (binaryOp .Add) (rCatB X.K) := by
  intro pins s σ H x y v u Q I rx ry h
  obtain ⟨t, a, b, xs, ys, rfl, rfl, ha, hb, hz, q⟩ := h
  cases t with
  | false => exact op_cat pins s σ H _ _ v u Q I rx ry ⟨a, b, xs, ys, rfl, rfl, ha, hb, hz, fun p np => q p _ (newS np) (show _ = _ from upd_same)⟩
  | true => exact op_catA pins s σ H _ _ v u Q I rx ry ⟨a, b, xs, ys, rfl, rfl, ha, hb, hz, fun e => q b H (Same.refl H) (show SqT _ _ _ _ from by rw [e]; exact hb),
      fun _ e => q a H (Same.refl H) (show SqT _ _ _ _ from by rw [e, List.append_nil]; exact ha), fun _ _ p np => q p _ (newS np) (show SqT _ _ _ _ from SqT.of upd_same)⟩
/-- two texts, or two lists, or two tuples -/
theorem op_addAny : OpR X (binaryOp .Add) (fun x y H Q => (∃ i j : Str, x = .str i ∧ y = .str j ∧ i.length + j.length ≤ sizeLine ∧ Q (.str (i ++ j)) H) ∨ rCatB X.K x y H Q) := by
  intro pins s σ H x y v u Q I rx ry h
  rcases h with h | h
  · exact op_add_str pins s σ H x y v u Q I rx ry h
  · exact op_catB pins s σ H x y v u Q I rx ry h
/-- an item of a list or a tuple -/
def rIxB (K : PySem.W.Frag) : R2 := fun x y H Q => ∃ t a xs i v, x = .ref a ∧ y = .int i ∧ Sq t K H a xs ∧ atI xs i = some v ∧ Q v H
theorem ix_B : IxR X (rIxB X.K) := by
  intro value slice pins s σ H x y v u Q I rx ry h hs
  obtain ⟨t, a, xs, i, z, rfl, rfl, ha, hz, q⟩ := h
  cases t with
  | false => exact ix_list value slice pins s σ H _ _ v u Q I rx ry ⟨a, xs, i, z, rfl, rfl, ha, hz, q⟩ hs
  | true => exact ix_tup value slice pins s σ H _ _ v u Q I rx ry ⟨a, xs, i, z, rfl, rfl, ha, hz, q⟩ hs
/-! the same within a comprehension, where K is to be told -/
section
variable {K : PySem.W.Frag}
theorem ix_Bk (h : X.K = K) : IxR X (rIxB K) := by
  rw [← h]
  exact ix_B
theorem ix_listk (h : X.K = K) : IxR X (rIxL K) := by
  rw [← h]
  exact ix_list
theorem ix_tupk (h : X.K = K) : IxR X (rIxT K) := by
  rw [← h]
  exact ix_tup
theorem isik (h : X.K = K) : CallR X (.builtin "isinstance") (rIsi K) := by
  rw [← h]
  exact call_isi
end
end
end Cc

set_option autoImplicit false
set_option maxHeartbeats 2000000
/-! lists by a comprehension, without a test -/
namespace Cc
open PySem PySem.Spec PyProof.Rows L2
/-- one more into the list at D, that has i already -/
abbrev Push (D : Addr) (i : Nat) (Iv : Nat → List V → Hp → Prop) (y : V) (H : Hp) : Prop :=
  ∃ acc, H D = some (.lst acc) ∧ acc.length < sizeLine ∧ ∃ a2, a2.length = i + 1 ∧ Iv (i + 1) a2 (upd H D (.lst (acc ++ [y]))) ∧ upd H D (.lst (acc ++ [y])) D = some (.lst a2)
theorem push {D : Addr} {i : Nat} {Iv : Nat → List V → Hp → Prop} {y : V} {H : Hp} {acc : List V} (hD : H D = some (.lst acc)) (la : acc.length = i) (few : i < 1000000) (iv : Iv (i + 1) (acc ++ [y]) (upd H D (.lst (acc ++ [y])))) : Push D i Iv y H :=
  ⟨acc, hD, by rw [la, show sizeLine = 16777216 from by decide]; omega, acc ++ [y], by rw [List.length_append, la]; rfl, iv, upd_same⟩
section
variable {J : It} {n : Nat} {G : Hp → Prop} {Y : Nat → Hp → V → Hp → Prop} {g : TG} {te : TE} {vs : List Nat} {σ : L2.St} {H1 : Hp} {D : Addr} {Qd : Hp → Prop}
/-- by the turn, what is in the new list, and the heap -/
theorem lc_acc (w : Walk J n G Y) (Iv : Nat → List V → Hp → Prop) (h0 : Iv 0 [] (upd H1 D (.lst []))) (hG : ∀ i acc H, i ≤ n → Iv i acc H → H D = some (.lst acc) → G H)
    (hs : ∀ i x acc H H', i < n → acc.length = i → Iv i acc H → H D = some (.lst acc) → Y i H x H' → g x (wipe σ vs) H' fun σ2 H2 => wipe σ2 vs = wipe σ vs ∧ te σ2 H2 fun y H4 => Push D i Iv y H4)
    (hd : ∀ acc H, acc.length = n → Iv n acc H → H D = some (.lst acc) → Qd H) :
    ∃ W : Nat → Nat → Hp → Prop, (∃ m, W 0 m (upd H1 D (.lst []))) ∧ ∀ i m H, W i m H →
      (J.stop i H ∧ Qd H) ∨ (J.go i H ∧ ∃ Nx : Hp → Prop, (∀ H', Nx H' → ∃ m', m' < m ∧ W (i + 1) m' H') ∧ ∀ x H', J.yld i H x H' → g x (wipe σ vs) H' fun σ2 H2 => wipe σ2 vs = wipe σ vs ∧ tYes σ2 H2 fun b H3 =>
        if b = true then te σ2 H3 fun y H4 => ∃ acc, H4 D = some (.lst acc) ∧ acc.length < sizeLine ∧ Nx (upd H4 D (.lst (acc ++ [y]))) else Nx H3) := by
  refine ⟨fun i m H => m = n - i ∧ i ≤ n ∧ ∃ acc, acc.length = i ∧ Iv i acc H ∧ H D = some (.lst acc), ⟨n, by simp, Nat.zero_le _, [], rfl, h0, upd_same⟩, ?_⟩
  rintro i m H ⟨rfl, hi, acc, la, iv, hD⟩
  have q := hG i acc H hi iv hD
  by_cases lt : i < n
  · exact .inr ⟨w.goes i H lt q, fun H' => ∃ acc, acc.length = i + 1 ∧ Iv (i + 1) acc H' ∧ H' D = some (.lst acc), fun H' ⟨a2, l2, v2, d2⟩ => ⟨n - (i + 1), by omega, rfl, lt, a2, l2, v2, d2⟩, fun x H' y => hs i x acc H H' lt la iv hD (w.yields i H x H' lt q y)⟩
  · have e : i = n := by omega
    subst e
    exact .inl ⟨w.stops H q, hd acc H la iv hD⟩
end
/-- all that stood there but what is at D stands -/
def But (D : Addr) (H H' : Hp) : Prop := ∀ b o, b ≠ D → H b = some o → H' b = some o
theorem But.upd {D : Addr} {H H' : Hp} {o : HO} (h : But D H H') : But D H (upd H' D o) := fun b x n e => by
  rw [upd_ne n]
  exact h b x n e
theorem But.same {D : Addr} {H H' H2 : Hp} (h : But D H H') (s : Same H' H2) : But D H H2 := fun b x n e => s b x (h b x n e)
theorem But.new {D : Addr} {H H' : Hp} (h : But D H H') (n : H D = none) : Same H H' := fun b x e => h b x (ne_of_none e n) e
theorem But.refl {D : Addr} {H : Hp} : But D H H := fun _ _ _ e => e
end Cc

set_option autoImplicit false
set_option maxHeartbeats 4000000
/-! sets of texts, some perhaps told several times: how many they have -/
namespace Ys
open PySem PySem.Spec PyProof.Rows L2
/-- how many unlike ones are among the first i -/
def cnt (xs : List Str) : Nat → Nat
  | 0 => 0
  | i + 1 => if (xs.take i).any (· == xs.getD i Str.empty) = true then cnt xs i else cnt xs i + 1
theorem cnt_le (xs : List Str) : ∀ i, cnt xs i ≤ i
  | 0 => Nat.le_refl _
  | i + 1 => by
    have := cnt_le xs i
    unfold cnt
    split <;> omega
theorem any_mem {xs : List Str} {x : Str} : xs.any (· == x) = true ↔ x ∈ xs := by
  rw [List.any_eq_true]
  exact ⟨fun ⟨y, h, e⟩ => by rw [← eq_of_beq e]; exact h, fun h => ⟨x, h, beq_self_eq_true x⟩⟩
theorem take_snoc {xs : List Str} {i : Nat} (h : i < xs.length) : xs.take (i + 1) = xs.take i ++ [xs.getD i Str.empty] := by
  rw [List.take_succ_eq_append_getElem h, List.getD_eq_getElem?_getD, List.getElem?_eq_getElem h]
  rfl
/-- as many as there are just where no one is told twice -/
theorem cnt_nodup (xs : List Str) : ∀ i, i ≤ xs.length → (cnt xs i = i ↔ (xs.take i).Nodup)
  | 0, _ => by simp [cnt]
  | i + 1, h => by
    have ih := cnt_nodup xs i (by omega)
    have le := cnt_le xs i
    rw [take_snoc (by omega)]
    unfold cnt
    by_cases c : (xs.take i).any (· == xs.getD i Str.empty) = true
    · rw [if_pos c]
      have hm := any_mem.mp c
      refine ⟨fun e => by omega, fun n => ?_⟩
      rw [List.nodup_append] at n
      exact absurd rfl (n.2.2 _ hm _ (List.mem_singleton.mpr rfl))
    · rw [if_neg c]
      have hm : xs.getD i Str.empty ∉ xs.take i := fun z => c (any_mem.mpr z)
      rw [List.nodup_append]
      refine ⟨fun e => ⟨ih.mp (by omega), List.nodup_cons.mpr ⟨by simp, List.nodup_nil⟩, fun a ha b hb e2 => ?_⟩, fun n => by rw [ih.mpr n.1]⟩
      rw [List.mem_singleton.mp hb] at e2
      exact hm (e2 ▸ ha)
theorem cnt_all {xs : List Str} : cnt xs xs.length = xs.length ↔ xs.Nodup := by
  have := cnt_nodup xs xs.length (Nat.le_refl _)
  rwa [List.take_length] at this
section
variable {prog : Program} {w : World} {A : Around} {R : Result → Shared → Prop} {I : Addr} {fp wr : List Addr} {G : Array GenState → Array GenState → Prop} {n : Nat} {P : Nat → Value → Prop} {St : Nat → Shared → Prop}
/-- a set of the texts that were met -/
abbrev Met (prog : Program) (w : World) (h : Heap) (S : Addr) (xs : List Str) (i : Nat) : Prop := h.SetOf (PySem.strKind prog w) S (fun k => (xs.take i).any (· == k)) (cnt xs i)
theorem Met.step {h h' : Heap} {S : Addr} {xs : List Str} {i : Nat} (hi : i < xs.length) (m : h'.SetOf (PySem.strKind prog w) S (fun j => (xs.take i).any (· == j) || decide (j = xs.getD i Str.empty)) (if (xs.take i).any (· == xs.getD i Str.empty) = true then cnt xs i else cnt xs i + 1)) : Met prog w h' S xs (i + 1) := by
  refine SetOf_congr m (fun k => ?_) rfl
  rw [take_snoc hi, List.any_append]
  by_cases e : k = xs.getD i Str.empty
  · rw [← e]
    simp
  · have e2 : (xs.getD i Str.empty == k) = false := by
      rw [beq_eq_false_iff_ne]
      exact fun z => e z.symm
    simp only [List.any_cons, List.any_nil, e2, Bool.or_false, decide_eq_false e]
theorem loopD (W : WalksS prog w A.in1 I fp wr G n P St) (S : Addr) (nS : S ∉ fp) (xs : List Str) (len : xs.length = n) (few : n < 4000)
    (val : ∀ i v, P i v → ∃ t, v = .str (xs.getD i Str.empty) t) (left : Nat) :
    ∀ (i : Nat) (s : Shared), n - i = left → i ≤ n → St i s → Met prog w s.heap S xs i →
      (∀ s', Moved (S :: wr) G s s' → Met prog w s'.heap S xs n → R (.ok (.ret .none)) s') →
      codeAny (model prog w) A (.builtin "set.update.loop" ⟨[.ref S, .ref I], []⟩) R s := by
  have nW : S ∉ wr := fun z => nS (W.sub _ z)
  have more : ∀ b ∈ wr, b ∈ S :: wr := fun b z => List.mem_cons_of_mem _ z
  have stays : ∀ {s s' : Shared} {i : Nat}, Moved wr G s s' → Met prog w s.heap S xs i → Met prog w s'.heap S xs i := fun m ⟨o, es, ep, t, ho, r⟩ => ⟨o, es, ep, t, m.heap S _ nW ho, r⟩
  induction left with
  | zero =>
    intro i s e hi st hS k
    obtain rfl : i = n := by omega
    refine codeAny_builtin PyProof.Rows.F.entry_set_update_loop ?_
    rw [Around.under_plainId PyProof.Rows.F.plain_set_update_loop _]
    show wpAny _ A.in1 (pyNext (.ref I) >>= _) _ _ s
    exact wpAny_bind (W.done s _ _ st fun s' m => (show wpAny _ A.in1 (ret Value.none) _ _ s' from wpAny_pure (k s' (m.mono more) (stays m hS))))
  | succ left ih =>
    intro i s e hi st hS k
    have lt : i < n := by omega
    refine codeAny_builtin PyProof.Rows.F.entry_set_update_loop ?_
    rw [Around.under_plainId PyProof.Rows.F.plain_set_update_loop _]
    show wpAny _ A.in1 (pyNext (.ref I) >>= _) _ _ s
    refine wpAny_bind (W.item i s _ _ lt st fun v s' hv st' m => ?_)
    obtain ⟨t, rfl⟩ := val i v hv
    have hS' := stays m hS
    show wpAny _ A.in1 (holding [Value.str (xs.getD i Str.empty) t] (setAdd S (.str (xs.getD i Str.empty) t)) >>= _) _ _ s'
    refine wpAny_bind (wpAny_holding ?_)
    unfold setAdd
    refine wpAny_holding (wpAny_bind ((PySem.strKind prog w).pyHash (k := xs.getD i Str.empty) (strKind_is _ _ _ _) ?_))
    have room : cnt xs i + 1 < scanBound := by
      have := cnt_le xs i
      unfold scanBound
      omega
    refine wpAny_setAddHashed_of (knd := PySem.strKind prog w) (s := { s' with toks := s'.toks + 1 }) (strKind_is _ _ _ _) rfl hS' room fun h' sb new => ?_
    have ahead : ∀ b, b ∈ fp → ∀ o, s'.heap.get? b = some o → h'.get? b = some o := fun b hb o q => by
      rw [sb.2 b (fun z : b = S => nS (z ▸ hb))]
      exact q
    refine wpAny_pure ⟨plainId_quiet PyProof.Rows.F.plain_set_update_loop _, ih (i + 1) _ (by omega) lt (W.frame _ s' _ _ st' (Nat.le_succ _) fun b hb o q => ahead b hb o q) (Met.step (h := s'.heap) (by omega) new) fun s2 m2 hS2 => ?_⟩
    refine k s2 (Moved.trans W.gtrans ((m.mono more).then_heap (Nat.le_succ _) fun b o hb q => ?_) m2) hS2
    rw [sb.2 b (fun z : b = S => hb (by rw [z]; exact List.mem_cons_self))]
    exact q
end
section
variable {prog : Program} {w : World} {A : Around} {E : Value → Shared → Prop} {s : Shared}
/-- set(xs), xs a list of texts -/
theorem set_of_texts {l : Addr} {items : Array Value} {xs : List Str} {Q : Value → Shared → Prop} (calm : A.handled = none) (hl : s.heap.IsList l items) (hi : StrsAre items.toList xs) (few : xs.length < 4000)
    (h : ∀ (h' : Heap) (tk : Nat), Met prog w h' s.heap.objs.size xs xs.length → (∀ b o, b < s.heap.objs.size → s.heap.get? b = some o → h'.get? b = some o) → Q (.ref s.heap.objs.size) { s with heap := h', toks := tk }) :
    wpAny (model prog w) A (call (.type "set") [.ref l]) Q E s := by
  have made := PySem.F.called_set.made
  have sub := PySem.F.called_set.sub
  obtain ⟨c, tl, mro⟩ := PySem.F.called_set.mro
  have k1 := PySem.F.called_set.notType
  have k2 := PySem.F.called_set.canCreate
  have k3 := PySem.F.typeCall_set_1 (.ref l)
  refine wpAny_call (codeAny_of_tree ?_)
  show wpAny _ _ (callAny (.type "set") _) _ _ _
  refine wpAny_pure ⟨Code.quiet_builtin _ (by decide +kernel), codeAny_builtin PySem.F.entry_type_call ?_⟩
  rw [Around.under_plain (weight_type_call_type "set" [.ref l] []) rfl]
  repeat (any_goals (first | assumption | wp_step))
  generalize hN : s.heap.objs.size = N at h ⊢
  refine codeAny_mono (code_set_new_1 (.ref l) (E := E) (Q₁ := fun x s1 => ∃ led : Bool, x = .ref N ∧ s1 = { s with heap := s.heap.push { cls := .type "set", dict := none, data := .set #[] 0 (.fresh 0 0 led) } }) fun led => ⟨led, by rw [hN], rfl⟩) fun r s1 hr => ?_
  cases r with
  | error e => exact hr
  | ok fl =>
    cases fl with
    | ret x =>
      obtain ⟨led, rfl, rfl⟩ := hr
      generalize hO : ({ cls := .type "set", dict := none, data := .set #[] 0 (.fresh 0 0 led) } : Obj) = O
      have at0 : (s.heap.push O).get? N = some O := by
        rw [← hN]
        exact Heap.get?_push_size _ (by rw [← hO]; rfl)
      have ty0 : Shared.TypeIs { s with heap := s.heap.push O } (.ref N) "set" := ⟨_, at0, by rw [← hO]⟩
      have i1 := PySem.F.called_set.init.lookup
      have i2 := PySem.F.called_set.init.bind (.ref N)
      repeat (any_goals (first | assumption | wp_step))
      refine codeAny_mono (codeAny_call_builtin (R := wants (fun r s2 => r = .none ∧ ∃ h' tk, s2 = { s with heap := h', toks := tk } ∧ Met prog w h' N xs xs.length ∧ (∀ b o, b < N → s.heap.get? b = some o → h'.get? b = some o)) E)
        PySem.F.called_set.init.plain PySem.F.entry_set_init (check_set_init_1 ty0 ?_)) fun r2 s2 hr2 => ?_
      · obtain ⟨⟨ocls, odict, odata, oslots⟩, hol, hcl, nl, hdl⟩ := id hl
        simp only at hcl hdl
        subst hcl hdl
        have lN : l < N := by
          rw [← hN]
          exact Heap.lt_size hol
        have hl1 : (s.heap.push O).IsList l items := hl.push _
        have hol1 : (s.heap.push O).get? l = some { cls := .type "list", dict := odict, data := .seq items nl, slots := oslots } := Heap.get?_push_of_some _ hol
        have q1 := PySem.F.sub_list_set
        have q2 := PySem.F.sub_list_frozenset
        have q3 : (Value.type "list" == Value.type "dict") = false := by decide
        have hIt : (s.heap.push O).objs.size = N + 1 := by rw [Heap.size_push, hN]
        have len : xs.length = items.size := by rw [← StrsAre.len_eq hi, Array.length_toList]
        have nf : N ∉ [(s.heap.push O).objs.size, l] := by
          rw [hIt]
          simp only [List.mem_cons, List.not_mem_nil, or_false, not_or]
          exact ⟨Nat.ne_of_lt (Nat.lt_succ_self _), Nat.ne_of_gt lN⟩
        have hne : l ≠ (s.heap.push O).objs.size := by
          rw [hIt]
          exact Nat.ne_of_lt (Nat.lt_succ_of_lt lN)
        have g := Heap.get?_push_of_some { cls := .type "list_iterator", data := .fields #[.ref l, .int 0 0] } at0
        have start : ∀ it : Obj, it = { cls := .type "list_iterator", data := .fields #[.ref l, .int 0 0] } → Met prog w ((s.heap.push O).push it) N xs 0 := fun it e => by
          subst e
          refine SetOf_congr (n := 0) ((setObjOf_fresh (knd := PySem.strKind prog w) led).setOf ?_ (by unfold scanBound; omega)) (fun _ => rfl) rfl
          rw [← hO] at g ⊢
          exact g
        subst hO
        unfold Builtin.«set.__init__» noKeywords Builtin.Frozenset.updateFrom
        generalize hW : pyIter = W
        wp_walk
        subst hW
        refine wpAny_pyIter_list hl1 ?_
        refine wpAny_bind (wpAny_runValue ?_)
        refine loopD ((Walks.list (by simp [calm]) _ l hne items).toS) N nf xs len (by omega) (fun i v hv => SS.strs_at hi i v (by rw [Array.getElem?_toList]; exact hv)) (items.size - 0) 0 _ (by omega) (Nat.zero_le _) ⟨⟨_, Heap.get?_push_size _ rfl, rfl, rfl⟩, hl1.push _⟩ ?_ ?_
        · exact start _ rfl
        · rintro ⟨h', g', d', tk', os'⟩ m m2
          obtain rfl : g' = s.gens := m.gens
          obtain rfl : d' = s.drawn := m.drawn
          obtain rfl : os' = s.os := m.os
          show wpAny _ _ _ _ _ _
          refine wpAny_pure ?_
          show wpAny _ _ (ret Value.none) _ _ _
          refine wpAny_pure ⟨rfl, h', tk', rfl, by rw [len]; exact m2, fun b o hb e => m.heap b o ?_ (Heap.get?_push_of_some _ (Heap.get?_push_of_some _ e))⟩
          rw [hIt]
          simp only [List.mem_cons, List.not_mem_nil, or_false, not_or]
          exact ⟨Nat.ne_of_lt hb, Nat.ne_of_lt (Nat.lt_succ_of_lt hb)⟩
      · cases r2 with
        | error e => exact hr2
        | ok fl2 =>
          cases fl2 with
          | ret y =>
            obtain ⟨rfl, h', tk, rfl, m, kk⟩ := hr2
            repeat (any_goals (first | assumption | wp_step))
            exact h _ _ m kk
          | _ => exact hr2.elim
    | _ => exact hr.elim
end
/-- len(set(xs)), xs a list of texts -/
def tLenSetD (K : PySem.W.Frag) (ta : TE) : TE := fun σ H Q => ta σ H fun x H1 => ∃ (l : Addr) (xs : List Str), x = .ref l ∧ SqL K H1 l (xs.map V.str) ∧ xs.length < 4000 ∧ Q (.int (cnt xs xs.length : Nat)) H1
theorem pe_lenSetD {X : Cx} {a : Expr} {ta : TE} {p p2 q pos : Pos} (hg : Gl X "len") (hm : X.mg "len" = none) (hg2 : Gl X "set") (hm2 : X.mg "set" = none) (ha : PE X a ta) (hc : X.calm = true := by rfl)
    (na : starEach [a] X.env = (false, eval a X.env) :: starEach [] X.env := by rfl) : PE X (.Call (.Name "len" p) [.Call (.Name "set" p2) [a] [] q] [] pos) (tLenSetD X.K ta) := by
  refine ⟨fun pins s σ H Q I h => ?_⟩
  refine Call_ (ld_blt I hg hm boot_len (PyProof.Rows.callWith_builtin1 (PyProof.Rows.args_cons ?_ rfl) rfl rfl))
  refine Call_ (ld_blt I hg2 hm2 boot_set (PyProof.Rows.callWith_type1 (PyProof.Rows.args_cons (thn (ha.run pins s σ H _ I h) fun v s1 ⟨x, H1, I1, r1, l, xs, e, hq, few, q1⟩ => PyProof.Rows.args_nil ?_) na) na rfl))
  subst e
  cases r1
  obtain ⟨its, r, pl, hz⟩ := I1.list hq
  refine set_of_texts (I1.ok.hd hc) pl.isList (by simpa using strsAre_of r) few fun h' tk ⟨o, es, ep, t, ho, hex, hd, _, _, _, hf, hn⟩ hk => PyProof.Rows.args_nil ?_
  have I2 : Inv X pins σ H1 { s1 with heap := h', toks := tk } := I1.kept fun b o e => hk b o (Heap.lt_size e) e
  have le := cnt_le xs xs.length
  exact call_len_set ho hex hd hf (by rw [hn] <;> omega) ⟨.int (cnt xs xs.length : Nat), H1, I2.tok _, ⟨_, by rw [hn]⟩, q1⟩
end Ys

set_option autoImplicit false
set_option maxHeartbeats 4000000
/-! a set of keys by a comprehension, and how many it has -/
namespace Ys
open PySem PySem.Spec PyProof.Rows L2 PpSet
/-- len(found), found a set of keys -/
theorem call_lenK {X : Cx} : CallR X (.builtin "len") (fun xs H Q => ∃ (a : Addr) (S : Key → Bool) (n : Nat), xs = [.ref a] ∧ H a = some (SetK X.prog X.w a S n) ∧ Q (.int (n : Nat)) H) := by
  intro pins s σ H xs us Q I r h
  obtain ⟨a, S, n, rfl, ha, q⟩ := h
  rw [Vals.ref1 r]
  obtain ⟨o, es, ep, t, ho, hex, hd, _, _, hb, hf, hn⟩ := setK_get I ha
  exact call_len_set ho hex hd hf (by rw [hn] at hb ⊢; unfold scanBound at hb; omega) ⟨.int (n : Nat), H, I.tok _, ⟨_, by rw [hn]⟩, q⟩
section
variable {X : Cx}
/-- one more key into the set at D -/
abbrev AddK (P : Program) (w : World) (D : Addr) (y : V) (H : Hp) (Nx : Hp → Prop) : Prop :=
  ∃ (k : Key) (S : Key → Bool) (n : Nat), y = kV k ∧ H D = some (SetK P w D S n) ∧ n + 1 < scanBound ∧ Nx (upd H D (SetK P w D (fun j => S j || decide (j = k)) (if S k = true then n else n + 1)))
/-- {elt for target in iter if ..} of keys, D the new set -/
def tScK (P : Program) (w : World) (wi : TI) (g : TG) (tt : TT) (te : TE) (vs : List Nat) : TE := fun σ H Q => wi σ H fun J H1 => ∀ D, H1 D = none → ∃ W : Nat → Nat → Hp → Prop, (∃ m, W 0 m (upd H1 D (SetK P w D (fun _ => false) 0))) ∧
  ∀ i m H, W i m H → (J.stop i H ∧ Q (.ref D) H) ∨ (J.go i H ∧ ∃ Nx : Hp → Prop, (∀ H', Nx H' → ∃ m', m' < m ∧ W (i + 1) m' H') ∧
    ∀ x H', J.yld i H x H' → g x (wipe σ vs) H' fun σ2 H2 => wipe σ2 vs = wipe σ vs ∧ tt σ2 H2 fun b H3 => if b = true then te σ2 H3 fun y H4 => AddK P w D y H4 Nx else Nx H3)
abbrev fresh (w : World) : Obj := { cls := .type "set", dict := none, data := .set #[] 0 (.fresh 0 0 (!w.params.followText "set-order")) }
theorem fresh_keys {P : Program} (w : World) (h : Heap) : (h.push (fresh w)).SetOf (mixKind P w) h.objs.size (fun _ => false) 0 :=
  ⟨fresh w, #[], 0, _, Heap.get?_push_size _ rfl, ⟨rfl, rfl, rfl⟩, rfl, (fun e he => by simp at he), (fun k => by simp), by decide, by rfl, rfl⟩
theorem pe_scK {elt tg iter : Expr} {ifs : List Expr} {scope : Scope} {own : List (PySem.Str × Nat)} {pos : Pos} {wi : TI} {g : TG} {tt : TT} {te : TE} (hc : X.calm = true) (hN : X.N.Nodup) (hi : PI X tg iter wi) (ok : BlkOk X.N X.env.scope scope own)
    (hg : ∀ (s : Shared) (H : Hp) (C : Addr) (cl : List (PySem.Str × Addr)) (fp : List Addr), PG (X.blk s H scope (compEnvC scope cl C X.env) fp) tg g)
    (ht : ∀ (s : Shared) (H : Hp) (C : Addr) (cl : List (PySem.Str × Addr)) (fp : List Addr), PTs (X.blk s H scope (compEnvC scope cl C X.env) fp) ifs tt)
    (he : ∀ (s : Shared) (H : Hp) (C : Addr) (cl : List (PySem.Str × Addr)) (fp : List Addr), PE (X.blk s H scope (compEnvC scope cl C X.env) fp) elt te)
    (hs : ∀ x, foldedSetIterable iter X.env x = pure x := by intro _; rfl) : PE X (.SetComp elt [⟨tg, iter, ifs, 0⟩] scope pos) (tScK X.prog X.w wi g tt te (own.map (·.2))) := by
  refine ⟨fun pins s σ H Q I h => ?_⟩
  rw [eval_SetComp]
  have cells : ∀ y ∈ scope.names, y.2 = .free → ∃ c, X.env.cells.lookup y.1 = some c := fun y hy e => (ok.free y hy e).elim (fun k => I.ok.has _ (.inl k)) (fun k => I.ok.has _ (.inr k))
  refine wpAny_comprehension_free rfl hs (closure_ok cells) ok.kind (fun y hy e => by rw [ok.uniq y hy, e]) (thn (hi.run pins s σ H _ I h) fun xv s1 hx => thn hx fun itv s2 ⟨it, fp, tn, J, H2, e, I2, T, st2, f2, q⟩ => ?_)
  subst e
  refine newSet_ok (newEnv_comp ?_)
  generalize hD : s2.heap.objs.size = D
  have free : H2 D = none := I2.hok.fresh (Nat.le_of_eq hD)
  obtain ⟨W, ⟨m0, w0⟩, turn⟩ := q D free
  generalize h3 : ({ s2 with heap := s2.heap.push (fresh X.w) } : Shared) = s3
  have heap3 : s3.heap = s2.heap.push (fresh X.w) := by rw [← h3]
  have I3 : Inv X pins σ (upd H2 D (SetK X.prog X.w D (fun _ => false) 0)) s3 := by
    rw [← h3]
    refine I2.laid (t' := s2.toks) (fun b o e => Heap.get?_push_of_some _ e) (Nat.le_of_eq hD) ?_
    rw [← hD]
    exact setK_new (fresh_keys X.w s2.heap)
  have f3 : ∀ b ∈ fp, FpOk X pins (upd H2 D (SetK X.prog X.w D (fun _ => false) 0)) b ∧ b < s3.heap.objs.size := fun b hb => by
    obtain ⟨o, e, _⟩ := T.obj _ _ st2 b hb
    have lt := Heap.lt_size e
    refine ⟨⟨?_, (f2 b hb).2⟩, by rw [heap3, Heap.size_push]; exact Nat.lt_succ_of_lt lt⟩
    rw [upd_ne (by rw [← hD]; exact Nat.ne_of_lt lt)]
    exact (f2 b hb).1
  have st3 : tn 0 s3.heap := T.keep _ _ _ st2 fun b _ o e => by rw [heap3]; exact Heap.get?_push_of_some _ e
  have I4 := block_start I3 ok hN f3
  generalize hC : s3.heap.objs.size = C at I4 f3 ⊢
  generalize hcl : cellsFrom (C + 1) scope.names (cloFrom X.env.cells scope.names []) = cl at I4 ⊢
  generalize hH : upd H2 D (SetK X.prog X.w D (fun _ => false) 0) = H3 at I3 I4 w0 f3
  have pg := hg s3 H3 C cl fp
  have pt := ht s3 H3 C cl fp
  have pe := he s3 H3 C cl fp
  have none3 : ∀ b ∈ fp, H3 b = none := fun b hb => (f3 b hb).1.1
  show codeAny _ _ (.compStart (.SetComp elt [⟨tg, iter, ifs, 0⟩] scope pos) 0 (.ref it) (.ref D) (compEnvC scope cl C X.env)) (compPost (model X.prog X.w) X.A X.xe none (fun v s' => EP X pins σ Q v s') (.ref D) C) { s3 with heap := pushCells (s3.heap.push { cls := .type "dict", data := .dict #[] }) scope.names }
  generalize hce : compEnvC scope cl C X.env = ce at I4 pg pt pe ⊢
  have cC : ce.locals = C := by rw [← hce]; rfl
  generalize hs4 : ({ s3 with heap := pushCells (s3.heap.push { cls := .type "dict", data := .dict #[] }) scope.names } : Shared) = s4 at I4 ⊢
  have st4 : tn 0 s4.heap := T.keep _ _ _ st3 fun b _ o e => by rw [← hs4]; exact pushCells_keeps _ _ _ _ (Heap.get?_push_of_some _ e)
  generalize hY : X.blk s3 H3 scope ce fp = Y at I4 pg pt pe
  have eY : Y.prog = X.prog ∧ Y.w = X.w ∧ Y.A = X.A := by rw [← hY]; exact ⟨rfl, rfl, rfl⟩
  have stat : ∀ {σ' : L2.St} {H' : Hp} {s' : Shared}, Inv Y [] σ' H' s' → (∀ b ∈ fp, H' b = none) → ∀ b ∈ fp, FpOk Y [] H' b := by
    subst hY
    exact fun {σ' H' s'} J' hn b hb => ⟨hn b hb, (J'.ok.exf b hb).1, J'.ok.exfs b hb, .inl hb, fun x c e => (J'.ok.exf b hb).2 x c e, fun p hp => absurd (show p ∈ ([] : List (Addr × Obj)) ++ [] from hp) (by simp)⟩
  subst hY
  have loop : codeAny (model X.prog X.w) X.A (.compLoop (.SetComp elt [⟨tg, iter, ifs, 0⟩] scope pos) 0 (.ref it) (.ref D) ce) (compPost (model X.prog X.w) X.A X.xe none (fun v s' => EP X pins σ Q v s') (.ref D) C) s4 := by
    refine compLoopS_any (fun n s' => ∃ i H', Inv (X.blk s3 H3 scope ce fp) [] (wipe σ (own.map (·.2))) H' s' ∧ tn i s'.heap ∧ (∀ b ∈ fp, H' b = none) ∧ W i n H') ?_ m0 ⟨0, H3, I4, st4, none3, w0⟩
    rintro n s5 ⟨i, H5, I5, st5, n5, w5⟩
    rcases turn i n H5 w5 with ⟨stop, out⟩ | ⟨go, Nx, down, step⟩
    · refine thnF (T.done (X.blk s3 H3 scope ce fp) rfl rfl rfl hc i [] s5 _ H5 (fun _ _ => False) I5 (stat I5 n5) st5 stop) fun r s6 ⟨hr, I6⟩ => ?_
      subst hr
      have I7 : Inv X pins σ H5 s6 := I3.call' (ch := fp) I6.os I6.base I6.hok I6.bare fun b hb => ⟨(f3 b hb).1.2.2.2.1, (f3 b hb).1.2.1, (f3 b hb).1.2.2.2.2.1, (f3 b hb).1.2.2.2.2.2⟩
      have noneC : H5 C = none := by
        rw [← cC]
        exact I6.free
      obtain ⟨m, hn, _⟩ := I6.loc
      have hn : s6.heap.Ns C m := by
        rw [← cC]
        exact hn
      obtain ⟨f0, f1, f2, f3, f4, f5⟩ := I3.fpOk (Nat.le_of_eq hC) noneC
      exact ⟨m, hn, fun h'' sb => ⟨.ref D, H5, I7.turned (t' := s6.toks) (fun b o hb e => (sb.2 b hb).trans e) f0 f1 f3 f4 f5, rfl, out⟩⟩
    · refine thnF (T.item (X.blk s3 H3 scope ce fp) rfl rfl rfl hc i [] s5 _ H5 (fun _ _ => False) I5 (stat I5 n5) st5 go) fun r s6 ⟨u, hr, h6⟩ => ?_
      subst hr
      refine thnF h6 fun _ s7 ⟨x, H7, I7, r7, y7, st7, n7⟩ => ?_
      refine thnF (pg.run _ s7 _ H7 x u _ (I7.pinned (stat I7 n7) (T.obj _ _ st7)) r7 (step x H7 y7)) fun _ s8 ⟨σ8, H8, I8, w8, q8⟩ => ?_
      refine thnF (pt.run _ s8 σ8 H8 _ I8 q8) fun b s9 ⟨H9, I9, q9⟩ => ?_
      have next : ∀ {s' : Shared} {H' : Hp}, Inv (X.blk s3 H3 scope ce fp) ([] ++ pinsAt fp s7.heap) σ8 H' s' → Nx H' → ∃ m, m < n ∧ ∃ i H', Inv (X.blk s3 H3 scope ce fp) [] (wipe σ (own.map (·.2))) H' s' ∧ tn i s'.heap ∧ (∀ b ∈ fp, H' b = none) ∧ W i m H' := fun {s' H'} J' nx => by
        obtain ⟨m', hm, w'⟩ := down H' nx
        have pin : ∀ b ∈ fp, ∀ o, s7.heap.get? b = some o → s'.heap.get? b = some o ∧ H' b = none := fun b hb o e =>
          have z := J'.pin (b, o) (List.mem_append_right _ (List.mem_append_right _ (mem_pinsAt hb e)))
          ⟨z.1, z.2.1⟩
        refine ⟨m', hm, i + 1, H', (J'.unpinned (pins := [])).weak (by rw [← w8, wipe_length]) (fun j v e => ?_), T.keep _ _ _ st7 fun b hb o e => (pin b hb o e).1, fun b hb => ?_, w'⟩
        · rw [← w8] at e
          exact (wipe_some e).1
        · obtain ⟨o, e, _⟩ := T.obj _ _ st7 b hb
          exact (pin b hb o e).2
      cases b with
      | false =>
        simp only [Bool.false_eq_true, if_false] at q9 ⊢
        exact next I9 q9
      | true =>
        simp only [if_true] at q9 ⊢
        refine thnF (pe.run _ s9 σ8 H9 _ I9 q9) fun z s10 ⟨yv, H10, I10, r10, k, S0, n0, ey, at10, room, nx⟩ => ?_
        subst ey
        exact mt_saddK (X := X.blk s3 H3 scope ce fp) _ s10 σ8 H10 (.ref D) [kV k] (.ref D) [z] (fun _ H' => Nx H') I10 rfl (.cons r10 .nil) ⟨D, k, S0, n0, rfl, rfl, at10, room, nx⟩ |> fun m => thnF m fun _ s11 ⟨_, H11, I11, _, nx⟩ => next I11 nx
  exact codeAny_compStart_set loop (T.self X.A 0 _ _ _ st4 loop)
end
end Ys

set_option autoImplicit false
set_option maxHeartbeats 2000000
/-! sets of keys by a comprehension, without a test -/
namespace Cc
open PySem PySem.Spec PyProof.Rows L2 Ys
section
variable {P : Program} {w : World}
abbrev PushK (P : Program) (w : World) (D : Addr) (i : Nat) (Iv : Nat → (Key → Bool) → Nat → Hp → Prop) (y : V) (H : Hp) : Prop :=
  AddK P w D y H fun H' => ∃ S m, Iv (i + 1) S m H' ∧ H' D = some (SetK P w D S m)
theorem pushK {D : Addr} {i : Nat} {Iv : Nat → (Key → Bool) → Nat → Hp → Prop} {y : V} {H : Hp} {S : Key → Bool} {m : Nat} (k : Key) (ey : y = kV k) (hD : H D = some (SetK P w D S m)) (few : m + 1 < scanBound)
    (iv : Iv (i + 1) (fun j => S j || decide (j = k)) (if S k = true then m else m + 1) (upd H D (SetK P w D (fun j => S j || decide (j = k)) (if S k = true then m else m + 1)))) : PushK P w D i Iv y H :=
  ⟨k, S, m, ey, hD, few, _, _, iv, upd_same⟩
variable {J : It} {n : Nat} {G : Hp → Prop} {Y : Nat → Hp → V → Hp → Prop} {g : TG} {te : TE} {vs : List Nat} {σ : L2.St} {H1 : Hp} {D : Addr} {Qd : Hp → Prop}
theorem sc_acc (wk : Walk J n G Y) (Iv : Nat → (Key → Bool) → Nat → Hp → Prop) (h0 : Iv 0 (fun _ => false) 0 (upd H1 D (SetK P w D (fun _ => false) 0))) (hG : ∀ i S m H, i ≤ n → Iv i S m H → H D = some (SetK P w D S m) → G H)
    (hs : ∀ i x S m H H', i < n → Iv i S m H → H D = some (SetK P w D S m) → Y i H x H' → g x (wipe σ vs) H' fun σ2 H2 => wipe σ2 vs = wipe σ vs ∧ te σ2 H2 fun y H4 => PushK P w D i Iv y H4)
    (hd : ∀ S m H, Iv n S m H → H D = some (SetK P w D S m) → Qd H) :
    ∃ W : Nat → Nat → Hp → Prop, (∃ m, W 0 m (upd H1 D (SetK P w D (fun _ => false) 0))) ∧ ∀ i m H, W i m H → (J.stop i H ∧ Qd H) ∨ (J.go i H ∧ ∃ Nx : Hp → Prop, (∀ H', Nx H' → ∃ m', m' < m ∧ W (i + 1) m' H') ∧
      ∀ x H', J.yld i H x H' → g x (wipe σ vs) H' fun σ2 H2 => wipe σ2 vs = wipe σ vs ∧ tYes σ2 H2 fun b H3 => if b = true then te σ2 H3 fun y H4 => AddK P w D y H4 Nx else Nx H3) := by
  refine ⟨fun i k H => k = n - i ∧ i ≤ n ∧ ∃ S m, Iv i S m H ∧ H D = some (SetK P w D S m), ⟨n, by simp, Nat.zero_le _, _, _, h0, upd_same⟩, ?_⟩
  rintro i k H ⟨rfl, hi, S, m, iv, hD⟩
  have q := hG i S m H hi iv hD
  by_cases lt : i < n
  · exact .inr ⟨wk.goes i H lt q, fun H' => ∃ S m, Iv (i + 1) S m H' ∧ H' D = some (SetK P w D S m), fun H' ⟨S2, m2, v2, d2⟩ => ⟨n - (i + 1), by omega, rfl, lt, S2, m2, v2, d2⟩, fun x H' y => hs i x S m H H' lt iv hD (wk.yields i H x H' lt q y)⟩
  · have e : i = n := by omega
    subst e
    exact .inl ⟨wk.stops H q, hd S m H iv hD⟩
/-- the names that were met: S and m tell them -/
structure Met1 (xs : List Str) (i : Nat) (S : Key → Bool) (m : Nat) : Prop where
  has : ∀ x : Str, S (Sum.inr x) = (xs.take i).any (· == x)
  many : m = cnt xs i
theorem Met1.zero {xs : List Str} : Met1 xs 0 (fun _ => false) 0 := ⟨fun x => rfl, rfl⟩
theorem Met1.next {xs : List Str} {i : Nat} {S : Key → Bool} {m : Nat} (h : Met1 xs i S m) (hi : i < xs.length) (x : Str) (ex : x = xs.getD i Str.empty) :
    Met1 xs (i + 1) (fun j => S j || decide (j = Sum.inr x)) (if S (Sum.inr x) = true then m else m + 1) := by
  subst ex
  refine ⟨fun y => ?_, ?_⟩
  · show (S (Sum.inr y) || decide ((Sum.inr y : Key) = Sum.inr (xs.getD i Str.empty))) = _
    rw [h.has, take_snoc hi, List.any_append]
    by_cases e : y = xs.getD i Str.empty
    · rw [← e]
      simp
    · have e2 : (xs.getD i Str.empty == y) = false := by
        rw [beq_eq_false_iff_ne]
        exact fun z => e z.symm
      rw [decide_eq_false (fun z => e (Sum.inr.inj z))]
      simp only [List.any_cons, List.any_nil, e2, Bool.or_false]
  · rw [h.has, h.many]
    rfl
theorem Met1.few {xs : List Str} {i : Nat} {S : Key → Bool} {m : Nat} (h : Met1 xs i S m) (hi : i < 4000) : m + 1 < scanBound := by
  have := cnt_le xs i
  rw [h.many]
  unfold scanBound
  omega
theorem Met1.all {xs : List Str} {S : Key → Bool} {m : Nat} (h : Met1 xs xs.length S m) : decide ((m : Int) = (xs.length : Nat)) = decide xs.Nodup := by
  rw [h.many]
  exact decide_eq_decide.mpr ⟨fun e => cnt_all.mp (by omega), fun e => by rw [cnt_all.mpr e]⟩
end
end Cc

set_option autoImplicit false
set_option maxHeartbeats 4000000
/-! things of any kind: what stands for them, what stays, how great they are -/
namespace Tg
open PySem PySem.Spec PyProof.Rows L2
/-- all that stood there stands as it stood, but greater dicts -/
def Kept (H H' : Hp) : Prop := ∀ b o, H b = some o → (∀ kvs, o = .dK kvs → kvs.length ≤ 1) → H' b = some o
theorem Kept.refl {H : Hp} : Kept H H := fun _ _ h _ => h
theorem Kept.trans {H H1 H2 : Hp} (a : Kept H H1) (b : Kept H1 H2) : Kept H H2 := fun c o h n => b c o (a c o h n) n
theorem kept_same {H H1 : Hp} (a : Same H H1) : Kept H H1 := fun c o h _ => a c o h
theorem Kept.lstH {H H1 : Hp} {a : Addr} {xs : List V} (k : Kept H H1) (h : H a = some (.lst xs)) : H1 a = some (.lst xs) := k _ _ h fun _ e => nomatch e
theorem Kept.tupH {H H1 : Hp} {a : Addr} {xs : List V} (k : Kept H H1) (h : H a = some (.tup xs)) : H1 a = some (.tup xs) := k _ _ h fun _ e => nomatch e
theorem Kept.lst {K : PySem.W.Frag} {H H1 : Hp} {a : Addr} {xs : List V} (k : Kept H H1) (h : SqL K H a xs) : SqL K H1 a xs := by
  rcases h with (h | ⟨o, h⟩) | h
  · exact .inl (.inl (k.lstH h))
  · exact .inl (.inr ⟨o, k _ _ h fun _ e => nomatch e⟩)
  · exact .inr h
theorem Kept.tup {K : PySem.W.Frag} {H H1 : Hp} {a : Addr} {xs : List V} (k : Kept H H1) (h : SqT K H a xs) : SqT K H1 a xs := by
  rcases h with (h | ⟨o, h⟩) | h
  · exact .inl (.inl (k.tupH h))
  · exact .inl (.inr ⟨o, k _ _ h fun _ e => nomatch e⟩)
  · exact .inr h
mutual
/-- v stands for the thing d -/
inductive Th (K : PySem.W.Frag) (H : Hp) : V → PyData → Prop
  | non : Th K H .non .none
  | bl (b : Bool) : Th K H (.bl b) (.bool b)
  | int (i : Int) : Th K H (.int i) (.int i)
  | str (x : Str) : Th K H (.str x) (.str x)
  | lst {a : Addr} {xs : List V} {ds : List PyData} : SqL K H a xs → ThAll K H xs ds → Th K H (.ref a) (.list ds)
  | tup {a : Addr} {xs : List V} {ds : List PyData} : SqT K H a xs → ThAll K H xs ds → Th K H (.ref a) (.tuple ds)
  | dct {a : Addr} {kvs : List (Key × V)} : H a = some (.dK kvs) → kvs.length ≤ 1 → Th K H (.ref a) (.dict [])
inductive ThAll (K : PySem.W.Frag) (H : Hp) : List V → List PyData → Prop
  | nil : ThAll K H [] []
  | cons {v : V} {vs : List V} {d : PyData} {ds : List PyData} : Th K H v d → ThAll K H vs ds → ThAll K H (v :: vs) (d :: ds)
end
mutual
theorem Th.kept {K : PySem.W.Frag} {H H1 : Hp} (k : Kept H H1) : ∀ {v : V} {d : PyData}, Th K H v d → Th K H1 v d
  | _, _, .non => .non
  | _, _, .bl b => .bl b
  | _, _, .int i => .int i
  | _, _, .str x => .str x
  | _, _, .lst h t => .lst (k.lst h) (t.kept k)
  | _, _, .tup h t => .tup (k.tup h) (t.kept k)
  | _, _, .dct h l => .dct (k _ _ h fun _ e => by cases e; exact l) l
theorem ThAll.kept {K : PySem.W.Frag} {H H1 : Hp} (k : Kept H H1) : ∀ {vs : List V} {ds : List PyData}, ThAll K H vs ds → ThAll K H1 vs ds
  | _, _, .nil => .nil
  | _, _, .cons h t => .cons (h.kept k) (t.kept k)
end
/-- the built-in class of a thing -/
def tyOf : PyData → String
  | .none => "NoneType" | .bool _ => "bool" | .int _ => "int" | .str _ => "str" | .list _ => "list" | .tuple _ => "tuple" | .dict _ => "dict"
theorem tyx_list {K : PySem.W.Frag} {H : Hp} {a : Addr} {xs : List V} (h : SqL K H a xs) : TyX K H (.ref a) (.type "list") := by
  rcases h with (h | ⟨o, h⟩) | ⟨o, its, n, h, c, _⟩
  · exact .base (.lst h)
  · exact .base (.frz h)
  · exact .kList h c
theorem tyx_tup {K : PySem.W.Frag} {H : Hp} {a : Addr} {xs : List V} (h : SqT K H a xs) : TyX K H (.ref a) (.type "tuple") := by
  rcases h with (h | ⟨o, h⟩) | ⟨o, its, n, h, c, _⟩
  · exact .base (.tup h)
  · exact .fTuple h
  · exact .kTuple h c
theorem Th.ty {K : PySem.W.Frag} {H : Hp} {v : V} {d : PyData} (h : Th K H v d) : TyX K H v (.type (tyOf d)) := by
  cases h with
  | non => exact .base .non
  | bl b => exact .base (.bl b)
  | int i => exact .base (.int i)
  | str x => exact .base (.str x)
  | lst h t => exact tyx_list h
  | tup h t => exact tyx_tup h
  | dct h l => exact .base (.dK h)
/-- isinstance of a thing and a built-in class -/
theorem isi {K : PySem.W.Frag} {H : Hp} {v : V} {d : PyData} {T : String} {b : Bool} {Q : VK} (h : Th K H v d) (e : kitB (tyOf d) T = some b) (q : Q (.bl b) H) : rIsi K [v, .ty T] H Q :=
  ⟨v, .ty T, _, _, b, rfl, .ty T, h.ty, kit_ty e, q⟩
def isTup : PyData → Bool | .tuple _ => true | _ => false
def isLst : PyData → Bool | .list _ => true | _ => false
def isStr : PyData → Bool | .str _ => true | _ => false
def isBool : PyData → Bool | .bool _ => true | _ => false
def isInt : PyData → Bool | .bool _ => true | .int _ => true | _ => false
theorem kit_tup (d : PyData) : kitB (tyOf d) "tuple" = some (isTup d) := by cases d <;> (simp only [tyOf, isTup]; decide +kernel)
theorem kit_lst (d : PyData) : kitB (tyOf d) "list" = some (isLst d) := by cases d <;> (simp only [tyOf, isLst]; decide +kernel)
theorem kit_str (d : PyData) : kitB (tyOf d) "str" = some (isStr d) := by cases d <;> (simp only [tyOf, isStr]; decide +kernel)
theorem kit_bool (d : PyData) : kitB (tyOf d) "bool" = some (isBool d) := by cases d <;> (simp only [tyOf, isBool]; decide +kernel)
theorem kit_int (d : PyData) : kitB (tyOf d) "int" = some (isInt d) := by cases d <;> (simp only [tyOf, isInt]; decide +kernel)
theorem isStr_eq {d : PyData} (h : isStr d = true) : ∃ s, d = .str s := by
  cases d with
  | str s => exact ⟨s, rfl⟩
  | _ => cases h
theorem isTup_eq {d : PyData} (h : isTup d = true) : ∃ ds, d = .tuple ds := by
  cases d with
  | tuple s => exact ⟨s, rfl⟩
  | _ => cases h
theorem isLst_eq {d : PyData} (h : isLst d = true) : ∃ ds, d = .list ds := by
  cases d with
  | list s => exact ⟨s, rfl⟩
  | _ => cases h
theorem Th.asStr {K : PySem.W.Frag} {H : Hp} {v : V} {s : Str} (h : Th K H v (.str s)) : v = .str s := by
  cases h
  rfl
theorem Th.asTup {K : PySem.W.Frag} {H : Hp} {v : V} {ds : List PyData} (h : Th K H v (.tuple ds)) : ∃ a xs, v = .ref a ∧ SqT K H a xs ∧ ThAll K H xs ds := by
  cases h with
  | tup h t => exact ⟨_, _, rfl, h, t⟩
theorem Th.asLst {K : PySem.W.Frag} {H : Hp} {v : V} {ds : List PyData} (h : Th K H v (.list ds)) : ∃ a xs, v = .ref a ∧ SqL K H a xs ∧ ThAll K H xs ds := by
  cases h with
  | lst h t => exact ⟨_, _, rfl, h, t⟩
theorem ThAll.len {K : PySem.W.Frag} {H : Hp} : ∀ {xs : List V} {ds : List PyData}, ThAll K H xs ds → xs.length = ds.length
  | _, _, .nil => rfl
  | _, _, .cons _ t => congrArg (· + 1) t.len
theorem ThAll.get {K : PySem.W.Frag} {H : Hp} : ∀ {xs : List V} {ds : List PyData} {i : Nat} {x : V}, ThAll K H xs ds → xs[i]? = some x → ∃ d, ds[i]? = some d ∧ Th K H x d
  | _, _, i, x, .nil, e => by simp at e
  | _, _, 0, x, .cons h t, e => by
    simp at e
    subst e
    exact ⟨_, rfl, h⟩
  | _, _, i + 1, x, .cons h t, e => by
    obtain ⟨d, h1, h2⟩ := t.get (i := i) (x := x) (by simpa using e)
    exact ⟨d, by simpa using h1, h2⟩
/-! ### how great things are -/
/-- signs of a text below 128 -/
def As (s : Str) : Prop := ∀ c ∈ s.cps.toList, c < 128
/-- texts and lists to N, numbers below N figures, depth to m -/
def Bd (N : Nat) : Nat → PyData → Prop
  | _, .none => True
  | _, .bool _ => True
  | _, .int i => i.natAbs < 10 ^ N
  | _, .str s => s.length ≤ N ∧ As s
  | _, .dict _ => True
  | 0, .list _ => False
  | 0, .tuple _ => False
  | m + 1, .list ds => ds.length ≤ N ∧ ∀ d ∈ ds, Bd N m d
  | m + 1, .tuple ds => ds.length ≤ N ∧ ∀ d ∈ ds, Bd N m d
theorem bd_str {N m : Nat} {s : Str} : Bd N m (.str s) ↔ s.length ≤ N ∧ As s := by cases m <;> exact Iff.rfl
theorem bd_int {N m : Nat} {i : Int} : Bd N m (.int i) ↔ i.natAbs < 10 ^ N := by cases m <;> exact Iff.rfl
theorem bd_non {N m : Nat} : Bd N m .none := by cases m <;> trivial
theorem bd_bool {N m : Nat} {b : Bool} : Bd N m (.bool b) := by cases m <;> trivial
theorem bd_dict {N m : Nat} {b : List (PyData × PyData)} : Bd N m (.dict b) := by cases m <;> trivial
theorem Bd.mono {N N' : Nat} (h : N ≤ N') : ∀ {m m' : Nat} {d : PyData}, m ≤ m' → Bd N m d → Bd N' m' d
  | _, _, .none, _, _ => bd_non
  | _, _, .bool _, _, _ => bd_bool
  | _, _, .int i, _, b => bd_int.mpr (Nat.lt_of_lt_of_le (bd_int.mp b) (Nat.pow_le_pow_right (by omega) h))
  | _, _, .str s, _, b => bd_str.mpr ⟨Nat.le_trans (bd_str.mp b).1 h, (bd_str.mp b).2⟩
  | _, _, .dict _, _, _ => bd_dict
  | 0, _, .list _, _, b => b.elim
  | 0, _, .tuple _, _, b => b.elim
  | m + 1, 0, .list _, q, b => by omega
  | m + 1, 0, .tuple _, q, b => by omega
  | m + 1, m' + 1, .list ds, q, b => ⟨Nat.le_trans b.1 h, fun d hd => (b.2 d hd).mono h (by omega)⟩
  | m + 1, m' + 1, .tuple ds, q, b => ⟨Nat.le_trans b.1 h, fun d hd => (b.2 d hd).mono h (by omega)⟩
/-- v stands for some thing, no greater than so -/
def Is (K : PySem.W.Frag) (H : Hp) (N m : Nat) (v : V) : Prop := ∃ d, Th K H v d ∧ Bd N m d
section
variable {K : PySem.W.Frag} {H H1 : Hp} {N N' m m' : Nat} {v : V} {a : Addr} {xs : List V}
theorem Is.kept (h : Is K H N m v) (k : Kept H H1) : Is K H1 N m v := by
  obtain ⟨d, h1, h2⟩ := h
  exact ⟨d, h1.kept k, h2⟩
theorem Is.mono (h : Is K H N m v) (k : N ≤ N') (j : m ≤ m') : Is K H N' m' v := by
  obtain ⟨d, h1, h2⟩ := h
  exact ⟨d, h1, h2.mono k j⟩
theorem Is.non : Is K H N m .non := ⟨_, .non, bd_non⟩
theorem Is.bl (b : Bool) : Is K H N m (.bl b) := ⟨_, .bl b, bd_bool⟩
theorem Is.int (i : Int) (h : i.natAbs < 10 ^ N) : Is K H N m (.int i) := ⟨_, .int i, bd_int.mpr h⟩
theorem Is.str (s : Str) (h : s.length ≤ N) (a : As s) : Is K H N m (.str s) := ⟨_, .str s, bd_str.mpr ⟨h, a⟩⟩
theorem Is.dct {kvs : List (Key × V)} (h : H a = some (.dK kvs)) (l : kvs.length ≤ 1) : Is K H N m (.ref a) := ⟨_, .dct h l, bd_dict⟩
theorem all_of : ∀ {xs : List V}, (∀ x ∈ xs, Is K H N m x) → ∃ ds, ThAll K H xs ds ∧ ∀ d ∈ ds, Bd N m d
  | [], _ => ⟨[], .nil, fun d h => by cases h⟩
  | x :: r, h => by
    obtain ⟨d, h1, h2⟩ := h x (List.mem_cons_self ..)
    obtain ⟨ds, h3, h4⟩ := all_of fun y hy => h y (List.mem_cons_of_mem _ hy)
    exact ⟨d :: ds, .cons h1 h3, fun e he => (List.mem_cons.mp he).elim (fun z => z ▸ h2) (h4 e)⟩
theorem of_all : ∀ {xs : List V} {ds : List PyData}, ThAll K H xs ds → (∀ d ∈ ds, Bd N m d) → ∀ x ∈ xs, Is K H N m x
  | _, _, .nil, _, x, h => by cases h
  | _, _, .cons t r, b, x, h => by
    rcases List.mem_cons.mp h with e | e
    · subst e
      exact ⟨_, t, b _ (List.mem_cons_self ..)⟩
    · exact of_all r (fun d hd => b d (List.mem_cons_of_mem _ hd)) x e
theorem Is.lst (h : SqL K H a xs) (l : xs.length ≤ N) (k : ∀ x ∈ xs, Is K H N m x) : Is K H N (m + 1) (.ref a) := by
  obtain ⟨ds, h1, h2⟩ := all_of k
  exact ⟨_, .lst h h1, by rw [← h1.len]; exact l, h2⟩
theorem Is.tup (h : SqT K H a xs) (l : xs.length ≤ N) (k : ∀ x ∈ xs, Is K H N m x) : Is K H N (m + 1) (.ref a) := by
  obtain ⟨ds, h1, h2⟩ := all_of k
  exact ⟨_, .tup h h1, by rw [← h1.len]; exact l, h2⟩
/-- the kinds of things -/
theorem Is.kinds (h : Is K H N m v) : v = .non ∨ (∃ b, v = .bl b) ∨ (∃ i, v = .int i ∧ i.natAbs < 10 ^ N) ∨ (∃ s, v = .str s ∧ s.length ≤ N ∧ As s) ∨ (∃ a kvs, v = .ref a ∧ H a = some (.dK kvs) ∧ kvs.length ≤ 1) ∨
    (∃ a xs n, v = .ref a ∧ m = n + 1 ∧ xs.length ≤ N ∧ (SqL K H a xs ∨ SqT K H a xs) ∧ ∀ x ∈ xs, Is K H N n x) := by
  obtain ⟨d, h1, h2⟩ := h
  cases h1 with
  | non => exact .inl rfl
  | bl b => exact .inr (.inl ⟨b, rfl⟩)
  | int i => exact .inr (.inr (.inl ⟨i, rfl, bd_int.mp h2⟩))
  | str s => exact .inr (.inr (.inr (.inl ⟨s, rfl, bd_str.mp h2⟩)))
  | dct e l => exact .inr (.inr (.inr (.inr (.inl ⟨_, _, rfl, e, l⟩))))
  | lst e t =>
    cases m with
    | zero => exact h2.elim
    | succ n => exact .inr (.inr (.inr (.inr (.inr ⟨_, _, n, rfl, rfl, by rw [t.len]; exact h2.1, .inl e, of_all t h2.2⟩))))
  | tup e t =>
    cases m with
    | zero => exact h2.elim
    | succ n => exact .inr (.inr (.inr (.inr (.inr ⟨_, _, n, rfl, rfl, by rw [t.len]; exact h2.1, .inr e, of_all t h2.2⟩))))
end
/-! ### names, sorts, forms -/
def smallB (n : Nat) : PyData → Bool
  | .str s => (decide (1 ≤ s.length) && decide (s.length ≤ n)) && s.cps.toList.all fun c => decide (97 ≤ c) && decide (c ≤ 122)
  | _ => false
def sortB : PyData → Bool
  | .str s => decide (s ∈ ([("code" : Str), "amount", "word", "text"] : List Str))
  | _ => false
def fieldB : PyData → Bool
  | .tuple [n, s] => smallB 12 n && sortB s
  | _ => false
def nameOf : PyData → Str
  | .tuple (.str s :: _) => s
  | _ => Str.empty
def formB : PyData → Bool
  | .tuple ds => (decide (1 ≤ ds.length) && decide (ds.length ≤ 6)) && ds.all fieldB && decide ((ds.map nameOf).Nodup)
  | _ => false
theorem small_str {n : Nat} {d : PyData} (h : smallB n d = true) : ∃ s, d = .str s := by
  cases d with
  | str s => exact ⟨s, rfl⟩
  | _ => cases h
theorem field_tup {d : PyData} (h : fieldB d = true) : ∃ s z, d = .tuple [.str s, z] ∧ smallB 12 (.str s) = true ∧ sortB z = true := by
  unfold fieldB at h
  split at h
  · rename_i n z
    rw [Bool.and_eq_true] at h
    obtain ⟨s, rfl⟩ := small_str h.1
    exact ⟨s, z, rfl, h.1, h.2⟩
  · cases h
end Tg

namespace St6
open PySem PySem.Spec PyProof.Rows L2
def top (i : Nat) : Stmt := PySem.Challenge.pw_eventledger_k16_more_than_six_amid.main.body.getD i (.Pass ⟨0, 0, 0, 0⟩)
abbrev sBadstep : Stmt := top 1
abbrev sIsSign : Stmt := top 4
abbrev sIsText : Stmt := top 5
abbrev sIsSort : Stmt := top 12
abbrev sIsOfSort : Stmt := top 13
abbrev sIsWhole : Stmt := top 14
abbrev sIsName : Stmt := top 15
abbrev sIsSmall : Stmt := top 16
abbrev sFormBehind : Stmt := top 26
abbrev sSortsBehind : Stmt := top 27
abbrev sSortsBehindStep : Stmt := top 28
abbrev sSortOf : Stmt := top 29
abbrev sIsNew : Stmt := top 30
abbrev sBehindRename : Stmt := top 31
abbrev sBehindCopy : Stmt := top 32
abbrev sBehindDrop : Stmt := top 33
abbrev sBehindPut : Stmt := top 34
abbrev sBehindScale : Stmt := top 35
abbrev sBehindSum : Stmt := top 36
abbrev sBehindJoin : Stmt := top 37
abbrev sIsPart : Stmt := top 38
abbrev sIsSaying : Stmt := top 39
abbrev sBehindTable : Stmt := top 40
abbrev sAreRows : Stmt := top 41
abbrev sIsRow : Stmt := top 42
abbrev sIsOther : Stmt := top 43
abbrev sBehindCase : Stmt := top 44
abbrev sDone : Stmt := top 47
abbrev sDoSteps : Stmt := top 48
abbrev sDoRename : Stmt := top 49
abbrev sDoCopy : Stmt := top 50
abbrev sDoDrop : Stmt := top 51
abbrev sDoPut : Stmt := top 52
abbrev sDoScale : Stmt := top 53
abbrev sDoSum : Stmt := top 54
abbrev sDoJoin : Stmt := top 55
abbrev sDoTable : Stmt := top 56
abbrev sDoCase : Stmt := top 57
abbrev sPen : Stmt := top 60
abbrev sDraw : Stmt := top 61
abbrev sNames : Stmt := top 62
abbrev sLawWord : Stmt := top 63
abbrev sLawText : Stmt := top 64
abbrev sLawNumber : Stmt := top 65
abbrev sLawValue : Stmt := top 66
abbrev sLawValues : Stmt := top 67
abbrev sForm : Stmt := top 68
abbrev sLawPick : Stmt := top 69
abbrev sLawBehind : Stmt := top 70
abbrev sLawEnd : Stmt := top 71
abbrev sLawDo : Stmt := top 72
abbrev sLawDone : Stmt := top 73
abbrev sLawWhole : Stmt := top 74
abbrev sIsWord : Stmt := top 75
abbrev sLawOfSort : Stmt := top 76
abbrev sLawSort : Stmt := top 77
abbrev sLawIsNew : Stmt := top 78
abbrev sLawIsPart : Stmt := top 79
abbrev sLawIsRows : Stmt := top 80
abbrev sLawIsSort : Stmt := top 81
abbrev sLawIsList : Stmt := top 82
abbrev sLawSuits : Stmt := top 83
abbrev sLawFit : Stmt := top 84
abbrev sLawAllFit : Stmt := top 85
abbrev sLawPlace : Stmt := top 86
abbrev sLawBad : Stmt := top 87
abbrev sLawWide : Stmt := top 88
abbrev sLaw : Stmt := top 89
end St6

set_option maxHeartbeats 2000000
namespace St6
open PySem PySem.Spec PyProof.Rows L2
abbrev FnP (K : PySem.W.Frag) (x : Str) (st : Stmt) (f : Addr) (fd : FuncData) : Prop := FunD K x x (defArgs st) (defBody st) (defScope st) [] [] f fd
theorem szl : sizeLine = 16777216 := by decide
theorem same_upd {H : Hp} {p : Addr} {o : HO} (h : H p = none) : Same H (upd H p o) := fun b x e => by
  rw [upd_ne (ne_of_none e h)]
  exact e
/-- all that stood there but the objects of S stands as it stood -/
def Fr (S : List Addr) (H H' : Hp) : Prop := ∀ b o, b ∉ S → H b = some o → H' b = some o
theorem Fr.refl {S : List Addr} {H : Hp} : Fr S H H := fun _ _ _ e => e
theorem Fr.trans {S : List Addr} {H H1 H2 : Hp} (a : Fr S H H1) (b : Fr S H1 H2) : Fr S H H2 := fun c o n e => b c o n (a c o n e)
theorem Fr.mono {S T : List Addr} {H H1 : Hp} (a : Fr S H H1) (h : ∀ x ∈ S, x ∈ T) : Fr T H H1 := fun c o n e => a c o (fun z => n (h c z)) e
theorem fr_same {S : List Addr} {H H1 : Hp} (a : Same H H1) : Fr S H H1 := fun c o _ e => a c o e
theorem Fr.same {H H1 : Hp} (a : Fr [] H H1) : Same H H1 := fun c o e => a c o (by simp) e
theorem fr_upd {S : List Addr} {H : Hp} {p : Addr} {o : HO} (h : p ∈ S) : Fr S H (upd H p o) := fun c x n e => by
  rw [upd_ne (fun q => n (by rw [q]; exact h))]
  exact e
theorem fr_new {S : List Addr} {H : Hp} {p : Addr} {o : HO} (h : H p = none) : Fr S H (upd H p o) := fr_same (same_upd h)
/-- what was not there may change -/
theorem Fr.drop {S : List Addr} {H H1 : Hp} {p : Addr} (a : Fr (p :: S) H H1) (h : H p = none) : Fr S H H1 := fun c x n e => a c x (fun z => by
  rcases List.mem_cons.mp z with q | q
  · rw [q, h] at e
    cases e
  · exact n q) e
/-- a fresh place was fresh before -/
theorem Fr.free {S : List Addr} {H H1 : Hp} {p : Addr} (a : Fr S H H1) (n : p ∉ S) (h : H1 p = none) : H p = none := by
  cases q : H p with
  | none => rfl
  | some o =>
    rw [a p o n q] at h
    cases h
/-! ### the pen -/
def pk (cl : Addr) (a b : Int) : List (Key × V) := [(Sum.inr "cells", .ref cl), (Sum.inr "at", .int a), (Sum.inr "left", .int b)]
theorem pk_cells (cl : Addr) (a b : Int) : valV (pk cl a b) (Sum.inr ("cells" : Str)) = some (.ref cl) := valV_pos rfl
theorem pk_at (cl : Addr) (a b : Int) : valV (pk cl a b) (Sum.inr ("at" : Str)) = some (.int a) := by
  kernel_rfl
theorem pk_left (cl : Addr) (a b : Int) : valV (pk cl a b) (Sum.inr ("left" : Str)) = some (.int b) := by
  kernel_rfl
theorem pk_put_at (cl : Addr) (a b x : Int) : putK (pk cl a b) (Sum.inr ("at" : Str)) (.int x) = pk cl x b := by
  kernel_rfl
theorem pk_put_left (cl : Addr) (a b x : Int) : putK (pk cl a b) (Sum.inr ("left" : Str)) (.int x) = pk cl a x := by
  kernel_rfl
theorem get_cells {H : Hp} {d cl : Addr} {a b : Int} (h : H d = some (.dK (pk cl a b))) : DGet H d (.str "cells") (some (.ref cl)) := by
  have e := DGet.k (k := Sum.inr ("cells" : Str)) h
  rw [pk_cells] at e
  exact e
theorem get_at {H : Hp} {d cl : Addr} {a b : Int} (h : H d = some (.dK (pk cl a b))) : DGet H d (.str "at") (some (.int a)) := by
  have e := DGet.k (k := Sum.inr ("at" : Str)) h
  rw [pk_at] at e
  exact e
theorem get_left {H : Hp} {d cl : Addr} {a b : Int} (h : H d = some (.dK (pk cl a b))) : DGet H d (.str "left") (some (.int b)) := by
  have e := DGet.k (k := Sum.inr ("left" : Str)) h
  rw [pk_left] at e
  exact e
theorem pk_small (cl : Addr) (a b : Int) : (pk cl a b).length < sizeLine := by
  rw [szl]
  show 3 < 16777216
  omega
theorem put_at {H : Hp} {d cl : Addr} {a b : Int} (x : Int) (h : H d = some (.dK (pk cl a b))) : DPut H d (.str "at") (.int x) (upd H d (.dK (pk cl x b))) := by
  have e := DPut.k (k := Sum.inr ("at" : Str)) (v := .int x) h (pk_small _ _ _)
  rw [pk_put_at] at e
  exact e
theorem put_left {H : Hp} {d cl : Addr} {a b : Int} (x : Int) (h : H d = some (.dK (pk cl a b))) : DPut H d (.str "left") (.int x) (upd H d (.dK (pk cl a x))) := by
  have e := DPut.k (k := Sum.inr ("left" : Str)) (v := .int x) h (pk_small _ _ _)
  rw [pk_put_left] at e
  exact e
theorem pk_merge (cl : Addr) (a b : Int) : mergeK [] (pk cl a b) = pk cl a b := by
  kernel_rfl
/-- a pen: its dict at d, its cells at cl, the cells ns, at most n were drawn -/
structure Pen (H : Hp) (d cl : Addr) (ns : List Int) (n : Nat) : Prop where
  ex : ∃ a b : Int, H d = some (.dK (pk cl a b)) ∧ 0 ≤ a ∧ a ≤ (n : Int) ∧ 0 ≤ b
  cs : H cl = some (.lst (ns.map V.int))
  len : ns.length ≤ 63
theorem Pen.mono {H : Hp} {d cl : Addr} {ns : List Int} {n m : Nat} (a : Pen H d cl ns n) (k : n ≤ m) : Pen H d cl ns m := by
  obtain ⟨⟨x, y, h1, h2, h3, h4⟩, h5, h6⟩ := a
  exact ⟨⟨x, y, h1, h2, by omega, h4⟩, h5, h6⟩
theorem Pen.fr {S : List Addr} {H H1 : Hp} {d cl : Addr} {ns : List Int} {n : Nat} (a : Pen H d cl ns n) (f : Fr S H H1) (h1 : d ∉ S) (h2 : cl ∉ S) : Pen H1 d cl ns n := by
  obtain ⟨⟨x, y, e1, r⟩, e2, h6⟩ := a
  exact ⟨⟨x, y, f _ _ h1 e1, r⟩, f _ _ h2 e2, h6⟩
theorem Pen.ne {H : Hp} {d cl : Addr} {ns : List Int} {n : Nat} (a : Pen H d cl ns n) : cl ≠ d := by
  obtain ⟨⟨x, y, e1, r⟩, e2, h6⟩ := a
  exact ne_of e2 e1 (by intro z; cases z)
theorem cut_map (ns : List Int) (lo hi : Option Int) : ∃ ms : List Int, cutV (ns.map V.int) lo hi = ms.map V.int ∧ ms.length ≤ ns.length := by
  refine ⟨(ns.drop (HT.sIx (ns.map V.int).length 0 lo)).take (HT.sIx (ns.map V.int).length (ns.map V.int).length hi - HT.sIx (ns.map V.int).length 0 lo), ?_, ?_⟩
  · unfold cutV
    rw [List.map_take, List.map_drop]
  · rw [List.length_take, List.length_drop]
    omega
theorem dpAll_ints {K : PySem.W.Frag} {H : Hp} : ∀ ns : List Int, DpAll K H (ns.map V.int) (ns.map PyData.int)
  | [] => .nil
  | n :: r => .cons (.int n) (dpAll_ints r)
theorem scPen : FnScope ["script", "cell"] ["script"] (defScope sPen) := ⟨rfl, rfl, rfl, by decide +kernel, rfl, by decide +kernel, by decide +kernel⟩
def spPen (K : PySem.W.Frag) : Sp := fun vs H Q _ => ∃ (a : Addr) (ns : List Int), vs = [.ref a] ∧ SqL K H a (ns.map V.int) ∧ ns.length ≤ 63 ∧ ∀ H' d cl ms, Same H H' → H d = none → H cl = none → Pen H' d cl ms 0 → Q (.ref d) H'
theorem scDraw : FnScope ["pen", "many", "digit", "at", "cell", "number", "again"] ["pen", "many"] (defScope sDraw) := ⟨rfl, rfl, rfl, by decide +kernel, rfl, by decide +kernel, by decide +kernel⟩
def spDraw : Sp := fun vs H Q _ => ∃ (d cl : Addr) (ns : List Int) (many : Int) (n : Nat), vs = [.ref d, .int many] ∧ Pen H d cl ns n ∧ n ≤ 1000000000 ∧ 0 < many ∧ many ≤ 100000000 ∧ ∀ H' k, Fr [d] H H' → Pen H' d cl ns (n + 1) → 0 ≤ k → k < many → Q (.int k) H'
section
variable {P : Program} {w : World} {K : PySem.W.Frag} {mg : Str → Option Value} {base : Heap}
theorem ok_pen {f : Addr} {fd : FuncData} {k : Nat} (F : FnP K "_law_pen" sPen f fd) : FnOk P w K mg base CX0 (k + 1) f fd ["script"] (spPen K) := by
  refine F.ok scPen (fun vs H Q E h => ?_) (fun cdv A outer s H vs Q E hr h => ?_)
  · obtain ⟨a, ns, rfl, _⟩ := h
    rfl
  · obtain ⟨a, ns, rfl, hS, hl, q⟩ := h
    refine ⟨_, PSs.nox (pss_one (ps_ret (pe_disp (pps_cons pe_str
      (pe_lc (own := [("cell", 1)]) (g := gName 1) (tt := tYes) rfl scPen.nd (pi_list (pe_slice sl_list (pv 0) po_none (po_some pe_int))) (blkOk_by (own := [("cell", 1)]) (N := ["script", "cell"]) (sc := defScope sPen) (by decide +kernel))
        (fun _ _ _ _ _ => pg_name (i := 1) scPen.nd rfl (Or.inl rfl)) (fun _ _ _ _ _ => pts_nil) (fun _ _ _ _ _ => pv 1))
      (pps_cons pe_str pe_int (pps_cons pe_str pe_int pps_nil))) (by rfl) (by rfl) (fun z => by cases z) (by decide)))), ?_⟩
    obtain ⟨ms, em, lm⟩ := cut_map ns none (some 63)
    intro d hd
    have s1 := same_upd (o := HO.dK []) hd
    refine ⟨_, rfl, 63, rfl, a, _, rfl, s1.seq hS, fun p np => ?_⟩
    have ndp : d ≠ p := ne_of_none upd_same np
    have s2 := same_upd (o := HO.lst (cutV (ns.map V.int) none (some 63))) np
    rw [em] at s2 ⊢
    refine ⟨p, rfl, ⟨_, SqL.of upd_same⟩, fun D nD => ?_⟩
    have nDp : p ≠ D := ne_of_none upd_same nD
    have nDd : d ≠ D := ne_of_none (s2 _ _ upd_same) nD
    have s3 := same_upd (o := HO.lst []) nD
    refine lc_list (K := K) (a := p) (xs := ms.map V.int) (fun i H' => Fr [D] (upd (upd H d (.dK [])) p (.lst (ms.map V.int))) H' ∧ H' D = some (.lst ((ms.take i).map V.int))) ⟨fr_upd (List.mem_singleton_self _), upd_same⟩ (fun i H' _ ⟨f, _⟩ => SqL.of (f _ _ (by simpa using nDp) upd_same)) ?_ ?_
    · rintro i x H' hx ⟨f, hD⟩
      have hi : i < ms.length := by
        have q1 := (List.getElem?_eq_some_iff.mp hx).1
        rw [List.length_map] at q1
        exact q1
      have ex : x = V.int ms[i] := by
        rw [List.getElem?_map, List.getElem?_eq_getElem hi] at hx
        exact (Option.some.inj hx).symm
      refine ⟨rfl, _, rfl, _, hD, ?_, f.trans (fr_upd (List.mem_singleton_self _)), ?_⟩
      · rw [List.length_map, List.length_take, szl]
        omega
      · rw [upd_same, ex, List.take_succ_eq_append_getElem hi, List.map_append]
        rfl
    · rintro H' ⟨f, hD⟩
      rw [List.length_map, List.take_length] at hD
      have hd' : H' d = some (.dK []) := f _ _ (by simpa using nDd) (s2 _ _ upd_same)
      refine ⟨hd', pk D 0 0, rfl, by show 3 ≤ 15; omega, ?_⟩
      have cD : H D = none := s1.free (s2.free nD)
      have all : Same H (upd H' d (.dK (mergeK [] (pk D 0 0)))) := fun b o e => by
        rw [upd_ne (ne_of_none e hd)]
        exact f _ _ (by simpa using ne_of_none e cD) (s2 _ _ (s1 _ _ e))
      refine q _ d D ms all hd cD ⟨⟨0, 0, ?_, Int.le_refl _, Int.le_refl _, Int.le_refl _⟩, ?_, by omega⟩
      · rw [upd_same, pk_merge]
      · rw [upd_ne nDd.symm]
        exact hD
theorem pw_pos : (0 : Int) < 4294967311 := by decide
theorem ok_draw {f : Addr} {fd : FuncData} {k : Nat} (F : FnP K "_law_draw" sDraw f fd) (ml : mg "len" = none) (ma : mg "abs" = none) (mr : mg "range" = none) : FnOk P w K mg base CX0 (k + 1) f fd ["pen", "many"] spDraw := by
  refine F.ok scDraw (fun vs H Q E h => ?_) (fun cdv A outer s H vs Q E hr h => ?_)
  · obtain ⟨d, cl, ns, m, n, rfl, _⟩ := h
    rfl
  · obtain ⟨d, cl, ns, m, n, rfl, hP, hn, m0, m1, q⟩ := h
    obtain ⟨⟨t, c, hd, t0, tn, c0⟩, hl, ln⟩ := id hP
    have hu := hu_of hr
    have ncd := hP.ne
    refine ⟨_, PSs.nox (pss_cons (ps_if (pt_cmpR op_gt (pe_dget hu (pv 0) pe_str (fun _ _ => rfl)) (pe_int) (nomark _)) (pss_cons (ps_set (i := 2) scDraw.nd rfl (.inl rfl) (pe_op op_modN (pe_dget hu (pv 0) pe_str (fun _ _ => rfl)) (pv 1)))
      (pss_cons (ps_dput hu (pv 0) pe_str (pe_op op_fdivN (pe_dget hu (pv 0) pe_str (fun _ _ => rfl)) (pv 1)) rfl)
      (pss_one (ps_ret (pv 2))))) pss_nil)
      (pss_cons (ps_set (i := 3) scDraw.nd rfl (.inl rfl) (pe_dget hu (pv 0) pe_str (fun _ _ => rfl)))
      (pss_cons (ps_dput hu (pv 0) pe_str (pe_op op_add (pv 3) (pe_int)) rfl)
      (pss_cons (ps_set (i := 4) scDraw.nd rfl (.inl rfl) (pe_op op_add (pe_op op_mul (pv 3) (pv 3)) (pe_int)))
      (C8.pss_cut (ps_if (pt_cmpR (op_neD hr.units) (pe_dget hu (pv 0) pe_str (fun _ _ => rfl)) (pe_lst pa_nil) (nomark _)) (pss_one (ps_set (i := 4) scDraw.nd rfl (.inl rfl) (pe_ix ix_list (pe_dget hu (pv 0) pe_str (fun _ _ => rfl)) (pe_op op_modN (pv 3) (pe_callB call_len_seq (by rfl) ml PySem.boot_len (pa_cons (pe_dget hu (pv 0) pe_str (fun _ _ => rfl)) pa_nil))) (fun _ _ => rfl)))) pss_nil)
      (C8.pss_cut (ps_if (PW.pt (pw_and (pt_cmpR op_lt (pv 3) (pe_callB call_len_seq (by rfl) ml PySem.boot_len (pa_cons (pe_dget hu (pv 0) pe_str (fun _ _ => rfl)) pa_nil)) (nomark _)) (pw_and1 (pt_cmpR op_ge (pe_callB call_abs (by rfl) ma (by decide +kernel) (pa_cons (pv 4) pa_nil)) (pe_op op_pow (pe_int) (pe_int)) (nomark _))))) (pss_cons (ps_dput hu (pv 0) pe_str (pe_op op_fdivN (pe_callB call_abs (by rfl) ma (by decide +kernel) (pa_cons (pv 4) pa_nil)) (pv 1)) rfl)
      (pss_one (ps_ret (pe_op op_modN (pe_callB call_abs (by rfl) ma (by decide +kernel) (pa_cons (pv 4) pa_nil)) (pv 1))))) pss_nil)
      (pss_cons (ps_set (i := 5) scDraw.nd rfl (.inl rfl) (pe_op op_modN (pe_op op_mul (pe_op op_add (pe_op op_add (pe_op op_modN (pv 4) (pe_int)) (pe_op op_mul (pe_int) (pv 3))) (pe_int)) (pe_int)) (pe_int)))
      (pss_cons (ps_for PassesOwn.never rfl (pi_range1 (by rfl) mr (pa_cons pe_int pa_nil)) (pg_name (i := 6) scDraw.nd rfl (.inl rfl)) (pss_cons (ps_set (i := 5) scDraw.nd rfl (.inl rfl) (pe_op op_add (pe_op op_add (pe_op op_add (pe_op op_mul (pv 5) (pv 5)) (pe_op op_mul (pe_int) (pv 5))) (pv 3)) (pv 6)))
      (pss_one (ps_set (i := 5) scDraw.nd rfl (.inl rfl) (pe_op op_modN (pv 5) (pe_int))))))
      (pss_one (ps_ret (pe_op op_modN (pe_op op_fdivN (pv 5) (pe_int)) (pv 1)))))))))))), ?_⟩
    have dm : ∀ x : Int, 0 ≤ x.fmod m ∧ x.fmod m < m := fun x => ⟨Int.fmod_nonneg_of_pos x m0, Int.fmod_lt_of_pos x m0⟩
    have mN : m ≠ 0 := by omega
    have mB : m.natAbs < 1073741824 := by omega
    have dp : ∀ x : Int, 0 ≤ x → 0 ≤ x.fdiv m := fun x h => by
      rw [Int.fdiv_eq_ediv_of_nonneg x (by omega)]
      exact Int.ediv_nonneg h (by omega)
    -- pen["left"] > 0
    refine ⟨_, rfl, d, _, rfl, get_left hd, c, 0, rfl, rfl, _, rfl, ite2 (fun e => ?_) (fun e => ?_)⟩
    · refine ⟨_, rfl, d, _, rfl, get_left hd, _, rfl, c, m, rfl, rfl, mN, ?_⟩
      refine ⟨_, rfl, d, _, rfl, get_left hd, _, rfl, c, m, rfl, rfl, ⟨mN, mB⟩, _, rfl, d, _, rfl, put_left _ hd, ?_⟩
      refine ⟨_, rfl, q _ _ (fr_upd (List.mem_singleton_self _)) ⟨⟨t, c.fdiv m, upd_same, t0, by omega, dp c c0⟩, ?_, ln⟩ (dm c).1 (dm c).2⟩
      rw [upd_ne ncd]
      exact hl
    · refine ⟨_, rfl, d, _, rfl, get_at hd, ?_⟩
      refine ⟨_, rfl, t, 1, rfl, rfl, _, rfl, d, _, rfl, put_at _ hd, ?_⟩
      refine ⟨_, rfl, _, rfl, t, t, rfl, rfl, .inl (by omega), _, 5, rfl, rfl, ?_⟩
      have hd1 : (upd H d (.dK (pk cl (t + 1) c))) d = some (.dK (pk cl (t + 1) c)) := upd_same
      have hl1 : (upd H d (.dK (pk cl (t + 1) c))) cl = some (.lst (ns.map V.int)) := by
        rw [upd_ne ncd]
        exact hl
      have b1 : Fr [d] H (upd H d (.dK (pk cl (t + 1) c))) := fr_upd (List.mem_singleton_self _)
      generalize (upd H d (.dK (pk cl (t + 1) c))) = H1 at hd1 hl1 b1
      refine ⟨fun σ' H' => ∃ cell, σ' = [some (.ref d), some (.int m), none, some (.int t), some (.int cell), none, none] ∧ H' d = some (.dK (pk cl (t + 1) c)) ∧ H' cl = some (.lst (ns.map V.int)) ∧ Fr [d] H H', ?_, ?_⟩
      · refine ⟨_, rfl, d, _, rfl, get_cells hd1, Nat.zero_le _, fun p np => ?_⟩
        have hd2 : (upd H1 p (.lst [])) d = some (.dK (pk cl (t + 1) c)) := by rw [upd_ne (ne_of_none hd1 np)]; exact hd1
        have hl2 : (upd H1 p (.lst [])) cl = some (.lst (ns.map V.int)) := by rw [upd_ne (ne_of_none hl1 np)]; exact hl1
        have b2 : Fr [d] H (upd H1 p (.lst [])) := b1.trans (fr_new np)
        have hp2 : (upd H1 p (.lst [])) p = some (.lst []) := upd_same
        generalize (upd H1 p (.lst [])) = H2 at hd2 hl2 b2 hp2
        refine ⟨.list (ns.map PyData.int), .list [], .lst (SqL.of hl2) (dpAll_ints ns), .lst (SqL.of hp2) .nil, PySem.W.ke_shaped_ints ns, by decide +kernel, _, rfl, ite2 (fun e => ?_) (fun e => ?_)⟩
        · have n0 : 0 < ns.length := by
            cases ns with
            | nil => exact absurd e (by decide +kernel)
            | cons x r => exact Nat.succ_pos _
          have hlen : ((ns.map V.int).length : Int) ≠ 0 := by rw [List.length_map]; omega
          have f0 : 0 ≤ t.fmod ((ns.map V.int).length : Int) := Int.fmod_nonneg_of_pos t (by rw [List.length_map]; omega)
          have f1 : t.fmod ((ns.map V.int).length : Int) < ((ns.map V.int).length : Int) := Int.fmod_lt_of_pos t (by rw [List.length_map]; omega)
          obtain ⟨j, ej⟩ := Int.eq_ofNat_of_zero_le f0
          have hj : j < ns.length := by
            rw [ej, List.length_map] at f1
            exact Int.ofNat_lt.mp f1
          refine ⟨_, rfl, d, _, rfl, get_cells hd2, _, rfl, _, rfl, d, _, rfl, get_cells hd2, cl, _, rfl, .inl (SqL.of hl2), t, _, rfl, rfl, hlen, cl, _, (j : Int), .int ns[j], rfl, congrArg V.int ej, SqL.of hl2, atI_nat (j := j) ?_, ns[j], rfl, hd2, hl2, b2⟩
          rw [List.getElem?_map, List.getElem?_eq_getElem hj]
          rfl
        · exact ⟨_, rfl, hd2, hl2, b2⟩
      · rintro σ' H' ⟨cell, rfl, hd3, hl3, b3⟩
        refine ⟨fun σ2 H2 => σ2 = [some (.ref d), some (.int m), none, some (.int t), some (.int cell), none, none] ∧ H2 = H', ?_, ?_⟩
        · refine ⟨_, rfl, _, rfl, d, _, rfl, get_cells hd3, cl, _, rfl, .inl (SqL.of hl3), t, _, rfl, rfl, _, rfl, ite2 (fun e => ?_) (fun e => ?_)⟩
          · refine ⟨_, rfl, cell, rfl, 10, 18, rfl, rfl, ⟨by decide, by decide, by decide⟩, _, _, rfl, rfl, _, rfl, ite2 (fun e2 => ?_) (fun e2 => ⟨rfl, rfl⟩)⟩
            have c1 : 0 ≤ (if cell < 0 then -cell else cell) := by
              by_cases z : cell < 0
              · rw [if_pos z]; omega
              · rw [if_neg z]; omega
            refine ⟨_, rfl, cell, rfl, _, rfl, _, m, rfl, rfl, ⟨mN, mB⟩, _, rfl, d, _, rfl, put_left _ hd3, ?_⟩
            refine ⟨_, rfl, cell, rfl, _, rfl, _, m, rfl, rfl, mN, q _ _ (b3.trans (fr_upd (List.mem_singleton_self _))) ⟨⟨t + 1, (if cell < 0 then -cell else cell).fdiv m, upd_same, by omega, by omega, dp _ c1⟩, ?_, ln⟩ (dm _).1 (dm _).2⟩
            rw [upd_ne ncd]
            exact hl3
          · exact iteF ⟨rfl, rfl⟩
        · rintro σ2 H2 ⟨rfl, rfl⟩
          have rb : ∀ x : Int, 0 ≤ x.fmod 4294967311 ∧ x.fmod 4294967311 < 4294967311 := fun x => ⟨Int.fmod_nonneg_of_pos _ (by decide), Int.fmod_lt_of_pos _ (by decide)⟩
          refine ⟨_, rfl, cell, 4294967311, rfl, rfl, (show (4294967311 : Int) ≠ 0 by decide), _, rfl, 65539, t, rfl, rfl, .inl (by decide), _, _, rfl, rfl, _, 17, rfl, rfl, _, 48271, rfl, rfl, .inr (by decide), _, 4294967311, rfl, rfl, (show (4294967311 : Int) ≠ 0 by decide), ?_⟩
          refine ⟨3, rfl, by decide, by decide, for_range (n := 3) (fun i σ' H3 => ∃ (x : Int) (y : Option V), σ' = [some (.ref d), some (.int m), none, some (.int t), some (.int cell), some (.int x), y] ∧ 0 ≤ x ∧ x < 4294967311 ∧ H3 = H2) ⟨_, none, rfl, (rb _).1, (rb _).2, rfl⟩ ?_ ?_⟩
          · rintro i σ' H3 hi ⟨x, y, rfl, x0, x1, rfl⟩
            refine ⟨_, rfl, _, rfl, x, x, rfl, rfl, .inl (by omega), _, rfl, 69621, x, rfl, rfl, .inl (by decide), _, _, rfl, rfl, _, rfl, _, t, rfl, rfl, _, rfl, _, _, rfl, rfl, ?_⟩
            refine ⟨_, rfl, _, 4294967311, rfl, rfl, (show (4294967311 : Int) ≠ 0 by decide), ?_⟩
            exact ⟨_, _, rfl, (rb _).1, (rb _).2, rfl⟩
          · rintro σ' H3 ⟨x, y, rfl, x0, x1, rfl⟩
            refine ⟨_, rfl, x, 32, rfl, rfl, ⟨by decide, by decide⟩, _, rfl, _, m, rfl, rfl, mN, ?_⟩
            exact q _ _ b3 ⟨⟨t + 1, c, hd3, by omega, by omega, c0⟩, hl3, ln⟩ (dm _).1 (dm _).2
end
end St6

set_option autoImplicit false
set_option maxHeartbeats 4000000
namespace St6
open PySem PySem.Spec PyProof.Rows L2 Tg Cc
/-! the program's forms, told of any thing -/
abbrev Ok (d : PyData) : Prop := Bd 1000 20 d
theorem lineN {n : Nat} (h : n ≤ 1000) : n ≤ sizeLine := by
  rw [szl]
  omega
def lowC (c : Nat) : Bool := decide (97 ≤ c) && decide (c ≤ 122)
def spSmall (K : PySem.W.Frag) : Sp := fun vs H Q _ => ∃ v d n, vs = [v, .int (n : Nat)] ∧ Th K H v d ∧ Ok d ∧ ∀ H', Same H H' → Q (.bl (smallB n d)) H'
def spName (K : PySem.W.Frag) : Sp := fun vs H Q _ => ∃ v d, vs = [v] ∧ Th K H v d ∧ Ok d ∧ ∀ H', Same H H' → Q (.bl (smallB 12 d)) H'
def spSort (K : PySem.W.Frag) : Sp := fun vs H Q _ => ∃ v d, vs = [v] ∧ Th K H v d ∧ Ok d ∧ ∀ H', Same H H' → Q (.bl (sortB d)) H'
def spField (K : PySem.W.Frag) : Sp := fun vs H Q _ => ∃ v d, vs = [v] ∧ Th K H v d ∧ Ok d ∧ ∀ H', Same H H' → Q (.bl (fieldB d)) H'
def spForm (K : PySem.W.Frag) : Sp := fun vs H Q _ => ∃ v d, vs = [v] ∧ Th K H v d ∧ Ok d ∧ ∀ H', Same H H' → Q (.bl (formB d)) H'
theorem smallB_not {n : Nat} {d : PyData} (h : isStr d = false) : smallB n d = false := by
  cases d <;> first | rfl | cases h
theorem le_sign (c : Nat) : (!decide (((⟨#[c]⟩ : Str).cps.toList) < ("a" : Str).cps.toList)) = decide (97 ≤ c) := by
  show (!decide ([c] < [97])) = _
  by_cases h : c < 97
  · have e : [c] < [97] := List.Lex.rel h
    rw [decide_eq_true e, decide_eq_false (by omega)]
    rfl
  · have e : ¬ [c] < [97] := fun z => by
      cases z with
      | rel z => exact h z
      | cons z => cases z
    rw [decide_eq_false e, decide_eq_true (by omega)]
    rfl
theorem sign_le (c : Nat) : (!decide (("z" : Str).cps.toList < ((⟨#[c]⟩ : Str).cps.toList))) = decide (c ≤ 122) := by
  show (!decide ([122] < [c])) = _
  by_cases h : 122 < c
  · have e : [122] < [c] := List.Lex.rel h
    rw [decide_eq_true e, decide_eq_false (by omega)]
    rfl
  · have e : ¬ [122] < [c] := fun z => by
      cases z with
      | rel z => exact h z
      | cons z => cases z
    rw [decide_eq_false e, decide_eq_true (by omega)]
    rfl
section
variable {P : Program} {w : World} {K : PySem.W.Frag} {mg : Str → Option Value} {base : Heap}
theorem scsmall : FnScope ["thing", "longest", "sign"] ["thing", "longest"] (defScope sIsSmall) := ⟨rfl, rfl, rfl, by decide +kernel, rfl, by decide +kernel, by decide +kernel⟩
theorem ok_small {f : Addr} {fd : FuncData} (F : FnP K "_is_small" sIsSmall f fd)  (mb_isinstance : mg "isinstance" = none) (mb_str : mg "str" = none) (mb_len : mg "len" = none) (mb_all : mg "all" = none)   : FnOk P w K mg base CX0 1 f fd ["thing", "longest"] (spSmall K) := by
  refine F.ok scsmall (fun vs H Q E h => ?_) (fun cdv A outer s H vs Q E hr h => ?_)
  · obtain ⟨v, d, n, rfl, _⟩ := h
    rfl
  · obtain ⟨v, d, n, rfl, hT, hB, q⟩ := h
    have hu := hu_of hr
    refine ⟨_, PSs.nox (pss_cons (ps_if (PW.pt (pw_or (pt_not (pt_val (pe_callB call_isi (by rfl) mb_isinstance (by decide +kernel) (pa_cons (pv 0) (pa_cons (pe_bltn (v := .ty "str") (by rfl) mb_str (by decide +kernel) rfl) pa_nil))))) (pw_or1 (pt_not (pt_chain op_le op_le (pe_int) (pe_callB call_len_str (by rfl) mb_len (by decide +kernel) (pa_cons (pv 0) pa_nil)) (pv 1)))))) (pss_one (ps_ret (pe_bl))) (pss_nil))
      (pss_one (ps_ret (pe_callB (cr_all rfl) (by rfl) mb_all (by decide +kernel) (pa_cons (pe_lc (own := [("sign", 2)]) (g := gName 2) (tt := tYes) rfl scsmall.nd (pi_str (pv 0)) (blkOk_by (own := [("sign", 2)]) (N := ["thing", "longest", "sign"]) (sc := defScope sIsSmall) (by decide +kernel)) (fun _ _ _ _ _ => pg_name (i := 2) scsmall.nd rfl (Or.inl rfl)) (fun _ _ _ _ _ => pts_nil) (fun _ _ _ _ _ => pe_chain op_le_str op_le_str (pe_str) (pv 2) (pe_str))) pa_nil))))), ?_⟩
    refine ⟨_, rfl, v, .ty "str", _, _, _, rfl, .ty "str", hT.ty, kit_ty (kit_str d), _, rfl, ?_⟩
    cases hs : isStr d with
    | false =>
      refine iteT (iteT ?_)
      have e := q H (Same.refl H)
      rw [smallB_not hs] at e
      exact e
    | true =>
      obtain ⟨z, rfl⟩ := isStr_eq hs
      obtain rfl := hT.asStr
      have hz := (bd_str.mp hB).1
      refine iteF ⟨_, rfl, z, rfl, lineN hz, _, _, rfl, rfl, _, rfl, ?_⟩
      have val : smallB n (.str z) = ((decide (1 ≤ z.length) && decide (z.length ≤ n)) && z.cps.toList.all lowC) := rfl
      refine ite2 (fun e1 => ⟨_, rfl, _, _, rfl, rfl, _, rfl, ite2 (fun e2 => ?_) (fun e2 => ?_)⟩) (fun e1 => ⟨_, rfl, iteT ?_⟩)
      · have c2 : ¬ z.length ≤ n := fun y => by
          rw [decide_eq_true (show (z.length : Int) ≤ (n : Int) by omega)] at e2
          cases e2
        have e := q H (Same.refl H)
        rw [val, decide_eq_false c2, Bool.and_false, Bool.false_and] at e
        exact e
      · have c1 : 1 ≤ z.length := by
          have := of_decide_eq_true e1
          omega
        have c2 : z.length ≤ n := by
          have : (!decide ((z.length : Int) ≤ (n : Int))) = false := by simpa using e2
          rw [Bool.not_eq_false'] at this
          have := of_decide_eq_true this
          omega
        rw [val, decide_eq_true c1, decide_eq_true c2, Bool.true_and, Bool.true_and] at q
        refine ⟨_, rfl, z, rfl, fun D nD => ?_⟩
        refine lc_acc (walk_str (z := z)) (fun i acc H' => But D H H' ∧ acc = (z.cps.toList.take i).map fun c => V.bl (lowC c)) ⟨But.refl.upd, rfl⟩ (fun _ _ _ _ _ _ => trivial) ?_ ?_
        · rintro i x acc H1 H2 hi la ⟨b, ea⟩ hD ⟨rfl, c, hc, rfl⟩
          have hc2 : z.cps.toList[i]? = some c := by rw [Array.getElem?_toList]; exact hc
          have hl : z.length = z.cps.size := rfl
          have put : ∀ k : Bool, k = lowC c → Push D i (fun i acc H' => But D H H' ∧ acc = (z.cps.toList.take i).map fun c => V.bl (lowC c)) (.bl k) H2 := fun k ek => by
            refine push hD la (by omega) ⟨b.upd, ?_⟩
            rw [ea, ek, List.take_succ, hc2, List.map_append]
            rfl
          refine ⟨rfl, _, rfl, _, _, rfl, rfl, _, rfl, ite2 (fun e => ?_) (fun e => ?_)⟩
          · rw [le_sign] at e
            exact ⟨_, _, rfl, rfl, put _ (by rw [sign_le]; unfold lowC; rw [e, Bool.true_and])⟩
          · rw [le_sign] at e
            exact put _ (by unfold lowC; rw [Bool.eq_false_iff.mpr e, Bool.false_and])
        · rintro acc H' la ⟨b, rfl⟩ hD
          rw [List.take_of_length_le (by rw [Array.length_toList]; exact Nat.le_refl _)] at hD
          refine ⟨D, z.cps.toList.map lowC, rfl, SqL.of (by rw [hD, List.map_map]; rfl), ?_⟩
          rw [List.all_map]
          exact q H' (b.new nD)
      · have c1 : ¬ 1 ≤ z.length := fun y => e1 (decide_eq_true (by omega))
        have e := q H (Same.refl H)
        rw [val, decide_eq_false c1, Bool.false_and, Bool.false_and] at e
        exact e
theorem scname : FnScope ["thing"] ["thing"] (defScope sIsName) := ⟨rfl, rfl, rfl, by decide +kernel, rfl, by decide +kernel, by decide +kernel⟩
theorem ok_name {f : Addr} {fd : FuncData} (F : FnP K "is_name" sIsName f fd) {f__is_small : Addr} {fd__is_small : FuncData} (c__is_small : Cl P w K mg base CX0 "_is_small" 1 ["thing", "longest"] (spSmall K) f__is_small fd__is_small)  {u12 : Value} (m_LONGEST_NAME : mg "LONGEST_NAME" = some u12) (h12 : RelV (.int 12) u12)  : FnOk P w K mg base CX0 2 f fd ["thing"] (spName K) := by
  refine F.ok scname (fun vs H Q E h => ?_) (fun cdv A outer s H vs Q E hr h => ?_)
  · obtain ⟨v, d, rfl, _⟩ := h
    rfl
  · obtain ⟨v, d, rfl, hT, hB, q⟩ := h
    have hu := hu_of hr
    refine ⟨_, PSs.nox (pss_one (ps_ret (pe_call c__is_small.ok (hr.mono (by decide)) (by rfl) c__is_small.m c__is_small.kp c__is_small.b .nil pass0 (pa_cons (pv 0) (pa_cons (pe_glob rfl m_LONGEST_NAME h12) pa_nil))))), ?_⟩
    exact ⟨_, rfl, v, d, 12, rfl, hT, hB, q⟩
def sorts : List Str := ["code", "amount", "word", "text"]
theorem sortB_not {d : PyData} (h : isStr d = false) : sortB d = false := by
  cases d <;> first | rfl | cases h
theorem in_strs (x : Str) : ∀ l : List Str, inV (.str x) (l.map V.str) = decide (x ∈ l)
  | [] => rfl
  | y :: r => by
    have ih := in_strs x r
    unfold inV at ih ⊢
    rw [List.map_cons, List.any_cons, ih]
    by_cases h : y = x
    · subst h
      rw [show eqV (V.str y) (V.str y) = true from decide_eq_true rfl, Bool.true_or, decide_eq_true (List.mem_cons_self ..)]
    · rw [show eqV (V.str y) (V.str x) = false from decide_eq_false h, Bool.false_or]
      exact decide_eq_decide.mpr ⟨fun z => List.mem_cons_of_mem _ z, fun z => (List.mem_cons.mp z).elim (fun e => absurd e.symm h) id⟩
theorem scsort : FnScope ["thing"] ["thing"] (defScope sIsSort) := ⟨rfl, rfl, rfl, by decide +kernel, rfl, by decide +kernel, by decide +kernel⟩
theorem ok_sort {f : Addr} {fd : FuncData} (F : FnP K "is_sort" sIsSort f fd)  (mb_isinstance : mg "isinstance" = none) (mb_str : mg "str" = none) {aS : Addr} (m_SORTS : mg "SORTS" = some (.ref aS)) (hS : ∀ H, SqT K H aS (sorts.map V.str))  : FnOk P w K mg base CX0 1 f fd ["thing"] (spSort K) := by
  refine F.ok scsort (fun vs H Q E h => ?_) (fun cdv A outer s H vs Q E hr h => ?_)
  · obtain ⟨v, d, rfl, _⟩ := h
    rfl
  · obtain ⟨v, d, rfl, hT, hB, q⟩ := h
    have hu := hu_of hr
    refine ⟨_, PSs.nox (pss_one (ps_ret (pe_and (pe_callB call_isi (by rfl) mb_isinstance (by decide +kernel) (pa_cons (pv 0) (pa_cons (pe_bltn (v := .ty "str") (by rfl) mb_str (by decide +kernel) rfl) pa_nil))) (pe_one (pe_cmpR op_in_seq (pv 0) (pe_glob (v := .ref aS) rfl m_SORTS rfl) (by with_unfolding_all rfl)))))), ?_⟩
    refine ⟨_, rfl, v, .ty "str", _, _, _, rfl, .ty "str", hT.ty, kit_ty (kit_str d), _, rfl, ?_⟩
    cases hs : isStr d with
    | false =>
      have e := q H (Same.refl H)
      rw [sortB_not hs] at e
      exact iteF e
    | true =>
      obtain ⟨z, rfl⟩ := isStr_eq hs
      obtain rfl := hT.asStr
      refine iteT ⟨_, rfl, aS, _, rfl, .inr (hS H), rfl, by decide +kernel, ?_⟩
      rw [if_neg (by decide), in_strs]
      exact q H (Same.refl H)
theorem fieldB_not {d : PyData} (h : isTup d = false) : fieldB d = false := by
  cases d <;> first | rfl | cases h
theorem fieldB_len {ds : List PyData} (h : ds.length ≠ 2) : fieldB (.tuple ds) = false := by
  match ds, h with
  | [], _ => rfl
  | [_], _ => rfl
  | [_, _], h => exact absurd rfl h
  | _ :: _ :: _ :: _, _ => rfl
theorem len2 {α : Type} {l : List α} (h : l.length = 2) : ∃ a b, l = [a, b] := by
  match l, h with
  | [a, b], _ => exact ⟨a, b, rfl⟩
theorem Bd.tup {N m : Nat} {ds : List PyData} (h : Bd N m (.tuple ds)) : ds.length ≤ N ∧ ∀ d ∈ ds, Bd N m d := by
  cases m with
  | zero => exact h.elim
  | succ n => exact ⟨h.1, fun d hd => (h.2 d hd).mono (Nat.le_refl _) (Nat.le_succ _)⟩
theorem Bd.lst {N m : Nat} {ds : List PyData} (h : Bd N m (.list ds)) : ds.length ≤ N ∧ ∀ d ∈ ds, Bd N m d := by
  cases m with
  | zero => exact h.elim
  | succ n => exact ⟨h.1, fun d hd => (h.2 d hd).mono (Nat.le_refl _) (Nat.le_succ _)⟩
theorem dec_int {i j : Int} : decide (V.int i = V.int j) = decide (i = j) := decide_eq_decide.mpr ⟨fun h => V.int.inj h, fun h => by rw [h]⟩
theorem formB_not {d : PyData} (h : isTup d = false) : formB d = false := by
  cases d <;> first | rfl | cases h
theorem all_fields {ds : List PyData} (h : ds.all fieldB = true) {i : Nat} {d : PyData} (e : ds[i]? = some d) : fieldB d = true := List.all_eq_true.mp h d (List.mem_of_getElem? e)
theorem ThAll.get2 {H : Hp} {xs : List V} {ds : List PyData} {i : Nat} {x : V} (h : ThAll K H xs ds) (e : xs[i]? = some x) : ∃ d, ds[i]? = some d ∧ Th K H x d ∧ d ∈ ds := by
  obtain ⟨d, h1, h2⟩ := h.get e
  exact ⟨d, h1, h2, List.mem_of_getElem? h1⟩
theorem field_parts {H : Hp} {v : V} {d : PyData} (h : Th K H v d) (b : fieldB d = true) : ∃ a x1 z, v = .ref a ∧ SqT K H a [.str (nameOf d), x1] ∧ d = .tuple [.str (nameOf d), z] ∧ Th K H x1 z := by
  obtain ⟨s, z, rfl, _, _⟩ := field_tup b
  obtain ⟨a, xs, rfl, hx, hA⟩ := h.asTup
  cases hA with
  | cons h0 h1 =>
    cases h1 with
    | cons h1 h2 =>
      cases h2
      cases h0
      exact ⟨a, _, z, rfl, hx, rfl, h1⟩
end
end St6

set_option autoImplicit false
set_option maxHeartbeats 4000000
namespace St6
open PySem PySem.Spec PyProof.Rows L2 Tg Cc
/-! the law's own look at forms -/
theorem dpAll_strs {K : PySem.W.Frag} {H : Hp} : ∀ ns : List Str, DpAll K H (ns.map V.str) (ns.map PyData.str)
  | [] => .nil
  | n :: r => .cons (.str n) (dpAll_strs r)
theorem can_strs : ∀ ns : List Str, (∀ z ∈ ns, As z) → PyData.canLayAll0 (ns.map PyData.str) = true
  | [], _ => rfl
  | x :: r, h => by
    have h1 : PyData.strOk x = true := by
      unfold PyData.strOk
      rw [Array.all_eq_true']
      intro c hc
      have := h x (List.mem_cons_self ..) c (by simpa using hc)
      exact decide_eq_true (by omega)
    have h2 := can_strs r fun z hz => h z (List.mem_cons_of_mem _ hz)
    simp [PyData.canLayAll0, PyData.canLay0, h1, h2]
theorem depth_strs : ∀ ns : List Str, PyData.depthAll (ns.map PyData.str) = 0
  | [] => rfl
  | _ :: r => by simp [PyData.depthAll, PyData.depth, depth_strs r]
theorem shaped_strs {ns : List Str} (h : ∀ z ∈ ns, As z) : SeqAt.shaped (.list (ns.map PyData.str)) = true := by
  simp [SeqAt.shaped, PyData.canLay0, PyData.depth, can_strs ns h, depth_strs]
def spWord (K : PySem.W.Frag) : Sp := fun vs H Q _ => ∃ v d n, vs = [v, .int (n : Nat)] ∧ Th K H v d ∧ Ok d ∧ ∀ H', Same H H' → Q (.bl (smallB n d)) H'
theorem low_mem (c : Nat) : decide (c ∈ ("abcdefghijklmnopqrstuvwxyz" : Str).cps.toList) = lowC c := by
  have e : ("abcdefghijklmnopqrstuvwxyz" : Str).cps.toList = (List.range 26).map (97 + ·) := by decide +kernel
  rw [e]
  unfold lowC
  rw [← Bool.decide_and]
  refine decide_eq_decide.mpr ⟨fun h => ?_, fun h => ?_⟩
  · obtain ⟨k, hk, e⟩ := List.mem_map.mp h
    have := List.mem_range.mp hk
    omega
  · exact List.mem_map.mpr ⟨c - 97, List.mem_range.mpr (by omega), by omega⟩
/-- the signs of a text that aren't small letters -/
def highs (l : List Nat) : List Str := (l.filter fun c => !lowC c).map fun c => ⟨#[c]⟩
theorem highs_snoc (l : List Nat) (c : Nat) : highs (l ++ [c]) = highs l ++ (if lowC c = true then [] else [⟨#[c]⟩]) := by
  unfold highs
  rw [List.filter_append, List.map_append]
  cases h : lowC c <;> simp [h]
theorem highs_nil (l : List Nat) : (highs l).isEmpty = l.all lowC := by
  unfold highs
  induction l with
  | nil => rfl
  | cons c r ih =>
    cases h : lowC c
    · simp [h]
    · simp [h] at ih ⊢
      exact ih
theorem eqv_nil (l : List PyData) : PyData.eqv (.list l) (.list []) = l.isEmpty := by
  cases l <;> simp [PyData.eqv, PyData.eqvAll]
section
variable {P : Program} {w : World} {K : PySem.W.Frag} {mg : Str → Option Value} {base : Heap}
theorem scisword : FnScope ["thing", "most", "sign"] ["thing", "most"] (defScope sIsWord) := ⟨rfl, rfl, rfl, by decide +kernel, rfl, by decide +kernel, by decide +kernel⟩
theorem ok_isword {f : Addr} {fd : FuncData} (F : FnP K "_law_is_word" sIsWord f fd)  (mb_isinstance : mg "isinstance" = none) (mb_str : mg "str" = none) (mb_len : mg "len" = none)   : FnOk P w K mg base CX0 1 f fd ["thing", "most"] (spWord K) := by
  refine F.ok scisword (fun vs H Q E h => ?_) (fun cdv A outer s H vs Q E hr h => ?_)
  · obtain ⟨v, d, n, rfl, _⟩ := h
    rfl
  · obtain ⟨v, d, n, rfl, hT, hB, q⟩ := h
    have hu := hu_of hr
    refine ⟨_, PSs.nox (pss_cons (ps_if (PW.pt (pw_or (pt_not (pt_val (pe_callB call_isi (by rfl) mb_isinstance (by decide +kernel) (pa_cons (pv 0) (pa_cons (pe_bltn (v := .ty "str") (by rfl) mb_str (by decide +kernel) rfl) pa_nil))))) (pw_or1 (pt_not (pt_chain op_lt op_le (pe_int) (pe_callB call_len_str (by rfl) mb_len (by decide +kernel) (pa_cons (pv 0) pa_nil)) (pv 1)))))) (pss_one (ps_ret (pe_bl))) (pss_nil))
      (pss_one (ps_ret (pe_cmpR (op_eqD hr.units) (pe_lc (own := [("sign", 2)]) (g := gName 2) rfl scisword.nd (pi_str (pv 0)) (blkOk_by (own := [("sign", 2)]) (N := ["thing", "most", "sign"]) (sc := defScope sIsWord) (by decide +kernel)) (fun _ _ _ _ _ => pg_name (i := 2) scisword.nd rfl (Or.inl rfl)) (fun _ _ _ _ _ => pts_one (pt_cmpR op_notIn_sign (pv 2) (pe_str) (by with_unfolding_all rfl))) (fun _ _ _ _ _ => pv 2)) (pe_lst (pa_nil)) (nomark _))))), ?_⟩
    refine ⟨_, rfl, v, .ty "str", _, _, _, rfl, .ty "str", hT.ty, kit_ty (kit_str d), _, rfl, ?_⟩
    cases hs : isStr d with
    | false =>
      refine iteT (iteT ?_)
      have e := q H (Same.refl H)
      rw [smallB_not hs] at e
      exact e
    | true =>
      obtain ⟨z, rfl⟩ := isStr_eq hs
      obtain rfl := hT.asStr
      obtain ⟨hz, hA⟩ := bd_str.mp hB
      refine iteF ⟨_, rfl, z, rfl, lineN hz, _, _, rfl, rfl, _, rfl, ?_⟩
      have val : smallB n (.str z) = ((decide (1 ≤ z.length) && decide (z.length ≤ n)) && z.cps.toList.all lowC) := rfl
      refine ite2 (fun e1 => ⟨_, rfl, _, _, rfl, rfl, _, rfl, ite2 (fun e2 => ?_) (fun e2 => ?_)⟩) (fun e1 => ⟨_, rfl, iteT ?_⟩)
      · have c2 : ¬ z.length ≤ n := fun y => by
          rw [decide_eq_true (show (z.length : Int) ≤ (n : Int) by omega)] at e2
          cases e2
        have e := q H (Same.refl H)
        rw [val, decide_eq_false c2, Bool.and_false, Bool.false_and] at e
        exact e
      · have c1 : 1 ≤ z.length := by
          have := of_decide_eq_true e1
          omega
        have c2 : z.length ≤ n := by
          have : (!decide ((z.length : Int) ≤ (n : Int))) = false := by simpa using e2
          rw [Bool.not_eq_false'] at this
          have := of_decide_eq_true this
          omega
        rw [val, decide_eq_true c1, decide_eq_true c2, Bool.true_and, Bool.true_and] at q
        refine ⟨_, rfl, z, rfl, fun D nD => ?_⟩
        refine lc_it (walk_str (z := z)) (fun i H' => But D H H' ∧ H' D = some (.lst ((highs (z.cps.toList.take i)).map V.str))) ⟨But.refl.upd, upd_same⟩ (fun _ _ _ _ => trivial) ?_ ?_
        · rintro i x H1 H2 hi ⟨b, hD⟩ ⟨rfl, c, hc, rfl⟩
          have hc2 : z.cps.toList[i]? = some c := by rw [Array.getElem?_toList]; exact hc
          have hl : z.length = z.cps.size := rfl
          have lh : ((highs (z.cps.toList.take i)).map V.str).length ≤ i := by
            unfold highs
            rw [List.length_map, List.length_map]
            exact Nat.le_trans (List.length_filter_le _ _) (by rw [List.length_take]; omega)
          refine ⟨rfl, _, rfl, c, _, rfl, rfl, _, rfl, ite2 (fun e => ?_) (fun e => ?_)⟩
          · rw [low_mem] at e
            refine ⟨_, rfl, _, hD, by rw [szl]; omega, b.upd, ?_⟩
            rw [upd_same, List.take_succ, hc2]
            show _ = some (HO.lst ((highs (z.cps.toList.take i ++ [c])).map V.str))
            rw [highs_snoc, if_neg (by rw [Bool.not_eq_true'] at e; rw [e]; exact Bool.false_ne_true), List.map_append]
            rfl
          · rw [low_mem] at e
            refine ⟨b, ?_⟩
            rw [hD, List.take_succ, hc2]
            show _ = some (HO.lst ((highs (z.cps.toList.take i ++ [c])).map V.str))
            rw [highs_snoc, if_pos (by simpa using e), List.append_nil]
        · rintro H' ⟨b, hD⟩
          rw [List.take_of_length_le (by rw [Array.length_toList]; exact Nat.le_refl _)] at hD
          have h1 : ∀ y ∈ highs z.cps.toList, As y := fun y hy => by
            obtain ⟨c, hc, rfl⟩ := List.mem_map.mp hy
            have := hA c (List.mem_filter.mp hc).1
            intro k hk
            have : k = c := by simpa using hk
            omega
          refine ⟨Nat.zero_le _, fun p np => ⟨.list ((highs z.cps.toList).map PyData.str), .list [], .lst (SqL.of (newS np _ _ hD)) (dpAll_strs _), .lst (SqL.of upd_same) .nil, shaped_strs h1, by decide +kernel, ?_⟩⟩
          rw [eqv_nil, List.isEmpty_map, highs_nil]
          exact q _ ((b.new nD).trans (newS np))
      · have c1 : ¬ 1 ≤ z.length := fun y => e1 (decide_eq_true (by omega))
        have e := q H (Same.refl H)
        rw [val, decide_eq_false c1, Bool.false_and, Bool.false_and] at e
        exact e
theorem fieldB_2 (d0 d1 : PyData) : fieldB (.tuple [d0, d1]) = (smallB 12 d0 && sortB d1) := rfl
theorem all_false {ds : List PyData} {i : Nat} {d : PyData} (e : ds[i]? = some d) (h : fieldB d = false) : formB (.tuple ds) = false := by
  have h2 : ds.all fieldB = false := by
    rw [List.all_eq_false]
    exact ⟨d, List.mem_of_getElem? e, by rw [h]; exact Bool.false_ne_true⟩
  show ((decide (1 ≤ ds.length) && decide (ds.length ≤ 6)) && ds.all fieldB && decide ((ds.map nameOf).Nodup)) = false
  rw [h2, Bool.and_false, Bool.false_and]
theorem decn {x : V} {i : Int} : decide (x ≠ V.int i) = !decide (x = V.int i) := by
  by_cases h : x = V.int i <;> simp [h]
end
end St6

set_option autoImplicit false
set_option maxHeartbeats 4000000
namespace St6
open PySem PySem.Spec PyProof.Rows L2 Tg Cc TL
/-! names and forms, drawn -/
theorem joinL_len : ∀ ls : List (List Nat), (joinL [] ls).length = (ls.map List.length).sum
  | [] => rfl
  | [p] => by simp [joinL]
  | p :: q :: r => by
    have ih := joinL_len (q :: r)
    show (p ++ ([] ++ joinL [] (q :: r))).length = _
    rw [List.nil_append, List.length_append, ih]
    simp
theorem joinL_mem : ∀ (ls : List (List Nat)) (e : Nat), e ∈ joinL [] ls → ∃ y ∈ ls, e ∈ y
  | [], e, h => by cases h
  | [p], e, h => ⟨p, List.mem_singleton_self _, h⟩
  | p :: q :: r, e, h => by
    have h2 : e ∈ p ++ ([] ++ joinL [] (q :: r)) := h
    rw [List.nil_append] at h2
    rcases List.mem_append.mp h2 with h3 | h3
    · exact ⟨p, List.mem_cons_self .., h3⟩
    · obtain ⟨y, hy, he⟩ := joinL_mem (q :: r) e h3
      exact ⟨y, List.mem_cons_of_mem _ hy, he⟩
theorem atI_in {α : Type} {xs : List α} {d : Int} (h0 : 0 ≤ d) (h1 : d < (xs.length : Int)) : ∃ v, atI xs d = some v ∧ v ∈ xs := by
  obtain ⟨j, rfl⟩ := Int.eq_ofNat_of_zero_le h0
  have hj : j < xs.length := Int.ofNat_lt.mp h1
  exact ⟨xs[j], atI_nat (List.getElem?_eq_getElem hj), List.getElem_mem hj⟩
theorem atI_map {α β : Type} {f : α → β} {xs : List α} {d : Int} (h0 : 0 ≤ d) (h1 : d < (xs.length : Int)) : ∃ v, atI (xs.map f) d = some (f v) ∧ v ∈ xs := by
  obtain ⟨j, rfl⟩ := Int.eq_ofNat_of_zero_le h0
  have hj : j < xs.length := Int.ofNat_lt.mp h1
  exact ⟨xs[j], atI_nat (by rw [List.getElem?_map, List.getElem?_eq_getElem hj]; rfl), List.getElem_mem hj⟩
/-- a text of small letters -/
def Low (z : Str) : Prop := ∀ c ∈ z.cps.toList, lowC c = true
theorem Low.as {z : Str} (h : Low z) : As z := fun c hc => by
  have := h c hc
  unfold lowC at this
  rw [Bool.and_eq_true, decide_eq_true_eq, decide_eq_true_eq] at this
  omega
theorem Low.app {z y : Str} (h : Low z) (k : Low y) : Low (z ++ y) := fun c hc => by
  have e : (z ++ y).cps.toList = z.cps.toList ++ y.cps.toList := Array.toList_append
  rw [e] at hc
  exact (List.mem_append.mp hc).elim (h c) (k c)
/-- one sign for each -/
theorem Low.join {zs : List Str} (h : ∀ z ∈ zs, z.length = 1 ∧ Low z) : Low (Txt.join (Str.ofString "") zs) ∧ (Txt.join (Str.ofString "") zs).length = zs.length ∧ (zs.map (·.length)).sum + zs.length * (Str.ofString "").length = zs.length := by
  have e0 : (Str.ofString "").length = 0 := by decide +kernel
  have t0 : tl (Str.ofString "") = [] := by decide +kernel
  have hsum : ∀ ys : List Str, (∀ z ∈ ys, z.length = 1) → (ys.map (·.length)).sum = ys.length := by
    intro ys
    induction ys with
    | nil => intro _; rfl
    | cons y r ih =>
      intro hy
      rw [List.map_cons, List.sum_cons, ih fun z hz => hy z (List.mem_cons_of_mem _ hz), hy y (List.mem_cons_self ..), List.length_cons]
      omega
  refine ⟨fun c hc => ?_, ?_, by rw [e0, hsum zs fun z hz => (h z hz).1]; omega⟩
  · have hc : c ∈ tl (Txt.join (Str.ofString "") zs) := hc
    rw [join_eq, tl_join, t0] at hc
    obtain ⟨y, hy, hey⟩ := joinL_mem _ _ hc
    obtain ⟨z, hz, rfl⟩ := List.mem_map.mp hy
    exact (h z hz).2 c hey
  · rw [len_tl, join_eq, tl_join, t0, joinL_len]
    have : ((zs.map tl).map List.length) = zs.map (·.length) := by
      rw [List.map_map]
      exact List.map_congr_left fun z _ => (len_tl z).symm
    rw [this, hsum zs fun z hz => (h z hz).1]
def abc : Str := "abcdefghijklmnopqrstuvwxyz"
theorem abc_at {d : Int} (h0 : 0 ≤ d) (h1 : d < 26) : atI abc.cps.toList d = some (97 + d.toNat) := by
  obtain ⟨j, rfl⟩ := Int.eq_ofNat_of_zero_le h0
  have e : abc.cps.toList = (List.range 26).map (97 + ·) := by decide +kernel
  refine atI_nat ?_
  rw [e, List.getElem?_map, List.getElem?_eq_getElem (by rw [List.length_range]; omega), List.getElem_range]
  rfl
theorem low_one {j : Nat} (h : j < 26) : Low ⟨#[97 + j]⟩ := fun c hc => by
  have e : c = 97 + j := by simpa using hc
  unfold lowC
  rw [e, decide_eq_true (by omega), decide_eq_true (by omega)]
  rfl
/-- the k-th letter, its place -/
def letP (first by_ : Int) (k : Nat) : Int := (first + by_ * k).fmod 26
theorem letP_lt (a b : Int) (k : Nat) : 0 ≤ letP a b k ∧ letP a b k < 26 := ⟨Int.fmod_nonneg_of_pos _ (by decide), Int.fmod_lt_of_pos _ (by decide)⟩
def bys : List Int := [3, 5, 7, 9, 11, 15]
theorem letP_inj {a b : Int} (hb : b ∈ bys) {i j : Nat} (hi : i < 26) (hj : j < 26) (e : letP a b i = letP a b j) : i = j := by
  unfold letP at e
  rw [Int.fmod_eq_emod_of_nonneg _ (by decide), Int.fmod_eq_emod_of_nonneg _ (by decide)] at e
  have hb : b = 3 ∨ b = 5 ∨ b = 7 ∨ b = 9 ∨ b = 11 ∨ b = 15 := by simpa [bys] using hb
  rcases hb with rfl | rfl | rfl | rfl | rfl | rfl <;> omega
/-- a name: a letter and a tail -/
def nameW (way : Int) (tail : Str) (j : Int) : Str := if way = 0 then ⟨#[97 + j.toNat]⟩ ++ tail else tail ++ ⟨#[97 + j.toNat]⟩
theorem tl_app (z y : Str) : (z ++ y).cps.toList = z.cps.toList ++ y.cps.toList := Array.toList_append
theorem nameW_inj {way : Int} {tail : Str} {i j : Int} (hi : 0 ≤ i) (hj : 0 ≤ j) (e : nameW way tail i = nameW way tail j) : i = j := by
  unfold nameW at e
  by_cases h : way = 0
  · rw [if_pos h, if_pos h] at e
    have e2 := congrArg (fun z : Str => z.cps.toList) e
    simp only [tl_app] at e2
    have e3 := List.append_cancel_right e2
    simp at e3
    omega
  · rw [if_neg h, if_neg h] at e
    have e2 := congrArg (fun z : Str => z.cps.toList) e
    simp only [tl_app] at e2
    have e3 := List.append_cancel_left e2
    simp at e3
    omega
theorem len_app (z y : Str) : (z ++ y).length = z.length + y.length := Array.size_append
theorem nameW_ok {way : Int} {tail : Str} {j : Int} (ht : Low tail) (hl : tail.length ≤ 11) (h0 : 0 ≤ j) (h1 : j < 26) : Low (nameW way tail j) ∧ 1 ≤ (nameW way tail j).length ∧ (nameW way tail j).length ≤ 12 := by
  have a := low_one (j := j.toNat) (by omega)
  have l1 : (⟨#[97 + j.toNat]⟩ : Str).length = 1 := rfl
  unfold nameW
  split
  · exact ⟨a.app ht, by rw [len_app, l1]; omega, by rw [len_app, l1]; omega⟩
  · exact ⟨ht.app a, by rw [len_app, l1]; omega, by rw [len_app, l1]; omega⟩
/-- unlike names -/
structure Names (zs : List Str) (m : Nat) : Prop where
  len : zs.length = m
  nd : zs.Nodup
  ok : ∀ z ∈ zs, Low z ∧ 1 ≤ z.length ∧ z.length ≤ 12
theorem names_of {m : Nat} {a b way : Int} {tail : Str} (hm : m ≤ 26) (hb : b ∈ bys) (ht : Low tail) (hl : tail.length ≤ 11) : Names ((List.range m).map fun k => nameW way tail (letP a b k)) m := by
  refine ⟨by rw [List.length_map, List.length_range], ?_, fun z hz => ?_⟩
  · refine List.pairwise_map.mpr (List.Pairwise.imp_of_mem ?_ List.nodup_range)
    intro i j hi hj ne e
    refine ne ?_
    have hi := List.mem_range.mp hi
    have hj := List.mem_range.mp hj
    exact letP_inj hb (by omega) (by omega) (nameW_inj (letP_lt ..).1 (letP_lt ..).1 e)
  · obtain ⟨k, hk, rfl⟩ := List.mem_map.mp hz
    exact nameW_ok ht hl (letP_lt ..).1 (letP_lt ..).2
theorem Names.small {zs : List Str} {m : Nat} (h : Names zs m) {z : Str} (hz : z ∈ zs) : smallB 12 (.str z) = true := by
  obtain ⟨h1, h2, h3⟩ := h.ok z hz
  show ((decide (1 ≤ z.length) && decide (z.length ≤ 12)) && z.cps.toList.all lowC) = true
  rw [decide_eq_true h2, decide_eq_true h3, List.all_eq_true.mpr h1]
  rfl
def spNames : Sp := fun vs H Q _ => ∃ (d cl : Addr) (ns : List Int) (m n : Nat), vs = [.ref d, .int (m : Nat)] ∧ Pen H d cl ns n ∧ n ≤ 900000000 ∧ m ≤ 26 ∧ ∀ H' p zs, Fr [d] H H' → Pen H' d cl ns (n + 20) → H' p = some (.lst (zs.map V.str)) → Names zs m → Q (.ref p) H'
section
variable {P : Program} {w : World} {K : PySem.W.Frag} {mg : Str → Option Value} {base : Heap}
theorem scnames : FnScope ["pen", "many", "letters", "k", "tail", "first", "by", "way", "found", "letter"] ["pen", "many"] (defScope sNames) := ⟨rfl, rfl, rfl, by decide +kernel, rfl, by decide +kernel, by decide +kernel⟩
theorem ok_names {f : Addr} {fd : FuncData} (F : FnP K "_law_names" sNames f fd) {f__law_draw : Addr} {fd__law_draw : FuncData} (c__law_draw : Cl P w K mg base CX0 "_law_draw" 1 ["pen", "many"] (spDraw) f__law_draw fd__law_draw) (mb_range : mg "range" = none)   : FnOk P w K mg base CX0 2 f fd ["pen", "many"] (spNames) := by
  refine F.ok scnames (fun vs H Q E h => ?_) (fun cdv A outer s H vs Q E hr h => ?_)
  · obtain ⟨d, cl, ns, m, n, rfl, _⟩ := h
    rfl
  · obtain ⟨d, cl, ns, m, n, rfl, hP, hn, hm, q⟩ := h
    have hu := hu_of hr
    have hs := szl
    refine ⟨_, PSs.nox (pss_cons (ps_set (i := 2) scnames.nd rfl (Or.inr rfl) (pe_str))
      (pss_cons (ps_set (i := 4) scnames.nd rfl (Or.inr rfl) (pe_join (pe_str) (pe_lc (own := [("k", 3)]) (g := gName 3) (tt := tYes) rfl scnames.nd (pi_range1 (by rfl) mb_range (pa_cons (pe_call c__law_draw.ok (hr.mono (by decide)) (by rfl) c__law_draw.m c__law_draw.kp c__law_draw.b .nil pass0 (pa_cons (pv 0) (pa_cons (pe_int) pa_nil))) pa_nil)) (blkOk_by (own := [("k", 3)]) (N := ["pen", "many", "letters", "k", "tail", "first", "by", "way", "found", "letter"]) (sc := defScope sNames) (by decide +kernel)) (fun _ _ _ _ _ => pg_name (i := 3) scnames.nd rfl (Or.inl rfl)) (fun _ _ _ _ _ => pts_nil) (fun _ _ _ _ _ => pe_ix ix_str (pv 2) (pe_call c__law_draw.ok (hr.mono (by decide)) (by rfl) c__law_draw.m c__law_draw.kp c__law_draw.b .nil pass0 (pa_cons (pv 0) (pa_cons (pe_int) pa_nil))) (fun _ _ => rfl)))))
      (pss_cons (ps_set (i := 5) scnames.nd rfl (Or.inr rfl) (pe_call c__law_draw.ok (hr.mono (by decide)) (by rfl) c__law_draw.m c__law_draw.kp c__law_draw.b .nil pass0 (pa_cons (pv 0) (pa_cons (pe_int) pa_nil))))
      (pss_cons (ps_set (i := 6) scnames.nd rfl (Or.inr rfl) (pe_ix ix_list (pe_lst (pa_cons (pe_int) (pa_cons (pe_int) (pa_cons (pe_int) (pa_cons (pe_int) (pa_cons (pe_int) (pa_cons (pe_int) pa_nil))))))) (pe_call c__law_draw.ok (hr.mono (by decide)) (by rfl) c__law_draw.m c__law_draw.kp c__law_draw.b .nil pass0 (pa_cons (pv 0) (pa_cons (pe_int) pa_nil))) (fun _ _ => rfl)))
      (pss_cons (ps_set (i := 7) scnames.nd rfl (Or.inr rfl) (pe_call c__law_draw.ok (hr.mono (by decide)) (by rfl) c__law_draw.m c__law_draw.kp c__law_draw.b .nil pass0 (pa_cons (pv 0) (pa_cons (pe_int) pa_nil))))
      (pss_cons (ps_setLc (i := 8) (own := [("k", 3)]) (g := gName 3) (tt := tYes) rfl scnames.nd rfl rfl (sw_true rfl rfl rfl (by decide +kernel)) (pi_range1 (by rfl) mb_range (pa_cons (pv 1) pa_nil)) (blkOk_by (own := [("k", 3)]) (N := ["pen", "many", "letters", "k", "tail", "first", "by", "way", "found", "letter"]) (sc := defScope sNames) (by decide +kernel)) (fun _ _ _ _ _ => pg_name (i := 3) scnames.nd rfl (Or.inl rfl)) (fun _ _ _ _ _ => pts_nil) (fun _ _ _ _ _ => pe_ix ix_str (pv 2) (pe_op op_modN (pe_op op_add (pv 5) (pe_op op_mul (pv 6) (pv 3))) (pe_int)) (fun _ _ => rfl)))
      (pss_one (ps_ret (pe_lc (own := [("letter", 9)]) (g := gName 9) (tt := tYes) rfl scnames.nd (pi_list (pv 8)) (blkOk_by (own := [("letter", 9)]) (N := ["pen", "many", "letters", "k", "tail", "first", "by", "way", "found", "letter"]) (sc := defScope sNames) (by decide +kernel)) (fun _ _ _ _ _ => pg_name (i := 9) scnames.nd rfl (Or.inl rfl)) (fun _ _ _ _ _ => pts_nil) (fun _ _ _ _ _ => pe_ix (Cc.ix_listk (K := K) rfl) (pe_lst (pa_cons (pe_op op_add_str (pv 9) (pv 4)) (pa_cons (pe_op op_add_str (pv 4) (pv 9)) pa_nil))) (pv 7) (fun _ _ => rfl))))))))))), ?_⟩
    refine ⟨⟨_, rfl⟩, _, rfl, d, cl, ns, 12, n, rfl, hP, by omega, by decide, by decide, fun H1 k1 f1 P1 k10 k11 => ?_⟩
    obtain ⟨c, rfl⟩ := Int.eq_ofNat_of_zero_le k10
    refine ⟨_, rfl, by omega, by omega, fun L nL => ?_⟩
    obtain ⟨⟨xa, xb, hd1, _⟩, hc1, _⟩ := id P1
    have nLd : d ≠ L := ne_of_none hd1 nL
    have nLc : cl ≠ L := ne_of_none hc1 nL
    refine lc_acc (walk_range (lo := 0) (n := (c : Int).toNat)) (fun i acc H' => ∃ zs : List Str, acc = zs.map V.str ∧ (∀ z ∈ zs, z.length = 1 ∧ Low z) ∧ Fr [d, L] H1 H' ∧ Pen H' d cl ns (n + 1 + i))
      ⟨[], rfl, (fun _ z => by cases z), fr_upd (by simp), P1.fr (fr_new (S := []) nL) (by simp) (by simp)⟩ (fun _ _ _ _ _ _ => trivial) ?_ ?_
    · rintro i x acc H2 H3 hi la ⟨zs, rfl, h1, f2, P2⟩ hL ⟨rfl, rfl⟩
      refine ⟨rfl, _, rfl, _, rfl, d, cl, ns, 26, _, rfl, P2, by omega, by decide, by decide, fun H4 d4 f4 P4 d40 d41 => ?_⟩
      have hL4 := f4 _ _ (by simpa using nLd.symm) hL
      refine ⟨_, d4, 97 + d4.toNat, rfl, rfl, by rw [show (Str.ofString "abcdefghijklmnopqrstuvwxyz").length = 26 by decide +kernel]; omega, abc_at d40 d41, push hL4 la (by omega) ⟨zs ++ [⟨#[97 + d4.toNat]⟩], ?_, ?_, (f2.trans (f4.mono (by simp))).trans (fr_upd (by simp)), (P4.fr (S := [L]) (fr_upd (by simp)) (by simpa using nLd) (by simpa using nLc)).mono (by omega)⟩⟩
      · rw [List.map_append]
        rfl
      · intro z hz
        rcases List.mem_append.mp hz with h | h
        · exact h1 z h
        · rw [List.mem_singleton.mp h]
          exact ⟨rfl, low_one (by omega)⟩
    · rintro acc H2 la ⟨zs, rfl, h1, f2, P2⟩ hL
      obtain ⟨j1, j2, j3⟩ := Low.join h1
      rw [List.length_map] at la
      have f02 : Fr [d] H H2 := Fr.drop (p := L) (S := [d]) ((f1.mono (by simp)).trans (f2.mono (by simp))) (f1.free (by simpa using nLd.symm) nL)
      refine ⟨_, L, zs, rfl, rfl, .inl (SqL.of hL), by rw [j3]; omega, ?_⟩
      have lt : (Txt.join (Str.ofString "") zs).length ≤ 11 := by rw [j2]; omega
      clear hL f2 h1 j2 j3
      generalize Txt.join (Str.ofString "") zs = tail at j1 lt ⊢
      have P2 := P2.mono (m := n + 12) (by omega)
      -- first
      refine ⟨_, rfl, d, cl, ns, 26, _, rfl, P2, by omega, by decide, by decide, fun H5 a f5 P5 a0 a1 => ?_⟩
      -- by
      refine ⟨by show 6 ≤ sizeLine; decide, fun l nl => ⟨_, rfl, d, cl, ns, 6, _, rfl, P5.fr (fr_new (S := []) nl) (by simp) (by simp), by omega, by decide, by decide, fun H6 b f6 P6 b0 b1 => ?_⟩⟩
      obtain ⟨⟨xa5, xb5, hd5, _⟩, hc5, _⟩ := id P5
      have nld : d ≠ l := ne_of_none hd5 nl
      have hl6 : H6 l = some (.lst (bys.map V.int)) := f6 _ _ (by simpa using nld.symm) upd_same
      obtain ⟨by_, eb2, mb⟩ := atI_map (f := V.int) (xs := bys) b0 b1
      have f06 : Fr [d] H H6 := ((f02.trans f5).trans (fr_new nl)).trans f6
      refine ⟨l, _, b, _, rfl, rfl, SqL.of hl6, eb2, ?_⟩
      -- way
      refine ⟨_, rfl, d, cl, ns, 2, _, rfl, P6, by omega, by decide, by decide, fun H7 way f7 P7 w0 w1 => ?_⟩
      have f07 := f06.trans f7
      obtain ⟨⟨xa7, xb7, hd7, _⟩, hc7, _⟩ := id P7
      have hby : 3 ≤ by_ ∧ by_ ≤ 15 := by
        have : by_ = 3 ∨ by_ = 5 ∨ by_ = 7 ∨ by_ = 9 ∨ by_ = 11 ∨ by_ = 15 := by simpa [bys] using mb
        omega
      -- found
      refine ⟨_, rfl, _, rfl, by omega, by omega, fun L2 nL2 => ?_⟩
      have nd2 : d ≠ L2 := ne_of_none hd7 nL2
      have nc2 : cl ≠ L2 := ne_of_none hc7 nL2
      refine lc_acc (walk_range (lo := 0) (n := ((m : Nat) : Int).toNat)) (fun i acc H' => acc = ((List.range i).map fun k => V.str ⟨#[97 + (letP a by_ k).toNat]⟩) ∧ But L2 H7 H') ⟨rfl, But.refl.upd⟩ (fun _ _ _ _ _ _ => trivial) ?_ ?_
      · rintro i x acc H8 H9 hi la ⟨ea, b8⟩ hL2 ⟨rfl, rfl⟩
        refine ⟨rfl, _, rfl, _, rfl, _, rfl, _, rfl, _, _, rfl, rfl, .inl ⟨by omega, by omega⟩, _, _, rfl, rfl, _, _, rfl, rfl, (by show (26 : Int) ≠ 0; decide), ?_⟩
        have e0 : (a + by_ * (0 + (i : Int))).fmod 26 = letP a by_ i := by
          unfold letP
          rw [Int.zero_add]
        refine ⟨_, letP a by_ i, _, rfl, congrArg V.int e0, by rw [show (Str.ofString "abcdefghijklmnopqrstuvwxyz").length = 26 by decide +kernel]; omega, abc_at (letP_lt ..).1 (letP_lt ..).2, push hL2 la (by omega) ⟨?_, b8.upd⟩⟩
        rw [ea, List.range_succ, List.map_append]
        rfl
      · rintro acc H8 la ⟨rfl, b8⟩ hL2
        have s78 := b8.new nL2
        have em : ((m : Nat) : Int).toNat = m := by omega
        rw [em] at hL2
        have fin := names_of (a := a) (way := way) hm mb j1 lt
        refine ⟨_, rfl, L2, rfl, ⟨_, SqL.of hL2⟩, fun L3 nL3 => ?_⟩
        refine lc_acc (walk_list (K := K) (a := L2) (xs := (List.range m).map fun k => V.str ⟨#[97 + (letP a by_ k).toNat]⟩)) (fun i acc H' => acc = ((List.range i).map fun k => V.str (nameW way tail (letP a by_ k))) ∧ But L3 H8 H') ⟨rfl, But.refl.upd⟩ (fun i acc H' _ ⟨_, b⟩ _ => SqL.of (b _ _ (ne_of_none hL2 nL3) hL2)) ?_ ?_
        · rintro i x acc H9 H10 hi la ⟨ea, b9⟩ hL3 ⟨rfl, hx⟩
          rw [List.length_map, List.length_range] at hi
          rw [List.getElem?_map, List.getElem?_eq_getElem (by rw [List.length_range]; exact hi), List.getElem_range] at hx
          obtain rfl := Option.some.inj hx
          have l1 : (⟨#[97 + (letP a by_ i).toNat]⟩ : Str).length = 1 := rfl
          refine ⟨rfl, _, rfl, _, rfl, _, _, rfl, rfl, by rw [l1]; omega, _, rfl, _, rfl, _, _, rfl, rfl, by rw [l1]; omega, by show 2 ≤ sizeLine; decide, fun t nt => ?_⟩
          have hw : way = 0 ∨ way = 1 := by omega
          refine ⟨_, rfl, t, _, way, .str (nameW way tail (letP a by_ i)), rfl, rfl, SqL.of upd_same, ?_, push (newS nt _ _ hL3) la (by omega) ⟨?_, (b9.same (newS nt)).upd⟩⟩
          · rcases hw with rfl | rfl <;> rfl
          · rw [ea, List.range_succ, List.map_append]
            rfl
        · rintro acc H9 la ⟨rfl, b9⟩ hL3
          rw [List.length_map, List.length_range] at hL3
          have s89 := b9.new nL3
          refine q H9 L3 _ (f07.trans (fr_same (s78.trans s89))) ((P7.fr (S := []) (fr_same (s78.trans s89)) (by simp) (by simp)).mono (by omega)) ?_ fin
          rw [hL3, List.map_map]
          rfl
def fieldD (x : Str × Str) : PyData := .tuple [.str x.1, .str x.2]
def formD (fs : List (Str × Str)) : PyData := .tuple (fs.map fieldD)
/-- a form: its fields with their sorts -/
structure GoodF (fs : List (Str × Str)) : Prop where
  lo : 1 ≤ fs.length
  hi : fs.length ≤ 6
  nd : (fs.map Prod.fst).Nodup
  ok : ∀ x ∈ fs, Low x.1 ∧ 1 ≤ x.1.length ∧ x.1.length ≤ 12 ∧ x.2 ∈ sorts
theorem GoodF.form {fs : List (Str × Str)} (h : GoodF fs) : formB (formD fs) = true := by
  have e1 : (fs.map fieldD).length = fs.length := List.length_map _
  have e2 : (fs.map fieldD).map nameOf = fs.map Prod.fst := by
    rw [List.map_map]
    rfl
  show ((decide (1 ≤ (fs.map fieldD).length) && decide ((fs.map fieldD).length ≤ 6)) && (fs.map fieldD).all fieldB && decide (((fs.map fieldD).map nameOf).Nodup)) = true
  rw [e1, e2, decide_eq_true h.lo, decide_eq_true h.hi, decide_eq_true h.nd, List.all_map, List.all_eq_true.mpr]
  · rfl
  · intro x hx
    obtain ⟨h1, h2, h3, h4⟩ := h.ok x hx
    show (((decide (1 ≤ x.1.length) && decide (x.1.length ≤ 12)) && x.1.cps.toList.all lowC) && decide (x.2 ∈ sorts)) = true
    rw [decide_eq_true h2, decide_eq_true h3, decide_eq_true h4, List.all_eq_true.mpr h1]
    rfl
theorem sorts_ok {x : Str} (h : x ∈ sorts) : x.length ≤ 6 ∧ As x := by
  have : ∀ y ∈ sorts, y.length ≤ 6 ∧ ∀ c ∈ y.cps.toList, c < 128 := by decide +kernel
  exact this x h
theorem GoodF.bd {fs : List (Str × Str)} (h : GoodF fs) : Bd 64 2 (formD fs) := by
  refine ⟨by rw [List.length_map]; have := h.hi; omega, fun d hd => ?_⟩
  obtain ⟨x, hx, rfl⟩ := List.mem_map.mp hd
  obtain ⟨h1, h2, h3, h4⟩ := h.ok x hx
  refine ⟨by show 2 ≤ 64; omega, fun e he => ?_⟩
  rcases List.mem_cons.mp he with rfl | he
  · exact ⟨by omega, h1.as⟩
  · obtain rfl := List.mem_singleton.mp he
    have := sorts_ok h4
    exact ⟨by omega, this.2⟩
def spDForm (K : PySem.W.Frag) : Sp := fun vs H Q _ => ∃ (d cl p : Addr) (ns : List Int) (zs : List Str) (m n least : Nat), vs = [.ref d, .ref p, .int (least : Nat)] ∧ Pen H d cl ns n ∧ n ≤ 900000000 ∧ H p = some (.lst (zs.map V.str)) ∧ Names zs m ∧ 6 ≤ m ∧ 1 ≤ least ∧ least ≤ 6 ∧
  ∀ H' q fs, Fr [d] H H' → Pen H' d cl ns (n + 10) → Th K H' (.ref q) (formD fs) → GoodF fs → least ≤ fs.length → fs.map Prod.fst = zs.take fs.length → Q (.ref q) H'
def dsorts : List Str := ["code", "word", "amount", "text", "code", "word"]
theorem dsorts_in {x : Str} (h : x ∈ dsorts) : x ∈ sorts := (show ∀ y ∈ dsorts, y ∈ sorts by decide +kernel) x h
theorem th_fields {K : PySem.W.Frag} {H : Hp} : ∀ {ps : List (Addr × Str × Str)}, (∀ x ∈ ps, H x.1 = some (.tup [.str x.2.1, .str x.2.2])) → ThAll K H (ps.map fun x => V.ref x.1) ((ps.map Prod.snd).map fieldD)
  | [], _ => .nil
  | x :: r, h => .cons (.tup (SqT.of (h x (List.mem_cons_self ..))) (.cons (.str _) (.cons (.str _) .nil))) (th_fields fun y hy => h y (List.mem_cons_of_mem _ hy))
theorem scdform : FnScope ["pen", "names", "least", "sorts", "k"] ["pen", "names", "least"] (defScope sForm) := ⟨rfl, rfl, rfl, by decide +kernel, rfl, by decide +kernel, by decide +kernel⟩
theorem ok_dform {f : Addr} {fd : FuncData} (F : FnP K "_law_form" sForm f fd) {f__law_draw : Addr} {fd__law_draw : FuncData} (c__law_draw : Cl P w K mg base CX0 "_law_draw" 1 ["pen", "many"] (spDraw) f__law_draw fd__law_draw) (mb_range : mg "range" = none) (mb_tuple : mg "tuple" = none)   : FnOk P w K mg base CX0 2 f fd ["pen", "names", "least"] (spDForm K) := by
  refine F.ok scdform (fun vs H Q E h => ?_) (fun cdv A outer s H vs Q E hr h => ?_)
  · obtain ⟨d, cl, p, ns, zs, m, n, least, rfl, _⟩ := h
    rfl
  · obtain ⟨d, cl, p, ns, zs, m, n, least, rfl, hP, hn, hp, hN, hm, l1, l6, q⟩ := h
    have hu := hu_of hr
    have hs := szl
    refine ⟨_, PSs.nox (pss_cons (ps_set (i := 3) scdform.nd rfl (Or.inr rfl) (pe_lst (pa_cons (pe_str) (pa_cons (pe_str) (pa_cons (pe_str) (pa_cons (pe_str) (pa_cons (pe_str) (pa_cons (pe_str) pa_nil))))))))
      (pss_one (ps_ret (pe_callTy call_tuple_of (by rfl) mb_tuple (by decide +kernel) (pa_cons (pe_lc (own := [("k", 4)]) (g := gName 4) (tt := tYes) rfl scdform.nd (pi_range1 (by rfl) mb_range (pa_cons (pe_op op_add (pv 2) (pe_call c__law_draw.ok (hr.mono (by decide)) (by rfl) c__law_draw.m c__law_draw.kp c__law_draw.b .nil pass0 (pa_cons (pv 0) (pa_cons (pe_op op_sub (pe_int) (pv 2)) pa_nil)))) pa_nil)) (blkOk_by (own := [("k", 4)]) (N := ["pen", "names", "least", "sorts", "k"]) (sc := defScope sForm) (by decide +kernel)) (fun _ _ _ _ _ => pg_name (i := 4) scdform.nd rfl (Or.inl rfl)) (fun _ _ _ _ _ => pts_nil) (fun _ _ _ _ _ => pe_tup (pa_cons (pe_ix (Cc.ix_listk (K := K) rfl) (pv 1) (pv 4) (fun _ _ => rfl)) (pa_cons (pe_ix (Cc.ix_listk (K := K) rfl) (pv 3) (pe_call c__law_draw.ok (hr.mono (by decide)) (by rfl) c__law_draw.m c__law_draw.kp c__law_draw.b .nil pass0 (pa_cons (pv 0) (pa_cons (pe_int) pa_nil))) (fun _ _ => rfl)) pa_nil)))) pa_nil))))), ?_⟩
    refine ⟨by show 6 ≤ sizeLine; decide, fun s ns_ => ?_⟩
    obtain ⟨⟨xa0, xb0, hd0, _⟩, hc0, _⟩ := id hP
    have s0 := newS (o := .lst (dsorts.map V.str)) ns_
    have P0 : Pen (upd H s (.lst (dsorts.map V.str))) d cl ns n := hP.fr (fr_new (S := []) ns_) (by simp) (by simp)
    refine ⟨_, rfl, _, rfl, _, rfl, _, _, rfl, rfl, d, cl, ns, 7 - (least : Int), n, rfl, P0, by omega, by omega, by omega, fun H1 k1 f1 P1 k10 k11 => ?_⟩
    obtain ⟨c, rfl⟩ := Int.eq_ofNat_of_zero_le k10
    refine ⟨_, _, rfl, rfl, _, rfl, by omega, by omega, fun L nL => ?_⟩
    obtain ⟨⟨xa, xb, hd1, _⟩, hc1, _⟩ := id P1
    have nsd : d ≠ s := ne_of_none hd0 ns_
    have npd : p ≠ d := ne_of hp hd0 (by intro z; cases z)
    have hs1 : H1 s = some (.lst (dsorts.map V.str)) := f1 _ _ (by simpa using nsd.symm) upd_same
    have hp1 : H1 p = some (.lst (zs.map V.str)) := f1 _ _ (by simpa using npd) (s0 _ _ hp)
    have nLd : d ≠ L := ne_of_none hd1 nL
    have nLc : cl ≠ L := ne_of_none hc1 nL
    have nLs : s ≠ L := ne_of_none hs1 nL
    have nLp : p ≠ L := ne_of_none hp1 nL
    refine lc_acc (walk_range (lo := 0) (n := ((least : Int) + (c : Int)).toNat)) (fun i acc H' => ∃ ps : List (Addr × Str × Str), acc = ps.map (fun x => V.ref x.1) ∧ (∀ x ∈ ps, H' x.1 = some (.tup [.str x.2.1, .str x.2.2])) ∧ ps.map (fun x => x.2.1) = zs.take i ∧ (∀ x ∈ ps, x.2.2 ∈ sorts) ∧ Fr [d, L] H1 H' ∧ Pen H' d cl ns (n + 1 + i))
      ⟨[], rfl, (fun _ z => by cases z), rfl, (fun _ z => by cases z), fr_upd (by simp), P1.fr (fr_new (S := []) nL) (by simp) (by simp)⟩ (fun _ _ _ _ _ _ => trivial) ?_ ?_
    · rintro i x acc H2 H3 hi la ⟨ps, rfl, h1, h2, h3, f2, P2⟩ hL ⟨rfl, rfl⟩
      have hp2 : H3 p = some (.lst (zs.map V.str)) := f2 _ _ (by simp [npd, nLp]) hp1
      have hs2 : H3 s = some (.lst (dsorts.map V.str)) := f2 _ _ (by simp [nsd.symm, nLs]) hs1
      have iz : i < zs.length := by
        rw [hN.len]
        omega
      obtain ⟨z, ez, _⟩ : ∃ z, atI (zs.map V.str) (0 + (i : Int)) = some (.str z) ∧ zs[i]? = some z := by
        refine ⟨zs[i], ?_, List.getElem?_eq_getElem iz⟩
        rw [Int.zero_add]
        exact atI_nat (by rw [List.getElem?_map, List.getElem?_eq_getElem iz]; rfl)
      have ezi : zs[i]? = some z := by assumption
      refine ⟨rfl, _, rfl, _, rfl, p, _, _, _, rfl, rfl, SqL.of hp2, ez, _, rfl, _, rfl, d, cl, ns, 6, _, rfl, P2, by omega, by decide, by decide, fun H4 d4 f4 P4 d40 d41 => ?_⟩
      have hL4 := f4 _ _ (by simpa using nLd.symm) hL
      obtain ⟨y, ey, my⟩ := atI_map (f := V.str) (xs := dsorts) d40 d41
      refine ⟨s, _, d4, _, rfl, rfl, SqL.of (f4 _ _ (by simpa using nsd.symm) hs2), ey, by show 2 ≤ sizeLine; decide, fun t nt => ?_⟩
      have s4 := newS (o := .tup [.str z, .str y]) nt
      refine push (s4 _ _ hL4) la (by omega) ⟨ps ++ [(t, z, y)], ?_, ?_, ?_, ?_, ((f2.trans (f4.mono (by simp))).trans (fr_same s4)).trans (fr_upd (by simp)), ((P4.fr (fr_new (S := []) nt) (by simp) (by simp)).fr (S := [L]) (fr_upd (by simp)) (by simpa using nLd) (by simpa using nLc)).mono (by omega)⟩
      · rw [List.map_append]
        rfl
      · intro x hx
        have keep : ∀ o : HO, upd H4 t (.tup [.str z, .str y]) x.1 = some o → (∀ l, o ≠ .lst l) → upd (upd H4 t (.tup [.str z, .str y])) L (.lst (ps.map (fun x => V.ref x.1) ++ [V.ref t])) x.1 = some o := fun o ho no => by
          rw [upd_ne]
          · exact ho
          · exact ne_of ho (s4 _ _ hL4) (no _)
        rcases List.mem_append.mp hx with h | h
        · have e := h1 x h
          refine keep _ (s4 _ _ (f4 _ _ ?_ e)) (fun l e => by cases e)
          obtain ⟨⟨xa2, xb2, hd2, _⟩, _⟩ := id P2
          simpa using ne_of e hd2 (by intro z; cases z)
        · rw [List.mem_singleton.mp h] at keep ⊢
          exact keep _ upd_same (fun l e => by cases e)
      · rw [List.map_append, h2, List.take_succ, ezi]
        rfl
      · intro x hx
        rcases List.mem_append.mp hx with h | h
        · exact h3 x h
        · rw [List.mem_singleton.mp h]
          exact dsorts_in my
    · rintro acc H2 la ⟨ps, rfl, h1, h2, h3, f2, P2⟩ hL
      rw [List.length_map] at la
      refine ⟨L, _, rfl, .inl ⟨SqL.of hL, fun t nt => ?_⟩⟩
      have s2 := newS (o := .tup (ps.map fun x => V.ref x.1)) nt
      have fA : Fr [d] H (upd H2 t (.tup (ps.map fun x => V.ref x.1))) := by
        refine Fr.trans ?_ (fr_same s2)
        refine Fr.drop (p := L) (S := [d]) (((fr_same s0).trans (f1.mono (by simp))).trans (f2.mono (by simp))) ?_
        exact s0.free (f1.free (by simpa using nLd.symm) nL)
      have el : (ps.map Prod.snd).length = ps.length := List.length_map _
      have en : (ps.map Prod.snd).map Prod.fst = zs.take ps.length := by
        rw [List.map_map, la]
        exact h2
      refine q _ t (ps.map Prod.snd) fA ((P2.fr (fr_new (S := []) nt) (by simp) (by simp)).mono (by omega)) (.tup (SqT.of upd_same) (th_fields fun x hx => s2 _ _ (h1 x hx))) ⟨by omega, by omega, ?_, fun x hx => ?_⟩ (by omega) (by rw [en, el])
      · rw [en]
        exact hN.nd.sublist (List.take_sublist _ _)
      · obtain ⟨y, hy, rfl⟩ := List.mem_map.mp hx
        have mz : y.2.1 ∈ zs := by
          have : y.2.1 ∈ zs.take ps.length := by
            rw [← en, List.map_map]
            exact List.mem_map.mpr ⟨y, hy, rfl⟩
          exact List.mem_of_mem_take this
        obtain ⟨g1, g2, g3⟩ := hN.ok _ mz
        exact ⟨g1, g2, g3, h3 y hy⟩
end
end St6

set_option autoImplicit false
set_option maxHeartbeats 2000000
/-! pairs of two tuples; names out of a tuple within a comprehension -/
namespace Cc
open PySem PySem.Spec PyProof.Rows L2 RZ
theorem walk_zipT {K : PySem.W.Frag} {a b : Addr} {xs ys : List V} {n : Nat} (hn : n = min xs.length ys.length) : Walk (ItzT K a b) n (fun H => SqT K H a xs ∧ SqT K H b ys) (YPair (fun i => xs[i]?) (fun i => ys[i]?)) := by
  subst hn
  refine ⟨fun i _ hi q => ?_, fun _ q => ⟨xs, ys, q.1, q.2, by omega⟩, fun i H v H' _ q y => ?_⟩
  · have h1 : i < xs.length := by omega
    have h2 : i < ys.length := by omega
    exact ⟨xs, ys, xs[i], ys[i], q.1, q.2, by simp [h1], by simp [h2]⟩
  · obtain ⟨T, x, z, h1, h2, h3, h4, h5⟩ := y
    exact ⟨T, x, z, h1, h2, h3, h4 xs q.1, h5 ys q.2⟩
theorem pg_tupk {X : Cx} {K : PySem.W.Frag} (hk : X.K = K) {es : List Expr} {k : Nat} {t : TGs} {n : Nat} {pos : Pos} (hc : X.calm = true) (h : PGs X es t)
    (hn : (assignEach es X.env).length = n := by rfl) (hst : (assignEach es X.env).findIdx? (·.1) = none := by rfl) : PG X (.Tuple es k pos) (gTup K n t) := by
  rw [← hk]
  exact pg_tup hc h hn hst
end Cc

set_option autoImplicit false
set_option maxHeartbeats 4000000
namespace St6
open PySem PySem.Spec PyProof.Rows L2 Tg Cc
/-! values that fit, told of any thing -/
def signB (c : Nat) : Bool := (decide (32 ≤ c) && decide (c ≤ 126)) && decide (c ≠ 37)
def txtB : PyData → Bool
  | .str s => s.cps.toList.all signB
  | _ => false
def wholeB : PyData → Bool
  | .int _ => true
  | _ => false
def lenB (n : Nat) : PyData → Bool
  | .str s => decide (s.length ≤ n)
  | _ => false
def ofSort (s : Str) (d : PyData) : Bool := if s = "word" then smallB 8 d else if s = "text" then txtB d && lenB 40 d else wholeB d
def fitsB (fs : List (Str × Str)) : PyData → Bool
  | .tuple ds => decide (ds.length = fs.length) && (ds.zip fs).all fun x => ofSort x.2.2 x.1
  | _ => false
theorem le_blank (c : Nat) : (!decide (((⟨#[c]⟩ : Str).cps.toList) < (" " : Str).cps.toList)) = decide (32 ≤ c) := by
  show (!decide ([c] < [32])) = _
  by_cases h : c < 32
  · have e : [c] < [32] := List.Lex.rel h
    rw [decide_eq_true e, decide_eq_false (by omega)]
    rfl
  · have e : ¬ [c] < [32] := fun z => by
      cases z with
      | rel z => exact h z
      | cons z => cases z
    rw [decide_eq_false e, decide_eq_true (by omega)]
    rfl
theorem tilde_le (c : Nat) : (!decide (("~" : Str).cps.toList < ((⟨#[c]⟩ : Str).cps.toList))) = decide (c ≤ 126) := by
  show (!decide ([126] < [c])) = _
  by_cases h : 126 < c
  · have e : [126] < [c] := List.Lex.rel h
    rw [decide_eq_true e, decide_eq_false (by omega)]
    rfl
  · have e : ¬ [126] < [c] := fun z => by
      cases z with
      | rel z => exact h z
      | cons z => cases z
    rw [decide_eq_false e, decide_eq_true (by omega)]
    rfl
def spSign : Sp := fun vs H Q _ => ∃ c : Nat, vs = [.str ⟨#[c]⟩] ∧ Q (.bl (signB c)) H
def spTextB (K : PySem.W.Frag) : Sp := fun vs H Q _ => ∃ v d, vs = [v] ∧ Th K H v d ∧ Ok d ∧ ∀ H', Same H H' → Q (.bl (txtB d)) H'
def spWhole (K : PySem.W.Frag) : Sp := fun vs H Q _ => ∃ v d, vs = [v] ∧ Th K H v d ∧ Ok d ∧ ∀ H', Same H H' → Q (.bl (wholeB d)) H'
def spOfSort (K : PySem.W.Frag) : Sp := fun vs H Q _ => ∃ v d s, vs = [v, .str s] ∧ Th K H v d ∧ Ok d ∧ ∀ H', Same H H' → Q (.bl (ofSort s d)) H'
def spFits (K : PySem.W.Frag) : Sp := fun vs H Q _ => ∃ f fs v d, vs = [f, v] ∧ Th K H f (formD fs) ∧ Ok (formD fs) ∧ formB (formD fs) = true ∧ Th K H v d ∧ Ok d ∧ ∀ H', Same H H' → Q (.bl (fitsB fs d)) H'
theorem txtB_not {d : PyData} (h : isStr d = false) : txtB d = false := by
  cases d <;> first | rfl | cases h
theorem dec_str {x y : Str} : decide (V.str x = V.str y) = decide (x = y) := decide_eq_decide.mpr ⟨fun h => V.str.inj h, fun h => by rw [h]⟩
theorem whole_is (d : PyData) : wholeB d = (isInt d && !isBool d) := by cases d <;> rfl
theorem fitsB_not {fs : List (Str × Str)} {d : PyData} (h : isTup d = false) : fitsB fs d = false := by
  cases d <;> first | rfl | cases h
theorem zip_take {α β : Type} : ∀ {l : List α} {m : List β} {i : Nat} {x : α} {y : β}, l[i]? = some x → m[i]? = some y → (l.zip m).take (i + 1) = (l.zip m).take i ++ [(x, y)] := fun {l m i x y} h1 h2 => by
  rw [List.take_succ]
  have e : (l.zip m)[i]? = some (x, y) := by
    rw [List.getElem?_zip_eq_some]
    exact ⟨h1, h2⟩
  rw [e]
  rfl
section
variable {P : Program} {w : World} {K : PySem.W.Frag} {mg : Str → Option Value} {base : Heap}
theorem scsign : FnScope ["sign"] ["sign"] (defScope sIsSign) := ⟨rfl, rfl, rfl, by decide +kernel, rfl, by decide +kernel, by decide +kernel⟩
theorem ok_sign {f : Addr} {fd : FuncData} (F : FnP K "is_sign" sIsSign f fd)  (mb_ord : mg "ord" = none) {u37 : Value} (m_PERCENT : mg "PERCENT" = some u37) (h37 : RelV (.int 37) u37)  : FnOk P w K mg base CX0 1 f fd ["sign"] (spSign) := by
  refine F.ok scsign (fun vs H Q E h => ?_) (fun cdv A outer s H vs Q E hr h => ?_)
  · obtain ⟨c, rfl, _⟩ := h
    rfl
  · obtain ⟨c, rfl, q⟩ := h
    have hu := hu_of hr
    refine ⟨_, PSs.nox (pss_one (ps_ret (pe_and (pe_chain op_le_str op_le_str (pe_str) (pv 0) (pe_str)) (pe_one (pe_cmpR op_ne (pe_callB call_ord (by rfl) mb_ord (by decide +kernel) (pa_cons (pv 0) pa_nil)) (pe_glob rfl m_PERCENT h37) (nomark _)))))), ?_⟩
    have e : signB c = ((decide (32 ≤ c) && decide (c ≤ 126)) && decide (c ≠ 37)) := rfl
    have l1 : (⟨#[c]⟩ : Str).length = 1 := rfl
    refine ⟨_, rfl, _, _, rfl, rfl, _, rfl, ite2 (fun e1 => ?_) (fun e1 => ?_)⟩
    · rw [le_blank] at e1
      refine ⟨_, _, rfl, rfl, _, rfl, ite2 (fun e2 => ?_) (fun e2 => ?_)⟩
      · rw [tilde_le] at e2
        refine ⟨_, rfl, ⟨#[c]⟩, rfl, l1, rfl, ?_⟩
        rw [e, e1, e2] at q
        have e3 : (!decide (V.int ((c : Nat) : Int) = V.int 37)) = decide (c ≠ 37) := by
          rw [dec_int, decide_not]
          congr 1
          exact decide_eq_decide.mpr (by omega)
        exact (show Q (.bl (!decide (V.int ((c : Nat) : Int) = V.int 37))) H from by rw [e3]; exact q)
      · rw [tilde_le] at e2
        rw [e, e1, Bool.eq_false_iff.mpr e2] at q
        exact q
    · rw [le_blank] at e1
      rw [e, Bool.eq_false_iff.mpr e1] at q
      exact ⟨_, rfl, iteF q⟩
theorem sctext : FnScope ["thing", "sign"] ["thing"] (defScope sIsText) := ⟨rfl, rfl, rfl, by decide +kernel, rfl, by decide +kernel, by decide +kernel⟩
theorem ok_text {f : Addr} {fd : FuncData} (F : FnP K "is_text" sIsText f fd) {f_is_sign : Addr} {fd_is_sign : FuncData} (c_is_sign : Cl P w K mg base CX0 "is_sign" 1 ["sign"] (spSign) f_is_sign fd_is_sign) (mb_isinstance : mg "isinstance" = none) (mb_str : mg "str" = none) (mb_all : mg "all" = none)   : FnOk P w K mg base CX0 2 f fd ["thing"] (spTextB K) := by
  refine F.ok sctext (fun vs H Q E h => ?_) (fun cdv A outer s H vs Q E hr h => ?_)
  · obtain ⟨v, d, rfl, _⟩ := h
    rfl
  · obtain ⟨v, d, rfl, hT, hB, q⟩ := h
    have hu := hu_of hr
    refine ⟨_, PSs.nox (pss_one (ps_ret (pe_and (pe_callB call_isi (by rfl) mb_isinstance (by decide +kernel) (pa_cons (pv 0) (pa_cons (pe_bltn (v := .ty "str") (by rfl) mb_str (by decide +kernel) rfl) pa_nil))) (pe_one (pe_callB (cr_all rfl) (by rfl) mb_all (by decide +kernel) (pa_cons (pe_lc (own := [("sign", 1)]) (g := gName 1) (tt := tYes) rfl sctext.nd (pi_str (pv 0)) (blkOk_by (own := [("sign", 1)]) (N := ["thing", "sign"]) (sc := defScope sIsText) (by decide +kernel)) (fun _ _ _ _ _ => pg_name (i := 1) sctext.nd rfl (Or.inl rfl)) (fun _ _ _ _ _ => pts_nil) (fun _ _ _ _ _ => pe_call c_is_sign.ok (hr.mono (by decide)) (by rfl) c_is_sign.m c_is_sign.kp c_is_sign.b .nil pass0 (pa_cons (pv 1) pa_nil))) pa_nil)))))), ?_⟩
    refine ⟨_, rfl, v, .ty "str", _, _, _, rfl, .ty "str", hT.ty, kit_ty (kit_str d), _, rfl, ?_⟩
    cases hs : isStr d with
    | false =>
      have e := q H (Same.refl H)
      rw [txtB_not hs] at e
      exact iteF e
    | true =>
      obtain ⟨z, rfl⟩ := isStr_eq hs
      obtain rfl := hT.asStr
      refine iteT ⟨_, rfl, z, rfl, fun D nD => ?_⟩
      have hz := (bd_str.mp hB).1
      have hl : z.length = z.cps.size := rfl
      refine lc_acc (walk_str (z := z)) (fun i acc H' => But D H H' ∧ acc = (z.cps.toList.take i).map fun c => V.bl (signB c)) ⟨But.refl.upd, rfl⟩ (fun _ _ _ _ _ _ => trivial) ?_ ?_
      · rintro i x acc H1 H2 hi la ⟨b, ea⟩ hD ⟨rfl, c, hc, rfl⟩
        have hc2 : z.cps.toList[i]? = some c := by rw [Array.getElem?_toList]; exact hc
        refine ⟨rfl, _, rfl, c, rfl, push hD la (by omega) ⟨b.upd, ?_⟩⟩
        rw [ea, List.take_succ, hc2, List.map_append]
        rfl
      · rintro acc H' la ⟨b, rfl⟩ hD
        rw [List.take_of_length_le (by rw [Array.length_toList]; exact Nat.le_refl _)] at hD
        refine ⟨D, z.cps.toList.map signB, rfl, SqL.of (by rw [hD, List.map_map]; rfl), ?_⟩
        rw [List.all_map]
        exact q H' (b.new nD)
theorem scwhole : FnScope ["thing"] ["thing"] (defScope sIsWhole) := ⟨rfl, rfl, rfl, by decide +kernel, rfl, by decide +kernel, by decide +kernel⟩
theorem ok_whole {f : Addr} {fd : FuncData} (F : FnP K "is_whole" sIsWhole f fd)  (mb_isinstance : mg "isinstance" = none) (mb_int : mg "int" = none) (mb_bool : mg "bool" = none)   : FnOk P w K mg base CX0 1 f fd ["thing"] (spWhole K) := by
  refine F.ok scwhole (fun vs H Q E h => ?_) (fun cdv A outer s H vs Q E hr h => ?_)
  · obtain ⟨v, d, rfl, _⟩ := h
    rfl
  · obtain ⟨v, d, rfl, hT, hB, q⟩ := h
    have hu := hu_of hr
    refine ⟨_, PSs.nox (pss_one (ps_ret (pe_and (pe_callB call_isi (by rfl) mb_isinstance (by decide +kernel) (pa_cons (pv 0) (pa_cons (pe_bltn (v := .ty "int") (by rfl) mb_int (by decide +kernel) rfl) pa_nil))) (pe_one (pe_not (pe_callB call_isi (by rfl) mb_isinstance (by decide +kernel) (pa_cons (pv 0) (pa_cons (pe_bltn (v := .ty "bool") (by rfl) mb_bool (by decide +kernel) rfl) pa_nil)))))))), ?_⟩
    refine ⟨_, rfl, v, .ty "int", _, _, _, rfl, .ty "int", hT.ty, kit_ty (kit_int d), _, rfl, ?_⟩
    rw [whole_is] at q
    cases hi : isInt d with
    | false =>
      rw [hi] at q
      exact iteF (q H (Same.refl H))
    | true =>
      rw [hi] at q
      exact iteT ⟨_, rfl, v, .ty "bool", _, _, _, rfl, .ty "bool", hT.ty, kit_ty (kit_bool d), _, rfl, q H (Same.refl H)⟩
theorem scofsort : FnScope ["value", "sort"] ["value", "sort"] (defScope sIsOfSort) := ⟨rfl, rfl, rfl, by decide +kernel, rfl, by decide +kernel, by decide +kernel⟩
theorem ok_ofsort {f : Addr} {fd : FuncData} (F : FnP K "is_of_sort" sIsOfSort f fd) {f__is_small : Addr} {fd__is_small : FuncData} (c__is_small : Cl P w K mg base CX0 "_is_small" 1 ["thing", "longest"] (spSmall K) f__is_small fd__is_small) {f_is_text : Addr} {fd_is_text : FuncData} (c_is_text : Cl P w K mg base CX0 "is_text" 2 ["thing"] (spTextB K) f_is_text fd_is_text) {f_is_whole : Addr} {fd_is_whole : FuncData} (c_is_whole : Cl P w K mg base CX0 "is_whole" 1 ["thing"] (spWhole K) f_is_whole fd_is_whole) (mb_len : mg "len" = none) {u8 u40 : Value} (m_LONGEST_WORD : mg "LONGEST_WORD" = some u8) (h8 : RelV (.int 8) u8) (m_LONGEST_TEXT : mg "LONGEST_TEXT" = some u40) (h40 : RelV (.int 40) u40)  : FnOk P w K mg base CX0 3 f fd ["value", "sort"] (spOfSort K) := by
  refine F.ok scofsort (fun vs H Q E h => ?_) (fun cdv A outer s H vs Q E hr h => ?_)
  · obtain ⟨v, d, s, rfl, _⟩ := h
    rfl
  · obtain ⟨v, d, s, rfl, hT, hB, q⟩ := h
    have hu := hu_of hr
    refine ⟨_, PSs.nox (pss_cons (ps_if (pt_cmpR op_eq (pv 1) (pe_str) (nomark _)) (pss_one (ps_ret (pe_call c__is_small.ok (hr.mono (by decide)) (by rfl) c__is_small.m c__is_small.kp c__is_small.b .nil pass0 (pa_cons (pv 0) (pa_cons (pe_glob rfl m_LONGEST_WORD h8) pa_nil))))) (pss_nil))
      (pss_cons (ps_if (pt_cmpR op_eq (pv 1) (pe_str) (nomark _)) (pss_one (ps_ret (pe_and (pe_call c_is_text.ok (hr.mono (by decide)) (by rfl) c_is_text.m c_is_text.kp c_is_text.b .nil pass0 (pa_cons (pv 0) pa_nil)) (pe_one (pe_cmpR op_le (pe_callB call_len_str (by rfl) mb_len (by decide +kernel) (pa_cons (pv 0) pa_nil)) (pe_glob rfl m_LONGEST_TEXT h40) (nomark _)))))) (pss_nil))
      (pss_one (ps_ret (pe_call c_is_whole.ok (hr.mono (by decide)) (by rfl) c_is_whole.m c_is_whole.kp c_is_whole.b .nil pass0 (pa_cons (pv 0) pa_nil)))))), ?_⟩
    unfold ofSort at q
    refine ⟨_, rfl, rfl, _, rfl, ite2 (fun e => ?_) (fun e => ?_)⟩
    · rw [dec_str] at e
      rw [if_pos (of_decide_eq_true e)] at q
      exact ⟨_, rfl, v, d, 8, rfl, hT, hB, q⟩
    · rw [dec_str] at e
      rw [if_neg (fun z => e (decide_eq_true z))] at q
      refine ⟨_, rfl, rfl, _, rfl, ite2 (fun e2 => ?_) (fun e2 => ?_)⟩
      · rw [dec_str] at e2
        rw [if_pos (of_decide_eq_true e2)] at q
        refine ⟨_, rfl, v, d, rfl, hT, hB, fun H1 s1 => ⟨_, rfl, ?_⟩⟩
        cases ht : txtB d with
        | false =>
          rw [ht, Bool.false_and] at q
          exact iteF (q H1 s1)
        | true =>
          rw [ht, Bool.true_and] at q
          cases hs : isStr d with
          | false =>
            rw [txtB_not hs] at ht
            cases ht
          | true =>
            obtain ⟨z, rfl⟩ := isStr_eq hs
            obtain rfl := hT.asStr
            have hz := (bd_str.mp hB).1
            refine iteT ⟨_, rfl, z, rfl, lineN hz, _, _, rfl, rfl, ?_⟩
            have e3 : decide ((z.length : Int) ≤ 40) = decide (z.length ≤ 40) := decide_eq_decide.mpr (by omega)
            exact (show Q (.bl (decide ((z.length : Int) ≤ 40))) H1 from by rw [e3]; exact q H1 s1)
      · rw [dec_str] at e2
        rw [if_neg (fun z => e2 (decide_eq_true z))] at q
        exact ⟨_, rfl, v, d, rfl, hT, hB, q⟩
end
end St6

set_option autoImplicit false
set_option maxHeartbeats 2000000
/-! dicts by a comprehension -/
namespace Nn
open PySem PySem.Spec PyProof.Rows L2
section
variable {J : It} {n : Nat} {G : Hp → Prop} {Y : Nat → Hp → V → Hp → Prop}
theorem dc_it (w : Walk J n G Y) {g : TG} {tt : TT} {tk tv : TE} {vs : List Nat} {σ : L2.St} {H1 : Hp} {D : Addr} {Qd : Hp → Prop} (Pv : Nat → Hp → Prop) (h0 : Pv 0 (upd H1 D (.dK []))) (hG : ∀ i H, i ≤ n → Pv i H → G H)
    (hs : ∀ i x H H', i < n → Pv i H → Y i H x H' → g x (wipe σ vs) H' fun σ2 H2 => wipe σ2 vs = wipe σ vs ∧ tt σ2 H2 fun b H3 =>
      if b = true then tk σ2 H3 fun y H4 => tv σ2 H4 fun z H5 => ∃ kvs k, y = kV k ∧ H5 D = some (.dK kvs) ∧ kvs.length < sizeLine ∧ Pv (i + 1) (upd H5 D (.dK (putK kvs k z))) else Pv (i + 1) H3) (hd : ∀ H, Pv n H → Qd H) :
    ∃ W : Nat → Nat → Hp → Prop, (∃ m, W 0 m (upd H1 D (.dK []))) ∧ ∀ i m H, W i m H →
      (J.stop i H ∧ Qd H) ∨ (J.go i H ∧ ∃ Nx : Hp → Prop, (∀ H', Nx H' → ∃ m', m' < m ∧ W (i + 1) m' H') ∧ ∀ x H', J.yld i H x H' → g x (wipe σ vs) H' fun σ2 H2 => wipe σ2 vs = wipe σ vs ∧ tt σ2 H2 fun b H3 =>
        if b = true then tk σ2 H3 fun y H4 => tv σ2 H4 fun z H5 => ∃ kvs k, y = kV k ∧ H5 D = some (.dK kvs) ∧ kvs.length < sizeLine ∧ Nx (upd H5 D (.dK (putK kvs k z))) else Nx H3) := by
  refine ⟨fun i m H => m = n - i ∧ i ≤ n ∧ Pv i H, ⟨n, by simp, Nat.zero_le _, h0⟩, ?_⟩
  rintro i m H ⟨rfl, hi, p⟩
  have q := hG i H hi p
  by_cases hlt : i < n
  · exact .inr ⟨w.goes i H hlt q, Pv (i + 1), fun H' p' => ⟨n - (i + 1), by omega, rfl, hlt, p'⟩, fun x H' y => hs i x H H' hlt p (w.yields i H x H' hlt q y)⟩
  · have e : i = n := by omega
    subst e
    exact .inl ⟨w.stops H q, hd H p⟩
end
end Nn

set_option autoImplicit false
/-! a call of what a local holds, the promise told where it is read -/
namespace Nn
open PySem PySem.Spec PyProof.Rows L2
def tCallH (P : Program) (w : World) (K : PySem.W.Frag) (mg : Str → Option Value) (base : Heap) (k i : Nat) (t : TA) : TE := fun σ H Q => ∃ f sp, σ[i]? = some (some (.ref f)) ∧ Held P w K mg base k f sp ∧ t σ H fun vs H1 => sp vs H1 Q (fun _ _ _ => False)
theorem pe_callH {X : Cx} {k i : Nat} {x : Str} {p pos : Pos} {e : Expr} {es : List Expr} {t : TA} (hr : Room k X.A) (hN : X.N[i]? = some x) (hv : Vis X.env.scope x) (ha : PA X (e :: es) t)
    (hdb : (x == ("__debug__" : Str)) = false := by decide) (hcd : (x == ("__classdict__" : Str)) = false := by decide)
    (he : starEach (e :: es) X.env = (false, eval e X.env) :: starEach es X.env := by rfl) (hpl : (backTo pos (starEach es X.env)).any (·.1) = false := by rfl) : PE X (.Call (.Name x p) (e :: es) [] pos) (tCallH X.prog X.w X.K X.mg X.base k i t) := by
  refine ⟨fun pins s σ H Q I h => ?_⟩
  obtain ⟨f, sp, hs, HH, ht⟩ := h
  obtain ⟨fd, ps, F, hk, hb⟩ := HH.ex
  refine (pe_callL (i := i) (f := f) (sp := sp) (dvs := []) (E := fun _ _ _ => False) F hr hN hv hk hb .nil (fun _ _ _ _ _ _ _ z => z.elim) ha hdb hcd he hpl).run pins s σ H Q I ⟨hs, ?_⟩
  have e0 : (fun (vs : List V) (H1 : Hp) => sp (vs ++ []) H1 Q (fun _ _ _ => False)) = fun vs H1 => sp vs H1 Q (fun _ _ _ => False) := by
    funext vs H1
    rw [List.append_nil]
  show t σ H (fun vs H1 => sp (vs ++ []) H1 Q (fun _ _ _ => False))
  rw [e0]
  exact ht
theorem op_inSk {X : Cx} {K : PySem.W.Frag} (h : X.K = K) : OpR X (compareOp .In) (rIn K false) := by
  subst h
  exact op_in_seq
theorem op_notInSk {X : Cx} {K : PySem.W.Frag} (h : X.K = K) : OpR X (compareOp .NotIn) (rIn K true) := by
  subst h
  exact op_notIn_seq
end Nn

set_option autoImplicit false
set_option maxHeartbeats 4000000
namespace St6
open PySem PySem.Spec PyProof.Rows L2 Tg Cc Nn
/-! what steps make of fields -/
def sortOf (fs : Fs) : PyData → Option Str
  | .str s => getF fs s
  | _ => none
def isNewB (fs : Fs) (d : PyData) : Bool := smallB 12 d && (sortOf fs d).isNone
def amongB (l : List Str) : Option Str → Bool
  | some s => decide (s ∈ l)
  | none => false
def numsL : List Str := ["code", "amount"]
def testL : List Str := ["code", "word"]
def joinL : List Str := ["word", "text"]
def txtOf : PyData → Str
  | .str s => s
  | _ => ""
def renameB (fs : Fs) (old new : PyData) : Option Fs := if ((sortOf fs old).isSome && isNewB fs new) = true then some (fs.map fun x => (if x.1 = txtOf old then txtOf new else x.1, x.2)) else none
def copyB (fs : Fs) (old new : PyData) : Option Fs := match sortOf fs old with
  | some s => if isNewB fs new = true then some (fs ++ [(txtOf new, s)]) else none
  | none => none
def dropB (fs : Fs) (old : PyData) : Option Fs := if (sortOf fs old).isSome = true then some (fs.filter fun x => !decide (x.1 = txtOf old)) else none
def putB (fs : Fs) (new sort value : PyData) : Option Fs := if (isNewB fs new && (sortB sort && ofSort (txtOf sort) value)) = true then some (fs ++ [(txtOf new, txtOf sort)]) else none
def scaleB (fs : Fs) (field times plus : PyData) : Option Fs := if (amongB numsL (sortOf fs field) && (wholeB times && wholeB plus)) = true then some fs else none
def sumsB (fs : Fs) : PyData → Bool
  | .tuple l => decide (1 ≤ l.length) && decide (l.length ≤ 6) && l.all fun f => amongB numsL (sortOf fs f)
  | _ => false
def sumB (fs : Fs) (new fields : PyData) : Option Fs := if (isNewB fs new && sumsB fs fields) = true then some (fs ++ [(txtOf new, ("amount" : Str))]) else none
def sayC (c : Nat) : Bool := decide (c ∈ (Str.ofString "abcdefghijklmnopqrstuvwxyz0123456789 -").cps.toList)
def sayB : PyData → Bool
  | .str s => (decide (1 ≤ s.length) && decide (s.length ≤ 12)) && s.cps.toList.all sayC
  | _ => false
def partB (fs : Fs) : PyData → Bool
  | .tuple [.str w, d] => if w = "say" then sayB d else (decide (w = "field") && amongB joinL (sortOf fs d))
  | _ => false
def partsB (fs : Fs) : PyData → Bool
  | .tuple l => decide (1 ≤ l.length) && decide (l.length ≤ 8) && l.all (partB fs)
  | _ => false
def joinB (fs : Fs) (new parts : PyData) : Option Fs := if (isNewB fs new && partsB fs parts) = true then some (fs ++ [(txtOf new, ("text" : Str))]) else none
def rowB (elder sort : Str) : PyData → Bool
  | .tuple [a, b] => ofSort elder a && ofSort sort b
  | _ => false
/-- the key that a row's first thing is -/
def keyOf : PyData → Key
  | .tuple (.int i :: _) => .inl i
  | .tuple (.str s :: _) => .inr s
  | _ => .inl 0
def rowsB (elder sort : Str) : PyData → Bool
  | .tuple l => (decide (l.length ≤ 4) && l.all (rowB elder sort)) && decide ((l.map keyOf).Nodup)
  | _ => false
def otherB (elder sort : Str) : PyData → Bool
  | .none => decide (sort = elder)
  | .tuple [x] => ofSort sort x
  | _ => false
def tableB (fs : Fs) (field sort rows other : PyData) : Option Fs := match sortOf fs field with
  | some elder => if (((decide (elder ∈ testL) && sortB sort) && decide (txtOf sort ∈ testL)) && (rowsB elder (txtOf sort) rows && otherB elder (txtOf sort) other)) = true then some (setF fs (txtOf field) (txtOf sort)) else none
  | none => none
def bothB (a b : Except Nat Fs) : Option Fs := match a, b with
  | .ok x, .ok y => if eqF x y = true then some x else none
  | _, _ => none
def caseB (rec : Fs → PyData → Except Nat Fs) (fs : Fs) (field value yes no : PyData) : Option Fs := match sortOf fs field with
  | some s => if (decide (s ∈ testL) && ofSort s value) = true then bothB (rec fs yes) (rec fs no) else none
  | none => none
def leadB (rec : Fs → PyData → Except Nat Fs) (fs : Fs) (w : Str) : List PyData → Option Fs
  | [a] => if w = "drop" then dropB fs a else none
  | [a, b] => if w = "rename" then renameB fs a b else if w = "copy" then copyB fs a b else if w = "sum" then sumB fs a b else if w = "join" then joinB fs a b else none
  | [a, b, c] => if w = "put" then putB fs a b c else if w = "scale" then scaleB fs a b c else none
  | [a, b, c, d] => if w = "table" then tableB fs a b c d else if w = "case" then caseB rec fs a b c d else none
  | _ => none
def stepB (rec : Fs → PyData → Except Nat Fs) (fs : Fs) : PyData → Option Fs
  | .tuple (.str w :: r) => leadB rec fs w r
  | _ => none
def goB (st : Fs → PyData → Option Fs) : Nat → Fs → List PyData → Except Nat Fs
  | _, fs, [] => .ok fs
  | i, fs, d :: r => match st fs d with
    | some gs => goB st (i + 1) gs r
    | none => .error i
def overB (st : Fs → PyData → Option Fs) (fs : Fs) : PyData → Except Nat Fs
  | .list ds => goB st 0 fs ds
  | .tuple ds => goB st 0 fs ds
  | _ => .error 0
/-- of cases within cases to c -/
def stepsB : Nat → Fs → PyData → Except Nat Fs
  | 0, fs, d => overB (stepB fun _ _ => .error 0) fs d
  | c + 1, fs, d => overB (stepB (stepsB c)) fs d
/-- how many fields are put at most -/
def items : PyData → List PyData
  | .list ds => ds
  | .tuple ds => ds
  | _ => []
def growB : Nat → PyData → Nat
  | 0, d => (items d).length
  | c + 1, d => ((items d).map fun s => 1 + ((items s).map (growB c)).sum).sum
/-- told: the fields behind, or None -/
def Res (o : Option Fs) (H : Hp) (Q : VK) : Prop := match o with
  | some gs => ∀ H' q, Same H H' → H' q = some (.dK (kvsOf gs)) → Q (.ref q) H'
  | none => ∀ H', Same H H' → Q .non H'
theorem Res.same {o : Option Fs} {H H1 : Hp} {Q : VK} (h : Res o H Q) (s : Same H H1) : Res o H1 Q := by
  cases o with
  | some gs => exact fun H' q s2 e => h H' q (s.trans s2) e
  | none => exact fun H' s2 => h H' (s.trans s2)
/-- a dict of fields -/
structure Fd (H : Hp) (sd : Addr) (fs : Fs) : Prop where
  at_ : H sd = some (.dK (kvsOf fs))
  nd : (fs.map Prod.fst).Nodup
  lim : fs.length ≤ 2000000
theorem Fd.same {H H1 : Hp} {sd : Addr} {fs : Fs} (h : Fd H sd fs) (s : Same H H1) : Fd H1 sd fs := ⟨s _ _ h.at_, h.nd, h.lim⟩
theorem Fd.get {H : Hp} {sd : Addr} {fs : Fs} (h : Fd H sd fs) (s : Str) : DGet H sd (.str s) ((getF fs s).map V.str) := by
  have e := DGet.k (k := Sum.inr s) h.at_
  rw [val_of] at e
  exact e
theorem sortOf_str (fs : Fs) (s : Str) : sortOf fs (.str s) = getF fs s := rfl
theorem sortOf_not {fs : Fs} {d : PyData} (h : isStr d = false) : sortOf fs d = none := by
  cases d <;> first | rfl | cases h
theorem isNew_not {fs : Fs} {d : PyData} (h : isStr d = false) : isNewB fs d = false := by
  unfold isNewB
  rw [smallB_not h]
  rfl
theorem isNew_str {fs : Fs} {d : PyData} (h : isNewB fs d = true) : ∃ s, d = .str s := by
  unfold isNewB at h
  rw [Bool.and_eq_true] at h
  exact small_str h.1
theorem getF_none {fs : Fs} {s : Str} (h : getF fs s = none) : s ∉ fs.map Prod.fst := fun hm => by
  obtain ⟨x, hx, rfl⟩ := List.mem_map.mp hm
  unfold getF at h
  have h2 : (fs.find? fun y => decide (y.1 = x.1)) = none := by
    cases e : fs.find? fun y => decide (y.1 = x.1) with
    | none => rfl
    | some y =>
      rw [e] at h
      cases h
  exact List.find?_eq_none.mp h2 x hx (decide_eq_true rfl)
theorem setF_new {fs : Fs} {n s : Str} (h : getF fs n = none) : setF fs n s = fs ++ [(n, s)] := by
  unfold setF
  rw [if_neg]
  intro e
  obtain ⟨x, hx, hd⟩ := List.any_eq_true.mp e
  exact getF_none h (List.mem_map.mpr ⟨x, hx, of_decide_eq_true hd⟩)
theorem nd_new {fs : Fs} {n s : Str} (h : getF fs n = none) (nd : (fs.map Prod.fst).Nodup) : ((fs ++ [(n, s)]).map Prod.fst).Nodup := by
  rw [List.map_append, List.nodup_append]
  refine ⟨nd, by simp, fun a ha b hb => ?_⟩
  have : b = n := by simpa using hb
  subst this
  exact fun e => getF_none h (by rw [← e]; exact ha)
end St6

set_option autoImplicit false
set_option maxHeartbeats 4000000
namespace St6
open PySem PySem.Spec PyProof.Rows L2 Tg Cc Nn
/-! the program's steps, one by one -/
def optV : Option Str → V
  | some s => .str s
  | none => .non
theorem optV_get (o : Option Str) : (o.map V.str).getD .non = optV o := by cases o <;> rfl
def spSortOf (K : PySem.W.Frag) : Sp := fun vs H Q _ => ∃ sd fs v d, vs = [.ref sd, v] ∧ Fd H sd fs ∧ Th K H v d ∧ Ok d ∧ Q (optV (sortOf fs d)) H
def spIsNew (K : PySem.W.Frag) : Sp := fun vs H Q _ => ∃ sd fs v d, vs = [.ref sd, v] ∧ Fd H sd fs ∧ Th K H v d ∧ Ok d ∧ ∀ H', Same H H' → Q (.bl (isNewB fs d)) H'
def spLead (K : PySem.W.Frag) (rec : Fs → PyData → Except Nat Fs) (w : Str) (n : Nat) : Sp := fun vs H Q _ => ∃ sd fs v r, vs = [.ref sd, v] ∧ Fd H sd fs ∧ Th K H v (.tuple (.str w :: r)) ∧ r.length = n ∧ (∀ x ∈ r, Ok x) ∧ Res (leadB rec fs w r) H Q
theorem len1 {α : Type} {l : List α} (h : l.length = 1) : ∃ a, l = [a] := by
  match l, h with
  | [a], _ => exact ⟨a, rfl⟩
theorem len3 {α : Type} {l : List α} (h : l.length = 3) : ∃ a b c, l = [a, b, c] := by
  match l, h with
  | [a, b, c], _ => exact ⟨a, b, c, rfl⟩
theorem len4 {α : Type} {l : List α} (h : l.length = 4) : ∃ a b c d, l = [a, b, c, d] := by
  match l, h with
  | [a, b, c, d], _ => exact ⟨a, b, c, d, rfl⟩
theorem _root_.Tg.ThAll.cons_of {K : PySem.W.Frag} {H : Hp} {xs : List V} {d : PyData} {ds : List PyData} (h : ThAll K H xs (d :: ds)) : ∃ x r, xs = x :: r ∧ Th K H x d ∧ ThAll K H r ds := by
  cases h with
  | cons a b => exact ⟨_, _, rfl, a, b⟩
theorem _root_.Tg.ThAll.nil_of {K : PySem.W.Frag} {H : Hp} {xs : List V} (h : ThAll K H xs []) : xs = [] := by
  cases h
  rfl
theorem th1 {K : PySem.W.Frag} {H : Hp} {xs : List V} {w : Str} {a : PyData} (h : ThAll K H xs [.str w, a]) : ∃ x, xs = [.str w, x] ∧ Th K H x a := by
  obtain ⟨x0, r, rfl, t0, h⟩ := h.cons_of
  obtain ⟨x1, r, rfl, t1, h⟩ := h.cons_of
  obtain rfl := h.nil_of
  obtain rfl := t0.asStr
  exact ⟨_, rfl, t1⟩
theorem th2 {K : PySem.W.Frag} {H : Hp} {xs : List V} {w : Str} {a b : PyData} (h : ThAll K H xs [.str w, a, b]) : ∃ x y, xs = [.str w, x, y] ∧ Th K H x a ∧ Th K H y b := by
  obtain ⟨x0, r, rfl, t0, h⟩ := h.cons_of
  obtain ⟨x1, r, rfl, t1, h⟩ := h.cons_of
  obtain ⟨x2, r, rfl, t2, h⟩ := h.cons_of
  obtain rfl := h.nil_of
  obtain rfl := t0.asStr
  exact ⟨_, _, rfl, t1, t2⟩
theorem th3 {K : PySem.W.Frag} {H : Hp} {xs : List V} {w : Str} {a b c : PyData} (h : ThAll K H xs [.str w, a, b, c]) : ∃ x y z, xs = [.str w, x, y, z] ∧ Th K H x a ∧ Th K H y b ∧ Th K H z c := by
  obtain ⟨x0, r, rfl, t0, h⟩ := h.cons_of
  obtain ⟨x1, r, rfl, t1, h⟩ := h.cons_of
  obtain ⟨x2, r, rfl, t2, h⟩ := h.cons_of
  obtain ⟨x3, r, rfl, t3, h⟩ := h.cons_of
  obtain rfl := h.nil_of
  obtain rfl := t0.asStr
  exact ⟨_, _, _, rfl, t1, t2, t3⟩
theorem th4 {K : PySem.W.Frag} {H : Hp} {xs : List V} {w : Str} {a b c e : PyData} (h : ThAll K H xs [.str w, a, b, c, e]) : ∃ x y z u, xs = [.str w, x, y, z, u] ∧ Th K H x a ∧ Th K H y b ∧ Th K H z c ∧ Th K H u e := by
  obtain ⟨x0, r, rfl, t0, h⟩ := h.cons_of
  obtain ⟨x1, r, rfl, t1, h⟩ := h.cons_of
  obtain ⟨x2, r, rfl, t2, h⟩ := h.cons_of
  obtain ⟨x3, r, rfl, t3, h⟩ := h.cons_of
  obtain ⟨x4, r, rfl, t4, h⟩ := h.cons_of
  obtain rfl := h.nil_of
  obtain rfl := t0.asStr
  exact ⟨_, _, _, _, rfl, t1, t2, t3, t4⟩
theorem flat_opt (o : Option Str) : flatV (optV o) = true := by cases o <;> rfl
theorem in_opt (o : Option Str) : ∀ l : List Str, inV (optV o) (l.map V.str) = amongB l o := fun l => by
  cases o with
  | some s => exact in_strs s l
  | none =>
    induction l with
    | nil => rfl
    | cons y r ih => exact ih
theorem optV_non (o : Option Str) : decide (optV o = V.non) = !o.isSome := by cases o <;> rfl
/-- a dict with one more: what the display leaves -/
theorem star_ok {H : Hp} {p p2 sd : Addr} {fs : Fs} {n s : Str} (hF : Fd H sd fs) (np : H p = none) (np2 : upd (upd H p (.dK [])) p (.dK (kvsOf fs)) p2 = none) :
    sd ≠ p ∧ (upd H p (.dK [])) p = some (.dK []) ∧ (upd H p (.dK [])) sd = some (.dK (kvsOf fs)) ∧ Same H (upd (upd (upd H p (.dK [])) p (.dK (kvsOf fs))) p2 (.dK [])) ∧
    (upd (upd (upd H p (.dK [])) p (.dK (kvsOf fs))) p2 (.dK [])) p2 = some (.dK []) ∧ p2 ≠ p ∧ (upd (upd (upd H p (.dK [])) p (.dK (kvsOf fs))) p2 (.dK [])) p = some (.dK (kvsOf fs)) ∧ (kvsOf fs).length < sizeLine ∧
    Same H (upd (upd (upd (upd (upd H p (.dK [])) p (.dK (kvsOf fs))) p2 (.dK [])) p2 (.dK [(Sum.inr n, V.str s)])) p (.dK (putK (kvsOf fs) (Sum.inr n) (V.str s)))) ∧
    (upd (upd (upd (upd (upd H p (.dK [])) p (.dK (kvsOf fs))) p2 (.dK [])) p2 (.dK [(Sum.inr n, V.str s)])) p (.dK (putK (kvsOf fs) (Sum.inr n) (V.str s)))) p = some (.dK (kvsOf (setF fs n s))) := by
  have n1 : sd ≠ p := ne_of_none hF.at_ np
  have n2 : p ≠ p2 := ne_of_none (upd_same (H := upd H p (.dK [])) (o := .dK (kvsOf fs))) np2
  have off : ∀ b o, H b = some o → b ≠ p ∧ b ≠ p2 := fun b o e => by
    have h1 : b ≠ p := ne_of_none e np
    exact ⟨h1, ne_of_none (show upd (upd H p (.dK [])) p (.dK (kvsOf fs)) b = some o by rw [upd_ne h1, upd_ne h1]; exact e) np2⟩
  refine ⟨n1, upd_same, by rw [upd_ne n1]; exact hF.at_, fun b o e => ?_, upd_same, n2.symm, by rw [upd_ne n2, upd_same], ?_, fun b o e => ?_, ?_⟩
  · obtain ⟨h1, h2⟩ := off b o e
    rw [upd_ne h2, upd_ne h1, upd_ne h1]
    exact e
  · rw [kvsOf_len, szl]
    have := hF.lim
    omega
  · obtain ⟨h1, h2⟩ := off b o e
    rw [upd_ne h1, upd_ne h2, upd_ne h2, upd_ne h1, upd_ne h1]
    exact e
  · rw [upd_same, put_of]
theorem star_goes {td tk tv : TE} {σ : L2.St} {H : Hp} {sd : Addr} {fs : Fs} {n s : Str} {Q : VK} (hF : Fd H sd fs) (hd : ∀ (H' : Hp) (k : VK), k (V.ref sd) H' → td σ H' k) (hk : ∀ (H' : Hp) (k : VK), k (V.str n) H' → tk σ H' k)
    (hv : ∀ (H' : Hp) (k : VK), Same H H' → k (V.str s) H' → tv σ H' k) (q : ∀ H' p, Same H H' → H' p = some (.dK (kvsOf (setF fs n s))) → Q (.ref p) H') : tDStar td tk tv σ H Q := fun p np => by
  refine hd _ _ ⟨sd, kvsOf fs, rfl, ne_of_none hF.at_ np, upd_same, by rw [upd_ne (ne_of_none hF.at_ np)]; exact hF.at_, fun p2 np2 => ?_⟩
  obtain ⟨k1, k2, k3, k4, k5, k6, k7, k8, k9, k10⟩ := star_ok (n := n) (s := s) hF np np2
  exact hk _ _ (hv _ _ k4 ⟨Sum.inr n, kvsOf fs, rfl, k5, k6, k7, k8, q _ _ k9 k10⟩)
theorem isNew_of {fs : Fs} {d : PyData} (h : isNewB fs d = true) : ∃ z, d = .str z ∧ getF fs z = none := by
  obtain ⟨z, rfl⟩ := isNew_str h
  unfold isNewB at h
  rw [Bool.and_eq_true, sortOf_str] at h
  exact ⟨z, rfl, Option.isNone_iff_eq_none.mp h.2⟩
theorem sortOf_of {fs : Fs} {d : PyData} {s : Str} (h : sortOf fs d = some s) : ∃ y, d = .str y ∧ getF fs y = some s := by
  cases d <;> first | exact ⟨_, rfl, h⟩ | cases h
section
variable {P : Program} {w : World} {K : PySem.W.Frag} {mg : Str → Option Value} {base : Heap}
theorem scsortof : FnScope ["sorts", "field"] ["sorts", "field"] (defScope sSortOf) := ⟨rfl, rfl, rfl, by decide +kernel, rfl, by decide +kernel, by decide +kernel⟩
theorem ok_sortof {f : Addr} {fd : FuncData} (F : FnP K "_sort_of" sSortOf f fd)  (mb_isinstance : mg "isinstance" = none) (mb_str : mg "str" = none)   : FnOk P w K mg base CX0 1 f fd ["sorts", "field"] (spSortOf K) := by
  refine F.ok scsortof (fun vs H Q E h => ?_) (fun cdv A outer s H vs Q E hr h => ?_)
  · obtain ⟨sd, fs, v, d, rfl, _⟩ := h
    rfl
  · obtain ⟨sd, fs, v, d, rfl, hF, hT, hB, q⟩ := h
    have hu := hu_of hr
    refine ⟨_, PSs.nox (pss_one (ps_ret (pe_ifExp (pt_val (pe_callB call_isi (by rfl) mb_isinstance (by decide +kernel) (pa_cons (pv 1) (pa_cons (pe_bltn (v := .ty "str") (by rfl) mb_str (by decide +kernel) rfl) pa_nil)))) (pe_dget1 hu (pv 0) (pv 1) ⟨by rfl, by rfl, by rfl, by rfl⟩) (pe_non)))), ?_⟩
    refine ⟨_, rfl, v, .ty "str", _, _, _, rfl, .ty "str", hT.ty, kit_ty (kit_str d), _, rfl, ?_⟩
    cases hs : isStr d with
    | false =>
      rw [sortOf_not hs] at q
      exact iteF q
    | true =>
      obtain ⟨z, rfl⟩ := isStr_eq hs
      obtain rfl := hT.asStr
      refine iteT ⟨_, rfl, sd, rfl, .inl ⟨_, .inl hF.at_⟩, _, rfl, _, hF.get z, ?_⟩
      rw [optV_get]
      exact q
theorem scisnew : FnScope ["sorts", "field"] ["sorts", "field"] (defScope sIsNew) := ⟨rfl, rfl, rfl, by decide +kernel, rfl, by decide +kernel, by decide +kernel⟩
theorem ok_isnew {f : Addr} {fd : FuncData} (F : FnP K "_is_new" sIsNew f fd) {f_is_name : Addr} {fd_is_name : FuncData} (c_is_name : Cl P w K mg base CX0 "is_name" 2 ["thing"] (spName K) f_is_name fd_is_name)    : FnOk P w K mg base CX0 3 f fd ["sorts", "field"] (spIsNew K) := by
  refine F.ok scisnew (fun vs H Q E h => ?_) (fun cdv A outer s H vs Q E hr h => ?_)
  · obtain ⟨sd, fs, v, d, rfl, _⟩ := h
    rfl
  · obtain ⟨sd, fs, v, d, rfl, hF, hT, hB, q⟩ := h
    have hu := hu_of hr
    refine ⟨_, PSs.nox (pss_one (ps_ret (pe_and (pe_call c_is_name.ok (hr.mono (by decide)) (by rfl) c_is_name.m c_is_name.kp c_is_name.b .nil pass0 (pa_cons (pv 1) pa_nil)) (pe_one (pe_cmp (pc_dnotin hu (pv 1) (pv 0))))))), ?_⟩
    refine ⟨_, rfl, v, d, rfl, hT, hB, fun H1 s1 => ⟨_, rfl, ?_⟩⟩
    cases hs : smallB 12 d with
    | false =>
      have e := q H1 s1
      unfold isNewB at e
      rw [hs, Bool.false_and] at e
      exact iteF e
    | true =>
      obtain ⟨z, rfl⟩ := small_str hs
      obtain rfl := hT.asStr
      refine iteT ⟨_, rfl, _, rfl, sd, _, rfl, (hF.same s1).get z, ?_⟩
      have e := q H1 s1
      unfold isNewB at e
      rw [hs, Bool.true_and, sortOf_str] at e
      cases hg : getF fs z <;> (rw [hg] at e; exact e)
theorem scbcopy : FnScope ["sorts", "step", "_", "old", "new"] ["sorts", "step"] (defScope sBehindCopy) := ⟨rfl, rfl, rfl, by decide +kernel, rfl, by decide +kernel, by decide +kernel⟩
theorem ok_bcopy {f : Addr} {fd : FuncData} (F : FnP K "_behind_copy" sBehindCopy f fd) {f__sort_of : Addr} {fd__sort_of : FuncData} (c__sort_of : Cl P w K mg base CX0 "_sort_of" 1 ["sorts", "field"] (spSortOf K) f__sort_of fd__sort_of) {f__is_new : Addr} {fd__is_new : FuncData} (c__is_new : Cl P w K mg base CX0 "_is_new" 3 ["sorts", "field"] (spIsNew K) f__is_new fd__is_new)   {rec : Fs → PyData → Except Nat Fs} : FnOk P w K mg base CX0 4 f fd ["sorts", "step"] (spLead K rec "copy" 2) := by
  refine F.ok scbcopy (fun vs H Q E h => ?_) (fun cdv A outer s H vs Q E hr h => ?_)
  · obtain ⟨sd, fs, v, r, rfl, _⟩ := h
    rfl
  · obtain ⟨sd, fs, v, r, rfl, hF, hT, hl, hB, q⟩ := h
    have hu := hu_of hr
    have hs := szl
    refine ⟨_, PSs.nox (pss_cons (ps_asg (pv 1) (pg_tup rfl (pgs_cons (pg_name (i := 2) scbcopy.nd rfl (Or.inl rfl)) (pgs_cons (pg_name (i := 3) scbcopy.nd rfl (Or.inl rfl)) (pgs_cons (pg_name (i := 4) scbcopy.nd rfl (Or.inl rfl)) (pgs_nil))))))
      (pss_cons (ps_if (PW.pt (pw_or (pt_cmpR op_isN (pe_call c__sort_of.ok (hr.mono (by decide)) (by rfl) c__sort_of.m c__sort_of.kp c__sort_of.b .nil pass0 (pa_cons (pv 0) (pa_cons (pv 3) pa_nil))) (pe_non) (nomark _)) (pw_or1 (pt_not (pt_val (pe_call c__is_new.ok (hr.mono (by decide)) (by rfl) c__is_new.m c__is_new.kp c__is_new.b .nil pass0 (pa_cons (pv 0) (pa_cons (pv 4) pa_nil)))))))) (pss_one (ps_ret (pe_non))) (pss_nil))
      (pss_one (ps_ret (Nn.pe_dstar (pv 0) (pv 4) (pe_dget hu (pv 0) (pv 3) (fun _ _ => rfl))))))), ?_⟩
    obtain ⟨d0, d1, rfl⟩ := len2 hl
    obtain ⟨a, xs, rfl, hx, hA⟩ := hT.asTup
    obtain ⟨x0, x1, rfl, t0, t1⟩ := th2 hA
    have b0 := hB d0 (by simp)
    have b1 := hB d1 (by simp)
    replace q : Res (copyB fs d0 d1) H Q := q
    refine ⟨_, rfl, a, _, rfl, hx, rfl, _, _, rfl, _, _, rfl, _, _, rfl, rfl, _, rfl, _, rfl, sd, fs, x0, d0, rfl, hF, t0, b0, rfl, _, rfl, ?_⟩
    rw [optV_non]
    unfold copyB at q
    cases ho : sortOf fs d0 with
    | none =>
      rw [ho] at q
      exact iteT (iteT (q H (Same.refl H)))
    | some s =>
      rw [ho] at q
      refine iteF ⟨_, rfl, _, rfl, sd, fs, x1, d1, rfl, hF, t1, b1, fun H1 s1 => ⟨_, rfl, ?_⟩⟩
      cases hn : isNewB fs d1 with
      | false =>
        rw [hn] at q
        exact iteT (q H1 s1)
      | true =>
        rw [hn] at q
        obtain ⟨z, rfl, hz⟩ := isNew_of hn
        obtain rfl := t1.asStr
        have hF1 := hF.same s1
        obtain ⟨y, rfl, hy⟩ := sortOf_of ho
        obtain rfl := t0.asStr
        refine iteF (star_goes hF1 (fun _ _ k => ⟨_, rfl, k⟩) (fun _ _ k => ⟨_, rfl, k⟩) (fun H' k s2 hk => ⟨_, rfl, _, rfl, sd, .str s, rfl, ?_, hk⟩) (fun H' p s2 e => q H' p (s1.trans s2) ?_))
        · have g := (hF1.same s2).get y
          rw [hy] at g
          exact g
        · rw [e, setF_new hz]
          rfl
theorem scbput : FnScope ["sorts", "step", "_", "new", "sort", "value"] ["sorts", "step"] (defScope sBehindPut) := ⟨rfl, rfl, rfl, by decide +kernel, rfl, by decide +kernel, by decide +kernel⟩
theorem ok_bput {f : Addr} {fd : FuncData} (F : FnP K "_behind_put" sBehindPut f fd) {f__is_new : Addr} {fd__is_new : FuncData} (c__is_new : Cl P w K mg base CX0 "_is_new" 3 ["sorts", "field"] (spIsNew K) f__is_new fd__is_new) {f_is_sort : Addr} {fd_is_sort : FuncData} (c_is_sort : Cl P w K mg base CX0 "is_sort" 1 ["thing"] (spSort K) f_is_sort fd_is_sort) {f_is_of_sort : Addr} {fd_is_of_sort : FuncData} (c_is_of_sort : Cl P w K mg base CX0 "is_of_sort" 3 ["value", "sort"] (spOfSort K) f_is_of_sort fd_is_of_sort)   {rec : Fs → PyData → Except Nat Fs} : FnOk P w K mg base CX0 4 f fd ["sorts", "step"] (spLead K rec "put" 3) := by
  refine F.ok scbput (fun vs H Q E h => ?_) (fun cdv A outer s H vs Q E hr h => ?_)
  · obtain ⟨sd, fs, v, r, rfl, _⟩ := h
    rfl
  · obtain ⟨sd, fs, v, r, rfl, hF, hT, hl, hB, q⟩ := h
    have hu := hu_of hr
    refine ⟨_, PSs.nox (pss_cons (ps_asg (pv 1) (pg_tup rfl (pgs_cons (pg_name (i := 2) scbput.nd rfl (Or.inl rfl)) (pgs_cons (pg_name (i := 3) scbput.nd rfl (Or.inl rfl)) (pgs_cons (pg_name (i := 4) scbput.nd rfl (Or.inl rfl)) (pgs_cons (pg_name (i := 5) scbput.nd rfl (Or.inl rfl)) (pgs_nil)))))))
      (pss_cons (ps_if (PW.pt (pw_or (pt_not (pt_val (pe_call c__is_new.ok (hr.mono (by decide)) (by rfl) c__is_new.m c__is_new.kp c__is_new.b .nil pass0 (pa_cons (pv 0) (pa_cons (pv 3) pa_nil))))) (pw_or (pt_not (pt_val (pe_call c_is_sort.ok (hr.mono (by decide)) (by rfl) c_is_sort.m c_is_sort.kp c_is_sort.b .nil pass0 (pa_cons (pv 4) pa_nil)))) (pw_or1 (pt_not (pt_val (pe_call c_is_of_sort.ok (hr.mono (by decide)) (by rfl) c_is_of_sort.m c_is_of_sort.kp c_is_of_sort.b .nil pass0 (pa_cons (pv 5) (pa_cons (pv 4) pa_nil))))))))) (pss_one (ps_ret (pe_non))) (pss_nil))
      (pss_one (ps_ret (Nn.pe_dstar (pv 0) (pv 3) (pv 4)))))), ?_⟩
    obtain ⟨d0, d1, d2, rfl⟩ := len3 hl
    obtain ⟨a, xs, rfl, hx, hA⟩ := hT.asTup
    obtain ⟨x0, x1, x2, rfl, t0, t1, t2⟩ := th3 hA
    have b0 := hB d0 (by simp)
    have b1 := hB d1 (by simp)
    have b2 := hB d2 (by simp)
    replace q : Res (putB fs d0 d1 d2) H Q := q
    unfold putB at q
    refine ⟨_, rfl, a, _, rfl, hx, rfl, _, _, rfl, _, _, rfl, _, _, rfl, _, _, rfl, rfl, _, rfl, _, rfl, sd, fs, x0, d0, rfl, hF, t0, b0, fun H1 s1 => ⟨_, rfl, ?_⟩⟩
    cases hn : isNewB fs d0 with
    | false =>
      rw [hn, Bool.false_and] at q
      exact iteT (iteT (q H1 s1))
    | true =>
      rw [hn, Bool.true_and] at q
      refine iteF ⟨_, rfl, x1, d1, rfl, t1.kept (kept_same s1), b1, fun H2 s2 => ⟨_, rfl, ?_⟩⟩
      have s12 := s1.trans s2
      cases hs : sortB d1 with
      | false =>
        rw [hs, Bool.false_and] at q
        exact iteT (iteT (q H2 s12))
      | true =>
        rw [hs, Bool.true_and] at q
        obtain ⟨z1, rfl⟩ : ∃ z, d1 = .str z := by
          cases d1 <;> first | exact ⟨_, rfl⟩ | cases hs
        obtain rfl := t1.asStr
        refine iteF ⟨_, rfl, _, rfl, x2, d2, z1, rfl, t2.kept (kept_same s12), b2, fun H3 s3 => ⟨_, rfl, ?_⟩⟩
        have s13 := s12.trans s3
        cases ho : ofSort (txtOf (.str z1)) d2 with
        | false =>
          rw [ho] at q
          have ho : ofSort z1 d2 = false := ho
          rw [ho]
          exact iteT (q H3 s13)
        | true =>
          rw [ho] at q
          have ho : ofSort z1 d2 = true := ho
          rw [ho]
          obtain ⟨z, rfl, hz⟩ := isNew_of hn
          obtain rfl := t0.asStr
          have hF1 := hF.same s13
          refine iteF (star_goes hF1 (fun _ _ k => ⟨_, rfl, k⟩) (fun _ _ k => ⟨_, rfl, k⟩) (fun H' k s2 hk => ⟨_, rfl, hk⟩) (fun H' p s2 e => q H' p (s13.trans s2) ?_))
          rw [e, setF_new hz]
          rfl
theorem scbscale : FnScope ["sorts", "step", "_", "field", "times", "plus"] ["sorts", "step"] (defScope sBehindScale) := ⟨rfl, rfl, rfl, by decide +kernel, rfl, by decide +kernel, by decide +kernel⟩
theorem ok_bscale {f : Addr} {fd : FuncData} (F : FnP K "_behind_scale" sBehindScale f fd) {f__sort_of : Addr} {fd__sort_of : FuncData} (c__sort_of : Cl P w K mg base CX0 "_sort_of" 1 ["sorts", "field"] (spSortOf K) f__sort_of fd__sort_of) {f_is_whole : Addr} {fd_is_whole : FuncData} (c_is_whole : Cl P w K mg base CX0 "is_whole" 1 ["thing"] (spWhole K) f_is_whole fd_is_whole)  {aN : Addr} (m_NUMBERS : mg "NUMBERS" = some (.ref aN)) (hN_ : ∀ H, SqT K H aN (numsL.map V.str)) {rec : Fs → PyData → Except Nat Fs} : FnOk P w K mg base CX0 4 f fd ["sorts", "step"] (spLead K rec "scale" 3) := by
  refine F.ok scbscale (fun vs H Q E h => ?_) (fun cdv A outer s H vs Q E hr h => ?_)
  · obtain ⟨sd, fs, v, r, rfl, _⟩ := h
    rfl
  · obtain ⟨sd, fs, v, r, rfl, hF, hT, hl, hB, q⟩ := h
    have hu := hu_of hr
    refine ⟨_, PSs.nox (pss_cons (ps_asg (pv 1) (pg_tup rfl (pgs_cons (pg_name (i := 2) scbscale.nd rfl (Or.inl rfl)) (pgs_cons (pg_name (i := 3) scbscale.nd rfl (Or.inl rfl)) (pgs_cons (pg_name (i := 4) scbscale.nd rfl (Or.inl rfl)) (pgs_cons (pg_name (i := 5) scbscale.nd rfl (Or.inl rfl)) (pgs_nil)))))))
      (pss_cons (ps_if (PW.pt (pw_or (pt_cmpR op_notIn_seq (pe_call c__sort_of.ok (hr.mono (by decide)) (by rfl) c__sort_of.m c__sort_of.kp c__sort_of.b .nil pass0 (pa_cons (pv 0) (pa_cons (pv 3) pa_nil))) (pe_glob (v := .ref aN) rfl m_NUMBERS rfl) (by with_unfolding_all rfl)) (pw_or (pt_not (pt_val (pe_call c_is_whole.ok (hr.mono (by decide)) (by rfl) c_is_whole.m c_is_whole.kp c_is_whole.b .nil pass0 (pa_cons (pv 4) pa_nil)))) (pw_or1 (pt_not (pt_val (pe_call c_is_whole.ok (hr.mono (by decide)) (by rfl) c_is_whole.m c_is_whole.kp c_is_whole.b .nil pass0 (pa_cons (pv 5) pa_nil)))))))) (pss_one (ps_ret (pe_non))) (pss_nil))
      (pss_one (ps_ret (pv 0))))), ?_⟩
    obtain ⟨d0, d1, d2, rfl⟩ := len3 hl
    obtain ⟨a, xs, rfl, hx, hA⟩ := hT.asTup
    obtain ⟨x0, x1, x2, rfl, t0, t1, t2⟩ := th3 hA
    have b0 := hB d0 (by simp)
    have b1 := hB d1 (by simp)
    have b2 := hB d2 (by simp)
    replace q : Res (scaleB fs d0 d1 d2) H Q := q
    unfold scaleB at q
    refine ⟨_, rfl, a, _, rfl, hx, rfl, _, _, rfl, _, _, rfl, _, _, rfl, _, _, rfl, rfl, _, rfl, _, rfl, sd, fs, x0, d0, rfl, hF, t0, b0, aN, _, rfl, .inr (hN_ H), flat_opt _, by decide +kernel, _, rfl, ?_⟩
    rw [if_pos rfl, in_opt]
    cases hn : amongB numsL (sortOf fs d0) with
    | false =>
      rw [hn, Bool.false_and] at q
      exact iteT (iteT (q H (Same.refl H)))
    | true =>
      rw [hn, Bool.true_and] at q
      refine iteF ⟨_, rfl, x1, d1, rfl, t1, b1, fun H2 s2 => ⟨_, rfl, ?_⟩⟩
      cases hs : wholeB d1 with
      | false =>
        rw [hs, Bool.false_and] at q
        exact iteT (iteT (q H2 s2))
      | true =>
        rw [hs, Bool.true_and] at q
        refine iteF ⟨_, rfl, x2, d2, rfl, t2.kept (kept_same s2), b2, fun H3 s3 => ⟨_, rfl, ?_⟩⟩
        have s13 := s2.trans s3
        cases ho : wholeB d2 with
        | false =>
          rw [ho] at q
          exact iteT (q H3 s13)
        | true =>
          rw [ho] at q
          exact iteF ⟨_, rfl, q H3 sd s13 (s13 _ _ hF.at_)⟩
end
end St6

set_option autoImplicit false
set_option maxHeartbeats 4000000
namespace St6
open PySem PySem.Spec PyProof.Rows L2 Tg Cc Nn
theorem getF_of_none {fs : Fs} {s : Str} (h : s ∉ fs.map Prod.fst) : getF fs s = none := by
  unfold getF
  rw [List.find?_eq_none.mpr fun x hx => by
    intro e
    exact h (List.mem_map.mpr ⟨x, hx, of_decide_eq_true e⟩)]
  rfl
theorem nd_take {α β : Type} [DecidableEq β] {f : α → β} {l : List α} (h : (l.map f).Nodup) {i : Nat} {x : α} (hx : l[i]? = some x) : f x ∉ (l.take i).map f := by
  have e : l.take (i + 1) = l.take i ++ [x] := by rw [List.take_succ, hx]; rfl
  have h2 : ((l.take (i + 1)).map f).Nodup := by
    refine List.Nodup.sublist ?_ h
    exact (List.take_sublist _ _).map f
  rw [e, List.map_append, List.nodup_append] at h2
  exact fun hm => h2.2.2 _ hm _ (List.mem_singleton_self _) rfl
/-- what a walk over a locked dict leaves -/
theorem unlock {H H' : Hp} {sd D : Addr} {od : Obj} {fs : Fs} {gs : Fs} (hF : Fd H sd fs) (nD : (upd H sd (.frz od (.dK (kvsOf fs)))) D = none) (b : But D (upd H sd (.frz od (.dK (kvsOf fs)))) H') (hD : H' D = some (.dK (kvsOf gs))) :
    H' sd = some (.frz od (.dK (kvsOf fs))) ∧ Same H (upd H' sd (.dK (kvsOf fs))) ∧ (upd H' sd (.dK (kvsOf fs))) D = some (.dK (kvsOf gs)) := by
  have n1 : sd ≠ D := ne_of_none (upd_same (H := H) (a := sd) (o := .frz od (.dK (kvsOf fs)))) nD
  refine ⟨b _ _ n1 upd_same, fun c o e => ?_, by rw [upd_ne n1.symm]; exact hD⟩
  by_cases h : c = sd
  · rw [h] at e ⊢
    rw [upd_same, ← hF.at_, e]
  · rw [upd_ne h]
    have nc : c ≠ D := fun z => by
      rw [← z, upd_ne h, e] at nD
      cases nD
    exact b _ _ nc (by rw [upd_ne h]; exact e)
def ren (o n : Str) (x : Str × Str) : Str × Str := (if x.1 = o then n else x.1, x.2)
theorem ren_nd {fs : Fs} {o n : Str} (nd : (fs.map Prod.fst).Nodup) (hn : getF fs n = none) : ((fs.map (ren o n)).map Prod.fst).Nodup := by
  have hno := getF_none hn
  rw [List.map_map]
  have h2 : (fs.map Prod.fst).Pairwise (fun a b => a ≠ b) := nd
  rw [List.pairwise_map] at h2
  show ((fs.map (Prod.fst ∘ ren o n))).Pairwise (fun a b => a ≠ b)
  rw [List.pairwise_map]
  refine h2.imp_of_mem fun {x y} hx hy ne => ?_
  show (if x.1 = o then n else x.1) ≠ (if y.1 = o then n else y.1)
  by_cases e1 : x.1 = o
  · by_cases e2 : y.1 = o
    · exact absurd (e1.trans e2.symm) ne
    · rw [if_pos e1, if_neg e2]
      exact fun e => hno (List.mem_map.mpr ⟨y, hy, e.symm⟩)
  · by_cases e2 : y.1 = o
    · rw [if_neg e1, if_pos e2]
      exact fun e => hno (List.mem_map.mpr ⟨x, hx, e⟩)
    · rw [if_neg e1, if_neg e2]
      exact ne
theorem kvs_at {fs : Fs} {i : Nat} {x : Str × Str} (h : fs[i]? = some x) : (kvsOf fs)[i]? = some (Sum.inr x.1, V.str x.2) := by
  unfold Nn.kvsOf
  rw [List.getElem?_map, h]
  rfl
section
variable {P : Program} {w : World} {K : PySem.W.Frag} {mg : Str → Option Value} {base : Heap}
theorem scbdrop : FnScope ["sorts", "step", "_", "old", "field", "sort"] ["sorts", "step"] (defScope sBehindDrop) := ⟨rfl, rfl, rfl, by decide +kernel, rfl, by decide +kernel, by decide +kernel⟩
theorem ok_bdrop {f : Addr} {fd : FuncData} (F : FnP K "_behind_drop" sBehindDrop f fd) {f__sort_of : Addr} {fd__sort_of : FuncData} (c__sort_of : Cl P w K mg base CX0 "_sort_of" 1 ["sorts", "field"] (spSortOf K) f__sort_of fd__sort_of)   {rec : Fs → PyData → Except Nat Fs} : FnOk P w K mg base CX0 4 f fd ["sorts", "step"] (spLead K rec "drop" 1) := by
  refine F.ok scbdrop (fun vs H Q E h => ?_) (fun cdv A outer s H vs Q E hr h => ?_)
  · obtain ⟨sd, fs, v, r, rfl, _⟩ := h
    rfl
  · obtain ⟨sd, fs, v, r, rfl, hF, hT, hl, hB, q⟩ := h
    have hu := hu_of hr
    have hs := szl
    refine ⟨_, PSs.nox (pss_cons (ps_asg (pv 1) (pg_tup rfl (pgs_cons (pg_name (i := 2) scbdrop.nd rfl (Or.inl rfl)) (pgs_cons (pg_name (i := 3) scbdrop.nd rfl (Or.inr rfl)) (pgs_nil)))))
      (pss_cons (ps_if (pt_cmpR op_isN (pe_call c__sort_of.ok (hr.mono (by decide)) (by rfl) c__sort_of.m c__sort_of.kp c__sort_of.b .nil pass0 (pa_cons (pv 0) (pa_cons (pv 3) pa_nil))) (pe_non) (nomark _)) (pss_one (ps_ret (pe_non))) (pss_nil))
      (pss_one (ps_ret (pe_lock (pe_dc (own := [("field", 4), ("sort", 5)]) rfl scbdrop.nd (pi_items (pv 0)) (blkOk_by (own := [("field", 4), ("sort", 5)]) (N := ["sorts", "step", "_", "old", "field", "sort"]) (sc := defScope sBehindDrop) (by decide +kernel)) (fun _ _ _ _ _ => Cc.pg_tupk (K := K) (n := 2) rfl rfl (pgs_cons (pg_name (i := 4) scbdrop.nd rfl (Or.inl rfl)) (pgs_cons (pg_name (i := 5) scbdrop.nd rfl (Or.inl rfl)) (pgs_nil)))) (fun _ _ _ _ _ => pts_one (pt_cmpR op_ne (pv 4) (pv 3) (nomark _))) (fun _ _ _ _ _ => pv 4) (fun _ _ _ _ _ => pv 5))))))), ?_⟩
    obtain ⟨d0, rfl⟩ := len1 hl
    obtain ⟨a, xs, rfl, hx, hA⟩ := hT.asTup
    obtain ⟨x0, rfl, t0⟩ := th1 hA
    have b0 := hB d0 (by simp)
    replace q : Res (dropB fs d0) H Q := q
    unfold dropB at q
    refine ⟨_, rfl, a, _, rfl, hx, rfl, _, _, rfl, _, _, rfl, rfl, _, rfl, _, rfl, sd, fs, x0, d0, rfl, hF, t0, b0, rfl, _, rfl, ?_⟩
    rw [optV_non]
    cases ho : sortOf fs d0 with
    | none =>
      rw [ho] at q
      exact iteT (q H (Same.refl H))
    | some s =>
      rw [ho] at q
      obtain ⟨o, rfl, hy⟩ := sortOf_of ho
      obtain rfl := t0.asStr
      refine iteF ⟨sd, .dK (kvsOf fs), hF.at_, trivial, fun od => ⟨_, rfl, sd, od, kvsOf fs, rfl, upd_same, fun D nD => ?_⟩⟩
      refine dc_it walk_items (fun i H' => But D (upd H sd (.frz od (.dK (kvsOf fs)))) H' ∧ H' D = some (.dK (kvsOf ((fs.take i).filter fun x => !decide (x.1 = o))))) ⟨But.refl.upd, upd_same⟩ (fun i H' _ ⟨b, _⟩ => b _ _ (ne_of_none (upd_same (H := H) (a := sd) (o := .frz od (.dK (kvsOf fs)))) nD) upd_same) ?_ ?_
      · rintro i x H1 H2 hi ⟨b, hD⟩ ⟨T, x1, y1, rfl, nT, rfl, ex, ey⟩
        rw [kvsOf_len] at hi
        obtain ⟨x, hx2⟩ : ∃ x, fs[i]? = some x := ⟨_, List.getElem?_eq_getElem hi⟩
        dsimp only at ex ey
        rw [kvs_at hx2] at ex ey
        obtain rfl : V.str x.1 = x1 := Option.some.inj ex
        obtain rfl : V.str x.2 = y1 := Option.some.inj ey
        have sT := newS (o := .tup [V.str x.1, V.str x.2]) nT
        have nk := nd_take (f := Prod.fst) hF.nd hx2
        have et : (fs.take (i + 1)) = fs.take i ++ [x] := by rw [List.take_succ, hx2]; rfl
        have lim := hF.lim
        refine ⟨T, _, rfl, SqT.of upd_same, rfl, _, _, rfl, _, _, rfl, rfl, rfl, _, rfl, _, rfl, rfl, _, rfl, ite2 (fun e => ?_) (fun e => ?_)⟩
        · have ne : x.1 ≠ o := fun z => by
            rw [decide_eq_true (congrArg V.str z)] at e
            cases e
          refine ⟨_, rfl, _, rfl, _, Sum.inr x.1, rfl, sT _ _ hD, ?_, (b.same sT).upd, ?_⟩
          · have h1 : ((fs.take i).filter fun x => !decide (x.1 = o)).length ≤ i := Nat.le_trans (List.length_filter_le _ _) (by rw [List.length_take]; omega)
            rw [kvsOf_len]
            omega
          · rw [upd_same, put_of, setF_new (getF_of_none fun hm => ?_), et, List.filter_append, List.filter_cons_of_pos (by simpa using ne)]
            · rfl
            · obtain ⟨y, hy2, e2⟩ := List.mem_map.mp hm
              exact nk (List.mem_map.mpr ⟨y, (List.mem_filter.mp hy2).1, e2⟩)
        · have eq : x.1 = o := by
            have h1 : (!decide (V.str x.1 = V.str o)) = false := by simpa using e
            rw [Bool.not_eq_false'] at h1
            exact V.str.inj (of_decide_eq_true h1)
          refine ⟨b.same sT, ?_⟩
          rw [sT _ _ hD, et, List.filter_append, List.filter_cons_of_neg (by simpa using eq)]
          simp
      · rintro H' ⟨b, hD⟩
        rw [kvsOf_len, List.take_length] at hD
        obtain ⟨k1, k2, k3⟩ := unlock hF nD b hD
        exact ⟨k1, q _ _ k2 k3⟩
theorem scbrename : FnScope ["sorts", "step", "_", "old", "new", "field", "sort"] ["sorts", "step"] (defScope sBehindRename) := ⟨rfl, rfl, rfl, by decide +kernel, rfl, by decide +kernel, by decide +kernel⟩
theorem ok_brename {f : Addr} {fd : FuncData} (F : FnP K "_behind_rename" sBehindRename f fd) {f__sort_of : Addr} {fd__sort_of : FuncData} (c__sort_of : Cl P w K mg base CX0 "_sort_of" 1 ["sorts", "field"] (spSortOf K) f__sort_of fd__sort_of) {f__is_new : Addr} {fd__is_new : FuncData} (c__is_new : Cl P w K mg base CX0 "_is_new" 3 ["sorts", "field"] (spIsNew K) f__is_new fd__is_new)   {rec : Fs → PyData → Except Nat Fs} : FnOk P w K mg base CX0 4 f fd ["sorts", "step"] (spLead K rec "rename" 2) := by
  refine F.ok scbrename (fun vs H Q E h => ?_) (fun cdv A outer s H vs Q E hr h => ?_)
  · obtain ⟨sd, fs, v, r, rfl, _⟩ := h
    rfl
  · obtain ⟨sd, fs, v, r, rfl, hF, hT, hl, hB, q⟩ := h
    have hu := hu_of hr
    have hs := szl
    refine ⟨_, PSs.nox (pss_cons (ps_asg (pv 1) (pg_tup rfl (pgs_cons (pg_name (i := 2) scbrename.nd rfl (Or.inl rfl)) (pgs_cons (pg_name (i := 3) scbrename.nd rfl (Or.inr rfl)) (pgs_cons (pg_name (i := 4) scbrename.nd rfl (Or.inr rfl)) (pgs_nil))))))
      (pss_cons (ps_if (PW.pt (pw_or (pt_cmpR op_isN (pe_call c__sort_of.ok (hr.mono (by decide)) (by rfl) c__sort_of.m c__sort_of.kp c__sort_of.b .nil pass0 (pa_cons (pv 0) (pa_cons (pv 3) pa_nil))) (pe_non) (nomark _)) (pw_or1 (pt_not (pt_val (pe_call c__is_new.ok (hr.mono (by decide)) (by rfl) c__is_new.m c__is_new.kp c__is_new.b .nil pass0 (pa_cons (pv 0) (pa_cons (pv 4) pa_nil)))))))) (pss_one (ps_ret (pe_non))) (pss_nil))
      (pss_one (ps_ret (pe_lock (pe_dc (own := [("field", 5), ("sort", 6)]) (tt := tYes) rfl scbrename.nd (pi_items (pv 0)) (blkOk_by (own := [("field", 5), ("sort", 6)]) (N := ["sorts", "step", "_", "old", "new", "field", "sort"]) (sc := defScope sBehindRename) (by decide +kernel)) (fun _ _ _ _ _ => Cc.pg_tupk (K := K) (n := 2) rfl rfl (pgs_cons (pg_name (i := 5) scbrename.nd rfl (Or.inl rfl)) (pgs_cons (pg_name (i := 6) scbrename.nd rfl (Or.inl rfl)) (pgs_nil)))) (fun _ _ _ _ _ => pts_nil) (fun _ _ _ _ _ => pe_ifExp (pt_cmpR op_eq (pv 5) (pv 3) (nomark _)) (pv 4) (pv 5)) (fun _ _ _ _ _ => pv 6))))))), ?_⟩
    obtain ⟨d0, d1, rfl⟩ := len2 hl
    obtain ⟨a, xs, rfl, hx, hA⟩ := hT.asTup
    obtain ⟨x0, x1, rfl, t0, t1⟩ := th2 hA
    have b0 := hB d0 (by simp)
    have b1 := hB d1 (by simp)
    replace q : Res (renameB fs d0 d1) H Q := q
    unfold renameB at q
    refine ⟨_, rfl, a, _, rfl, hx, rfl, _, _, rfl, _, _, rfl, _, _, rfl, rfl, _, rfl, _, rfl, sd, fs, x0, d0, rfl, hF, t0, b0, rfl, _, rfl, ?_⟩
    rw [optV_non]
    cases ho : sortOf fs d0 with
    | none =>
      rw [ho] at q
      exact iteT (iteT (q H (Same.refl H)))
    | some s =>
      rw [ho] at q
      refine iteF ⟨_, rfl, _, rfl, sd, fs, x1, d1, rfl, hF, t1, b1, fun H1 s1 => ⟨_, rfl, ?_⟩⟩
      cases hn : isNewB fs d1 with
      | false =>
        rw [hn] at q
        exact iteT (q H1 s1)
      | true =>
        rw [hn] at q
        obtain ⟨n, rfl, hz⟩ := isNew_of hn
        obtain rfl := t1.asStr
        obtain ⟨o, rfl, hy⟩ := sortOf_of ho
        obtain rfl := t0.asStr
        have hF1 := hF.same s1
        have rnd := ren_nd (o := o) hF.nd hz
        rw [if_pos (show ((some s).isSome && true) = true from rfl)] at q
        replace q : Res (some (fs.map (ren o n))) H Q := q
        refine iteF ⟨sd, .dK (kvsOf fs), hF1.at_, trivial, fun od => ⟨_, rfl, sd, od, kvsOf fs, rfl, upd_same, fun D nD => ?_⟩⟩
        refine dc_it walk_items (fun i H' => But D (upd H1 sd (.frz od (.dK (kvsOf fs)))) H' ∧ H' D = some (.dK (kvsOf ((fs.take i).map (ren o n))))) ⟨But.refl.upd, upd_same⟩ (fun i H' _ ⟨b, _⟩ => b _ _ (ne_of_none (upd_same (H := H1) (a := sd) (o := .frz od (.dK (kvsOf fs)))) nD) upd_same) ?_ ?_
        · rintro i x H2 H3 hi ⟨b, hD⟩ ⟨T, x1, y1, rfl, nT, rfl, ex, ey⟩
          rw [kvsOf_len] at hi
          obtain ⟨x, hx2⟩ : ∃ x, fs[i]? = some x := ⟨_, List.getElem?_eq_getElem hi⟩
          dsimp only at ex ey
          rw [kvs_at hx2] at ex ey
          obtain rfl : V.str x.1 = x1 := Option.some.inj ex
          obtain rfl : V.str x.2 = y1 := Option.some.inj ey
          have sT := newS (o := .tup [V.str x.1, V.str x.2]) nT
          have hx3 : (fs.map (ren o n))[i]? = some (ren o n x) := by rw [List.getElem?_map, hx2]; rfl
          have nk := nd_take (f := Prod.fst) rnd hx3
          rw [← List.map_take] at nk
          have et : (fs.take (i + 1)).map (ren o n) = (fs.take i).map (ren o n) ++ [ren o n x] := by rw [List.take_succ, hx2, List.map_append]; rfl
          have lim := hF.lim
          have done : ∀ w : Str, w = (ren o n x).1 → ∃ kvs k, V.str w = kV k ∧ (upd H2 T (.tup [V.str x.1, V.str x.2])) D = some (.dK kvs) ∧ kvs.length < sizeLine ∧ But D (upd H1 sd (.frz od (.dK (kvsOf fs)))) (upd (upd H2 T (.tup [V.str x.1, V.str x.2])) D (.dK (putK kvs k (V.str x.2)))) ∧
              (upd (upd H2 T (.tup [V.str x.1, V.str x.2])) D (.dK (putK kvs k (V.str x.2)))) D = some (.dK (kvsOf ((fs.take (i + 1)).map (ren o n)))) := fun w hw => by
            refine ⟨_, Sum.inr w, rfl, sT _ _ hD, ?_, (b.same sT).upd, ?_⟩
            · rw [kvsOf_len, List.length_map, List.length_take]
              omega
            · rw [upd_same, put_of, setF_new (getF_of_none (by rw [hw]; exact nk)), et, hw]
              rfl
          refine ⟨T, _, rfl, SqT.of upd_same, rfl, _, _, rfl, _, _, rfl, rfl, rfl, _, rfl, _, rfl, rfl, _, rfl, ite2 (fun e => ?_) (fun e => ?_)⟩
          · have eq : x.1 = o := V.str.inj (of_decide_eq_true e)
            exact ⟨_, rfl, _, rfl, done n (by show n = (if x.1 = o then n else x.1); rw [if_pos eq])⟩
          · have ne : ¬ x.1 = o := fun z => e (decide_eq_true (congrArg V.str z))
            exact ⟨_, rfl, _, rfl, done x.1 (by show x.1 = (if x.1 = o then n else x.1); rw [if_neg ne])⟩
        · rintro H' ⟨b, hD⟩
          rw [kvsOf_len, List.take_length] at hD
          obtain ⟨k1, k2, k3⟩ := unlock hF1 nD b hD
          exact ⟨k1, q _ _ (s1.trans k2) k3⟩
end
end St6

set_option autoImplicit false
set_option maxHeartbeats 4000000
namespace St6
open PySem PySem.Spec PyProof.Rows L2 Tg Cc Nn
def saySigns : Str := "abcdefghijklmnopqrstuvwxyz0123456789 -"
def spSaying (K : PySem.W.Frag) : Sp := fun vs H Q _ => ∃ v d, vs = [v] ∧ Th K H v d ∧ Ok d ∧ ∀ H', Same H H' → Q (.bl (sayB d)) H'
def spPart (K : PySem.W.Frag) : Sp := fun vs H Q _ => ∃ sd fs v d, vs = [.ref sd, v] ∧ Fd H sd fs ∧ Th K H v d ∧ Ok d ∧ ∀ H', Same H H' → Q (.bl (partB fs d)) H'
theorem sayB_not {d : PyData} (h : isStr d = false) : sayB d = false := by
  cases d <;> first | rfl | cases h
theorem sumsB_not {fs : Fs} {d : PyData} (h : isTup d = false) : sumsB fs d = false := by
  cases d <;> first | rfl | cases h
theorem partsB_not {fs : Fs} {d : PyData} (h : isTup d = false) : partsB fs d = false := by
  cases d <;> first | rfl | cases h
theorem partB_not {fs : Fs} {d : PyData} (h : isTup d = false) : partB fs d = false := by
  cases d <;> first | rfl | cases h
theorem partB_len {fs : Fs} {ds : List PyData} (h : ds.length ≠ 2) : partB fs (.tuple ds) = false := by
  match ds, h with
  | [], _ => rfl
  | [a], _ => cases a <;> rfl
  | [_, _], h => exact absurd rfl h
  | a :: _ :: _ :: _, _ => cases a <;> rfl
theorem partB_word {fs : Fs} {a b : PyData} (h : isStr a = false) : partB fs (.tuple [a, b]) = false := by
  cases a <;> first | rfl | cases h
theorem tupV {K : PySem.W.Frag} {H : Hp} {t : List V} : True := trivial
theorem thAll2 {K : PySem.W.Frag} {H : Hp} {xs : List V} {a b : PyData} (h : ThAll K H xs [a, b]) : ∃ x y, xs = [x, y] ∧ Th K H x a ∧ Th K H y b := by
  obtain ⟨x0, r, rfl, t0, h⟩ := h.cons_of
  obtain ⟨x1, r, rfl, t1, h⟩ := h.cons_of
  obtain rfl := h.nil_of
  exact ⟨_, _, rfl, t0, t1⟩
section
variable {P : Program} {w : World} {K : PySem.W.Frag} {mg : Str → Option Value} {base : Heap}
theorem scsaying : FnScope ["thing", "sign"] ["thing"] (defScope sIsSaying) := ⟨rfl, rfl, rfl, by decide +kernel, rfl, by decide +kernel, by decide +kernel⟩
theorem ok_saying {f : Addr} {fd : FuncData} (F : FnP K "_is_saying" sIsSaying f fd)  (mb_isinstance : mg "isinstance" = none) (mb_str : mg "str" = none) (mb_len : mg "len" = none) (mb_all : mg "all" = none) {uL : Value} (m_LONGEST_SAYING : mg "LONGEST_SAYING" = some uL) (h_uL : RelV (.int 12) uL) {uS : Value} (m_SAYING_SIGNS : mg "SAYING_SIGNS" = some uS) (h_uS : RelV (.str saySigns) uS)  : FnOk P w K mg base CX0 1 f fd ["thing"] (spSaying K) := by
  refine F.ok scsaying (fun vs H Q E h => ?_) (fun cdv A outer s H vs Q E hr h => ?_)
  · obtain ⟨v, d, rfl, _⟩ := h
    rfl
  · obtain ⟨v, d, rfl, hT, hB, q⟩ := h
    have hu := hu_of hr
    refine ⟨_, PSs.nox (pss_cons (ps_if (PW.pt (pw_or (pt_not (pt_val (pe_callB call_isi (by rfl) mb_isinstance (by decide +kernel) (pa_cons (pv 0) (pa_cons (pe_bltn (v := .ty "str") (by rfl) mb_str (by decide +kernel) rfl) pa_nil))))) (pw_or1 (pt_not (pt_chain op_le op_le (pe_int) (pe_callB call_len_str (by rfl) mb_len (by decide +kernel) (pa_cons (pv 0) pa_nil)) (pe_glob rfl m_LONGEST_SAYING h_uL)))))) (pss_one (ps_ret (pe_bl))) (pss_nil))
      (pss_one (ps_ret (pe_callB (cr_all rfl) (by rfl) mb_all (by decide +kernel) (pa_cons (pe_lc (own := [("sign", 1)]) (g := gName 1) (tt := tYes) rfl scsaying.nd (pi_str (pv 0)) (blkOk_by (own := [("sign", 1)]) (N := ["thing", "sign"]) (sc := defScope sIsSaying) (by decide +kernel)) (fun _ _ _ _ _ => pg_name (i := 1) scsaying.nd rfl (Or.inl rfl)) (fun _ _ _ _ _ => pts_nil) (fun _ _ _ _ _ => pe_cmpR op_in_sign (pv 1) (pe_glob rfl m_SAYING_SIGNS h_uS) (by with_unfolding_all rfl))) pa_nil))))), ?_⟩
    refine ⟨_, rfl, v, .ty "str", _, _, _, rfl, .ty "str", hT.ty, kit_ty (kit_str d), _, rfl, ?_⟩
    cases hs : isStr d with
    | false =>
      refine iteT (iteT ?_)
      have e := q H (Same.refl H)
      rw [sayB_not hs] at e
      exact e
    | true =>
      obtain ⟨z, rfl⟩ := isStr_eq hs
      obtain rfl := hT.asStr
      have hz := (bd_str.mp hB).1
      refine iteF ⟨_, rfl, z, rfl, lineN hz, _, _, rfl, rfl, _, rfl, ?_⟩
      have val : sayB (.str z) = ((decide (1 ≤ z.length) && decide (z.length ≤ 12)) && z.cps.toList.all sayC) := rfl
      refine ite2 (fun e1 => ⟨_, _, rfl, rfl, _, rfl, ite2 (fun e2 => ?_) (fun e2 => ?_)⟩) (fun e1 => ⟨_, rfl, iteT ?_⟩)
      · have c2 : ¬ z.length ≤ 12 := fun y => by
          rw [decide_eq_true (show (z.length : Int) ≤ (12 : Int) by omega)] at e2
          cases e2
        have e := q H (Same.refl H)
        rw [val, decide_eq_false c2, Bool.and_false, Bool.false_and] at e
        exact e
      · have c1 : 1 ≤ z.length := by
          have := of_decide_eq_true e1
          omega
        have c2 : z.length ≤ 12 := by
          have : (!decide ((z.length : Int) ≤ (12 : Int))) = false := by simpa using e2
          rw [Bool.not_eq_false'] at this
          have := of_decide_eq_true this
          omega
        rw [val, decide_eq_true c1, decide_eq_true c2, Bool.true_and, Bool.true_and] at q
        refine ⟨_, rfl, z, rfl, fun D nD => ?_⟩
        refine lc_acc (walk_str (z := z)) (fun i acc H' => But D H H' ∧ acc = (z.cps.toList.take i).map fun c => V.bl (sayC c)) ⟨But.refl.upd, rfl⟩ (fun _ _ _ _ _ _ => trivial) ?_ ?_
        · rintro i x acc H1 H2 hi la ⟨b, ea⟩ hD ⟨rfl, c, hc, rfl⟩
          have hc2 : z.cps.toList[i]? = some c := by rw [Array.getElem?_toList]; exact hc
          have hl : z.length = z.cps.size := rfl
          refine ⟨rfl, _, rfl, c, saySigns, rfl, rfl, push hD la (by omega) ⟨b.upd, ?_⟩⟩
          rw [ea, List.take_succ, hc2, List.map_append]
          rfl
        · rintro acc H' la ⟨b, rfl⟩ hD
          rw [List.take_of_length_le (by rw [Array.length_toList]; exact Nat.le_refl _)] at hD
          refine ⟨D, z.cps.toList.map sayC, rfl, SqL.of (by rw [hD, List.map_map]; rfl), ?_⟩
          rw [List.all_map]
          exact q H' (b.new nD)
      · have c1 : ¬ 1 ≤ z.length := fun y => e1 (decide_eq_true (by omega))
        have e := q H (Same.refl H)
        rw [val, decide_eq_false c1, Bool.false_and, Bool.false_and] at e
        exact e
theorem scpart : FnScope ["sorts", "part", "word", "thing"] ["sorts", "part"] (defScope sIsPart) := ⟨rfl, rfl, rfl, by decide +kernel, rfl, by decide +kernel, by decide +kernel⟩
theorem ok_part {f : Addr} {fd : FuncData} (F : FnP K "_is_part" sIsPart f fd) {f__is_saying : Addr} {fd__is_saying : FuncData} (c__is_saying : Cl P w K mg base CX0 "_is_saying" 1 ["thing"] (spSaying K) f__is_saying fd__is_saying) {f__sort_of : Addr} {fd__sort_of : FuncData} (c__sort_of : Cl P w K mg base CX0 "_sort_of" 1 ["sorts", "field"] (spSortOf K) f__sort_of fd__sort_of) (mb_isinstance : mg "isinstance" = none) (mb_str : mg "str" = none) (mb_len : mg "len" = none) (mb_tuple : mg "tuple" = none) {aJ : Addr} (m_JOINED : mg "JOINED" = some (.ref aJ)) (hJ_ : ∀ H, SqT K H aJ (joinL.map V.str))  : FnOk P w K mg base CX0 2 f fd ["sorts", "part"] (spPart K) := by
  refine F.ok scpart (fun vs H Q E h => ?_) (fun cdv A outer s H vs Q E hr h => ?_)
  · obtain ⟨sd, fs, v, d, rfl, _⟩ := h
    rfl
  · obtain ⟨sd, fs, v, d, rfl, hF, hT, hB, q⟩ := h
    have hu := hu_of hr
    refine ⟨_, PSs.nox (pss_cons (ps_if (PW.pt (pw_or (pt_not (pt_val (pe_callB call_isi (by rfl) mb_isinstance (by decide +kernel) (pa_cons (pv 1) (pa_cons (pe_bltn (v := .ty "tuple") (by rfl) mb_tuple (by decide +kernel) rfl) pa_nil))))) (pw_or1 (pt_cmpR op_ne (pe_callB call_len (by rfl) mb_len (by decide +kernel) (pa_cons (pv 1) pa_nil)) (pe_int) (nomark _))))) (pss_one (ps_ret (pe_bl))) (pss_nil))
      (pss_cons (ps_asg (pv 1) (pg_tup rfl (pgs_cons (pg_name (i := 2) scpart.nd rfl (Or.inl rfl)) (pgs_cons (pg_name (i := 3) scpart.nd rfl (Or.inl rfl)) (pgs_nil)))))
      (pss_cons (ps_if (pt_not (pt_val (pe_callB call_isi (by rfl) mb_isinstance (by decide +kernel) (pa_cons (pv 2) (pa_cons (pe_bltn (v := .ty "str") (by rfl) mb_str (by decide +kernel) rfl) pa_nil))))) (pss_one (ps_ret (pe_bl))) (pss_nil))
      (pss_cons (ps_if (pt_cmpR op_eq (pv 2) (pe_str) (nomark _)) (pss_one (ps_ret (pe_call c__is_saying.ok (hr.mono (by decide)) (by rfl) c__is_saying.m c__is_saying.kp c__is_saying.b .nil pass0 (pa_cons (pv 3) pa_nil)))) (pss_nil))
      (pss_one (ps_ret (pe_and (pe_cmpR op_eq (pv 2) (pe_str) (nomark _)) (pe_one (pe_cmpR op_in_seq (pe_call c__sort_of.ok (hr.mono (by decide)) (by rfl) c__sort_of.m c__sort_of.kp c__sort_of.b .nil pass0 (pa_cons (pv 0) (pa_cons (pv 3) pa_nil))) (pe_glob (v := .ref aJ) rfl m_JOINED rfl) (by with_unfolding_all rfl)))))))))), ?_⟩
    refine ⟨_, rfl, v, .ty "tuple", _, _, _, rfl, .ty "tuple", hT.ty, kit_ty (kit_tup d), _, rfl, ?_⟩
    cases ht : isTup d with
    | false =>
      have e := q H (Same.refl H)
      rw [partB_not ht] at e
      exact iteT (iteT e)
    | true =>
      obtain ⟨ds, rfl⟩ := isTup_eq ht
      obtain ⟨a, xs, rfl, hx, hA⟩ := hT.asTup
      have lx := hA.len
      have bs := (Bd.tup hB).2
      refine iteF ⟨_, rfl, _, _, rfl, .inr ⟨_, hx, rfl⟩, rfl, _, rfl, ite2 (fun e => ?_) (fun e => ?_)⟩
      · have ne : ds.length ≠ 2 := fun z => by
          rw [dec_int, decide_eq_true (show (xs.length : Int) = 2 by omega)] at e
          cases e
        have e2 := q H (Same.refl H)
        rw [partB_len ne] at e2
        exact e2
      · have e2 : xs.length = 2 := by
          have e3 : (!decide (V.int (xs.length : Nat) = V.int 2)) = false := by simpa using e
          rw [dec_int, Bool.not_eq_false'] at e3
          have := of_decide_eq_true e3
          omega
        obtain ⟨d0, d1, rfl⟩ := len2 (lx.symm.trans e2)
        obtain ⟨x0, x1, rfl, t0, t1⟩ := thAll2 hA
        refine ⟨_, rfl, a, _, rfl, hx, rfl, _, _, rfl, _, _, rfl, rfl, ?_⟩
        refine ⟨_, rfl, x0, .ty "str", _, _, _, rfl, .ty "str", t0.ty, kit_ty (kit_str d0), _, rfl, ?_⟩
        cases hs : isStr d0 with
        | false =>
          have e := q H (Same.refl H)
          rw [partB_word hs] at e
          exact iteT e
        | true =>
          obtain ⟨w, rfl⟩ := isStr_eq hs
          obtain rfl := t0.asStr
          have b1 := bs d1 (by simp)
          have val : partB fs (.tuple [.str w, d1]) = if w = "say" then sayB d1 else (decide (w = "field") && amongB joinL (sortOf fs d1)) := rfl
          rw [val] at q
          refine iteF ⟨_, rfl, rfl, _, rfl, ite2 (fun e => ?_) (fun e => ?_)⟩
          · rw [dec_str] at e
            rw [if_pos (of_decide_eq_true e)] at q
            exact ⟨_, rfl, x1, d1, rfl, t1, b1, q⟩
          · rw [dec_str] at e
            rw [if_neg (fun z => e (decide_eq_true z))] at q
            refine ⟨_, rfl, rfl, _, rfl, ite2 (fun e3 => ?_) (fun e3 => ?_)⟩
            · rw [dec_str] at e3
              rw [decide_eq_true (of_decide_eq_true e3), Bool.true_and] at q
              refine ⟨_, rfl, _, rfl, sd, fs, x1, d1, rfl, hF, t1, b1, aJ, _, rfl, .inr (hJ_ H), flat_opt _, by decide +kernel, ?_⟩
              rw [if_neg (by decide), in_opt]
              exact q H (Same.refl H)
            · rw [dec_str] at e3
              have n3 : ¬ w = "field" := fun z => e3 (decide_eq_true z)
              rw [decide_eq_false n3, Bool.false_and] at q
              exact q H (Same.refl H)
theorem scbsum : FnScope ["sorts", "step", "_", "new", "fields", "field"] ["sorts", "step"] (defScope sBehindSum) := ⟨rfl, rfl, rfl, by decide +kernel, rfl, by decide +kernel, by decide +kernel⟩
theorem ok_bsum {f : Addr} {fd : FuncData} (F : FnP K "_behind_sum" sBehindSum f fd) {f__is_new : Addr} {fd__is_new : FuncData} (c__is_new : Cl P w K mg base CX0 "_is_new" 3 ["sorts", "field"] (spIsNew K) f__is_new fd__is_new) {f__sort_of : Addr} {fd__sort_of : FuncData} (c__sort_of : Cl P w K mg base CX0 "_sort_of" 1 ["sorts", "field"] (spSortOf K) f__sort_of fd__sort_of) (mb_isinstance : mg "isinstance" = none) (mb_tuple : mg "tuple" = none) (mb_len : mg "len" = none) (mb_all : mg "all" = none) {uM : Value} (m_MOST_SUMMED : mg "MOST_SUMMED" = some uM) (h_uM : RelV (.int 6) uM) {aN : Addr} (m_NUMBERS : mg "NUMBERS" = some (.ref aN)) (hN_ : ∀ H, SqT K H aN (numsL.map V.str)) {rec : Fs → PyData → Except Nat Fs} : FnOk P w K mg base CX0 4 f fd ["sorts", "step"] (spLead K rec "sum" 2) := by
  refine F.ok scbsum (fun vs H Q E h => ?_) (fun cdv A outer s H vs Q E hr h => ?_)
  · obtain ⟨sd, fs, v, r, rfl, _⟩ := h
    rfl
  · obtain ⟨sd, fs, v, r, rfl, hF, hT, hl, hB, q⟩ := h
    have hu := hu_of hr
    have hs := szl
    refine ⟨_, PSs.nox (pss_cons (ps_asg (pv 1) (pg_tup rfl (pgs_cons (pg_name (i := 2) scbsum.nd rfl (Or.inl rfl)) (pgs_cons (pg_name (i := 3) scbsum.nd rfl (Or.inl rfl)) (pgs_cons (pg_name (i := 4) scbsum.nd rfl (Or.inl rfl)) (pgs_nil))))))
      (pss_cons (ps_if (PW.pt (pw_or (pt_not (pt_val (pe_call c__is_new.ok (hr.mono (by decide)) (by rfl) c__is_new.m c__is_new.kp c__is_new.b .nil pass0 (pa_cons (pv 0) (pa_cons (pv 3) pa_nil))))) (pw_or (pt_not (pt_val (pe_callB call_isi (by rfl) mb_isinstance (by decide +kernel) (pa_cons (pv 4) (pa_cons (pe_bltn (v := .ty "tuple") (by rfl) mb_tuple (by decide +kernel) rfl) pa_nil))))) (pw_or1 (pt_not (pt_chain op_le op_le (pe_int) (pe_callB call_len (by rfl) mb_len (by decide +kernel) (pa_cons (pv 4) pa_nil)) (pe_glob rfl m_MOST_SUMMED h_uM))))))) (pss_one (ps_ret (pe_non))) (pss_nil))
      (pss_cons (ps_if (pt_not (pt_val (pe_callB (cr_all rfl) (by rfl) mb_all (by decide +kernel) (pa_cons (pe_lc (own := [("field", 5)]) (g := gName 5) (tt := tYes) rfl scbsum.nd (pi_tup (pv 4)) (blkOk_by (own := [("field", 5)]) (N := ["sorts", "step", "_", "new", "fields", "field"]) (sc := defScope sBehindSum) (by decide +kernel)) (fun _ _ _ _ _ => pg_name (i := 5) scbsum.nd rfl (Or.inl rfl)) (fun _ _ _ _ _ => pts_nil) (fun _ _ _ _ _ => pe_cmpR (Nn.op_inSk (K := K) rfl) (pe_call c__sort_of.ok (hr.mono (by decide)) (by rfl) c__sort_of.m c__sort_of.kp c__sort_of.b .nil pass0 (pa_cons (pv 0) (pa_cons (pv 5) pa_nil))) (pe_glob (v := .ref aN) rfl m_NUMBERS rfl) (by with_unfolding_all rfl))) pa_nil)))) (pss_one (ps_ret (pe_non))) (pss_nil))
      (pss_one (ps_ret (Nn.pe_dstar (pv 0) (pv 3) (pe_str))))))), ?_⟩
    obtain ⟨d0, d1, rfl⟩ := len2 hl
    obtain ⟨a, xs, rfl, hx, hA⟩ := hT.asTup
    obtain ⟨x0, x1, rfl, t0, t1⟩ := th2 hA
    have b0 := hB d0 (by simp)
    have b1 := hB d1 (by simp)
    replace q : Res (sumB fs d0 d1) H Q := q
    unfold sumB at q
    refine ⟨_, rfl, a, _, rfl, hx, rfl, _, _, rfl, _, _, rfl, _, _, rfl, rfl, _, rfl, _, rfl, sd, fs, x0, d0, rfl, hF, t0, b0, fun H1 s1 => ⟨_, rfl, ?_⟩⟩
    cases hn : isNewB fs d0 with
    | false =>
      rw [hn, Bool.false_and] at q
      exact iteT (iteT (q H1 s1))
    | true =>
      rw [hn, Bool.true_and] at q
      have t1 := t1.kept (kept_same s1)
      have hF1 := hF.same s1
      have no : sumsB fs d1 = false → ∀ H2, Same H1 H2 → Q .non H2 := fun hf H2 s2 => by
        rw [hf] at q
        exact q H2 (s1.trans s2)
      refine iteF ⟨_, rfl, x1, .ty "tuple", _, _, _, rfl, .ty "tuple", t1.ty, kit_ty (kit_tup d1), _, rfl, ?_⟩
      cases ht : isTup d1 with
      | false => exact iteT (iteT (no (sumsB_not ht) H1 (Same.refl H1)))
      | true =>
        obtain ⟨ds, rfl⟩ := isTup_eq ht
        obtain ⟨p, ys, rfl, hy, hY⟩ := t1.asTup
        have ly := hY.len
        have bs := (Bd.tup b1).2
        have val : sumsB fs (.tuple ds) = (decide (1 ≤ ds.length) && decide (ds.length ≤ 6) && ds.all (fun f => amongB numsL (sortOf fs f))) := rfl
        refine iteF ⟨_, rfl, _, _, rfl, .inr ⟨_, hy, rfl⟩, _, _, rfl, rfl, _, rfl, ite2 (fun e1 => ⟨_, _, rfl, rfl, _, rfl, ite2 (fun e2 => ?_) (fun e2 => ?_)⟩) (fun e1 => ⟨_, rfl, iteT (no ?_ H1 (Same.refl H1))⟩)⟩
        · have c2 : ¬ ds.length ≤ 6 := fun y => by
            rw [decide_eq_true (show (ys.length : Int) ≤ (6 : Int) by omega)] at e2
            cases e2
          exact no (by rw [val, decide_eq_false c2, Bool.and_false, Bool.false_and]) H1 (Same.refl H1)
        · have c1 : 1 ≤ ds.length := by
            have := of_decide_eq_true e1
            omega
          have c2 : ds.length ≤ 6 := by
            have : (!decide ((ys.length : Int) ≤ (6 : Int))) = false := by simpa using e2
            rw [Bool.not_eq_false'] at this
            have := of_decide_eq_true this
            omega
          rw [decide_eq_true c1, decide_eq_true c2, Bool.true_and, Bool.true_and] at val
          rw [val] at q no
          refine ⟨_, rfl, p, rfl, ⟨_, hy⟩, fun D nD => ?_⟩
          refine lc_acc (walk_tup (K := K) (a := p) (xs := ys)) (fun i acc H' => But D H1 H' ∧ acc = (ds.take i).map fun f => V.bl ((fun f => amongB numsL (sortOf fs f)) f)) ⟨But.refl.upd, rfl⟩ (fun i acc H' _ ⟨b, _⟩ _ => Sq.same (t := true) hy (b.new nD)) ?_ ?_
          · rintro i x acc H2 H3 hi la ⟨b, ea⟩ hD ⟨rfl, hx2⟩
            obtain ⟨d, hd, td, md⟩ := ThAll.get2 hY hx2
            have s2 := b.new nD
            have et : (ds.take (i + 1)).map (fun f => V.bl ((fun f => amongB numsL (sortOf fs f)) f)) = (ds.take i).map (fun f => V.bl ((fun f => amongB numsL (sortOf fs f)) f)) ++ [V.bl ((fun f => amongB numsL (sortOf fs f)) d)] := by rw [List.take_succ, hd, List.map_append]; rfl
            refine ⟨rfl, _, rfl, _, rfl, sd, fs, x, d, rfl, hF1.same s2, td.kept (kept_same s2), bs d md, aN, _, rfl, .inr (hN_ _), flat_opt _, by decide +kernel, ?_⟩
            rw [if_neg (by decide), in_opt]
            exact push hD la (by omega) ⟨b.upd, by rw [ea, et]⟩
          · rintro acc H2 la ⟨b, rfl⟩ hD
            rw [ly, List.take_length] at hD
            have s2 := b.new nD
            refine ⟨D, ds.map (fun f => amongB numsL (sortOf fs f)), rfl, SqL.of (by rw [hD, List.map_map]; rfl), _, rfl, ?_⟩
            rw [List.all_map]
            replace q : Res (if ds.all (fun f => amongB numsL (sortOf fs f)) = true then some (fs ++ [(txtOf d0, ("amount" : Str))]) else none) H Q := q
            show if (!(ds.all (fun f => amongB numsL (sortOf fs f)))) = true then _ else _
            cases hall : ds.all (fun f => amongB numsL (sortOf fs f)) with
            | false => exact iteT (no hall H2 s2)
            | true =>
              rw [hall, if_pos rfl] at q
              obtain ⟨z, rfl, hz⟩ := isNew_of hn
              obtain rfl := t0.asStr
              refine iteF (star_goes (hF1.same s2) (fun _ _ k => ⟨_, rfl, k⟩) (fun _ _ k => ⟨_, rfl, k⟩) (fun H' k s3 hk => hk) (fun H' p s3 e => q H' p ((s1.trans s2).trans s3) ?_))
              rw [e, setF_new hz]
              rfl
        · have c1 : ¬ 1 ≤ ds.length := fun y => e1 (decide_eq_true (by omega))
          rw [val, decide_eq_false c1, Bool.false_and, Bool.false_and]
theorem scbjoin : FnScope ["sorts", "step", "_", "new", "parts", "part"] ["sorts", "step"] (defScope sBehindJoin) := ⟨rfl, rfl, rfl, by decide +kernel, rfl, by decide +kernel, by decide +kernel⟩
theorem ok_bjoin {f : Addr} {fd : FuncData} (F : FnP K "_behind_join" sBehindJoin f fd) {f__is_new : Addr} {fd__is_new : FuncData} (c__is_new : Cl P w K mg base CX0 "_is_new" 3 ["sorts", "field"] (spIsNew K) f__is_new fd__is_new) {f__is_part : Addr} {fd__is_part : FuncData} (c__is_part : Cl P w K mg base CX0 "_is_part" 2 ["sorts", "part"] (spPart K) f__is_part fd__is_part) (mb_isinstance : mg "isinstance" = none) (mb_tuple : mg "tuple" = none) (mb_len : mg "len" = none) (mb_all : mg "all" = none) {uM : Value} (m_MOST_PARTS : mg "MOST_PARTS" = some uM) (h_uM : RelV (.int 8) uM) {rec : Fs → PyData → Except Nat Fs} : FnOk P w K mg base CX0 4 f fd ["sorts", "step"] (spLead K rec "join" 2) := by
  refine F.ok scbjoin (fun vs H Q E h => ?_) (fun cdv A outer s H vs Q E hr h => ?_)
  · obtain ⟨sd, fs, v, r, rfl, _⟩ := h
    rfl
  · obtain ⟨sd, fs, v, r, rfl, hF, hT, hl, hB, q⟩ := h
    have hu := hu_of hr
    have hs := szl
    refine ⟨_, PSs.nox (pss_cons (ps_asg (pv 1) (pg_tup rfl (pgs_cons (pg_name (i := 2) scbjoin.nd rfl (Or.inl rfl)) (pgs_cons (pg_name (i := 3) scbjoin.nd rfl (Or.inl rfl)) (pgs_cons (pg_name (i := 4) scbjoin.nd rfl (Or.inl rfl)) (pgs_nil))))))
      (pss_cons (ps_if (PW.pt (pw_or (pt_not (pt_val (pe_call c__is_new.ok (hr.mono (by decide)) (by rfl) c__is_new.m c__is_new.kp c__is_new.b .nil pass0 (pa_cons (pv 0) (pa_cons (pv 3) pa_nil))))) (pw_or (pt_not (pt_val (pe_callB call_isi (by rfl) mb_isinstance (by decide +kernel) (pa_cons (pv 4) (pa_cons (pe_bltn (v := .ty "tuple") (by rfl) mb_tuple (by decide +kernel) rfl) pa_nil))))) (pw_or1 (pt_not (pt_chain op_le op_le (pe_int) (pe_callB call_len (by rfl) mb_len (by decide +kernel) (pa_cons (pv 4) pa_nil)) (pe_glob rfl m_MOST_PARTS h_uM))))))) (pss_one (ps_ret (pe_non))) (pss_nil))
      (pss_cons (ps_if (pt_not (pt_val (pe_callB (cr_all rfl) (by rfl) mb_all (by decide +kernel) (pa_cons (pe_lc (own := [("part", 5)]) (g := gName 5) (tt := tYes) rfl scbjoin.nd (pi_tup (pv 4)) (blkOk_by (own := [("part", 5)]) (N := ["sorts", "step", "_", "new", "parts", "part"]) (sc := defScope sBehindJoin) (by decide +kernel)) (fun _ _ _ _ _ => pg_name (i := 5) scbjoin.nd rfl (Or.inl rfl)) (fun _ _ _ _ _ => pts_nil) (fun _ _ _ _ _ => pe_call c__is_part.ok (hr.mono (by decide)) (by rfl) c__is_part.m c__is_part.kp c__is_part.b .nil pass0 (pa_cons (pv 0) (pa_cons (pv 5) pa_nil)))) pa_nil)))) (pss_one (ps_ret (pe_non))) (pss_nil))
      (pss_one (ps_ret (Nn.pe_dstar (pv 0) (pv 3) (pe_str))))))), ?_⟩
    obtain ⟨d0, d1, rfl⟩ := len2 hl
    obtain ⟨a, xs, rfl, hx, hA⟩ := hT.asTup
    obtain ⟨x0, x1, rfl, t0, t1⟩ := th2 hA
    have b0 := hB d0 (by simp)
    have b1 := hB d1 (by simp)
    replace q : Res (joinB fs d0 d1) H Q := q
    unfold joinB at q
    refine ⟨_, rfl, a, _, rfl, hx, rfl, _, _, rfl, _, _, rfl, _, _, rfl, rfl, _, rfl, _, rfl, sd, fs, x0, d0, rfl, hF, t0, b0, fun H1 s1 => ⟨_, rfl, ?_⟩⟩
    cases hn : isNewB fs d0 with
    | false =>
      rw [hn, Bool.false_and] at q
      exact iteT (iteT (q H1 s1))
    | true =>
      rw [hn, Bool.true_and] at q
      have t1 := t1.kept (kept_same s1)
      have hF1 := hF.same s1
      have no : partsB fs d1 = false → ∀ H2, Same H1 H2 → Q .non H2 := fun hf H2 s2 => by
        rw [hf] at q
        exact q H2 (s1.trans s2)
      refine iteF ⟨_, rfl, x1, .ty "tuple", _, _, _, rfl, .ty "tuple", t1.ty, kit_ty (kit_tup d1), _, rfl, ?_⟩
      cases ht : isTup d1 with
      | false => exact iteT (iteT (no (partsB_not ht) H1 (Same.refl H1)))
      | true =>
        obtain ⟨ds, rfl⟩ := isTup_eq ht
        obtain ⟨p, ys, rfl, hy, hY⟩ := t1.asTup
        have ly := hY.len
        have bs := (Bd.tup b1).2
        have val : partsB fs (.tuple ds) = (decide (1 ≤ ds.length) && decide (ds.length ≤ 8) && ds.all (partB fs)) := rfl
        refine iteF ⟨_, rfl, _, _, rfl, .inr ⟨_, hy, rfl⟩, _, _, rfl, rfl, _, rfl, ite2 (fun e1 => ⟨_, _, rfl, rfl, _, rfl, ite2 (fun e2 => ?_) (fun e2 => ?_)⟩) (fun e1 => ⟨_, rfl, iteT (no ?_ H1 (Same.refl H1))⟩)⟩
        · have c2 : ¬ ds.length ≤ 8 := fun y => by
            rw [decide_eq_true (show (ys.length : Int) ≤ (8 : Int) by omega)] at e2
            cases e2
          exact no (by rw [val, decide_eq_false c2, Bool.and_false, Bool.false_and]) H1 (Same.refl H1)
        · have c1 : 1 ≤ ds.length := by
            have := of_decide_eq_true e1
            omega
          have c2 : ds.length ≤ 8 := by
            have : (!decide ((ys.length : Int) ≤ (8 : Int))) = false := by simpa using e2
            rw [Bool.not_eq_false'] at this
            have := of_decide_eq_true this
            omega
          rw [decide_eq_true c1, decide_eq_true c2, Bool.true_and, Bool.true_and] at val
          rw [val] at q no
          refine ⟨_, rfl, p, rfl, ⟨_, hy⟩, fun D nD => ?_⟩
          refine lc_acc (walk_tup (K := K) (a := p) (xs := ys)) (fun i acc H' => But D H1 H' ∧ acc = (ds.take i).map fun f => V.bl ((partB fs) f)) ⟨But.refl.upd, rfl⟩ (fun i acc H' _ ⟨b, _⟩ _ => Sq.same (t := true) hy (b.new nD)) ?_ ?_
          · rintro i x acc H2 H3 hi la ⟨b, ea⟩ hD ⟨rfl, hx2⟩
            obtain ⟨d, hd, td, md⟩ := ThAll.get2 hY hx2
            have s2 := b.new nD
            have et : (ds.take (i + 1)).map (fun f => V.bl ((partB fs) f)) = (ds.take i).map (fun f => V.bl ((partB fs) f)) ++ [V.bl ((partB fs) d)] := by rw [List.take_succ, hd, List.map_append]; rfl
            refine ⟨rfl, _, rfl, _, rfl, sd, fs, x, d, rfl, hF1.same s2, td.kept (kept_same s2), bs d md, fun H4 s4 => ?_⟩
            exact push (s4 _ _ hD) la (by omega) ⟨(b.same s4).upd, by rw [ea, et]⟩
          · rintro acc H2 la ⟨b, rfl⟩ hD
            rw [ly, List.take_length] at hD
            have s2 := b.new nD
            refine ⟨D, ds.map (partB fs), rfl, SqL.of (by rw [hD, List.map_map]; rfl), _, rfl, ?_⟩
            rw [List.all_map]
            replace q : Res (if ds.all (partB fs) = true then some (fs ++ [(txtOf d0, ("text" : Str))]) else none) H Q := q
            show if (!(ds.all (partB fs))) = true then _ else _
            cases hall : ds.all (partB fs) with
            | false => exact iteT (no hall H2 s2)
            | true =>
              rw [hall, if_pos rfl] at q
              obtain ⟨z, rfl, hz⟩ := isNew_of hn
              obtain rfl := t0.asStr
              refine iteF (star_goes (hF1.same s2) (fun _ _ k => ⟨_, rfl, k⟩) (fun _ _ k => ⟨_, rfl, k⟩) (fun H' k s3 hk => hk) (fun H' p s3 e => q H' p ((s1.trans s2).trans s3) ?_))
              rw [e, setF_new hz]
              rfl
        · have c1 : ¬ 1 ≤ ds.length := fun y => e1 (decide_eq_true (by omega))
          rw [val, decide_eq_false c1, Bool.false_and, Bool.false_and]
end
end St6

set_option autoImplicit false
set_option maxHeartbeats 4000000
namespace St6
open PySem PySem.Spec PyProof.Rows L2 Tg Cc Nn Ys
/-- the keys that were met: S and m tell them -/
structure MetK (ks : List Key) (i : Nat) (S : Key → Bool) (m : Nat) : Prop where
  has : ∀ k, S k = true ↔ k ∈ ks.take i
  le : m ≤ i
  all : (ks.take i).Nodup → m = i
  few : ¬ (ks.take i).Nodup → m < i
theorem MetK.zero {ks : List Key} : MetK ks 0 (fun _ => false) 0 := ⟨fun k => ⟨fun h => (Bool.false_ne_true h).elim, fun h => by simp at h⟩, Nat.le_refl _, fun _ => rfl, fun h => absurd (by simp) h⟩
theorem MetK.next {ks : List Key} {i : Nat} {S : Key → Bool} {m : Nat} (h : MetK ks i S m) {k : Key} (hk : ks[i]? = some k) :
    MetK ks (i + 1) (fun j => S j || decide (j = k)) (if S k = true then m else m + 1) := by
  have et : ks.take (i + 1) = ks.take i ++ [k] := by rw [List.take_succ, hk]; rfl
  have nd : (ks.take (i + 1)).Nodup ↔ (ks.take i).Nodup ∧ k ∉ ks.take i := by
    rw [et, List.nodup_append]
    constructor
    · exact fun h => ⟨h.1, fun hm => h.2.2 _ hm _ (List.mem_singleton_self _) rfl⟩
    · refine fun h => ⟨h.1, by simp, fun a ha b hb => ?_⟩
      have : b = k := by simpa using hb
      subst this
      exact fun e => h.2 (by rw [← e]; exact ha)
  have hl := h.le
  refine ⟨fun j => ?_, ?_, fun hn => ?_, fun hn => ?_⟩
  · show (S j || decide (j = k)) = true ↔ _
    rw [Bool.or_eq_true, h.has, et, List.mem_append, List.mem_singleton, decide_eq_true_eq]
  · split <;> omega
  · obtain ⟨h1, h2⟩ := nd.mp hn
    have e := h.all h1
    rw [if_neg fun z => h2 ((h.has k).mp z)]
    omega
  · by_cases hm : k ∈ ks.take i
    · rw [if_pos ((h.has k).mpr hm)]
      omega
    · have h1 : ¬ (ks.take i).Nodup := fun z => hn (nd.mpr ⟨z, hm⟩)
      have := h.few h1
      rw [if_neg fun z => hm ((h.has k).mp z)]
      omega
theorem MetK.end {ks : List Key} {S : Key → Bool} {m : Nat} (h : MetK ks ks.length S m) : decide ((m : Int) = (ks.length : Int)) = decide ks.Nodup := by
  have ht : ks.take ks.length = ks := List.take_length
  by_cases hn : ks.Nodup
  · have := h.all (by rw [ht]; exact hn)
    rw [decide_eq_true hn, decide_eq_true (by omega)]
  · have := h.few (by rw [ht]; exact hn)
    rw [decide_eq_false hn, decide_eq_false (by omega)]
def spRow (K : PySem.W.Frag) : Sp := fun vs H Q _ => ∃ v d e s, vs = [v, .str e, .str s] ∧ Th K H v d ∧ Ok d ∧ ∀ H', Same H H' → Q (.bl (rowB e s d)) H'
def spRows (K : PySem.W.Frag) : Sp := fun vs H Q _ => ∃ v d e s, vs = [v, .str e, .str s] ∧ Th K H v d ∧ Ok d ∧ e ∈ testL ∧ ∀ H', Same H H' → Q (.bl (rowsB e s d)) H'
def spOther (K : PySem.W.Frag) : Sp := fun vs H Q _ => ∃ v d e s, vs = [v, .str e, .str s] ∧ Th K H v d ∧ Ok d ∧ ∀ H', Same H H' → Q (.bl (otherB e s d)) H'
theorem rowB_not {e s : Str} {d : PyData} (h : isTup d = false) : rowB e s d = false := by
  cases d <;> first | rfl | cases h
theorem rowB_len {e s : Str} {ds : List PyData} (h : ds.length ≠ 2) : rowB e s (.tuple ds) = false := by
  match ds, h with
  | [], _ => rfl
  | [_], _ => rfl
  | [_, _], h => exact absurd rfl h
  | _ :: _ :: _ :: _, _ => rfl
theorem rowsB_not {e s : Str} {d : PyData} (h : isTup d = false) : rowsB e s d = false := by
  cases d <;> first | rfl | cases h
theorem otherB_len {e s : Str} {ds : List PyData} (h : ds.length ≠ 1) : otherB e s (.tuple ds) = false := by
  match ds, h with
  | [], _ => rfl
  | [_], h => exact absurd rfl h
  | _ :: _ :: _, _ => rfl
def noneB : PyData → Bool
  | .none => true
  | _ => false
theorem otherB_not {e s : Str} {d : PyData} (h : isTup d = false) (n : noneB d = false) : otherB e s d = false := by
  cases d with
  | none => cases n
  | tuple l => cases h
  | _ => rfl
theorem th_non {K : PySem.W.Frag} {H : Hp} {v : V} {d : PyData} (h : Th K H v d) : decide (v = .non) = noneB d := by
  cases h <;> rfl
/-- the first of a good row is a key -/
theorem row_key {K : PySem.W.Frag} {H : Hp} {v : V} {d : PyData} {e s : Str} (h : Th K H v d) (hr : rowB e s d = true) (he : e ∈ testL) : ∃ p x y, v = .ref p ∧ SqT K H p [x, y] ∧ x = kV (keyOf d) := by
  have ht : isTup d = true := by
    cases hd : isTup d with
    | true => rfl
    | false =>
      rw [rowB_not hd] at hr
      cases hr
  obtain ⟨ds, rfl⟩ := isTup_eq ht
  have hl : ds.length = 2 := by
    by_cases hl : ds.length = 2
    · exact hl
    · rw [rowB_len hl] at hr
      cases hr
  obtain ⟨a, b, rfl⟩ := len2 hl
  obtain ⟨p, xs, rfl, hx, hA⟩ := h.asTup
  obtain ⟨x, y, rfl, t0, t1⟩ := thAll2 hA
  refine ⟨p, x, y, rfl, hx, ?_⟩
  have ho : ofSort e a = true := by
    have : (ofSort e a && ofSort s b) = true := hr
    rw [Bool.and_eq_true] at this
    exact this.1
  have he : e = "code" ∨ e = "word" := by simpa [testL] using he
  rcases he with rfl | rfl
  · have hw : wholeB a = true := ho
    cases t0 with
    | int i => rfl
    | _ => cases hw
  · have hw : smallB 8 a = true := ho
    obtain ⟨z, rfl⟩ := small_str hw
    obtain rfl := t0.asStr
    rfl
section
variable {P : Program} {w : World} {K : PySem.W.Frag} {mg : Str → Option Value} {base : Heap}
theorem scrow : FnScope ["row", "elder", "sort"] ["row", "elder", "sort"] (defScope sIsRow) := ⟨rfl, rfl, rfl, by decide +kernel, rfl, by decide +kernel, by decide +kernel⟩
theorem ok_row {f : Addr} {fd : FuncData} (F : FnP K "_is_row" sIsRow f fd) {f_is_of_sort : Addr} {fd_is_of_sort : FuncData} (c_is_of_sort : Cl P w K mg base CX0 "is_of_sort" 3 ["value", "sort"] (spOfSort K) f_is_of_sort fd_is_of_sort) (mb_isinstance : mg "isinstance" = none) (mb_tuple : mg "tuple" = none) (mb_len : mg "len" = none)   : FnOk P w K mg base CX0 4 f fd ["row", "elder", "sort"] (spRow K) := by
  refine F.ok scrow (fun vs H Q E h => ?_) (fun cdv A outer s H vs Q E hr h => ?_)
  · obtain ⟨v, d, e, s, rfl, _⟩ := h
    rfl
  · obtain ⟨v, d, el, so, rfl, hT, hB, q⟩ := h
    have hu := hu_of hr
    refine ⟨_, PSs.nox (pss_cons (ps_if (PW.pt (pw_or (pt_not (pt_val (pe_callB call_isi (by rfl) mb_isinstance (by decide +kernel) (pa_cons (pv 0) (pa_cons (pe_bltn (v := .ty "tuple") (by rfl) mb_tuple (by decide +kernel) rfl) pa_nil))))) (pw_or1 (pt_cmpR op_ne (pe_callB call_len (by rfl) mb_len (by decide +kernel) (pa_cons (pv 0) pa_nil)) (pe_int) (nomark _))))) (pss_one (ps_ret (pe_bl))) (pss_nil))
      (pss_one (ps_ret (pe_and (pe_call c_is_of_sort.ok (hr.mono (by decide)) (by rfl) c_is_of_sort.m c_is_of_sort.kp c_is_of_sort.b .nil pass0 (pa_cons (pe_ix Cc.ix_B (pv 0) (pe_int) (fun _ _ => rfl)) (pa_cons (pv 1) pa_nil))) (pe_one (pe_call c_is_of_sort.ok (hr.mono (by decide)) (by rfl) c_is_of_sort.m c_is_of_sort.kp c_is_of_sort.b .nil pass0 (pa_cons (pe_ix Cc.ix_B (pv 0) (pe_int) (fun _ _ => rfl)) (pa_cons (pv 2) pa_nil)))))))), ?_⟩
    refine ⟨_, rfl, v, .ty "tuple", _, _, _, rfl, .ty "tuple", hT.ty, kit_ty (kit_tup d), _, rfl, ?_⟩
    cases ht : isTup d with
    | false =>
      have e := q H (Same.refl H)
      rw [rowB_not ht] at e
      exact iteT (iteT e)
    | true =>
      obtain ⟨ds, rfl⟩ := isTup_eq ht
      obtain ⟨a, xs, rfl, hx, hA⟩ := hT.asTup
      have lx := hA.len
      have bs := (Bd.tup hB).2
      refine iteF ⟨_, rfl, _, _, rfl, .inr ⟨_, hx, rfl⟩, rfl, _, rfl, ite2 (fun e => ?_) (fun e => ?_)⟩
      · have ne : ds.length ≠ 2 := fun z => by
          rw [dec_int, decide_eq_true (show (xs.length : Int) = 2 by omega)] at e
          cases e
        have e2 := q H (Same.refl H)
        rw [rowB_len ne] at e2
        exact e2
      · have e2 : xs.length = 2 := by
          have e3 : (!decide (V.int (xs.length : Nat) = V.int 2)) = false := by simpa using e
          rw [dec_int, Bool.not_eq_false'] at e3
          have := of_decide_eq_true e3
          omega
        obtain ⟨d0, d1, rfl⟩ := len2 (lx.symm.trans e2)
        obtain ⟨x0, x1, rfl, t0, t1⟩ := thAll2 hA
        have val : rowB el so (.tuple [d0, d1]) = (ofSort el d0 && ofSort so d1) := rfl
        rw [val] at q
        refine ⟨_, rfl, true, a, _, 0, x0, rfl, rfl, hx, rfl, _, rfl, x0, d0, el, rfl, t0, bs d0 (by simp), fun H1 s1 => ⟨_, rfl, ?_⟩⟩
        cases ho : ofSort el d0 with
        | false =>
          rw [ho, Bool.false_and] at q
          exact iteF (q H1 s1)
        | true =>
          rw [ho, Bool.true_and] at q
          exact iteT ⟨_, rfl, true, a, _, 1, x1, rfl, rfl, Sq.same (t := true) hx s1, rfl, _, rfl, x1, d1, so, rfl, t1.kept (kept_same s1), bs d1 (by simp), fun H2 s2 => q H2 (s1.trans s2)⟩
theorem scother : FnScope ["other", "elder", "sort"] ["other", "elder", "sort"] (defScope sIsOther) := ⟨rfl, rfl, rfl, by decide +kernel, rfl, by decide +kernel, by decide +kernel⟩
theorem ok_other {f : Addr} {fd : FuncData} (F : FnP K "_is_other" sIsOther f fd) {f_is_of_sort : Addr} {fd_is_of_sort : FuncData} (c_is_of_sort : Cl P w K mg base CX0 "is_of_sort" 3 ["value", "sort"] (spOfSort K) f_is_of_sort fd_is_of_sort) (mb_isinstance : mg "isinstance" = none) (mb_tuple : mg "tuple" = none) (mb_len : mg "len" = none)   : FnOk P w K mg base CX0 4 f fd ["other", "elder", "sort"] (spOther K) := by
  refine F.ok scother (fun vs H Q E h => ?_) (fun cdv A outer s H vs Q E hr h => ?_)
  · obtain ⟨v, d, e, s, rfl, _⟩ := h
    rfl
  · obtain ⟨v, d, el, so, rfl, hT, hB, q⟩ := h
    have hu := hu_of hr
    refine ⟨_, PSs.nox (pss_cons (ps_if (pt_cmpR op_isN (pv 0) (pe_non) (nomark _)) (pss_one (ps_ret (pe_cmpR op_eq (pv 2) (pv 1) (nomark _)))) (pss_nil))
      (pss_one (ps_ret (pe_and (pe_callB call_isi (by rfl) mb_isinstance (by decide +kernel) (pa_cons (pv 0) (pa_cons (pe_bltn (v := .ty "tuple") (by rfl) mb_tuple (by decide +kernel) rfl) pa_nil))) (pe_and (pe_cmpR op_eq (pe_callB call_len (by rfl) mb_len (by decide +kernel) (pa_cons (pv 0) pa_nil)) (pe_int) (nomark _)) (pe_one (pe_call c_is_of_sort.ok (hr.mono (by decide)) (by rfl) c_is_of_sort.m c_is_of_sort.kp c_is_of_sort.b .nil pass0 (pa_cons (pe_ix Cc.ix_B (pv 0) (pe_int) (fun _ _ => rfl)) (pa_cons (pv 2) pa_nil))))))))), ?_⟩
    refine ⟨_, rfl, rfl, _, rfl, ?_⟩
    rw [th_non hT]
    cases hd : noneB d with
    | true =>
      have e : d = .none := by
        cases d <;> first | rfl | cases hd
      subst e
      refine iteT ⟨_, rfl, _, rfl, rfl, ?_⟩
      rw [dec_str]
      exact q H (Same.refl H)
    | false =>
      refine iteF ⟨_, rfl, v, .ty "tuple", _, _, _, rfl, .ty "tuple", hT.ty, kit_ty (kit_tup d), _, rfl, ?_⟩
      cases ht : isTup d with
      | false =>
        have e := q H (Same.refl H)
        rw [otherB_not ht hd] at e
        exact iteF e
      | true =>
        obtain ⟨ds, rfl⟩ := isTup_eq ht
        obtain ⟨a, xs, rfl, hx, hA⟩ := hT.asTup
        have lx := hA.len
        have bs := (Bd.tup hB).2
        refine iteT ⟨_, rfl, _, _, rfl, .inr ⟨_, hx, rfl⟩, rfl, _, rfl, ite2 (fun e => ?_) (fun e => ?_)⟩
        · rw [dec_int] at e
          have e2 : xs.length = 1 := by
            have := of_decide_eq_true e
            omega
          obtain ⟨d0, rfl⟩ := len1 (lx.symm.trans e2)
          obtain ⟨x0, r, rfl, t0, hA⟩ := hA.cons_of
          obtain rfl := hA.nil_of
          exact ⟨_, rfl, true, a, _, 0, x0, rfl, rfl, hx, rfl, _, rfl, x0, d0, so, rfl, t0, bs d0 (by simp), q⟩
        · rw [dec_int] at e
          have ne : ds.length ≠ 1 := fun z => e (decide_eq_true (show (xs.length : Int) = 1 by omega))
          have e2 := q H (Same.refl H)
          rw [otherB_len ne] at e2
          exact e2
theorem scrows : FnScope ["rows", "elder", "sort", "row"] ["rows", "elder", "sort"] (defScope sAreRows) := ⟨rfl, rfl, rfl, by decide +kernel, rfl, by decide +kernel, by decide +kernel⟩
theorem ok_rows {f : Addr} {fd : FuncData} (F : FnP K "_are_rows" sAreRows f fd) {f__is_row : Addr} {fd__is_row : FuncData} (c__is_row : Cl P w K mg base CX0 "_is_row" 4 ["row", "elder", "sort"] (spRow K) f__is_row fd__is_row) (mb_isinstance : mg "isinstance" = none) (mb_tuple : mg "tuple" = none) (mb_len : mg "len" = none) (mb_all : mg "all" = none) {uR : Value} (m_MOST_ROWS : mg "MOST_ROWS" = some uR) (h_uR : RelV (.int 4) uR)  : FnOk P w K mg base CX0 5 f fd ["rows", "elder", "sort"] (spRows K) := by
  refine F.ok scrows (fun vs H Q E h => ?_) (fun cdv A outer s H vs Q E hr h => ?_)
  · obtain ⟨v, d, e, s, rfl, _⟩ := h
    rfl
  · obtain ⟨v, d, el, so, rfl, hT, hB, hE, q⟩ := h
    have hu := hu_of hr
    have hs := szl
    refine ⟨_, PSs.nox (pss_cons (ps_if (PW.pt (pw_or (pt_not (pt_val (pe_callB call_isi (by rfl) mb_isinstance (by decide +kernel) (pa_cons (pv 0) (pa_cons (pe_bltn (v := .ty "tuple") (by rfl) mb_tuple (by decide +kernel) rfl) pa_nil))))) (pw_or1 (pt_cmpR op_gt (pe_callB call_len (by rfl) mb_len (by decide +kernel) (pa_cons (pv 0) pa_nil)) (pe_glob rfl m_MOST_ROWS h_uR) (nomark _))))) (pss_one (ps_ret (pe_bl))) (pss_nil))
      (pss_cons (ps_if (pt_not (pt_val (pe_callB (cr_all rfl) (by rfl) mb_all (by decide +kernel) (pa_cons (pe_lc (own := [("row", 3)]) (g := gName 3) (tt := tYes) rfl scrows.nd (pi_tup (pv 0)) (blkOk_by (own := [("row", 3)]) (N := ["rows", "elder", "sort", "row"]) (sc := defScope sAreRows) (by decide +kernel)) (fun _ _ _ _ _ => pg_name (i := 3) scrows.nd rfl (Or.inl rfl)) (fun _ _ _ _ _ => pts_nil) (fun _ _ _ _ _ => pe_call c__is_row.ok (hr.mono (by decide)) (by rfl) c__is_row.m c__is_row.kp c__is_row.b .nil pass0 (pa_cons (pv 3) (pa_cons (pv 1) (pa_cons (pv 2) pa_nil))))) pa_nil)))) (pss_one (ps_ret (pe_bl))) (pss_nil))
      (pss_one (ps_ret (pe_cmpR op_eq (pe_callB Ys.call_lenK (by rfl) mb_len (by decide +kernel) (pa_cons (Ys.pe_scK (own := [("row", 3)]) (g := gName 3) (tt := tYes) rfl scrows.nd (pi_tup (pv 0)) (blkOk_by (own := [("row", 3)]) (N := ["rows", "elder", "sort", "row"]) (sc := defScope sAreRows) (by decide +kernel)) (fun _ _ _ _ _ => pg_name (i := 3) scrows.nd rfl (Or.inl rfl)) (fun _ _ _ _ _ => pts_nil) (fun _ _ _ _ _ => pe_ix (Cc.ix_Bk (K := K) rfl) (pv 3) (pe_int) (fun _ _ => rfl))) pa_nil)) (pe_callB call_len (by rfl) mb_len (by decide +kernel) (pa_cons (pv 0) pa_nil)) (nomark _)))))), ?_⟩
    refine ⟨_, rfl, v, .ty "tuple", _, _, _, rfl, .ty "tuple", hT.ty, kit_ty (kit_tup d), _, rfl, ?_⟩
    cases ht : isTup d with
    | false =>
      have e := q H (Same.refl H)
      rw [rowsB_not ht] at e
      exact iteT (iteT e)
    | true =>
      obtain ⟨ds, rfl⟩ := isTup_eq ht
      obtain ⟨a, xs, rfl, hx, hA⟩ := hT.asTup
      have lx := hA.len
      have bs := (Bd.tup hB).2
      have val : rowsB el so (.tuple ds) = ((decide (ds.length ≤ 4) && ds.all (rowB el so)) && decide ((ds.map keyOf).Nodup)) := rfl
      rw [val] at q
      refine iteF ⟨_, rfl, _, _, rfl, .inr ⟨_, hx, rfl⟩, _, _, rfl, rfl, _, rfl, ite2 (fun e => ?_) (fun e => ?_)⟩
      · have ne : ¬ ds.length ≤ 4 := by
          have : (4 : Int) < (xs.length : Int) := of_decide_eq_true e
          omega
        have e2 := q H (Same.refl H)
        rw [decide_eq_false ne, Bool.false_and, Bool.false_and] at e2
        exact e2
      · have le : ds.length ≤ 4 := by
          have : ¬ (4 : Int) < (xs.length : Int) := fun z => e (decide_eq_true z)
          omega
        rw [decide_eq_true le, Bool.true_and] at q
        refine ⟨_, rfl, a, rfl, ⟨_, hx⟩, fun D nD => ?_⟩
        refine lc_acc (walk_tup (K := K) (a := a) (xs := xs)) (fun i acc H' => But D H H' ∧ acc = (ds.take i).map fun f => V.bl (rowB el so f)) ⟨But.refl.upd, rfl⟩ (fun i acc H' _ ⟨b, _⟩ _ => Sq.same (t := true) hx (b.new nD)) ?_ ?_
        · rintro i x acc H2 H3 hi la ⟨b, ea⟩ hD ⟨rfl, hx2⟩
          obtain ⟨d, hd, td, md⟩ := ThAll.get2 hA hx2
          have s2 := b.new nD
          have et : (ds.take (i + 1)).map (fun f => V.bl (rowB el so f)) = (ds.take i).map (fun f => V.bl (rowB el so f)) ++ [V.bl (rowB el so d)] := by rw [List.take_succ, hd, List.map_append]; rfl
          refine ⟨rfl, _, rfl, _, rfl, _, rfl, x, d, el, so, rfl, td.kept (kept_same s2), bs d md, fun H4 s4 => ?_⟩
          exact push (s4 _ _ hD) la (by omega) ⟨(b.same s4).upd, by rw [ea, et]⟩
        · rintro acc H2 la ⟨b, rfl⟩ hD
          rw [lx, List.take_length] at hD
          have s2 := b.new nD
          refine ⟨D, ds.map (rowB el so), rfl, SqL.of (by rw [hD, List.map_map]; rfl), _, rfl, ?_⟩
          rw [List.all_map]
          show if (!(ds.all (rowB el so))) = true then _ else _
          cases hall : ds.all (rowB el so) with
          | false =>
            rw [hall, Bool.false_and] at q
            exact iteT (q H2 s2)
          | true =>
            rw [hall, Bool.true_and] at q
            have hx1 := Sq.same (t := true) hx s2
            refine iteF ⟨_, rfl, a, rfl, ⟨xs, hx1⟩, fun D2 nD2 => ?_⟩
            refine sc_acc (walk_tup (K := K) (a := a) (xs := xs)) (fun i S m H' => But D2 H2 H' ∧ MetK (ds.map keyOf) i S m) ⟨But.refl.upd, MetK.zero⟩ (fun i S m H' _ ⟨b, _⟩ _ => Sq.same (t := true) hx1 (b.new nD2)) ?_ ?_
            · rintro i x S m H3 H4 hi ⟨b2, mt⟩ hD2 ⟨rfl, hx2⟩
              obtain ⟨d, hd, td, md⟩ := ThAll.get2 hA hx2
              have s3 := s2.trans (b2.new nD2)
              obtain ⟨p, x0, y0, rfl, hp, ek⟩ := row_key (td.kept (kept_same s3)) (List.all_eq_true.mp hall d md) hE
              have hk : (ds.map keyOf)[i]? = some (keyOf d) := by rw [List.getElem?_map, hd]; rfl
              have ml := mt.le
              refine ⟨rfl, _, rfl, true, p, _, 0, x0, rfl, rfl, hp, rfl, ?_⟩
              exact pushK (keyOf d) ek hD2 (by show m + 1 < scanBound; have : 4 < scanBound := by decide +kernel
                                               omega) ⟨b2.upd, mt.next hk⟩
            · rintro S m H3 ⟨b2, mt⟩ hD2
              rw [lx, ← List.length_map (f := keyOf)] at mt
              refine ⟨D2, S, m, rfl, hD2, _, rfl, _, _, rfl, .inr ⟨_, Sq.same (t := true) hx1 (b2.new nD2), rfl⟩, rfl, ?_⟩
              have e := mt.end
              rw [List.length_map] at e
              rw [dec_int, lx, e]
              exact q H3 (s2.trans (b2.new nD2))
theorem scbtable : FnScope ["sorts", "step", "_", "field", "sort", "rows", "other", "elder"] ["sorts", "step"] (defScope sBehindTable) := ⟨rfl, rfl, rfl, by decide +kernel, rfl, by decide +kernel, by decide +kernel⟩
theorem ok_btable {f : Addr} {fd : FuncData} (F : FnP K "_behind_table" sBehindTable f fd) {f__sort_of : Addr} {fd__sort_of : FuncData} (c__sort_of : Cl P w K mg base CX0 "_sort_of" 1 ["sorts", "field"] (spSortOf K) f__sort_of fd__sort_of) {f_is_sort : Addr} {fd_is_sort : FuncData} (c_is_sort : Cl P w K mg base CX0 "is_sort" 1 ["thing"] (spSort K) f_is_sort fd_is_sort) {f__are_rows : Addr} {fd__are_rows : FuncData} (c__are_rows : Cl P w K mg base CX0 "_are_rows" 5 ["rows", "elder", "sort"] (spRows K) f__are_rows fd__are_rows) {f__is_other : Addr} {fd__is_other : FuncData} (c__is_other : Cl P w K mg base CX0 "_is_other" 4 ["other", "elder", "sort"] (spOther K) f__is_other fd__is_other)  {aT : Addr} (m_TESTED : mg "TESTED" = some (.ref aT)) (hT_ : ∀ H, SqT K H aT (testL.map V.str)) {rec : Fs → PyData → Except Nat Fs} : FnOk P w K mg base CX0 6 f fd ["sorts", "step"] (spLead K rec "table" 4) := by
  refine F.ok scbtable (fun vs H Q E h => ?_) (fun cdv A outer s H vs Q E hr h => ?_)
  · obtain ⟨sd, fs, v, r, rfl, _⟩ := h
    rfl
  · obtain ⟨sd, fs, v, r, rfl, hF, hT, hl, hB, q⟩ := h
    have hu := hu_of hr
    have hs := szl
    refine ⟨_, PSs.nox (pss_cons (ps_asg (pv 1) (pg_tup rfl (pgs_cons (pg_name (i := 2) scbtable.nd rfl (Or.inl rfl)) (pgs_cons (pg_name (i := 3) scbtable.nd rfl (Or.inl rfl)) (pgs_cons (pg_name (i := 4) scbtable.nd rfl (Or.inl rfl)) (pgs_cons (pg_name (i := 5) scbtable.nd rfl (Or.inl rfl)) (pgs_cons (pg_name (i := 6) scbtable.nd rfl (Or.inl rfl)) (pgs_nil))))))))
      (pss_cons (ps_set (i := 7) scbtable.nd rfl (Or.inl rfl) (pe_call c__sort_of.ok (hr.mono (by decide)) (by rfl) c__sort_of.m c__sort_of.kp c__sort_of.b .nil pass0 (pa_cons (pv 0) (pa_cons (pv 3) pa_nil))))
      (pss_cons (ps_if (PW.pt (pw_or (pt_cmpR op_notIn_seq (pv 7) (pe_glob (v := .ref aT) rfl m_TESTED rfl) (by with_unfolding_all rfl)) (pw_or (pt_not (pt_val (pe_call c_is_sort.ok (hr.mono (by decide)) (by rfl) c_is_sort.m c_is_sort.kp c_is_sort.b .nil pass0 (pa_cons (pv 4) pa_nil)))) (pw_or1 (pt_cmpR op_notIn_seq (pv 4) (pe_glob (v := .ref aT) rfl m_TESTED rfl) (by with_unfolding_all rfl)))))) (pss_one (ps_ret (pe_non))) (pss_nil))
      (pss_cons (ps_if (PW.pt (pw_or (pt_not (pt_val (pe_call c__are_rows.ok (hr.mono (by decide)) (by rfl) c__are_rows.m c__are_rows.kp c__are_rows.b .nil pass0 (pa_cons (pv 5) (pa_cons (pv 7) (pa_cons (pv 4) pa_nil)))))) (pw_or1 (pt_not (pt_val (pe_call c__is_other.ok (hr.mono (by decide)) (by rfl) c__is_other.m c__is_other.kp c__is_other.b .nil pass0 (pa_cons (pv 6) (pa_cons (pv 7) (pa_cons (pv 4) pa_nil))))))))) (pss_one (ps_ret (pe_non))) (pss_nil))
      (pss_one (ps_ret (Nn.pe_dstar (pv 0) (pv 3) (pv 4)))))))), ?_⟩
    obtain ⟨d0, d1, d2, d3, rfl⟩ := len4 hl
    obtain ⟨a, xs, rfl, hx, hA⟩ := hT.asTup
    obtain ⟨x0, x1, x2, x3, rfl, t0, t1, t2, t3⟩ := th4 hA
    have b0 := hB d0 (by simp)
    have b1 := hB d1 (by simp)
    have b2 := hB d2 (by simp)
    have b3 := hB d3 (by simp)
    replace q : Res (tableB fs d0 d1 d2 d3) H Q := q
    unfold tableB at q
    refine ⟨_, rfl, a, _, rfl, hx, rfl, _, _, rfl, _, _, rfl, _, _, rfl, _, _, rfl, _, _, rfl, rfl, ?_⟩
    refine ⟨_, rfl, _, rfl, sd, fs, x0, d0, rfl, hF, t0, b0, ?_⟩
    refine ⟨_, rfl, aT, _, rfl, .inr (hT_ H), flat_opt _, by decide +kernel, _, rfl, ?_⟩
    rw [if_pos rfl, in_opt]
    cases ho : sortOf fs d0 with
    | none =>
      rw [ho] at q
      exact iteT (iteT (q H (Same.refl H)))
    | some el =>
      rw [ho] at q
      dsimp only at q
      obtain ⟨o, rfl, hy⟩ := sortOf_of ho
      obtain rfl := t0.asStr
      show if (!decide (el ∈ testL)) = true then _ else _
      cases hm : decide (el ∈ testL) with
      | false =>
        rw [hm, Bool.false_and, Bool.false_and, Bool.false_and] at q
        exact iteT (iteT (q H (Same.refl H)))
      | true =>
        rw [hm, Bool.true_and] at q
        have hE := of_decide_eq_true hm
        refine iteF ⟨_, rfl, x1, d1, rfl, t1, b1, fun H1 s1 => ⟨_, rfl, ?_⟩⟩
        cases hsb : sortB d1 with
        | false =>
          rw [hsb, Bool.false_and, Bool.false_and] at q
          exact iteT (iteT (q H1 s1))
        | true =>
          rw [hsb, Bool.true_and] at q
          obtain ⟨so, rfl⟩ : ∃ z, d1 = .str z := by
            cases d1 <;> first | exact ⟨_, rfl⟩ | cases hsb
          obtain rfl := t1.asStr
          refine iteF ⟨_, rfl, aT, _, rfl, .inr (hT_ H1), rfl, by decide +kernel, _, rfl, ?_⟩
          rw [if_pos rfl, in_strs]
          show if (!decide (so ∈ testL)) = true then _ else _
          cases hm2 : decide (so ∈ testL) with
          | false =>
            rw [show decide (txtOf (.str so) ∈ testL) = false from hm2, Bool.false_and] at q
            exact iteT (q H1 s1)
          | true =>
            rw [show decide (txtOf (.str so) ∈ testL) = true from hm2, Bool.true_and] at q
            refine iteF ⟨_, rfl, _, rfl, _, rfl, x2, d2, el, so, rfl, t2.kept (kept_same s1), b2, hE, fun H2 s2 => ⟨_, rfl, ?_⟩⟩
            have s12 := s1.trans s2
            cases hr : rowsB el so d2 with
            | false =>
              rw [show rowsB el (txtOf (.str so)) d2 = false from hr, Bool.false_and] at q
              exact iteT (iteT (q H2 s12))
            | true =>
              rw [show rowsB el (txtOf (.str so)) d2 = true from hr, Bool.true_and] at q
              refine iteF ⟨_, rfl, _, rfl, _, rfl, x3, d3, el, so, rfl, t3.kept (kept_same s12), b3, fun H3 s3 => ⟨_, rfl, ?_⟩⟩
              have s13 := s12.trans s3
              cases hot : otherB el so d3 with
              | false =>
                rw [show otherB el (txtOf (.str so)) d3 = false from hot] at q
                exact iteT (q H3 s13)
              | true =>
                rw [show otherB el (txtOf (.str so)) d3 = true from hot] at q
                exact iteF (star_goes (hF.same s13) (fun _ _ k => ⟨_, rfl, k⟩) (fun _ _ k => ⟨_, rfl, k⟩) (fun H' k s4 hk => ⟨_, rfl, hk⟩) (fun H' p s4 e => q H' p (s13.trans s4) e))
end
end St6

set_option autoImplicit false
set_option maxHeartbeats 2000000
namespace En
open PySem PySem.Spec PyProof.Rows L2
/-! ### enumerate(text) -/
/-- the signs of a text, each in a new pair -/
def Itx (x : Str) : It := ⟨fun i _ => i < x.cps.size, fun i H v H' => ∃ T c, v = .ref T ∧ H T = none ∧ x.cps[i]? = some c ∧ H' = upd H T (.tup [.int (i : Nat), .str ⟨#[c]⟩]), fun i _ => i = x.cps.size⟩
theorem turn_enumS {P : Program} {w : World} {K : PySem.W.Frag} {elts : List Expr} {kk : Nat} {tpos : Pos} (e it : Addr) (x : Str) (t : Tok) :
    Turn P w K (.Tuple elts kk tpos) (Itx x) [e, it] e (fun i h => (∃ old, IsEnum h e it ((i : Nat) : Int) old) ∧ h.IsStrIter it (strIterType x) x t i ∧ e ≠ it) where
  mem := by simp
  obj := fun i h st b hb => by
    obtain ⟨⟨old, he⟩, ⟨o, ho, hc, hd⟩, _⟩ := st
    have e' : b = e ∨ b = it := by simpa using hb
    rcases e' with z | z
    · rw [z]; exact ⟨_, he, fun v q => nomatch q⟩
    · rw [z]; exact ⟨o, ho, fun v q => by rw [hd] at q; cases q⟩
  keep := fun i h h' st k => by
    obtain ⟨⟨old, he⟩, ⟨o, ho, r⟩, hne⟩ := st
    exact ⟨⟨old, k e (by simp) _ he⟩, ⟨o, k it (by simp) _ ho, r⟩, hne⟩
  item := by
    intro X hP hw hK hc i pins s σ H E I hf st hg
    subst hP hw hK
    obtain ⟨⟨old, he⟩, hit, hne⟩ := st
    have hel : e < s.heap.objs.size := Heap.lt_size he
    have hil : it < s.heap.objs.size := by obtain ⟨_, q, _⟩ := hit; exact Heap.lt_size q
    refine wpAny_pyNext_enum_itemD (Draws.text (A := X.A.in1) (I.ok.hd hc) it x t) he hit hg hne (by simpa using hne) fun u h' tk hu ho hit' hT hsz hk => ?_
    obtain ⟨c, u0, hcx, rfl⟩ := hu
    refine ⟨_, rfl, wpAny_letOwnedTupleGo_enum (s := { s with heap := h', toks := tk + 1 }) ho fun h'' he' sb => ?_⟩
    have hT2 : h''.get? s.heap.objs.size = some { cls := .type "tuple", data := .seq #[.int i tk, .str ⟨#[c]⟩ u0] } := (sb.2 _ (Nat.ne_of_gt hel)).trans hT
    have new : ObjOk X.prog X.w (upd H s.heap.objs.size (.tup [.int (i : Nat), .str ⟨#[c]⟩])) h'' s.heap.objs.size (.tup [.int (i : Nat), .str ⟨#[c]⟩]) :=
      ⟨by show 2 ≤ sizeLine; decide, [.int i tk, .str ⟨#[c]⟩ u0], .cons ⟨_, rfl⟩ (.cons ⟨_, rfl⟩ .nil), ⟨_, hT2, rfl, _, rfl⟩⟩
    have I1 : Inv X pins σ (upd H s.heap.objs.size (.tup [.int (i : Nat), .str ⟨#[c]⟩])) { s with heap := h'', toks := tk + 1 } :=
      I.turnedNew (ch := [e, it]) (fun b ob hb q => (sb.2 b (fun z => hb (by simp [z]))).trans (hk b ob (fun z => hb (by simp [z])) (fun z => hb (by simp [z])) q)) hf (Nat.le_refl _) new
    refine ⟨.ref s.heap.objs.size, _, I1, rfl, ⟨_, c, rfl, I.hok.fresh (Nat.le_refl _), hcx, rfl⟩, ⟨⟨.str ⟨#[c]⟩ u0, ?_⟩, ?_, hne⟩, fun b hb => ?_⟩
    · have e1 : ((i + 1 : Nat) : Int) = (i : Int) + 1 := by omega
      rw [e1]; exact he'
    · obtain ⟨o, ho, r⟩ := hit'
      exact ⟨o, (sb.2 it (Ne.symm hne)).trans ho, r⟩
    · have hb' : b < s.heap.objs.size := by
        have e' : b = e ∨ b = it := by simpa using hb
        rcases e' with z | z
        · rw [z]; exact hel
        · rw [z]; exact hil
      rw [upd_ne (Nat.ne_of_lt hb')]
      exact (hf b hb).1
  done := by
    intro X hP hw hK hc i pins s σ H E I hf st hg
    subst hP hw hK
    obtain ⟨⟨old, he⟩, hit, hne⟩ := st
    obtain ⟨f0, f1, f2, f3, f4, f5⟩ := hf it (by simp)
    have hg' : i = x.cps.size := hg
    subst hg'
    exact wpAny_pyNext_enum_endD (Draws.text (A := X.A.in1) (I.ok.hd hc) it x t) he hit fun h' eb => ⟨rfl, I.turned (t' := s.toks) (fun b o hb q => eb b o hb q) f0 f1 f3 f4 f5⟩
  self := fun A i s Q E st h => let ⟨⟨_, he⟩, _⟩ := st; wpAny_pyIter_enum he h
def iEnumS (ta : TA) : TI := fun σ H R => ta σ H fun vs H1 => ∃ x, vs = [.str x] ∧ R (Itx x) H1
theorem pi_enumS {X : Cx} {e : Expr} {ta : TA} {p pos tpos : Pos} {elts : List Expr} {kk : Nat} (hg : Gl X "enumerate") (hm : X.mg "enumerate" = none) (ha : PA X [e] ta) (hs : starEach [e] X.env = [(false, eval e X.env)] := by rfl) :
    PI X (.Tuple elts kk tpos) (.Call (.Name "enumerate" p) [e] [] pos) (iEnumS ta) := by
  refine ⟨fun pins s σ H R I h => ?_⟩
  refine Call_ (ld_blt I hg hm boot_enumerate (PyProof.Rows.callWith_type1 (thn (ha.run pos pins s σ H _ I h) fun us s1 ⟨vs, H1, I1, r1, q1⟩ => ?_) hs rfl))
  obtain ⟨x, ex, q⟩ := q1
  subst ex
  cases r1 with
  | cons r rr =>
    cases rr
    obtain ⟨t, rfl⟩ := r
    refine call_enumerate_str fun h' he hit hsz hk => wpAny_pyIter_enum he ?_
    have I2 : L2.Inv X pins σ H1 { s1 with heap := h' } := I1.kept (t' := s1.toks) hk
    refine ⟨s1.heap.objs.size + 1, [s1.heap.objs.size + 1, s1.heap.objs.size], _, _, H1, rfl, I2, turn_enumS (s1.heap.objs.size + 1) s1.heap.objs.size x t, ⟨⟨.none, he⟩, hit, Nat.succ_ne_self _⟩, fun b hb => ?_, q⟩
    have e' : b = s1.heap.objs.size + 1 ∨ b = s1.heap.objs.size := by simpa using hb
    have hle : s1.heap.objs.size ≤ b := by
      rcases e' with z | z
      · rw [z]; exact Nat.le_add_right _ _
      · rw [z]; exact Nat.le_refl _
    exact I1.fpOk hle (I1.hok.fresh hle)
/-- the loop over enumerate(text), its pair taken apart by g -/
theorem for_enumS {x : Str} {g : TG} {tb : TS} {D : Ends} {σ : L2.St} {H : Hp} (Pv : Nat → L2.St → Hp → Prop) (h0 : Pv 0 σ H)
    (hs : ∀ i c T σ H, x.cps[i]? = some c → Pv i σ H → H T = none → g (.ref T) σ (upd H T (.tup [.int (i : Nat), .str ⟨#[c]⟩])) fun σ2 H2 => tb { D with nx := Pv (i + 1), ct := Pv (i + 1), bk := D.nx } σ2 H2)
    (hd : ∀ σ H, Pv x.cps.size σ H → D.nx σ H) :
    ∃ W : Nat → Nat → L2.St → Hp → Prop, (∃ m, W 0 m σ H) ∧ ∀ i m σ H, W i m σ H →
      ((Itx x).stop i H ∧ D.nx σ H) ∨ ((Itx x).go i H ∧ ∃ N : L2.St → Hp → Prop, (∀ σ' H', N σ' H' → ∃ m', m' < m ∧ W (i + 1) m' σ' H') ∧ ∀ v H', (Itx x).yld i H v H' → g v σ H' fun σ2 H2 => tb { D with nx := N, ct := N, bk := D.nx } σ2 H2) := by
  refine ⟨fun i m σ H => m = x.cps.size - i ∧ i ≤ x.cps.size ∧ Pv i σ H, ⟨x.cps.size, by simp, Nat.zero_le _, h0⟩, ?_⟩
  rintro i m σ H ⟨rfl, hi, p⟩
  by_cases hlt : i < x.cps.size
  · refine .inr ⟨hlt, Pv (i + 1), fun σ' H' p' => ⟨x.cps.size - (i + 1), by omega, rfl, hlt, p'⟩, fun v H' y => ?_⟩
    obtain ⟨T, c, rfl, hT, hc, rfl⟩ := y
    exact hs i c T σ H hc p hT
  · have e : i = x.cps.size := by omega
    exact .inl ⟨e, hd _ _ (by rw [← e]; exact p)⟩
end En

set_option autoImplicit false
set_option maxHeartbeats 2000000
/-! enumerate of a tuple; of a list or a tuple -/
namespace PySem
open Sem (wp)
open AutoSeq1 (wpAny_loadPart')
theorem meets_enumerate_newT (l : Addr) (items : Array Value) :
    Meets (Builtin.«enumerate.__new__» ⟨[.type "enumerate", .ref l], []⟩) (fun _ R s => s.heap.IsTuple l items ∧
      R (.ok (.ret (.ref (s.heap.push { cls := .type "tuple_iterator", data := .fields #[.ref l, .int 0 0] }).objs.size)))
        { s with heap := (s.heap.push { cls := .type "tuple_iterator", data := .fields #[.ref l, .int 0 0] }).push { cls := .type "enumerate", data := .fields #[.none, .bool false, .ref s.heap.objs.size, rawInt 0, .none, .none] } }) :=
  .of_wp fun prog w A R s h => by
    obtain ⟨hp, g, d, tk, os⟩ := s; obtain ⟨hL, h⟩ := h
    obtain ⟨o, hl, hc⟩ := id hL
    have hsub := sub_enumerate
    wp_walk using wpAny_loadPart' hl
    refine wpAny_stack_any fun st => wpAny_pure ?_
    split
    · rename_i c _ _ _ _ _
      cases (c == Value.type "enumerate")
      · wp_walk using wpAny_loadPart' hl, wpAny_pyIter_tuple hL
        exact ⟨_, rfl, h⟩
      · wp_walk using wpAny_loadPart' hl, wpAny_pyIter_tuple hL
        exact ⟨_, rfl, h⟩
    · wp_walk using wpAny_loadPart' hl, wpAny_pyIter_tuple hL
      exact ⟨_, rfl, h⟩
section
variable {prog : Program} {w : World} {A : Around} {E : Value → Shared → Prop} {s : Shared}
theorem call_enumerate_tuple {l : Addr} {items : Array Value} {Q : Value → Shared → Prop} (hL : s.heap.IsTuple l items)
    (h : ∀ h', IsEnum h' (s.heap.objs.size + 1) s.heap.objs.size 0 .none → h'.IsTupleIter s.heap.objs.size l 0 → h'.objs.size = s.heap.objs.size + 2 →
      (∀ b o, s.heap.get? b = some o → h'.get? b = some o) → Q (.ref (s.heap.objs.size + 1)) { s with heap := h' }) :
    wpAny (model prog w) A (call (.type "enumerate") [.ref l]) Q E s := by
  refine callType_new F.called_enumerate (by decide) (F.typeCall_enumerate_1 _) (F.newCall_enumerate_1 _) (fun obj => F.args_object_init_2 obj _) F.entry_enumerate_new
    (meets_enumerate_newT l items) ⟨hL, ?_⟩
  have hz : (s.heap.push { cls := .type "tuple_iterator", data := .fields #[.ref l, .int 0 0] }).objs.size = s.heap.objs.size + 1 := Heap.size_push ..
  show _ ∧ _
  rw [hz]
  have he : IsEnum ((s.heap.push { cls := .type "tuple_iterator", data := .fields #[.ref l, .int 0 0] }).push
      { cls := .type "enumerate", data := .fields #[.none, .bool false, .ref s.heap.objs.size, rawInt 0, .none, .none] }) (s.heap.objs.size + 1) s.heap.objs.size 0 .none := by
    have := Heap.get?_push_size (s.heap.push { cls := .type "tuple_iterator", data := .fields #[.ref l, .int 0 0] })
      (o := { cls := .type "enumerate", data := .fields #[.none, .bool false, .ref s.heap.objs.size, rawInt 0, .none, .none] }) rfl
    rw [hz] at this; exact this
  refine ⟨⟨_, he, rfl⟩, h _ he ⟨_, Heap.get?_push_of_some _ (Heap.get?_push_size _ rfl), rfl, rfl⟩ (by rw [Heap.size_push, hz]) fun b o x => Heap.get?_push_of_some _ (Heap.get?_push_of_some _ x)⟩
end
end PySem
namespace En
open PySem PySem.Spec PyProof.Rows L2
def Iet (K : PySem.W.Frag) (a : Addr) : It :=
  ⟨fun i H => ∃ (xs : List V) (x : V), SqT K H a xs ∧ xs[i]? = some x, fun i H v H' => ∃ T x, v = .ref T ∧ H T = none ∧ H' = upd H T (.tup [.int (i : Nat), x]) ∧ ∀ xs, SqT K H a xs → xs[i]? = some x, fun i H => ∃ xs : List V, SqT K H a xs ∧ xs.length = i⟩
theorem turn_enumT {P : Program} {w : World} {K : PySem.W.Frag} {elts : List Expr} {kk : Nat} {tpos : Pos} (a e it : Addr) :
    Turn P w K (.Tuple elts kk tpos) (Iet K a) [e, it] e (fun i h => (∃ old, IsEnum h e it ((i : Nat) : Int) old) ∧ h.IsTupleIter it a i ∧ e ≠ it) where
  mem := by simp
  obj := fun i h st b hb => by
    obtain ⟨⟨old, he⟩, ⟨o, ho, hc, hd⟩, _⟩ := st
    have e' : b = e ∨ b = it := by simpa using hb
    rcases e' with z | z
    · rw [z]; exact ⟨_, he, fun v q => nomatch q⟩
    · rw [z]; exact ⟨o, ho, fun v q => by rw [hd] at q; cases q⟩
  keep := fun i h h' st k => let ⟨⟨old, he⟩, hi, hne⟩ := st; ⟨⟨old, k e (by simp) _ he⟩, hi.at fun o q => k it (by simp) o q, hne⟩
  item := by
    intro X hP hw hK hc i pins s σ H E I hf st hg
    subst hP hw hK
    obtain ⟨⟨old, he⟩, hit, hne⟩ := st
    obtain ⟨xs, x, hq, hx⟩ := hg
    obtain ⟨its, rv, p, hz⟩ := I.tuple hq
    obtain ⟨u, hu, ru⟩ := rv.get hx
    have hel : e < s.heap.objs.size := Heap.lt_size he
    have hil : it < s.heap.objs.size := by obtain ⟨_, q, _⟩ := hit; exact Heap.lt_size q
    have pt : s.heap.IsTuple a its.toArray := p
    have nae : e ≠ a := fun z => by
      obtain ⟨o, ho, c, _⟩ := pt
      rw [← z, he] at ho
      cases ho
      exact absurd (Value.type.inj c) (by decide)
    have nai : a ≠ it := fun z => by
      obtain ⟨o, ho, c, _⟩ := pt
      obtain ⟨o2, ho2, c2, _⟩ := hit
      rw [z, ho2] at ho
      cases ho
      rw [c] at c2
      exact absurd (Value.type.inj c2) (by decide)
    refine wpAny_pyNext_enum_itemD (Draws.tuple (A := X.A.in1) (I.ok.hd hc) it a nai its.toArray) he ⟨hit, pt⟩ (by rw [List.size_toArray]; exact (List.getElem?_eq_some_iff.mp hu).1) hne (by simp [hne, nae]) fun u2 h' tk hu2 ho hit' hT hsz hk => ?_
    have e0 : u2 = u := by
      have h2 : its.toArray[i]? = some u2 := hu2
      have h3 : its[i]? = some u2 := by simpa using h2
      rw [hu] at h3
      exact (Option.some.inj h3).symm
    subst e0
    refine ⟨_, rfl, wpAny_letOwnedTupleGo_enum (s := { s with heap := h', toks := tk + 1 }) ho fun h'' he' sb => ?_⟩
    have hT2 : h''.get? s.heap.objs.size = some { cls := .type "tuple", data := .seq #[.int i tk, u2] } := (sb.2 _ (Nat.ne_of_gt hel)).trans hT
    have new : ObjOk X.prog X.w (upd H s.heap.objs.size (.tup [.int (i : Nat), x])) h'' s.heap.objs.size (.tup [.int (i : Nat), x]) :=
      ⟨by show 2 ≤ sizeLine; decide, [.int i tk, u2], .cons ⟨_, rfl⟩ (.cons ru .nil), ⟨_, hT2, rfl, _, rfl⟩⟩
    have I1 : Inv X pins σ (upd H s.heap.objs.size (.tup [.int (i : Nat), x])) { s with heap := h'', toks := tk + 1 } :=
      I.turnedNew (ch := [e, it]) (fun b ob hb q => (sb.2 b (fun z => hb (by simp [z]))).trans (hk b ob (fun z => hb (by simp [z])) (fun z => hb (by simp [z])) q)) hf (Nat.le_refl _) new
    refine ⟨.ref s.heap.objs.size, _, I1, rfl, ⟨_, x, rfl, I.hok.fresh (Nat.le_refl _), rfl, fun ys hy => by rw [I.tuple_inj hy hq]; exact hx⟩, ⟨⟨u2, ?_⟩, ?_, hne⟩, fun b hb => ?_⟩
    · have e1 : ((i + 1 : Nat) : Int) = (i : Int) + 1 := by omega
      rw [e1]; exact he'
    · exact hit'.1.at fun o q => (sb.2 it (Ne.symm hne)).trans q
    · have hb' : b < s.heap.objs.size := by
        have e' : b = e ∨ b = it := by simpa using hb
        rcases e' with z | z
        · rw [z]; exact hel
        · rw [z]; exact hil
      rw [upd_ne (Nat.ne_of_lt hb')]
      exact (hf b hb).1
  done := by
    intro X hP hw hK hc i pins s σ H E I hf st hg
    subst hP hw hK
    obtain ⟨⟨old, he⟩, hit, hne⟩ := st
    obtain ⟨xs, hq, hx⟩ := hg
    obtain ⟨its, rv, p, hz⟩ := I.tuple hq
    obtain ⟨f0, f1, f2, f3, f4, f5⟩ := hf it (by simp)
    have pt : s.heap.IsTuple a its.toArray := p
    have nai : a ≠ it := fun z => by
      obtain ⟨o, ho, c, _⟩ := pt
      obtain ⟨o2, ho2, c2, _⟩ := hit
      rw [z, ho2] at ho
      cases ho
      rw [c] at c2
      exact absurd (Value.type.inj c2) (by decide)
    have hl := rv.length
    refine wpAny_pyNext_enum_endD (Draws.tuple (A := X.A.in1) (I.ok.hd hc) it a nai its.toArray) he ⟨?_, pt⟩ fun h' eb => ⟨rfl, I.turned (t' := s.toks) (fun b o hb q => eb b o hb q) f0 f1 f3 f4 f5⟩
    have e2 : its.toArray.size = i := by rw [List.size_toArray, ← hl, hx]
    rw [e2]
    exact hit
  self := fun A i s Q E st h => let ⟨⟨_, he⟩, _⟩ := st; wpAny_pyIter_enum he h
def iEnumA (K : PySem.W.Frag) (ta : TA) : TI := fun σ H R => ta σ H fun vs H1 => ∃ a xs, vs = [.ref a] ∧ ((SqL K H1 a xs ∧ R (Ite K a) H1) ∨ (SqT K H1 a xs ∧ R (Iet K a) H1))
theorem pi_enumA {X : Cx} {e : Expr} {ta : TA} {p pos tpos : Pos} {elts : List Expr} {kk : Nat} (hg : Gl X "enumerate") (hm : X.mg "enumerate" = none) (ha : PA X [e] ta) (hs : starEach [e] X.env = [(false, eval e X.env)] := by rfl) :
    PI X (.Tuple elts kk tpos) (.Call (.Name "enumerate" p) [e] [] pos) (iEnumA X.K ta) := by
  refine ⟨fun pins s σ H R I h => ?_⟩
  refine Call_ (ld_blt I hg hm boot_enumerate (PyProof.Rows.callWith_type1 (thn (ha.run pos pins s σ H _ I h) fun us s1 ⟨vs, H1, I1, r1, q1⟩ => ?_) hs rfl))
  obtain ⟨a, xs, ex, q⟩ := q1
  subst ex
  cases r1 with
  | cons r rr =>
    cases rr
    cases r
    have lay : ∀ b, b ∈ [s1.heap.objs.size + 1, s1.heap.objs.size] → FpOk X pins H1 b := fun b hb => by
      have e' : b = s1.heap.objs.size + 1 ∨ b = s1.heap.objs.size := by simpa using hb
      have hle : s1.heap.objs.size ≤ b := by
        rcases e' with z | z
        · rw [z]; exact Nat.le_add_right _ _
        · rw [z]; exact Nat.le_refl _
      exact I1.fpOk hle (I1.hok.fresh hle)
    rcases q with ⟨hq, q⟩ | ⟨hq, q⟩
    · obtain ⟨its, rv, p', hz⟩ := I1.list hq
      refine call_enumerate_list p'.isList fun h' he hit hsz hk => wpAny_pyIter_enum he ?_
      have I2 : Inv X pins σ H1 { s1 with heap := h' } := I1.kept (t' := s1.toks) hk
      exact ⟨s1.heap.objs.size + 1, [s1.heap.objs.size + 1, s1.heap.objs.size], _, _, H1, rfl, I2, turn_enum a (s1.heap.objs.size + 1) s1.heap.objs.size, ⟨⟨.none, he⟩, hit, Nat.succ_ne_self _⟩, lay, q⟩
    · obtain ⟨its, rv, p', hz⟩ := I1.tuple hq
      refine call_enumerate_tuple (show s1.heap.IsTuple a its.toArray from p') fun h' he hit hsz hk => wpAny_pyIter_enum he ?_
      have I2 : Inv X pins σ H1 { s1 with heap := h' } := I1.kept (t' := s1.toks) hk
      exact ⟨s1.heap.objs.size + 1, [s1.heap.objs.size + 1, s1.heap.objs.size], _, _, H1, rfl, I2, turn_enumT a (s1.heap.objs.size + 1) s1.heap.objs.size, ⟨⟨.none, he⟩, hit, Nat.succ_ne_self _⟩, lay, q⟩
theorem walk_enumT {K : PySem.W.Frag} {a : Addr} {xs : List V} : Walk (Iet K a) xs.length (fun H => SqT K H a xs) (YPair (fun i => some (.int (i : Nat))) (fun i => xs[i]?)) := by
  refine ⟨fun i _ hi q => ⟨xs, xs[i], q, by simp [hi]⟩, fun _ q => ⟨xs, q, rfl⟩, fun i H v H' _ q y => ?_⟩
  obtain ⟨T, x, h1, h2, h3, h4⟩ := y
  exact ⟨T, .int (i : Nat), x, h1, h2, h3, rfl, h4 xs q⟩
end En

set_option autoImplicit false
set_option maxHeartbeats 4000000
namespace St6
open PySem PySem.Spec PyProof.Rows L2 Tg Cc Nn
/-! ### the refusal -/
def inCls (s : Stmt) (i : Nat) : Stmt := match s with
  | .ClassDef _ _ _ b _ _ _ _ _ _ _ => b.getD i (.Pass ⟨0, 0, 0, 0⟩)
  | _ => .Pass ⟨0, 0, 0, 0⟩
abbrev sInit : Stmt := inCls sBadstep 0
theorem scInit : FnScope ["self", "at"] ["self", "at"] (defScope sInit) := ⟨rfl, rfl, rfl, by decide +kernel, rfl, by decide +kernel, by decide +kernel⟩
def spInit (K : PySem.W.Frag) (C : Addr) : Sp := fun vs H Q _ => ∃ (a : Addr) (v : V), vs = [.ref a, v] ∧ H a = some (exo a C none) ∧ ∀ dx, H dx = none → dx ≠ a → Q .non (upd (upd H dx (exd dx [("at", v)])) a (exo a C (some dx)))
/-- what is known of the class -/
structure BadS (K : PySem.W.Frag) (mg : Str → Option Value) (C fI : Addr) (fdI : FuncData) : Prop where
  ox : OexC K C
  g : mg "BadStep" = some (.ref C)
  te : PySem.W.exmOne K (.ref C) (.ref C) = some true
  noAt : PySem.W.findIn K (.ref C) "at" = some none
  iC : PySem.W.findIn K (.ref C) "__init__" = some (some (.ref fI))
  tI : PySem.W.typeIn K (.ref fI) = some (.type "function")
  fn : FunD K "__init__" "BadStep.__init__" (defArgs sInit) (defBody sInit) (defScope sInit) [] [] fI fdI
section
variable {P : Program} {w : World} {K : PySem.W.Frag} {mg : Str → Option Value} {base : Heap}
theorem ok_init {C fI : Addr} {fdI : FuncData} (T : BadS K mg C fI fdI) : FnOk P w K mg base CX0 1 fI fdI ["self", "at"] (spInit K C) := by
  refine T.fn.ok scInit (fun vs H Q E h => ?_) (fun cdv A outer s H vs Q E hr h => ?_)
  · obtain ⟨a, v, rfl, _⟩ := h
    rfl
  · obtain ⟨a, v, rfl, ha, q⟩ := h
    refine ⟨_, PSs.nox (pss_one (ps_ost (pv 0) (pv 1))), ?_⟩
    exact ⟨_, rfl, _, rfl, a, C, rfl, T.ox, T.noAt, .inl ⟨ha, fun dx hd hn => q dx hd hn⟩⟩
/-- how the refusal leaves a def -/
def Out (C : Addr) (E : XK) (H : Hp) (n : Nat) : Prop := ∀ (H' : Hp) (d : Addr), Same H H' → H d = none → H' d = some (.xd [("at", .int (n : Int))]) → E (.ref C) (some d) H'
theorem Out.later {C : Addr} {E : XK} {H H1 : Hp} {n : Nat} (h : Out C E H n) (s : Same H H1) : Out C E H1 n := fun H' d s2 nd e => h H' d (s.trans s2) (by
  cases q : H d with
  | none => rfl
  | some o =>
    rw [s _ _ q] at nd
    cases nd) e
theorem out_of {C : Addr} {H1 : Hp} {W : XK} {n : Nat} (h : Out C W H1 n) : ([V.int (n : Int)] : List V).length ≤ 1000 ∧ ∀ a, H1 a = none →
    spInit K C (.ref a :: ([V.int (n : Int)] ++ [])) (upd H1 a (exo a C none)) (fun v H2 => v = .non ∧ ∃ (d : Addr) (fs : List (Str × V)), H2 a = some (exo a C (some d)) ∧ H2 d = some (exd d fs) ∧ H1 d = none ∧ W (.ref C) (some d) (upd (del H2 a) d (.xd fs))) (fun _ _ _ => False) := by
  refine ⟨by simp, fun a na => ⟨a, .int (n : Int), rfl, upd_same, fun dx hd hn => ?_⟩⟩
  have hd1 : H1 dx = none := by rw [← hd, upd_ne hn]
  refine ⟨rfl, dx, [("at", .int (n : Int))], upd_same, by rw [upd_ne hn, upd_same], hd1, h _ dx (fun b x e => ?_) hd1 upd_same⟩
  have nb : b ≠ dx := ne_of_none e hd1
  have na : b ≠ a := ne_of_none e na
  rw [upd_ne nb]
  show (if b = a then none else _) = _
  rw [if_neg na, upd_ne na, upd_ne nb, upd_ne na]
  exact e
theorem bindI {C fI : Addr} {fdI : FuncData} (T : BadS K mg C fI fdI) : Binds K fdI ["self", "at"] [] := T.fn.bindsN fun _ _ _ _ _ _ us hl => match us, hl with | [_, _], _ => rfl
end
/-! ### how fields grow -/
def Gro (fs gs : Fs) (n : Nat) : Prop := (fs.map Prod.fst).Nodup → (gs.map Prod.fst).Nodup ∧ gs.length ≤ fs.length + n
theorem Gro.mono {fs gs : Fs} {n m : Nat} (h : Gro fs gs n) (k : n ≤ m) : Gro fs gs m := fun nd => ⟨(h nd).1, by have := (h nd).2; omega⟩
theorem gro_new {fs : Fs} {d : PyData} {s : Str} (h : isNewB fs d = true) : Gro fs (fs ++ [(txtOf d, s)]) 1 := fun nd => by
  obtain ⟨z, rfl, hz⟩ := isNew_of h
  exact ⟨nd_new hz nd, by rw [List.length_append, List.length_singleton]; exact Nat.le_refl _⟩
theorem set_keys {fs : Fs} {n s x : Str} (h : getF fs n = some x) : (setF fs n s).map Prod.fst = fs.map Prod.fst := by
  have hp : fs.any (fun x => decide (x.1 = n)) = true := by
    unfold getF at h
    cases e : fs.find? fun y => decide (y.1 = n) with
    | none =>
      rw [e] at h
      cases h
    | some y => exact List.any_eq_true.mpr ⟨y, List.mem_of_find?_eq_some e, List.find?_some (p := fun y : Str × Str => decide (y.1 = n)) e⟩
  unfold setF
  rw [if_pos hp, List.map_map]
  refine List.map_congr_left fun y _ => ?_
  show (if y.1 = n then (y.1, s) else y).1 = y.1
  by_cases e : y.1 = n
  · rw [if_pos e]
  · rw [if_neg e]
theorem ifs {α : Type} {c : Prop} [Decidable c] {a b : α} (h : (if c then some a else none) = some b) : c ∧ a = b := by
  by_cases k : c
  · rw [if_pos k] at h
    exact ⟨k, Option.some.inj h⟩
  · rw [if_neg k] at h
    cases h
theorem lead_gro {rec : Fs → PyData → Except Nat Fs} {g : PyData → Nat} (hr : ∀ fs y gs, rec fs y = .ok gs → Gro fs gs (g y)) {fs : Fs} {w : Str} {r : List PyData} {gs : Fs} (h : leadB rec fs w r = some gs) : Gro fs gs (1 + (r.map g).sum) := by
  have ba : ∀ {a b : Bool}, (a && b) = true → a = true ∧ b = true := fun h => (Bool.and_eq_true _ _).mp h
  match r, h with
  | [], h => cases h
  | [a], h =>
    replace h : (if w = "drop" then dropB fs a else none) = some gs := h
    by_cases e : w = "drop"
    · rw [if_pos e] at h
      obtain ⟨_, rfl⟩ := ifs h
      exact fun nd => ⟨List.Nodup.sublist ((List.filter_sublist).map _) nd, by have := List.length_filter_le (fun x : Str × Str => !decide (x.1 = txtOf a)) fs; omega⟩
    · rw [if_neg e] at h
      cases h
  | [a, b], h =>
    replace h : (if w = "rename" then renameB fs a b else if w = "copy" then copyB fs a b else if w = "sum" then sumB fs a b else if w = "join" then joinB fs a b else none) = some gs := h
    by_cases e1 : w = "rename"
    · rw [if_pos e1] at h
      obtain ⟨c, rfl⟩ := ifs h
      obtain ⟨c1, c2⟩ := ba c
      obtain ⟨n, rfl, hz⟩ := isNew_of c2
      exact fun nd => ⟨ren_nd (o := txtOf a) nd hz, by rw [List.length_map]; omega⟩
    rw [if_neg e1] at h
    by_cases e2 : w = "copy"
    · rw [if_pos e2] at h
      unfold copyB at h
      cases ho : sortOf fs a with
      | none =>
        rw [ho] at h
        cases h
      | some s =>
        rw [ho] at h
        obtain ⟨c, rfl⟩ := ifs h
        exact (gro_new c).mono (by omega)
    rw [if_neg e2] at h
    by_cases e3 : w = "sum"
    · rw [if_pos e3] at h
      obtain ⟨c, rfl⟩ := ifs h
      exact (gro_new (ba c).1).mono (by omega)
    rw [if_neg e3] at h
    by_cases e4 : w = "join"
    · rw [if_pos e4] at h
      obtain ⟨c, rfl⟩ := ifs h
      exact (gro_new (ba c).1).mono (by omega)
    rw [if_neg e4] at h
    cases h
  | [a, b, c], h =>
    replace h : (if w = "put" then putB fs a b c else if w = "scale" then scaleB fs a b c else none) = some gs := h
    by_cases e1 : w = "put"
    · rw [if_pos e1] at h
      obtain ⟨c, rfl⟩ := ifs h
      exact (gro_new (ba c).1).mono (by omega)
    rw [if_neg e1] at h
    by_cases e2 : w = "scale"
    · rw [if_pos e2] at h
      obtain ⟨c, rfl⟩ := ifs h
      exact fun nd => ⟨nd, by omega⟩
    rw [if_neg e2] at h
    cases h
  | [a, b, c, d], h =>
    replace h : (if w = "table" then tableB fs a b c d else if w = "case" then caseB rec fs a b c d else none) = some gs := h
    by_cases e1 : w = "table"
    · rw [if_pos e1] at h
      unfold tableB at h
      cases ho : sortOf fs a with
      | none =>
        rw [ho] at h
        cases h
      | some s =>
        rw [ho] at h
        obtain ⟨_, rfl⟩ := ifs h
        obtain ⟨o, rfl, hy⟩ := sortOf_of ho
        have ek := set_keys (s := txtOf b) hy
        refine fun nd => ⟨by rw [show txtOf (.str o) = o from rfl, ek]; exact nd, ?_⟩
        have := congrArg List.length ek
        rw [List.length_map, List.length_map] at this
        rw [show txtOf (.str o) = o from rfl]
        omega
    rw [if_neg e1] at h
    by_cases e2 : w = "case"
    · rw [if_pos e2] at h
      unfold caseB at h
      cases ho : sortOf fs a with
      | none =>
        rw [ho] at h
        cases h
      | some s =>
        rw [ho] at h
        dsimp only at h
        by_cases k : (decide (s ∈ testL) && ofSort s b) = true
        · rw [if_pos k] at h
          cases hy : rec fs c with
          | error n =>
            rw [hy] at h
            cases h
          | ok x =>
            cases hn : rec fs d with
            | error n =>
              rw [hy, hn] at h
              cases h
            | ok y =>
              rw [hy, hn] at h
              obtain ⟨_, rfl⟩ := ifs h
              exact (hr _ _ _ hy).mono (by simp; omega)
        · rw [if_neg k] at h
          cases h
    rw [if_neg e2] at h
    cases h
  | _ :: _ :: _ :: _ :: _ :: _, h => cases h
theorem step_gro {rec : Fs → PyData → Except Nat Fs} {g : PyData → Nat} (hr : ∀ fs y gs, rec fs y = .ok gs → Gro fs gs (g y)) {fs : Fs} {d : PyData} {gs : Fs} (h : stepB rec fs d = some gs) : Gro fs gs (1 + ((items d).map g).sum) := by
  match d, h with
  | .tuple (.str w :: r), h => exact (lead_gro hr (show leadB rec fs w r = some gs from h)).mono (by show _ ≤ 1 + ((PyData.str w :: r).map g).sum; rw [List.map_cons, List.sum_cons]; omega)
theorem go_gro {st : Fs → PyData → Option Fs} {g : PyData → Nat} (hs : ∀ fs d gs, st fs d = some gs → Gro fs gs (g d)) : ∀ {ds : List PyData} {i : Nat} {fs gs : Fs}, goB st i fs ds = .ok gs → Gro fs gs (ds.map g).sum
  | [], i, fs, gs, h => by
    have e : fs = gs := Except.ok.inj h
    subst e
    exact fun nd => ⟨nd, Nat.le_add_right _ _⟩
  | d :: r, i, fs, gs, h => by
    replace h : (match st fs d with
      | some gs => goB st (i + 1) gs r
      | none => .error i) = .ok gs := h
    cases hd : st fs d with
    | none =>
      rw [hd] at h
      cases h
    | some hs2 =>
      rw [hd] at h
      intro nd
      obtain ⟨n1, l1⟩ := hs _ _ _ hd nd
      obtain ⟨n2, l2⟩ := go_gro hs h n1
      exact ⟨n2, by rw [List.map_cons, List.sum_cons]; omega⟩
theorem over_gro {st : Fs → PyData → Option Fs} {g : PyData → Nat} (hs : ∀ fs d gs, st fs d = some gs → Gro fs gs (g d)) {fs : Fs} {d : PyData} {gs : Fs} (h : overB st fs d = .ok gs) : Gro fs gs ((items d).map g).sum := by
  cases d with
  | list ds => exact go_gro hs h
  | tuple ds => exact go_gro hs h
  | _ => cases h
theorem sum_zero : ∀ l : List PyData, (l.map fun _ => 0).sum = 0
  | [] => rfl
  | _ :: r => by rw [List.map_cons, List.sum_cons, sum_zero r]
theorem sum_one : ∀ l : List PyData, (l.map fun _ => 1).sum = l.length
  | [] => rfl
  | _ :: r => by rw [List.map_cons, List.sum_cons, sum_one r, List.length_cons]; omega
theorem steps_gro : ∀ (c : Nat) (fs : Fs) (d : PyData) (gs : Fs), stepsB c fs d = .ok gs → Gro fs gs (growB c d)
  | 0, fs, d, gs, h => by
    have := over_gro (g := fun _ => 1) (fun fs d gs h => (step_gro (g := fun _ => 0) (fun _ _ _ h => by cases h) h).mono (by rw [sum_zero]; omega)) h
    refine this.mono ?_
    show _ ≤ (items d).length
    rw [sum_one]
    exact Nat.le_refl _
  | c + 1, fs, d, gs, h => over_gro (g := fun s => 1 + ((items s).map (growB c)).sum) (fun fs d gs h => step_gro (steps_gro c) h) h
end St6

set_option autoImplicit false
set_option maxHeartbeats 4000000
namespace St6
open PySem PySem.Spec PyProof.Rows L2 Tg Cc Nn
/-- told: the fields behind, or the refusal -/
def SRes (C : Addr) (o : Except Nat Fs) (H : Hp) (Q : VK) (E : XK) : Prop := match o with
  | .ok gs => ∀ H' q, Same H H' → H' q = some (.dK (kvsOf gs)) → Q (.ref q) H'
  | .error n => Out C E H n
def spSorts (K : PySem.W.Frag) (C : Addr) (c : Nat) : Sp := fun vs H Q E => ∃ sd fs v d, vs = [.ref sd, v] ∧ Fd H sd fs ∧ Th K H v d ∧ Bd 1000 (2 * c + 1) d ∧ c ≤ 9 ∧ fs.length + growB c d ≤ 1000000 ∧ SRes C (stepsB c fs d) H Q E
def spCase (K : PySem.W.Frag) (c : Nat) : Sp := fun vs H Q _ => ∃ sd fs v r, vs = [.ref sd, v] ∧ Fd H sd fs ∧ Th K H v (.tuple (.str "case" :: r)) ∧ r.length = 4 ∧ (∀ x ∈ r, Bd 1000 (2 * c + 1) x) ∧ c ≤ 9 ∧ fs.length + (r.map (growB c)).sum ≤ 1000000 ∧ Res (leadB (stepsB c) fs "case" r) H Q
section
variable {P : Program} {w : World} {K : PySem.W.Frag} {mg : Str → Option Value} {base : Heap} {C fI : Addr} {fdI : FuncData} {c : Nat}
theorem scbcase : FnScope ["sorts", "step", "_", "field", "value", "yes", "no", "sort", "sorts_of_yes", "sorts_of_no"] ["sorts", "step"] (defScope sBehindCase) := ⟨rfl, rfl, rfl, by decide +kernel, rfl, by decide +kernel, by decide +kernel⟩
theorem ok_bcase {f : Addr} {fd : FuncData} (F : FnP K "_behind_case" sBehindCase f fd) {f__sort_of : Addr} {fd__sort_of : FuncData} (c__sort_of : Cl P w K mg base CX0 "_sort_of" 1 ["sorts", "field"] (spSortOf K) f__sort_of fd__sort_of) {f_is_of_sort : Addr} {fd_is_of_sort : FuncData} (c_is_of_sort : Cl P w K mg base CX0 "is_of_sort" 3 ["value", "sort"] (spOfSort K) f_is_of_sort fd_is_of_sort) {f__sorts_behind : Addr} {fd__sorts_behind : FuncData} (c__sorts_behind : Cl P w K mg base (L2.CX P w) "_sorts_behind" (8 + 3 * c) ["sorts", "steps"] (spSorts K C c) f__sorts_behind fd__sorts_behind)  {aT : Addr} (m_TESTED : mg "TESTED" = some (.ref aT)) (hT_ : ∀ H, SqT K H aT (testL.map V.str)) (T : BadS K mg C fI fdI) : FnOk P w K mg base CX0 (8 + 3 * c + 1) f fd ["sorts", "step"] (spCase K c) := by
  refine F.ok scbcase (fun vs H Q E h => ?_) (fun cdv A outer s H vs Q E hr h => ?_)
  · obtain ⟨sd, fs, v, r, rfl, _⟩ := h
    rfl
  · obtain ⟨sd, fs, v, r, rfl, hF, hT, hl, hB, hc, hg, q⟩ := h
    have hu := hu_of hr
    have hs := szl
    refine ⟨_, PSs.nox (pss_cons (ps_asg (pv 1) (pg_tup rfl (pgs_cons (pg_name (i := 2) scbcase.nd rfl (Or.inl rfl)) (pgs_cons (pg_name (i := 3) scbcase.nd rfl (Or.inl rfl)) (pgs_cons (pg_name (i := 4) scbcase.nd rfl (Or.inl rfl)) (pgs_cons (pg_name (i := 5) scbcase.nd rfl (Or.inl rfl)) (pgs_cons (pg_name (i := 6) scbcase.nd rfl (Or.inl rfl)) (pgs_nil))))))))
      (pss_cons (ps_set (i := 7) scbcase.nd rfl (Or.inl rfl) (pe_call c__sort_of.ok (hr.mono (by omega)) (by rfl) c__sort_of.m c__sort_of.kp c__sort_of.b .nil pass0 (pa_cons (pv 0) (pa_cons (pv 3) pa_nil))))
      (pss_cons (ps_if (PW.pt (pw_or (pt_cmpR op_notIn_seq (pv 7) (pe_glob (v := .ref aT) rfl m_TESTED rfl) (by with_unfolding_all rfl)) (pw_or1 (pt_not (pt_val (pe_call c_is_of_sort.ok (hr.mono (by omega)) (by rfl) c_is_of_sort.m c_is_of_sort.kp c_is_of_sort.b .nil pass0 (pa_cons (pv 4) (pa_cons (pv 7) pa_nil)))))))) (pss_one (ps_ret (pe_non))) (pss_nil))
      (pss_cons (ps_try_only rfl rfl ⟨rfl, by decide, .inl T.g⟩ takes0 (fun W pn xe tk _ => pss_cons (ps_set (i := 8) scbcase.nd rfl (Or.inl rfl) (pe_callS c__sorts_behind.ok (hr.mono (by omega)) (by rfl) c__sorts_behind.m c__sorts_behind.kp c__sorts_behind.b (fun σ => passAt (tk) σ) (pa_cons (pv 0) (pa_cons (pv 5) pa_nil))))
      (pss_one (ps_set (i := 9) scbcase.nd rfl (Or.inl rfl) (pe_callS c__sorts_behind.ok (hr.mono (by omega)) (by rfl) c__sorts_behind.m c__sorts_behind.kp c__sorts_behind.b (fun σ => passAt (tk) σ) (pa_cons (pv 0) (pa_cons (pv 6) pa_nil)))))) (fun a oe cls d pn _ _ => pss_one (ps_ret (pe_non))))
      (pss_one (ps_ret (pe_ifExp (pt_cmpR (Nn.op_eqF (Nat.lt_of_le_of_lt (Nat.le_add_right _ 64) hr.units)) (pv 8) (pv 9) (nomark _)) (pv 8) (pe_non)))))))), ?_⟩
    obtain ⟨d0, d1, d2, d3, rfl⟩ := len4 hl
    obtain ⟨a, xs, rfl, hx, hA⟩ := hT.asTup
    obtain ⟨x0, x1, x2, x3, rfl, t0, t1, t2, t3⟩ := th4 hA
    have ok : ∀ x ∈ [d0, d1, d2, d3], Ok x := fun x hx => (hB x hx).mono (Nat.le_refl _) (by omega)
    have b0 := ok d0 (by simp)
    have b1 := ok d1 (by simp)
    have b2 := hB d2 (by simp)
    have b3 := hB d3 (by simp)
    replace q : Res (caseB (stepsB c) fs d0 d1 d2 d3) H Q := q
    unfold caseB at q
    have sum : ([d0, d1, d2, d3].map (growB c)).sum = growB c d0 + (growB c d1 + (growB c d2 + (growB c d3 + 0))) := rfl
    refine ⟨_, rfl, a, _, rfl, hx, rfl, _, _, rfl, _, _, rfl, _, _, rfl, _, _, rfl, _, _, rfl, rfl, ?_⟩
    refine ⟨_, rfl, _, rfl, sd, fs, x0, d0, rfl, hF, t0, b0, ?_⟩
    refine ⟨_, rfl, aT, _, rfl, .inr (hT_ H), flat_opt _, by decide +kernel, _, rfl, ?_⟩
    rw [if_pos rfl, in_opt]
    cases ho : sortOf fs d0 with
    | none =>
      rw [ho] at q
      exact iteT (iteT (q H (Same.refl H)))
    | some el =>
      rw [ho] at q
      dsimp only at q
      show if (!decide (el ∈ testL)) = true then _ else _
      cases hm : decide (el ∈ testL) with
      | false =>
        rw [hm, Bool.false_and] at q
        exact iteT (iteT (q H (Same.refl H)))
      | true =>
        rw [hm, Bool.true_and] at q
        refine iteF ⟨_, rfl, _, rfl, x1, d1, el, rfl, t1, b1, fun H1 s1 => ⟨_, rfl, ?_⟩⟩
        cases hs1 : ofSort el d1 with
        | false =>
          rw [hs1] at q
          exact iteT (q H1 s1)
        | true =>
          rw [hs1, if_pos rfl] at q
          refine iteF ?_
          refine ⟨_, rfl, _, rfl, sd, fs, x2, d2, rfl, hF.same s1, t2.kept (kept_same s1), b2, hc, by omega, ?_⟩
          cases hy : stepsB c fs d2 with
          | error n =>
            rw [hy] at q
            exact fun H' d s2 nd e => ⟨true, T.te, fun _ a2 na => q H' (s1.trans s2), fun z => nomatch z⟩
          | ok gs =>
            intro H2 qa s2 ea
            have s12 := s1.trans s2
            refine ⟨_, rfl, _, rfl, sd, fs, x3, d3, rfl, hF.same s12, t3.kept (kept_same s12), b3, hc, by omega, ?_⟩
            cases hn : stepsB c fs d3 with
            | error n =>
              rw [hy, hn] at q
              exact fun H' d s3 nd e => ⟨true, T.te, fun _ a2 na => q H' (s12.trans s3), fun z => nomatch z⟩
            | ok hs3 =>
              intro H3 qb s3 eb
              have s13 := s12.trans s3
              rw [hy, hn] at q
              replace q : Res (if eqF gs hs3 = true then some gs else none) H Q := q
              refine ⟨_, rfl, _, rfl, qa, qb, gs, hs3, rfl, rfl, s3 _ _ ea, eb, _, rfl, ?_⟩
              cases he : eqF gs hs3 with
              | false =>
                rw [he] at q
                exact iteF (q H3 s13)
              | true =>
                rw [he] at q
                exact iteT ⟨_, rfl, q H3 qa s13 (s3 _ _ ea)⟩
end
end St6

set_option maxHeartbeats 0
namespace St6
open PySem PySem.Spec PyProof.Rows L2 Cc Kx
def mkD (x : Str) (i : Nat) : He.DefD := ⟨(x, none), x, x, defArgs (top i), defBody (top i), defScope (top i), [], []⟩
def dBad : He.DefD := ⟨("BadStep", some "__init__"), "__init__", "BadStep.__init__", defArgs sInit, defBody sInit, defScope sInit, [], []⟩
def fn : List He.DefD := [mkD "is_sign" 4, mkD "is_text" 5, mkD "is_whole" 14, mkD "_is_small" 16, mkD "is_name" 15, mkD "is_sort" 12, mkD "is_of_sort" 13, mkD "_sort_of" 29, mkD "_is_new" 30, mkD "_is_saying" 39, mkD "_is_part" 38, mkD "_is_row" 42, mkD "_is_other" 43, mkD "_are_rows" 41, mkD "_behind_rename" 31, mkD "_behind_copy" 32, mkD "_behind_drop" 33, mkD "_behind_put" 34, mkD "_behind_scale" 35, mkD "_behind_sum" 36, mkD "_behind_join" 37, mkD "_behind_table" 40, mkD "_behind_case" 44, mkD "_sorts_behind_step" 28, mkD "_sorts_behind" 27, mkD "form_behind" 26, mkD "_do_rename" 49, mkD "_do_copy" 50, mkD "_do_drop" 51, mkD "_do_put" 52, mkD "_do_scale" 53, mkD "_do_sum" 54, mkD "_do_join" 55, mkD "_do_table" 56, mkD "_do_case" 57, mkD "_do_steps" 48, mkD "done" 47, mkD "_law_pen" 60, mkD "_law_draw" 61, mkD "_law_names" 62, mkD "_law_form" 68, mkD "_law_word" 63, mkD "_law_text" 64, mkD "_law_number" 65, mkD "_law_value" 66, mkD "_law_values" 67, mkD "_law_pick" 69, mkD "_law_behind" 70, mkD "_law_end" 71, mkD "_law_do" 72, mkD "_law_done" 73, mkD "_law_whole" 74, mkD "_law_is_word" 75, mkD "_law_of_sort" 76, mkD "_law_sort" 77, mkD "_law_is_new" 78, mkD "_law_is_part" 79, mkD "_law_is_rows" 80, mkD "_law_is_sort" 81, mkD "_law_is_list" 82, mkD "_law_suits" 83, mkD "_law_fit" 84, mkD "_law_all_fit" 85, mkD "_law_place" 86, mkD "_law_bad" 87, mkD "_law_wide" 88, mkD "law" 89, dBad]
def fa : List He.Fa := ([.glo "is_sign", .glo "is_text", .glo "is_whole", .glo "_is_small", .glo "is_name", .glo "is_sort", .glo "is_of_sort", .glo "_sort_of", .glo "_is_new", .glo "_is_saying", .glo "_is_part", .glo "_is_row", .glo "_is_other", .glo "_are_rows", .glo "_behind_rename", .glo "_behind_copy", .glo "_behind_drop", .glo "_behind_put", .glo "_behind_scale", .glo "_behind_sum", .glo "_behind_join", .glo "_behind_table", .glo "_behind_case", .glo "_sorts_behind_step", .glo "_sorts_behind"] : List He.Fa) ++ ([.glo "form_behind", .glo "_do_rename", .glo "_do_copy", .glo "_do_drop", .glo "_do_put", .glo "_do_scale", .glo "_do_sum", .glo "_do_join", .glo "_do_table", .glo "_do_case", .glo "_do_steps", .glo "done", .glo "_law_pen", .glo "_law_draw", .glo "_law_names", .glo "_law_form", .glo "_law_word", .glo "_law_text", .glo "_law_number", .glo "_law_value", .glo "_law_values", .glo "_law_pick", .glo "_law_behind", .glo "_law_end", .glo "_law_do"] : List He.Fa) ++ ([.glo "_law_done", .glo "_law_whole", .glo "_law_is_word", .glo "_law_of_sort", .glo "_law_sort", .glo "_law_is_new", .glo "_law_is_part", .glo "_law_is_rows", .glo "_law_is_sort", .glo "_law_is_list", .glo "_law_suits", .glo "_law_fit", .glo "_law_all_fit", .glo "_law_place", .glo "_law_bad", .glo "_law_wide", .glo "law", .int "PERCENT" 37, .int "MOST_FIELDS" 6, .int "LONGEST_NAME" 12, .int "LONGEST_WORD" 8, .int "LONGEST_TEXT" 40, .int "MOST_SUMMED" 6, .int "MOST_PARTS" 8, .int "MOST_ROWS" 4] : List He.Fa) ++ ([.int "LONGEST_SAYING" 12, .glo "SORTS", .glo "NUMBERS", .glo "TESTED", .glo "JOINED", .free "ValueError", .free "abs", .free "all", .free "bool", .free "dict", .free "enumerate", .free "int", .free "isinstance", .free "len", .free "list", .free "min", .free "ord", .free "range", .free "set", .free "sorted", .free "str", .free "sum", .free "tuple", .free "zip", .glo "BadStep"] : List He.Fa) ++ ([.noat "BadStep" "at", .meth "BadStep" "__init__", .str "SAYING_SIGNS" "abcdefghijklmnopqrstuvwxyz0123456789 -", .glo "LENGTHS", .glo "LEADS", .glo "DEEDS"] : List He.Fa)
def keys9 : List Str := ["rename", "copy", "drop", "put", "scale", "sum", "join", "table", "case"]
def lensD : List (Str × He.Dv) := [("rename", .int 3), ("copy", .int 3), ("drop", .int 2), ("put", .int 4), ("scale", .int 4), ("sum", .int 3), ("join", .int 3), ("table", .int 5), ("case", .int 5)]
def leadsD : List (Str × He.Dv) := [("rename", .glo "_behind_rename"), ("copy", .glo "_behind_copy"), ("drop", .glo "_behind_drop"), ("put", .glo "_behind_put"), ("scale", .glo "_behind_scale"), ("sum", .glo "_behind_sum"), ("join", .glo "_behind_join"), ("table", .glo "_behind_table"), ("case", .glo "_behind_case")]
def ts : List He.Tab := [(fun K => He.ga K "LENGTHS", keys9), (fun K => He.ga K "LEADS", keys9), (fun K => He.ga K "DEEDS", keys9)]
def deedsD : List (Str × He.Dv) := [("rename", .glo "_do_rename"), ("copy", .glo "_do_copy"), ("drop", .glo "_do_drop"), ("put", .glo "_do_put"), ("scale", .glo "_do_scale"), ("sum", .glo "_do_sum"), ("join", .glo "_do_join"), ("table", .glo "_do_table"), ("case", .glo "_do_case")]
/-- the class of a refusal: what the rules ask of it -/
def oexB (K : PySem.W.Frag) (C : Addr) : Bool := match K.lookup C with
  | some ⟨.type t, _, .cls cd, sl⟩ => (match cd.mro, sl.toList with
    | .ref C' :: bm, [_, _, _, _, some (.builtin n), _] => decide (t = "type") && (decide (C' = C) && (decide (n = "ValueError.__new__") && (!cd.hasDel && (cd.hasDict && PySem.HandSPX.refsVE bm))))
    | _, _ => false)
  | _ => false
theorem oexB_ok {K : PySem.W.Frag} {C : Addr} (h : oexB K C = true) : ∃ nm q N bs bm sn sub ab col dd k0 k1 k2 k3 k5, K.lookup C = some (excClassObj nm q C N bs bm true sn sub ab col dd k0 k1 k2 k3 k5 "ValueError.__new__") ∧ PySem.HandSPX.refsVE bm = true := by
  unfold oexB at h
  split at h
  · rename_i t od cd sl e
    split at h
    · rename_i C' bm k0 k1 k2 k3 n k5 em es
      obtain ⟨h1, h⟩ := He.ba h
      obtain ⟨h2, h⟩ := He.ba h
      obtain ⟨h3, h⟩ := He.ba h
      obtain ⟨h4, h⟩ := He.ba h
      obtain ⟨h5, h6⟩ := He.ba h
      have e1 := of_decide_eq_true h1
      have e2 := of_decide_eq_true h2
      have e3 := of_decide_eq_true h3
      subst e1 e2 e3
      obtain ⟨nm, bs, mro, ns, qn, hd, sn, sub, ab, col, del⟩ := cd
      have e4 : del = false := by simpa using h4
      have e5 : hd = true := h5
      have e6 : mro = .ref C' :: bm := em
      subst e4 e5 e6
      have e7 : sl = #[k0, k1, k2, k3, some (.builtin "ValueError.__new__"), k5] := by
        rw [← es]
      subst e7
      exact ⟨_, _, _, _, bm, _, _, _, _, _, _, _, _, _, _, e, h6⟩
    · cases h
  · cases h
def excB (K : PySem.W.Frag) (D : Addr) : Bool := decide (PySem.W.findIn K (.ref D) "__class__" = some (some (.builtin "object.__class__"))) && (decide (PySem.W.specialIn K (.builtin "object.__class__") "__get__" = some (some (.builtin "getset_descriptor.__get__"))) &&
  (decide (PySem.W.takesIn K (.builtin "object.__class__") = some true) && (decide (PySem.W.mroIn K D (.type "object") = some true) && (PySem.W.clsIn K D).isSome)))
theorem excB_ok {K : PySem.W.Frag} {D : Addr} (x : XfC K D) (h : excB K D = true) : ExcC K D ∧ (PySem.W.clsIn K D).isSome = true := by
  obtain ⟨h1, h⟩ := He.ba h
  obtain ⟨h2, h⟩ := He.ba h
  obtain ⟨h3, h⟩ := He.ba h
  obtain ⟨h4, h5⟩ := He.ba h
  exact ⟨⟨x.ga, x.gg, x.exC, x.hdC, of_decide_eq_true h1, of_decide_eq_true h2, of_decide_eq_true h3, of_decide_eq_true h4⟩, h5⟩

theorem vals_kv {K : PySem.W.Frag} {a : Addr} {kd : List (Str × He.Dv)} (h : He.valsB K a kd = true) : ∀ x ∈ kd.map (fun q => (q.1, He.Dv.v K q.2)), ∃ u, PySem.W.nsIn K a x.1 = some (some u) ∧ RelV x.2 u := fun x hx => by
  obtain ⟨q, hq, rfl⟩ := List.mem_map.mp hx
  exact He.valsB_ok h hq
def ex (K : PySem.W.Frag) : Bool := He.tupB K "SORTS" [.str "code", .str "amount", .str "word", .str "text"] && (He.tupB K "NUMBERS" [.str "code", .str "amount"] && (He.tupB K "TESTED" [.str "code", .str "word"] && (He.tupB K "JOINED" [.str "word", .str "text"] && (He.valsB K (He.ga K "DEEDS") deedsD && (Nn.keysB K (He.ga K "DEEDS") keys9 && (He.valsB K (He.ga K "LENGTHS") lensD && (He.valsB K (He.ga K "LEADS") leadsD && (Nn.keysB K (He.ga K "LENGTHS") keys9 && (Nn.keysB K (He.ga K "LEADS") keys9 && (oexB K (He.ga K "BadStep") && (decide (PySem.W.findIn K (.ref (He.ga K "BadStep")) "__setattr__" = some (some (.builtin "object.__setattr__"))) && (decide (PySem.W.subIn K (.ref (He.ga K "BadStep")) (.type "BaseException") = some true) && (decide (PySem.W.typeIn K (.ref (He.ga K "BadStep")) = some (.type "type")) && (PySem.W.keepIn K (.ref (He.ga K "BadStep")) && (decide (PySem.W.exmOne K (.ref (He.ga K "BadStep")) (.ref (He.ga K "BadStep")) = some true) && (xfB K (He.ga K "BadStep") && (excB K (He.ga K "BadStep") && (decide (PySem.W.kitOne K (.ref (He.ga K "BadStep")) (.type "ValueError") = some true) && (decide (PySem.W.exmOne K (.ref (He.ga K "BadStep")) (.ref (He.ga K "BadStep")) = some true))))))))))))))))))))
abbrev R : PySem.W.OpenRow := PySem.W.OpenLaw.row PySem.Challenge.rw_eventledger_k16_more_than_six_amid
abbrev hk : PySem.W.Hook := He.hookX 5 fa fn ts [] ex
def ob (s : PySem.W.SharedT) : He.AlX := He.obsX 5 fa fn ts [] ex (HandSHeadRun.getT s)
theorem ob_eq (s : PySem.W.SharedT) : ob s = hk.obs s.abs := He.obsX_eq (HandSHeadRun.getT_eq s)
abbrev loose : List Str := (["BadStep", "SAYING_SIGNS", "LENGTHS", "LEADS", "DEEDS", "PERCENT", "MOST_FIELDS", "LONGEST_NAME", "LONGEST_WORD", "LONGEST_TEXT", "MOST_SUMMED", "MOST_PARTS", "MOST_ROWS", "LONGEST_SAYING", "SORTS", "NUMBERS", "TESTED", "JOINED", "is_sign", "is_text", "is_whole", "_is_small", "is_name", "is_sort", "is_of_sort"] : List Str) ++ (["_sort_of", "_is_new", "_is_saying", "_is_part", "_is_row", "_is_other", "_are_rows", "_behind_rename", "_behind_copy", "_behind_drop", "_behind_put", "_behind_scale", "_behind_sum", "_behind_join", "_behind_table", "_behind_case", "_sorts_behind_step", "_sorts_behind", "form_behind", "_do_rename", "_do_copy", "_do_drop", "_do_put", "_do_scale", "_do_sum"] : List Str) ++ (["_do_join", "_do_table", "_do_case", "_do_steps", "done", "_law_pen", "_law_draw", "_law_names", "_law_form", "_law_word", "_law_text", "_law_number", "_law_value", "_law_values", "_law_pick", "_law_behind", "_law_end", "_law_do", "_law_done", "_law_whole", "_law_is_word", "_law_of_sort", "_law_sort", "_law_is_new", "_law_is_part"] : List Str) ++ (["_law_is_rows", "_law_is_sort", "_law_is_list", "_law_suits", "_law_fit", "_law_all_fit", "_law_place", "_law_bad", "_law_wide"] : List Str)
theorem run_no (w : World) : HandSHeadRun.RunEq R (PySem.W.view R.prog [89]) hk ob 3000 loose (w.withFollow "special-get-raises" false) := by
  intro os
  kernel_rfl
theorem run_yes (w : World) : HandSHeadRun.RunEq R (PySem.W.view R.prog [89]) hk ob 3000 loose (w.withFollow "special-get-raises" true) := by
  intro os
  kernel_rfl
theorem run (w : World) : HandSHeadRun.RunEq R (PySem.W.view R.prog [89]) hk ob 3000 loose w :=
  PySem.W.byRow2 "special-get-raises" (P := fun w => HandSHeadRun.RunEq R (PySem.W.view R.prog [89]) hk ob 3000 loose w) run_no run_yes w
end St6

set_option autoImplicit false
set_option maxHeartbeats 4000000
namespace St6
open PySem PySem.Spec PyProof.Rows L2 Tg Cc Nn
theorem at0 {x : V} {r : List V} : atI (x :: r) 0 = some x := atI_nat (j := 0) rfl
theorem lookV_cons (k : Str) (v : V) (r : List (Str × V)) (w : Str) : lookV ((k, v) :: r) w = if w = k then some v else lookV r w := by
  unfold lookV
  by_cases h : w = k
  · subst h
    rw [List.find?_cons_of_pos (by simp), if_pos rfl]
    rfl
  · rw [List.find?_cons_of_neg (by simpa using fun e : k = w => h e.symm), if_neg h]
def lenOf (w : Str) : Option Nat := if w = "rename" then some 2 else if w = "copy" then some 2 else if w = "drop" then some 1 else if w = "put" then some 3 else if w = "scale" then some 3 else if w = "sum" then some 2 else if w = "join" then some 2 else if w = "table" then some 4 else if w = "case" then some 4 else none
def lens : List (Str × V) := [("rename", .int 3), ("copy", .int 3), ("drop", .int 2), ("put", .int 4), ("scale", .int 4), ("sum", .int 3), ("join", .int 3), ("table", .int 5), ("case", .int 5)]
theorem look_len (w : Str) : lookV lens w = (lenOf w).map fun n => V.int ((n + 1 : Nat) : Int) := by
  unfold lens lenOf
  simp only [lookV_cons]
  repeat (split; rfl)
  rfl
def leadsV (f_rename f_copy f_drop f_put f_scale f_sum f_join f_table f_case : Addr) : List (Str × V) := [("rename", .ref f_rename), ("copy", .ref f_copy), ("drop", .ref f_drop), ("put", .ref f_put), ("scale", .ref f_scale), ("sum", .ref f_sum), ("join", .ref f_join), ("table", .ref f_table), ("case", .ref f_case)]
theorem look_lead {f_rename f_copy f_drop f_put f_scale f_sum f_join f_table f_case : Addr} (w : Str) : lookV (leadsV f_rename f_copy f_drop f_put f_scale f_sum f_join f_table f_case) w = if w = "rename" then some (.ref f_rename) else if w = "copy" then some (.ref f_copy) else if w = "drop" then some (.ref f_drop) else if w = "put" then some (.ref f_put) else if w = "scale" then some (.ref f_scale) else if w = "sum" then some (.ref f_sum) else if w = "join" then some (.ref f_join) else if w = "table" then some (.ref f_table) else if w = "case" then some (.ref f_case) else none := by
  unfold leadsV
  simp only [lookV_cons]
  rfl
theorem lead_len {rec : Fs → PyData → Except Nat Fs} {fs : Fs} {w : Str} {r : List PyData} (h : lenOf w ≠ some r.length) : leadB rec fs w r = none := by
  match r, h with
  | [], _ => rfl
  | [a], h =>
    show (if w = "drop" then dropB fs a else none) = none
    rw [if_neg fun e => h (by rw [e]; rfl)]
  | [a, b], h =>
    show (if w = "rename" then renameB fs a b else if w = "copy" then copyB fs a b else if w = "sum" then sumB fs a b else if w = "join" then joinB fs a b else none) = none
    rw [if_neg fun e => h (by rw [e]; rfl), if_neg fun e => h (by rw [e]; rfl), if_neg fun e => h (by rw [e]; rfl), if_neg fun e => h (by rw [e]; rfl)]
  | [a, b, c], h =>
    show (if w = "put" then putB fs a b c else if w = "scale" then scaleB fs a b c else none) = none
    rw [if_neg fun e => h (by rw [e]; rfl), if_neg fun e => h (by rw [e]; rfl)]
  | [a, b, c, d], h =>
    show (if w = "table" then tableB fs a b c d else if w = "case" then caseB rec fs a b c d else none) = none
    rw [if_neg fun e => h (by rw [e]; rfl), if_neg fun e => h (by rw [e]; rfl)]
  | _ :: _ :: _ :: _ :: _ :: _, _ => rfl
theorem lenOf_in {w : Str} {n : Nat} (h : lenOf w = some n) : w = "rename" ∨ w = "copy" ∨ w = "drop" ∨ w = "put" ∨ w = "scale" ∨ w = "sum" ∨ w = "join" ∨ w = "table" ∨ w = "case" := by
  unfold lenOf at h
  by_cases h0 : w = "rename"
  · exact .inl h0
  rw [if_neg h0] at h
  by_cases h1 : w = "copy"
  · exact .inr (.inl h1)
  rw [if_neg h1] at h
  by_cases h2 : w = "drop"
  · exact .inr (.inr (.inl h2))
  rw [if_neg h2] at h
  by_cases h3 : w = "put"
  · exact .inr (.inr (.inr (.inl h3)))
  rw [if_neg h3] at h
  by_cases h4 : w = "scale"
  · exact .inr (.inr (.inr (.inr (.inl h4))))
  rw [if_neg h4] at h
  by_cases h5 : w = "sum"
  · exact .inr (.inr (.inr (.inr (.inr (.inl h5)))))
  rw [if_neg h5] at h
  by_cases h6 : w = "join"
  · exact .inr (.inr (.inr (.inr (.inr (.inr (.inl h6))))))
  rw [if_neg h6] at h
  by_cases h7 : w = "table"
  · exact .inr (.inr (.inr (.inr (.inr (.inr (.inr (.inl h7)))))))
  rw [if_neg h7] at h
  by_cases h8 : w = "case"
  · exact .inr (.inr (.inr (.inr (.inr (.inr (.inr (.inr h8)))))))
  rw [if_neg h8] at h
  cases h
def recOf : Nat → Fs → PyData → Except Nat Fs
  | 0 => fun _ _ => .error 0
  | c + 1 => stepsB c
theorem steps_over (c : Nat) (fs : Fs) (d : PyData) : stepsB c fs d = overB (stepB (recOf c)) fs d := by cases c <;> rfl
def growS : Nat → PyData → Nat
  | 0, _ => 1
  | c + 1, d => 1 + ((items d).map (growB c)).sum
theorem grow_sum (c : Nat) (d : PyData) : growB c d = ((items d).map (growS c)).sum := by
  cases c with
  | zero =>
    show (items d).length = ((items d).map fun _ => 1).sum
    rw [sum_one]
  | succ c => rfl
theorem stepS_gro (c : Nat) {fs : Fs} {d : PyData} {gs : Fs} (h : stepB (recOf c) fs d = some gs) : Gro fs gs (growS c d) := by
  cases c with
  | zero => exact (step_gro (g := fun _ => 0) (fun _ _ _ h => by cases h) h).mono (by rw [sum_zero]; exact Nat.le_refl _)
  | succ c => exact step_gro (steps_gro c) h
def spStep (K : PySem.W.Frag) (c : Nat) : Sp := fun vs H Q _ => ∃ sd fs v d, vs = [.ref sd, v] ∧ Fd H sd fs ∧ Th K H v d ∧ Bd 1000 (2 * c) d ∧ c ≤ 9 ∧ fs.length + growS c d ≤ 1000000 ∧ Res (stepB (recOf c) fs d) H Q
def spCaseOf (K : PySem.W.Frag) : Nat → Sp
  | 0 => fun _ _ _ _ => False
  | c + 1 => spCase K c
theorem stepB_not {rec : Fs → PyData → Except Nat Fs} {fs : Fs} {d : PyData} (h : isTup d = false) : stepB rec fs d = none := by
  cases d <;> first | rfl | cases h
theorem stepB_nil {rec : Fs → PyData → Except Nat Fs} {fs : Fs} : stepB rec fs (.tuple []) = none := rfl
theorem stepB_word {rec : Fs → PyData → Except Nat Fs} {fs : Fs} {d : PyData} {r : List PyData} (h : isStr d = false) : stepB rec fs (.tuple (d :: r)) = none := by
  cases d <;> first | rfl | cases h
theorem held_of {P : Program} {w : World} {K : PySem.W.Frag} {mg : Str → Option Value} {base : Heap} {x : Str} {j k : Nat} {ps : List Str} {sp : Sp} {f : Addr} {fd : FuncData} (h : Cl P w K mg base CX0 x j ps sp f fd) (le : j ≤ k) : Held P w K mg base k f sp :=
  ⟨fd, ps, ⟨fun vs H Q E a => h.ok.len vs H Q E a, fun A outer s H args us vs Q E hr he hb hv a => h.ok.run A outer s H args us vs Q E (hr.mono le) he hb hv a⟩, h.kp, h.b⟩
section
variable {P : Program} {w : World} {K : PySem.W.Frag} {mg : Str → Option Value} {base : Heap} {C fI : Addr} {fdI : FuncData} {c : Nat}
theorem scbstep : FnScope ["sorts", "step", "lead"] ["sorts", "step"] (defScope sSortsBehindStep) := ⟨rfl, rfl, rfl, by decide +kernel, rfl, by decide +kernel, by decide +kernel⟩
theorem ok_bstep {f : Addr} {fd : FuncData} (F : FnP K "_sorts_behind_step" sSortsBehindStep f fd)  (mb_isinstance : mg "isinstance" = none) (mb_tuple : mg "tuple" = none) (mb_str : mg "str" = none) (mb_len : mg "len" = none) {aL aD f_rename f_copy f_drop f_put f_scale f_sum f_join f_table f_case : Addr} (m_LENGTHS : mg "LENGTHS" = some (.ref aL)) (hL_ : KTab K w aL lens) (m_LEADS : mg "LEADS" = some (.ref aD)) (hD_ : KTab K w aD (leadsV f_rename f_copy f_drop f_put f_scale f_sum f_join f_table f_case)) (H_rename : Held P w K mg base (6 + 3 * c) f_rename (spLead K (recOf c) "rename" 2)) (H_copy : Held P w K mg base (6 + 3 * c) f_copy (spLead K (recOf c) "copy" 2)) (H_drop : Held P w K mg base (6 + 3 * c) f_drop (spLead K (recOf c) "drop" 1)) (H_put : Held P w K mg base (6 + 3 * c) f_put (spLead K (recOf c) "put" 3)) (H_scale : Held P w K mg base (6 + 3 * c) f_scale (spLead K (recOf c) "scale" 3)) (H_sum : Held P w K mg base (6 + 3 * c) f_sum (spLead K (recOf c) "sum" 2)) (H_join : Held P w K mg base (6 + 3 * c) f_join (spLead K (recOf c) "join" 2)) (H_table : Held P w K mg base (6 + 3 * c) f_table (spLead K (recOf c) "table" 4)) (H_case : Held P w K mg base (6 + 3 * c) f_case (spCaseOf K c))  : FnOk P w K mg base CX0 (6 + 3 * c + 1) f fd ["sorts", "step"] (spStep K c) := by
  refine F.ok scbstep (fun vs H Q E h => ?_) (fun cdv A outer s H vs Q E hr h => ?_)
  · obtain ⟨sd, fs, v, d, rfl, _⟩ := h
    rfl
  · obtain ⟨sd, fs, v, d, rfl, hF, hT, hB, hc, hg, q⟩ := h
    have hu := hu_of hr
    have hs := szl
    refine ⟨_, PSs.nox (pss_cons (ps_if (PW.pt (pw_or (pt_not (pt_val (pe_callB call_isi (by rfl) mb_isinstance (by decide +kernel) (pa_cons (pv 1) (pa_cons (pe_bltn (v := .ty "tuple") (by rfl) mb_tuple (by decide +kernel) rfl) pa_nil))))) (pw_or (pt_not (pt_truth (pv 1) (by intro _; rfl))) (pw_or1 (pt_not (pt_val (pe_callB call_isi (by rfl) mb_isinstance (by decide +kernel) (pa_cons (pe_ix Cc.ix_B (pv 1) (pe_int) (fun _ _ => rfl)) (pa_cons (pe_bltn (v := .ty "str") (by rfl) mb_str (by decide +kernel) rfl) pa_nil))))))))) (pss_one (ps_ret (pe_non))) (pss_nil))
      (pss_cons (ps_if (pt_cmpR op_ne (Nn.pe_kget2 (pe_glob (v := .ref aL) rfl m_LENGTHS rfl) (pe_ix Cc.ix_B (pv 1) (pe_int) (fun _ _ => rfl)) (pe_int) ⟨by rfl, by rfl, by rfl, by rfl⟩) (pe_callB call_len (by rfl) mb_len (by decide +kernel) (pa_cons (pv 1) pa_nil)) (nomark _)) (pss_one (ps_ret (pe_non))) (pss_nil))
      (pss_cons (ps_set (i := 2) scbstep.nd rfl (Or.inl rfl) (pe_ix Nn.ix_ktab (pe_glob (v := .ref aD) rfl m_LEADS rfl) (pe_ix Cc.ix_B (pv 1) (pe_int) (fun _ _ => rfl)) (fun _ _ => rfl)))
      (pss_one (ps_ret (Nn.pe_callH (k := 6 + 3 * c) (i := 2) hr rfl (Or.inl rfl) (pa_cons (pv 0) (pa_cons (pv 1) pa_nil)))))))), ?_⟩
    refine ⟨_, rfl, v, .ty "tuple", _, _, _, rfl, .ty "tuple", hT.ty, kit_ty (kit_tup d), _, rfl, ?_⟩
    cases ht : isTup d with
    | false =>
      rw [stepB_not ht] at q
      exact iteT (iteT (q H (Same.refl H)))
    | true =>
      obtain ⟨ds, rfl⟩ := isTup_eq ht
      obtain ⟨a, xs, rfl, hx, hA⟩ := hT.asTup
      have lx := hA.len
      refine iteF ⟨_, rfl, _, .inr (.inl ⟨xs, hx, rfl⟩), ?_⟩
      match ds, xs, hA, lx with
      | [], xs, hA, lx =>
        obtain rfl := hA.nil_of
        rw [stepB_nil] at q
        exact iteT (iteT (q H (Same.refl H)))
      | d0 :: r, xs, hA, lx =>
        obtain ⟨x0, ys, rfl, t0, hY⟩ := hA.cons_of
        refine iteF ⟨_, rfl, true, a, _, 0, x0, rfl, rfl, hx, at0, x0, .ty "str", _, _, _, rfl, .ty "str", t0.ty, kit_ty (kit_str d0), _, rfl, ?_⟩
        cases hs0 : isStr d0 with
        | false =>
          rw [stepB_word hs0] at q
          exact iteT (q H (Same.refl H))
        | true =>
          obtain ⟨wd, rfl⟩ := isStr_eq hs0
          obtain rfl := t0.asStr
          replace q : Res (leadB (recOf c) fs wd r) H Q := q
          refine iteF ?_
          have ll : (V.str wd :: ys).length = r.length + 1 := lx
          refine ⟨aL, lens, rfl, hL_, _, rfl, true, a, _, 0, _, rfl, rfl, hx, at0, wd, rfl, _, rfl, _, _, rfl, .inr ⟨_, hx, rfl⟩, ?_⟩
          rw [look_len]
          cases hln : lenOf wd with
          | none =>
            rw [lead_len (by rw [hln]; exact fun z => by cases z)] at q
            refine ⟨rfl, _, rfl, ?_⟩
            refine (show if (!decide (V.int 0 = V.int ((V.str wd :: ys).length : Nat))) = true then _ else _ from ?_)
            rw [dec_int, ll, decide_eq_false (by omega)]
            exact iteT (q H (Same.refl H))
          | some n =>
            refine ⟨rfl, _, rfl, ?_⟩
            refine (show if (!decide (V.int ((n + 1 : Nat) : Int) = V.int ((V.str wd :: ys).length : Nat))) = true then _ else _ from ?_)
            rw [dec_int, ll]
            by_cases hn : n = r.length
            · rw [decide_eq_true (by omega)]
              refine iteF ?_
              have hr2 : r.length = n := hn.symm
              have okr : ∀ x ∈ r, Ok x := fun x hx => ((Bd.tup hB).2 x (List.mem_cons_of_mem _ hx)).mono (Nat.le_refl _) (by omega)
              subst hn
              rcases lenOf_in hln with rfl | rfl | rfl | rfl | rfl | rfl | rfl | rfl | rfl
              · exact ⟨_, rfl, true, a, _, 0, _, rfl, rfl, hx, at0, aD, _, _, .ref f_rename, rfl, rfl, hD_, by rw [look_lead]; rfl, f_rename, _, rfl, H_rename, _, rfl, _, rfl, sd, fs, .ref a, r, rfl, hF, hT, (Option.some.inj hln).symm, okr, q⟩
              · exact ⟨_, rfl, true, a, _, 0, _, rfl, rfl, hx, at0, aD, _, _, .ref f_copy, rfl, rfl, hD_, by rw [look_lead]; rfl, f_copy, _, rfl, H_copy, _, rfl, _, rfl, sd, fs, .ref a, r, rfl, hF, hT, (Option.some.inj hln).symm, okr, q⟩
              · exact ⟨_, rfl, true, a, _, 0, _, rfl, rfl, hx, at0, aD, _, _, .ref f_drop, rfl, rfl, hD_, by rw [look_lead]; rfl, f_drop, _, rfl, H_drop, _, rfl, _, rfl, sd, fs, .ref a, r, rfl, hF, hT, (Option.some.inj hln).symm, okr, q⟩
              · exact ⟨_, rfl, true, a, _, 0, _, rfl, rfl, hx, at0, aD, _, _, .ref f_put, rfl, rfl, hD_, by rw [look_lead]; rfl, f_put, _, rfl, H_put, _, rfl, _, rfl, sd, fs, .ref a, r, rfl, hF, hT, (Option.some.inj hln).symm, okr, q⟩
              · exact ⟨_, rfl, true, a, _, 0, _, rfl, rfl, hx, at0, aD, _, _, .ref f_scale, rfl, rfl, hD_, by rw [look_lead]; rfl, f_scale, _, rfl, H_scale, _, rfl, _, rfl, sd, fs, .ref a, r, rfl, hF, hT, (Option.some.inj hln).symm, okr, q⟩
              · exact ⟨_, rfl, true, a, _, 0, _, rfl, rfl, hx, at0, aD, _, _, .ref f_sum, rfl, rfl, hD_, by rw [look_lead]; rfl, f_sum, _, rfl, H_sum, _, rfl, _, rfl, sd, fs, .ref a, r, rfl, hF, hT, (Option.some.inj hln).symm, okr, q⟩
              · exact ⟨_, rfl, true, a, _, 0, _, rfl, rfl, hx, at0, aD, _, _, .ref f_join, rfl, rfl, hD_, by rw [look_lead]; rfl, f_join, _, rfl, H_join, _, rfl, _, rfl, sd, fs, .ref a, r, rfl, hF, hT, (Option.some.inj hln).symm, okr, q⟩
              · exact ⟨_, rfl, true, a, _, 0, _, rfl, rfl, hx, at0, aD, _, _, .ref f_table, rfl, rfl, hD_, by rw [look_lead]; rfl, f_table, _, rfl, H_table, _, rfl, _, rfl, sd, fs, .ref a, r, rfl, hF, hT, (Option.some.inj hln).symm, okr, q⟩
              · refine ⟨_, rfl, true, a, _, 0, _, rfl, rfl, hx, at0, aD, _, _, .ref f_case, rfl, rfl, hD_, by rw [look_lead]; rfl, f_case, _, rfl, H_case, _, rfl, _, rfl, ?_⟩
                cases c with
                | zero => exact hB.elim
                | succ c =>
                  refine ⟨sd, fs, .ref a, r, rfl, hF, hT, (Option.some.inj hln).symm, fun x hx => hB.2 x (List.mem_cons_of_mem _ hx), by omega, ?_, q⟩
                  have e : growS (c + 1) (.tuple (.str (Str.ofString "case") :: r)) = 1 + (growB c (.str (Str.ofString "case")) + (r.map (growB c)).sum) := rfl
                  rw [e] at hg
                  omega
            · rw [lead_len (by rw [hln]; exact fun z => hn (Option.some.inj z))] at q
              rw [decide_eq_false (by omega)]
              exact iteT (q H (Same.refl H))
end
end St6

set_option autoImplicit false
set_option maxHeartbeats 4000000
namespace St6
open PySem PySem.Spec PyProof.Rows L2 Tg Cc Nn
def isSeq2 (d : PyData) : Bool := isLst d || isTup d
theorem kit_seq2 {K : PySem.W.Frag} (d : PyData) : PySem.W.kitAny K (.type (tyOf d)) [.type "list", .type "tuple"] = some (isSeq2 d) := by
  refine kitAny_cons (kit_ty (kit_lst d)) (fun h1 => kitAny_cons (kit_ty (kit_tup d)) (fun h2 => ?_) (fun h2 => ?_)) (fun h1 => ?_) <;> unfold isSeq2
  · rw [h1, h2]
    rfl
  · rw [h2, Bool.or_true]
  · rw [h1, Bool.true_or]
theorem steps_not {c : Nat} {fs : Fs} {d : PyData} (h : isSeq2 d = false) : stepsB c fs d = .error 0 := by
  rw [steps_over]
  cases d <;> first | rfl | cases h
theorem go_nil (st : Fs → PyData → Option Fs) (i : Nat) (fs : Fs) : goB st i fs [] = .ok fs := rfl
theorem go_cons (st : Fs → PyData → Option Fs) (i : Nat) (fs : Fs) (d : PyData) (r : List PyData) : goB st i fs (d :: r) = (match st fs d with
  | some gs => goB st (i + 1) gs r
  | none => .error i) := rfl
theorem Fd.gro {H : Hp} {p : Addr} {fs gs : Fs} {n : Nat} (g : Gro fs gs n) (nd : (fs.map Prod.fst).Nodup) (l : fs.length + n ≤ 1000000) (h : H p = some (.dK (kvsOf gs))) : Fd H p gs :=
  ⟨h, (g nd).1, by have := (g nd).2; omega⟩
section
variable {P : Program} {w : World} {K : PySem.W.Frag} {mg : Str → Option Value} {base : Heap} {C fI : Addr} {fdI : FuncData} {c : Nat}
theorem scbsorts : FnScope ["sorts", "steps", "at", "step"] ["sorts", "steps"] (defScope sSortsBehind) := ⟨rfl, rfl, rfl, by decide +kernel, rfl, by decide +kernel, by decide +kernel⟩
theorem ok_bsorts {f : Addr} {fd : FuncData} (F : FnP K "_sorts_behind" sSortsBehind f fd) {f__sorts_behind_step : Addr} {fd__sorts_behind_step : FuncData} (c__sorts_behind_step : Cl P w K mg base CX0 "_sorts_behind_step" (6 + 3 * c + 1) ["sorts", "step"] (spStep K c) f__sorts_behind_step fd__sorts_behind_step) (mb_isinstance : mg "isinstance" = none) (mb_list : mg "list" = none) (mb_tuple : mg "tuple" = none) (mb_enumerate : mg "enumerate" = none)  (T : BadS K mg C fI fdI) : FnOk P w K mg base (L2.CX P w) (7 + 3 * c + 1) f fd ["sorts", "steps"] (spSorts K C c) := by
  refine F.ok scbsorts (fun vs H Q E h => ?_) (fun cdv A outer s H vs Q E hr h => ?_)
  · obtain ⟨sd, fs, v, d, rfl, _⟩ := h
    rfl
  · obtain ⟨sd, fs, v, d, rfl, hF, hT, hB, hc, hg, q⟩ := h
    have hu := hu_of hr
    have hs := szl
    have GI : FnOk P w K mg base CX0 1 fI fdI ["self", "at"] (spInit K C) := ok_init T
    have hr2 : Room 2 _ := hr.mono (by omega)
    refine ⟨_, pss_cons (ps_if (pt_not (pt_val (pe_callB call_isiT (by rfl) mb_isinstance (by decide +kernel) (pa_cons (pv 1) (pa_cons (pe_tup (pa_cons (pe_bltn (v := .ty "list") (by rfl) mb_list (by decide +kernel) rfl) ( pa_cons (pe_bltn (v := .ty "tuple") (by rfl) mb_tuple (by decide +kernel) rfl) (pa_nil)))) pa_nil))))) (pss_one (ps_raise rfl (takes_of rfl rfl rfl rfl) (pmk_oex T.ox T.iC T.tI GI hr2 (bindI T) .nil pass0 (by rfl) T.g (pa_cons (pe_int) pa_nil)))) (pss_nil))
      (pss_cons (ps_for PassesOwn.leaving rfl (En.pi_enumA (by rfl) mb_enumerate (pa_cons (pv 1) pa_nil)) (pg_tup rfl (pgs_cons (pg_name (i := 2) scbsorts.nd rfl (Or.inl rfl)) (pgs_cons (pg_name (i := 3) scbsorts.nd rfl (Or.inl rfl)) (pgs_nil)))) (pss_cons (ps_set (i := 0) scbsorts.nd rfl (Or.inl rfl) (pe_call c__sorts_behind_step.ok (hr.mono (by omega)) (by rfl) c__sorts_behind_step.m c__sorts_behind_step.kp c__sorts_behind_step.b .nil pass0 (pa_cons (pv 0) (pa_cons (pv 3) pa_nil))))
      (pss_one (ps_if (pt_cmpR op_isN (pv 0) (pe_non) (nomark _)) (pss_one (ps_raise rfl (takes_of rfl rfl rfl rfl) (pmk_oex T.ox T.iC T.tI GI hr2 (bindI T) .nil pass0 (by rfl) T.g (pa_cons (pv 2) pa_nil)))) (pss_nil)))))
      (pss_one (ps_ret (pv 0)))), ?_⟩
    refine ⟨_, rfl, (by show 2 ≤ sizeLine; decide), fun tp nt => ⟨v, tp, _, _, _, _, rfl, upd_same, .cons (.ty _) (.cons (.ty _) .nil), (hT.kept (kept_same (newS nt))).ty, kit_seq2 _, _, rfl, ?_⟩⟩
    have s1 := newS (o := .tup [.ty "list", .ty "tuple"]) nt
    have hT1 := hT.kept (kept_same s1)
    generalize upd H tp (.tup [.ty "list", .ty "tuple"]) = H1 at s1 hT1 ⊢
    clear hT
    cases hs2 : isSeq2 d with
    | false =>
      rw [steps_not hs2] at q
      exact iteT (out_of (Out.later q s1))
    | true =>
      rw [grow_sum] at hg
      rw [steps_over] at q
      cases d with
      | list ds =>
        obtain ⟨a, xs, rfl, hx, hA⟩ := hT1.asLst
        have lx := hA.len
        replace q : SRes C (goB (stepB (recOf c)) 0 fs ds) H Q E := q
        replace hg : fs.length + (ds.map (growS c)).sum ≤ 1000000 := hg
        have fin : SRes C (goB (stepB (recOf c)) 0 fs ds) H1 Q E := by
          cases hgo : goB (stepB (recOf c)) 0 fs ds with
          | ok gs =>
            rw [hgo] at q
            exact fun H' p s2 e => q H' p (s1.trans s2) e
          | error n =>
            rw [hgo] at q
            exact Out.later q s1
        refine iteF ⟨_, rfl, a, xs, rfl, .inl ⟨hx, for_it (walk_enum (K := K) (a := a) (xs := xs)) (fun i σ' H' => (∃ sdi fsi x2 x3, σ' = [some (.ref sdi), some (.ref a), x2, x3] ∧ Fd H' sdi fsi ∧ goB (stepB (recOf c)) i fsi (ds.drop i) = goB (stepB (recOf c)) 0 fs ds ∧ fsi.length + ((ds.drop i).map (growS c)).sum ≤ 1000000) ∧ Same H1 H')
          ⟨⟨sd, fs, _, _, rfl, hF.same s1, rfl, hg⟩, Same.refl H1⟩ (fun i σ' H' _ ⟨_, s2⟩ => Sq.same (t := false) hx s2) ?_ ?_⟩⟩
        · rintro i x σ' H2 H3 hi ⟨⟨sdi, fsi, y2, y3, rfl, hFi, hgo, hlen⟩, s2⟩ ⟨T2, x0, x1, rfl, nT, rfl, ex, ey⟩
          obtain ⟨d, hd, td, md⟩ := ThAll.get2 hA ey
          obtain rfl : V.int (i : Nat) = x0 := Option.some.inj ex
          have hdr : ds.drop i = d :: ds.drop (i + 1) := by
            obtain ⟨hlt, e⟩ := List.getElem?_eq_some_iff.mp hd
            rw [List.drop_eq_getElem_cons hlt, e]
          rw [hdr, List.map_cons, List.sum_cons] at hlen
          rw [hdr, go_cons] at hgo
          have sT := newS (o := .tup [V.int (i : Nat), x1]) nT
          have s3 := s2.trans sT
          refine ⟨T2, _, rfl, SqT.of upd_same, rfl, _, _, rfl, _, _, rfl, rfl, ?_⟩
          refine ⟨_, rfl, _, rfl, sdi, fsi, x1, d, rfl, hFi.same sT, td.kept (kept_same s3), hB.2 d md, hc, by omega, ?_⟩
          cases hst : stepB (recOf c) fsi d with
          | none =>
            rw [hst] at hgo
            rw [← hgo] at fin
            exact fun H4 s4 => ⟨_, rfl, rfl, _, rfl, iteT ⟨_, rfl, out_of (Out.later fin (s3.trans s4))⟩⟩
          | some gs =>
            rw [hst] at hgo
            have gr := stepS_gro c hst
            exact fun H4 q4 s4 e4 => ⟨_, rfl, rfl, _, rfl, iteF ⟨⟨q4, gs, _, _, rfl, Fd.gro gr hFi.nd (by omega) e4, hgo, by have := (gr hFi.nd).2; omega⟩, s3.trans s4⟩⟩
        · rintro σ' H2 ⟨⟨sdi, fsi, y2, y3, rfl, hFi, hgo, hlen⟩, s2⟩
          rw [lx, List.drop_length, go_nil] at hgo
          rw [← hgo] at fin
          exact ⟨_, rfl, fin H2 sdi s2 hFi.at_⟩
    
      | tuple ds =>
        obtain ⟨a, xs, rfl, hx, hA⟩ := hT1.asTup
        have lx := hA.len
        replace q : SRes C (goB (stepB (recOf c)) 0 fs ds) H Q E := q
        replace hg : fs.length + (ds.map (growS c)).sum ≤ 1000000 := hg
        have fin : SRes C (goB (stepB (recOf c)) 0 fs ds) H1 Q E := by
          cases hgo : goB (stepB (recOf c)) 0 fs ds with
          | ok gs =>
            rw [hgo] at q
            exact fun H' p s2 e => q H' p (s1.trans s2) e
          | error n =>
            rw [hgo] at q
            exact Out.later q s1
        refine iteF ⟨_, rfl, a, xs, rfl, .inr ⟨hx, for_it (En.walk_enumT (K := K) (a := a) (xs := xs)) (fun i σ' H' => (∃ sdi fsi x2 x3, σ' = [some (.ref sdi), some (.ref a), x2, x3] ∧ Fd H' sdi fsi ∧ goB (stepB (recOf c)) i fsi (ds.drop i) = goB (stepB (recOf c)) 0 fs ds ∧ fsi.length + ((ds.drop i).map (growS c)).sum ≤ 1000000) ∧ Same H1 H')
          ⟨⟨sd, fs, _, _, rfl, hF.same s1, rfl, hg⟩, Same.refl H1⟩ (fun i σ' H' _ ⟨_, s2⟩ => Sq.same (t := true) hx s2) ?_ ?_⟩⟩
        · rintro i x σ' H2 H3 hi ⟨⟨sdi, fsi, y2, y3, rfl, hFi, hgo, hlen⟩, s2⟩ ⟨T2, x0, x1, rfl, nT, rfl, ex, ey⟩
          obtain ⟨d, hd, td, md⟩ := ThAll.get2 hA ey
          obtain rfl : V.int (i : Nat) = x0 := Option.some.inj ex
          have hdr : ds.drop i = d :: ds.drop (i + 1) := by
            obtain ⟨hlt, e⟩ := List.getElem?_eq_some_iff.mp hd
            rw [List.drop_eq_getElem_cons hlt, e]
          rw [hdr, List.map_cons, List.sum_cons] at hlen
          rw [hdr, go_cons] at hgo
          have sT := newS (o := .tup [V.int (i : Nat), x1]) nT
          have s3 := s2.trans sT
          refine ⟨T2, _, rfl, SqT.of upd_same, rfl, _, _, rfl, _, _, rfl, rfl, ?_⟩
          refine ⟨_, rfl, _, rfl, sdi, fsi, x1, d, rfl, hFi.same sT, td.kept (kept_same s3), hB.2 d md, hc, by omega, ?_⟩
          cases hst : stepB (recOf c) fsi d with
          | none =>
            rw [hst] at hgo
            rw [← hgo] at fin
            exact fun H4 s4 => ⟨_, rfl, rfl, _, rfl, iteT ⟨_, rfl, out_of (Out.later fin (s3.trans s4))⟩⟩
          | some gs =>
            rw [hst] at hgo
            have gr := stepS_gro c hst
            exact fun H4 q4 s4 e4 => ⟨_, rfl, rfl, _, rfl, iteF ⟨⟨q4, gs, _, _, rfl, Fd.gro gr hFi.nd (by omega) e4, hgo, by have := (gr hFi.nd).2; omega⟩, s3.trans s4⟩⟩
        · rintro σ' H2 ⟨⟨sdi, fsi, y2, y3, rfl, hFi, hgo, hlen⟩, s2⟩
          rw [lx, List.drop_length, go_nil] at hgo
          rw [← hgo] at fin
          exact ⟨_, rfl, fin H2 sdi s2 hFi.at_⟩
    
      | _ => cases hs2
end
end St6

set_option maxHeartbeats 2000000
/-! dict(pairs) of a tuple of pairs -/
namespace Nn
open PySem PySem.Spec PyProof.Rows L2
theorem tuple_keys_none : typeLookup (.type "tuple") "keys" = pure none := am_miss_of_fast (by first | decide +kernel | rfl)
section
variable {prog : Program} {w : World} {A : Around} {E : Value → Shared → Prop}
/-- a list has no attribute 'keys': an AttributeError is made, and forgotten -/
theorem miss_tuple {s : Shared} {a : Addr} {o : Obj} {xs : Array Value} {k : Nat} {Q : Option Value → Shared → Prop} (hx : s.heap.get? a = some o) (hc : o.cls = .type "tuple") (hdat : o.data = .seq xs k) (hd : o.dict = none) (hA : A.handled = none)
    (h : ∀ h' tk, (∀ b ob, s.heap.get? b = some ob → h'.get? b = some ob) → Q none { s with heap := h', toks := tk }) : wpAny (model prog w) A (getAttr? (.ref a) "keys") Q E s := by
  obtain ⟨c, dct, dat, sl⟩ := o
  simp only at hc hdat hd
  subst hc hdat hd
  obtain ⟨hp, g, d, tk, os⟩ := s
  have hT : ∀ tk', (⟨hp, g, d, tk', os⟩ : Shared).TypeIs (.ref a) "tuple" := fun _ => ⟨_, hx, rfl⟩
  have hmiss := tuple_keys_none
  have hname : (["__module__", "__name__", "__qualname__", "__doc__", "__annotations__"] : List Str).contains "keys" = false := by decide +kernel
  have hsz : ("keys" : Str).length + 100 ≤ sizeLine := by first | size_fits | decide +kernel
  have f1 := sub_AttributeError
  have f3 := PySem.F.slot_tuple_getattribute.lookup
  have f4 := PySem.F.slot_tuple_getattribute.bind (.ref a)
  have f5 := am_tuple_getattr_none
  unfold getAttr? getAttrBy? getAttrBy
  repeat (any_goals (first | assumption | exact hT _ | ((with_reducible show wpAny _ _ (call (Value.builtin "tuple.__getattribute__") _ _) _ _ _); refine call_meets PySem.F.slot_tuple_getattribute (hT _) am_entry_tuple_getattribute (PySem.F.args_tuple_getattribute_2 _ _) (meets_getattribute_miss_tuple a xs k sl "keys" _ hmiss hname hsz) ⟨hx, hA, fun h' tk' e hx' => ?_⟩) | wp_step))
  obtain ⟨t', u', he⟩ := hx'.there
  show wpAny _ _ (getattributeRaised _ _ _ _ _ _ _) _ _ _
  unfold getattributeRaised
  repeat (any_goals (first | assumption | wp_step))
  all_goals first | exact h _ _ hx'.keeps | (dsimp only; repeat (any_goals (first | assumption | exact h _ _ hx'.keeps | wp_step)))

/-- the walk over the pairs -/
theorem upd_loopT {R : Result → Shared → Prop} {S I l : Addr} {items : Array Value} {res : Value} (hh : A.handled = none) (hlI : l ≠ I) (hSI : S ≠ I) (hSl : S ≠ l) :
    ∀ (rest : List (Key × Value)) (i : Nat) (acc : List (Key × Value)) (ix : Int) (t : Tok) (s : Shared), items.size = i + rest.length → acc.length + rest.length ≤ sizeLine →
      (∀ (j : Nat) (q : Key × Value), rest[j]? = some q → ∃ (b : Addr) (u : Value), items[i + j]? = some (.ref b) ∧ b ≠ S ∧ b ≠ I ∧ IsTup s.heap b #[u, q.2] ∧ keyIs q.1 u = true) →
      s.heap.IsTupleIter I l i → s.heap.IsTuple l items → s.heap.DictOf (mixKind prog w) S acc →
      (∀ h' tk, h'.DictOf (mixKind prog w) S (merged acc rest) → (∀ b o, b ≠ S → b ≠ I → s.heap.get? b = some o → h'.get? b = some o) → R (.ok (.ret res)) { s with heap := h', toks := tk }) →
      codeAny (model prog w) A (.builtin "dict.update.loop" ⟨[.ref S, .ref I, .int ix t, res], []⟩) R s
  | [], i, acc, ix, t, s, hsz, hln, ht, hit, hl, hm, hR => by
    refine codeAny_builtin ud_entry ?_
    rw [Around.under_plainId ud_plain _]
    show wpAny _ A.in1 (pyNext (.ref I) >>= _) _ _ s
    refine wpAny_bind (wpAny_pyNext_tuple_end (A := A.in1) hh hit hl (by first | exact Array.getElem?_eq_none (Nat.le_of_eq hsz) | (simp at hsz; simp; omega)) fun h' he => ?_)
    show wpAny _ A.in1 (Builtin.Dict.addKeywords S [] >>= _) _ _ _
    refine wpAny_bind (wpAny_pure (wpAny_pure ?_))
    exact hR h' s.toks (hm.extBut he hSI) fun b o _ hb e => he b o hb e
  | q :: rest, i, acc, ix, t, s, hsz, hln, ht, hit, hl, hm, hR => by
    obtain ⟨b, u, hb, hbS, hbI, htup, hk⟩ := ht 0 q rfl
    rw [List.length_cons] at hsz hln
    refine codeAny_builtin ud_entry ?_
    rw [Around.under_plainId ud_plain _]
    show wpAny _ A.in1 (pyNext (.ref I) >>= _) _ _ s
    refine wpAny_bind (wpAny_pyNext_tuple_item (x := .ref b) hit hl (by simpa using hb) fun h1 hit1 hs1 => ?_)
    have ht1 : IsTup h1 b #[u, q.2] := htup.extBut hs1.extBut hbI
    have hl1 : h1.IsTuple l items := hl.extBut hs1.extBut hlI
    have hm1 : h1.DictOf (mixKind prog w) S acc := hm.extBut hs1.extBut hSI
    obtain ⟨o, ho, hc, n, hd⟩ := id ht1
    show wpAny _ A.in1 (holding [Value.ref b] _ >>= _) _ _ _
    refine wpAny_bind (wpAny_holding ?_)
    refine wpAny_bind (wpAny_tryCatch ?_)
    unfold Builtin.Dict.pairItems
    refine wpAny_bind (wpAny_typeOf (T := "tuple") ⟨o, ho, hc⟩ ?_)
    rw [if_pos (by first | decide | rfl | simp)]
    refine wpAny_bind (wpAny_seqItems ho hd (wpAny_pure ?_))
    show wpAny _ A.in1 (holding [u, q.2] (dictSet S u q.2)) _ _ _
    refine wpAny_holding (wpAny_dictSet_pairs (knd := mixKind prog w) (k := q.1) hk hm1 (fun h2 hm2 hs2 => ?_) (by omega))
    refine wpAny_pure ⟨plainId_quiet ud_plain _, upd_loopT (items := items) hh hlI hSI hSl rest (i + 1) (stored acc q.1 q.2) (ix + 1) 0 _ (show items.size = i + 1 + rest.length by omega) ?_ (fun j q' e => ?_) ?_ ?_ hm2 fun h' tk hd' k => ?_⟩
    · have z := stored_length_le acc q.1 q.2
      omega
    · obtain ⟨b', u', hb', hbS', hbI', htup', hk'⟩ := ht (j + 1) q' (by simpa using e)
      refine ⟨b', u', ?_, hbS', hbI', (htup'.extBut hs1.extBut hbI').extBut hs2.extBut hbS', hk'⟩
      rw [show i + 1 + j = i + (j + 1) by omega]
      exact hb'
    · exact hit1.at fun o' e => hs2.extBut I o' (Ne.symm hSI) e
    · exact hl1.extBut hs2.extBut (Ne.symm hSl)
    · exact hR h' tk hd' fun c oc h3 h4 e => k c oc h3 h4 (hs2.extBut c oc h3 (hs1.extBut c oc h4 e))

/-- dict(l) of a list of pairs -/
theorem call_dict_pairsT {s : Shared} {l : Addr} {ol : Obj} {items : Array Value} {n : Nat} {prs : List (Key × Value)} {Q : Value → Shared → Prop} (hh : A.handled = none) (hl : s.heap.get? l = some ol) (hc : ol.cls = .type "tuple") (hd : ol.dict = none)
    (hdat : ol.data = .seq items n) (hsz : items.size = prs.length) (hln : prs.length ≤ sizeLine)
    (ht : ∀ (j : Nat) (q : Key × Value), prs[j]? = some q → ∃ (b : Addr) (u : Value), items[j]? = some (.ref b) ∧ IsTup s.heap b #[u, q.2] ∧ keyIs q.1 u = true)
    (h : ∀ h' tk, h'.DictOf (mixKind prog w) s.heap.objs.size (merged [] prs) → (∀ b o, s.heap.get? b = some o → h'.get? b = some o) → Q (.ref s.heap.objs.size) { s with heap := h', toks := tk }) :
    wpAny (model prog w) A (call (.type "dict") [.ref l]) Q E s := by
  refine callType_codes (Q₁ := fun obj s₁ => obj = .ref s.heap.objs.size ∧ s₁ = { s with heap := s.heap.push { cls := .type "dict", data := .dict #[] } }) PySem.F.kt_called_dict (PySem.F.kt_typeCall_dict_1 _) PySem.F.entry_dict_init (kt_code_dict_new _ ⟨rfl, rfl⟩) ?_
  rintro obj s₁ ⟨rfl, rfl⟩
  have hnew : (s.heap.push { cls := .type "dict", data := .dict #[] }).DictOf (mixKind prog w) s.heap.objs.size [] := Heap.DictOf.new s.heap
  have k0 : ∀ b o, s.heap.get? b = some o → (s.heap.push { cls := .type "dict", data := .dict #[] }).get? b = some o := fun b o e => Heap.get?_push_of_some _ e
  refine ⟨hnew.typeIs, PySem.F.args_dict_init_2 _ _, ?_⟩
  unfold Builtin.«dict.__init__»
  refine wpAny_bind ?_
  unfold Builtin.Dict.selfAndRest
  refine wpAny_bind (wpAny_notOrdered_dict hnew.typeIs ?_)
  show wpAny _ _ (pure (s.heap.objs.size, [Value.ref l])) _ _ _
  refine wpAny_pure ?_
  show wpAny _ _ (Builtin.Dict.updateFrom "dict.__init__" s.heap.objs.size (.ref l) [] .none) _ _ _
  unfold Builtin.Dict.updateFrom
  refine wpAny_bind (wpAny_typeOf (T := "tuple") ⟨ol, k0 _ _ hl, hc⟩ ?_)
  rw [if_pos (by first | decide | rfl | simp)]
  refine wpAny_bind (miss_tuple (k0 _ _ hl) hc hdat hd hh fun h1 tk1 hk1 => ?_)
  rw [if_pos (show (none : Option Value).isNone = true from rfl)]
  refine wpAny_bind (wpAny_rule ?_)
  have hl1 : h1.IsTuple l items := ⟨ol, hk1 _ _ (k0 _ _ hl), hc, n, hdat⟩
  have hS1 : s.heap.objs.size < h1.objs.size := by
    have e : (s.heap.push { cls := .type "dict", data := .dict #[] }).get? s.heap.objs.size = some { cls := .type "dict", data := .dict #[] } := Heap.get?_push_size _ rfl
    exact Heap.lt_size (hk1 _ _ e)
  refine wpAny_bind (wpAny_pyIter_tuple hl1 ?_)
  have k2 : ∀ b o, h1.get? b = some o → (h1.push { cls := .type "tuple_iterator", data := .fields #[.ref l, .int 0 0] }).get? b = some o := fun b o e => Heap.get?_push_of_some _ e
  have hlt : l < s.heap.objs.size := Heap.lt_size hl
  have key := upd_loopT (prog := prog) (w := w) (A := A.in1) (R := wants (fun r s₂ => r = .none ∧ Q (.ref s.heap.objs.size) s₂) E) (S := s.heap.objs.size) (I := h1.objs.size) (l := l) (items := items) (res := Value.none) hh
    (Nat.ne_of_lt (Nat.lt_trans hlt hS1)) (Nat.ne_of_lt hS1) (Nat.ne_of_gt hlt) prs 0 [] 0 0
    { s with heap := h1.push { cls := .type "tuple_iterator", data := .fields #[.ref l, .int 0 0] }, toks := tk1 } (by rw [hsz, Nat.zero_add]) (by rw [List.length_nil, Nat.zero_add]; exact hln)
    (fun j q e => by
      obtain ⟨b, u, e1, e2, e3⟩ := ht j q e
      have hb : b < s.heap.objs.size := e2.lt
      exact ⟨b, u, by rw [Nat.zero_add]; exact e1, Nat.ne_of_lt hb, Nat.ne_of_lt (Nat.lt_trans hb hS1), e2.keeps fun c o z => k2 _ _ (hk1 _ _ (k0 _ _ z)), e3⟩)
    ⟨_, Heap.get?_push_size _ rfl, rfl, rfl⟩ (hl1.at fun o e => k2 _ _ e) ((hnew.at fun o e => hk1 _ _ e).at fun o e => k2 _ _ e)
    (fun h' tk hd' k => ⟨rfl, h h' tk hd' fun b o e => k b o (Nat.ne_of_lt (Heap.lt_size e)) (Nat.ne_of_lt (Nat.lt_trans (Heap.lt_size e) hS1)) (k2 _ _ (hk1 _ _ (k0 _ _ e)))⟩)
  first
    | exact wpAny_pure ⟨plainId_quiet ud_plain _, key⟩
    | exact wpAny_bind (wpAny_pure (wpAny_pure ⟨plainId_quiet ud_plain _, key⟩))
end

/-- the tuple at a stands as an object without a dict of its own -/
def Tz (H : Hp) (a : Addr) (xs : List V) : Prop := ∃ o : Obj, o.dict = none ∧ H a = some (.frz o (.tup xs))
theorem Tz.sq {K : PySem.W.Frag} {H : Hp} {a : Addr} {xs : List V} (h : Tz H a xs) : SqT K H a xs := let ⟨o, _, e⟩ := h; .inl (.inr ⟨o, e⟩)
theorem Tz.same {H H1 : Hp} {a : Addr} {xs : List V} (h : Tz H a xs) (s : Same H H1) : Tz H1 a xs := let ⟨o, d, e⟩ := h; ⟨o, d, s _ _ e⟩
section
variable {X : Cx}
/-- dict(xs) of such a tuple of pairs -/
theorem call_dictT (hcalm : X.calm = true) : CallR X (.type "dict") (fun xs H Q => ∃ (a : Addr) (ps : List Addr) (kvs : List (Key × V)), xs = [.ref a] ∧ Tz H a (ps.map V.ref) ∧ Paired (fun p kv => SqT X.K H p [kV kv.1, kv.2]) ps kvs ∧
    ∀ p, H p = none → Q (.ref p) (upd H p (.dK (mergeK [] kvs)))) := by
  intro pins s σ H xs us Q I r q
  obtain ⟨a, ps, kvs, ex, hq, hp, q⟩ := q
  subst ex
  obtain ⟨u, eu, rx⟩ := vals1 r
  subst eu
  cases rx
  obtain ⟨oz, dz, ez⟩ := hq
  obtain ⟨gz, hz, its, rv, ⟨o, ho, hc, n, hdat⟩⟩ := (show ObjOk X.prog X.w H s.heap a (.frz oz (.tup (ps.map V.ref))) from I.hok a _ ez)
  have eo : oz = o := Option.some.inj (gz.symm.trans ho)
  subst eo
  have ei := refs_at rv
  subst ei
  rw [List.length_map] at hz
  obtain ⟨prs, rel, hl, hpr⟩ := pairs_of I hp
  refine call_dict_pairsT (prs := prs) (I.ok.hd hcalm) ho hc dz hdat (by simp [hl]) (by rw [hl]; exact hz) (fun j q' e => ?_) fun h' tk hd' k => ?_
  · obtain ⟨b, u, e1, e2, e3⟩ := hpr j q' e
    exact ⟨b, u, by simp [e1], e2, e3⟩
  · have hm : (s.heap.objs.size == sysModules) = false := beq_eq_false_iff_ne.mpr (Nat.ne_of_gt I.big)
    have hlen : (mergeK [] kvs).length ≤ sizeLine := by
      refine Nat.le_trans (length_mergeK kvs []) ?_
      rw [List.length_nil, Nat.zero_add, rel.length, hl]
      exact hz
    exact ⟨.ref s.heap.objs.size, upd H s.heap.objs.size (.dK (mergeK [] kvs)), I.laid (t' := tk) k (Nat.le_refl _) (show ObjOk X.prog X.w _ _ _ (.dK (mergeK [] kvs)) from ⟨hlen, hm, merged [] prs, KV.merge rel .nil, hd'⟩), rfl, q _ (I.hok.fresh (Nat.le_refl _))⟩
end
end Nn

set_option autoImplicit false
set_option maxHeartbeats 2000000
/-! tuples that are told to bear no dict of their own: made by tuple(list), by t + u, by a display -/
namespace Nn
open PySem PySem.Spec PyProof.Rows L2
theorem tz_new {P : Program} {w : World} {H H' : Hp} {h : Heap} {a : Addr} {xs : List V} {its : List Value} (hz : xs.length ≤ sizeLine) (r : Vals xs its) (e : h.get? a = some { cls := .type "tuple", data := .seq its.toArray }) :
    ObjOk P w H h a (.frz { cls := .type "tuple", data := .seq its.toArray } (.tup xs)) := ⟨e, hz, its, r, ⟨_, e, rfl, _, rfl⟩⟩
section
variable {X : Cx}
/-- tuple(list): a new tuple -/
theorem call_tuple_ofZ : CallR X (.type "tuple") (fun xs H Q => ∃ p ys, xs = [.ref p] ∧ SqL X.K H p ys ∧ ∀ l H', Same H H' → H l = none → Tz H' l ys → Q (.ref l) H') := by
  intro pins s σ H xs us Q I r h
  obtain ⟨p, ys, rfl, hq, q⟩ := h
  obtain ⟨u, rfl, rx⟩ := vals1 r
  cases rx
  obtain ⟨its, r', pl, hz⟩ := I.list hq
  have hlen := r'.length
  refine call_tuple_list pl.isList (fun h' kp => ?_) (by simp only [List.size_toArray] <;> omega)
  have I1 : Inv X pins σ H { s with heap := h' } := I.kept (t' := s.toks) kp
  have I2 : Inv X pins σ (upd H h'.objs.size (.frz { cls := .type "tuple", data := .seq its.toArray } (.tup ys))) { s with heap := h'.push { cls := .type "tuple", data := .seq its.toArray } } :=
    I1.laid (t' := s.toks) (fun b o e => Heap.get?_push_of_some _ e) (Nat.le_refl _) (tz_new (H' := H) hz r' (Heap.get?_push_size _ rfl))
  have hn := I1.hok.fresh (Nat.le_refl h'.objs.size)
  exact ⟨.ref h'.objs.size, _, I2, rfl, q _ _ (fun b o e => by rw [upd_ne (ne_of_none e hn)]; exact e) hn ⟨_, rfl, upd_same⟩⟩
/-- t + u, neither of them empty -/
def rCatZ (K : PySem.W.Frag) : R2 := fun x y H Q => ∃ a b xs ys, x = .ref a ∧ y = .ref b ∧ SqT K H a xs ∧ SqT K H b ys ∧ xs ≠ [] ∧ ys ≠ [] ∧ xs.length + ys.length ≤ sizeLine ∧ ∀ p H', Same H H' → H p = none → Tz H' p (xs ++ ys) → Q (.ref p) H'
theorem op_catZ : OpR X (binaryOp .Add) (rCatZ X.K) := by
  intro pins s σ H x y v u Q I rx ry h
  obtain ⟨a, b, xs, ys, rfl, rfl, ha, hb, hx, hy, hz, q⟩ := h
  cases rx
  cases ry
  obtain ⟨its, r1, p1, _⟩ := I.tuple ha
  obtain ⟨its2, r2, p2, _⟩ := I.tuple hb
  refine HT.cat_tup p1 p2 (fun z => hx (r1.nil_iff.mp z)) (fun z => (hy (r2.nil_iff.mp z)).elim) (fun z => ?_) (by rw [← r1.length, ← r2.length]; exact hz)
  have hn := I.hok.fresh (Nat.le_refl s.heap.objs.size)
  refine ⟨.ref s.heap.objs.size, _, I.laid (t' := s.toks) (o := .frz { cls := .type "tuple", data := .seq (its ++ its2).toArray } (.tup (xs ++ ys))) (fun b ob q => Heap.get?_push_of_some _ q) (Nat.le_refl _) ?_, rfl, q _ _ (fun b o e => by rw [upd_ne (ne_of_none e hn)]; exact e) hn ⟨_, rfl, upd_same⟩⟩
  exact tz_new (H' := H) (by rw [List.length_append]; exact hz) (r1.append r2) (Heap.get?_push_size _ rfl)
/-- t + u, u not empty and without a dict of its own: where t is empty it is u -/
def rCatY (K : PySem.W.Frag) : R2 := fun x y H Q => ∃ a b xs ys, x = .ref a ∧ y = .ref b ∧ SqT K H a xs ∧ Tz H b ys ∧ ys ≠ [] ∧ xs.length + ys.length ≤ sizeLine ∧ ∀ p H', Same H H' → Tz H' p (xs ++ ys) → Q (.ref p) H'
theorem op_catY : OpR X (binaryOp .Add) (rCatY X.K) := by
  intro pins s σ H x y v u Q I rx ry h
  obtain ⟨a, b, xs, ys, rfl, rfl, ha, hb, hy, hz, q⟩ := h
  by_cases hx : xs = []
  · subst hx
    exact op_catA pins s σ H _ _ v u Q I rx ry ⟨a, b, [], ys, rfl, rfl, ha, hb.sq, hz, fun _ => q b H (Same.refl H) hb, fun z => absurd rfl z, fun z => absurd rfl z⟩
  · exact op_catZ pins s σ H _ _ v u Q I rx ry ⟨a, b, xs, ys, rfl, rfl, ha, hb.sq, hx, hy, hz, fun p H' s2 _ e => q p H' s2 e⟩
def tTupZ (t : TA) : TE := fun σ H Q => t σ H fun xs H1 => xs.length ≤ sizeLine ∧ ∀ p H', Same H1 H' → H1 p = none → Tz H' p xs → Q (.ref p) H'
theorem pe_tupZ {es : List Expr} {x1 : Nat} {pos : Pos} {t : TA} (h : PA X es t) : PE X (.Tuple es x1 pos) (tTupZ t) := by
  refine ⟨fun pins s σ H Q I hq => ?_⟩
  refine wpAny_Tuple_spliced (thn (h.run pos pins s σ H _ I hq) fun us s1 ⟨xs, H1, I1, r, z, q⟩ => ⟨by rw [← r.length]; exact z, ?_⟩)
  have hf : H1 s1.heap.objs.size = none := I1.hok.fresh (Nat.le_refl _)
  refine ⟨.ref s1.heap.objs.size, upd H1 s1.heap.objs.size (.frz { cls := .type "tuple", data := .seq us.toArray } (.tup xs)), I1.laid (t' := s1.toks) (fun b u e => Heap.get?_push_of_some _ e) (Nat.le_refl _) ?_, rfl, q _ _ (fun b o e => by rw [upd_ne (ne_of_none e hf)]; exact e) hf ⟨_, rfl, upd_same⟩⟩
  exact tz_new (H' := H1) z r (Heap.get?_push_size _ rfl)
end
end Nn

set_option autoImplicit false
set_option maxHeartbeats 2000000
/-! tuple(d.items()), told to bear no dict of its own -/
namespace Nn
open PySem PySem.Spec PyProof.Rows L2 LiI
def rTupItemsZ : V → Hp → VK → Prop := fun x H Q => ∃ (d : Addr) (kvs : List (Key × V)), x = .ref d ∧ H d = some (.dK kvs) ∧
  ∀ (H' : Hp) (p : Addr) (ts : List Addr), (∀ b o, H b = some o → H' b = some o) → H p = none → Tz H' p (ts.map V.ref) → Paired (fun (t : Addr) (q : Key × V) => H' t = some (.tup [kV q.1, q.2])) ts kvs → Q (.ref p) H'
def tTupItemsZ (te : TE) : TE := fun σ H Q => te σ H fun x H1 => rTupItemsZ x H1 Q
section
variable {X : Cx} {e : Expr} {te : TE} {p apos cpos pos : Pos}
/-- tuple(e.items()) -/
theorem pe_tupItemsZ (hc : X.calm = true) (he : PE X e te) (hg : Gl X "tuple") (hm : X.mg "tuple" = none) (hv : bootBuiltins "tuple" = some (.type "tuple")) (hbase : attributeBase e "items" X.env (eval e X.env) = eval e X.env := by rfl) (hline : (apos.endLine == cpos.line) = true := by rfl)
    (hs : starEach [.Call (.Attribute e "items" apos) [] [] cpos] X.env = (false, eval (.Call (.Attribute e "items" apos) [] [] cpos) X.env) :: starEach [] X.env := by rfl) :
    PE X (.Call (.Name "tuple" p) [.Call (.Attribute e "items" apos) [] [] cpos] [] pos) (tTupItemsZ te) := by
  refine ⟨fun pins s σ H Q I hq => ?_⟩
  refine wpAny_Call_Name_kw (ld_blt I hg hm hv ?_)
  refine PyProof.Rows.callWith_type1 ?_ hs rfl
  rw [hs]
  show wpAny _ _ (spliced ((false, eval (.Call (.Attribute e "items" apos) [] [] cpos) X.env) :: backTo pos (starEach [] X.env))) _ _ s
  refine Calls.spliced_cons ?_
  refine wpAny_Call_method (T := "dict") (id := "dict.items") hbase rfl hline F.plainAttrs_dict F.slot_dict_items F.type_dict_items (thn (he.run pins s σ H _ I hq) fun u s1 ⟨x, H1, I1, rx, d, kvs, ex, hd, q⟩ => ?_)
  subst ex
  obtain rfl : u = Value.ref d := rx
  obtain ⟨hz, hs0, vs, kv, hdo⟩ := I1.hok d _ hd
  obtain ⟨ep, hat⟩ := hdo.dictAt
  have lk : kvs.length = vs.length := Paired.length kv
  have I2 : Inv X pins σ H1 { s1 with heap := s1.heap.push { cls := .type "dict_items", data := .fields #[.ref d] } } := I1.kept (t' := s1.toks) fun b ob q => Heap.get?_push_of_some _ q
  refine ⟨hdo.typeIs, hdo.mapOf.noDict, ?_⟩
  show wpAny _ _ (callWith cpos (.builtin "dict.items") [.ref d] [] []) _ X.xe s1
  refine method_meetsIn F.slot_dict_items F.entry_dict_items rfl (PySem.evalArgs_none ⟨rfl, hdo.typeIs, F.args_dict_items_1 _, _, meets_dict_items (mixKind X.prog X.w) d hs0, ⟨vs, hdo⟩, ?_⟩)
  refine Calls.spliced_nil ?_
  refine PySem.call_tuple_items (knd := mixKind X.prog X.w) (kvs := vs) (ep := ep) (I1.ok.hd hc) ⟨_, Heap.get?_push_size _ rfl, rfl, rfl⟩ (hat.push _) (by omega) fun h' tk as hk hl hG => ?_
  obtain ⟨H', k1, k2, J⟩ := tups_laid (tk := tk) I2 kv hk hl hG
  have n1 := J.hok.fresh (Nat.le_refl h'.objs.size)
  have n0 : H1 h'.objs.size = none := by
    cases e0 : H1 h'.objs.size with
    | none => rfl
    | some o =>
      rw [k1 _ _ e0] at n1
      cases n1
  have vr : Vals (as.map V.ref) (as.map Value.ref) := LiI.vals_refs as
  have J2 := J.laid (a := h'.objs.size) (o := .frz { cls := .type "tuple", data := .seq (as.map Value.ref).toArray } (.tup (as.map V.ref))) (h' := h'.push { cls := .type "tuple", data := .seq (as.map Value.ref).toArray }) (t' := tk) (fun _ _ q => Heap.get?_push_of_some _ q) (Nat.le_refl _)
    (tz_new (P := X.prog) (w := X.w) (H' := H') (by rw [List.length_map]; omega) vr (Heap.get?_push_size _ rfl))
  refine ⟨.ref _, _, J2, rfl, q _ _ as (fun b o e => ?_) n0 ⟨_, rfl, upd_same⟩ ?_⟩
  · have hb : b ≠ h'.objs.size := ne_of_none e n0
    rw [upd_ne hb]
    exact k1 b o e
  · refine paired_imp (fun t q e => ?_) k2
    rw [upd_ne (ne_of_none e n1)]
    exact e
end
end Nn

set_option autoImplicit false
set_option maxHeartbeats 4000000
namespace St6
open PySem PySem.Spec PyProof.Rows L2 Tg Cc Nn
structure LeadsOk (P : Program) (w : World) (K : PySem.W.Frag) (mg : Str → Option Value) (base : Heap) (f_rename f_copy f_drop f_put f_scale f_sum f_join f_table : Addr) : Prop where
  h_rename : ∀ rec, Held P w K mg base 6 f_rename (spLead K rec "rename" 2)
  h_copy : ∀ rec, Held P w K mg base 6 f_copy (spLead K rec "copy" 2)
  h_drop : ∀ rec, Held P w K mg base 6 f_drop (spLead K rec "drop" 1)
  h_put : ∀ rec, Held P w K mg base 6 f_put (spLead K rec "put" 3)
  h_scale : ∀ rec, Held P w K mg base 6 f_scale (spLead K rec "scale" 3)
  h_sum : ∀ rec, Held P w K mg base 6 f_sum (spLead K rec "sum" 2)
  h_join : ∀ rec, Held P w K mg base 6 f_join (spLead K rec "join" 2)
  h_table : ∀ rec, Held P w K mg base 6 f_table (spLead K rec "table" 4)
theorem held_up {P : Program} {w : World} {K : PySem.W.Frag} {mg : Str → Option Value} {base : Heap} {j k : Nat} {f : Addr} {sp : Sp} (h : Held P w K mg base j f sp) (le : j ≤ k) : Held P w K mg base k f sp := by
  obtain ⟨fd, ps, ok, kp, b⟩ := h.ex
  exact ⟨fd, ps, ⟨fun vs H Q E a => ok.len vs H Q E a, fun A outer s H args us vs Q E hr he hb hv a => ok.run A outer s H args us vs Q E (hr.mono le) he hb hv a⟩, kp, b⟩
theorem fn_no {P : Program} {w : World} {K : PySem.W.Frag} {mg : Str → Option Value} {base : Heap} {k : Nat} {f : Addr} {fd : FuncData} {ps : List Str} : FnOk P w K mg base CX0 k f fd ps (fun _ _ _ _ => False) :=
  ⟨fun _ _ _ _ h => h.elim, fun _ _ _ _ _ _ _ _ _ _ _ _ _ h => h.elim⟩
theorem ok_sorts {P : Program} {w : World} {K : PySem.W.Frag} {mg : Str → Option Value} {base : Heap} {C fI : Addr} {fdI : FuncData} (T : BadS K mg C fI fdI)
    {f_rename f_copy f_drop f_put f_scale f_sum f_join f_table f_case f_st f_l : Addr} {fd_case fd_st fd_l : FuncData} (LO : LeadsOk P w K mg base f_rename f_copy f_drop f_put f_scale f_sum f_join f_table)
    (Fc : FnP K "_behind_case" sBehindCase f_case fd_case) (m_c : mg "_behind_case" = some (.ref f_case)) (b_c : Binds K fd_case ["sorts", "step"] [])
    (Fs : FnP K "_sorts_behind_step" sSortsBehindStep f_st fd_st) (m_s : mg "_sorts_behind_step" = some (.ref f_st)) (b_s : Binds K fd_st ["sorts", "step"] [])
    (Fl : FnP K "_sorts_behind" sSortsBehind f_l fd_l) (m_l : mg "_sorts_behind" = some (.ref f_l)) (b_l : Binds K fd_l ["sorts", "steps"] [])
    {f_so f_of : Addr} {fd_so fd_of : FuncData} (c_so : Cl P w K mg base CX0 "_sort_of" 1 ["sorts", "field"] (spSortOf K) f_so fd_so) (c_of : Cl P w K mg base CX0 "is_of_sort" 3 ["value", "sort"] (spOfSort K) f_of fd_of)
    (b1 : mg "isinstance" = none) (b2 : mg "tuple" = none) (b3 : mg "str" = none) (b4 : mg "len" = none) (b5 : mg "list" = none) (b6 : mg "enumerate" = none)
    {aT aL aD : Addr} (m_T : mg "TESTED" = some (.ref aT)) (hT : ∀ H, SqT K H aT (testL.map V.str)) (m_L : mg "LENGTHS" = some (.ref aL)) (hL : KTab K w aL lens) (m_D : mg "LEADS" = some (.ref aD)) (hD : KTab K w aD (leadsV f_rename f_copy f_drop f_put f_scale f_sum f_join f_table f_case)) :
    ∀ c, FnOk P w K mg base (L2.CX P w) (8 + 3 * c) f_l fd_l ["sorts", "steps"] (spSorts K C c)
  | c => by
    have hc : Held P w K mg base (6 + 3 * c) f_case (spCaseOf K c) := by
      cases c with
      | zero => exact ⟨fd_case, ["sorts", "step"], fn_no, Fc.kp, b_c⟩
      | succ c =>
        have ih := ok_sorts T LO Fc m_c b_c Fs m_s b_s Fl m_l b_l c_so c_of b1 b2 b3 b4 b5 b6 m_T hT m_L hL m_D hD c
        exact held_of (x := "_behind_case") ⟨ok_bcase Fc c_so c_of ⟨ih, m_l, Fl.kp, b_l⟩ m_T hT T, m_c, Fc.kp, b_c⟩ (by omega)
    have st := ok_bstep (c := c) Fs b1 b2 b3 b4 m_L hL m_D hD (held_up (LO.h_rename (recOf c)) (by omega)) (held_up (LO.h_copy (recOf c)) (by omega)) (held_up (LO.h_drop (recOf c)) (by omega)) (held_up (LO.h_put (recOf c)) (by omega)) (held_up (LO.h_scale (recOf c)) (by omega)) (held_up (LO.h_sum (recOf c)) (by omega)) (held_up (LO.h_join (recOf c)) (by omega)) (held_up (LO.h_table (recOf c)) (by omega)) hc
    have all := ok_bsorts (c := c) Fl ⟨st, m_s, Fs.kp, b_s⟩ b1 b5 b2 b6 T
    have e : 7 + 3 * c + 1 = 8 + 3 * c := by omega
    rw [← e]
    exact all
/-- told: the form behind, or the refusal -/
def behindB (c : Nat) (fs : Fs) (d : PyData) : Except Nat Fs := match stepsB c fs d with
  | .ok gs => if 1 ≤ gs.length ∧ gs.length ≤ 6 then .ok gs else .error (items d).length
  | .error n => .error n
/-- a form: a tuple told to bear no dict of its own
-/
def FZ (K : PySem.W.Frag) (H : Hp) (q : Addr) (gs : Fs) : Prop := ∃ xs, Tz H q xs ∧ ThAll K H xs (gs.map fieldD)
theorem FZ.th {K : PySem.W.Frag} {H : Hp} {q : Addr} {gs : Fs} (h : FZ K H q gs) : Th K H (.ref q) (formD gs) := let ⟨xs, a, b⟩ := h; .tup a.sq b
def FRes (K : PySem.W.Frag) (C : Addr) (o : Except Nat Fs) (H : Hp) (Q : VK) (E : XK) : Prop := match o with
  | .ok gs => ∀ H' q, Same H H' → FZ K H' q gs → Q (.ref q) H'
  | .error n => Out C E H n
theorem FRes.later {K : PySem.W.Frag} {C : Addr} {o : Except Nat Fs} {H H1 : Hp} {Q : VK} {E : XK} (h : FRes K C o H Q E) (s : Same H H1) : FRes K C o H1 Q E := by
  cases o with
  | ok gs => exact fun H' q s2 t => h H' q (s.trans s2) t
  | error n => exact Out.later h s
def spFormBehind (K : PySem.W.Frag) (C : Addr) (c : Nat) : Sp := fun vs H Q E => ∃ p fs v d, vs = [p, v] ∧ Th K H p (formD fs) ∧ (fs.map Prod.fst).Nodup ∧ Th K H v d ∧ Bd 1000 (2 * c + 1) d ∧ c ≤ 9 ∧ fs.length + growB c d ≤ 1000000 ∧ FRes K C (behindB c fs d) H Q E
theorem th_items {K : PySem.W.Frag} {H : Hp} : ∀ {ts : List Addr} {gs : Fs}, Paired (fun (t : Addr) (q : Key × V) => H t = some (.tup [kV q.1, q.2])) ts (kvsOf gs) → ThAll K H (ts.map V.ref) (gs.map fieldD)
  | [], [], _ => .nil
  | t :: ts, g :: gs, h => by
    cases h with
    | cons a b => exact .cons (.tup (SqT.of a) (.cons (.str _) (.cons (.str _) .nil))) (th_items b)
section
variable {P : Program} {w : World} {K : PySem.W.Frag} {mg : Str → Option Value} {base : Heap} {C fI : Addr} {fdI : FuncData} {c : Nat}
theorem scbehind : FnScope ["form", "steps", "field", "sort", "sorts"] ["form", "steps"] (defScope sFormBehind) := ⟨rfl, rfl, rfl, by decide +kernel, rfl, by decide +kernel, by decide +kernel⟩
theorem ok_behind {f : Addr} {fd : FuncData} (F : FnP K "form_behind" sFormBehind f fd) {f__sorts_behind : Addr} {fd__sorts_behind : FuncData} (c__sorts_behind : Cl P w K mg base (L2.CX P w) "_sorts_behind" (8 + 3 * c) ["sorts", "steps"] (spSorts K C c) f__sorts_behind fd__sorts_behind) (mb_len : mg "len" = none) (mb_tuple : mg "tuple" = none) {u6 : Value} (m_MOST_FIELDS : mg "MOST_FIELDS" = some u6) (h_u6 : RelV (.int 6) u6) (T : BadS K mg C fI fdI) : FnOk P w K mg base (L2.CX P w) (8 + 3 * c + 1) f fd ["form", "steps"] (spFormBehind K C c) := by
  refine F.ok scbehind (fun vs H Q E h => ?_) (fun cdv A outer s H vs Q E hr h => ?_)
  · obtain ⟨p, fs, v, d, rfl, _⟩ := h
    rfl
  · obtain ⟨p, fs, v, d, rfl, hP, nd, hT, hB, hc, hg, q⟩ := h
    have hu := hu_of hr
    have hs := szl
    have GI : FnOk P w K mg base CX0 1 fI fdI ["self", "at"] (spInit K C) := ok_init T
    have hr2 : Room 2 _ := hr.mono (by omega)
    refine ⟨_, pss_cons (ps_set (i := 4) scbehind.nd rfl (Or.inl rfl) (pe_callS c__sorts_behind.ok hr (by rfl) c__sorts_behind.m c__sorts_behind.kp c__sorts_behind.b (fun σ => passAt (takes_of rfl rfl rfl rfl) σ) (pa_cons (pe_dc (own := [("field", 2), ("sort", 3)]) (tt := tYes) rfl scbehind.nd (pi_tup (pv 0)) (blkOk_by (own := [("field", 2), ("sort", 3)]) (N := ["form", "steps", "field", "sort", "sorts"]) (sc := defScope sFormBehind) (by decide +kernel)) (fun _ _ _ _ _ => Cc.pg_tupk (K := K) (n := 2) rfl rfl (pgs_cons (pg_name (i := 2) scbehind.nd rfl (Or.inl rfl)) (pgs_cons (pg_name (i := 3) scbehind.nd rfl (Or.inl rfl)) (pgs_nil)))) (fun _ _ _ _ _ => pts_nil) (fun _ _ _ _ _ => pv 2) (fun _ _ _ _ _ => pv 3)) (pa_cons (pv 1) pa_nil))))
      (pss_cons (ps_if (pt_not (pt_chain op_le op_le (pe_int) (pe_callB call_lenD (by rfl) mb_len (by decide +kernel) (pa_cons (pv 4) pa_nil)) (pe_glob rfl m_MOST_FIELDS h_u6))) (pss_one (ps_raise rfl (takes_of rfl rfl rfl rfl) (pmk_oex T.ox T.iC T.tI GI hr2 (bindI T) .nil pass0 (by rfl) T.g (pa_cons (pe_callB call_len (by rfl) mb_len (by decide +kernel) (pa_cons (pv 1) pa_nil)) pa_nil)))) (pss_nil))
      (pss_one (ps_ret (Nn.pe_tupItemsZ rfl (pv 4) (by rfl) mb_tuple (by decide +kernel))))), ?_⟩
    obtain ⟨pf, fx, rfl, hf, hFA⟩ := hP.asTup
    have lf : fx.length = fs.length := by rw [hFA.len, List.length_map]
    refine ⟨_, rfl, pf, rfl, ⟨fx, hf⟩, fun D nD => ?_⟩
    refine dc_it (walk_tup (K := K) (a := pf) (xs := fx)) (fun i H' => But D H H' ∧ H' D = some (.dK (kvsOf (fs.take i)))) ⟨But.refl.upd, upd_same⟩ (fun i H' _ ⟨b, _⟩ => Sq.same (t := true) hf (b.new nD)) ?_ ?_
    · rintro i x H1 H2 hi ⟨b, hD⟩ ⟨rfl, hx⟩
      obtain ⟨dz, hdz, tz, mz⟩ := ThAll.get2 hFA hx
      obtain ⟨g, hg2, rfl⟩ : ∃ g, fs[i]? = some g ∧ fieldD g = dz := by
        rw [List.getElem?_map] at hdz
        cases hg2 : fs[i]? with
        | none =>
          rw [hg2] at hdz
          cases hdz
        | some g =>
          rw [hg2] at hdz
          exact ⟨g, rfl, Option.some.inj hdz⟩
      obtain ⟨pz, zs, rfl, hpz, hZ⟩ := tz.asTup
      obtain ⟨y0, y1, rfl, u0, u1⟩ := thAll2 hZ
      obtain rfl := u0.asStr
      obtain rfl := u1.asStr
      have s2 := b.new nD
      have nk := nd_take (f := Prod.fst) nd hg2
      have et : fs.take (i + 1) = fs.take i ++ [g] := by rw [List.take_succ, hg2]; rfl
      refine ⟨pz, _, rfl, Sq.same (t := true) hpz s2, rfl, _, _, rfl, _, _, rfl, rfl, rfl, ?_⟩
      unfold tYes
      dsimp only
      rw [if_pos rfl]
      refine ⟨_, rfl, _, rfl, _, Sum.inr g.1, rfl, hD, ?_, b.upd, ?_⟩
      · rw [kvsOf_len, List.length_take]
        omega
      · rw [upd_same, put_of, setF_new (getF_of_none nk), et]
    · rintro H1 ⟨b, hD⟩
      rw [lf, List.take_length] at hD
      have s1 := b.new nD
      have hT1 := hT.kept (kept_same s1)
      have q1 := q.later s1
      refine ⟨_, rfl, D, fs, v, d, rfl, ⟨hD, nd, by omega⟩, hT1, hB, hc, hg, ?_⟩
      unfold behindB at q1
      cases hst : stepsB c fs d with
      | error n =>
        rw [hst] at q1
        exact q1
      | ok gs =>
        rw [hst] at q1
        have gr := steps_gro c fs d gs hst
        intro H2 qd s2 eq
        replace q1 : FRes K C (if 1 ≤ gs.length ∧ gs.length ≤ 6 then .ok gs else .error (items d).length) H1 Q E := q1
        have q2 := q1.later s2
        have hT2 := hT1.kept (kept_same s2)
        have no : ¬ (1 ≤ gs.length ∧ gs.length ≤ 6) → Out C E H2 (items d).length := fun hn => by
          rw [if_neg hn] at q2
          exact q2
        have lenD : ∃ (a : Addr) (xs : List V), v = .ref a ∧ xs.length = (items d).length ∧ ((∃ ys, SqL K H2 a ys ∧ ys.length = xs.length) ∨ (∃ ys, SqT K H2 a ys ∧ ys.length = xs.length)) := by
          rw [steps_over] at hst
          cases d with
          | list ds =>
            obtain ⟨a, xs, rfl, hx, hA⟩ := hT2.asLst
            exact ⟨a, xs, rfl, hA.len, .inl ⟨xs, hx, rfl⟩⟩
          | tuple ds =>
            obtain ⟨a, xs, rfl, hx, hA⟩ := hT2.asTup
            exact ⟨a, xs, rfl, hA.len, .inr ⟨xs, hx, rfl⟩⟩
          | _ => cases hst
        obtain ⟨av, xv, rfl, lv, hv⟩ := lenD
        have lk : (kvsOf gs).length = gs.length := kvsOf_len gs
        have bad : ¬ (1 ≤ gs.length ∧ gs.length ≤ 6) → ∀ k : Nat, k = xv.length → Out C E H2 k := fun hn k ek => by
          rw [ek, lv]
          exact no hn
        have lenR : (∃ ys, SqL K H2 av ys ∧ xv.length = ys.length) ∨ (∃ ys, SqT K H2 av ys ∧ xv.length = ys.length) := hv.elim (fun ⟨ys, a, b⟩ => .inl ⟨ys, a, b.symm⟩) (fun ⟨ys, a, b⟩ => .inr ⟨ys, a, b.symm⟩)
        refine ⟨_, rfl, qd, _, rfl, eq, _, _, rfl, rfl, _, rfl, ite2 (fun e1 => ⟨_, _, rfl, rfl, _, rfl, ite2 (fun e2 => ?_) (fun e2 => ?_)⟩) (fun e1 => ⟨_, rfl, iteT ?_⟩)⟩
        · have c2 : ¬ gs.length ≤ 6 := fun y => by
            rw [lk, decide_eq_true (show (gs.length : Int) ≤ (6 : Int) by omega)] at e2
            cases e2
          exact ⟨_, rfl, _, xv.length, rfl, lenR, out_of (bad (fun z => c2 z.2) _ rfl)⟩
        · have c1 : 1 ≤ gs.length := by
            have := of_decide_eq_true e1
            omega
          have c2 : gs.length ≤ 6 := by
            have : (!decide (((kvsOf gs).length : Int) ≤ (6 : Int))) = false := by simpa using e2
            rw [Bool.not_eq_false'] at this
            have := of_decide_eq_true this
            omega
          rw [if_pos ⟨c1, c2⟩] at q2
          refine ⟨_, rfl, qd, _, rfl, eq, fun H3 pt ts hsub hn hp hpr => ?_⟩
          exact q2 H3 pt (fun b o e => hsub b o e) ⟨_, hp, th_items hpr⟩
        · have c1 : ¬ 1 ≤ gs.length := fun y => e1 (decide_eq_true (by omega))
          exact ⟨_, rfl, _, xv.length, rfl, lenR, out_of (bad (fun z => c1 z.1) _ rfl)⟩
end
end St6

set_option autoImplicit false
set_option maxHeartbeats 4000000
namespace St6
open PySem PySem.Spec PyProof.Rows L2 Tg Cc Nn
/-! the law's own going through steps that fit -/
/-- a form as the law keeps it: a tuple without a dict of its own, its fields -/
def Fm (K : PySem.W.Frag) (H : Hp) (f : V) (fs : Fs) : Prop := ∃ a xs, f = .ref a ∧ Tz H a xs ∧ ThAll K H xs (fs.map fieldD)
theorem Fm.th {K : PySem.W.Frag} {H : Hp} {f : V} {fs : Fs} (h : Fm K H f fs) : Th K H f (formD fs) := by
  obtain ⟨a, xs, rfl, h1, h2⟩ := h
  exact .tup h1.sq h2
theorem Fm.same {K : PySem.W.Frag} {H H1 : Hp} {f : V} {fs : Fs} (h : Fm K H f fs) (s : Same H H1) : Fm K H1 f fs := by
  obtain ⟨a, xs, rfl, h1, h2⟩ := h
  exact ⟨a, xs, rfl, h1.same s, h2.kept (kept_same s)⟩
/-- no list within -/
def noLst : Nat → PyData → Bool
  | 0, _ => true
  | _ + 1, .list _ => false
  | m + 1, .tuple ds => ds.all (noLst m)
  | _ + 1, _ => true
theorem stepB_some {rec : Fs → PyData → Except Nat Fs} {fs gs : Fs} {d : PyData} (h : stepB rec fs d = some gs) : ∃ w r, d = .tuple (.str w :: r) ∧ leadB rec fs w r = some gs ∧ lenOf w = some r.length := by
  match d, h with
  | .tuple (.str w :: r), h =>
    refine ⟨w, r, rfl, h, ?_⟩
    by_cases e : lenOf w = some r.length
    · exact e
    · have h : leadB rec fs w r = some gs := h
      rw [lead_len e] at h
      cases h
theorem tst {wd : Str} (z : Str) {A B : Prop} (hA : wd = z → A) (hB : wd ≠ z → B) : if decide (V.str wd = V.str z) = true then A else B :=
  ite2 (fun e => hA (V.str.inj (of_decide_eq_true e))) (fun e => hB (fun y => e (decide_eq_true (congrArg V.str y))))
/-- new pairs, one for each field -/
def Prs (H : Hp) (ps : List (Addr × Str × Str)) : Prop := ∀ x ∈ ps, H x.1 = some (.tup [.str x.2.1, .str x.2.2])
theorem prs_snoc {H : Hp} {ps : List (Addr × Str × Str)} {D T : Addr} {k s : Str} {l : List V} (h : Prs H ps) (hD : H D = some (.lst l)) (l2 : List V) (hT : H T = some (.tup [.str k, .str s])) : Prs (upd H D (.lst l2)) (ps ++ [(T, k, s)]) := fun x hx => by
  have ne : ∀ {b : Addr} {xs : List V}, H b = some (.tup xs) → b ≠ D := fun e z => by
    rw [z, hD] at e
    cases e
  rcases List.mem_append.mp hx with h1 | h1
  · rw [upd_ne (ne (h x h1))]
    exact h x h1
  · rw [List.mem_singleton.mp h1, upd_ne (ne hT)]
    exact hT
theorem prs_same {H H1 : Hp} {ps : List (Addr × Str × Str)} (h : Prs H ps) (s : Same H H1) : Prs H1 ps := fun x hx => s _ _ (h x hx)
theorem set_map {fs : Fs} {o so x : Str} (h : getF fs o = some x) : setF fs o so = fs.map fun x => if x.1 = o then (x.1, so) else x := by
  have hp : fs.any (fun x => decide (x.1 = o)) = true := by
    unfold getF at h
    cases e : fs.find? fun y => decide (y.1 = o) with
    | none =>
      rw [e] at h
      cases h
    | some y => exact List.any_eq_true.mpr ⟨y, List.mem_of_find?_eq_some e, List.find?_some (p := fun y : Str × Str => decide (y.1 = o)) e⟩
  unfold setF
  rw [if_pos hp]
theorem refs_of {K : PySem.W.Frag} {H : Hp} : ∀ {fs : Fs} {xs : List V}, ThAll K H xs (fs.map fieldD) → ∃ ps : List Addr, xs = ps.map V.ref ∧ Paired (fun p (kv : Key × V) => SqT K H p [kV kv.1, kv.2]) ps (kvsOf fs)
  | [], xs, h => ⟨[], h.nil_of, .nil⟩
  | g :: r, xs, h => by
    obtain ⟨x, ys, rfl, t0, h⟩ := ThAll.cons_of (show ThAll K H xs (fieldD g :: r.map fieldD) from h)
    obtain ⟨ps, rfl, hp⟩ := refs_of h
    obtain ⟨p, zs, rfl, hz, hZ⟩ := t0.asTup
    obtain ⟨y0, y1, rfl, u0, u1⟩ := thAll2 hZ
    obtain rfl := u0.asStr
    obtain rfl := u1.asStr
    exact ⟨p :: ps, rfl, .cons hz hp⟩
theorem merge_of : ∀ (r acc : Fs), ((acc ++ r).map Prod.fst).Nodup → mergeK (kvsOf acc) (kvsOf r) = kvsOf (acc ++ r)
  | [], acc, _ => by
    rw [List.append_nil]
    rfl
  | g :: r, acc, nd => by
    have e : acc ++ g :: r = (acc ++ [g]) ++ r := by simp
    have hn : getF acc g.1 = none := getF_of_none fun hm => by
      rw [List.map_append, List.nodup_append] at nd
      exact nd.2.2 _ hm _ (List.mem_map.mpr ⟨g, List.mem_cons_self .., rfl⟩) rfl
    show mergeK (putK (kvsOf acc) (Sum.inr g.1) (V.str g.2)) (kvsOf r) = _
    rw [put_of, setF_new hn, e]
    exact merge_of r (acc ++ [g]) (by rw [← e]; exact nd)
theorem _root_.Tg.ThAll.app {K : PySem.W.Frag} {H : Hp} {xs ys : List V} {ds es : List PyData} (h : ThAll K H xs ds) (k : ThAll K H ys es) : ThAll K H (xs ++ ys) (ds ++ es) := by
  induction xs generalizing ds with
  | nil =>
    cases h
    exact k
  | cons x r ih =>
    cases h with
    | cons a b => exact .cons a (ih b)
theorem fm_snoc {K : PySem.W.Frag} {H : Hp} {l T : Addr} {fx : List V} {fs : Fs} {k s : Str} (tz : Tz H l (fx ++ [.ref T])) (hA : ThAll K H fx (fs.map fieldD)) (hT : H T = some (.tup [.str k, .str s])) : Fm K H (.ref l) (fs ++ [(k, s)]) := by
  refine ⟨l, _, rfl, tz, ?_⟩
  rw [List.map_append]
  have ap : ∀ {xs : List V} {ds : List PyData}, ThAll K H xs ds → ThAll K H (xs ++ [.ref T]) (ds ++ [fieldD (k, s)]) := by
    intro xs ds h
    induction xs generalizing ds with
    | nil =>
      cases h
      exact .cons (.tup (SqT.of hT) (.cons (.str _) (.cons (.str _) .nil))) .nil
    | cons x r ih =>
      cases h with
      | cons a b => exact .cons a (ih b)
  exact ap hA
def spLBehind (K : PySem.W.Frag) (c : Nat) : Sp := fun vs H Q _ => ∃ f fs v d gs, vs = [f, v] ∧ Fm K H f fs ∧ (fs.map Prod.fst).Nodup ∧ fs.length + growS c d ≤ 1000000 ∧ Th K H v d ∧ noLst (2 * c) d = true ∧ Bd 1000 (2 * c) d ∧ stepB (recOf c) fs d = some gs ∧ ∀ H' u, Same H H' → Fm K H' u gs → Q u H'
def spLEnd (K : PySem.W.Frag) (c : Nat) : Sp := fun vs H Q _ => ∃ f fs v d gs, vs = [f, v] ∧ Fm K H f fs ∧ (fs.map Prod.fst).Nodup ∧ fs.length + growB c d ≤ 1000000 ∧ Th K H v d ∧ noLst (2 * c + 1) d = true ∧ Bd 1000 (2 * c + 1) d ∧ stepsB c fs d = .ok gs ∧ ∀ H' u, Same H H' → Fm K H' u gs → Q u H'
section
variable {P : Program} {w : World} {K : PySem.W.Frag} {mg : Str → Option Value} {base : Heap} {c : Nat}
theorem sclend : FnScope ["fields", "steps", "step"] ["fields", "steps"] (defScope sLawEnd) := ⟨rfl, rfl, rfl, by decide +kernel, rfl, by decide +kernel, by decide +kernel⟩
theorem ok_lend {f : Addr} {fd : FuncData} (F : FnP K "_law_end" sLawEnd f fd) {f__law_behind : Addr} {fd__law_behind : FuncData} (c__law_behind : Cl P w K mg base CX0 "_law_behind" (2 + 2 * c) ["fields", "step"] (spLBehind K c) f__law_behind fd__law_behind)    : FnOk P w K mg base CX0 (2 + 2 * c + 1) f fd ["fields", "steps"] (spLEnd K c) := by
  refine F.ok sclend (fun vs H Q E h => ?_) (fun cdv A outer s H vs Q E hr h => ?_)
  · obtain ⟨f, fs, v, d, gs, rfl, _⟩ := h
    rfl
  · obtain ⟨f, fs, v, d, gs, rfl, hF, nd, hg, hT, hno, hB, hst, q⟩ := h
    have hu := hu_of hr
    have hs := szl
    refine ⟨_, PSs.nox (pss_cons (ps_for PassesOwn.never rfl (pi_tup (pv 1)) (pg_name (i := 2) sclend.nd rfl (Or.inl rfl)) (pss_one (ps_set (i := 0) sclend.nd rfl (Or.inl rfl) (pe_call c__law_behind.ok hr (by rfl) c__law_behind.m c__law_behind.kp c__law_behind.b .nil pass0 (pa_cons (pv 0) (pa_cons (pv 2) pa_nil))))))
      (pss_one (ps_ret (pv 0)))), ?_⟩
    have ht : isTup d = true := by
      rw [steps_over] at hst
      cases d <;> first | rfl | (cases hst; done) | cases hno
    obtain ⟨ds, rfl⟩ := isTup_eq ht
    have hno := List.all_eq_true.mp (show ds.all (noLst (2 * c)) = true from hno)
    obtain ⟨a, xs, rfl, hx, hA⟩ := hT.asTup
    have lx := hA.len
    rw [steps_over] at hst
    replace hst : goB (stepB (recOf c)) 0 fs ds = .ok gs := hst
    rw [grow_sum] at hg
    replace hg : fs.length + (ds.map (growS c)).sum ≤ 1000000 := hg
    refine ⟨_, rfl, a, rfl, ⟨xs, hx⟩, for_tup (K := K) (a := a) (xs := xs) (fun i σ' H' => (∃ fi fsi x2, σ' = [some fi, some (.ref a), x2] ∧ Fm K H' fi fsi ∧ (fsi.map Prod.fst).Nodup ∧ goB (stepB (recOf c)) i fsi (ds.drop i) = .ok gs ∧ fsi.length + ((ds.drop i).map (growS c)).sum ≤ 1000000) ∧ Same H H')
      ⟨⟨f, fs, _, rfl, hF, nd, hst, hg⟩, Same.refl H⟩ (fun i σ' H' _ ⟨_, s2⟩ => Sq.same (t := true) hx s2) ?_ ?_⟩
    · rintro i x σ' H1 hxi ⟨⟨fi, fsi, y2, rfl, hFi, ndi, hgo, hlen⟩, s1⟩
      obtain ⟨d, hd, td, md⟩ := ThAll.get2 hA hxi
      have hdr : ds.drop i = d :: ds.drop (i + 1) := by
        obtain ⟨hlt, e⟩ := List.getElem?_eq_some_iff.mp hd
        rw [List.drop_eq_getElem_cons hlt, e]
      rw [hdr, List.map_cons, List.sum_cons] at hlen
      rw [hdr, go_cons] at hgo
      cases hs1 : stepB (recOf c) fsi d with
      | none =>
        rw [hs1] at hgo
        cases hgo
      | some hs2 =>
        rw [hs1] at hgo
        have gr := stepS_gro c hs1
        exact ⟨_, rfl, _, rfl, fi, fsi, x, d, hs2, rfl, hFi, ndi, by omega, td.kept (kept_same s1), hno d md, hB.2 d md, hs1, fun H2 u s2 hu => ⟨⟨u, hs2, _, rfl, hu, (gr ndi).1, hgo, by have := (gr ndi).2; omega⟩, s1.trans s2⟩⟩
    · rintro σ' H1 ⟨⟨fi, fsi, y2, rfl, hFi, ndi, hgo, hlen⟩, s1⟩
      rw [lx, List.drop_length, go_nil] at hgo
      obtain rfl := Except.ok.inj hgo
      exact ⟨_, rfl, q H1 fi s1 hFi⟩
theorem sclbehind : FnScope ["fields", "step", "field", "sort", "one"] ["fields", "step"] (defScope sLawBehind) := ⟨rfl, rfl, rfl, by decide +kernel, rfl, by decide +kernel, by decide +kernel⟩
theorem ok_lbehind {f : Addr} {fd : FuncData} (F : FnP K "_law_behind" sLawBehind f fd) {f__law_end : Addr} {fd__law_end : FuncData} (c__law_end : Cl P w K mg base CX0 "_law_end" (2 + 2 * c + 1) ["fields", "steps"] (spLEnd K c) f__law_end fd__law_end) (mb_tuple : mg "tuple" = none) (mb_dict : mg "dict" = none)   : FnOk P w K mg base CX0 (2 + 2 * c + 1 + 1) f fd ["fields", "step"] (spLBehind K (c + 1)) := by
  refine F.ok sclbehind (fun vs H Q E h => ?_) (fun cdv A outer s H vs Q E hr h => ?_)
  · obtain ⟨f, fs, v, d, gs, rfl, _⟩ := h
    rfl
  · obtain ⟨f, fs, v, d, gs, rfl, hF, nd, hg, hT, hno, hB, hst, q⟩ := h
    have hu := hu_of hr
    have hs := szl
    refine ⟨_, PSs.nox (pss_cons (ps_if (pt_cmpR op_eq (pe_ix Cc.ix_B (pv 1) (pe_int) (fun _ _ => rfl)) (pe_str) (nomark _)) (pss_one (ps_ret (pe_call c__law_end.ok hr (by rfl) c__law_end.m c__law_end.kp c__law_end.b .nil pass0 (pa_cons (pv 0) (pa_cons (pe_ix Cc.ix_B (pv 1) (pe_int) (fun _ _ => rfl)) pa_nil))))) (pss_nil))
      (pss_cons (ps_if (pt_cmpR op_eq (pe_ix Cc.ix_B (pv 1) (pe_int) (fun _ _ => rfl)) (pe_str) (nomark _)) (pss_one (ps_ret (pe_callTy Nn.call_tuple_ofZ (by rfl) mb_tuple (by decide +kernel) (pa_cons (pe_lc (own := [("field", 2), ("sort", 3)]) (tt := tYes) rfl sclbehind.nd (pi_tup (pv 0)) (blkOk_by (own := [("field", 2), ("sort", 3)]) (N := ["fields", "step", "field", "sort", "one"]) (sc := defScope sLawBehind) (by decide +kernel)) (fun _ _ _ _ _ => Cc.pg_tupk (K := K) (n := 2) rfl rfl (pgs_cons (pg_name (i := 2) sclbehind.nd rfl (Or.inl rfl)) (pgs_cons (pg_name (i := 3) sclbehind.nd rfl (Or.inl rfl)) (pgs_nil)))) (fun _ _ _ _ _ => pts_nil) (fun _ _ _ _ _ => pe_tup (pa_cons (pe_ifExp (pt_cmpR op_eq (pv 2) (pe_ix (Cc.ix_Bk (K := K) rfl) (pv 1) (pe_int) (fun _ _ => rfl)) (nomark _)) (pe_ix (Cc.ix_Bk (K := K) rfl) (pv 1) (pe_int) (fun _ _ => rfl)) (pv 2)) (pa_cons (pv 3) pa_nil)))) pa_nil)))) (pss_nil))
      (pss_cons (ps_if (pt_cmpR op_eq (pe_ix Cc.ix_B (pv 1) (pe_int) (fun _ _ => rfl)) (pe_str) (nomark _)) (pss_one (ps_ret (pe_callTy Nn.call_tuple_ofZ (by rfl) mb_tuple (by decide +kernel) (pa_cons (pe_lc (own := [("one", 4)]) (g := gName 4) rfl sclbehind.nd (pi_tup (pv 0)) (blkOk_by (own := [("one", 4)]) (N := ["fields", "step", "field", "sort", "one"]) (sc := defScope sLawBehind) (by decide +kernel)) (fun _ _ _ _ _ => pg_name (i := 4) sclbehind.nd rfl (Or.inl rfl)) (fun _ _ _ _ _ => pts_one (pt_cmpR op_ne (pe_ix (Cc.ix_Bk (K := K) rfl) (pv 4) (pe_int) (fun _ _ => rfl)) (pe_ix (Cc.ix_Bk (K := K) rfl) (pv 1) (pe_int) (fun _ _ => rfl)) (nomark _))) (fun _ _ _ _ _ => pv 4)) pa_nil)))) (pss_nil))
      (pss_cons (ps_if (pt_cmpR op_eq (pe_ix Cc.ix_B (pv 1) (pe_int) (fun _ _ => rfl)) (pe_str) (nomark _)) (pss_one (ps_ret (pe_callTy Nn.call_tuple_ofZ (by rfl) mb_tuple (by decide +kernel) (pa_cons (pe_lc (own := [("field", 2), ("sort", 3)]) (tt := tYes) rfl sclbehind.nd (pi_tup (pv 0)) (blkOk_by (own := [("field", 2), ("sort", 3)]) (N := ["fields", "step", "field", "sort", "one"]) (sc := defScope sLawBehind) (by decide +kernel)) (fun _ _ _ _ _ => Cc.pg_tupk (K := K) (n := 2) rfl rfl (pgs_cons (pg_name (i := 2) sclbehind.nd rfl (Or.inl rfl)) (pgs_cons (pg_name (i := 3) sclbehind.nd rfl (Or.inl rfl)) (pgs_nil)))) (fun _ _ _ _ _ => pts_nil) (fun _ _ _ _ _ => pe_tup (pa_cons (pv 2) (pa_cons (pe_ifExp (pt_cmpR op_eq (pv 2) (pe_ix (Cc.ix_Bk (K := K) rfl) (pv 1) (pe_int) (fun _ _ => rfl)) (nomark _)) (pe_ix (Cc.ix_Bk (K := K) rfl) (pv 1) (pe_int) (fun _ _ => rfl)) (pv 3)) pa_nil)))) pa_nil)))) (pss_nil))
      (pss_cons (ps_if (pt_cmpR op_eq (pe_ix Cc.ix_B (pv 1) (pe_int) (fun _ _ => rfl)) (pe_str) (nomark _)) (pss_one (ps_ret (pv 0))) (pss_nil))
      (pss_cons (ps_if (pt_cmpR op_eq (pe_ix Cc.ix_B (pv 1) (pe_int) (fun _ _ => rfl)) (pe_str) (nomark _)) (pss_one (ps_ret (pe_op Nn.op_catY (pv 0) (Nn.pe_tupZ (pa_cons (pe_tup (pa_cons (pe_ix Cc.ix_B (pv 1) (pe_int) (fun _ _ => rfl)) (pa_cons (pe_dget hu (pe_callTy (Nn.call_dictT rfl) (by rfl) mb_dict (by decide +kernel) (pa_cons (pv 0) pa_nil)) (pe_ix Cc.ix_B (pv 1) (pe_int) (fun _ _ => rfl)) (fun _ _ => rfl)) pa_nil))) pa_nil))))) (pss_nil))
      (pss_one (ps_ret (pe_op Nn.op_catY (pv 0) (Nn.pe_tupZ (pa_cons (pe_tup (pa_cons (pe_ix Cc.ix_B (pv 1) (pe_int) (fun _ _ => rfl)) (pa_cons (pe_dget2 hu (pe_disp (pps_cons (pe_str) (pe_str) (pps_cons (pe_str) (pe_str) (pps_nil))) (by rfl) (by rfl) (fun z => by cases z) (by decide)) (pe_ix Cc.ix_B (pv 1) (pe_int) (fun _ _ => rfl)) (pe_ix Cc.ix_B (pv 1) (pe_int) (fun _ _ => rfl)) ⟨by rfl, by rfl, by rfl, by rfl⟩) pa_nil))) pa_nil))))))))))), ?_⟩
    obtain ⟨wd, r, rfl, h, hln⟩ := stepB_some hst
    replace h : leadB (stepsB c) fs wd r = some gs := h
    obtain ⟨a, xs0, rfl, hx, hA⟩ := hT.asTup
    obtain ⟨x0, xr, rfl, t0, hY⟩ := hA.cons_of
    obtain rfl := t0.asStr
    have ly := hY.len
    obtain ⟨fa, fx, rfl, hz, hFA⟩ := id hF
    have lf : fx.length = fs.length := by rw [hFA.len, List.length_map]
    have hno2 : ∀ x ∈ r, noLst (2 * c + 1) x = true := fun x hx => List.all_eq_true.mp (show (PyData.str wd :: r).all (noLst (2 * c + 1)) = true from hno) x (List.mem_cons_of_mem _ hx)
    have hB2 : ∀ x ∈ r, Bd 1000 (2 * c + 1) x := fun x hx => hB.2 x (List.mem_cons_of_mem _ hx)
    refine ⟨_, rfl, true, a, _, 0, _, rfl, rfl, hx, at0, rfl, _, rfl, tst "case" (fun e => ?_) (fun n1 => ?_)⟩
    · subst e
      obtain ⟨d0, d1, d2, d3, rfl⟩ := len4 (Option.some.inj hln).symm
      obtain ⟨x0, x1, x2, x3, e, t0, t1, t2, t3⟩ := th4 hA
      obtain rfl := List.tail_eq_of_cons_eq e
      replace h : caseB (stepsB c) fs d0 d1 d2 d3 = some gs := h
      unfold caseB at h
      have hy : stepsB c fs d2 = .ok gs := by
        cases ho : sortOf fs d0 with
        | none =>
          rw [ho] at h
          cases h
        | some el =>
          rw [ho] at h
          dsimp only at h
          by_cases k : (decide (el ∈ testL) && ofSort el d1) = true
          · rw [if_pos k] at h
            cases hy : stepsB c fs d2 with
            | error n =>
              rw [hy] at h
              cases h
            | ok x =>
              cases hn : stepsB c fs d3 with
              | error n =>
                rw [hy, hn] at h
                cases h
              | ok y =>
                rw [hy, hn] at h
                obtain ⟨_, rfl⟩ := ifs h
                rfl
          · rw [if_neg k] at h
            cases h
      have sum : growS (c + 1) (.tuple [.str "case", d0, d1, d2, d3]) = 1 + (growB c (.str "case") + (growB c d0 + (growB c d1 + (growB c d2 + (growB c d3 + 0))))) := rfl
      rw [sum] at hg
      exact ⟨_, rfl, _, rfl, true, a, _, 3, x2, rfl, rfl, hx, rfl, .ref fa, fs, x2, d2, gs, rfl, hF, nd, by omega, t2, hno2 d2 (by simp), hB2 d2 (by simp), hy, q⟩
    refine ⟨_, rfl, true, a, _, 0, _, rfl, rfl, hx, at0, rfl, _, rfl, tst "rename" (fun e => ?_) (fun n2 => ?_)⟩
    · subst e
      obtain ⟨d0, d1, rfl⟩ := len2 (Option.some.inj hln).symm
      obtain ⟨x0, x1, e, t0, t1⟩ := th2 hA
      obtain rfl := List.tail_eq_of_cons_eq e
      obtain ⟨hc, rfl⟩ := ifs (show renameB fs d0 d1 = some gs from h)
      obtain ⟨c1, c2⟩ := (Bool.and_eq_true _ _).mp hc
      obtain ⟨n, rfl, hn⟩ := isNew_of c2
      obtain rfl := t1.asStr
      obtain ⟨so, hso⟩ := Option.isSome_iff_exists.mp c1
      obtain ⟨o, rfl, ho⟩ := sortOf_of hso
      obtain rfl := t0.asStr
      replace q : ∀ H' u, Same H H' → Fm K H' u (fs.map (ren o n)) → Q u H' := q
      refine ⟨_, rfl, fa, rfl, ⟨fx, hz.sq⟩, fun D nD => ?_⟩
      refine lc_acc (walk_tup (K := K) (a := fa) (xs := fx)) (fun i acc H' => ∃ ps, acc = ps.map (fun x : Addr × Str × Str => V.ref x.1) ∧ ps.map Prod.snd = (fs.take i).map (ren o n) ∧ Prs H' ps ∧ But D H H') ⟨[], rfl, rfl, (fun x hx => by cases hx), But.refl.upd⟩ (fun i acc H' _ ⟨_, _, _, _, b⟩ _ => Sq.same (t := true) hz.sq (b.new nD)) ?_ ?_
      · rintro i x acc H1 H2 hi la ⟨ps, ea, ep, hp, b⟩ hD ⟨rfl, hx2⟩
        obtain ⟨dz, hdz, tz, mz⟩ := ThAll.get2 hFA hx2
        obtain ⟨g, hg2, rfl⟩ : ∃ g, fs[i]? = some g ∧ fieldD g = dz := by
          rw [List.getElem?_map] at hdz
          cases hg2 : fs[i]? with
          | none =>
            rw [hg2] at hdz
            cases hdz
          | some g =>
            rw [hg2] at hdz
            exact ⟨g, rfl, Option.some.inj hdz⟩
        obtain ⟨pz, zs, rfl, hpz, hZ⟩ := tz.asTup
        obtain ⟨y0, y1, rfl, u0, u1⟩ := thAll2 hZ
        obtain rfl := u0.asStr
        obtain rfl := u1.asStr
        have s2 := b.new nD
        have et : (fs.take (i + 1)).map (ren o n) = (fs.take i).map (ren o n) ++ [(ren o n) g] := by rw [List.take_succ, hg2, List.map_append]; rfl
        have done : ∀ (T : Addr) (k z : Str), H2 T = none → (k, z) = (ren o n) g → Push D i (fun i acc H' => ∃ ps, acc = ps.map (fun x : Addr × Str × Str => V.ref x.1) ∧ ps.map Prod.snd = (fs.take i).map (ren o n) ∧ Prs H' ps ∧ But D H H') (.ref T) (upd H2 T (.tup [.str k, .str z])) := fun T k z nT hk => by
          have sT := newS (o := .tup [V.str k, V.str z]) nT
          refine push (sT _ _ hD) la (by omega) ⟨ps ++ [(T, k, z)], ?_, ?_, prs_snoc (prs_same hp sT) (sT _ _ hD) _ upd_same, (b.same sT).upd⟩
          · rw [ea, List.map_append]
            rfl
          · rw [List.map_append, ep, et, ← hk]
            rfl
        refine ⟨pz, _, rfl, Sq.same (t := true) hpz s2, rfl, _, _, rfl, _, _, rfl, rfl, rfl, ?_⟩
        have hx1 := Sq.same (t := true) hx s2
        refine ⟨_, rfl, _, rfl, true, a, _, 1, _, rfl, rfl, hx1, rfl, rfl, _, rfl, ite2 (fun e => ?_) (fun e => ?_)⟩
        · have eq : g.1 = o := V.str.inj (of_decide_eq_true e)
          exact ⟨_, rfl, true, a, _, 2, _, rfl, rfl, hx1, rfl, _, rfl, by show 2 ≤ sizeLine; decide, fun T nT => done T n g.2 nT (by show _ = (if g.1 = o then n else g.1, g.2); rw [if_pos eq])⟩
        · have ne : ¬ g.1 = o := fun z => e (decide_eq_true (congrArg V.str z))
          exact ⟨_, rfl, _, rfl, by show 2 ≤ sizeLine; decide, fun T nT => done T g.1 g.2 nT (by show _ = (if g.1 = o then n else g.1, g.2); rw [if_neg ne])⟩
      · rintro acc H1 la ⟨ps, rfl, ep, hp, b⟩ hD
        rw [lf, List.take_length] at ep
        have s2 := b.new nD
        refine ⟨D, _, rfl, SqL.of hD, fun l H3 s3 nl tz => q H3 _ (s2.trans s3) ⟨l, _, rfl, tz, ?_⟩⟩
        have := th_fields (K := K) (prs_same hp s3)
        rw [ep] at this
        exact this
    refine ⟨_, rfl, true, a, _, 0, _, rfl, rfl, hx, at0, rfl, _, rfl, tst "drop" (fun e => ?_) (fun n3 => ?_)⟩
    · subst e
      obtain ⟨d0, rfl⟩ := len1 (Option.some.inj hln).symm
      obtain ⟨x0, e, t0⟩ := th1 hA
      obtain rfl := List.tail_eq_of_cons_eq e
      obtain ⟨hc, rfl⟩ := ifs (show dropB fs d0 = some gs from h)
      obtain ⟨so, hso⟩ := Option.isSome_iff_exists.mp hc
      obtain ⟨o, rfl, ho⟩ := sortOf_of hso
      obtain rfl := t0.asStr
      replace q : ∀ H' u, Same H H' → Fm K H' u (fs.filter fun x => !decide (x.1 = o)) → Q u H' := q
      refine ⟨_, rfl, fa, rfl, ⟨fx, hz.sq⟩, fun D nD => ?_⟩
      refine lc_it (walk_tup (K := K) (a := fa) (xs := fx)) (fun i H' => But D H H' ∧ ∃ acc, H' D = some (.lst acc) ∧ acc.length ≤ i ∧ ThAll K H acc (((fs.take i).filter fun x => !decide (x.1 = o)).map fieldD)) ⟨But.refl.upd, [], upd_same, Nat.le_refl _, .nil⟩ (fun i H' _ ⟨b, _⟩ => Sq.same (t := true) hz.sq (b.new nD)) ?_ ?_
      · rintro i x H1 H2 hi ⟨b, acc, hD, la, hacc⟩ ⟨rfl, hx2⟩
        obtain ⟨dz, hdz, tz, mz⟩ := ThAll.get2 hFA hx2
        obtain ⟨g, hg2, rfl⟩ : ∃ g, fs[i]? = some g ∧ fieldD g = dz := by
          rw [List.getElem?_map] at hdz
          cases hg2 : fs[i]? with
          | none =>
            rw [hg2] at hdz
            cases hdz
          | some g =>
            rw [hg2] at hdz
            exact ⟨g, rfl, Option.some.inj hdz⟩
        obtain ⟨pz, zs, rfl, hpz, hZ⟩ := id tz.asTup
        obtain ⟨y0, y1, rfl, u0, u1⟩ := thAll2 hZ
        obtain rfl := u0.asStr
        obtain rfl := u1.asStr
        have s2 := b.new nD
        have et : fs.take (i + 1) = fs.take i ++ [g] := by rw [List.take_succ, hg2]; rfl
        refine ⟨rfl, _, rfl, true, pz, _, 0, _, rfl, rfl, Sq.same (t := true) hpz s2, rfl, _, rfl, true, a, _, 1, _, rfl, rfl, Sq.same (t := true) hx s2, rfl, rfl, _, rfl, ite2 (fun e => ?_) (fun e => ?_)⟩
        · have ne : g.1 ≠ o := fun z => by
            rw [decide_eq_true (congrArg V.str z)] at e
            cases e
          refine ⟨_, rfl, acc, hD, by omega, b.upd, acc ++ [.ref pz], upd_same, by rw [List.length_append, List.length_singleton]; omega, ?_⟩
          rw [et, List.filter_append, List.filter_cons_of_pos (by simpa using ne), List.map_append]
          exact ThAll.app hacc (.cons tz .nil)
        · have eq : g.1 = o := by
            have h1 : (!decide (V.str g.1 = V.str o)) = false := by simpa using e
            rw [Bool.not_eq_false'] at h1
            exact V.str.inj (of_decide_eq_true h1)
          refine ⟨b, acc, hD, by omega, ?_⟩
          rw [et, List.filter_append, List.filter_cons_of_neg (by simpa using eq)]
          simpa using hacc
      · rintro H1 ⟨b, acc, hD, la, hacc⟩
        rw [lf, List.take_length] at hacc
        have s2 := b.new nD
        exact ⟨D, _, rfl, SqL.of hD, fun l H3 s3 nl tz => q H3 _ (s2.trans s3) ⟨l, _, rfl, tz, hacc.kept (kept_same (s2.trans s3))⟩⟩
    refine ⟨_, rfl, true, a, _, 0, _, rfl, rfl, hx, at0, rfl, _, rfl, tst "table" (fun e => ?_) (fun n4 => ?_)⟩
    · subst e
      obtain ⟨d0, d1, d2, d3, rfl⟩ := len4 (Option.some.inj hln).symm
      obtain ⟨x0, x1, x2, x3, e, t0, t1, t2, t3⟩ := th4 hA
      obtain rfl := List.tail_eq_of_cons_eq e
      replace h : tableB fs d0 d1 d2 d3 = some gs := h
      unfold tableB at h
      obtain ⟨el, hel⟩ : ∃ el, sortOf fs d0 = some el := by
        cases ho : sortOf fs d0 with
        | none =>
          rw [ho] at h
          cases h
        | some el => exact ⟨el, rfl⟩
      rw [hel] at h
      obtain ⟨hc, rfl⟩ := ifs h
      obtain ⟨o, rfl, ho⟩ := sortOf_of hel
      obtain rfl := t0.asStr
      obtain ⟨so, rfl⟩ : ∃ z, d1 = .str z := by
        have hsb : sortB d1 = true := ((Bool.and_eq_true _ _).mp ((Bool.and_eq_true _ _).mp ((Bool.and_eq_true _ _).mp hc).1).1).2
        cases d1 <;> first | exact ⟨_, rfl⟩ | cases hsb
      obtain rfl := t1.asStr
      replace q : ∀ H' u, Same H H' → Fm K H' u (setF fs o so) → Q u H' := q
      replace q : ∀ H' u, Same H H' → Fm K H' u (fs.map (fun x : Str × Str => if x.1 = o then (x.1, so) else x)) → Q u H' := by
        rw [← set_map ho]
        exact q
      refine ⟨_, rfl, fa, rfl, ⟨fx, hz.sq⟩, fun D nD => ?_⟩
      refine lc_acc (walk_tup (K := K) (a := fa) (xs := fx)) (fun i acc H' => ∃ ps, acc = ps.map (fun x : Addr × Str × Str => V.ref x.1) ∧ ps.map Prod.snd = (fs.take i).map (fun x : Str × Str => if x.1 = o then (x.1, so) else x) ∧ Prs H' ps ∧ But D H H') ⟨[], rfl, rfl, (fun x hx => by cases hx), But.refl.upd⟩ (fun i acc H' _ ⟨_, _, _, _, b⟩ _ => Sq.same (t := true) hz.sq (b.new nD)) ?_ ?_
      · rintro i x acc H1 H2 hi la ⟨ps, ea, ep, hp, b⟩ hD ⟨rfl, hx2⟩
        obtain ⟨dz, hdz, tz, mz⟩ := ThAll.get2 hFA hx2
        obtain ⟨g, hg2, rfl⟩ : ∃ g, fs[i]? = some g ∧ fieldD g = dz := by
          rw [List.getElem?_map] at hdz
          cases hg2 : fs[i]? with
          | none =>
            rw [hg2] at hdz
            cases hdz
          | some g =>
            rw [hg2] at hdz
            exact ⟨g, rfl, Option.some.inj hdz⟩
        obtain ⟨pz, zs, rfl, hpz, hZ⟩ := tz.asTup
        obtain ⟨y0, y1, rfl, u0, u1⟩ := thAll2 hZ
        obtain rfl := u0.asStr
        obtain rfl := u1.asStr
        have s2 := b.new nD
        have et : (fs.take (i + 1)).map (fun x : Str × Str => if x.1 = o then (x.1, so) else x) = (fs.take i).map (fun x : Str × Str => if x.1 = o then (x.1, so) else x) ++ [(fun x : Str × Str => if x.1 = o then (x.1, so) else x) g] := by rw [List.take_succ, hg2, List.map_append]; rfl
        have done : ∀ (T : Addr) (k z : Str), H2 T = none → (k, z) = (fun x : Str × Str => if x.1 = o then (x.1, so) else x) g → Push D i (fun i acc H' => ∃ ps, acc = ps.map (fun x : Addr × Str × Str => V.ref x.1) ∧ ps.map Prod.snd = (fs.take i).map (fun x : Str × Str => if x.1 = o then (x.1, so) else x) ∧ Prs H' ps ∧ But D H H') (.ref T) (upd H2 T (.tup [.str k, .str z])) := fun T k z nT hk => by
          have sT := newS (o := .tup [V.str k, V.str z]) nT
          refine push (sT _ _ hD) la (by omega) ⟨ps ++ [(T, k, z)], ?_, ?_, prs_snoc (prs_same hp sT) (sT _ _ hD) _ upd_same, (b.same sT).upd⟩
          · rw [ea, List.map_append]
            rfl
          · rw [List.map_append, ep, et, ← hk]
            rfl
        refine ⟨pz, _, rfl, Sq.same (t := true) hpz s2, rfl, _, _, rfl, _, _, rfl, rfl, rfl, ?_⟩
        have hx1 := Sq.same (t := true) hx s2
        refine ⟨_, rfl, _, rfl, _, rfl, true, a, _, 1, _, rfl, rfl, hx1, rfl, rfl, _, rfl, ite2 (fun e => ?_) (fun e => ?_)⟩
        · have eq : g.1 = o := V.str.inj (of_decide_eq_true e)
          exact ⟨_, rfl, true, a, _, 2, _, rfl, rfl, hx1, rfl, by show 2 ≤ sizeLine; decide, fun T nT => done T g.1 so nT (by show _ = (if g.1 = o then (g.1, so) else g); rw [if_pos eq])⟩
        · have ne : ¬ g.1 = o := fun z => e (decide_eq_true (congrArg V.str z))
          exact ⟨_, rfl, by show 2 ≤ sizeLine; decide, fun T nT => done T g.1 g.2 nT (by show _ = (if g.1 = o then (g.1, so) else g); rw [if_neg ne])⟩
      · rintro acc H1 la ⟨ps, rfl, ep, hp, b⟩ hD
        rw [lf, List.take_length] at ep
        have s2 := b.new nD
        refine ⟨D, _, rfl, SqL.of hD, fun l H3 s3 nl tz => q H3 _ (s2.trans s3) ⟨l, _, rfl, tz, ?_⟩⟩
        have := th_fields (K := K) (prs_same hp s3)
        rw [ep] at this
        exact this
    refine ⟨_, rfl, true, a, _, 0, _, rfl, rfl, hx, at0, rfl, _, rfl, tst "scale" (fun e => ?_) (fun n5 => ?_)⟩
    · subst e
      obtain ⟨d0, d1, d2, rfl⟩ := len3 (Option.some.inj hln).symm
      obtain ⟨_, rfl⟩ := ifs (show scaleB fs d0 d1 d2 = some gs from h)
      exact ⟨_, rfl, q H _ (Same.refl H) hF⟩
    refine ⟨_, rfl, true, a, _, 0, _, rfl, rfl, hx, at0, rfl, _, rfl, tst "copy" (fun e => ?_) (fun n6 => ?_)⟩
    · subst e
      obtain ⟨d0, d1, rfl⟩ := len2 (Option.some.inj hln).symm
      obtain ⟨x0, x1, e, t0, t1⟩ := th2 hA
      obtain rfl := List.tail_eq_of_cons_eq e
      replace h : copyB fs d0 d1 = some gs := h
      unfold copyB at h
      obtain ⟨el, hel⟩ : ∃ el, sortOf fs d0 = some el := by
        cases ho : sortOf fs d0 with
        | none =>
          rw [ho] at h
          cases h
        | some el => exact ⟨el, rfl⟩
      rw [hel] at h
      obtain ⟨hc, rfl⟩ := ifs h
      obtain ⟨o, rfl, ho⟩ := sortOf_of hel
      obtain rfl := t0.asStr
      obtain ⟨n, rfl, hn⟩ := isNew_of hc
      obtain rfl := t1.asStr
      obtain ⟨ps, rfl, hps⟩ := refs_of hFA
      refine ⟨_, rfl, _, rfl, true, a, _, 2, _, rfl, rfl, hx, rfl, _, rfl, fa, ps, kvsOf fs, rfl, hz, hps, fun p np => ?_⟩
      have s1 := newS (o := .dK (mergeK [] (kvsOf fs))) np
      have g := DGet.k (k := Sum.inr o) (upd_same (H := H) (a := p) (o := .dK (mergeK [] (kvsOf fs))))
      rw [show mergeK [] (kvsOf fs) = kvsOf fs from merge_of fs [] nd] at g
      rw [val_of, ho] at g
      rw [show mergeK [] (kvsOf fs) = kvsOf fs from merge_of fs [] nd] at s1 ⊢
      refine ⟨_, rfl, true, a, _, 1, _, rfl, rfl, Sq.same (t := true) hx s1, rfl, p, .str el, rfl, g, by show 2 ≤ sizeLine; decide, fun T nT => ⟨by show 1 ≤ sizeLine; decide, fun p2 H2 s2 n2 tz => ?_⟩⟩
      have sT := newS (o := .tup [V.str n, V.str el]) nT
      have s12 := (s1.trans sT).trans s2
      refine ⟨fa, p2, _, _, rfl, rfl, (hz.same s12).sq, tz, by simp, by rw [lf, List.length_singleton]; omega, fun p3 H3 s3 tz3 => q H3 _ (s12.trans s3) ?_⟩
      exact fm_snoc tz3 (hFA.kept (kept_same (s12.trans s3))) ((s2.trans s3) _ _ upd_same)
    rcases lenOf_in hln with e | e | e | e | e | e | e | e | e
    · exact absurd e n2
    · exact absurd e n6
    · exact absurd e n3
    · subst e
      obtain ⟨d0, d1, d2, rfl⟩ := len3 (Option.some.inj hln).symm
      obtain ⟨x0, x1, x2, e, t0, t1, t2⟩ := th3 hA
      obtain rfl := List.tail_eq_of_cons_eq e
      obtain ⟨hc, rfl⟩ := ifs (show putB fs d0 d1 d2 = some gs from h)
      obtain ⟨c1, c2⟩ := (Bool.and_eq_true _ _).mp hc
      obtain ⟨so, rfl⟩ : ∃ z, d1 = .str z := by
        have hsb : sortB d1 = true := ((Bool.and_eq_true _ _).mp c2).1
        cases d1 <;> first | exact ⟨_, rfl⟩ | cases hsb
      obtain rfl := t1.asStr
      obtain ⟨n, rfl, hn⟩ := isNew_of c1
      obtain rfl := t0.asStr
      refine ⟨_, rfl, _, rfl, true, a, _, 1, _, rfl, rfl, hx, rfl, fun pD nD => ⟨upd_same, ([(Sum.inr "sum", V.str "amount"), (Sum.inr "join", V.str "text")] : List (Key × V)), rfl, by show 2 ≤ 15; decide, ?_⟩⟩
      have s1 : Same H (upd (upd H pD (.dK [])) pD (.dK (mergeK [] ([(Sum.inr "sum", V.str "amount"), (Sum.inr "join", V.str "text")] : List (Key × V))))) := fun b o e => by
        have ne := ne_of_none e nD
        rw [upd_ne ne, upd_ne ne]
        exact e
      have g := DGet.k (k := Sum.inr (Str.ofString "put")) (upd_same (H := upd H pD (.dK [])) (a := pD) (o := .dK (mergeK [] ([(Sum.inr "sum", V.str "amount"), (Sum.inr "join", V.str "text")] : List (Key × V)))))
      rw [show valV (mergeK [] ([(Sum.inr "sum", V.str "amount"), (Sum.inr "join", V.str "text")] : List (Key × V))) (Sum.inr (Str.ofString "put")) = none from by kernel_rfl] at g
      have hd : (upd (upd H pD (.dK [])) pD (.dK (mergeK [] ([(Sum.inr "sum", V.str "amount"), (Sum.inr "join", V.str "text")] : List (Key × V))))) pD = some (.dK (mergeK [] ([(Sum.inr "sum", V.str "amount"), (Sum.inr "join", V.str "text")] : List (Key × V)))) := upd_same
      generalize upd (upd H pD (.dK [])) pD (.dK (mergeK [] ([(Sum.inr "sum", V.str "amount"), (Sum.inr "join", V.str "text")] : List (Key × V)))) = HD at s1 g hd ⊢
      have hx2 := Sq.same (t := true) hx s1
      refine ⟨pD, rfl, .inl ⟨_, .inl hd⟩, _, rfl, true, a, _, 0, _, rfl, rfl, hx2, rfl, _, rfl, true, a, _, 2, _, rfl, rfl, hx2, rfl, _, g, by show 2 ≤ sizeLine; decide, fun T nT => ⟨by show 1 ≤ sizeLine; decide, fun p2 H2 s2 n2 tz => ?_⟩⟩
      have sT := newS (o := .tup [V.str n, V.str so]) nT
      have s12 := (s1.trans sT).trans s2
      refine ⟨fa, p2, _, _, rfl, rfl, (hz.same s12).sq, tz, by simp, by rw [lf, List.length_singleton]; omega, fun p3 H3 s3 tz3 => q H3 _ (s12.trans s3) ?_⟩
      exact fm_snoc tz3 (hFA.kept (kept_same (s12.trans s3))) ((s2.trans s3) _ _ upd_same)
    · exact absurd e n5
    · subst e
      obtain ⟨d0, d1, rfl⟩ := len2 (Option.some.inj hln).symm
      obtain ⟨x0, x1, e, t0, t1⟩ := th2 hA
      obtain rfl := List.tail_eq_of_cons_eq e
      obtain ⟨hc, rfl⟩ := ifs (show sumB fs d0 d1 = some gs from h)
      obtain ⟨c1, c2⟩ := (Bool.and_eq_true _ _).mp hc
      obtain ⟨n, rfl, hn⟩ := isNew_of c1
      obtain rfl := t0.asStr
      refine ⟨_, rfl, _, rfl, true, a, _, 1, _, rfl, rfl, hx, rfl, fun pD nD => ⟨upd_same, ([(Sum.inr "sum", V.str "amount"), (Sum.inr "join", V.str "text")] : List (Key × V)), rfl, by show 2 ≤ 15; decide, ?_⟩⟩
      have s1 : Same H (upd (upd H pD (.dK [])) pD (.dK (mergeK [] ([(Sum.inr "sum", V.str "amount"), (Sum.inr "join", V.str "text")] : List (Key × V))))) := fun b o e => by
        have ne := ne_of_none e nD
        rw [upd_ne ne, upd_ne ne]
        exact e
      have g := DGet.k (k := Sum.inr (Str.ofString "sum")) (upd_same (H := upd H pD (.dK [])) (a := pD) (o := .dK (mergeK [] ([(Sum.inr "sum", V.str "amount"), (Sum.inr "join", V.str "text")] : List (Key × V)))))
      rw [show valV (mergeK [] ([(Sum.inr "sum", V.str "amount"), (Sum.inr "join", V.str "text")] : List (Key × V))) (Sum.inr (Str.ofString "sum")) = some (V.str "amount") from by kernel_rfl] at g
      have hd : (upd (upd H pD (.dK [])) pD (.dK (mergeK [] ([(Sum.inr "sum", V.str "amount"), (Sum.inr "join", V.str "text")] : List (Key × V))))) pD = some (.dK (mergeK [] ([(Sum.inr "sum", V.str "amount"), (Sum.inr "join", V.str "text")] : List (Key × V)))) := upd_same
      generalize upd (upd H pD (.dK [])) pD (.dK (mergeK [] ([(Sum.inr "sum", V.str "amount"), (Sum.inr "join", V.str "text")] : List (Key × V)))) = HD at s1 g hd ⊢
      have hx2 := Sq.same (t := true) hx s1
      refine ⟨pD, rfl, .inl ⟨_, .inl hd⟩, _, rfl, true, a, _, 0, _, rfl, rfl, hx2, rfl, _, rfl, true, a, _, 2, _, rfl, rfl, hx2, rfl, _, g, by show 2 ≤ sizeLine; decide, fun T nT => ⟨by show 1 ≤ sizeLine; decide, fun p2 H2 s2 n2 tz => ?_⟩⟩
      have sT := newS (o := .tup [V.str n, V.str "amount"]) nT
      have s12 := (s1.trans sT).trans s2
      refine ⟨fa, p2, _, _, rfl, rfl, (hz.same s12).sq, tz, by simp, by rw [lf, List.length_singleton]; omega, fun p3 H3 s3 tz3 => q H3 _ (s12.trans s3) ?_⟩
      exact fm_snoc tz3 (hFA.kept (kept_same (s12.trans s3))) ((s2.trans s3) _ _ upd_same)
    · subst e
      obtain ⟨d0, d1, rfl⟩ := len2 (Option.some.inj hln).symm
      obtain ⟨x0, x1, e, t0, t1⟩ := th2 hA
      obtain rfl := List.tail_eq_of_cons_eq e
      obtain ⟨hc, rfl⟩ := ifs (show joinB fs d0 d1 = some gs from h)
      obtain ⟨c1, c2⟩ := (Bool.and_eq_true _ _).mp hc
      obtain ⟨n, rfl, hn⟩ := isNew_of c1
      obtain rfl := t0.asStr
      refine ⟨_, rfl, _, rfl, true, a, _, 1, _, rfl, rfl, hx, rfl, fun pD nD => ⟨upd_same, ([(Sum.inr "sum", V.str "amount"), (Sum.inr "join", V.str "text")] : List (Key × V)), rfl, by show 2 ≤ 15; decide, ?_⟩⟩
      have s1 : Same H (upd (upd H pD (.dK [])) pD (.dK (mergeK [] ([(Sum.inr "sum", V.str "amount"), (Sum.inr "join", V.str "text")] : List (Key × V))))) := fun b o e => by
        have ne := ne_of_none e nD
        rw [upd_ne ne, upd_ne ne]
        exact e
      have g := DGet.k (k := Sum.inr (Str.ofString "join")) (upd_same (H := upd H pD (.dK [])) (a := pD) (o := .dK (mergeK [] ([(Sum.inr "sum", V.str "amount"), (Sum.inr "join", V.str "text")] : List (Key × V)))))
      rw [show valV (mergeK [] ([(Sum.inr "sum", V.str "amount"), (Sum.inr "join", V.str "text")] : List (Key × V))) (Sum.inr (Str.ofString "join")) = some (V.str "text") from by kernel_rfl] at g
      have hd : (upd (upd H pD (.dK [])) pD (.dK (mergeK [] ([(Sum.inr "sum", V.str "amount"), (Sum.inr "join", V.str "text")] : List (Key × V))))) pD = some (.dK (mergeK [] ([(Sum.inr "sum", V.str "amount"), (Sum.inr "join", V.str "text")] : List (Key × V)))) := upd_same
      generalize upd (upd H pD (.dK [])) pD (.dK (mergeK [] ([(Sum.inr "sum", V.str "amount"), (Sum.inr "join", V.str "text")] : List (Key × V)))) = HD at s1 g hd ⊢
      have hx2 := Sq.same (t := true) hx s1
      refine ⟨pD, rfl, .inl ⟨_, .inl hd⟩, _, rfl, true, a, _, 0, _, rfl, rfl, hx2, rfl, _, rfl, true, a, _, 2, _, rfl, rfl, hx2, rfl, _, g, by show 2 ≤ sizeLine; decide, fun T nT => ⟨by show 1 ≤ sizeLine; decide, fun p2 H2 s2 n2 tz => ?_⟩⟩
      have sT := newS (o := .tup [V.str n, V.str "text"]) nT
      have s12 := (s1.trans sT).trans s2
      refine ⟨fa, p2, _, _, rfl, rfl, (hz.same s12).sq, tz, by simp, by rw [lf, List.length_singleton]; omega, fun p3 H3 s3 tz3 => q H3 _ (s12.trans s3) ?_⟩
      exact fm_snoc tz3 (hFA.kept (kept_same (s12.trans s3))) ((s2.trans s3) _ _ upd_same)
    · exact absurd e n4
    · exact absurd e n1
end
end St6

set_option autoImplicit false
set_option maxHeartbeats 4000000
namespace St6
open PySem PySem.Spec PyProof.Rows L2 Tg Cc TL
/-! values drawn -/
def vOf : PyData → V
  | .int i => .int i
  | .str s => .str s
  | _ => .non
/-- a plain value: a whole number, a text -/
def Plain : PyData → Prop
  | .int i => i.natAbs < 10 ^ 13
  | .str s => s.length ≤ 40 ∧ As s
  | _ => False
theorem th_vOf {K : PySem.W.Frag} {H : Hp} {D : PyData} (h : Plain D) : Th K H (vOf D) D := by
  cases D with
  | int i => exact .int i
  | str s => exact .str s
  | _ => exact h.elim
theorem Plain.bd {N m : Nat} {D : PyData} (h : Plain D) (hN : 40 ≤ N) : Bd N m D := by
  cases D with
  | int i => exact bd_int.mpr (Nat.lt_of_lt_of_le h (Nat.pow_le_pow_right (by decide) (by omega)))
  | str s => exact bd_str.mpr ⟨Nat.le_trans h.1 hN, h.2⟩
  | _ => exact h.elim
def spWordD : Sp := fun vs H Q _ => ∃ (d cl : Addr) (ns : List Int) (n : Nat), vs = [.ref d] ∧ Pen H d cl ns n ∧ n ≤ 900000000 ∧ ∀ H' z, Fr [d] H H' → Pen H' d cl ns (n + 12) → Low z → 1 ≤ z.length → z.length ≤ 8 → Q (.str z) H'
def SignsOk (z : Str) : Prop := z.length ≤ 40 ∧ ∀ c ∈ z.cps.toList, signB c = true
def spTextD : Sp := fun vs H Q _ => ∃ (d cl : Addr) (ns : List Int) (n : Nat), vs = [.ref d] ∧ Pen H d cl ns n ∧ n ≤ 900000000 ∧ ∀ H' z, Fr [d] H H' → Pen H' d cl ns (n + 45) → SignsOk z → Q (.str z) H'
def spNumberD : Sp := fun vs H Q _ => ∃ (d cl : Addr) (ns : List Int) (n : Nat), vs = [.ref d] ∧ Pen H d cl ns n ∧ n ≤ 900000000 ∧ ∀ H' (i : Int), Fr [d] H H' → Pen H' d cl ns (n + 8) → i.natAbs < 10 ^ 13 → Q (.int i) H'
def spValueD : Sp := fun vs H Q _ => ∃ (d cl : Addr) (ns : List Int) (n : Nat) (s : Str), vs = [.ref d, .str s] ∧ Pen H d cl ns n ∧ n ≤ 900000000 ∧ s ∈ sorts ∧ ∀ H' D, Fr [d] H H' → Pen H' d cl ns (n + 45) → Plain D → ofSort s D = true → Q (vOf D) H'
def spValuesD (K : PySem.W.Frag) : Sp := fun vs H Q _ => ∃ (d cl : Addr) (ns : List Int) (n : Nat) (f : V) (fs : List (Str × Str)), vs = [.ref d, f] ∧ Pen H d cl ns n ∧ n ≤ 800000000 ∧ Th K H f (formD fs) ∧ GoodF fs ∧
  ∀ H' q Ds, Fr [d] H H' → Pen H' d cl ns (n + 280) → H' q = some (.tup (Ds.map vOf)) → (∀ D ∈ Ds, Plain D) → fitsB fs (.tuple Ds) = true → Q (.ref q) H'
theorem th_vals {K : PySem.W.Frag} {H : Hp} : ∀ {Ds : List PyData}, (∀ D ∈ Ds, Plain D) → ThAll K H (Ds.map vOf) Ds
  | [], _ => .nil
  | D :: r, h => .cons (th_vOf (h D (List.mem_cons_self ..))) (th_vals fun x hx => h x (List.mem_cons_of_mem _ hx))
theorem fits_len {fs : List (Str × Str)} {Ds : List PyData} (h : fitsB fs (.tuple Ds) = true) : Ds.length = fs.length := by
  have : (decide (Ds.length = fs.length) && (Ds.zip fs).all fun x => ofSort x.2.2 x.1) = true := h
  rw [Bool.and_eq_true] at this
  exact of_decide_eq_true this.1
theorem signs_ok : ∀ c ∈ (Str.ofString " !\"#$&'()*+,-./0123456789:;<=>?@ABCDEFGHIJKLMNOPQRSTUVWXYZ[\\]^_`abcdefghijklmnopqrstuvwxyz{|}~").cps.toList, signB c = true := by decide +kernel
theorem sign_as {c : Nat} (h : signB c = true) : c < 128 := by
  unfold signB at h
  rw [Bool.and_eq_true, Bool.and_eq_true] at h
  have := of_decide_eq_true h.1.2
  omega
theorem SignsOk.plain {z : Str} (h : SignsOk z) : Plain (.str z) := ⟨h.1, fun c hc => sign_as (h.2 c hc)⟩
def ways6 : List Int := [0, 0, 1, 2, 2, 3]
theorem join_signs {zs : List Str} (h : ∀ z ∈ zs, z.length = 1 ∧ ∀ y ∈ z.cps.toList, signB y = true) : (∀ c ∈ (Txt.join (Str.ofString "") zs).cps.toList, signB c = true) ∧ (Txt.join (Str.ofString "") zs).length = zs.length ∧ (zs.map (·.length)).sum + zs.length * (Str.ofString "").length = zs.length := by
  have e0 : (Str.ofString "").length = 0 := by decide +kernel
  have t0 : tl (Str.ofString "") = [] := by decide +kernel
  have hsum : ∀ ys : List Str, (∀ z ∈ ys, z.length = 1) → (ys.map (·.length)).sum = ys.length := by
    intro ys
    induction ys with
    | nil => intro _; rfl
    | cons y r ih =>
      intro hy
      rw [List.map_cons, List.sum_cons, ih fun z hz => hy z (List.mem_cons_of_mem _ hz), hy y (List.mem_cons_self ..), List.length_cons]
      omega
  refine ⟨fun c hc => ?_, ?_, by rw [e0, hsum zs fun z hz => (h z hz).1]; omega⟩
  · have hc : c ∈ tl (Txt.join (Str.ofString "") zs) := hc
    rw [join_eq, tl_join, t0] at hc
    obtain ⟨y, hy, hey⟩ := joinL_mem _ _ hc
    obtain ⟨z, hz, rfl⟩ := List.mem_map.mp hy
    exact (h z hz).2 c hey
  · rw [len_tl, join_eq, tl_join, t0, joinL_len]
    have : ((zs.map tl).map List.length) = zs.map (·.length) := by
      rw [List.map_map]
      exact List.map_congr_left fun z _ => (len_tl z).symm
    rw [this, hsum zs fun z hz => (h z hz).1]
theorem zip_snoc {α β : Type} : ∀ {l : List α} {m : List β} {x : α} {y : β}, m[l.length]? = some y → (l ++ [x]).zip m = l.zip m ++ [(x, y)]
  | [], [], x, y, h => by simp at h
  | [], b :: m, x, y, h => by
    have : b = y := by simpa using h
    subst this
    rfl
  | a :: l, [], x, y, h => by simp at h
  | a :: l, b :: m, x, y, h => by
    have ih := zip_snoc (l := l) (m := m) (x := x) (y := y) (by simpa using h)
    show (a, b) :: (l ++ [x]).zip m = (a, b) :: (l.zip m ++ [(x, y)])
    rw [ih]
def fews : List Str := ["a", "b", "ab", "ba", "abcdefgh", "z"]
theorem fews_ok : ∀ z ∈ fews, Low z ∧ 1 ≤ z.length ∧ z.length ≤ 8 := by
  have : ∀ z ∈ fews, (∀ c ∈ z.cps.toList, lowC c = true) ∧ 1 ≤ z.length ∧ z.length ≤ 8 := by decide +kernel
  exact this
theorem of_word {z : Str} (h : Low z) (h1 : 1 ≤ z.length) (h2 : z.length ≤ 8) : ofSort "word" (.str z) = true := by
  unfold ofSort
  rw [if_pos rfl]
  show ((decide (1 ≤ z.length) && decide (z.length ≤ 8)) && z.cps.toList.all lowC) = true
  rw [decide_eq_true h1, decide_eq_true h2, List.all_eq_true.mpr h]
  rfl
theorem of_text {z : Str} (h : SignsOk z) : ofSort "text" (.str z) = true := by
  unfold ofSort
  rw [if_neg (by decide), if_pos rfl]
  show (z.cps.toList.all signB && decide (z.length ≤ 40)) = true
  rw [decide_eq_true h.1, List.all_eq_true.mpr h.2]
  rfl
theorem of_number {s : Str} {i : Int} (h : s = "code" ∨ s = "amount") : ofSort s (.int i) = true := by
  rcases h with rfl | rfl <;> (unfold ofSort; rw [if_neg (by decide), if_neg (by decide)]; rfl)
section
variable {P : Program} {w : World} {K : PySem.W.Frag} {mg : Str → Option Value} {base : Heap}
theorem scwordD : FnScope ["pen", "few", "letters", "k"] ["pen"] (defScope sLawWord) := ⟨rfl, rfl, rfl, by decide +kernel, rfl, by decide +kernel, by decide +kernel⟩
theorem ok_wordD {f : Addr} {fd : FuncData} (F : FnP K "_law_word" sLawWord f fd) {f__law_draw : Addr} {fd__law_draw : FuncData} (c__law_draw : Cl P w K mg base CX0 "_law_draw" 1 ["pen", "many"] (spDraw) f__law_draw fd__law_draw) (mb_range : mg "range" = none)   : FnOk P w K mg base CX0 2 f fd ["pen"] (spWordD) := by
  refine F.ok scwordD (fun vs H Q E h => ?_) (fun cdv A outer s H vs Q E hr h => ?_)
  · obtain ⟨d, cl, ns, n, rfl, _⟩ := h
    rfl
  · obtain ⟨d, cl, ns, n, rfl, hP, hn, q⟩ := h
    have hu := hu_of hr
    have hs := szl
    refine ⟨_, PSs.nox (pss_cons (ps_set (i := 1) scwordD.nd rfl (Or.inl rfl) (pe_lst (pa_cons (pe_str) (pa_cons (pe_str) (pa_cons (pe_str) (pa_cons (pe_str) (pa_cons (pe_str) (pa_cons (pe_str) pa_nil))))))))
      (pss_cons (ps_set (i := 2) scwordD.nd rfl (Or.inr rfl) (pe_str))
      (pss_cons (ps_if (pt_cmpR op_gt (pe_call c__law_draw.ok (hr.mono (by decide)) (by rfl) c__law_draw.m c__law_draw.kp c__law_draw.b .nil pass0 (pa_cons (pv 0) (pa_cons (pe_int) pa_nil))) (pe_int) (nomark _)) (pss_one (ps_ret (pe_ix ix_list (pv 1) (pe_call c__law_draw.ok (hr.mono (by decide)) (by rfl) c__law_draw.m c__law_draw.kp c__law_draw.b .nil pass0 (pa_cons (pv 0) (pa_cons (pe_int) pa_nil))) (fun _ _ => rfl)))) (pss_nil))
      (pss_one (ps_ret (pe_join (pe_str) (pe_lc (own := [("k", 3)]) (g := gName 3) (tt := tYes) rfl scwordD.nd (pi_range1 (by rfl) mb_range (pa_cons (pe_op op_add (pe_int) (pe_call c__law_draw.ok (hr.mono (by decide)) (by rfl) c__law_draw.m c__law_draw.kp c__law_draw.b .nil pass0 (pa_cons (pv 0) (pa_cons (pe_int) pa_nil)))) pa_nil)) (blkOk_by (own := [("k", 3)]) (N := ["pen", "few", "letters", "k"]) (sc := defScope sLawWord) (by decide +kernel)) (fun _ _ _ _ _ => pg_name (i := 3) scwordD.nd rfl (Or.inl rfl)) (fun _ _ _ _ _ => pts_nil) (fun _ _ _ _ _ => pe_ix ix_str (pv 2) (pe_call c__law_draw.ok (hr.mono (by decide)) (by rfl) c__law_draw.m c__law_draw.kp c__law_draw.b .nil pass0 (pa_cons (pv 0) (pa_cons (pe_int) pa_nil))) (fun _ _ => rfl))))))))), ?_⟩
    refine ⟨by show 6 ≤ sizeLine; decide, fun l nl => ?_⟩
    obtain ⟨⟨xa0, xb0, hd0, _⟩, hc0, _⟩ := id hP
    have ndl : d ≠ l := ne_of_none hd0 nl
    have P0 := hP.fr (fr_new (S := []) (o := .lst (fews.map V.str)) nl) (by simp) (by simp)
    refine ⟨_, rfl, d, cl, ns, 4, n, rfl, P0, by omega, by decide, by decide, fun H1 k1 f1 P1 k10 k11 => ?_⟩
    have hl1 : H1 l = some (.lst (fews.map V.str)) := f1 _ _ (by simpa using ndl.symm) upd_same
    have f01 := (fr_new (S := [d]) (o := .lst (fews.map V.str)) nl).trans f1
    refine ⟨_, _, rfl, rfl, _, rfl, ite2 (fun e => ?_) (fun e => ?_)⟩
    · refine ⟨_, rfl, _, rfl, d, cl, ns, 6, _, rfl, P1, by omega, by decide, by decide, fun H2 k2 f2 P2 k20 k21 => ?_⟩
      obtain ⟨z, ez, mz⟩ := atI_map (f := V.str) (xs := fews) k20 k21
      obtain ⟨g1, g2, g3⟩ := fews_ok z mz
      exact ⟨l, _, k2, _, rfl, rfl, SqL.of (f2 _ _ (by simpa using ndl.symm) hl1), ez, q H2 z (f01.trans f2) (P2.mono (by omega)) g1 g2 g3⟩
    · refine ⟨⟨_, rfl⟩, _, rfl, d, cl, ns, 8, _, rfl, P1, by omega, by decide, by decide, fun H2 k2 f2 P2 k20 k21 => ?_⟩
      obtain ⟨c, rfl⟩ := Int.eq_ofNat_of_zero_le k20
      refine ⟨_, _, rfl, rfl, _, rfl, by omega, by omega, fun L nL => ?_⟩
      obtain ⟨⟨xa, xb, hd2, _⟩, hc2, _⟩ := id P2
      have nLd : d ≠ L := ne_of_none hd2 nL
      have nLc : cl ≠ L := ne_of_none hc2 nL
      refine lc_acc (walk_range (lo := 0) (n := ((1 : Int) + (c : Int)).toNat)) (fun i acc H' => ∃ zs : List Str, acc = zs.map V.str ∧ (∀ z ∈ zs, z.length = 1 ∧ Low z) ∧ Fr [d, L] H2 H' ∧ Pen H' d cl ns (n + 2 + i))
        ⟨[], rfl, (fun _ z => by cases z), fr_upd (by simp), P2.fr (fr_new (S := []) nL) (by simp) (by simp)⟩ (fun _ _ _ _ _ _ => trivial) ?_ ?_
      · rintro i x acc H3 H4 hi la ⟨zs, rfl, h1, f3, P3⟩ hL ⟨rfl, rfl⟩
        refine ⟨rfl, _, rfl, _, rfl, d, cl, ns, 26, _, rfl, P3, by omega, by decide, by decide, fun H5 d4 f4 P4 d40 d41 => ?_⟩
        have hL4 := f4 _ _ (by simpa using nLd.symm) hL
        refine ⟨_, d4, 97 + d4.toNat, rfl, rfl, by rw [show (Str.ofString "abcdefghijklmnopqrstuvwxyz").length = 26 by decide +kernel]; omega, abc_at d40 d41, push hL4 la (by omega) ⟨zs ++ [⟨#[97 + d4.toNat]⟩], ?_, ?_, (f3.trans (f4.mono (by simp))).trans (fr_upd (by simp)), (P4.fr (S := [L]) (fr_upd (by simp)) (by simpa using nLd) (by simpa using nLc)).mono (by omega)⟩⟩
        · rw [List.map_append]
          rfl
        · intro z hz
          rcases List.mem_append.mp hz with h | h
          · exact h1 z h
          · rw [List.mem_singleton.mp h]
            exact ⟨rfl, low_one (by omega)⟩
      · rintro acc H3 la ⟨zs, rfl, h1, f3, P3⟩ hL
        obtain ⟨j1, j2, j3⟩ := Low.join h1
        rw [List.length_map] at la
        have f03 : Fr [d] H H3 := Fr.drop (p := L) (S := [d]) (((f01.trans f2).mono (by simp)).trans (f3.mono (by simp))) (f01.free (by simpa using nLd.symm) (f2.free (by simpa using nLd.symm) nL))
        refine ⟨_, L, zs, rfl, rfl, .inl (SqL.of hL), by rw [j3]; omega, q H3 _ f03 (P3.mono (by omega)) j1 (by rw [j2]; omega) (by rw [j2]; omega)⟩
theorem sctextD : FnScope ["pen", "signs", "many", "k"] ["pen"] (defScope sLawText) := ⟨rfl, rfl, rfl, by decide +kernel, rfl, by decide +kernel, by decide +kernel⟩
theorem ok_textD {f : Addr} {fd : FuncData} (F : FnP K "_law_text" sLawText f fd) {f__law_draw : Addr} {fd__law_draw : FuncData} (c__law_draw : Cl P w K mg base CX0 "_law_draw" 1 ["pen", "many"] (spDraw) f__law_draw fd__law_draw) (mb_range : mg "range" = none)   : FnOk P w K mg base CX0 2 f fd ["pen"] (spTextD) := by
  refine F.ok sctextD (fun vs H Q E h => ?_) (fun cdv A outer s H vs Q E hr h => ?_)
  · obtain ⟨d, cl, ns, n, rfl, _⟩ := h
    rfl
  · obtain ⟨d, cl, ns, n, rfl, hP, hn, q⟩ := h
    have hu := hu_of hr
    have hs := szl
    refine ⟨_, PSs.nox (pss_cons (ps_set (i := 1) sctextD.nd rfl (Or.inr rfl) (pe_str))
      (pss_cons (ps_set (i := 2) sctextD.nd rfl (Or.inl rfl) (pe_ix ix_list (pe_lst (pa_cons (pe_int) (pa_cons (pe_call c__law_draw.ok (hr.mono (by decide)) (by rfl) c__law_draw.m c__law_draw.kp c__law_draw.b .nil pass0 (pa_cons (pv 0) (pa_cons (pe_int) pa_nil))) (pa_cons (pe_call c__law_draw.ok (hr.mono (by decide)) (by rfl) c__law_draw.m c__law_draw.kp c__law_draw.b .nil pass0 (pa_cons (pv 0) (pa_cons (pe_int) pa_nil))) (pa_cons (pe_call c__law_draw.ok (hr.mono (by decide)) (by rfl) c__law_draw.m c__law_draw.kp c__law_draw.b .nil pass0 (pa_cons (pv 0) (pa_cons (pe_int) pa_nil))) pa_nil))))) (pe_call c__law_draw.ok (hr.mono (by decide)) (by rfl) c__law_draw.m c__law_draw.kp c__law_draw.b .nil pass0 (pa_cons (pv 0) (pa_cons (pe_int) pa_nil))) (fun _ _ => rfl)))
      (pss_one (ps_ret (pe_join (pe_str) (pe_lc (own := [("k", 3)]) (g := gName 3) (tt := tYes) rfl sctextD.nd (pi_range1 (by rfl) mb_range (pa_cons (pv 2) pa_nil)) (blkOk_by (own := [("k", 3)]) (N := ["pen", "signs", "many", "k"]) (sc := defScope sLawText) (by decide +kernel)) (fun _ _ _ _ _ => pg_name (i := 3) sctextD.nd rfl (Or.inl rfl)) (fun _ _ _ _ _ => pts_nil) (fun _ _ _ _ _ => pe_ix ix_str (pv 1) (pe_call c__law_draw.ok (hr.mono (by decide)) (by rfl) c__law_draw.m c__law_draw.kp c__law_draw.b .nil pass0 (pa_cons (pv 0) (pa_cons (pe_int) pa_nil))) (fun _ _ => rfl)))))))), ?_⟩
    refine ⟨_, rfl, d, cl, ns, 4, n, rfl, hP, by omega, by decide, by decide, fun H1 k1 f1 P1 k10 k11 => ?_⟩
    refine ⟨_, rfl, d, cl, ns, 4, _, rfl, P1, by omega, by decide, by decide, fun H2 k2 f2 P2 k20 k21 => ?_⟩
    refine ⟨_, rfl, d, cl, ns, 41, _, rfl, P2, by omega, by decide, by decide, fun H3 k3 f3 P3 k30 k31 => ?_⟩
    refine ⟨by show 4 ≤ sizeLine; decide, fun l nl => ?_⟩
    obtain ⟨⟨xa0, xb0, hd0, _⟩, hc0, _⟩ := id P3
    have ndl : d ≠ l := ne_of_none hd0 nl
    have P4 := P3.fr (fr_new (S := []) (o := .lst [.int 0, .int k1, .int k2, .int k3]) nl) (by simp) (by simp)
    refine ⟨_, rfl, d, cl, ns, 4, _, rfl, P4, by omega, by decide, by decide, fun H5 k5 f5 P5 k50 k51 => ?_⟩
    have hl5 : H5 l = some (.lst [.int 0, .int k1, .int k2, .int k3]) := f5 _ _ (by simpa using ndl.symm) upd_same
    obtain ⟨x, ex, mx⟩ := atI_in (xs := ([.int 0, .int k1, .int k2, .int k3] : List V)) k50 k51
    obtain ⟨c, rfl, hc⟩ : ∃ c : Nat, x = .int (c : Int) ∧ c ≤ 40 := by
      have mx : x = .int 0 ∨ x = .int k1 ∨ x = .int k2 ∨ x = .int k3 := by simpa using mx
      rcases mx with rfl | rfl | rfl | rfl
      · exact ⟨0, rfl, Nat.zero_le _⟩
      · exact ⟨k1.toNat, by rw [Int.toNat_of_nonneg k10], by omega⟩
      · exact ⟨k2.toNat, by rw [Int.toNat_of_nonneg k20], by omega⟩
      · exact ⟨k3.toNat, by rw [Int.toNat_of_nonneg k30], by omega⟩
    have f05 := (((f1.trans f2).trans f3).trans (fr_new (S := [d]) (o := .lst [.int 0, .int k1, .int k2, .int k3]) nl)).trans f5
    refine ⟨l, _, k5, _, rfl, rfl, SqL.of hl5, ex, ?_⟩
    refine ⟨⟨_, rfl⟩, _, rfl, _, rfl, by omega, by omega, fun L nL => ?_⟩
    rw [Int.toNat_natCast]
    obtain ⟨⟨xa, xb, hd2, _⟩, hc2, _⟩ := id P5
    have nLd : d ≠ L := ne_of_none hd2 nL
    have nLc : cl ≠ L := ne_of_none hc2 nL
    refine lc_acc (walk_range (lo := 0) (n := c)) (fun i acc H' => ∃ zs : List Str, acc = zs.map V.str ∧ (∀ z ∈ zs, z.length = 1 ∧ ∀ y ∈ z.cps.toList, signB y = true) ∧ Fr [d, L] H5 H' ∧ Pen H' d cl ns (n + 4 + i))
      ⟨[], rfl, (fun _ z => by cases z), fr_upd (by simp), P5.fr (fr_new (S := []) nL) (by simp) (by simp)⟩ (fun _ _ _ _ _ _ => trivial) ?_ ?_
    · rintro i x acc H6 H7 hi la ⟨zs, rfl, h1, f6, P6⟩ hL ⟨rfl, rfl⟩
      refine ⟨rfl, _, rfl, _, rfl, d, cl, ns, 94, _, rfl, P6, by omega, by decide, by decide, fun H8 d4 f8 P8 d40 d41 => ?_⟩
      have hL4 := f8 _ _ (by simpa using nLd.symm) hL
      have l94 : (Str.ofString " !\"#$&'()*+,-./0123456789:;<=>?@ABCDEFGHIJKLMNOPQRSTUVWXYZ[\\]^_`abcdefghijklmnopqrstuvwxyz{|}~").length = 94 := by decide +kernel
      obtain ⟨y, ey, my⟩ := atI_in (xs := (Str.ofString " !\"#$&'()*+,-./0123456789:;<=>?@ABCDEFGHIJKLMNOPQRSTUVWXYZ[\\]^_`abcdefghijklmnopqrstuvwxyz{|}~").cps.toList) d40 (by rw [show (Str.ofString " !\"#$&'()*+,-./0123456789:;<=>?@ABCDEFGHIJKLMNOPQRSTUVWXYZ[\\]^_`abcdefghijklmnopqrstuvwxyz{|}~").cps.toList.length = 94 by decide +kernel]; exact d41)
      refine ⟨_, d4, y, rfl, rfl, by rw [l94]; omega, ey, push hL4 la (by omega) ⟨zs ++ [⟨#[y]⟩], ?_, ?_, (f6.trans (f8.mono (by simp))).trans (fr_upd (by simp)), (P8.fr (S := [L]) (fr_upd (by simp)) (by simpa using nLd) (by simpa using nLc)).mono (by omega)⟩⟩
      · rw [List.map_append]
        rfl
      · intro z hz
        rcases List.mem_append.mp hz with h | h
        · exact h1 z h
        · rw [List.mem_singleton.mp h]
          refine ⟨rfl, fun u hu => ?_⟩
          have : u = y := by simpa using hu
          rw [this]
          exact signs_ok y my
    · rintro acc H6 la ⟨zs, rfl, h1, f6, P6⟩ hL
      obtain ⟨j1, j2, j3⟩ := join_signs h1
      rw [List.length_map] at la
      have f06 : Fr [d] H H6 := Fr.drop (p := L) (S := [d]) ((f05.mono (by simp)).trans (f6.mono (by simp))) (f05.free (by simpa using nLd.symm) nL)
      exact ⟨_, L, zs, rfl, rfl, .inl (SqL.of hL), by rw [j3]; omega, q H6 _ f06 (P6.mono (by omega)) ⟨by rw [j2]; omega, j1⟩⟩
theorem scnumberD : FnScope ["pen", "way", "far"] ["pen"] (defScope sLawNumber) := ⟨rfl, rfl, rfl, by decide +kernel, rfl, by decide +kernel, by decide +kernel⟩
theorem ok_numberD {f : Addr} {fd : FuncData} (F : FnP K "_law_number" sLawNumber f fd) {f__law_draw : Addr} {fd__law_draw : FuncData} (c__law_draw : Cl P w K mg base CX0 "_law_draw" 1 ["pen", "many"] (spDraw) f__law_draw fd__law_draw)    : FnOk P w K mg base CX0 2 f fd ["pen"] (spNumberD) := by
  refine F.ok scnumberD (fun vs H Q E h => ?_) (fun cdv A outer s H vs Q E hr h => ?_)
  · obtain ⟨d, cl, ns, n, rfl, _⟩ := h
    rfl
  · obtain ⟨d, cl, ns, n, rfl, hP, hn, q⟩ := h
    have hu := hu_of hr
    have hs := szl
    refine ⟨_, PSs.nox (pss_cons (ps_set (i := 1) scnumberD.nd rfl (Or.inl rfl) (pe_ix ix_list (pe_lst (pa_cons (pe_int) (pa_cons (pe_int) (pa_cons (pe_int) (pa_cons (pe_int) (pa_cons (pe_int) (pa_cons (pe_int) pa_nil))))))) (pe_call c__law_draw.ok (hr.mono (by decide)) (by rfl) c__law_draw.m c__law_draw.kp c__law_draw.b .nil pass0 (pa_cons (pv 0) (pa_cons (pe_int) pa_nil))) (fun _ _ => rfl)))
      (pss_cons (ps_set (i := 2) scnumberD.nd rfl (Or.inl rfl) (pe_op op_add (pe_op op_mul (pe_call c__law_draw.ok (hr.mono (by decide)) (by rfl) c__law_draw.m c__law_draw.kp c__law_draw.b .nil pass0 (pa_cons (pv 0) (pa_cons (pe_op op_pow pe_int pe_int) pa_nil))) (pe_op op_pow pe_int pe_int)) (pe_call c__law_draw.ok (hr.mono (by decide)) (by rfl) c__law_draw.m c__law_draw.kp c__law_draw.b .nil pass0 (pa_cons (pv 0) (pa_cons (pe_op op_pow pe_int pe_int) pa_nil)))))
      (pss_one (ps_ret (pe_ix ix_list (pe_lst (pa_cons (pe_call c__law_draw.ok (hr.mono (by decide)) (by rfl) c__law_draw.m c__law_draw.kp c__law_draw.b .nil pass0 (pa_cons (pv 0) (pa_cons (pe_int) pa_nil))) (pa_cons (pe_op op_sub (pe_int) (pe_call c__law_draw.ok (hr.mono (by decide)) (by rfl) c__law_draw.m c__law_draw.kp c__law_draw.b .nil pass0 (pa_cons (pv 0) (pa_cons (pe_int) pa_nil)))) (pa_cons (pe_op op_sub (pe_call c__law_draw.ok (hr.mono (by decide)) (by rfl) c__law_draw.m c__law_draw.kp c__law_draw.b .nil pass0 (pa_cons (pv 0) (pa_cons (pe_int) pa_nil))) (pe_int)) (pa_cons (pe_op op_mul (pv 2) (pe_op op_sub (pe_int) (pe_op op_mul (pe_int) (pe_call c__law_draw.ok (hr.mono (by decide)) (by rfl) c__law_draw.m c__law_draw.kp c__law_draw.b .nil pass0 (pa_cons (pv 0) (pa_cons (pe_int) pa_nil)))))) pa_nil))))) (pv 1) (fun _ _ => rfl)))))), ?_⟩
    refine ⟨by show 6 ≤ sizeLine; decide, fun l nl => ?_⟩
    obtain ⟨⟨xa0, xb0, hd0, _⟩, hc0, _⟩ := id hP
    have ndl : d ≠ l := ne_of_none hd0 nl
    have P0 := hP.fr (fr_new (S := []) (o := .lst (ways6.map V.int)) nl) (by simp) (by simp)
    refine ⟨_, rfl, d, cl, ns, 6, n, rfl, P0, by omega, by decide, by decide, fun H1 k1 f1 P1 k10 k11 => ?_⟩
    have hl1 : H1 l = some (.lst (ways6.map V.int)) := f1 _ _ (by simpa using ndl.symm) upd_same
    have f01 := (fr_new (S := [d]) (o := .lst (ways6.map V.int)) nl).trans f1
    obtain ⟨way, ew, mw⟩ := atI_map (f := V.int) (xs := ways6) k10 k11
    have hw : 0 ≤ way ∧ way < 4 := (show ∀ x ∈ ways6, 0 ≤ x ∧ x < 4 by decide) way mw
    refine ⟨l, _, k1, _, rfl, rfl, SqL.of hl1, ew, ?_⟩
    -- far
    have six : ((10 : Int) ^ (6 : Int).toNat) = 1000000 := by decide
    refine ⟨_, rfl, _, _, rfl, rfl, (by show (0 : Int) ≤ 6 ∧ (6 : Int) ≤ 1000000 ∧ (10 : Int).natAbs < 2 ^ 64; decide), d, cl, ns, 1000000, _, congrArg (fun x => [V.ref d, V.int x]) six, P1, by omega, by decide, by decide, fun H2 a2 f2 P2 a20 a21 => ?_⟩
    refine ⟨_, _, rfl, rfl, (by show (0 : Int) ≤ 6 ∧ (6 : Int) ≤ 1000000 ∧ (10 : Int).natAbs < 2 ^ 64; decide), a2, 1000000, rfl, congrArg V.int six, .inl ⟨by omega, by omega⟩, ?_⟩
    refine ⟨_, rfl, _, _, rfl, rfl, (by show (0 : Int) ≤ 6 ∧ (6 : Int) ≤ 1000000 ∧ (10 : Int).natAbs < 2 ^ 64; decide), d, cl, ns, 1000000, _, congrArg (fun x => [V.ref d, V.int x]) six, P2, by omega, by decide, by decide, fun H3 a3 f3 P3 a30 a31 => ?_⟩
    refine ⟨_, _, rfl, rfl, ?_⟩
    -- one of four
    refine ⟨_, rfl, d, cl, ns, 5, _, rfl, P3, by omega, by decide, by decide, fun H4 b4 f4 P4 b40 b41 => ?_⟩
    refine ⟨_, rfl, d, cl, ns, 4, _, rfl, P4, by omega, by decide, by decide, fun H5 b5 f5 P5 b50 b51 => ⟨_, _, rfl, rfl, ?_⟩⟩
    refine ⟨_, rfl, d, cl, ns, 13, _, rfl, P5, by omega, by decide, by decide, fun H6 b6 f6 P6 b60 b61 => ⟨_, _, rfl, rfl, ?_⟩⟩
    refine ⟨_, rfl, _, rfl, d, cl, ns, 2, _, rfl, P6, by omega, by decide, by decide, fun H7 b7 f7 P7 b70 b71 => ⟨_, _, rfl, rfl, .inl ⟨by decide, by decide⟩, _, _, rfl, rfl, _, _, rfl, rfl, .inl ⟨by omega, by omega⟩, ?_⟩⟩
    refine ⟨by show 4 ≤ sizeLine; decide, fun p np => ⟨_, rfl, ?_⟩⟩
    obtain ⟨x, ex, mx⟩ := atI_in (xs := ([.int b4, .int (0 - b5), .int (b6 - 6), .int ((a2 * 1000000 + a3) * (1 - 2 * b7))] : List V)) hw.1 hw.2
    refine ⟨p, _, way, x, rfl, rfl, SqL.of upd_same, ex, ?_⟩
    have sp := newS (o := .lst [.int b4, .int (0 - b5), .int (b6 - 6), .int ((a2 * 1000000 + a3) * (1 - 2 * b7))]) np
    have fin : ∀ i : Int, i.natAbs < 10 ^ 13 → Q (.int i) _ := fun i hi => q _ i ((((((f01.trans f2).trans f3).trans f4).trans f5).trans f6).trans f7 |>.trans (fr_same sp)) ((P7.fr (S := []) (fr_same sp) (by simp) (by simp)).mono (by omega)) hi
    have mx : x = .int b4 ∨ x = .int (0 - b5) ∨ x = .int (b6 - 6) ∨ x = .int ((a2 * 1000000 + a3) * (1 - 2 * b7)) := by simpa using mx
    rcases mx with rfl | rfl | rfl | rfl
    · exact fin _ (by omega)
    · exact fin _ (by omega)
    · exact fin _ (by omega)
    · refine fin _ ?_
      have : b7 = 0 ∨ b7 = 1 := by omega
      rcases this with rfl | rfl <;> omega
theorem scvalueD : FnScope ["pen", "sort"] ["pen", "sort"] (defScope sLawValue) := ⟨rfl, rfl, rfl, by decide +kernel, rfl, by decide +kernel, by decide +kernel⟩
theorem ok_valueD {f : Addr} {fd : FuncData} (F : FnP K "_law_value" sLawValue f fd) {f__law_number : Addr} {fd__law_number : FuncData} (c__law_number : Cl P w K mg base CX0 "_law_number" 2 ["pen"] (spNumberD) f__law_number fd__law_number) {f__law_word : Addr} {fd__law_word : FuncData} (c__law_word : Cl P w K mg base CX0 "_law_word" 2 ["pen"] (spWordD) f__law_word fd__law_word) {f__law_text : Addr} {fd__law_text : FuncData} (c__law_text : Cl P w K mg base CX0 "_law_text" 2 ["pen"] (spTextD) f__law_text fd__law_text)    : FnOk P w K mg base CX0 3 f fd ["pen", "sort"] (spValueD) := by
  refine F.ok scvalueD (fun vs H Q E h => ?_) (fun cdv A outer s H vs Q E hr h => ?_)
  · obtain ⟨d, cl, ns, n, s, rfl, _⟩ := h
    rfl
  · obtain ⟨d, cl, ns, n, s, rfl, hP, hn, hs_, q⟩ := h
    have hu := hu_of hr
    refine ⟨_, PSs.nox (pss_cons (ps_if (pt_cmpR op_in_seq (pv 1) (pe_tup (pa_cons (pe_str) (pa_cons (pe_str) pa_nil))) (by with_unfolding_all rfl)) (pss_one (ps_ret (pe_call c__law_number.ok (hr.mono (by decide)) (by rfl) c__law_number.m c__law_number.kp c__law_number.b .nil pass0 (pa_cons (pv 0) pa_nil)))) (pss_nil))
      (pss_one (ps_ret (pe_ifExp (pt_cmpR op_eq (pv 1) (pe_str) (nomark _)) (pe_call c__law_word.ok (hr.mono (by decide)) (by rfl) c__law_word.m c__law_word.kp c__law_word.b .nil pass0 (pa_cons (pv 0) pa_nil)) (pe_call c__law_text.ok (hr.mono (by decide)) (by rfl) c__law_text.m c__law_text.kp c__law_text.b .nil pass0 (pa_cons (pv 0) pa_nil)))))), ?_⟩
    refine ⟨_, rfl, by show 2 ≤ sizeLine; decide, fun t nt => ⟨t, (["code", "amount"] : List Str).map V.str, rfl, .inr (SqT.of upd_same), rfl, by decide +kernel, _, rfl, ?_⟩⟩
    rw [if_neg (by decide), in_strs]
    have sT := newS (o := .tup ((["code", "amount"] : List Str).map V.str)) nt
    have P0 := hP.fr (S := []) (fr_same sT) (by simp) (by simp)
    have f0 : Fr [d] H _ := fr_same sT
    refine ite2 (fun e => ?_) (fun e => ?_)
    · have hm : s = "code" ∨ s = "amount" := by simpa using of_decide_eq_true e
      exact ⟨_, rfl, d, cl, ns, n, rfl, P0, by omega, fun H1 i f1 P1 hi => q H1 (.int i) (f0.trans f1) (P1.mono (by omega)) hi (of_number hm)⟩
    · have hm : s = "word" ∨ s = "text" := by
        have h1 : ¬ (s = "code" ∨ s = "amount") := fun z => e (decide_eq_true (by simpa using z))
        have h2 : s = "code" ∨ s = "amount" ∨ s = "word" ∨ s = "text" := by simpa [sorts] using hs_
        rcases h2 with z | z | z | z
        · exact absurd (.inl z) h1
        · exact absurd (.inr z) h1
        · exact .inl z
        · exact .inr z
      refine ⟨_, rfl, rfl, _, rfl, ite2 (fun e2 => ?_) (fun e2 => ?_)⟩
      · rw [dec_str] at e2
        have es : s = "word" := of_decide_eq_true e2
        subst es
        exact ⟨_, rfl, d, cl, ns, n, rfl, P0, by omega, fun H1 z f1 P1 g1 g2 g3 => q H1 (.str z) (f0.trans f1) (P1.mono (by omega)) ⟨by omega, g1.as⟩ (of_word g1 g2 g3)⟩
      · rw [dec_str] at e2
        have es : s = "text" := hm.elim (fun z => absurd (decide_eq_true z) e2) id
        subst es
        exact ⟨_, rfl, d, cl, ns, n, rfl, P0, by omega, fun H1 z f1 P1 g => q H1 (.str z) (f0.trans f1) (P1.mono (by omega)) g.plain (of_text g)⟩
theorem scvaluesD : FnScope ["pen", "form", "field", "sort"] ["pen", "form"] (defScope sLawValues) := ⟨rfl, rfl, rfl, by decide +kernel, rfl, by decide +kernel, by decide +kernel⟩
theorem ok_valuesD {f : Addr} {fd : FuncData} (F : FnP K "_law_values" sLawValues f fd) {f__law_value : Addr} {fd__law_value : FuncData} (c__law_value : Cl P w K mg base CX0 "_law_value" 3 ["pen", "sort"] (spValueD) f__law_value fd__law_value) (mb_tuple : mg "tuple" = none)   : FnOk P w K mg base CX0 4 f fd ["pen", "form"] (spValuesD K) := by
  refine F.ok scvaluesD (fun vs H Q E h => ?_) (fun cdv A outer s H vs Q E hr h => ?_)
  · obtain ⟨d, cl, ns, n, f, fs, rfl, _⟩ := h
    rfl
  · obtain ⟨d, cl, ns, n, p, fs, rfl, hP, hn, hF, gF, q⟩ := h
    have hu := hu_of hr
    have hs := szl
    refine ⟨_, PSs.nox (pss_one (ps_ret (pe_callTy call_tuple_of (by rfl) mb_tuple (by decide +kernel) (pa_cons (pe_lc (own := [("field", 2), ("sort", 3)]) (tt := tYes) rfl scvaluesD.nd (pi_tup (pv 1)) (blkOk_by (own := [("field", 2), ("sort", 3)]) (N := ["pen", "form", "field", "sort"]) (sc := defScope sLawValues) (by decide +kernel)) (fun _ _ _ _ _ => Cc.pg_tupk (K := K) (n := 2) rfl rfl (pgs_cons (pg_name (i := 2) scvaluesD.nd rfl (Or.inl rfl)) (pgs_cons (pg_name (i := 3) scvaluesD.nd rfl (Or.inl rfl)) (pgs_nil)))) (fun _ _ _ _ _ => pts_nil) (fun _ _ _ _ _ => pe_call c__law_value.ok (hr.mono (by decide)) (by rfl) c__law_value.m c__law_value.kp c__law_value.b .nil pass0 (pa_cons (pv 0) (pa_cons (pv 3) pa_nil)))) pa_nil)))), ?_⟩
    obtain ⟨pf, fx, rfl, hf, hFA⟩ := hF.asTup
    have lf : fx.length = fs.length := by rw [hFA.len, List.length_map]
    refine ⟨_, rfl, pf, rfl, ⟨fx, hf⟩, fun L nL => ?_⟩
    obtain ⟨⟨xa, xb, hd0, _⟩, hc0, _⟩ := id hP
    have nLd : d ≠ L := ne_of_none hd0 nL
    have nLc : cl ≠ L := ne_of_none hc0 nL
    have six := gF.hi
    refine lc_acc (walk_tup (K := K) (a := pf) (xs := fx)) (fun i acc H' => ∃ Ds : List PyData, acc = Ds.map vOf ∧ Ds.length = i ∧ (∀ D ∈ Ds, Plain D) ∧ ((Ds.zip fs).all fun x => ofSort x.2.2 x.1) = true ∧ Fr [d, L] H H' ∧ Pen H' d cl ns (n + 45 * i))
      ⟨[], rfl, rfl, (fun _ z => by cases z), rfl, fr_new nL, hP.fr (fr_new (S := []) nL) (by simp) (by simp)⟩ (fun i acc H' _ ⟨_, _, _, _, _, fr, _⟩ _ => ?_) ?_ ?_
    · -- the form stands
      rcases hf with (h | ⟨o, h⟩) | h
      · exact .inl (.inl (fr _ _ (by simp only [List.mem_cons, List.not_mem_nil, or_false, not_or]; exact ⟨ne_of h hd0 (by intro z; cases z), ne_of_none h nL⟩) h))
      · exact .inl (.inr ⟨o, fr _ _ (by simp only [List.mem_cons, List.not_mem_nil, or_false, not_or]; exact ⟨ne_of h hd0 (by intro z; cases z), ne_of_none h nL⟩) h⟩)
      · exact .inr h
    · rintro i x acc H1 H2 hi la ⟨Ds, rfl, lD, hD1, hD2, fr, P1⟩ hL ⟨rfl, ex⟩
      obtain ⟨dz, hdz, tz, mz⟩ := ThAll.get2 hFA ex
      obtain ⟨g, hg, rfl⟩ : ∃ g, fs[i]? = some g ∧ fieldD g = dz := by
        rw [List.getElem?_map] at hdz
        cases hg : fs[i]? with
        | none =>
          rw [hg] at hdz
          cases hdz
        | some g =>
          rw [hg] at hdz
          exact ⟨g, rfl, Option.some.inj hdz⟩
      obtain ⟨pz, zs, rfl, hpz, hZ⟩ := tz.asTup
      have ez2 : zs = [.str g.1, .str g.2] := by
        cases hZ with
        | cons h0 h1 =>
          cases h1 with
          | cons h1 h2 =>
            cases h2
            cases h0
            cases h1
            rfl
      subst ez2
      have hpz2 : SqT K H2 pz [.str g.1, .str g.2] := by
        rcases hpz with (h | ⟨o, h⟩) | h
        · exact .inl (.inl (fr _ _ (by simp only [List.mem_cons, List.not_mem_nil, or_false, not_or]; exact ⟨ne_of h hd0 (by intro z; cases z), ne_of_none h nL⟩) h))
        · exact .inl (.inr ⟨o, fr _ _ (by simp only [List.mem_cons, List.not_mem_nil, or_false, not_or]; exact ⟨ne_of h hd0 (by intro z; cases z), ne_of_none h nL⟩) h⟩)
        · exact .inr h
      refine ⟨pz, _, rfl, hpz2, rfl, _, _, rfl, _, _, rfl, rfl, rfl, ?_⟩
      refine ⟨_, rfl, _, rfl, d, cl, ns, _, g.2, rfl, P1, by omega, (gF.ok g (List.mem_of_getElem? hg)).2.2.2, fun H3 D f3 P3 pD oD => ?_⟩
      have hL3 := f3 _ _ (by simpa using nLd.symm) hL
      refine push hL3 la (by omega) ⟨Ds ++ [D], ?_, ?_, ?_, ?_, (fr.trans (f3.mono (by simp))).trans (fr_upd (by simp)), (P3.fr (S := [L]) (fr_upd (by simp)) (by simpa using nLd) (by simpa using nLc)).mono (by omega)⟩
      · rw [List.map_append]
        rfl
      · rw [List.length_append, lD]
        rfl
      · intro x hx
        rcases List.mem_append.mp hx with h | h
        · exact hD1 x h
        · rw [List.mem_singleton.mp h]
          exact pD
      · have e1 : (Ds ++ [D]).zip fs = Ds.zip fs ++ [(D, g)] := zip_snoc (by rw [lD]; exact hg)
        rw [e1, List.all_append, hD2]
        show (true && (ofSort g.2 D && true)) = true
        rw [oD]
        rfl
    · rintro acc H1 la ⟨Ds, rfl, lD, hD1, hD2, fr, P1⟩ hL
      refine ⟨L, _, rfl, .inl ⟨SqL.of hL, fun t nt => ?_⟩⟩
      have sT := newS (o := .tup (Ds.map vOf)) nt
      have f0 : Fr [d] H _ := Fr.trans (Fr.drop (p := L) (S := [d]) (fr.mono (by simp)) nL) (fr_same sT)
      refine q _ t Ds f0 ((P1.fr (S := []) (fr_same sT) (by simp) (by simp)).mono (by omega)) upd_same hD1 ?_
      show (decide (Ds.length = fs.length) && (Ds.zip fs).all fun x => ofSort x.2.2 x.1) = true
      rw [hD2, decide_eq_true (by omega)]
      rfl
end
end St6

set_option autoImplicit false
set_option maxHeartbeats 4000000
namespace St6
open PySem PySem.Spec PyProof.Rows L2 Tg Cc Nn TL
/-! a field of one of these sorts -/
theorem getF_mem {fs : Fs} (nd : (fs.map Prod.fst).Nodup) {n s : Str} (h : (n, s) ∈ fs) : getF fs n = some s := by
  induction fs with
  | nil => cases h
  | cons x r ih =>
    rw [List.map_cons, List.nodup_cons] at nd
    rcases List.mem_cons.mp h with e | h2
    · subst e
      exact getF_cons_pos rfl
    · rw [getF_cons_neg (fun e => nd.1 (List.mem_map.mpr ⟨(n, s), h2, e.symm⟩))]
      exact ih nd.2 h2
def Pick (fs : Fs) (l : List Str) : Option Str → Prop
  | none => ∀ n s, getF fs n = some s → s ∉ l
  | some s => ∃ z, getF fs s = some z ∧ z ∈ l
def spPick (K : PySem.W.Frag) : Sp := fun vs H Q _ => ∃ (d cl : Addr) (ns : List Int) (n : Nat) (f : V) (fs : Fs) (st : Addr) (l : List Str), vs = [.ref d, f, .ref st] ∧ Pen H d cl ns n ∧ n ≤ 900000000 ∧ Th K H f (formD fs) ∧ (fs.map Prod.fst).Nodup ∧ fs.length ≤ 1000 ∧ (∀ x ∈ fs, As x.1) ∧ SqT K H st (l.map V.str) ∧
  ∀ H' o, Fr [d] H H' → Pen H' d cl ns (n + 1) → Pick fs l o → Q (optV o) H'
section
variable {P : Program} {w : World} {K : PySem.W.Frag} {mg : Str → Option Value} {base : Heap}
theorem scpick : FnScope ["pen", "fields", "sorts", "field", "sort", "found"] ["pen", "fields", "sorts"] (defScope sLawPick) := ⟨rfl, rfl, rfl, by decide +kernel, rfl, by decide +kernel, by decide +kernel⟩
theorem ok_pick {f : Addr} {fd : FuncData} (F : FnP K "_law_pick" sLawPick f fd) {f__law_draw : Addr} {fd__law_draw : FuncData} (c__law_draw : Cl P w K mg base CX0 "_law_draw" 1 ["pen", "many"] (spDraw) f__law_draw fd__law_draw) (mb_len : mg "len" = none)   : FnOk P w K mg base CX0 2 f fd ["pen", "fields", "sorts"] (spPick K) := by
  refine F.ok scpick (fun vs H Q E h => ?_) (fun cdv A outer s H vs Q E hr h => ?_)
  · obtain ⟨d, cl, ns, n, f, fs, st, l, rfl, _⟩ := h
    rfl
  · obtain ⟨d, cl, ns, n, f, fs, st, l, rfl, hP, hn, hF, nd, hlen, hAs, hl, q⟩ := h
    have hu := hu_of hr
    have hs := szl
    refine ⟨_, PSs.nox (pss_cons (ps_setLc (i := 5) (own := [("field", 3), ("sort", 4)]) rfl scpick.nd rfl rfl (sw_true rfl rfl rfl (by decide +kernel)) (pi_tup (pv 1)) (blkOk_by (own := [("field", 3), ("sort", 4)]) (N := ["pen", "fields", "sorts", "field", "sort", "found"]) (sc := defScope sLawPick) (by decide +kernel)) (fun _ _ _ _ _ => Cc.pg_tupk (K := K) (n := 2) rfl rfl (pgs_cons (pg_name (i := 3) scpick.nd rfl (Or.inl rfl)) (pgs_cons (pg_name (i := 4) scpick.nd rfl (Or.inl rfl)) (pgs_nil)))) (fun _ _ _ _ _ => pts_one (pt_cmpR (Nn.op_inSk (K := K) rfl) (pv 4) (pv 2) (by with_unfolding_all rfl))) (fun _ _ _ _ _ => pv 3))
      (pss_one (ps_ret (pe_ifExp (pt_cmpR (op_neD hr.units) (pv 5) (pe_lst (pa_nil)) (nomark _)) (pe_ix ix_list (pv 5) (pe_call c__law_draw.ok (hr.mono (by decide)) (by rfl) c__law_draw.m c__law_draw.kp c__law_draw.b .nil pass0 (pa_cons (pv 0) (pa_cons (pe_callB call_len_seq (by rfl) mb_len (by decide +kernel) (pa_cons (pv 5) pa_nil)) pa_nil))) (fun _ _ => rfl)) (pe_non))))), ?_⟩
    obtain ⟨fa, fx, rfl, hz, hFA⟩ := hF.asTup
    have lf : fx.length = fs.length := by rw [hFA.len, List.length_map]
    refine ⟨_, rfl, fa, rfl, ⟨fx, hz⟩, fun D nD => ?_⟩
    refine lc_it (walk_tup (K := K) (a := fa) (xs := fx)) (fun i H' => But D H H' ∧ ∃ zs : List Str, H' D = some (.lst (zs.map V.str)) ∧ zs.length ≤ i ∧ (∀ j g, j < i → fs[j]? = some g → g.2 ∈ l → zs ≠ []) ∧ ∀ z ∈ zs, ∃ y, (z, y) ∈ fs ∧ y ∈ l) ⟨But.refl.upd, [], upd_same, Nat.le_refl _, fun j g h => absurd h (Nat.not_lt_zero j), fun z hz => by cases hz⟩ (fun i H' _ ⟨b, _⟩ => Sq.same (t := true) hz (b.new nD)) ?_ ?_
    · rintro i x H1 H2 hi ⟨b, zs, hD, lz, hno, hall⟩ ⟨rfl, hx2⟩
      obtain ⟨dz, hdz, tz, mz⟩ := ThAll.get2 hFA hx2
      obtain ⟨g, hg2, rfl⟩ : ∃ g, fs[i]? = some g ∧ fieldD g = dz := by
        rw [List.getElem?_map] at hdz
        cases hg2 : fs[i]? with
        | none =>
          rw [hg2] at hdz
          cases hdz
        | some g =>
          rw [hg2] at hdz
          exact ⟨g, rfl, Option.some.inj hdz⟩
      obtain ⟨pz, ys, rfl, hpz, hZ⟩ := tz.asTup
      obtain ⟨y0, y1, rfl, u0, u1⟩ := thAll2 hZ
      obtain rfl := u0.asStr
      obtain rfl := u1.asStr
      have s2 := b.new nD
      refine ⟨pz, _, rfl, Sq.same (t := true) hpz s2, rfl, _, _, rfl, _, _, rfl, rfl, rfl, _, rfl, _, rfl, st, _, rfl, .inr (Sq.same (t := true) hl s2), rfl, ?_, ?_⟩
      · exact List.all_eq_true.mpr fun y hy => by
          obtain ⟨z, _, rfl⟩ := List.mem_map.mp hy
          rfl
      rw [if_neg (by decide), in_strs]
      refine ⟨_, rfl, ite2 (fun e => ?_) (fun e => ?_)⟩
      · have hm := of_decide_eq_true e
        refine ⟨_, rfl, _, hD, by rw [List.length_map]; omega, b.upd, zs ++ [g.1], by rw [upd_same, List.map_append]; rfl, by rw [List.length_append, List.length_singleton]; omega, fun _ _ _ _ _ => by simp, fun z hz => ?_⟩
        rcases List.mem_append.mp hz with h1 | h1
        · exact hall z h1
        · rw [List.mem_singleton.mp h1]
          exact ⟨g.2, List.mem_of_getElem? hg2, hm⟩
      · refine ⟨b, zs, hD, by omega, fun j y hj hy hm => ?_, hall⟩
        by_cases ej : j = i
        · subst ej
          rw [hg2] at hy
          obtain rfl := Option.some.inj hy
          exact absurd (decide_eq_true hm) e
        · exact hno j y (by omega) hy hm
    · rintro H1 ⟨b, zs, hD, lz, hno, hall⟩
      have s1 := b.new nD
      have P1 := hP.fr (S := []) (fr_same s1) (by simp) (by simp)
      have nDd : d ≠ D := by
        obtain ⟨⟨ya, yb, hd1, _⟩, _, _⟩ := id hP
        exact ne_of_none hd1 nD
      refine ⟨_, rfl, Nat.zero_le _, fun p np => ⟨.list (zs.map PyData.str), .list [], .lst (SqL.of (newS np _ _ hD)) (dpAll_strs _), .lst (SqL.of upd_same) .nil, shaped_strs fun y hy => ?_, by decide +kernel, _, rfl, ?_⟩⟩
      · obtain ⟨y2, hm, _⟩ := hall y hy
        exact hAs _ hm
      have s2 := newS (o := .lst []) np
      rw [eqv_nil]
      cases zs with
      | nil => exact iteF (q _ none (fr_same (s1.trans s2)) ((P1.fr (S := []) (fr_same s2) (by simp) (by simp)).mono (by omega)) fun n0 s0 e0 hm => by
        unfold getF at e0
        cases e1 : fs.find? fun y => decide (y.1 = n0) with
        | none =>
          rw [e1] at e0
          cases e0
        | some y =>
          rw [e1] at e0
          obtain rfl := Option.some.inj e0
          obtain ⟨j, hj, ej⟩ := List.getElem_of_mem (List.mem_of_find?_eq_some e1)
          exact hno j y (by rw [lf]; exact hj) (by rw [List.getElem?_eq_getElem hj, ej]) hm rfl)
      | cons z0 zr =>
        refine iteT ?_
        have hD2 := s2 _ _ hD
        have P2 := P1.fr (S := []) (fr_same s2) (by simp) (by simp)
        have f2 : Fr [d] H (upd H1 p (.lst [])) := fr_same (s1.trans s2)
        generalize upd H1 p (.lst []) = HA at hD2 P2 f2 ⊢
        have lz2 : (z0 :: zr).length ≤ 1000 := by omega
        have l0 : 0 < (z0 :: zr).length := Nat.succ_pos _
        refine ⟨_, rfl, _, rfl, _, rfl, D, _, rfl, .inl (SqL.of hD2), d, cl, ns, _, n, rfl, P2, by omega, by rw [List.length_map]; omega, by rw [List.length_map]; omega, fun H3 k f3 P3 k0 k1 => ?_⟩
        obtain ⟨u, eu, mu⟩ := atI_map (f := V.str) (xs := z0 :: zr) k0 (by rw [List.length_map] at k1; exact k1)
        refine ⟨D, _, k, .str u, rfl, rfl, SqL.of (f3 _ _ (by simpa using nDd.symm) hD2), eu, ?_⟩
        obtain ⟨y, hm, hy⟩ := hall u mu
        exact q H3 (some u) (f2.trans f3) P3 ⟨y, getF_mem nd hm, hy⟩
end
end St6

set_option autoImplicit false
set_option maxHeartbeats 4000000
namespace St6
open PySem PySem.Spec PyProof.Rows L2 Tg Cc Nn TL
/-! rows of a table, values unlike -/
def kOf : PyData → Key
  | .int i => .inl i
  | .str s => .inr s
  | _ => .inl 0
theorem kV_kOf {D : PyData} (h : Plain D) : vOf D = kV (kOf D) := by
  cases D <;> first | rfl | exact h.elim
abbrev Rs := List (PyData × PyData)
def kvsR (rs : Rs) : List (Key × V) := rs.map fun x => (kOf x.1, vOf x.2)
def putR (rs : Rs) (k v : PyData) : Rs := if rs.any (fun x => decide (kOf x.1 = kOf k)) then rs.map fun x => if kOf x.1 = kOf k then (x.1, v) else x else rs ++ [(k, v)]
theorem putR_kvs (rs : Rs) (k v : PyData) : putK (kvsR rs) (kOf k) (vOf v) = kvsR (putR rs k v) := by
  have any_eq : ((kvsR rs).any fun kv => decide (kv.1 = kOf k)) = rs.any fun x => decide (kOf x.1 = kOf k) := by
    unfold kvsR
    rw [List.any_map]
    rfl
  unfold putK putR
  rw [any_eq]
  cases h : rs.any fun x => decide (kOf x.1 = kOf k)
  · rw [if_neg Bool.false_ne_true, if_neg Bool.false_ne_true]
    unfold kvsR
    rw [List.map_append]
    rfl
  · rw [if_pos rfl, if_pos rfl]
    unfold kvsR
    rw [List.map_map, List.map_map]
    refine List.map_congr_left fun x _ => ?_
    by_cases e : kOf x.1 = kOf k
    · show (if kOf x.1 = kOf k then _ else _) = (kOf (if kOf x.1 = kOf k then (x.1, v) else x).1, vOf (if kOf x.1 = kOf k then (x.1, v) else x).2)
      rw [if_pos e, if_pos e]
    · show (if kOf x.1 = kOf k then _ else _) = (kOf (if kOf x.1 = kOf k then (x.1, v) else x).1, vOf (if kOf x.1 = kOf k then (x.1, v) else x).2)
      rw [if_neg e, if_neg e]
/-- good rows -/
structure GoodR (old new : Str) (rs : Rs) (n : Nat) : Prop where
  len : rs.length ≤ n
  nd : (rs.map fun x => kOf x.1).Nodup
  ok : ∀ x ∈ rs, Plain x.1 ∧ ofSort old x.1 = true ∧ Plain x.2 ∧ ofSort new x.2 = true
theorem GoodR.put {old new : Str} {rs : Rs} {n : Nat} (h : GoodR old new rs n) {k v : PyData} (h1 : Plain k) (h2 : ofSort old k = true) (h3 : Plain v) (h4 : ofSort new v = true) : GoodR old new (putR rs k v) (n + 1) := by
  unfold putR
  cases e : rs.any fun x => decide (kOf x.1 = kOf k)
  · rw [if_neg Bool.false_ne_true]
    refine ⟨by rw [List.length_append, List.length_singleton]; have := h.len; omega, ?_, fun x hx => ?_⟩
    · rw [List.map_append, List.nodup_append]
      refine ⟨h.nd, by simp, fun a ha b hb => ?_⟩
      have : b = kOf k := by simpa using hb
      subst this
      obtain ⟨x, hx, rfl⟩ := List.mem_map.mp ha
      have := List.any_eq_false.mp e x hx
      simpa using this
    · rcases List.mem_append.mp hx with h0 | h0
      · exact h.ok x h0
      · rw [List.mem_singleton.mp h0]
        exact ⟨h1, h2, h3, h4⟩
  · rw [if_pos rfl]
    refine ⟨by rw [List.length_map]; have := h.len; omega, ?_, fun x hx => ?_⟩
    · rw [List.map_map]
      have e2 : rs.map ((fun x : PyData × PyData => kOf x.1) ∘ fun x => if kOf x.1 = kOf k then (x.1, v) else x) = rs.map fun x => kOf x.1 := List.map_congr_left fun x _ => by
        show kOf (if kOf x.1 = kOf k then (x.1, v) else x).1 = kOf x.1
        by_cases z : kOf x.1 = kOf k
        · rw [if_pos z]
        · rw [if_neg z]
      rw [e2]
      exact h.nd
    · obtain ⟨y, hy, rfl⟩ := List.mem_map.mp hx
      obtain ⟨o1, o2, o3, o4⟩ := h.ok y hy
      by_cases z : kOf y.1 = kOf k
      · rw [if_pos z]
        exact ⟨o1, o2, h3, h4⟩
      · rw [if_neg z]
        exact ⟨o1, o2, o3, o4⟩
def rowD (x : PyData × PyData) : PyData := .tuple [x.1, x.2]
theorem GoodR.rows {old new : Str} {rs : Rs} (h : GoodR old new rs 4) : rowsB old new (.tuple (rs.map rowD)) = true := by
  have e : (rs.map rowD).map keyOf = rs.map fun x => kOf x.1 := by
    rw [List.map_map]
    refine List.map_congr_left fun x hx => ?_
    obtain ⟨o1, _⟩ := h.ok x hx
    show keyOf (.tuple [x.1, x.2]) = kOf x.1
    cases h0 : x.1 <;> first | rfl | (rw [h0] at o1; exact o1.elim)
  show ((decide ((rs.map rowD).length ≤ 4) && (rs.map rowD).all (rowB old new)) && decide (((rs.map rowD).map keyOf).Nodup)) = true
  rw [e, List.length_map, decide_eq_true h.len, decide_eq_true h.nd, List.all_map, List.all_eq_true.mpr fun x hx => ?_]
  · rfl
  · obtain ⟨o1, o2, o3, o4⟩ := h.ok x hx
    show (ofSort old x.1 && ofSort new x.2) = true
    rw [o2, o4]
    rfl
def spRowsD (K : PySem.W.Frag) : Sp := fun vs H Q _ => ∃ (d cl : Addr) (ns : List Int) (n : Nat) (old new : Str), vs = [.ref d, .str old, .str new] ∧ Pen H d cl ns n ∧ n ≤ 800000 ∧ old ∈ testL ∧ new ∈ sorts ∧
  ∀ H' q rs, Fr [d] H H' → Pen H' d cl ns (n + 361) → GoodR old new rs 4 → Th K H' (.ref q) (.tuple (rs.map rowD)) → Q (.ref q) H'
theorem th_rows {K : PySem.W.Frag} {H : Hp} {old new : Str} : ∀ {ts : List Addr} {rs : Rs}, (∀ x ∈ rs, Plain x.1 ∧ ofSort old x.1 = true ∧ Plain x.2 ∧ ofSort new x.2 = true) → Paired (fun (t : Addr) (q : Key × V) => H t = some (.tup [kV q.1, q.2])) ts (kvsR rs) → ThAll K H (ts.map V.ref) (rs.map rowD)
  | [], [], _, _ => .nil
  | t :: ts, g :: gs, ok, h => by
    cases h with
    | cons a b =>
      obtain ⟨o1, _, o3, _⟩ := ok g (List.mem_cons_self ..)
      have a : H t = some (.tup [kV (kOf g.1), vOf g.2]) := a
      rw [← kV_kOf o1] at a
      exact .cons (.tup (SqT.of a) (.cons (th_vOf o1) (.cons (th_vOf o3) .nil))) (th_rows (fun x hx => ok x (List.mem_cons_of_mem _ hx)) b)
section
variable {P : Program} {w : World} {K : PySem.W.Frag} {mg : Str → Option Value} {base : Heap}
end
end St6

set_option autoImplicit false
set_option maxHeartbeats 4000000
namespace St6
open PySem PySem.Spec PyProof.Rows L2 Tg Cc TL Nn
def spDFormZ (K : PySem.W.Frag) : Sp := fun vs H Q _ => ∃ (d cl p : Addr) (ns : List Int) (zs : List Str) (m n least : Nat), vs = [.ref d, .ref p, .int (least : Nat)] ∧ Pen H d cl ns n ∧ n ≤ 900000000 ∧ H p = some (.lst (zs.map V.str)) ∧ Names zs m ∧ 6 ≤ m ∧ 1 ≤ least ∧ least ≤ 6 ∧
  ∀ H' u fs, Fr [d] H H' → Pen H' d cl ns (n + 10) → Fm K H' u fs → GoodF fs → least ≤ fs.length → fs.map Prod.fst = zs.take fs.length → Q u H'
section
variable {P : Program} {w : World} {K : PySem.W.Frag} {mg : Str → Option Value} {base : Heap}
theorem ok_dformZ {f : Addr} {fd : FuncData} (F : FnP K "_law_form" sForm f fd) {f__law_draw : Addr} {fd__law_draw : FuncData} (c__law_draw : Cl P w K mg base CX0 "_law_draw" 1 ["pen", "many"] (spDraw) f__law_draw fd__law_draw) (mb_range : mg "range" = none) (mb_tuple : mg "tuple" = none)   : FnOk P w K mg base CX0 2 f fd ["pen", "names", "least"] (spDFormZ K) := by
  refine F.ok scdform (fun vs H Q E h => ?_) (fun cdv A outer s H vs Q E hr h => ?_)
  · obtain ⟨d, cl, p, ns, zs, m, n, least, rfl, _⟩ := h
    rfl
  · obtain ⟨d, cl, p, ns, zs, m, n, least, rfl, hP, hn, hp, hN, hm, l1, l6, q⟩ := h
    have hu := hu_of hr
    have hs := szl
    refine ⟨_, PSs.nox (pss_cons (ps_set (i := 3) scdform.nd rfl (Or.inr rfl) (pe_lst (pa_cons (pe_str) (pa_cons (pe_str) (pa_cons (pe_str) (pa_cons (pe_str) (pa_cons (pe_str) (pa_cons (pe_str) pa_nil))))))))
      (pss_one (ps_ret (pe_callTy Nn.call_tuple_ofZ (by rfl) mb_tuple (by decide +kernel) (pa_cons (pe_lc (own := [("k", 4)]) (g := gName 4) (tt := tYes) rfl scdform.nd (pi_range1 (by rfl) mb_range (pa_cons (pe_op op_add (pv 2) (pe_call c__law_draw.ok (hr.mono (by decide)) (by rfl) c__law_draw.m c__law_draw.kp c__law_draw.b .nil pass0 (pa_cons (pv 0) (pa_cons (pe_op op_sub (pe_int) (pv 2)) pa_nil)))) pa_nil)) (blkOk_by (own := [("k", 4)]) (N := ["pen", "names", "least", "sorts", "k"]) (sc := defScope sForm) (by decide +kernel)) (fun _ _ _ _ _ => pg_name (i := 4) scdform.nd rfl (Or.inl rfl)) (fun _ _ _ _ _ => pts_nil) (fun _ _ _ _ _ => pe_tup (pa_cons (pe_ix (Cc.ix_listk (K := K) rfl) (pv 1) (pv 4) (fun _ _ => rfl)) (pa_cons (pe_ix (Cc.ix_listk (K := K) rfl) (pv 3) (pe_call c__law_draw.ok (hr.mono (by decide)) (by rfl) c__law_draw.m c__law_draw.kp c__law_draw.b .nil pass0 (pa_cons (pv 0) (pa_cons (pe_int) pa_nil))) (fun _ _ => rfl)) pa_nil)))) pa_nil))))), ?_⟩
    refine ⟨by show 6 ≤ sizeLine; decide, fun s ns_ => ?_⟩
    obtain ⟨⟨xa0, xb0, hd0, _⟩, hc0, _⟩ := id hP
    have s0 := newS (o := .lst (dsorts.map V.str)) ns_
    have P0 : Pen (upd H s (.lst (dsorts.map V.str))) d cl ns n := hP.fr (fr_new (S := []) ns_) (by simp) (by simp)
    refine ⟨_, rfl, _, rfl, _, rfl, _, _, rfl, rfl, d, cl, ns, 7 - (least : Int), n, rfl, P0, by omega, by omega, by omega, fun H1 k1 f1 P1 k10 k11 => ?_⟩
    obtain ⟨c, rfl⟩ := Int.eq_ofNat_of_zero_le k10
    refine ⟨_, _, rfl, rfl, _, rfl, by omega, by omega, fun L nL => ?_⟩
    obtain ⟨⟨xa, xb, hd1, _⟩, hc1, _⟩ := id P1
    have nsd : d ≠ s := ne_of_none hd0 ns_
    have npd : p ≠ d := ne_of hp hd0 (by intro z; cases z)
    have hs1 : H1 s = some (.lst (dsorts.map V.str)) := f1 _ _ (by simpa using nsd.symm) upd_same
    have hp1 : H1 p = some (.lst (zs.map V.str)) := f1 _ _ (by simpa using npd) (s0 _ _ hp)
    have nLd : d ≠ L := ne_of_none hd1 nL
    have nLc : cl ≠ L := ne_of_none hc1 nL
    have nLs : s ≠ L := ne_of_none hs1 nL
    have nLp : p ≠ L := ne_of_none hp1 nL
    refine lc_acc (walk_range (lo := 0) (n := ((least : Int) + (c : Int)).toNat)) (fun i acc H' => ∃ ps : List (Addr × Str × Str), acc = ps.map (fun x => V.ref x.1) ∧ (∀ x ∈ ps, H' x.1 = some (.tup [.str x.2.1, .str x.2.2])) ∧ ps.map (fun x => x.2.1) = zs.take i ∧ (∀ x ∈ ps, x.2.2 ∈ sorts) ∧ Fr [d, L] H1 H' ∧ Pen H' d cl ns (n + 1 + i))
      ⟨[], rfl, (fun _ z => by cases z), rfl, (fun _ z => by cases z), fr_upd (by simp), P1.fr (fr_new (S := []) nL) (by simp) (by simp)⟩ (fun _ _ _ _ _ _ => trivial) ?_ ?_
    · rintro i x acc H2 H3 hi la ⟨ps, rfl, h1, h2, h3, f2, P2⟩ hL ⟨rfl, rfl⟩
      have hp2 : H3 p = some (.lst (zs.map V.str)) := f2 _ _ (by simp [npd, nLp]) hp1
      have hs2 : H3 s = some (.lst (dsorts.map V.str)) := f2 _ _ (by simp [nsd.symm, nLs]) hs1
      have iz : i < zs.length := by
        rw [hN.len]
        omega
      obtain ⟨z, ez, _⟩ : ∃ z, atI (zs.map V.str) (0 + (i : Int)) = some (.str z) ∧ zs[i]? = some z := by
        refine ⟨zs[i], ?_, List.getElem?_eq_getElem iz⟩
        rw [Int.zero_add]
        exact atI_nat (by rw [List.getElem?_map, List.getElem?_eq_getElem iz]; rfl)
      have ezi : zs[i]? = some z := by assumption
      refine ⟨rfl, _, rfl, _, rfl, p, _, _, _, rfl, rfl, SqL.of hp2, ez, _, rfl, _, rfl, d, cl, ns, 6, _, rfl, P2, by omega, by decide, by decide, fun H4 d4 f4 P4 d40 d41 => ?_⟩
      have hL4 := f4 _ _ (by simpa using nLd.symm) hL
      obtain ⟨y, ey, my⟩ := atI_map (f := V.str) (xs := dsorts) d40 d41
      refine ⟨s, _, d4, _, rfl, rfl, SqL.of (f4 _ _ (by simpa using nsd.symm) hs2), ey, by show 2 ≤ sizeLine; decide, fun t nt => ?_⟩
      have s4 := newS (o := .tup [.str z, .str y]) nt
      refine push (s4 _ _ hL4) la (by omega) ⟨ps ++ [(t, z, y)], ?_, ?_, ?_, ?_, ((f2.trans (f4.mono (by simp))).trans (fr_same s4)).trans (fr_upd (by simp)), ((P4.fr (fr_new (S := []) nt) (by simp) (by simp)).fr (S := [L]) (fr_upd (by simp)) (by simpa using nLd) (by simpa using nLc)).mono (by omega)⟩
      · rw [List.map_append]
        rfl
      · intro x hx
        have keep : ∀ o : HO, upd H4 t (.tup [.str z, .str y]) x.1 = some o → (∀ l, o ≠ .lst l) → upd (upd H4 t (.tup [.str z, .str y])) L (.lst (ps.map (fun x => V.ref x.1) ++ [V.ref t])) x.1 = some o := fun o ho no => by
          rw [upd_ne]
          · exact ho
          · exact ne_of ho (s4 _ _ hL4) (no _)
        rcases List.mem_append.mp hx with h | h
        · have e := h1 x h
          refine keep _ (s4 _ _ (f4 _ _ ?_ e)) (fun l e => by cases e)
          obtain ⟨⟨xa2, xb2, hd2, _⟩, _⟩ := id P2
          simpa using ne_of e hd2 (by intro z; cases z)
        · rw [List.mem_singleton.mp h] at keep ⊢
          exact keep _ upd_same (fun l e => by cases e)
      · rw [List.map_append, h2, List.take_succ, ezi]
        rfl
      · intro x hx
        rcases List.mem_append.mp hx with h | h
        · exact h3 x h
        · rw [List.mem_singleton.mp h]
          exact dsorts_in my
    · rintro acc H2 la ⟨ps, rfl, h1, h2, h3, f2, P2⟩ hL
      rw [List.length_map] at la
      refine ⟨L, _, rfl, SqL.of hL, fun t HZ sZ nt tz => ?_⟩
      have fA : Fr [d] H HZ := by
        refine Fr.trans ?_ (fr_same sZ)
        refine Fr.drop (p := L) (S := [d]) (((fr_same s0).trans (f1.mono (by simp))).trans (f2.mono (by simp))) ?_
        exact s0.free (f1.free (by simpa using nLd.symm) nL)
      have el : (ps.map Prod.snd).length = ps.length := List.length_map _
      have en : (ps.map Prod.snd).map Prod.fst = zs.take ps.length := by
        rw [List.map_map, la]
        exact h2
      refine q _ (.ref t) (ps.map Prod.snd) fA ((P2.fr (fr_same (S := []) sZ) (by simp) (by simp)).mono (by omega)) ⟨t, _, rfl, tz, th_fields fun x hx => sZ _ _ (h1 x hx)⟩ ⟨by omega, by omega, ?_, fun x hx => ?_⟩ (by omega) (by rw [en, el])
      · rw [en]
        exact hN.nd.sublist (List.take_sublist _ _)
      · obtain ⟨y, hy, rfl⟩ := List.mem_map.mp hx
        have mz : y.2.1 ∈ zs := by
          have : y.2.1 ∈ zs.take ps.length := by
            rw [← en, List.map_map]
            exact List.mem_map.mpr ⟨y, hy, rfl⟩
          exact List.mem_of_mem_take this
        obtain ⟨g1, g2, g3⟩ := hN.ok _ mz
        exact ⟨g1, g2, g3, h3 y hy⟩
end
end St6

set_option autoImplicit false
set_option maxHeartbeats 4000000
namespace St6
open PySem PySem.Spec PyProof.Rows L2 Tg Cc Nn
/-! the law's going through, of cases within cases to c -/
theorem fn_sub {P : Program} {w : World} {K : PySem.W.Frag} {mg : Str → Option Value} {base : Heap} {k : Nat} {f : Addr} {fd : FuncData} {ps : List Str} {sp : Sp} (h : ∀ vs H Q E, sp vs H Q E → False) : FnOk P w K mg base CX0 k f fd ps sp :=
  ⟨fun vs H Q E a => (h vs H Q E a).elim, fun A outer s H args us vs Q E hr he hb hv a => (h vs H Q E a).elim⟩
theorem lbehind0 {K : PySem.W.Frag} (vs : List V) (H : Hp) (Q : VK) (E : XK) (h : spLBehind K 0 vs H Q E) : False := by
  obtain ⟨f, fs, v, d, gs, _, _, _, _, _, _, hB, hst, _⟩ := h
  obtain ⟨wd, r, rfl, _, _⟩ := stepB_some hst
  exact hB
theorem ok_lends {P : Program} {w : World} {K : PySem.W.Frag} {mg : Str → Option Value} {base : Heap} {f_b f_e : Addr} {fd_b fd_e : FuncData}
    (Fb : FnP K "_law_behind" sLawBehind f_b fd_b) (m_b : mg "_law_behind" = some (.ref f_b)) (b_b : Binds K fd_b ["fields", "step"] [])
    (Fe : FnP K "_law_end" sLawEnd f_e fd_e) (m_e : mg "_law_end" = some (.ref f_e)) (b_e : Binds K fd_e ["fields", "steps"] []) (mt : mg "tuple" = none) (md : mg "dict" = none) :
    ∀ c, FnOk P w K mg base CX0 (2 + 2 * c + 1) f_e fd_e ["fields", "steps"] (spLEnd K c)
  | 0 => ok_lend (c := 0) Fe ⟨fn_sub lbehind0, m_b, Fb.kp, b_b⟩
  | c + 1 => by
    have ih := ok_lends (P := P) (w := w) (base := base) Fb m_b b_b Fe m_e b_e mt md c
    exact ok_lend (c := c + 1) Fe ⟨ok_lbehind Fb ⟨ih, m_e, Fe.kp, b_e⟩ mt md, m_b, Fb.kp, b_b⟩
end St6

set_option autoImplicit false
set_option maxHeartbeats 2000000
/-! things that stand apart from some places -/
namespace Tg
open PySem PySem.Spec PyProof.Rows L2
mutual
/-- v stands for d, whatever lies at the places of S -/
inductive Ta (K : PySem.W.Frag) (S : Addr → Prop) (H : Hp) : V → PyData → Prop
  | non : Ta K S H .non .none
  | bl (b : Bool) : Ta K S H (.bl b) (.bool b)
  | int (i : Int) : Ta K S H (.int i) (.int i)
  | str (x : Str) : Ta K S H (.str x) (.str x)
  | lst {a : Addr} {xs : List V} {ds : List PyData} : ¬ S a → Rd H a (.lst xs) → TaAll K S H xs ds → Ta K S H (.ref a) (.list ds)
  | lstK {a : Addr} {xs : List V} {ds : List PyData} : (∀ H, SqL K H a xs) → TaAll K S H xs ds → Ta K S H (.ref a) (.list ds)
  | tup {a : Addr} {xs : List V} {ds : List PyData} : ¬ S a → Rd H a (.tup xs) → TaAll K S H xs ds → Ta K S H (.ref a) (.tuple ds)
  | tupK {a : Addr} {xs : List V} {ds : List PyData} : (∀ H, SqT K H a xs) → TaAll K S H xs ds → Ta K S H (.ref a) (.tuple ds)
  | dct {a : Addr} {kvs : List (Key × V)} : ¬ S a → H a = some (.dK kvs) → kvs.length ≤ 1 → Ta K S H (.ref a) (.dict [])
inductive TaAll (K : PySem.W.Frag) (S : Addr → Prop) (H : Hp) : List V → List PyData → Prop
  | nil : TaAll K S H [] []
  | cons {v : V} {vs : List V} {d : PyData} {ds : List PyData} : Ta K S H v d → TaAll K S H vs ds → TaAll K S H (v :: vs) (d :: ds)
end
mutual
theorem Ta.th {K : PySem.W.Frag} {S : Addr → Prop} {H : Hp} : ∀ {v : V} {d : PyData}, Ta K S H v d → Th K H v d
  | _, _, .non => .non
  | _, _, .bl b => .bl b
  | _, _, .int i => .int i
  | _, _, .str x => .str x
  | _, _, .lst _ r t => .lst (.inl r) t.th
  | _, _, .lstK r t => .lst (r H) t.th
  | _, _, .tup _ r t => .tup (.inl r) t.th
  | _, _, .tupK r t => .tup (r H) t.th
  | _, _, .dct _ r l => .dct r l
theorem TaAll.th {K : PySem.W.Frag} {S : Addr → Prop} {H : Hp} : ∀ {vs : List V} {ds : List PyData}, TaAll K S H vs ds → ThAll K H vs ds
  | _, _, .nil => .nil
  | _, _, .cons h t => .cons h.th t.th
end
mutual
theorem Ta.of {K : PySem.W.Frag} {H : Hp} : ∀ {v : V} {d : PyData}, Th K H v d → Ta K (fun _ => False) H v d
  | _, _, .non => .non
  | _, _, .bl b => .bl b
  | _, _, .int i => .int i
  | _, _, .str x => .str x
  | _, _, .lst (.inl r) t => .lst id r (TaAll.of t)
  | _, _, .lst (.inr r) t => .lstK (fun _ => .inr r) (TaAll.of t)
  | _, _, .tup (.inl r) t => .tup id r (TaAll.of t)
  | _, _, .tup (.inr r) t => .tupK (fun _ => .inr r) (TaAll.of t)
  | _, _, .dct r l => .dct id r l
theorem TaAll.of {K : PySem.W.Frag} {H : Hp} : ∀ {vs : List V} {ds : List PyData}, ThAll K H vs ds → TaAll K (fun _ => False) H vs ds
  | _, _, .nil => .nil
  | _, _, .cons h t => .cons (Ta.of h) (TaAll.of t)
end
mutual
/-- other heaps that agree but on S -/
theorem Ta.fr {K : PySem.W.Frag} {S : Addr → Prop} {H H1 : Hp} (k : ∀ b o, ¬ S b → H b = some o → H1 b = some o) : ∀ {v : V} {d : PyData}, Ta K S H v d → Ta K S H1 v d
  | _, _, .non => .non
  | _, _, .bl b => .bl b
  | _, _, .int i => .int i
  | _, _, .str x => .str x
  | _, _, .lst n r t => .lst n (r.elim (fun e => .inl (k _ _ n e)) fun ⟨o, e⟩ => .inr ⟨o, k _ _ n e⟩) (t.fr k)
  | _, _, .lstK r t => .lstK r (t.fr k)
  | _, _, .tup n r t => .tup n (r.elim (fun e => .inl (k _ _ n e)) fun ⟨o, e⟩ => .inr ⟨o, k _ _ n e⟩) (t.fr k)
  | _, _, .tupK r t => .tupK r (t.fr k)
  | _, _, .dct n r l => .dct n (k _ _ n r) l
theorem TaAll.fr {K : PySem.W.Frag} {S : Addr → Prop} {H H1 : Hp} (k : ∀ b o, ¬ S b → H b = some o → H1 b = some o) : ∀ {vs : List V} {ds : List PyData}, TaAll K S H vs ds → TaAll K S H1 vs ds
  | _, _, .nil => .nil
  | _, _, .cons h t => .cons (h.fr k) (t.fr k)
end
mutual
/-- a place where nothing lay stands apart -/
theorem Ta.also {K : PySem.W.Frag} {S : Addr → Prop} {H : Hp} {D : Addr} (nD : H D = none) : ∀ {v : V} {d : PyData}, Ta K S H v d → Ta K (fun b => b = D ∨ S b) H v d
  | _, _, .non => .non
  | _, _, .bl b => .bl b
  | _, _, .int i => .int i
  | _, _, .str x => .str x
  | _, _, .lst n r t => .lst (fun z => z.elim (fun e => r.elim (fun q => ne_of_none q nD e) fun ⟨o, q⟩ => ne_of_none q nD e) n) r (t.also nD)
  | _, _, .lstK r t => .lstK r (t.also nD)
  | _, _, .tup n r t => .tup (fun z => z.elim (fun e => r.elim (fun q => ne_of_none q nD e) fun ⟨o, q⟩ => ne_of_none q nD e) n) r (t.also nD)
  | _, _, .tupK r t => .tupK r (t.also nD)
  | _, _, .dct n r l => .dct (fun z => z.elim (fun e => ne_of_none r nD e) n) r l
theorem TaAll.also {K : PySem.W.Frag} {S : Addr → Prop} {H : Hp} {D : Addr} (nD : H D = none) : ∀ {vs : List V} {ds : List PyData}, TaAll K S H vs ds → TaAll K (fun b => b = D ∨ S b) H vs ds
  | _, _, .nil => .nil
  | _, _, .cons h t => .cons (h.also nD) (t.also nD)
end
mutual
theorem Ta.less {K : PySem.W.Frag} {S R : Addr → Prop} {H : Hp} (k : ∀ b, R b → S b) : ∀ {v : V} {d : PyData}, Ta K S H v d → Ta K R H v d
  | _, _, .non => .non
  | _, _, .bl b => .bl b
  | _, _, .int i => .int i
  | _, _, .str x => .str x
  | _, _, .lst n r t => .lst (fun z => n (k _ z)) r (t.less k)
  | _, _, .lstK r t => .lstK r (t.less k)
  | _, _, .tup n r t => .tup (fun z => n (k _ z)) r (t.less k)
  | _, _, .tupK r t => .tupK r (t.less k)
  | _, _, .dct n r l => .dct (fun z => n (k _ z)) r l
theorem TaAll.less {K : PySem.W.Frag} {S R : Addr → Prop} {H : Hp} (k : ∀ b, R b → S b) : ∀ {vs : List V} {ds : List PyData}, TaAll K S H vs ds → TaAll K R H vs ds
  | _, _, .nil => .nil
  | _, _, .cons h t => .cons (h.less k) (t.less k)
end
end Tg

set_option autoImplicit false
set_option maxHeartbeats 4000000
namespace St6
open PySem PySem.Spec PyProof.Rows L2 Tg Cc Nn TL
/-! what drawn steps are: plain data, steps that fit -/
/-- None, whole numbers, texts, tuples (and lists) of such -/
inductive Pu (l : Bool) : PyData → Prop
  | non : Pu l .none
  | int (i : Int) : Pu l (.int i)
  | str (s : Str) : Pu l (.str s)
  | tup {ds : List PyData} : (∀ d ∈ ds, Pu l d) → Pu l (.tuple ds)
  | lst {ds : List PyData} : l = true → (∀ d ∈ ds, Pu l d) → Pu l (.list ds)
theorem Pu.up {l : Bool} {d : PyData} (h : Pu l d) : Pu true d := by
  induction h with
  | non => exact .non
  | int i => exact .int i
  | str s => exact .str s
  | tup _ ih => exact .tup ih
  | lst _ _ ih => exact .lst rfl ih
theorem Pu.mem {l : Bool} {ds : List PyData} (h : Pu l (.tuple ds)) : ∀ d ∈ ds, Pu l d := by
  cases h with
  | tup h => exact h
theorem Pu.noLst {d : PyData} (h : Pu false d) : ∀ m, noLst m d = true := by
  induction h with
  | non => intro m; cases m <;> rfl
  | int i => intro m; cases m <;> rfl
  | str s => intro m; cases m <;> rfl
  | tup h ih =>
    intro m
    cases m with
    | zero => rfl
    | succ m => exact List.all_eq_true.mpr fun x hx => ih x hx m
  | lst e => cases e
theorem pu_tup2 {l : Bool} {a b : PyData} (h1 : Pu l a) (h2 : Pu l b) : Pu l (.tuple [a, b]) := .tup fun d hd => by
  rcases List.mem_cons.mp hd with rfl | hd
  · exact h1
  · rw [List.mem_singleton.mp hd]
    exact h2
theorem plain_pu {l : Bool} {d : PyData} (h : Plain d) : Pu l d := by
  cases d with
  | int i => exact .int i
  | str s => exact .str s
  | _ => exact h.elim
mutual
theorem Pu.shd {l : Bool} : ∀ {d : PyData} {N m : Nat}, Pu l d → Bd N m d → PyData.canLay0 d = true ∧ PyData.depth d ≤ m
  | .none, _, _, _, _ => ⟨rfl, Nat.zero_le _⟩
  | .bool _, _, _, h, _ => by cases h
  | .int _, _, _, _, _ => ⟨rfl, Nat.zero_le _⟩
  | .str s, _, _, _, b => by
    refine ⟨?_, Nat.zero_le _⟩
    have h1 : PyData.strOk s = true := by
      unfold PyData.strOk
      rw [Array.all_eq_true']
      intro c hc
      have := (bd_str.mp b).2 c (by simpa using hc)
      exact decide_eq_true (by omega)
    simpa [PyData.canLay0] using h1
  | .dict _, _, _, h, _ => by cases h
  | .tuple ds, _, 0, _, b => b.elim
  | .list ds, _, 0, _, b => b.elim
  | .tuple ds, _, m + 1, h, b => by
    have := shdAll ds (fun d hd => h.mem d hd) b.2
    simp only [PyData.canLay0, PyData.depth]
    exact ⟨this.1, by omega⟩
  | .list ds, _, m + 1, h, b => by
    have := shdAll ds (fun d hd => by
      cases h with
      | lst _ h => exact h d hd) b.2
    simp only [PyData.canLay0, PyData.depth]
    exact ⟨this.1, by omega⟩
theorem shdAll {l : Bool} {N m : Nat} : ∀ (ds : List PyData), (∀ d ∈ ds, Pu l d) → (∀ d ∈ ds, Bd N m d) → PyData.canLayAll0 ds = true ∧ PyData.depthAll ds ≤ m
  | [], _, _ => ⟨rfl, Nat.zero_le _⟩
  | d :: r, h, b => by
    have h1 := Pu.shd (h d (List.mem_cons_self ..)) (b d (List.mem_cons_self ..))
    have h2 := shdAll r (fun x hx => h x (List.mem_cons_of_mem _ hx)) (fun x hx => b x (List.mem_cons_of_mem _ hx))
    simp only [PyData.canLayAll0, PyData.depthAll, h1.1, h2.1, Bool.and_self]
    exact ⟨trivial, by omega⟩
end
theorem Pu.shaped {l : Bool} {d : PyData} {N m : Nat} (h : Pu l d) (b : Bd N m d) (hm : m ≤ 64) : SeqAt.shaped d = true := by
  have := h.shd b
  unfold SeqAt.shaped
  rw [this.1, decide_eq_true (by omega)]
  rfl
theorem Pu.eqv {l : Bool} {d : PyData} {N m : Nat} (h : Pu l d) (b : Bd N m d) : d.eqv d = true := SeqAt.eqv_refl d (h.shd b).1
mutual
theorem th_dp {l : Bool} {K : PySem.W.Frag} {H : Hp} : ∀ {v : V} {d : PyData}, Th K H v d → Pu l d → Dp K H v d
  | _, _, .non, _ => .non
  | _, _, .bl b, _ => .bl b
  | _, _, .int i, _ => .int i
  | _, _, .str x, _ => .str x
  | _, _, .lst r t, p => .lst r (thAll_dp t fun d hd => by
      cases p with
      | lst _ h => exact h d hd)
  | _, _, .tup r t, p => .tup r (thAll_dp t p.mem)
  | _, _, .dct _ _, p => by cases p
theorem thAll_dp {l : Bool} {K : PySem.W.Frag} {H : Hp} : ∀ {vs : List V} {ds : List PyData}, ThAll K H vs ds → (∀ d ∈ ds, Pu l d) → DpAll K H vs ds
  | _, _, .nil, _ => .nil
  | _, _, .cons h t, p => .cons (th_dp h (p _ (List.mem_cons_self ..))) (thAll_dp t fun d hd => p d (List.mem_cons_of_mem _ hd))
end
theorem _root_.Tg.Th.dp {l : Bool} {K : PySem.W.Frag} {H : Hp} {v : V} {d : PyData} (h : Th K H v d) (p : Pu l d) : Dp K H v d := th_dp h p
/-- places of lists and of dicts of some entries -/
def Odd (S : Addr → Prop) (H : Hp) : Prop := ∀ b, S b → (∃ l, H b = some (.lst l)) ∨ ∃ kvs, H b = some (.dK kvs) ∧ 1 < kvs.length
theorem Odd.tup {S : Addr → Prop} {H : Hp} (h : Odd S H) {a : Addr} {xs : List V} (r : Rd H a (.tup xs)) : ¬ S a := fun z => by
  rcases h a z with ⟨l, e⟩ | ⟨kvs, e, _⟩ <;> rcases r with r | ⟨o, r⟩ <;> (rw [e] at r; cases r)
mutual
theorem th_apart {K : PySem.W.Frag} {S : Addr → Prop} {H : Hp} (o : Odd S H) : ∀ {v : V} {d : PyData}, Th K H v d → Pu false d → Ta K S H v d
  | _, _, .non, _ => .non
  | _, _, .bl b, _ => .bl b
  | _, _, .int i, _ => .int i
  | _, _, .str x, _ => .str x
  | _, _, .lst r t, p => by
    cases p with
    | lst e h => cases e
  | _, _, .tup (.inl r) t, p => .tup (o.tup r) r (thAll_apart o t p.mem)
  | _, _, .tup (.inr r) t, p => .tupK (fun _ => .inr r) (thAll_apart o t p.mem)
  | _, _, .dct _ _, p => by cases p
theorem thAll_apart {K : PySem.W.Frag} {S : Addr → Prop} {H : Hp} (o : Odd S H) : ∀ {vs : List V} {ds : List PyData}, ThAll K H vs ds → (∀ d ∈ ds, Pu false d) → TaAll K S H vs ds
  | _, _, .nil, _ => .nil
  | _, _, .cons h t, p => .cons (th_apart o h (p _ (List.mem_cons_self ..))) (thAll_apart o t fun d hd => p d (List.mem_cons_of_mem _ hd))
end
theorem _root_.Tg.Th.apart {K : PySem.W.Frag} {S : Addr → Prop} {H : Hp} {v : V} {d : PyData} (h : Th K H v d) (o : Odd S H) (p : Pu false d) : Ta K S H v d := th_apart o h p
theorem _root_.Tg.ThAll.apart {K : PySem.W.Frag} {S : Addr → Prop} {H : Hp} {vs : List V} {ds : List PyData} (h : ThAll K H vs ds) (o : Odd S H) (p : ∀ d ∈ ds, Pu false d) : TaAll K S H vs ds := thAll_apart o h p
theorem odd_of {H : Hp} {d cl : Addr} {ns : List Int} {n : Nat} (P : Pen H d cl ns n) : Odd (fun b => b ∈ [d]) H := fun b hb => by
  obtain ⟨⟨x, y, h1, _⟩, _⟩ := id P
  rw [List.mem_singleton.mp hb]
  exact .inr ⟨_, h1, by show 1 < 3; omega⟩
theorem odd2 {H : Hp} {d cl L : Addr} {ns : List Int} {n : Nat} {l : List V} (P : Pen H d cl ns n) (hL : H L = some (.lst l)) : Odd (fun b => b ∈ [d, L]) H := fun b hb => by
  rcases List.mem_cons.mp hb with rfl | hb
  · exact odd_of P _ (List.mem_singleton_self _)
  · rw [List.mem_singleton.mp hb]
    exact .inl ⟨l, hL⟩
theorem frk {S : List Addr} {H H1 : Hp} (f : Fr S H H1) : ∀ b o, ¬ (b ∈ S) → H b = some o → H1 b = some o := fun b o n e => f b o n e
theorem _root_.Tg.Th.frN {K : PySem.W.Frag} {S : List Addr} {H H1 : Hp} {v : V} {d : PyData} (h : Th K H v d) (p : Pu false d) (o : Odd (fun b => b ∈ S) H) (f : Fr S H H1) : Th K H1 v d := ((h.apart o p).fr (frk f)).th
theorem _root_.Tg.ThAll.frN {K : PySem.W.Frag} {S : List Addr} {H H1 : Hp} {vs : List V} {ds : List PyData} (h : ThAll K H vs ds) (p : ∀ d ∈ ds, Pu false d) (o : Odd (fun b => b ∈ S) H) (f : Fr S H H1) : ThAll K H1 vs ds := ((h.apart o p).fr (frk f)).th
theorem pu_field {l : Bool} (g : Str × Str) : Pu l (fieldD g) := pu_tup2 (.str _) (.str _)
theorem pu_fields {l : Bool} (fs : Fs) : ∀ d ∈ fs.map fieldD, Pu l d := fun d hd => by
  obtain ⟨g, _, rfl⟩ := List.mem_map.mp hd
  exact pu_field g
theorem pu_form {l : Bool} (fs : Fs) : Pu l (formD fs) := .tup (pu_fields fs)
theorem Fm.frN {K : PySem.W.Frag} {S : List Addr} {H H1 : Hp} {f : V} {fs : Fs} (h : Fm K H f fs) (o : Odd (fun b => b ∈ S) H) (k : Fr S H H1) : Fm K H1 f fs := by
  obtain ⟨a, xs, rfl, h1, h2⟩ := h
  obtain ⟨ob, hd, e⟩ := h1
  exact ⟨a, xs, rfl, ⟨ob, hd, k _ _ (fun z => o.tup (.inr ⟨ob, e⟩) z) e⟩, h2.frN (pu_fields fs) o k⟩
/-! ### steps that leave the fields -/
/-- gs has the fields of fs -/
structure Ext (fs gs : Fs) : Prop where
  nd : (gs.map Prod.fst).Nodup
  has : ∀ n s, getF fs n = some s → getF gs n = some s
theorem Ext.refl {fs : Fs} (nd : (fs.map Prod.fst).Nodup) : Ext fs fs := ⟨nd, fun _ _ e => e⟩
theorem Ext.trans {fs gs hs : Fs} (a : Ext fs gs) (b : Ext gs hs) : Ext fs hs := ⟨b.nd, fun n s e => b.has n s (a.has n s e)⟩
theorem getF_app {fs : Fs} {n s : Str} (x : Str × Str) (h : getF fs n = some s) : getF (fs ++ [x]) n = some s := by
  unfold getF at h ⊢
  rw [List.find?_append]
  cases e : fs.find? fun y => decide (y.1 = n) with
  | none =>
    rw [e] at h
    cases h
  | some y =>
    rw [e] at h
    exact h
theorem Ext.new {fs : Fs} {n s : Str} (nd : (fs.map Prod.fst).Nodup) (h : getF fs n = none) : Ext fs (fs ++ [(n, s)]) := ⟨nd_new h nd, fun m t e => getF_app _ e⟩
/-- a step that leaves all fields as they are -/
def ModS (k : Nat) (fs : Fs) (d : PyData) : Prop := ∀ c gs, k ≤ c → Ext fs gs → stepB (recOf c) gs d = some gs
theorem ModS.mono {k m : Nat} {fs : Fs} {d : PyData} (h : ModS k fs d) (l : k ≤ m) : ModS m fs d := fun c gs hc e => h c gs (Nat.le_trans l hc) e
theorem ModS.ext {k : Nat} {fs gs : Fs} {d : PyData} (h : ModS k fs d) (e : Ext fs gs) : ModS k gs d := fun c hs hc x => h c hs hc (e.trans x)
theorem go_mods {k c : Nat} {fs gs : Fs} (hc : k ≤ c) (e : Ext fs gs) : ∀ (ds : List PyData) (i : Nat), (∀ d ∈ ds, ModS k fs d) → goB (stepB (recOf c)) i gs ds = .ok gs
  | [], _, _ => rfl
  | d :: r, i, h => by
    rw [go_cons, h d (List.mem_cons_self ..) c gs hc e]
    exact go_mods hc e r (i + 1) fun x hx => h x (List.mem_cons_of_mem _ hx)
theorem steps_mods {k c : Nat} {fs gs : Fs} {ds : List PyData} (hc : k ≤ c) (e : Ext fs gs) (h : ∀ d ∈ ds, ModS k fs d) : stepsB c gs (.tuple ds) = .ok gs := by
  rw [steps_over]
  exact go_mods hc e ds 0 h
theorem go_app (st : Fs → PyData → Option Fs) : ∀ (ds es : List PyData) (i : Nat) (fs gs : Fs) (r : Except Nat Fs), goB st i fs ds = .ok gs → (∀ j, goB st j gs es = r) → goB st i fs (ds ++ es) = r
  | [], es, i, fs, gs, r, h, k => by
    obtain rfl := Except.ok.inj (show Except.ok fs = Except.ok gs from h)
    exact k i
  | d :: ds, es, i, fs, gs, r, h, k => by
    show goB st i fs (d :: (ds ++ es)) = r
    rw [go_cons] at h ⊢
    cases e : st fs d with
    | none =>
      rw [e] at h
      cases h
    | some x =>
      rw [e] at h
      exact go_app st ds es (i + 1) x gs r h k
/-- some steps, then others -/
theorem steps_app {c : Nat} {fs gs hs : Fs} {ds es : List PyData} (h : stepsB c fs (.tuple ds) = .ok gs) (k : ∀ j, goB (stepB (recOf c)) j gs es = .ok hs) : stepsB c fs (.tuple (ds ++ es)) = .ok hs := by
  rw [steps_over] at h ⊢
  exact go_app _ ds es 0 fs gs _ h k
theorem steps_one {c : Nat} {fs gs : Fs} {d : PyData} (h : stepB (recOf c) fs d = some gs) (j : Nat) : goB (stepB (recOf c)) j fs [d] = .ok gs := by
  rw [go_cons, h]
  rfl
theorem eqF_refl {fs : Fs} (nd : (fs.map Prod.fst).Nodup) : eqF fs fs = true := by
  unfold eqF
  simp only [beq_self_eq_true, Bool.true_and, decide_true, List.all_eq_true]
  intro x hx
  exact decide_eq_true (getF_mem nd (show (x.1, x.2) ∈ fs from hx))
/-- of a case both of whose lists lead to the same -/
theorem case_of {c : Nat} {fs gs : Fs} {t s : Str} {val y n : PyData} (h : getF fs t = some s) (hs : s ∈ testL) (hv : ofSort s val = true) (hy : stepsB c fs y = .ok gs) {gn : Fs} (hn : stepsB c fs n = .ok gn) (e : eqF gs gn = true) :
    stepB (recOf (c + 1)) fs (.tuple [.str "case", .str t, val, y, n]) = some gs := by
  show caseB (stepsB c) fs (.str t) val y n = some gs
  unfold caseB
  rw [sortOf_str, h]
  dsimp only
  rw [decide_eq_true hs, hv, hy, hn]
  show (if eqF gs gn = true then some gs else none) = some gs
  rw [if_pos e]
theorem set_same {fs : Fs} {n s : Str} (nd : (fs.map Prod.fst).Nodup) (h : getF fs n = some s) : setF fs n s = fs := by
  rw [set_map h]
  conv => rhs; rw [← List.map_id fs]
  refine List.map_congr_left fun x hx => ?_
  by_cases e : x.1 = n
  · rw [if_pos e]
    have := getF_mem nd (show (x.1, x.2) ∈ fs from hx)
    rw [e, h] at this
    rw [Option.some.inj this]
    rfl
  · rw [if_neg e]
    rfl
theorem mod_scale {fs : Fs} {n s : Str} {t p : Int} (h : getF fs n = some s) (hs : s ∈ numsL) : ModS 0 fs (.tuple [.str "scale", .str n, .int t, .int p]) := fun c gs _ e => by
  show scaleB gs (.str n) (.int t) (.int p) = some gs
  unfold scaleB
  rw [sortOf_str, e.has n s h]
  show (if (decide (s ∈ numsL) && _) = true then some gs else none) = some gs
  rw [decide_eq_true hs]
  exact if_pos rfl
theorem table_of {fs : Fs} {t s so : Str} {rs : Rs} {ot : PyData} (h : getF fs t = some s) (hs : s ∈ testL) (hso : so ∈ testL) (hr : GoodR s so rs 4) (ho : otherB s so ot = true) (c : Nat) :
    stepB (recOf c) fs (.tuple [.str "table", .str t, .str so, .tuple (rs.map rowD), ot]) = some (setF fs t so) := by
  show tableB fs (.str t) (.str so) (.tuple (rs.map rowD)) ot = _
  unfold tableB
  rw [sortOf_str, h]
  dsimp only
  have h3 : sortB (.str so) = true := (show ∀ z ∈ testL, sortB (.str z) = true by decide +kernel) so hso
  show (if (((decide (s ∈ testL) && sortB (.str so)) && decide (so ∈ testL)) && (rowsB s so (.tuple (rs.map rowD)) && otherB s so ot)) = true then some (setF fs t so) else none) = _
  rw [decide_eq_true hs, h3, decide_eq_true hso, hr.rows, ho]
  exact if_pos rfl
theorem mod_table {fs : Fs} {t s : Str} {rs : Rs} {ot : PyData} (h : getF fs t = some s) (hs : s ∈ testL) (hr : GoodR s s rs 4) (ho : otherB s s ot = true) : ModS 0 fs (.tuple [.str "table", .str t, .str s, .tuple (rs.map rowD), ot]) := fun c gs _ e => by
  rw [table_of (e.has t s h) hs hs hr ho, set_same e.nd (e.has t s h)]
theorem mod_case {k : Nat} {fs : Fs} {t s : Str} {val : PyData} {ys zs : List PyData} (h : getF fs t = some s) (hs : s ∈ testL) (hv : ofSort s val = true) (hy : ∀ d ∈ ys, ModS k fs d) (hz : ∀ d ∈ zs, ModS k fs d) : ModS (k + 1) fs (.tuple [.str "case", .str t, val, .tuple ys, .tuple zs]) := fun c gs hc e => by
  obtain ⟨c, rfl⟩ : ∃ c', c = c' + 1 := ⟨c - 1, by omega⟩
  exact case_of (e.has t s h) hs hv (steps_mods (by omega) e hy) (steps_mods (by omega) e hz) (eqF_refl e.nd)
/-! ### how they are made -/
def partLen (L : Nat) : PyData → Nat
  | .tuple [.str k, _] => if k = "say" then 12 else L
  | _ => 0
/-- scales by small numbers, no joins, cases of such -/
inductive SyM : PyData → Prop
  | flat {w : Str} {r : List PyData} : w ≠ "scale" → w ≠ "join" → w ≠ "case" → SyM (.tuple (.str w :: r))
  | scale {n p : PyData} {t : Int} : t.natAbs ≤ 100 → SyM (.tuple [.str "scale", n, .int t, p])
  | case {t v : PyData} {ys zs : List PyData} : (∀ y ∈ ys, SyM y) → (∀ z ∈ zs, SyM z) → SyM (.tuple [.str "case", t, v, .tuple ys, .tuple zs])
def Sy (d : PyData) : Prop := SyM d ∨ ∃ n l, d = .tuple [.str "join", n, .tuple l] ∧ ∀ L, (l.map (partLen L)).sum ≤ 3 * L + 36
def isJoin : PyData → Bool
  | .tuple (.str w :: _) => decide (w = "join")
  | _ => false
theorem SyM.noJoin {d : PyData} (h : SyM d) : isJoin d = false := by
  cases h with
  | flat _ h2 _ => exact decide_eq_false h2
  | scale _ => exact (show decide (("scale" : Str) = "join") = false by decide +kernel)
  | case _ _ => exact (show decide (("case" : Str) = "join") = false by decide +kernel)
/-! ### how great -/
theorem grow_flat {d : PyData} (h : items d = []) (c : Nat) : growB c d = 0 := by
  rw [grow_sum, h]
  rfl
theorem sum_le {α : Type} (f : α → Nat) (B : Nat) : ∀ l : List α, (∀ x ∈ l, f x ≤ B) → (l.map f).sum ≤ l.length * B
  | [], _ => Nat.zero_le _
  | x :: r, h => by
    rw [List.map_cons, List.sum_cons, List.length_cons, Nat.succ_mul]
    have := h x (List.mem_cons_self ..)
    have := sum_le f B r fun y hy => h y (List.mem_cons_of_mem _ hy)
    omega
theorem grow_le {c B : Nat} {ds : List PyData} (h : ∀ d ∈ ds, growS c d ≤ B) : growB c (.tuple ds) ≤ ds.length * B := by
  rw [grow_sum]
  exact sum_le _ B ds h
theorem grow_str (c : Nat) (s : Str) : growB c (.str s) = 0 := grow_flat rfl c
theorem grow_int (c : Nat) (i : Int) : growB c (.int i) = 0 := grow_flat rfl c
theorem grow_non (c : Nat) : growB c .none = 0 := grow_flat rfl c
theorem grow_plain {d : PyData} (h : Plain d) (c : Nat) : growB c d = 0 := by
  cases d with
  | int i => exact grow_int c i
  | str s => exact grow_str c s
  | _ => exact h.elim
theorem growS_flat {d : PyData} (h : items d = []) (c : Nat) : growS c d = 1 := by
  cases c with
  | zero => rfl
  | succ c =>
    show 1 + ((items d).map (growB c)).sum = 1
    rw [h]
    rfl
theorem growS_plain {d : PyData} (h : Plain d) (c : Nat) : growS c d = 1 := by
  cases d with
  | int i => exact growS_flat rfl c
  | str s => exact growS_flat rfl c
  | _ => exact h.elim
/-- how many of what a tuple holds are put: one, and all that stand deeper -/
theorem growS_tup {B : Nat} {ds : List PyData} (h : ∀ c, (ds.map (growB c)).sum ≤ B) (c : Nat) : growS c (.tuple ds) ≤ 1 + B := by
  cases c with
  | zero => exact Nat.le_add_right _ _
  | succ c => exact Nat.add_le_add_left (h c) 1
theorem growS_pair {a b : PyData} (h1 : ∀ c, growB c a = 0) (h2 : ∀ c, growB c b = 0) (c : Nat) : growS c (.tuple [a, b]) ≤ 1 := growS_tup (B := 0) (fun c => by simp [h1, h2]) c
theorem grow_rows {old new : Str} {rs : Rs} (h : GoodR old new rs 4) (c : Nat) : growB c (.tuple (rs.map rowD)) ≤ 4 := by
  have := grow_le (c := c) (B := 1) (ds := rs.map rowD) fun d hd => by
    obtain ⟨x, hx, rfl⟩ := List.mem_map.mp hd
    obtain ⟨o1, _, o3, _⟩ := h.ok x hx
    exact growS_pair (grow_plain o1) (grow_plain o3) c
  rw [List.length_map] at this
  have := h.len
  omega
theorem grow_one {d : PyData} (h : Plain d) (c : Nat) : growB c (.tuple [d]) = 1 := by
  rw [grow_sum]
  show ([d].map (growS c)).sum = 1
  rw [List.map_singleton, List.sum_singleton, growS_plain h]
def gG : Nat → Nat
  | 0 => 6
  | k + 1 => 1 + 6 * gG k
/-- a drawn step that leaves the fields -/
structure ModD (k : Nat) (fs : Fs) (d : PyData) : Prop where
  pu : Pu false d
  bd : Bd 1000 (2 * k + 3) d
  gr : ∀ c, growS c d ≤ gG k
  md : ModS k fs d
  sy : SyM d
theorem gG_ge : ∀ k, 6 ≤ gG k
  | 0 => Nat.le_refl _
  | k + 1 => by
    have := gG_ge k
    show 6 ≤ 1 + 6 * gG k
    omega
theorem gG_up (k : Nat) : gG k ≤ gG (k + 1) := by
  show gG k ≤ 1 + 6 * gG k
  omega
theorem ModD.up {k : Nat} {fs : Fs} {d : PyData} (h : ModD k fs d) : ModD (k + 1) fs d :=
  ⟨h.pu, h.bd.mono (Nat.le_refl _) (by omega), fun c => Nat.le_trans (h.gr c) (gG_up k), h.md.mono (by omega), h.sy⟩
theorem ModD.of0 {fs : Fs} {d : PyData} (h : ModD 0 fs d) : ∀ k, ModD k fs d
  | 0 => h
  | k + 1 => (ModD.of0 h k).up
theorem bd_str40 {N m : Nat} {s : Str} (h : s.length ≤ N) (a : As s) : Bd N m (.str s) := bd_str.mpr ⟨h, a⟩
theorem bd_tup {N m : Nat} {ds : List PyData} (h : ds.length ≤ N) (b : ∀ d ∈ ds, Bd N m d) : Bd N (m + 1) (.tuple ds) := ⟨h, b⟩
theorem Plain.bd' {m : Nat} {D : PyData} (h : Plain D) : Bd 1000 m D := h.bd (by omega)
theorem rows_bd {old new : Str} {rs : Rs} (h : GoodR old new rs 4) (m : Nat) : Bd 1000 (m + 2) (.tuple (rs.map rowD)) := by
  refine bd_tup (by rw [List.length_map]; have := h.len; omega) fun d hd => ?_
  obtain ⟨x, hx, rfl⟩ := List.mem_map.mp hd
  obtain ⟨o1, _, o3, _⟩ := h.ok x hx
  refine bd_tup (by show 2 ≤ 1000; omega) fun y hy => ?_
  rcases List.mem_cons.mp hy with rfl | hy
  · exact o1.bd'
  · rw [List.mem_singleton.mp hy]
    exact o3.bd'
theorem rows_pu {l : Bool} {old new : Str} {rs : Rs} (h : GoodR old new rs 4) : Pu l (.tuple (rs.map rowD)) := .tup fun d hd => by
  obtain ⟨x, hx, rfl⟩ := List.mem_map.mp hd
  obtain ⟨o1, _, o3, _⟩ := h.ok x hx
  exact pu_tup2 (plain_pu o1) (plain_pu o3)
theorem as_lit {s : Str} (h : s.cps.toList.all (fun c => decide (c < 128)) = true) : As s := fun c hc => of_decide_eq_true (List.all_eq_true.mp h c hc)
theorem words_as : ∀ z ∈ (["rename", "copy", "drop", "put", "scale", "sum", "join", "table", "case", "code", "word", "amount", "text", "say", "field", "a-", "7"] : List Str), As z ∧ z.length ≤ 40 := fun z hz => by
  have := (show ∀ z ∈ (["rename", "copy", "drop", "put", "scale", "sum", "join", "table", "case", "code", "word", "amount", "text", "say", "field", "a-", "7"] : List Str), z.cps.toList.all (fun c => decide (c < 128)) = true ∧ z.length ≤ 40 by decide +kernel) z hz
  exact ⟨as_lit this.1, this.2⟩
theorem bd_word {m : Nat} {z : Str} (h : z ∈ (["rename", "copy", "drop", "put", "scale", "sum", "join", "table", "case", "code", "word", "amount", "text", "say", "field", "a-", "7"] : List Str)) : Bd 1000 m (.str z) := by
  obtain ⟨h1, h2⟩ := words_as z h
  exact bd_str40 (by omega) h1
/-- a field's name -/
def NameOk (z : Str) : Prop := Low z ∧ 1 ≤ z.length ∧ z.length ≤ 12
theorem NameOk.bd {m : Nat} {z : Str} (h : NameOk z) : Bd 1000 m (.str z) := bd_str40 (by have := h.2.2; omega) h.1.as
theorem getF_in {fs : Fs} {n s : Str} (h : getF fs n = some s) : ∃ x ∈ fs, x.1 = n ∧ x.2 = s := by
  unfold getF at h
  cases e : fs.find? fun y => decide (y.1 = n) with
  | none =>
    rw [e] at h
    cases h
  | some y =>
    rw [e] at h
    exact ⟨y, List.mem_of_find?_eq_some e, of_decide_eq_true (List.find?_some (p := fun y : Str × Str => decide (y.1 = n)) e), Option.some.inj h⟩
theorem GoodF.name {fs : Fs} (h : GoodF fs) {n s : Str} (e : getF fs n = some s) : NameOk n ∧ s ∈ sorts := by
  obtain ⟨x, hx, e1, e2⟩ := getF_in e
  obtain ⟨a, b, c, d⟩ := h.ok x hx
  rw [← e1, ← e2]
  exact ⟨⟨a, b, c⟩, d⟩
theorem lists_bd {N m : Nat} {ds : List PyData} (h : ds.length ≤ N) (b : ∀ d ∈ ds, Bd N m d) : Bd N (m + 1) (.list ds) := ⟨h, b⟩
end St6

set_option autoImplicit false
set_option maxHeartbeats 4000000
namespace St6
open PySem PySem.Spec PyProof.Rows L2 Tg Cc Nn TL
/-! what steps make of values -/
abbrev Mv := Str → Option PyData
def upM (m : Mv) (n : Str) (o : Option PyData) : Mv := fun z => if z = n then o else m z
def intOf : PyData → Int
  | .int i => i
  | _ => 0
def valM (m : Mv) (a : PyData) : PyData := (m (txtOf a)).getD .none
def eqP : PyData → PyData → Bool
  | .int i, .int j => decide (i = j)
  | .str a, .str b => decide (a = b)
  | _, _ => false
def firstOf : PyData → PyData
  | .tuple (a :: _) => a
  | _ => .none
def secondOf : PyData → PyData
  | .tuple (_ :: b :: _) => b
  | _ => .none
def partM (m : Mv) : PyData → Str
  | .tuple [.str k, d] => if k = "say" then txtOf d else txtOf (valM m d)
  | _ => ""
def sumM (m : Mv) (l : List PyData) : Int := (l.map fun f => intOf (valM m f)).sum
def joinM (m : Mv) (l : List PyData) : Str := Txt.join (Str.ofString "") (l.map (partM m))
def tabM (v : PyData) (rows : List PyData) (other : PyData) : PyData := match rows.find? fun r => eqP v (firstOf r) with
  | some r => secondOf r
  | none => match other with
    | .tuple [x] => x
    | _ => v
def doLead (rec : Mv → PyData → Mv) (m : Mv) (w : Str) : List PyData → Mv
  | [a] => if w = "drop" then upM m (txtOf a) none else m
  | [a, b] => if w = "rename" then upM (upM m (txtOf b) (m (txtOf a))) (txtOf a) none else if w = "copy" then upM m (txtOf b) (m (txtOf a)) else if w = "sum" then upM m (txtOf a) (some (.int (sumM m (items b)))) else if w = "join" then upM m (txtOf a) (some (.str (joinM m (items b)))) else m
  | [a, b, c] => if w = "put" then upM m (txtOf a) (some c) else if w = "scale" then upM m (txtOf a) (some (.int (intOf (valM m a) * intOf b + intOf c))) else m
  | [a, b, c, d] => if w = "table" then upM m (txtOf a) (some (tabM (valM m a) (items c) d)) else if w = "case" then (if eqP (valM m a) b = true then rec m c else rec m d) else m
  | _ => m
def doS (rec : Mv → PyData → Mv) (m : Mv) : PyData → Mv
  | .tuple (.str w :: r) => doLead rec m w r
  | _ => m
def doGo (st : Mv → PyData → Mv) : Mv → List PyData → Mv
  | m, [] => m
  | m, d :: r => doGo st (st m d) r
def doB : Nat → Mv → PyData → Mv
  | 0, m, d => doGo (doS fun m _ => m) m (items d)
  | c + 1, m, d => doGo (doS (doB c)) m (items d)
def dRec : Nat → Mv → PyData → Mv
  | 0 => fun m _ => m
  | c + 1 => doB c
theorem do_over (c : Nat) (m : Mv) (d : PyData) : doB c m d = doGo (doS (dRec c)) m (items d) := by cases c <;> rfl
theorem doGo_cons (st : Mv → PyData → Mv) (m : Mv) (d : PyData) (r : List PyData) : doGo st m (d :: r) = doGo st (st m d) r := rfl
/-! how long texts become -/
def lenLead (rec : Nat → PyData → Nat) (L : Nat) (w : Str) : List PyData → Nat
  | [_, b] => if w = "join" then max L ((items b).map (partLen L)).sum else L
  | [_, _, c, d] => if w = "case" then max (rec L c) (rec L d) else L
  | _ => L
def lenS (rec : Nat → PyData → Nat) (L : Nat) : PyData → Nat
  | .tuple (.str w :: r) => lenLead rec L w r
  | _ => L
def lenGo (st : Nat → PyData → Nat) : Nat → List PyData → Nat
  | L, [] => L
  | L, d :: r => lenGo st (st L d) r
def lngB : Nat → Nat → PyData → Nat
  | 0, L, d => lenGo (lenS fun L _ => L) L (items d)
  | c + 1, L, d => lenGo (lenS (lngB c)) L (items d)
def lRec : Nat → Nat → PyData → Nat
  | 0 => fun L _ => L
  | c + 1 => lngB c
theorem len_over (c L : Nat) (d : PyData) : lngB c L d = lenGo (lenS (lRec c)) L (items d) := by cases c <;> rfl
theorem lenLead_ge {rec : Nat → PyData → Nat} (h : ∀ L d, L ≤ rec L d) (L : Nat) (w : Str) (r : List PyData) : L ≤ lenLead rec L w r := by
  unfold lenLead
  split
  · split
    · exact Nat.le_max_left _ _
    · exact Nat.le_refl _
  · split
    · exact Nat.le_trans (h L _) (Nat.le_max_left _ _)
    · exact Nat.le_refl _
  · exact Nat.le_refl _
theorem lenS_ge {rec : Nat → PyData → Nat} (h : ∀ L d, L ≤ rec L d) (L : Nat) (d : PyData) : L ≤ lenS rec L d := by
  unfold lenS
  split
  · exact lenLead_ge h L _ _
  · exact Nat.le_refl _
theorem lenGo_ge {st : Nat → PyData → Nat} (h : ∀ L d, L ≤ st L d) : ∀ (l : List PyData) (L : Nat), L ≤ lenGo st L l
  | [], L => Nat.le_refl _
  | d :: r, L => Nat.le_trans (h L d) (lenGo_ge h r (st L d))
theorem lngB_ge : ∀ (c L : Nat) (d : PyData), L ≤ lngB c L d
  | 0, L, d => lenGo_ge (lenS_ge fun L d => Nat.le_refl L) _ _
  | c + 1, L, d => lenGo_ge (lenS_ge (lngB_ge c)) _ _
theorem lRec_ge : ∀ (c L : Nat) (d : PyData), L ≤ lRec c L d
  | 0, L, d => Nat.le_refl L
  | c + 1, L, d => lngB_ge c L d
/-! values that stand for fields -/
def VOk (L : Nat) (s : Str) (v : PyData) : Prop := if s ∈ numsL then ∃ i, v = .int i else ∃ z, v = .str z ∧ z.length ≤ L ∧ As z
def MOk (L : Nat) (fs : Fs) (m : Mv) : Prop := ∀ n s, getF fs n = some s → ∃ v, m n = some v ∧ VOk L s v
theorem VOk.mono {L L' : Nat} {s : Str} {v : PyData} (h : VOk L s v) (l : L ≤ L') : VOk L' s v := by
  unfold VOk at h ⊢
  by_cases e : s ∈ numsL
  · rw [if_pos e] at h ⊢
    exact h
  · rw [if_neg e] at h ⊢
    obtain ⟨z, h1, h2, h3⟩ := h
    exact ⟨z, h1, Nat.le_trans h2 l, h3⟩
theorem MOk.mono {L L' : Nat} {fs : Fs} {m : Mv} (h : MOk L fs m) (l : L ≤ L') : MOk L' fs m := fun n s e => let ⟨v, h1, h2⟩ := h n s e; ⟨v, h1, h2.mono l⟩
theorem vok_int {L : Nat} {s : Str} (h : s ∈ numsL) (i : Int) : VOk L s (.int i) := by
  unfold VOk
  rw [if_pos h]
  exact ⟨i, rfl⟩
theorem vok_str {L : Nat} {s z : Str} (h : s ∉ numsL) (hl : z.length ≤ L) (ha : As z) : VOk L s (.str z) := by
  unfold VOk
  rw [if_neg h]
  exact ⟨z, rfl, hl, ha⟩
theorem vok_num {L : Nat} {s : Str} {v : PyData} (h : VOk L s v) (hs : s ∈ numsL) : ∃ i, v = .int i := by
  unfold VOk at h
  rw [if_pos hs] at h
  exact h
theorem vok_txt {L : Nat} {s : Str} {v : PyData} (h : VOk L s v) (hs : s ∉ numsL) : ∃ z, v = .str z ∧ z.length ≤ L ∧ As z := by
  unfold VOk at h
  rw [if_neg hs] at h
  exact h
/-- a value of a sort -/
theorem vok_sort {L : Nat} {s : Str} {v : PyData} (hs : s ∈ sorts) (hv : ofSort s v = true) (hL : 40 ≤ L) : VOk L s v := by
  unfold ofSort at hv
  by_cases e1 : s = "word"
  · subst e1
    rw [if_pos rfl] at hv
    cases v with
    | str z =>
      have hv : ((decide (1 ≤ z.length) && decide (z.length ≤ 8)) && z.cps.toList.all lowC) = true := hv
      rw [Bool.and_eq_true, Bool.and_eq_true] at hv
      have h8 := of_decide_eq_true hv.1.2
      exact vok_str (by decide +kernel) (by omega) (Low.as fun c hc => List.all_eq_true.mp hv.2 c hc)
    | _ => cases hv
  · rw [if_neg e1] at hv
    by_cases e2 : s = "text"
    · subst e2
      rw [if_pos rfl] at hv
      cases v with
      | str z =>
        have hv : (z.cps.toList.all signB && decide (z.length ≤ 40)) = true := hv
        rw [Bool.and_eq_true] at hv
        have h8 := of_decide_eq_true hv.2
        exact vok_str (by decide +kernel) (by omega) fun c hc => sign_as (List.all_eq_true.mp hv.1 c hc)
      | _ => cases hv
    · rw [if_neg e2] at hv
      have hn : s ∈ numsL := by
        have := (show ∀ z ∈ sorts, z = "word" ∨ z = "text" ∨ z ∈ numsL by decide +kernel) s hs
        rcases this with h | h | h
        · exact absurd h e1
        · exact absurd h e2
        · exact h
      cases v with
      | int i => exact vok_int hn i
      | _ => cases hv
theorem VOk.plain {L : Nat} {s : Str} {v : PyData} (h : VOk L s v) : (∃ i, v = .int i) ∨ ∃ z, v = .str z ∧ z.length ≤ L ∧ As z := by
  unfold VOk at h
  by_cases e : s ∈ numsL
  · rw [if_pos e] at h
    exact .inl h
  · rw [if_neg e] at h
    exact .inr h
theorem getF_snocD {fs : Fs} {n s m : Str} : getF (fs ++ [(n, s)]) m = (getF fs m).or (if n = m then some s else none) := by
  induction fs with
  | nil =>
    by_cases e : n = m
    · rw [if_pos e]
      exact getF_cons_pos e
    · rw [if_neg e]
      exact getF_cons_neg e
  | cons x r ih =>
    by_cases e : x.1 = m
    · rw [List.cons_append, getF_cons_pos e, getF_cons_pos e]
      rfl
    · rw [List.cons_append, getF_cons_neg e, getF_cons_neg e, ih]
/-- fields all of whose sorts are sorts -/
def SOk (fs : Fs) : Prop := ∀ n s, getF fs n = some s → s ∈ sorts
theorem mok_new {L : Nat} {fs : Fs} {m : Mv} {n s : Str} {v : PyData} (h : MOk L fs m) (hn : getF fs n = none) (hv : VOk L s v) : MOk L (fs ++ [(n, s)]) (upM m n (some v)) := fun z t e => by
  rw [getF_snocD] at e
  unfold upM
  by_cases ez : z = n
  · subst ez
    rw [hn, if_pos rfl] at e
    rw [if_pos rfl]
    obtain rfl := Option.some.inj e
    exact ⟨v, rfl, hv⟩
  · rw [if_neg (fun h => ez h.symm)] at e
    rw [if_neg ez]
    cases hz : getF fs z with
    | none =>
      rw [hz] at e
      cases e
    | some u =>
      rw [hz] at e
      obtain rfl := Option.some.inj e
      exact h z u hz
theorem getF_inD {fs : Fs} {n s : Str} (h : getF fs n = some s) : (n, s) ∈ fs := by
  unfold getF at h
  cases e : fs.find? fun y => decide (y.1 = n) with
  | none =>
    rw [e] at h
    cases h
  | some y =>
    rw [e] at h
    have e1 : y.1 = n := of_decide_eq_true (List.find?_some (p := fun y : Str × Str => decide (y.1 = n)) e)
    have e2 : y.2 = s := Option.some.inj h
    have := List.mem_of_find?_eq_some e
    rw [← e1, ← e2]
    exact this
structure FOk (fs : Fs) : Prop where
  nd : (fs.map Prod.fst).Nodup
  so : ∀ x ∈ fs, x.2 ∈ sorts
theorem FOk.get {fs : Fs} (h : FOk fs) {n s : Str} (e : getF fs n = some s) : s ∈ sorts := h.so _ (getF_inD e)
theorem getF_ren {o n : Str} (no : o ≠ n) : ∀ {fs : Fs} (hn : getF fs n = none) (z : Str), getF (fs.map (ren o n)) z = if z = n then getF fs o else if z = o then none else getF fs z
  | [], _, z => by
    show none = _
    by_cases e : z = n
    · rw [if_pos e]
      rfl
    · rw [if_neg e]
      by_cases e2 : z = o
      · rw [if_pos e2]
      · rw [if_neg e2]
        rfl
  | x :: r, hn, z => by
    have xn : ¬ x.1 = n := fun e => by
      rw [getF_cons_pos e] at hn
      cases hn
    have ih := getF_ren no (fs := r) (by rwa [getF_cons_neg xn] at hn) z
    rw [List.map_cons]
    by_cases eo : x.1 = o
    · have er : ren o n x = (n, x.2) := by
        unfold ren
        rw [if_pos eo]
      rw [er, getF_cons_pos eo]
      by_cases e : z = n
      · rw [if_pos e, getF_cons_pos e.symm]
      · rw [if_neg e, getF_cons_neg (fun h => e h.symm), ih, if_neg e]
        by_cases e2 : z = o
        · rw [if_pos e2, if_pos e2]
        · rw [if_neg e2, if_neg e2, getF_cons_neg (fun h => e2 (h.symm.trans eo))]
    · have er : ren o n x = x := by
        unfold ren
        rw [if_neg eo]
      rw [er, getF_cons_neg eo]
      by_cases e : z = n
      · rw [if_pos e, getF_cons_neg (fun h => xn (h.trans e)), ih, if_pos e]
      · rw [if_neg e]
        by_cases e2 : z = o
        · rw [if_pos e2, getF_cons_neg (fun h => eo (h.trans e2)), ih, if_neg e, if_pos e2]
        · rw [if_neg e2]
          by_cases e3 : x.1 = z
          · rw [getF_cons_pos e3, getF_cons_pos e3]
          · rw [getF_cons_neg e3, getF_cons_neg e3, ih, if_neg e, if_neg e2]
theorem getF_dropD (o : Str) : ∀ (fs : Fs) (z : Str), getF (fs.filter fun x => !decide (x.1 = o)) z = if z = o then none else getF fs z
  | [], z => by
    show none = _
    by_cases e : z = o
    · rw [if_pos e]
    · rw [if_neg e]
      rfl
  | x :: r, z => by
    have ih := getF_dropD o r z
    by_cases eo : x.1 = o
    · rw [List.filter_cons_of_neg (by rw [decide_eq_true eo]; decide), ih]
      by_cases e : z = o
      · rw [if_pos e, if_pos e]
      · rw [if_neg e, if_neg e, getF_cons_neg (fun h => e (h.symm.trans eo))]
    · rw [List.filter_cons_of_pos (by rw [decide_eq_false eo]; rfl)]
      by_cases e3 : x.1 = z
      · rw [getF_cons_pos e3, getF_cons_pos e3, if_neg (fun h => eo (e3.trans h))]
      · rw [getF_cons_neg e3, getF_cons_neg e3, ih]
theorem getF_setD {t so : Str} : ∀ {fs : Fs} (z : Str), getF (fs.map fun x => if x.1 = t then (x.1, so) else x) z = if z = t then (getF fs t).map (fun _ => so) else getF fs z
  | [], z => by
    show none = _
    by_cases e : z = t
    · rw [if_pos e]
      rfl
    · rw [if_neg e]
      rfl
  | x :: r, z => by
    have ih := getF_setD (t := t) (so := so) (fs := r) z
    rw [List.map_cons]
    by_cases et : x.1 = t
    · rw [if_pos et]
      by_cases e : z = t
      · rw [if_pos e, getF_cons_pos (x := (x.1, so)) (et.trans e.symm), getF_cons_pos et]
        rfl
      · rw [if_neg e, getF_cons_neg (x := (x.1, so)) (fun h => e (h.symm.trans et)), getF_cons_neg (x := x) (fun h => e (h.symm.trans et)), ih, if_neg e]
    · rw [if_neg et]
      by_cases e3 : x.1 = z
      · rw [getF_cons_pos e3, getF_cons_pos e3, if_neg (fun h => et (e3.trans h))]
      · rw [getF_cons_neg e3, ih, getF_cons_neg et, getF_cons_neg e3]
theorem upM_self (m : Mv) (n : Str) (o : Option PyData) : upM m n o n = o := if_pos rfl
theorem upM_ne {m : Mv} {n z : Str} {o : Option PyData} (h : z ≠ n) : upM m n o z = m z := if_neg h
theorem valM_of {m : Mv} {n : Str} {v : PyData} (h : m n = some v) : valM m (.str n) = v := by
  show (m n).getD .none = v
  rw [h]
  rfl
theorem fok_new {fs : Fs} {n s : Str} (h : FOk fs) (hn : getF fs n = none) (hs : s ∈ sorts) : FOk (fs ++ [(n, s)]) := ⟨nd_new hn h.nd, fun x hx => by
  rcases List.mem_append.mp hx with h1 | h1
  · exact h.so x h1
  · rw [List.mem_singleton.mp h1]
    exact hs⟩
theorem txt_not : ∀ z ∈ joinL, z ∉ numsL := by decide +kernel
theorem sayC_as {c : Nat} (h : sayC c = true) : c < 128 := by
  have := (show ∀ c ∈ (Str.ofString "abcdefghijklmnopqrstuvwxyz0123456789 -").cps.toList, c < 128 by decide +kernel)
  exact this c (of_decide_eq_true h)
/-- what a part of a join is -/
theorem part_of {L : Nat} {fs : Fs} {m : Mv} {d : PyData} (h : partB fs d = true) (hm : MOk L fs m) : (∃ z, d = .tuple [.str "say", .str z] ∧ z.length ≤ 12 ∧ As z) ∨ ∃ n z, d = .tuple [.str "field", .str n] ∧ m n = some (.str z) ∧ z.length ≤ L ∧ As z := by
  match d, h with
  | .tuple [.str w, d], h =>
    have h : (if w = "say" then sayB d else (decide (w = "field") && amongB joinL (sortOf fs d))) = true := h
    by_cases e : w = "say"
    · subst e
      rw [if_pos rfl] at h
      cases d with
      | str z =>
        have h : ((decide (1 ≤ z.length) && decide (z.length ≤ 12)) && z.cps.toList.all sayC) = true := h
        rw [Bool.and_eq_true, Bool.and_eq_true] at h
        exact .inl ⟨z, rfl, of_decide_eq_true h.1.2, fun c hc => sayC_as (List.all_eq_true.mp h.2 c hc)⟩
      | _ => cases h
    · rw [if_neg e, Bool.and_eq_true] at h
      obtain ⟨h1, h2⟩ := h
      obtain rfl := of_decide_eq_true h1
      cases ho : sortOf fs d with
      | none =>
        rw [ho] at h2
        cases h2
      | some s =>
        rw [ho] at h2
        obtain ⟨n, rfl, hn⟩ := sortOf_of ho
        have hs : s ∈ joinL := of_decide_eq_true h2
        obtain ⟨v, hv, hk⟩ := hm n s hn
        obtain ⟨z, rfl, lz, az⟩ := vok_txt hk (txt_not s hs)
        exact .inr ⟨n, z, rfl, hv, lz, az⟩
theorem part_len {L : Nat} {fs : Fs} {m : Mv} {d : PyData} (h : partB fs d = true) (hm : MOk L fs m) : (partM m d).length ≤ partLen L d ∧ As (partM m d) := by
  rcases part_of h hm with ⟨z, rfl, lz, az⟩ | ⟨n, z, rfl, hv, lz, az⟩
  · exact ⟨lz, az⟩
  · have e : partM m (.tuple [.str "field", .str n]) = z := by
      show txtOf (valM m (.str n)) = z
      rw [valM_of hv]
      rfl
    rw [e]
    exact ⟨lz, az⟩
theorem join_facts {zs : List Str} (h : ∀ z ∈ zs, As z) : As (Txt.join (Str.ofString "") zs) ∧ (Txt.join (Str.ofString "") zs).length = (zs.map (·.length)).sum := by
  have t0 : tl (Str.ofString "") = [] := by decide +kernel
  refine ⟨fun c hc => ?_, ?_⟩
  · have hc : c ∈ tl (Txt.join (Str.ofString "") zs) := hc
    rw [join_eq, tl_join, t0] at hc
    obtain ⟨y, hy, hey⟩ := joinL_mem _ _ hc
    obtain ⟨z, hz, rfl⟩ := List.mem_map.mp hy
    exact h z hz c hey
  · rw [len_tl, join_eq, tl_join, t0, joinL_len, List.map_map]
    have e : (zs.map (List.length ∘ tl)) = zs.map (·.length) := List.map_congr_left fun z _ => (len_tl z).symm
    rw [e]
theorem joinM_ok {L : Nat} {fs : Fs} {m : Mv} {l : List PyData} (h : ∀ d ∈ l, partB fs d = true) (hm : MOk L fs m) : As (joinM m l) ∧ (joinM m l).length ≤ (l.map (partLen L)).sum := by
  have hz : ∀ z ∈ l.map (partM m), As z := fun z hz => by
    obtain ⟨d, hd, rfl⟩ := List.mem_map.mp hz
    exact (part_len (h d hd) hm).2
  obtain ⟨a, b⟩ := join_facts hz
  refine ⟨a, ?_⟩
  show (Txt.join (Str.ofString "") (l.map (partM m))).length ≤ _
  rw [b, List.map_map]
  clear a b hz
  induction l with
  | nil => exact Nat.le_refl _
  | cons d r ih =>
    rw [List.map_cons, List.map_cons, List.sum_cons, List.sum_cons]
    have h1 := (part_len (h d (List.mem_cons_self ..)) hm).1
    have h2 := ih fun x hx => h x (List.mem_cons_of_mem _ hx)
    exact Nat.add_le_add h1 h2
/-- what a table makes -/
theorem row_of {a b : Str} {d : PyData} (h : rowB a b d = true) : ∃ x y, d = .tuple [x, y] ∧ ofSort a x = true ∧ ofSort b y = true := by
  match d, h with
  | .tuple [x, y], h =>
    have h : (ofSort a x && ofSort b y) = true := h
    rw [Bool.and_eq_true] at h
    exact ⟨x, y, rfl, h.1, h.2⟩
theorem tabM_ok {L : Nat} {s so : Str} {v rows other : PyData} (hL : 40 ≤ L) (hso : so ∈ sorts) (hv : VOk L s v) (hr : rowsB s so rows = true) (ho : otherB s so other = true) : VOk L so (tabM v (items rows) other) := by
  obtain ⟨l, rfl⟩ : ∃ l, rows = .tuple l := by
    cases rows <;> first | exact ⟨_, rfl⟩ | cases hr
  have hr : ((decide (l.length ≤ 4) && l.all (rowB s so)) && decide ((l.map keyOf).Nodup)) = true := hr
  rw [Bool.and_eq_true, Bool.and_eq_true] at hr
  unfold tabM
  cases e : (items (.tuple l)).find? fun r => eqP v (firstOf r) with
  | some r =>
    dsimp only
    obtain ⟨x, y, rfl, _, hy⟩ := row_of (List.all_eq_true.mp hr.1.2 r (List.mem_of_find?_eq_some e))
    exact vok_sort hso hy hL
  | none =>
    dsimp only
    match other, ho with
    | .none, ho =>
      have ho : so = s := of_decide_eq_true ho
      rw [ho]
      exact hv
    | .tuple [x], ho => exact vok_sort hso ho hL
theorem among_of {l : List Str} {o : Option Str} (h : amongB l o = true) : ∃ s, o = some s ∧ s ∈ l := by
  cases o with
  | none => cases h
  | some s => exact ⟨s, rfl, of_decide_eq_true h⟩
theorem lead_ok {rec : Fs → PyData → Except Nat Fs} {dr : Mv → PyData → Mv} {lr : Nat → PyData → Nat} (ih : ∀ L fs d gs m, rec fs d = .ok gs → FOk fs → MOk L fs m → 40 ≤ L → FOk gs ∧ MOk (lr L d) gs (dr m d)) (hge : ∀ L d, L ≤ lr L d)
    {L : Nat} {fs gs : Fs} {m : Mv} {w : Str} {r : List PyData} (h : leadB rec fs w r = some gs) (hf : FOk fs) (hm : MOk L fs m) (hL : 40 ≤ L) : FOk gs ∧ MOk (lenLead lr L w r) gs (doLead dr m w r) := by
  have hln : lenOf w = some r.length := by
    by_cases e : lenOf w = some r.length
    · exact e
    · rw [lead_len e] at h
      cases h
  rcases lenOf_in hln with e | e | e | e | e | e | e | e | e
  · -- rename
    subst e
    obtain ⟨d0, d1, rfl⟩ := len2 (Option.some.inj hln).symm
    obtain ⟨hc, rfl⟩ := ifs (show renameB fs d0 d1 = some gs from h)
    obtain ⟨c1, c2⟩ := (Bool.and_eq_true _ _).mp hc
    obtain ⟨n, rfl, hn⟩ := isNew_of c2
    obtain ⟨so, hso⟩ := Option.isSome_iff_exists.mp c1
    obtain ⟨o, rfl, ho⟩ := sortOf_of hso
    have no : o ≠ n := fun e => by
      rw [e, hn] at ho
      cases ho
    show FOk (fs.map (ren o n)) ∧ MOk L (fs.map (ren o n)) (upM (upM m n (m o)) o none)
    refine ⟨⟨ren_nd hf.nd hn, fun x hx => ?_⟩, fun z s e => ?_⟩
    · obtain ⟨y, hy, rfl⟩ := List.mem_map.mp hx
      exact hf.so y hy
    · rw [getF_ren no hn] at e
      by_cases ez : z = n
      · rw [if_pos ez, ho] at e
        obtain rfl := Option.some.inj e
        rw [ez, upM_ne (Ne.symm no), upM_self]
        exact hm o so ho
      · rw [if_neg ez] at e
        by_cases eo : z = o
        · rw [if_pos eo] at e
          cases e
        · rw [if_neg eo] at e
          rw [upM_ne eo, upM_ne ez]
          exact hm z s e
  · -- copy
    subst e
    obtain ⟨d0, d1, rfl⟩ := len2 (Option.some.inj hln).symm
    replace h : copyB fs d0 d1 = some gs := h
    unfold copyB at h
    obtain ⟨el, hel⟩ : ∃ el, sortOf fs d0 = some el := by
      cases ho : sortOf fs d0 with
      | none =>
        rw [ho] at h
        cases h
      | some el => exact ⟨el, rfl⟩
    rw [hel] at h
    obtain ⟨hc, rfl⟩ := ifs h
    obtain ⟨o, rfl, ho⟩ := sortOf_of hel
    obtain ⟨n, rfl, hn⟩ := isNew_of hc
    obtain ⟨v, hv, hk⟩ := hm o el ho
    refine ⟨fok_new hf hn (hf.get ho), ?_⟩
    show MOk L (fs ++ [(n, el)]) (upM m n (m o))
    rw [hv]
    exact mok_new hm hn hk
  · -- drop
    subst e
    obtain ⟨d0, rfl⟩ := len1 (Option.some.inj hln).symm
    obtain ⟨hc, rfl⟩ := ifs (show dropB fs d0 = some gs from h)
    obtain ⟨so, hso⟩ := Option.isSome_iff_exists.mp hc
    obtain ⟨o, rfl, ho⟩ := sortOf_of hso
    refine ⟨⟨hf.nd.sublist (List.Sublist.map _ List.filter_sublist), fun x hx => hf.so x (List.mem_filter.mp hx).1⟩, fun z s e => ?_⟩
    have e : getF (fs.filter fun x => !decide (x.1 = o)) z = some s := e
    rw [getF_dropD] at e
    by_cases ez : z = o
    · rw [if_pos ez] at e
      cases e
    · rw [if_neg ez] at e
      obtain ⟨v, h1, h2⟩ := hm z s e
      exact ⟨v, (upM_ne ez).trans h1, h2⟩
  · -- put
    subst e
    obtain ⟨d0, d1, d2, rfl⟩ := len3 (Option.some.inj hln).symm
    obtain ⟨hc, rfl⟩ := ifs (show putB fs d0 d1 d2 = some gs from h)
    obtain ⟨c1, c2⟩ := (Bool.and_eq_true _ _).mp hc
    obtain ⟨c3, c4⟩ := (Bool.and_eq_true _ _).mp c2
    obtain ⟨n, rfl, hn⟩ := isNew_of c1
    obtain ⟨so, rfl⟩ : ∃ z, d1 = .str z := by
      cases d1 <;> first | exact ⟨_, rfl⟩ | cases c3
    have hs : so ∈ sorts := of_decide_eq_true c3
    exact ⟨fok_new hf hn hs, mok_new hm hn (vok_sort hs c4 hL)⟩
  · -- scale
    subst e
    obtain ⟨d0, d1, d2, rfl⟩ := len3 (Option.some.inj hln).symm
    obtain ⟨hc, rfl⟩ := ifs (show scaleB fs d0 d1 d2 = some gs from h)
    obtain ⟨c1, c2⟩ := (Bool.and_eq_true _ _).mp hc
    obtain ⟨el, hel, hn⟩ := among_of c1
    obtain ⟨o, rfl, ho⟩ := sortOf_of hel
    refine ⟨hf, fun z s e => ?_⟩
    show ∃ v, upM m o (some (.int (intOf (valM m (.str o)) * intOf d1 + intOf d2))) z = some v ∧ VOk L s v
    by_cases ez : z = o
    · subst ez
      rw [ho] at e
      obtain rfl := Option.some.inj e
      exact ⟨_, upM_self _ _ _, vok_int hn _⟩
    · rw [upM_ne ez]
      exact hm z s e
  · -- sum
    subst e
    obtain ⟨d0, d1, rfl⟩ := len2 (Option.some.inj hln).symm
    obtain ⟨hc, rfl⟩ := ifs (show sumB fs d0 d1 = some gs from h)
    obtain ⟨c1, c2⟩ := (Bool.and_eq_true _ _).mp hc
    obtain ⟨n, rfl, hn⟩ := isNew_of c1
    exact ⟨fok_new hf hn (by decide +kernel), mok_new hm hn (vok_int (by decide +kernel) _)⟩
  · -- join
    subst e
    obtain ⟨d0, d1, rfl⟩ := len2 (Option.some.inj hln).symm
    obtain ⟨hc, rfl⟩ := ifs (show joinB fs d0 d1 = some gs from h)
    obtain ⟨c1, c2⟩ := (Bool.and_eq_true _ _).mp hc
    obtain ⟨n, rfl, hn⟩ := isNew_of c1
    obtain ⟨l, rfl⟩ : ∃ l, d1 = .tuple l := by
      cases d1 <;> first | exact ⟨_, rfl⟩ | cases c2
    have c2 : ((decide (1 ≤ l.length) && decide (l.length ≤ 8)) && l.all (partB fs)) = true := c2
    rw [Bool.and_eq_true] at c2
    obtain ⟨ja, jl⟩ := joinM_ok (fun d hd => List.all_eq_true.mp c2.2 d hd) hm
    show FOk _ ∧ MOk (max L (l.map (partLen L)).sum) (fs ++ [(n, ("text" : Str))]) (upM m n (some (.str (joinM m l))))
    exact ⟨fok_new hf hn (by decide +kernel), mok_new (hm.mono (Nat.le_max_left _ _)) hn (vok_str (by decide +kernel) (Nat.le_trans jl (Nat.le_max_right _ _)) ja)⟩
  · -- table
    subst e
    obtain ⟨d0, d1, d2, d3, rfl⟩ := len4 (Option.some.inj hln).symm
    replace h : tableB fs d0 d1 d2 d3 = some gs := h
    unfold tableB at h
    cases ho : sortOf fs d0 with
    | none =>
      rw [ho] at h
      cases h
    | some el =>
      rw [ho] at h
      obtain ⟨hc, rfl⟩ := ifs h
      obtain ⟨c1, c2⟩ := (Bool.and_eq_true _ _).mp hc
      obtain ⟨c3, c4⟩ := (Bool.and_eq_true _ _).mp c1
      obtain ⟨c5, c6⟩ := (Bool.and_eq_true _ _).mp c3
      obtain ⟨c7, c8⟩ := (Bool.and_eq_true _ _).mp c2
      obtain ⟨o, rfl, ho⟩ := sortOf_of ho
      obtain ⟨so, rfl⟩ : ∃ z, d1 = .str z := by
        cases d1 <;> first | exact ⟨_, rfl⟩ | cases c6
      have hs : so ∈ sorts := of_decide_eq_true c6
      obtain ⟨v, hv, hk⟩ := hm o el ho
      have hw := tabM_ok hL hs hk c7 c8
      have e1 : setF fs o so = fs.map fun x => if x.1 = o then (x.1, so) else x := set_map ho
      show FOk (setF fs o so) ∧ MOk L (setF fs o so) (upM m o (some (tabM (valM m (.str o)) (items d2) d3)))
      rw [e1, valM_of hv]
      refine ⟨⟨?_, fun x hx => ?_⟩, fun z s e => ?_⟩
      · rw [List.map_map]
        have : (Prod.fst ∘ fun x : Str × Str => if x.1 = o then (x.1, so) else x) = Prod.fst := by
          funext x
          show (if x.1 = o then (x.1, so) else x).1 = x.1
          by_cases e : x.1 = o
          · rw [if_pos e]
          · rw [if_neg e]
        rw [this]
        exact hf.nd
      · obtain ⟨y, hy, rfl⟩ := List.mem_map.mp hx
        by_cases e : y.1 = o
        · rw [if_pos e]
          exact hs
        · rw [if_neg e]
          exact hf.so y hy
      · rw [getF_setD] at e
        by_cases ez : z = o
        · rw [if_pos ez, show getF fs o = some el from ho] at e
          obtain rfl := Option.some.inj e
          exact ⟨_, by rw [ez]; exact upM_self _ _ _, hw⟩
        · rw [if_neg ez] at e
          rw [upM_ne ez]
          exact hm z s e
  · -- case
    subst e
    obtain ⟨d0, d1, d2, d3, rfl⟩ := len4 (Option.some.inj hln).symm
    obtain ⟨x, y, hx, hy, e, eg⟩ : ∃ x y, rec fs d2 = .ok x ∧ rec fs d3 = .ok y ∧ eqF x y = true ∧ gs = x := by
      replace h : caseB rec fs d0 d1 d2 d3 = some gs := h
      unfold caseB at h
      cases ho : sortOf fs d0 with
      | none =>
        rw [ho] at h
        cases h
      | some el =>
        rw [ho] at h
        dsimp only at h
        by_cases k : (decide (el ∈ testL) && ofSort el d1) = true
        · rw [if_pos k] at h
          cases hy : rec fs d2 with
          | error n =>
            rw [hy] at h
            cases h
          | ok x =>
            cases hn : rec fs d3 with
            | error n =>
              rw [hy, hn] at h
              cases h
            | ok y =>
              rw [hy, hn] at h
              obtain ⟨he, rfl⟩ := ifs h
              exact ⟨_, y, rfl, rfl, he, rfl⟩
        · rw [if_neg k] at h
          cases h
    subst eg
    obtain ⟨fx, mx⟩ := ih L fs d2 gs m hx hf hm hL
    obtain ⟨fy, my⟩ := ih L fs d3 y m hy hf hm hL
    refine ⟨fx, ?_⟩
    show MOk (max (lr L d2) (lr L d3)) gs (if eqP (valM m d0) d1 = true then dr m d2 else dr m d3)
    by_cases k : eqP (valM m d0) d1 = true
    · rw [if_pos k]
      exact mx.mono (Nat.le_max_left _ _)
    · rw [if_neg k]
      intro z s e2
      refine (my.mono (Nat.le_max_right _ _)) z s ?_
      unfold eqF at e
      simp only [Bool.and_eq_true, List.all_eq_true] at e
      exact of_decide_eq_true (e.2 _ (getF_inD e2))
theorem step_ok {c : Nat} (ih : ∀ L fs d gs m, recOf c fs d = .ok gs → FOk fs → MOk L fs m → 40 ≤ L → FOk gs ∧ MOk (lRec c L d) gs (dRec c m d)) {L : Nat} {fs gs : Fs} {m : Mv} {d : PyData} (h : stepB (recOf c) fs d = some gs) (hf : FOk fs) (hm : MOk L fs m) (hL : 40 ≤ L) :
    FOk gs ∧ MOk (lenS (lRec c) L d) gs (doS (dRec c) m d) := by
  obtain ⟨w, r, rfl, h, _⟩ := stepB_some h
  exact lead_ok ih (lRec_ge c) h hf hm hL
theorem go_ok {c : Nat} (ih : ∀ L fs d gs m, recOf c fs d = .ok gs → FOk fs → MOk L fs m → 40 ≤ L → FOk gs ∧ MOk (lRec c L d) gs (dRec c m d)) : ∀ (ds : List PyData) (i L : Nat) (fs gs : Fs) (m : Mv), goB (stepB (recOf c)) i fs ds = .ok gs → FOk fs → MOk L fs m → 40 ≤ L →
    FOk gs ∧ MOk (lenGo (lenS (lRec c)) L ds) gs (doGo (doS (dRec c)) m ds)
  | [], i, L, fs, gs, m, h, hf, hm, hL => by
    obtain rfl := Except.ok.inj (show Except.ok fs = Except.ok gs from h)
    exact ⟨hf, hm⟩
  | d :: r, i, L, fs, gs, m, h, hf, hm, hL => by
    rw [go_cons] at h
    cases e : stepB (recOf c) fs d with
    | none =>
      rw [e] at h
      cases h
    | some hs =>
      rw [e] at h
      obtain ⟨f1, m1⟩ := step_ok ih e hf hm hL
      exact go_ok ih r (i + 1) _ hs gs _ h f1 m1 (Nat.le_trans hL (lenS_ge (lRec_ge c) L d))
theorem rec_ok : ∀ (c : Nat), ∀ L fs d gs m, recOf c fs d = .ok gs → FOk fs → MOk L fs m → 40 ≤ L → FOk gs ∧ MOk (lRec c L d) gs (dRec c m d)
  | 0, L, fs, d, gs, m, h, _, _, _ => by cases h
  | c + 1, L, fs, d, gs, m, h, hf, hm, hL => by
    have h : stepsB c fs d = .ok gs := h
    rw [steps_over] at h
    show FOk gs ∧ MOk (lngB c L d) gs (doB c m d)
    rw [len_over, do_over]
    cases d with
    | list ds => exact go_ok (rec_ok c) ds 0 L fs gs m h hf hm hL
    | tuple ds => exact go_ok (rec_ok c) ds 0 L fs gs m h hf hm hL
    | _ => cases h
/-- what steps that fit make of values that fit -/
theorem do_ok (c : Nat) {L : Nat} {fs gs : Fs} {d : PyData} {m : Mv} (h : stepsB c fs d = .ok gs) (hf : FOk fs) (hm : MOk L fs m) (hL : 40 ≤ L) : FOk gs ∧ MOk (lngB c L d) gs (doB c m d) := rec_ok (c + 1) L fs d gs m h hf hm hL
end St6

set_option autoImplicit false
set_option maxHeartbeats 4000000
namespace St6
open PySem PySem.Spec PyProof.Rows L2 Tg Cc Nn TL
/-! deeds on values -/
/-- the dict at p holds m -/
def HeldM (H : Hp) (p : Addr) (m : Mv) (B : Nat) : Prop := ∃ kvs, H p = some (.dK kvs) ∧ kvs.length ≤ B ∧ ∀ z, valV kvs (Sum.inr z) = (m z).map vOf
theorem valV_dropK (k j : Key) : ∀ kvs : List (Key × V), valV (dropK kvs k) j = if j = k then none else valV kvs j
  | [] => by
    show none = _
    by_cases e : j = k
    · rw [if_pos e]
    · rw [if_neg e]
      rfl
  | x :: r => by
    have ih := valV_dropK k j r
    unfold dropK at ih ⊢
    by_cases e : x.1 = k
    · rw [List.filter_cons_of_neg (by simpa using e), ih]
      by_cases ej : j = k
      · rw [if_pos ej, if_pos ej]
      · rw [if_neg ej, if_neg ej, valV_neg (fun h => ej (h.symm.trans e))]
    · rw [List.filter_cons_of_pos (by simpa using e)]
      by_cases e2 : x.1 = j
      · rw [valV_pos e2, valV_pos e2, if_neg (fun h => e (e2.trans h))]
      · rw [valV_neg e2, valV_neg e2, ih]
theorem heldm_put {H : Hp} {p : Addr} {m : Mv} {B : Nat} {kvs : List (Key × V)} (lk : kvs.length ≤ B) (hv : ∀ z, valV kvs (Sum.inr z) = (m z).map vOf) (n : Str) (v : PyData) : HeldM (upd H p (.dK (putK kvs (Sum.inr n) (vOf v)))) p (upM m n (some v)) (B + 1) := by
  refine ⟨_, upd_same, Nat.le_trans (length_putK _ _ _) (by omega), fun z => ?_⟩
  rw [valV_put]
  unfold upM
  by_cases e : z = n
  · rw [if_pos (congrArg Sum.inr e), if_pos e]
    rfl
  · rw [if_neg (fun h => e (Sum.inr.inj h)), if_neg e]
    exact hv z
theorem heldm_drop {H : Hp} {p : Addr} {m : Mv} {B : Nat} {kvs : List (Key × V)} (lk : kvs.length ≤ B) (hv : ∀ z, valV kvs (Sum.inr z) = (m z).map vOf) (n : Str) : HeldM (upd H p (.dK (dropK kvs (Sum.inr n)))) p (upM m n none) B := by
  refine ⟨_, upd_same, Nat.le_trans (List.length_filter_le _ _) lk, fun z => ?_⟩
  rw [valV_dropK]
  unfold upM
  by_cases e : z = n
  · rw [if_pos (congrArg Sum.inr e), if_pos e]
    rfl
  · rw [if_neg (fun h => e (Sum.inr.inj h)), if_neg e]
    exact hv z
theorem dget_m {H : Hp} {p : Addr} {m : Mv} {kvs : List (Key × V)} (hp : H p = some (.dK kvs)) (hv : ∀ z, valV kvs (Sum.inr z) = (m z).map vOf) {n : Str} {v : PyData} (h : m n = some v) : DGet H p (.str n) (some (vOf v)) := by
  have g := DGet.k (k := Sum.inr n) hp
  rw [hv n, h] at g
  exact g
theorem HeldM.mono {H : Hp} {p : Addr} {m : Mv} {B B' : Nat} (h : HeldM H p m B) (l : B ≤ B') : HeldM H p m B' := let ⟨k, a, b, c⟩ := h; ⟨k, a, Nat.le_trans b l, c⟩
theorem HeldM.same {H H1 : Hp} {p : Addr} {m : Mv} {B : Nat} (h : HeldM H p m B) (s : Same H H1) : HeldM H1 p m B := let ⟨k, a, b, c⟩ := h; ⟨k, s _ _ a, b, c⟩
mutual
theorem th_frD {K : PySem.W.Frag} {p : Addr} {H H1 : Hp} {kvs : List (Key × V)} (hp : H p = some (.dK kvs)) (f : Fr [p] H H1) : ∀ {v : V} {d : PyData}, Th K H v d → Pu false d → Th K H1 v d
  | _, _, .non, _ => .non
  | _, _, .bl b, _ => .bl b
  | _, _, .int i, _ => .int i
  | _, _, .str x, _ => .str x
  | _, _, .lst r t, h => by
    cases h with
    | lst e h => cases e
  | _, _, .tup (.inl r) t, h => .tup (.inl (r.elim (fun e => .inl (f _ _ (by simpa using ne_of e hp (by intro z; cases z)) e)) fun ⟨o, e⟩ => .inr ⟨o, f _ _ (by simpa using ne_of e hp (by intro z; cases z)) e⟩)) (thAll_frD hp f t h.mem)
  | _, _, .tup (.inr r) t, h => .tup (.inr r) (thAll_frD hp f t h.mem)
  | _, _, .dct _ _, h => by cases h
theorem thAll_frD {K : PySem.W.Frag} {p : Addr} {H H1 : Hp} {kvs : List (Key × V)} (hp : H p = some (.dK kvs)) (f : Fr [p] H H1) : ∀ {vs : List V} {ds : List PyData}, ThAll K H vs ds → (∀ d ∈ ds, Pu false d) → ThAll K H1 vs ds
  | _, _, .nil, _ => .nil
  | _, _, .cons h t, k => .cons (th_frD hp f h (k _ (List.mem_cons_self ..))) (thAll_frD hp f t fun d hd => k d (List.mem_cons_of_mem _ hd))
end
theorem th_val {K : PySem.W.Frag} {H : Hp} {x : V} {s : Str} {d : PyData} (h : Th K H x d) (hv : ofSort s d = true) : x = vOf d := by
  unfold ofSort at hv
  split at hv
  · cases d <;> first | (cases h; rfl) | cases hv
  · split at hv
    · cases d <;> first | (cases h; rfl) | cases hv
    · cases d <;> first | (cases h; rfl) | cases hv
/-- the numbers that scales take, small enough -/
def tmLead (rec : PyData → Bool) (w : Str) : List PyData → Bool
  | [_, t, _] => !decide (w = "scale") || decide ((intOf t).natAbs < 1073741824)
  | [_, _, y, n] => !decide (w = "case") || (rec y && rec n)
  | _ => true
def tmS (rec : PyData → Bool) : PyData → Bool
  | .tuple (.str w :: r) => tmLead rec w r
  | _ => true
def tmB : Nat → PyData → Bool
  | 0, d => (items d).all (tmS fun _ => true)
  | c + 1, d => (items d).all (tmS (tmB c))
def tRec : Nat → PyData → Bool
  | 0 => fun _ => true
  | c + 1 => tmB c
theorem tm_over (c : Nat) (d : PyData) : tmB c d = (items d).all (tmS (tRec c)) := by cases c <;> rfl
theorem growS_pos (c : Nat) (d : PyData) : 1 ≤ growS c d := by
  cases c with
  | zero => exact Nat.le_refl _
  | succ c => exact Nat.le_add_right _ _
theorem eqP_dec {L : Nat} {s : Str} {v d : PyData} (hv : VOk L s v) (hs : s ∈ sorts) (hd : ofSort s d = true) : decide (vOf v = vOf d) = eqP v d ∧ scal (vOf v) (vOf d) = true := by
  have hd2 := vok_sort (L := 40) hs hd (Nat.le_refl _)
  by_cases e : s ∈ numsL
  · obtain ⟨i, rfl⟩ := vok_num hv e
    obtain ⟨j, rfl⟩ := vok_num hd2 e
    refine ⟨decide_eq_decide.mpr ⟨fun h => V.int.inj h, fun h => congrArg V.int h⟩, rfl⟩
  · obtain ⟨y, rfl, _, _⟩ := vok_txt hv e
    obtain ⟨z, rfl, _, _⟩ := vok_txt hd2 e
    refine ⟨decide_eq_decide.mpr ⟨fun h => V.str.inj h, fun h => congrArg V.str h⟩, rfl⟩
theorem upM_same {m : Mv} {n : Str} {v : PyData} (h : m n = some v) : upM m n (some v) = m := by
  funext z
  unfold upM
  by_cases e : z = n
  · rw [if_pos e, e, h]
  · rw [if_neg e]
def spDo (K : PySem.W.Frag) (c : Nat) (w : Str) (n : Nat) : Sp := fun vs H Q _ => ∃ p v r m fs gs L B, vs = [.ref p, v] ∧ Th K H v (.tuple (.str w :: r)) ∧ Pu false (.tuple (.str w :: r)) ∧ r.length = n ∧ HeldM H p m B ∧ B + growS c (.tuple (.str w :: r)) ≤ 1000000 ∧ leadB (recOf c) fs w r = some gs ∧ FOk fs ∧ MOk L fs m ∧ 40 ≤ L ∧ lenLead (lRec c) L w r ≤ 16000000 ∧ tmLead (tRec c) w r = true ∧
  ∀ H', Fr [p] H H' → HeldM H' p (doLead (dRec c) m w r) (B + growS c (.tuple (.str w :: r))) → Q .non H'
def spDoSteps (K : PySem.W.Frag) (c : Nat) : Sp := fun vs H Q _ => ∃ p v d m fs gs L B, vs = [.ref p, v] ∧ Th K H v d ∧ (Pu false d ∨ d = .list []) ∧ HeldM H p m B ∧ B + growB c d ≤ 1000000 ∧ stepsB c fs d = .ok gs ∧ FOk fs ∧ MOk L fs m ∧ 40 ≤ L ∧ lngB c L d ≤ 16000000 ∧ tmB c d = true ∧
  ∀ H', Fr [p] H H' → HeldM H' p (doB c m d) (B + growB c d) → Q .non H'
def spDoCaseOf (K : PySem.W.Frag) : Nat → Sp
  | 0 => fun _ _ _ _ => False
  | c + 1 => spDo K (c + 1) "case" 4
theorem pi_or {X : Cx} {tg e : Expr} {wi wj : TI} (h : PI X tg e wi) (k : PI X tg e wj) : PI X tg e (fun σ H R => wi σ H R ∨ wj σ H R) :=
  ⟨fun pins s σ H R I a => a.elim (fun a => h.run pins s σ H R I a) fun a => k.run pins s σ H R I a⟩
section
variable {P : Program} {w : World} {K : PySem.W.Frag} {mg : Str → Option Value} {base : Heap} {c : Nat}
theorem scdorename : FnScope ["held", "step", "_", "old", "new"] ["held", "step"] (defScope sDoRename) := ⟨rfl, rfl, rfl, by decide +kernel, rfl, by decide +kernel, by decide +kernel⟩
theorem ok_dorename {f : Addr} {fd : FuncData} (F : FnP K "_do_rename" sDoRename f fd)     : FnOk P w K mg base CX0 1 f fd ["held", "step"] (spDo K c "rename" 2) := by
  refine F.ok scdorename (fun vs H Q E h => ?_) (fun cdv A outer s H vs Q E hr h => ?_)
  · obtain ⟨p, v, r, m, fs, gs, L, B, rfl, _⟩ := h
    rfl
  · obtain ⟨p, v, r, m, fs, gs, L, B, rfl, hT, hpu, hlen, hM, hB, h, hf, hm, hL, hl, htm, q⟩ := h
    have hu := hu_of hr
    have hs := szl
    have g1 := growS_pos c (.tuple (.str "rename" :: r))
    refine ⟨_, PSs.nox (pss_cons (ps_asg (pv 1) (pg_tup rfl (pgs_cons (pg_name (i := 2) scdorename.nd rfl (Or.inl rfl)) (pgs_cons (pg_name (i := 3) scdorename.nd rfl (Or.inl rfl)) (pgs_cons (pg_name (i := 4) scdorename.nd rfl (Or.inl rfl)) (pgs_nil))))))
      (pss_one (ps_dput hu (pv 0) (pv 4) (pe_dpop1 (pv 0) (pv 3) ⟨by rfl, by rfl, by rfl, by rfl⟩) rfl))), ?_⟩
    obtain ⟨d0, d1, rfl⟩ := len2 hlen
    obtain ⟨a, xs, rfl, hx, hA⟩ := hT.asTup
    obtain ⟨x0, x1, rfl, t0, t1⟩ := th2 hA
    obtain ⟨kvs, hp, lk, hv⟩ := hM
    
    obtain ⟨hc, rfl⟩ := ifs (show renameB fs d0 d1 = some gs from h)
    obtain ⟨c1, c2⟩ := (Bool.and_eq_true _ _).mp hc
    obtain ⟨n, rfl, hn⟩ := isNew_of c2
    obtain ⟨so, hso⟩ := Option.isSome_iff_exists.mp c1
    obtain ⟨o, rfl, ho⟩ := sortOf_of hso
    obtain rfl := t0.asStr
    obtain rfl := t1.asStr
    obtain ⟨v, hmv, hk⟩ := hm o so ho
    have no : n ≠ o := fun e => by
      rw [e, ho] at hn
      cases hn
    refine ⟨_, rfl, a, _, rfl, hx, rfl, _, _, rfl, _, _, rfl, _, _, rfl, rfl, ?_⟩
    refine ⟨_, rfl, p, rfl, .inl ⟨kvs, .inl hp⟩, _, rfl, kvs, Sum.inr o, vOf v, hp, rfl, by rw [hv o, hmv]; rfl, ?_⟩
    obtain ⟨k2, e2, l2, v2⟩ := heldm_drop (H := H) (p := p) lk hv o
    have e3 := e2.symm.trans upd_same
    cases e3
    refine ⟨_, rfl, _, rfl, p, _, rfl, DPut.k (k := Sum.inr n) upd_same (by omega), ?_⟩
    refine q _ ((fr_upd (by simp)).trans (fr_upd (by simp))) ?_
    have hh := heldm_put (H := upd H p (.dK (dropK kvs (Sum.inr o)))) (p := p) l2 v2 n v
    have em : upM (upM m o none) n (some v) = upM (upM m n (m o)) o none := by
      funext z
      unfold upM
      by_cases e1 : z = n
      · rw [if_pos e1, if_neg (fun e => no (e1.symm.trans e)), if_pos e1, hmv]
      · rw [if_neg e1, if_neg e1]
    rw [em] at hh
    exact hh.mono (by omega)
theorem scdocopy : FnScope ["held", "step", "_", "old", "new"] ["held", "step"] (defScope sDoCopy) := ⟨rfl, rfl, rfl, by decide +kernel, rfl, by decide +kernel, by decide +kernel⟩
theorem ok_docopy {f : Addr} {fd : FuncData} (F : FnP K "_do_copy" sDoCopy f fd)     : FnOk P w K mg base CX0 1 f fd ["held", "step"] (spDo K c "copy" 2) := by
  refine F.ok scdocopy (fun vs H Q E h => ?_) (fun cdv A outer s H vs Q E hr h => ?_)
  · obtain ⟨p, v, r, m, fs, gs, L, B, rfl, _⟩ := h
    rfl
  · obtain ⟨p, v, r, m, fs, gs, L, B, rfl, hT, hpu, hlen, hM, hB, h, hf, hm, hL, hl, htm, q⟩ := h
    have hu := hu_of hr
    have hs := szl
    have g1 := growS_pos c (.tuple (.str "copy" :: r))
    refine ⟨_, PSs.nox (pss_cons (ps_asg (pv 1) (pg_tup rfl (pgs_cons (pg_name (i := 2) scdocopy.nd rfl (Or.inl rfl)) (pgs_cons (pg_name (i := 3) scdocopy.nd rfl (Or.inl rfl)) (pgs_cons (pg_name (i := 4) scdocopy.nd rfl (Or.inl rfl)) (pgs_nil))))))
      (pss_one (ps_dput hu (pv 0) (pv 4) (pe_dget hu (pv 0) (pv 3) (fun _ _ => rfl)) rfl))), ?_⟩
    obtain ⟨d0, d1, rfl⟩ := len2 hlen
    obtain ⟨a, xs, rfl, hx, hA⟩ := hT.asTup
    obtain ⟨x0, x1, rfl, t0, t1⟩ := th2 hA
    obtain ⟨kvs, hp, lk, hv⟩ := hM
    
    replace h : copyB fs d0 d1 = some gs := h
    unfold copyB at h
    obtain ⟨el, hel⟩ : ∃ el, sortOf fs d0 = some el := by
      cases ho : sortOf fs d0 with
      | none =>
        rw [ho] at h
        cases h
      | some el => exact ⟨el, rfl⟩
    rw [hel] at h
    obtain ⟨hc, rfl⟩ := ifs h
    obtain ⟨o, rfl, ho⟩ := sortOf_of hel
    obtain ⟨n, rfl, hn⟩ := isNew_of hc
    obtain rfl := t0.asStr
    obtain rfl := t1.asStr
    obtain ⟨v, hmv, hk⟩ := hm o el ho
    refine ⟨_, rfl, a, _, rfl, hx, rfl, _, _, rfl, _, _, rfl, _, _, rfl, rfl, ?_⟩
    refine ⟨_, rfl, _, rfl, p, _, rfl, dget_m hp hv hmv, _, rfl, _, rfl, p, _, rfl, DPut.k (k := Sum.inr n) hp (by omega), ?_⟩
    refine q _ (fr_upd (by simp)) ?_
    show HeldM _ p (upM m n (m o)) (B + _)
    rw [hmv]
    exact (heldm_put lk hv n v).mono (by omega)
theorem scdodrop : FnScope ["held", "step"] ["held", "step"] (defScope sDoDrop) := ⟨rfl, rfl, rfl, by decide +kernel, rfl, by decide +kernel, by decide +kernel⟩
theorem ok_dodrop {f : Addr} {fd : FuncData} (F : FnP K "_do_drop" sDoDrop f fd)     : FnOk P w K mg base CX0 1 f fd ["held", "step"] (spDo K c "drop" 1) := by
  refine F.ok scdodrop (fun vs H Q E h => ?_) (fun cdv A outer s H vs Q E hr h => ?_)
  · obtain ⟨p, v, r, m, fs, gs, L, B, rfl, _⟩ := h
    rfl
  · obtain ⟨p, v, r, m, fs, gs, L, B, rfl, hT, hpu, hlen, hM, hB, h, hf, hm, hL, hl, htm, q⟩ := h
    have hu := hu_of hr
    have hs := szl
    have g1 := growS_pos c (.tuple (.str "drop" :: r))
    refine ⟨_, PSs.nox (pss_one (ps_ddel (pv 0) (pe_ix Cc.ix_B (pv 1) (pe_int) (fun _ _ => rfl)))), ?_⟩
    obtain ⟨d0, rfl⟩ := len1 hlen
    obtain ⟨a, xs, rfl, hx, hA⟩ := hT.asTup
    obtain ⟨x0, rfl, t0⟩ := th1 hA
    obtain ⟨kvs, hp, lk, hv⟩ := hM
    obtain ⟨hc, rfl⟩ := ifs (show dropB fs d0 = some gs from h)
    obtain ⟨so, hso⟩ := Option.isSome_iff_exists.mp hc
    obtain ⟨o, rfl, ho⟩ := sortOf_of hso
    obtain rfl := t0.asStr
    obtain ⟨v, hmv, hk⟩ := hm o so ho
    refine ⟨_, rfl, _, rfl, true, a, _, 1, _, rfl, rfl, hx, rfl, p, kvs, Sum.inr o, rfl, hp, rfl, by rw [hv o, hmv]; rfl, ?_⟩
    exact q _ (fr_upd (by simp)) ((heldm_drop lk hv o).mono (by omega))
theorem scdoput : FnScope ["held", "step"] ["held", "step"] (defScope sDoPut) := ⟨rfl, rfl, rfl, by decide +kernel, rfl, by decide +kernel, by decide +kernel⟩
theorem ok_doput {f : Addr} {fd : FuncData} (F : FnP K "_do_put" sDoPut f fd)     : FnOk P w K mg base CX0 1 f fd ["held", "step"] (spDo K c "put" 3) := by
  refine F.ok scdoput (fun vs H Q E h => ?_) (fun cdv A outer s H vs Q E hr h => ?_)
  · obtain ⟨p, v, r, m, fs, gs, L, B, rfl, _⟩ := h
    rfl
  · obtain ⟨p, v, r, m, fs, gs, L, B, rfl, hT, hpu, hlen, hM, hB, h, hf, hm, hL, hl, htm, q⟩ := h
    have hu := hu_of hr
    have hs := szl
    have g1 := growS_pos c (.tuple (.str "put" :: r))
    refine ⟨_, PSs.nox (pss_one (ps_dput hu (pv 0) (pe_ix Cc.ix_B (pv 1) (pe_int) (fun _ _ => rfl)) (pe_ix Cc.ix_B (pv 1) (pe_int) (fun _ _ => rfl)) rfl)), ?_⟩
    obtain ⟨d0, d1, d2, rfl⟩ := len3 hlen
    obtain ⟨a, xs, rfl, hx, hA⟩ := hT.asTup
    obtain ⟨x0, x1, x2, rfl, t0, t1, t2⟩ := th3 hA
    obtain ⟨kvs, hp, lk, hv⟩ := hM
    obtain ⟨hc, rfl⟩ := ifs (show putB fs d0 d1 d2 = some gs from h)
    obtain ⟨c1, c2⟩ := (Bool.and_eq_true _ _).mp hc
    obtain ⟨c3, c4⟩ := (Bool.and_eq_true _ _).mp c2
    obtain ⟨n, rfl, hn⟩ := isNew_of c1
    obtain rfl := t0.asStr
    obtain rfl := th_val t2 c4
    refine ⟨_, rfl, true, a, _, 3, _, rfl, rfl, hx, rfl, _, rfl, _, rfl, true, a, _, 1, _, rfl, rfl, hx, rfl, p, _, rfl, DPut.k (k := Sum.inr n) hp (by omega), ?_⟩
    exact q _ (fr_upd (by simp)) ((heldm_put lk hv n d2).mono (by omega))
theorem scdoscale : FnScope ["held", "step", "_", "field", "times", "plus"] ["held", "step"] (defScope sDoScale) := ⟨rfl, rfl, rfl, by decide +kernel, rfl, by decide +kernel, by decide +kernel⟩
theorem ok_doscale {f : Addr} {fd : FuncData} (F : FnP K "_do_scale" sDoScale f fd)     : FnOk P w K mg base CX0 1 f fd ["held", "step"] (spDo K c "scale" 3) := by
  refine F.ok scdoscale (fun vs H Q E h => ?_) (fun cdv A outer s H vs Q E hr h => ?_)
  · obtain ⟨p, v, r, m, fs, gs, L, B, rfl, _⟩ := h
    rfl
  · obtain ⟨p, v, r, m, fs, gs, L, B, rfl, hT, hpu, hlen, hM, hB, h, hf, hm, hL, hl, htm, q⟩ := h
    have hu := hu_of hr
    have hs := szl
    have g1 := growS_pos c (.tuple (.str "scale" :: r))
    refine ⟨_, PSs.nox (pss_cons (ps_asg (pv 1) (pg_tup rfl (pgs_cons (pg_name (i := 2) scdoscale.nd rfl (Or.inl rfl)) (pgs_cons (pg_name (i := 3) scdoscale.nd rfl (Or.inl rfl)) (pgs_cons (pg_name (i := 4) scdoscale.nd rfl (Or.inl rfl)) (pgs_cons (pg_name (i := 5) scdoscale.nd rfl (Or.inl rfl)) (pgs_nil)))))))
      (pss_one (ps_dput hu (pv 0) (pv 3) (pe_op op_add (pe_op op_mul (pe_dget hu (pv 0) (pv 3) (fun _ _ => rfl)) (pv 4)) (pv 5)) rfl))), ?_⟩
    obtain ⟨d0, d1, d2, rfl⟩ := len3 hlen
    obtain ⟨a, xs, rfl, hx, hA⟩ := hT.asTup
    obtain ⟨x0, x1, x2, rfl, t0, t1, t2⟩ := th3 hA
    obtain ⟨kvs, hp, lk, hv⟩ := hM
    obtain ⟨hc, rfl⟩ := ifs (show scaleB fs d0 d1 d2 = some gs from h)
    obtain ⟨c1, c2⟩ := (Bool.and_eq_true _ _).mp hc
    obtain ⟨c3, c4⟩ := (Bool.and_eq_true _ _).mp c2
    obtain ⟨el, hel, hn⟩ := among_of c1
    obtain ⟨o, rfl, ho⟩ := sortOf_of hel
    obtain ⟨i1, rfl⟩ : ∃ i, d1 = .int i := by
      cases d1 <;> first | exact ⟨_, rfl⟩ | cases c3
    obtain ⟨i2, rfl⟩ : ∃ i, d2 = .int i := by
      cases d2 <;> first | exact ⟨_, rfl⟩ | cases c4
    obtain rfl := t0.asStr
    cases t1
    cases t2
    obtain ⟨v, hmv, hk⟩ := hm o el ho
    obtain ⟨i, rfl⟩ := vok_num hk hn
    refine ⟨_, rfl, a, _, rfl, hx, rfl, _, _, rfl, _, _, rfl, _, _, rfl, _, _, rfl, rfl, ?_⟩
    have ht : i1.natAbs < 1073741824 := of_decide_eq_true (show decide (i1.natAbs < 1073741824) = true from htm)
    refine ⟨_, rfl, _, rfl, p, _, rfl, dget_m hp hv hmv, _, rfl, i, i1, rfl, rfl, .inr ⟨Int.lt_of_lt_of_le (show (-(2 : Int) ^ 64) < -1073741824 by decide) (by omega), Int.lt_of_le_of_lt (show i1 ≤ 1073741824 by omega) (by decide)⟩, _, rfl, _, _, rfl, rfl, _, rfl, _, rfl, p, _, rfl, DPut.k (k := Sum.inr o) hp (by omega), ?_⟩
    refine q _ (fr_upd (by simp)) ?_
    have e : doLead (dRec c) m "scale" [.str o, .int i1, .int i2] = upM m o (some (.int (i * i1 + i2))) := by
      show upM m o (some (.int (intOf (valM m (.str o)) * i1 + i2))) = _
      rw [valM_of hmv]
      rfl
    rw [e]
    exact (heldm_put lk hv o (.int (i * i1 + i2))).mono (by omega)
theorem scdosum : FnScope ["held", "step", "_", "new", "fields", "field"] ["held", "step"] (defScope sDoSum) := ⟨rfl, rfl, rfl, by decide +kernel, rfl, by decide +kernel, by decide +kernel⟩
theorem ok_dosum {f : Addr} {fd : FuncData} (F : FnP K "_do_sum" sDoSum f fd)  (mb_sum : mg "sum" = none)   : FnOk P w K mg base CX0 1 f fd ["held", "step"] (spDo K c "sum" 2) := by
  refine F.ok scdosum (fun vs H Q E h => ?_) (fun cdv A outer s H vs Q E hr h => ?_)
  · obtain ⟨p, v, r, m, fs, gs, L, B, rfl, _⟩ := h
    rfl
  · obtain ⟨p, v, r, m, fs, gs, L, B, rfl, hT, hpu, hlen, hM, hB, h, hf, hm, hL, hl, htm, q⟩ := h
    have hu := hu_of hr
    have hs := szl
    have g1 := growS_pos c (.tuple (.str "sum" :: r))
    refine ⟨_, PSs.nox (pss_cons (ps_asg (pv 1) (pg_tup rfl (pgs_cons (pg_name (i := 2) scdosum.nd rfl (Or.inl rfl)) (pgs_cons (pg_name (i := 3) scdosum.nd rfl (Or.inl rfl)) (pgs_cons (pg_name (i := 4) scdosum.nd rfl (Or.inl rfl)) (pgs_nil))))))
      (pss_one (ps_dput hu (pv 0) (pv 3) (pe_callB (cr_sum rfl) (by rfl) mb_sum (by decide +kernel) (pa_cons (pe_lc (own := [("field", 5)]) (g := gName 5) (tt := tYes) rfl scdosum.nd (pi_tup (pv 4)) (blkOk_by (own := [("field", 5)]) (N := ["held", "step", "_", "new", "fields", "field"]) (sc := defScope sDoSum) (by decide +kernel)) (fun _ _ _ _ _ => pg_name (i := 5) scdosum.nd rfl (Or.inl rfl)) (fun _ _ _ _ _ => pts_nil) (fun _ _ _ _ _ => pe_dget hu (pv 0) (pv 5) (fun _ _ => rfl))) pa_nil)) rfl))), ?_⟩
    obtain ⟨d0, d1, rfl⟩ := len2 hlen
    obtain ⟨a, xs, rfl, hx, hA⟩ := hT.asTup
    obtain ⟨x0, x1, rfl, t0, t1⟩ := th2 hA
    obtain ⟨kvs, hp, lk, hv⟩ := hM
    
    obtain ⟨hc, rfl⟩ := ifs (show sumB fs d0 d1 = some gs from h)
    obtain ⟨c1, c2⟩ := (Bool.and_eq_true _ _).mp hc
    obtain ⟨n, rfl, hn⟩ := isNew_of c1
    obtain ⟨l, rfl⟩ : ∃ l, d1 = .tuple l := by
      cases d1 <;> first | exact ⟨_, rfl⟩ | cases c2
    replace c2 : ((decide (1 ≤ l.length) && decide (l.length ≤ 6)) && l.all fun f => amongB numsL (sortOf fs f)) = true := c2
    rw [Bool.and_eq_true, Bool.and_eq_true] at c2
    have l6 := of_decide_eq_true c2.1.2
    obtain rfl := t0.asStr
    obtain ⟨a1, xs1, rfl, hx1, hA1⟩ := t1.asTup
    have lx1 := hA1.len
    refine ⟨_, rfl, a, _, rfl, hx, rfl, _, _, rfl, _, _, rfl, _, _, rfl, rfl, ?_⟩
    refine ⟨_, rfl, a1, rfl, ⟨_, hx1⟩, fun D nD => ?_⟩
    have npD : p ≠ D := ne_of_none hp nD
    refine lc_acc (walk_tup (K := K) (a := a1) (xs := xs1)) (fun i acc H' => acc = ((l.take i).map fun f => V.int (intOf (valM m f))) ∧ But D H H') ⟨rfl, But.refl.upd⟩ (fun i acc H' _ ⟨_, b⟩ _ => Sq.same (t := true) hx1 (b.new nD)) ?_ ?_
    · rintro i x acc H1 H2 hi la ⟨rfl, b⟩ hD ⟨rfl, hx2⟩
      obtain ⟨dx, hdx, tx, mx⟩ := ThAll.get2 hA1 hx2
      obtain ⟨el, hel, hnn⟩ := among_of (List.all_eq_true.mp c2.2 dx mx)
      obtain ⟨o, rfl, ho⟩ := sortOf_of hel
      obtain rfl := tx.asStr
      obtain ⟨v, hmv, hk⟩ := hm o el ho
      obtain ⟨iv, rfl⟩ := vok_num hk hnn
      refine ⟨rfl, _, rfl, _, rfl, p, _, rfl, dget_m (b.new nD _ _ hp) hv hmv, push hD la (by omega) ⟨?_, b.upd⟩⟩
      rw [List.take_succ, hdx]
      show _ = ((l.take i) ++ [PyData.str o]).map _
      rw [List.map_append]
      show _ = _ ++ [V.int (intOf (valM m (.str o)))]
      rw [valM_of hmv]
      rfl
    · rintro acc H1 la ⟨rfl, b⟩ hD
      rw [lx1, List.take_length] at hD
      have s1 := b.new nD
      have hp1 := s1 _ _ hp
      refine ⟨D, l.map (fun f => intOf (valM m f)), rfl, SqL.of (by rw [List.map_map]; exact hD), _, rfl, _, rfl, p, _, rfl, DPut.k (k := Sum.inr n) hp1 (by omega), ?_⟩
      exact q _ ((fr_same s1).trans (fr_upd (by simp))) ((heldm_put lk hv n (.int (sumM m l))).mono (by omega))
theorem scdojoin : FnScope ["held", "step", "_", "new", "parts", "word", "thing"] ["held", "step"] (defScope sDoJoin) := ⟨rfl, rfl, rfl, by decide +kernel, rfl, by decide +kernel, by decide +kernel⟩
theorem ok_dojoin {f : Addr} {fd : FuncData} (F : FnP K "_do_join" sDoJoin f fd)     : FnOk P w K mg base CX0 1 f fd ["held", "step"] (spDo K c "join" 2) := by
  refine F.ok scdojoin (fun vs H Q E h => ?_) (fun cdv A outer s H vs Q E hr h => ?_)
  · obtain ⟨p, v, r, m, fs, gs, L, B, rfl, _⟩ := h
    rfl
  · obtain ⟨p, v, r, m, fs, gs, L, B, rfl, hT, hpu, hlen, hM, hB, h, hf, hm, hL, hl, htm, q⟩ := h
    have hu := hu_of hr
    have hs := szl
    have g1 := growS_pos c (.tuple (.str "join" :: r))
    refine ⟨_, PSs.nox (pss_cons (ps_asg (pv 1) (pg_tup rfl (pgs_cons (pg_name (i := 2) scdojoin.nd rfl (Or.inl rfl)) (pgs_cons (pg_name (i := 3) scdojoin.nd rfl (Or.inl rfl)) (pgs_cons (pg_name (i := 4) scdojoin.nd rfl (Or.inl rfl)) (pgs_nil))))))
      (pss_one (ps_dput hu (pv 0) (pv 3) (pe_join (pe_str) (pe_lc (own := [("word", 5), ("thing", 6)]) (tt := tYes) rfl scdojoin.nd (pi_tup (pv 4)) (blkOk_by (own := [("word", 5), ("thing", 6)]) (N := ["held", "step", "_", "new", "parts", "word", "thing"]) (sc := defScope sDoJoin) (by decide +kernel)) (fun _ _ _ _ _ => Cc.pg_tupk (K := K) (n := 2) rfl rfl (pgs_cons (pg_name (i := 5) scdojoin.nd rfl (Or.inl rfl)) (pgs_cons (pg_name (i := 6) scdojoin.nd rfl (Or.inl rfl)) (pgs_nil)))) (fun _ _ _ _ _ => pts_nil) (fun _ _ _ _ _ => pe_ifExp (pt_cmpR op_eq (pv 5) (pe_str) (nomark _)) (pv 6) (pe_dget hu (pv 0) (pv 6) (fun _ _ => rfl))))) rfl))), ?_⟩
    obtain ⟨d0, d1, rfl⟩ := len2 hlen
    obtain ⟨a, xs, rfl, hx, hA⟩ := hT.asTup
    obtain ⟨x0, x1, rfl, t0, t1⟩ := th2 hA
    obtain ⟨kvs, hp, lk, hv⟩ := hM
    
    obtain ⟨hc, rfl⟩ := ifs (show joinB fs d0 d1 = some gs from h)
    obtain ⟨c1, c2⟩ := (Bool.and_eq_true _ _).mp hc
    obtain ⟨n, rfl, hn⟩ := isNew_of c1
    obtain ⟨l, rfl⟩ : ∃ l, d1 = .tuple l := by
      cases d1 <;> first | exact ⟨_, rfl⟩ | cases c2
    replace c2 : ((decide (1 ≤ l.length) && decide (l.length ≤ 8)) && l.all (partB fs)) = true := c2
    rw [Bool.and_eq_true, Bool.and_eq_true] at c2
    have l8 := of_decide_eq_true c2.1.2
    have hl : max L (l.map (partLen L)).sum ≤ 16000000 := hl
    have jj := joinM_ok (fun d hd => List.all_eq_true.mp c2.2 d hd) hm
    obtain rfl := t0.asStr
    obtain ⟨a1, xs1, rfl, hx1, hA1⟩ := t1.asTup
    have lx1 := hA1.len
    refine ⟨_, rfl, a, _, rfl, hx, rfl, _, _, rfl, _, _, rfl, _, _, rfl, rfl, ?_⟩
    refine ⟨⟨_, rfl⟩, _, rfl, a1, rfl, ⟨_, hx1⟩, fun D nD => ?_⟩
    have npD : p ≠ D := ne_of_none hp nD
    refine lc_acc (walk_tup (K := K) (a := a1) (xs := xs1)) (fun i acc H' => acc = ((l.take i).map fun f => V.str (partM m f)) ∧ But D H H') ⟨rfl, But.refl.upd⟩ (fun i acc H' _ ⟨_, b⟩ _ => Sq.same (t := true) hx1 (b.new nD)) ?_ ?_
    · rintro i x acc H1 H2 hi la ⟨rfl, b⟩ hD ⟨rfl, hx2⟩
      obtain ⟨dx, hdx, tx, mx⟩ := ThAll.get2 hA1 hx2
      have s2 := b.new nD
      have hstep : ∀ y : Str, y = partM m dx → ((l.take (i + 1)).map fun f => V.str (partM m f)) = ((l.take i).map fun f => V.str (partM m f)) ++ [V.str y] := fun y ey => by
        rw [List.take_succ, hdx]
        show ((l.take i) ++ [dx]).map _ = _
        rw [List.map_append, ey]
        rfl
      rcases part_of (List.all_eq_true.mp c2.2 dx mx) hm with ⟨z, rfl, lz, az⟩ | ⟨o, z, rfl, hmv, lz, az⟩
      · obtain ⟨pz, ys, rfl, hpz, hZ⟩ := tx.asTup
        obtain ⟨y0, y1, rfl, u0, u1⟩ := thAll2 hZ
        obtain rfl := u0.asStr
        obtain rfl := u1.asStr
        refine ⟨pz, _, rfl, Sq.same (t := true) hpz s2, rfl, _, _, rfl, _, _, rfl, rfl, rfl, ?_⟩
        exact ⟨_, rfl, rfl, _, rfl, iteT ⟨_, rfl, push hD la (by omega) ⟨(hstep z rfl).symm, b.upd⟩⟩⟩
      · obtain ⟨pz, ys, rfl, hpz, hZ⟩ := tx.asTup
        obtain ⟨y0, y1, rfl, u0, u1⟩ := thAll2 hZ
        obtain rfl := u0.asStr
        obtain rfl := u1.asStr
        refine ⟨pz, _, rfl, Sq.same (t := true) hpz s2, rfl, _, _, rfl, _, _, rfl, rfl, rfl, ?_⟩
        have ez : z = partM m (.tuple [.str "field", .str o]) := by
          show z = txtOf (valM m (.str o))
          rw [valM_of hmv]
          rfl
        exact ⟨_, rfl, rfl, _, rfl, iteF ⟨_, rfl, _, rfl, p, _, rfl, dget_m (s2 _ _ hp) hv hmv, push hD la (by omega) ⟨(hstep z ez).symm, b.upd⟩⟩⟩
    · rintro acc H1 la ⟨rfl, b⟩ hD
      rw [lx1, List.take_length] at hD
      have s1 := b.new nD
      have hp1 := s1 _ _ hp
      have el : ((l.map (partM m)).map (·.length)).sum + (l.map (partM m)).length * (Str.ofString "").length = (joinM m l).length := by
        have e0 : (Str.ofString "").length = 0 := by decide +kernel
        rw [e0, Nat.mul_zero, Nat.add_zero]
        exact (join_facts fun z hz => by
          obtain ⟨d, hd, rfl⟩ := List.mem_map.mp hz
          exact (part_len (List.all_eq_true.mp c2.2 d hd) hm).2).2.symm
      refine ⟨_, D, l.map (partM m), rfl, rfl, .inl (SqL.of (by rw [List.map_map]; exact hD)), by rw [el]; omega, _, rfl, _, rfl, p, _, rfl, DPut.k (k := Sum.inr n) hp1 (by omega), ?_⟩
      exact q _ ((fr_same s1).trans (fr_upd (by simp))) ((heldm_put lk hv n (.str (joinM m l))).mono (by omega))
end
end St6

set_option autoImplicit false
set_option maxHeartbeats 4000000
namespace St6
open PySem PySem.Spec PyProof.Rows L2 Tg Cc Nn TL
/-! tables, cases, all steps -/

theorem tabM_skip {v : PyData} {rows : List PyData} {other : PyData} (h : rows.find? (fun r => eqP v (firstOf r)) = none) : tabM v rows other = match other with
    | .tuple [x] => x
    | _ => v := by
  unfold tabM
  rw [h] <;> rfl
theorem tabM_hit {v : PyData} {rows : List PyData} {other r : PyData} (h : rows.find? (fun r => eqP v (firstOf r)) = some r) : tabM v rows other = secondOf r := by
  unfold tabM
  rw [h]
theorem sq_frD {K : PySem.W.Frag} {p : Addr} {H H1 : Hp} {kvs : List (Key × V)} (hp : H p = some (.dK kvs)) (f : Fr [p] H H1) {a : Addr} {xs : List V} (h : SqT K H a xs) : SqT K H1 a xs := by
  rcases h with h | h
  · rcases h with e | ⟨o, e⟩
    · exact .inl (.inl (f _ _ (by simpa using ne_of e hp (by intro z; cases z)) e))
    · exact .inl (.inr ⟨o, f _ _ (by simpa using ne_of e hp (by intro z; cases z)) e⟩)
  · exact .inr h
theorem find_take {α : Type} {f : α → Bool} {l : List α} {i : Nat} {x : α} (h : (l.take i).find? f = none) (hx : l[i]? = some x) (hf : f x = true) : l.find? f = some x := by
  obtain ⟨hlt, e⟩ := List.getElem?_eq_some_iff.mp hx
  have el : l = l.take i ++ (x :: l.drop (i + 1)) := by
    rw [← e, ← List.drop_eq_getElem_cons hlt, List.take_append_drop]
  rw [el, List.find?_append, h]
  show (x :: l.drop (i + 1)).find? f = some x
  rw [List.find?_cons_of_pos hf]
theorem find_snoc {α : Type} {f : α → Bool} {l : List α} {i : Nat} {x : α} (h : (l.take i).find? f = none) (hx : l[i]? = some x) (hf : f x = false) : (l.take (i + 1)).find? f = none := by
  rw [List.take_succ, hx, List.find?_append, h]
  show ([x] : List α).find? f = none
  rw [List.find?_cons_of_neg (by rw [hf]; decide)]
  rfl
section
variable {P : Program} {w : World} {K : PySem.W.Frag} {mg : Str → Option Value} {base : Heap} {c : Nat}
theorem scdotable : FnScope ["held", "step", "field", "rows", "other", "value", "new_value"] ["held", "step"] (defScope sDoTable) := ⟨rfl, rfl, rfl, by decide +kernel, rfl, by decide +kernel, by decide +kernel⟩
theorem ok_dotable {f : Addr} {fd : FuncData} (F : FnP K "_do_table" sDoTable f fd)     : FnOk P w K mg base CX0 1 f fd ["held", "step"] (spDo K c "table" 4) := by
  refine F.ok scdotable (fun vs H Q E h => ?_) (fun cdv A outer s H vs Q E hr h => ?_)
  · obtain ⟨p, v, r, m, fs, gs, L, B, rfl, _⟩ := h
    rfl
  · obtain ⟨p, v, r, m, fs, gs, L, B, rfl, hT, hpu, hlen, hM, hB, h, hf, hm, hL, hl, htm, q⟩ := h
    have hu := hu_of hr
    have hs := szl
    have g1 := growS_pos c (.tuple (.str "table" :: r))
    refine ⟨_, PSs.nox (pss_cons (ps_par3 (i := 2) (j := 3) (l := 4) rfl scdotable.nd rfl rfl rfl (by decide) (by decide) (by decide) rfl rfl rfl (pa_cons (pe_ix Cc.ix_B (pv 1) (pe_int) (fun _ _ => rfl)) (pa_cons (pe_ix Cc.ix_B (pv 1) (pe_int) (fun _ _ => rfl)) (pa_cons (pe_ix Cc.ix_B (pv 1) (pe_int) (fun _ _ => rfl)) pa_nil))) (by rfl))
      (pss_cons (ps_for PassesOwn.never rfl (pi_tup (pv 3)) (pg_tup rfl (pgs_cons (pg_name (i := 5) scdotable.nd rfl (Or.inl rfl)) (pgs_cons (pg_name (i := 6) scdotable.nd rfl (Or.inl rfl)) (pgs_nil)))) (pss_one (ps_if (pt_cmpR op_eq (pe_dget hu (pv 0) (pv 2) (fun _ _ => rfl)) (pv 5) (nomark _)) (pss_cons (ps_dput hu (pv 0) (pv 2) (pv 6) rfl)
      (pss_one (ps_retN))) (pss_nil))))
      (pss_one (ps_if (pt_cmpR op_notN (pv 4) (pe_non) (nomark _)) (pss_one (ps_dput hu (pv 0) (pv 2) (pe_ix Cc.ix_B (pv 4) (pe_int) (fun _ _ => rfl)) rfl)) (pss_nil))))), ?_⟩
    obtain ⟨d0, d1, d2, d3, rfl⟩ := len4 hlen
    obtain ⟨a, xs, rfl, hx, hA⟩ := hT.asTup
    obtain ⟨x0, x1, x2, x3, rfl, t0, t1, t2, t3⟩ := th4 hA
    obtain ⟨kvs, hp, lk, hv⟩ := hM
    replace h : tableB fs d0 d1 d2 d3 = some gs := h
    unfold tableB at h
    obtain ⟨el, hel⟩ : ∃ el, sortOf fs d0 = some el := by
      cases ho : sortOf fs d0 with
      | none =>
        rw [ho] at h
        cases h
      | some el => exact ⟨el, rfl⟩
    rw [hel] at h
    obtain ⟨hc, rfl⟩ := ifs h
    obtain ⟨c1, c2⟩ := (Bool.and_eq_true _ _).mp hc
    obtain ⟨c3, c4⟩ := (Bool.and_eq_true _ _).mp c1
    obtain ⟨c5, c6⟩ := (Bool.and_eq_true _ _).mp c3
    obtain ⟨c7, c8⟩ := (Bool.and_eq_true _ _).mp c2
    obtain ⟨o, rfl, ho⟩ := sortOf_of hel
    obtain ⟨so, rfl⟩ : ∃ z, d1 = .str z := by
      cases d1 <;> first | exact ⟨_, rfl⟩ | cases c6
    have hel : el ∈ sorts := hf.get ho
    obtain ⟨l, rfl⟩ : ∃ l, d2 = .tuple l := by
      cases d2 <;> first | exact ⟨_, rfl⟩ | cases c7
    have c7' : ((decide (l.length ≤ 4) && l.all (rowB el so)) && decide ((l.map keyOf).Nodup)) = true := c7
    rw [Bool.and_eq_true, Bool.and_eq_true] at c7'
    have rowsOk := List.all_eq_true.mp c7'.1.2
    obtain rfl := t0.asStr
    obtain ⟨a2, xs2, rfl, hx2, hA2⟩ := t2.asTup
    have lx2 := hA2.len
    obtain ⟨v, hmv, hk⟩ := hm o el ho
    have hdo : doLead (dRec c) m "table" [.str o, .str so, .tuple l, d3] = upM m o (some (tabM v l d3)) := by
      show upM m o (some (tabM (valM m (.str o)) l d3)) = _
      rw [valM_of hmv]
    rw [hdo] at q
    refine ⟨_, rfl, true, a, _, 1, _, rfl, rfl, hx, rfl, _, rfl, true, a, _, 3, _, rfl, rfl, hx, rfl, _, rfl, true, a, _, 4, _, rfl, rfl, hx, rfl, _, _, _, rfl, ?_⟩
    refine ⟨_, rfl, a2, rfl, ⟨_, hx2⟩, for_tup (K := K) (a := a2) (xs := xs2) (fun i σ' H' => (∃ y5 y6, σ' = [some (.ref p), some (.ref a), some (.str o), some (.ref a2), some x3, y5, y6]) ∧ H' = H ∧ (l.take i).find? (fun r => eqP v (firstOf r)) = none)
      ⟨⟨_, _, rfl⟩, rfl, rfl⟩ (fun i σ' H' _ ⟨_, e, _⟩ => by rw [e]; exact hx2) ?_ ?_⟩
    · rintro i x σ' H' hxi ⟨⟨y5, y6, rfl⟩, rfl, hno⟩
      obtain ⟨dx, hdx, tx, mx⟩ := ThAll.get2 hA2 hxi
      obtain ⟨u, w, rfl, hu, hw⟩ := row_of (rowsOk dx mx)
      obtain ⟨pz, zs, rfl, hpz, hZ⟩ := tx.asTup
      obtain ⟨z0, z1, rfl, u0, u1⟩ := thAll2 hZ
      obtain rfl := th_val u0 hu
      obtain rfl := th_val u1 hw
      obtain ⟨ed, es⟩ := eqP_dec hk hel hu
      refine ⟨pz, _, rfl, hpz, rfl, _, _, rfl, _, _, rfl, rfl, ?_⟩
      refine ⟨_, rfl, _, rfl, p, _, rfl, dget_m hp hv hmv, _, rfl, es, _, rfl, ?_⟩
      rw [ed]
      cases e : eqP v u with
      | true =>
        refine iteT ⟨_, rfl, _, rfl, _, rfl, p, _, rfl, DPut.k (k := Sum.inr o) hp (by omega), ?_⟩
        refine q _ (fr_upd (by simp)) ?_
        rw [tabM_hit (find_take hno hdx e)]
        exact (heldm_put lk hv o w).mono (by omega)
      | false => exact iteF ⟨⟨_, _, rfl⟩, rfl, find_snoc hno hdx e⟩
    · rintro σ' H' ⟨⟨y5, y6, rfl⟩, rfl, hno⟩
      rw [lx2, List.take_length] at hno
      rw [tabM_skip hno] at q
      match d3, c8, t3, q with
      | .none, c8, t3, q =>
        cases t3
        refine ⟨_, rfl, rfl, _, rfl, iteF ?_⟩
        refine q _ Fr.refl ?_
        show HeldM _ p (upM m o (some v)) _
        rw [upM_same hmv]
        exact ⟨kvs, hp, by omega, hv⟩
      | .tuple [y], c8, t3, q =>
        obtain ⟨a3, xs3, rfl, hx3, hA3⟩ := t3.asTup
        obtain ⟨w3, r3, rfl, tw, hr3⟩ := hA3.cons_of
        obtain rfl := hr3.nil_of
        obtain rfl := th_val tw c8
        refine ⟨_, rfl, rfl, _, rfl, iteT ?_⟩
        refine ⟨_, rfl, true, a3, _, 0, _, rfl, rfl, hx3, at0, _, rfl, _, rfl, p, _, rfl, DPut.k (k := Sum.inr o) hp (by omega), ?_⟩
        exact q _ (fr_upd (by simp)) ((heldm_put lk hv o y).mono (by omega))
theorem scdocase : FnScope ["held", "step", "_", "field", "value", "yes", "no"] ["held", "step"] (defScope sDoCase) := ⟨rfl, rfl, rfl, by decide +kernel, rfl, by decide +kernel, by decide +kernel⟩
theorem ok_docase {f : Addr} {fd : FuncData} (F : FnP K "_do_case" sDoCase f fd) {f__do_steps : Addr} {fd__do_steps : FuncData} (c__do_steps : Cl P w K mg base CX0 "_do_steps" (2 + 2 * c) ["held", "steps"] (spDoSteps K c) f__do_steps fd__do_steps)    : FnOk P w K mg base CX0 (2 + 2 * c + 1) f fd ["held", "step"] (spDo K (c + 1) "case" 4) := by
  refine F.ok scdocase (fun vs H Q E h => ?_) (fun cdv A outer s H vs Q E hr h => ?_)
  · obtain ⟨p, v, r, m, fs, gs, L, B, rfl, _⟩ := h
    rfl
  · obtain ⟨p, v, r, m, fs, gs, L, B, rfl, hT, hpu, hlen, hM, hB, h, hf, hm, hL, hl, htm, q⟩ := h
    have hu := hu_of hr
    have hs := szl
    refine ⟨_, PSs.nox (pss_cons (ps_asg (pv 1) (pg_tup rfl (pgs_cons (pg_name (i := 2) scdocase.nd rfl (Or.inl rfl)) (pgs_cons (pg_name (i := 3) scdocase.nd rfl (Or.inl rfl)) (pgs_cons (pg_name (i := 4) scdocase.nd rfl (Or.inl rfl)) (pgs_cons (pg_name (i := 5) scdocase.nd rfl (Or.inl rfl)) (pgs_cons (pg_name (i := 6) scdocase.nd rfl (Or.inl rfl)) (pgs_nil))))))))
      (pss_one (ps_expr (pe_call c__do_steps.ok hr (by rfl) c__do_steps.m c__do_steps.kp c__do_steps.b .nil pass0 (pa_cons (pv 0) (pa_cons (pe_ifExp (pt_cmpR op_eq (pe_dget hu (pv 0) (pv 3) (fun _ _ => rfl)) (pv 4) (nomark _)) (pv 5) (pv 6)) pa_nil)))))), ?_⟩
    obtain ⟨d0, d1, d2, d3, rfl⟩ := len4 hlen
    obtain ⟨a, xs, rfl, hx, hA⟩ := hT.asTup
    obtain ⟨x0, x1, x2, x3, rfl, t0, t1, t2, t3⟩ := th4 hA
    obtain ⟨kvs, hp, lk, hv⟩ := id hM
    obtain ⟨el, x, y, hel, hte, hval, hy, hn⟩ : ∃ el x y, sortOf fs d0 = some el ∧ el ∈ testL ∧ ofSort el d1 = true ∧ stepsB c fs d2 = .ok x ∧ stepsB c fs d3 = .ok y := by
      replace h : caseB (stepsB c) fs d0 d1 d2 d3 = some gs := h
      unfold caseB at h
      cases ho : sortOf fs d0 with
      | none =>
        rw [ho] at h
        cases h
      | some el =>
        rw [ho] at h
        dsimp only at h
        by_cases k : (decide (el ∈ testL) && ofSort el d1) = true
        · rw [if_pos k] at h
          rw [Bool.and_eq_true] at k
          cases hy : stepsB c fs d2 with
          | error n =>
            rw [hy] at h
            cases h
          | ok x =>
            cases hn : stepsB c fs d3 with
            | error n =>
              rw [hy, hn] at h
              cases h
            | ok y => exact ⟨el, x, y, rfl, of_decide_eq_true k.1, k.2, rfl, rfl⟩
        · rw [if_neg k] at h
          cases h
    obtain ⟨o, rfl, ho⟩ := sortOf_of hel
    have hso : el ∈ sorts := hf.get ho
    obtain rfl := t0.asStr
    obtain rfl := th_val t1 hval
    obtain ⟨v, hmv, hk⟩ := hm o el ho
    obtain ⟨ed, es⟩ := eqP_dec hk hso hval
    have gsz : growS (c + 1) (.tuple [.str "case", .str o, d1, d2, d3]) = 1 + (growB c (.str "case") + (growB c (.str o) + (growB c d1 + (growB c d2 + (growB c d3 + 0))))) := rfl
    have hl : max (lngB c L d2) (lngB c L d3) ≤ 16000000 := hl
    have htm : (tmB c d2 && tmB c d3) = true := htm
    rw [Bool.and_eq_true] at htm
    have pm : ∀ z ∈ [PyData.str "case", .str o, d1, d2, d3], Pu false z := hpu.mem
    have hdo : doLead (dRec (c + 1)) m "case" [.str o, d1, d2, d3] = if eqP v d1 = true then doB c m d2 else doB c m d3 := by
      show (if eqP (valM m (.str o)) d1 = true then doB c m d2 else doB c m d3) = _
      rw [valM_of hmv]
    rw [hdo] at q
    refine ⟨_, rfl, a, _, rfl, hx, rfl, _, _, rfl, _, _, rfl, _, _, rfl, _, _, rfl, _, _, rfl, rfl, ?_⟩
    refine ⟨_, rfl, _, rfl, _, rfl, p, _, rfl, dget_m hp hv hmv, _, rfl, es, _, rfl, ?_⟩
    rw [ed]
    cases e : eqP v d1 with
    | true =>
      rw [e, if_pos rfl] at q
      exact iteT ⟨_, rfl, p, _, d2, m, fs, x, L, B, rfl, t2, .inl (pm _ (by simp)), hM, by omega, hy, hf, hm, hL, by omega, htm.1, fun H' f hM' => q H' f (hM'.mono (by omega))⟩
    | false =>
      rw [e, if_neg (by decide)] at q
      exact iteF ⟨_, rfl, p, _, d3, m, fs, y, L, B, rfl, t3, .inl (pm _ (by simp)), hM, by omega, hn, hf, hm, hL, by omega, htm.2, fun H' f hM' => q H' f (hM'.mono (by omega))⟩
theorem scdosteps : FnScope ["held", "steps", "step", "deed"] ["held", "steps"] (defScope sDoSteps) := ⟨rfl, rfl, rfl, by decide +kernel, rfl, by decide +kernel, by decide +kernel⟩
theorem ok_dosteps {f : Addr} {fd : FuncData} (F : FnP K "_do_steps" sDoSteps f fd)   {aD f_rename f_copy f_drop f_put f_scale f_sum f_join f_table f_case : Addr} (m_DEEDS : mg "DEEDS" = some (.ref aD)) (hD_ : KTab K w aD (leadsV f_rename f_copy f_drop f_put f_scale f_sum f_join f_table f_case)) (H_rename : Held P w K mg base (1 + 2 * c) f_rename (spDo K c "rename" 2)) (H_copy : Held P w K mg base (1 + 2 * c) f_copy (spDo K c "copy" 2)) (H_drop : Held P w K mg base (1 + 2 * c) f_drop (spDo K c "drop" 1)) (H_put : Held P w K mg base (1 + 2 * c) f_put (spDo K c "put" 3)) (H_scale : Held P w K mg base (1 + 2 * c) f_scale (spDo K c "scale" 3)) (H_sum : Held P w K mg base (1 + 2 * c) f_sum (spDo K c "sum" 2)) (H_join : Held P w K mg base (1 + 2 * c) f_join (spDo K c "join" 2)) (H_table : Held P w K mg base (1 + 2 * c) f_table (spDo K c "table" 4)) (H_case : Held P w K mg base (1 + 2 * c) f_case (spDoCaseOf K c))  : FnOk P w K mg base CX0 (1 + 2 * c + 1) f fd ["held", "steps"] (spDoSteps K c) := by
  refine F.ok scdosteps (fun vs H Q E h => ?_) (fun cdv A outer s H vs Q E hr h => ?_)
  · obtain ⟨p, v, d, m, fs, gs, L, B, rfl, _⟩ := h
    rfl
  · obtain ⟨p, v, d, m, fs, gs, L, B, rfl, hT, hpu, hM, hB, hst, hf, hm, hL, hl, htm, q⟩ := h
    have hu := hu_of hr
    have hs := szl
    refine ⟨_, PSs.nox (pss_one (ps_for PassesOwn.never rfl (pi_or (pi_list (pv 1)) (pi_tup (pv 1))) (pg_name (i := 2) scdosteps.nd rfl (Or.inl rfl)) (pss_cons (ps_set (i := 3) scdosteps.nd rfl (Or.inl rfl) (pe_ix Nn.ix_ktab (pe_glob (v := .ref aD) rfl m_DEEDS rfl) (pe_ix Cc.ix_B (pv 2) (pe_int) (fun _ _ => rfl)) (fun _ _ => rfl)))
      (pss_one (ps_expr (Nn.pe_callH (k := 1 + 2 * c) (i := 3) hr rfl (Or.inl rfl) (pa_cons (pv 0) (pa_cons (pv 2) pa_nil)))))))), ?_⟩
    rcases hpu with hpu | rfl
    · have htu : isTup d = true := by
        rw [steps_over] at hst
        cases d <;> first | rfl | (cases hst; done) | (cases hpu with | lst e => cases e)
      obtain ⟨ds, rfl⟩ := isTup_eq htu
      obtain ⟨a, xs, rfl, hx, hA⟩ := hT.asTup
      have lx := hA.len
      rw [steps_over] at hst
      replace hst : goB (stepB (recOf c)) 0 fs ds = .ok gs := hst
      have eg : growB c (.tuple ds) = (ds.map (growS c)).sum := grow_sum c _
      have el : lngB c L (.tuple ds) = lenGo (lenS (lRec c)) L ds := len_over c L _
      have et : tmB c (.tuple ds) = ds.all (tmS (tRec c)) := tm_over c _
      have ed : doB c m (.tuple ds) = doGo (doS (dRec c)) m ds := do_over c m _
      rw [eg] at hB q
      rw [el] at hl
      rw [et] at htm
      rw [ed] at q
      refine .inr ⟨_, rfl, a, rfl, ⟨xs, hx⟩, for_tup (K := K) (a := a) (xs := xs) (fun i σ' H' => (∃ y2 y3, σ' = [some (.ref p), some (.ref a), y2, y3]) ∧ Fr [p] H H' ∧ ∃ mi fsi Li Bi, HeldM H' p mi Bi ∧ Bi + ((ds.drop i).map (growS c)).sum ≤ B + (ds.map (growS c)).sum ∧ goB (stepB (recOf c)) i fsi (ds.drop i) = .ok gs ∧ FOk fsi ∧ MOk Li fsi mi ∧ 40 ≤ Li ∧ lenGo (lenS (lRec c)) Li (ds.drop i) ≤ 16000000 ∧ doGo (doS (dRec c)) mi (ds.drop i) = doGo (doS (dRec c)) m ds)
        ⟨⟨_, _, rfl⟩, Fr.refl, m, fs, L, B, hM, Nat.le_refl _, hst, hf, hm, hL, hl, rfl⟩ (fun i σ' H' _ ⟨_, f, _⟩ => ?_) ?_ ?_⟩
      · obtain ⟨kvs, hp, _⟩ := hM
        exact sq_frD hp f hx
      · rintro i x σ' H' hxi ⟨⟨y2, y3, rfl⟩, f, mi, fsi, Li, Bi, hMi, hBi, hgo, hfi, hmi, hLi, hli, hdo⟩
        obtain ⟨dx, hdx, tx, mx⟩ := ThAll.get2 hA hxi
        have hdr : ds.drop i = dx :: ds.drop (i + 1) := by
          obtain ⟨hlt, e⟩ := List.getElem?_eq_some_iff.mp hdx
          rw [List.drop_eq_getElem_cons hlt, e]
        rw [hdr, go_cons] at hgo
        rw [hdr, List.map_cons, List.sum_cons] at hBi
        rw [hdr] at hli hdo
        obtain ⟨gi, hs1, hgo2⟩ : ∃ g, stepB (recOf c) fsi dx = some g ∧ goB (stepB (recOf c)) (i + 1) g (ds.drop (i + 1)) = .ok gs := by
          cases e : stepB (recOf c) fsi dx with
          | none =>
            rw [e] at hgo
            cases hgo
          | some g =>
            rw [e] at hgo
            exact ⟨g, rfl, hgo⟩
        obtain ⟨fok2, mok2⟩ := step_ok (rec_ok c) hs1 hfi hmi hLi
        have htx := List.all_eq_true.mp htm dx mx
        have pdx := hpu.mem dx mx
        have lge : lenS (lRec c) Li dx ≤ 16000000 := Nat.le_trans (lenGo_ge (lenS_ge (lRec_ge c)) (ds.drop (i + 1)) (lenS (lRec c) Li dx)) hli
        obtain ⟨kvs, hp, _⟩ := id hM
        have tdx := th_frD hp f tx pdx
        obtain ⟨wd, r, rfl, hlead, hln⟩ := stepB_some hs1
        obtain ⟨a2, ys, rfl, hx2, hA2⟩ := tdx.asTup
        obtain ⟨y0, yr, rfl, t0, hY⟩ := hA2.cons_of
        obtain rfl := t0.asStr
        replace htx : tmLead (tRec c) wd r = true := htx
        replace lge : lenLead (lRec c) Li wd r ≤ 16000000 := lge
        have fin : ∀ H2, Fr [p] H' H2 → HeldM H2 p (doLead (dRec c) mi wd r) (Bi + growS c (.tuple (.str wd :: r))) → Fr [p] H H2 ∧ ∃ mi fsi Li Bi, HeldM H2 p mi Bi ∧ Bi + ((ds.drop (i + 1)).map (growS c)).sum ≤ B + (ds.map (growS c)).sum ∧ goB (stepB (recOf c)) (i + 1) fsi (ds.drop (i + 1)) = .ok gs ∧ FOk fsi ∧ MOk Li fsi mi ∧ 40 ≤ Li ∧ lenGo (lenS (lRec c)) Li (ds.drop (i + 1)) ≤ 16000000 ∧ doGo (doS (dRec c)) mi (ds.drop (i + 1)) = doGo (doS (dRec c)) m ds :=
          fun H2 f2 hM2 => ⟨f.trans f2, _, gi, _, _, hM2, by omega, hgo2, fok2, mok2, Nat.le_trans hLi (lenS_ge (lRec_ge c) Li _), hli, hdo⟩
        refine ⟨_, rfl, true, a2, _, 0, _, rfl, rfl, hx2, at0, ?_⟩
        rcases lenOf_in hln with rfl | rfl | rfl | rfl | rfl | rfl | rfl | rfl | rfl
        · exact ⟨aD, _, _, .ref f_rename, rfl, rfl, hD_, by rw [look_lead]; rfl, f_rename, _, rfl, H_rename, _, rfl, _, rfl, p, .ref a2, r, mi, fsi, gi, Li, Bi, rfl, tdx, pdx, (Option.some.inj hln).symm, hMi, by omega, hlead, hfi, hmi, hLi, by omega, htx, fun H2 f2 hM2 => ⟨⟨_, _, rfl⟩, fin H2 f2 hM2⟩⟩
        · exact ⟨aD, _, _, .ref f_copy, rfl, rfl, hD_, by rw [look_lead]; rfl, f_copy, _, rfl, H_copy, _, rfl, _, rfl, p, .ref a2, r, mi, fsi, gi, Li, Bi, rfl, tdx, pdx, (Option.some.inj hln).symm, hMi, by omega, hlead, hfi, hmi, hLi, by omega, htx, fun H2 f2 hM2 => ⟨⟨_, _, rfl⟩, fin H2 f2 hM2⟩⟩
        · exact ⟨aD, _, _, .ref f_drop, rfl, rfl, hD_, by rw [look_lead]; rfl, f_drop, _, rfl, H_drop, _, rfl, _, rfl, p, .ref a2, r, mi, fsi, gi, Li, Bi, rfl, tdx, pdx, (Option.some.inj hln).symm, hMi, by omega, hlead, hfi, hmi, hLi, by omega, htx, fun H2 f2 hM2 => ⟨⟨_, _, rfl⟩, fin H2 f2 hM2⟩⟩
        · exact ⟨aD, _, _, .ref f_put, rfl, rfl, hD_, by rw [look_lead]; rfl, f_put, _, rfl, H_put, _, rfl, _, rfl, p, .ref a2, r, mi, fsi, gi, Li, Bi, rfl, tdx, pdx, (Option.some.inj hln).symm, hMi, by omega, hlead, hfi, hmi, hLi, by omega, htx, fun H2 f2 hM2 => ⟨⟨_, _, rfl⟩, fin H2 f2 hM2⟩⟩
        · exact ⟨aD, _, _, .ref f_scale, rfl, rfl, hD_, by rw [look_lead]; rfl, f_scale, _, rfl, H_scale, _, rfl, _, rfl, p, .ref a2, r, mi, fsi, gi, Li, Bi, rfl, tdx, pdx, (Option.some.inj hln).symm, hMi, by omega, hlead, hfi, hmi, hLi, by omega, htx, fun H2 f2 hM2 => ⟨⟨_, _, rfl⟩, fin H2 f2 hM2⟩⟩
        · exact ⟨aD, _, _, .ref f_sum, rfl, rfl, hD_, by rw [look_lead]; rfl, f_sum, _, rfl, H_sum, _, rfl, _, rfl, p, .ref a2, r, mi, fsi, gi, Li, Bi, rfl, tdx, pdx, (Option.some.inj hln).symm, hMi, by omega, hlead, hfi, hmi, hLi, by omega, htx, fun H2 f2 hM2 => ⟨⟨_, _, rfl⟩, fin H2 f2 hM2⟩⟩
        · exact ⟨aD, _, _, .ref f_join, rfl, rfl, hD_, by rw [look_lead]; rfl, f_join, _, rfl, H_join, _, rfl, _, rfl, p, .ref a2, r, mi, fsi, gi, Li, Bi, rfl, tdx, pdx, (Option.some.inj hln).symm, hMi, by omega, hlead, hfi, hmi, hLi, by omega, htx, fun H2 f2 hM2 => ⟨⟨_, _, rfl⟩, fin H2 f2 hM2⟩⟩
        · exact ⟨aD, _, _, .ref f_table, rfl, rfl, hD_, by rw [look_lead]; rfl, f_table, _, rfl, H_table, _, rfl, _, rfl, p, .ref a2, r, mi, fsi, gi, Li, Bi, rfl, tdx, pdx, (Option.some.inj hln).symm, hMi, by omega, hlead, hfi, hmi, hLi, by omega, htx, fun H2 f2 hM2 => ⟨⟨_, _, rfl⟩, fin H2 f2 hM2⟩⟩
        · refine ⟨aD, _, _, .ref f_case, rfl, rfl, hD_, by rw [look_lead]; rfl, f_case, _, rfl, H_case, _, rfl, _, rfl, ?_⟩
          cases c with
          | zero =>
            obtain ⟨d0, d1, d2, d3, rfl⟩ := len4 (Option.some.inj hln).symm
            exfalso
            replace hlead : caseB (recOf 0) fsi d0 d1 d2 d3 = some gi := hlead
            unfold caseB at hlead
            cases ho : sortOf fsi d0 with
            | none =>
              rw [ho] at hlead
              cases hlead
            | some el =>
              rw [ho] at hlead
              dsimp only at hlead
              by_cases k : (decide (el ∈ testL) && ofSort el d1) = true
              · rw [if_pos k] at hlead
                cases hlead
              · rw [if_neg k] at hlead
                cases hlead
          | succ c => exact ⟨p, .ref a2, r, mi, fsi, gi, Li, Bi, rfl, tdx, pdx, (Option.some.inj hln).symm, hMi, by omega, hlead, hfi, hmi, hLi, by omega, htx, fun H2 f2 hM2 => ⟨⟨_, _, rfl⟩, fin H2 f2 hM2⟩⟩
      · rintro σ' H' ⟨⟨y2, y3, rfl⟩, f, mi, fsi, Li, Bi, hMi, hBi, hgo, hfi, hmi, hLi, hli, hdo⟩
        rw [lx, List.drop_length] at hdo hBi
        obtain rfl : mi = doGo (doS (dRec c)) m ds := hdo
        exact q H' f (hMi.mono (by simpa using hBi))
    · obtain ⟨a, xs, rfl, hx, hA⟩ := hT.asLst
      obtain rfl := hA.nil_of
      have eg : growB c (.list []) = 0 := by rw [grow_sum]; rfl
      have ed : doB c m (.list []) = m := by rw [do_over]; rfl
      rw [eg, ed] at q
      refine .inl ⟨_, rfl, a, rfl, ⟨_, hx⟩, for_list (K := K) (a := a) (xs := []) (fun i σ' H' => H' = H) rfl (fun i σ' H' _ e => by rw [e]; exact hx) (fun i x σ' H' hxi _ => by simp at hxi) (fun σ' H' e => ?_)⟩
      subst e
      exact q _ Fr.refl (hM.mono (by omega))
end
end St6

set_option autoImplicit false
set_option maxHeartbeats 4000000
namespace St6
open PySem PySem.Spec PyProof.Rows L2 Tg Cc Nn TL
/-! done -/

structure DeedsOk (P : Program) (w : World) (K : PySem.W.Frag) (mg : Str → Option Value) (base : Heap) (f_rename f_copy f_drop f_put f_scale f_sum f_join f_table : Addr) : Prop where
  h_rename : ∀ c, Held P w K mg base 1 f_rename (spDo K c "rename" 2)
  h_copy : ∀ c, Held P w K mg base 1 f_copy (spDo K c "copy" 2)
  h_drop : ∀ c, Held P w K mg base 1 f_drop (spDo K c "drop" 1)
  h_put : ∀ c, Held P w K mg base 1 f_put (spDo K c "put" 3)
  h_scale : ∀ c, Held P w K mg base 1 f_scale (spDo K c "scale" 3)
  h_sum : ∀ c, Held P w K mg base 1 f_sum (spDo K c "sum" 2)
  h_join : ∀ c, Held P w K mg base 1 f_join (spDo K c "join" 2)
  h_table : ∀ c, Held P w K mg base 1 f_table (spDo K c "table" 4)

theorem held_upD {P : Program} {w : World} {K : PySem.W.Frag} {mg : Str → Option Value} {base : Heap} {j k : Nat} {f : Addr} {sp : Sp} (h : Held P w K mg base j f sp) (le : j ≤ k) : Held P w K mg base k f sp := by
  obtain ⟨fd, ps, ok, kp, b⟩ := h.ex
  exact ⟨fd, ps, ⟨fun vs H Q E a => ok.len vs H Q E a, fun A outer s H args us vs Q E hr he hb hv a => ok.run A outer s H args us vs Q E (hr.mono le) he hb hv a⟩, kp, b⟩
theorem ok_deeds {P : Program} {w : World} {K : PySem.W.Frag} {mg : Str → Option Value} {base : Heap} {f_rename f_copy f_drop f_put f_scale f_sum f_join f_table f_case f_l : Addr} {fd_case fd_l : FuncData} (DO : DeedsOk P w K mg base f_rename f_copy f_drop f_put f_scale f_sum f_join f_table)
    (Fc : FnP K "_do_case" sDoCase f_case fd_case) (m_c : mg "_do_case" = some (.ref f_case)) (b_c : Binds K fd_case ["held", "step"] [])
    (Fl : FnP K "_do_steps" sDoSteps f_l fd_l) (m_l : mg "_do_steps" = some (.ref f_l)) (b_l : Binds K fd_l ["held", "steps"] [])
    {aD : Addr} (m_D : mg "DEEDS" = some (.ref aD)) (hD : KTab K w aD (leadsV f_rename f_copy f_drop f_put f_scale f_sum f_join f_table f_case)) : ∀ c, FnOk P w K mg base CX0 (2 + 2 * c) f_l fd_l ["held", "steps"] (spDoSteps K c)
  | c => by
    have hc : Held P w K mg base (1 + 2 * c) f_case (spDoCaseOf K c) := by
      cases c with
      | zero => exact ⟨fd_case, ["held", "step"], fn_sub fun _ _ _ _ h => h, Fc.kp, b_c⟩
      | succ c =>
        have ih := ok_deeds DO Fc m_c b_c Fl m_l b_l m_D hD c
        exact held_of (x := "_do_case") ⟨ok_docase Fc ⟨ih, m_l, Fl.kp, b_l⟩, m_c, Fc.kp, b_c⟩ (by omega)
    have all := ok_dosteps (c := c) Fl m_D hD (held_upD (DO.h_rename c) (by omega)) (held_upD (DO.h_copy c) (by omega)) (held_upD (DO.h_drop c) (by omega)) (held_upD (DO.h_put c) (by omega)) (held_upD (DO.h_scale c) (by omega)) (held_upD (DO.h_sum c) (by omega)) (held_upD (DO.h_join c) (by omega)) (held_upD (DO.h_table c) (by omega)) hc
    have e : 1 + 2 * c + 1 = 2 + 2 * c := by omega
    rw [← e]
    exact all

/-- what a form's values stand for -/
def mOf : Fs → List PyData → Mv
  | g :: r, d :: ds => fun z => if g.1 = z then some d else mOf r ds z
  | _, _ => fun _ => none
theorem mOf_none : ∀ {fs : Fs} {ds : List PyData} {z : Str}, z ∉ fs.map Prod.fst → mOf fs ds z = none
  | [], [], _, _ => rfl
  | [], _ :: _, _, _ => rfl
  | _ :: _, [], _, _ => rfl
  | g :: r, d :: ds, z, h => by
    show (if g.1 = z then some d else mOf r ds z) = none
    rw [if_neg (fun e => h (by rw [← e]; exact List.mem_cons_self ..))]
    exact mOf_none fun h2 => h (List.mem_cons_of_mem _ h2)
theorem mOf_snoc : ∀ {fs : Fs} {ds : List PyData} {g : Str × Str} {d : PyData}, fs.length = ds.length → g.1 ∉ fs.map Prod.fst → mOf (fs ++ [g]) (ds ++ [d]) = upM (mOf fs ds) g.1 (some d)
  | [], [], g, d, _, _ => by
    funext z
    show (if g.1 = z then some d else none) = if z = g.1 then some d else none
    by_cases e : g.1 = z
    · rw [if_pos e, if_pos e.symm]
    · rw [if_neg e, if_neg (fun h => e h.symm)]
  | x :: r, y :: ds, g, d, hl, hn => by
    funext z
    have ih := mOf_snoc (fs := r) (ds := ds) (g := g) (d := d) (by simpa using hl) (fun h => hn (List.mem_cons_of_mem _ h))
    show (if x.1 = z then some y else mOf (r ++ [g]) (ds ++ [d]) z) = if z = g.1 then some d else (if x.1 = z then some y else mOf r ds z)
    rw [ih]
    unfold upM
    by_cases e : x.1 = z
    · rw [if_pos e, if_pos e, if_neg (fun h => hn (by rw [← h, ← e]; exact List.mem_cons_self ..))]
    · rw [if_neg e, if_neg e]
  | [], _ :: _, _, _, hl, _ => by simp at hl
  | _ :: _, [], _, _, hl, _ => by simp at hl
theorem passB {P : Program} {w : World} {X : Cx} : Passes (L2.CX P w) X E0 := fun pins σ H s e s1 _ ⟨_, _, _, _, _, _, _, _, _, _, _, _, z⟩ => z.elim
def spDone (K : PySem.W.Frag) (c : Nat) : Sp := fun vs H Q _ => ∃ u fs v d w Ds gs L, vs = [u, v, w] ∧ Th K H u (formD fs) ∧ FOk fs ∧ Th K H v d ∧ (Pu false d ∨ d = .list []) ∧ Th K H w (.tuple Ds) ∧ Ds.length = fs.length ∧ (∀ D ∈ Ds, ∃ L s, VOk L s D) ∧ MOk L fs (mOf fs Ds) ∧ Bd 1000 (2 * c + 1) d ∧ c ≤ 9 ∧ fs.length + growB c d ≤ 900000 ∧ stepsB c fs d = .ok gs ∧ 1 ≤ gs.length ∧ gs.length ≤ 6 ∧ 40 ≤ L ∧ lngB c L d ≤ 16000000 ∧ tmB c d = true ∧
  ∀ H' q, Same H H' → Th K H' (.ref q) (.tuple (gs.map fun g => valM (doB c (mOf fs Ds) d) (.str g.1))) → Q (.ref q) H'
theorem th_plainV {K : PySem.W.Frag} {H : Hp} {x : V} {d : PyData} (h : Th K H x d) (hv : ∃ L s, VOk L s d) : x = vOf d := by
  obtain ⟨L, s, hv⟩ := hv
  rcases hv.plain with ⟨i, rfl⟩ | ⟨z, rfl, _⟩ <;> (cases h; rfl)
theorem th_vOfV {K : PySem.W.Frag} {H : Hp} {d : PyData} (hv : ∃ L s, VOk L s d) : Th K H (vOf d) d := by
  obtain ⟨L, s, hv⟩ := hv
  rcases hv.plain with ⟨i, rfl⟩ | ⟨z, rfl, _⟩
  · exact .int _
  · exact .str _
section
variable {P : Program} {w : World} {K : PySem.W.Frag} {mg : Str → Option Value} {base : Heap} {C : Addr} {c : Nat}
theorem scdone : FnScope ["form", "steps", "values", "field", "_", "value", "held"] ["form", "steps", "values"] (defScope sDone) := ⟨rfl, rfl, rfl, by decide +kernel, rfl, by decide +kernel, by decide +kernel⟩
theorem ok_done {f : Addr} {fd : FuncData} (F : FnP K "done" sDone f fd) {f__do_steps : Addr} {fd__do_steps : FuncData} (c__do_steps : Cl P w K mg base CX0 "_do_steps" (2 + 2 * c) ["held", "steps"] (spDoSteps K c) f__do_steps fd__do_steps) {f_form_behind : Addr} {fd_form_behind : FuncData} (c_form_behind : Cl P w K mg base (L2.CX P w) "form_behind" (8 + 3 * c + 1) ["form", "steps"] (spFormBehind K C c) f_form_behind fd_form_behind) (mb_tuple : mg "tuple" = none) (mb_zip : mg "zip" = none)   : FnOk P w K mg base CX0 (9 + 3 * c + 1) f fd ["form", "steps", "values"] (spDone K c) := by
  refine F.ok scdone (fun vs H Q E h => ?_) (fun cdv A outer s H vs Q E hr h => ?_)
  · obtain ⟨u, fs, v, d, w, Ds, gs, L, rfl, _⟩ := h
    rfl
  · obtain ⟨u, fs, v, d, w, Ds, gs, L, rfl, hF, hf, hT, hpu, hW, hln, hvs, hm, hBd, hc9, hgr, hst, g1, g6, hL, hl, htm, q⟩ := h
    have hu := hu_of hr
    have hs := szl
    refine ⟨_, PSs.nox (pss_cons (ps_set (i := 6) scdone.nd rfl (Or.inr rfl) (pe_dc (own := [("value", 5), ("field", 3), ("_", 4)]) (tt := tYes) rfl scdone.nd (RZ.pi_zipA (by rfl) mb_zip (pa_cons (pv 0) (pa_cons (pv 2) pa_nil))) (blkOk_by (own := [("value", 5), ("field", 3), ("_", 4)]) (N := ["form", "steps", "values", "field", "_", "value", "held"]) (sc := defScope sDone) (by decide +kernel)) (fun _ _ _ _ _ => Cc.pg_tupk (K := K) (n := 2) rfl rfl (pgs_cons (Cc.pg_tupk (K := K) (n := 2) rfl rfl (pgs_cons (pg_name (i := 3) scdone.nd rfl (Or.inl rfl)) (pgs_cons (pg_name (i := 4) scdone.nd rfl (Or.inl rfl)) (pgs_nil)))) (pgs_cons (pg_name (i := 5) scdone.nd rfl (Or.inl rfl)) (pgs_nil)))) (fun _ _ _ _ _ => pts_nil) (fun _ _ _ _ _ => pv 3) (fun _ _ _ _ _ => pv 5)))
      (pss_cons (ps_expr (pe_call c__do_steps.ok (hr.mono (by omega)) (by rfl) c__do_steps.m c__do_steps.kp c__do_steps.b .nil pass0 (pa_cons (pv 6) (pa_cons (pv 1) pa_nil))))
      (pss_one (ps_ret (pe_callTy call_tuple_of (by rfl) mb_tuple (by decide +kernel) (pa_cons (pe_lc (own := [("field", 3), ("_", 4)]) (tt := tYes) rfl scdone.nd (pi_tup (pe_call c_form_behind.ok (hr.mono (by omega)) (by rfl) c_form_behind.m c_form_behind.kp c_form_behind.b .nil passB (pa_cons (pv 0) (pa_cons (pv 1) pa_nil)))) (blkOk_by (own := [("field", 3), ("_", 4)]) (N := ["form", "steps", "values", "field", "_", "value", "held"]) (sc := defScope sDone) (by decide +kernel)) (fun _ _ _ _ _ => Cc.pg_tupk (K := K) (n := 2) rfl rfl (pgs_cons (pg_name (i := 3) scdone.nd rfl (Or.inl rfl)) (pgs_cons (pg_name (i := 4) scdone.nd rfl (Or.inl rfl)) (pgs_nil)))) (fun _ _ _ _ _ => pts_nil) (fun _ _ _ _ _ => pe_dget hu (pv 6) (pv 3) (fun _ _ => rfl))) pa_nil)))))), ?_⟩
    obtain ⟨pf, fx, rfl, hx, hFA⟩ := hF.asTup
    obtain ⟨pw, wx, rfl, hwx, hWA⟩ := hW.asTup
    have lfx : fx.length = fs.length := by rw [hFA.len, List.length_map]
    have lwx : wx.length = Ds.length := hWA.len
    refine ⟨_, rfl, _, rfl, pf, pw, fx, wx, rfl, .inr ⟨hx, hwx, fun D nD => ?_⟩⟩
    refine dc_it (walk_zipT (K := K) (a := pf) (b := pw) (xs := fx) (ys := wx) rfl) (fun i H' => But D H H' ∧ ∃ kvs, H' D = some (.dK kvs) ∧ kvs.length ≤ i ∧ ∀ z, valV kvs (Sum.inr z) = (mOf (fs.take i) (Ds.take i) z).map vOf) ⟨But.refl.upd, [], upd_same, Nat.le_refl _, fun z => rfl⟩ (fun i H' _ ⟨b, _⟩ => ⟨Sq.same (t := true) hx (b.new nD), Sq.same (t := true) hwx (b.new nD)⟩) ?_ ?_
    · rintro i y H1 H2 hi ⟨b, kvs, hD, lk, hv⟩ ⟨T, x, z, rfl, nT, rfl, ex, ez⟩
      obtain ⟨dz, hdz, tz, mz⟩ := ThAll.get2 hFA ex
      obtain ⟨dx, hdx, tx, mx⟩ := ThAll.get2 hWA ez
      obtain ⟨g, hg, rfl⟩ : ∃ g, fs[i]? = some g ∧ fieldD g = dz := by
        rw [List.getElem?_map] at hdz
        cases hg : fs[i]? with
        | none =>
          rw [hg] at hdz
          cases hdz
        | some g =>
          rw [hg] at hdz
          exact ⟨g, rfl, Option.some.inj hdz⟩
      obtain ⟨pz, zs, rfl, hpz, hZ⟩ := tz.asTup
      obtain ⟨y0, y1, rfl, u0, u1⟩ := thAll2 hZ
      obtain rfl := u0.asStr
      obtain rfl := u1.asStr
      obtain rfl := th_plainV tx (hvs dx mx)
      have sT := newS (o := .tup [V.ref pz, vOf dx]) nT
      have s12 := (b.new nD).trans sT
      have il : i < fs.length := (List.getElem?_eq_some_iff.mp hg).1
      refine ⟨T, _, rfl, SqT.of upd_same, rfl, _, _, rfl, ⟨pz, _, rfl, Sq.same (t := true) hpz s12, rfl, _, _, rfl, _, _, rfl, rfl, _, _, rfl, rfl, rfl, ?_⟩⟩
      refine ⟨_, rfl, _, rfl, _, Sum.inr g.1, rfl, sT _ _ hD, by omega, (b.same sT).upd, _, upd_same, Nat.le_trans (length_putK _ _ _) (by omega), fun z => ?_⟩
      have e1 : fs.take (i + 1) = fs.take i ++ [g] := by rw [List.take_succ, hg]; rfl
      have e2 : Ds.take (i + 1) = Ds.take i ++ [dx] := by rw [List.take_succ, hdx]; rfl
      have nk : g.1 ∉ (fs.take i).map Prod.fst := nd_take (f := Prod.fst) hf.nd hg
      rw [e1, e2, mOf_snoc (by rw [List.length_take, List.length_take, hln]) nk, valV_put]
      unfold upM
      by_cases e : z = g.1
      · rw [if_pos (congrArg Sum.inr e), if_pos e]
        rfl
      · rw [if_neg (fun h => e (Sum.inr.inj h)), if_neg e]
        exact hv z
    · rintro H1 ⟨b, kvs, hD, lk, hv⟩
      have mn : min fx.length wx.length = fs.length := by rw [lfx, lwx, hln, Nat.min_self]
      rw [mn] at lk hv
      rw [List.take_length, List.take_of_length_le (by omega)] at hv
      have s1 := b.new nD
      have hM : HeldM H1 D (mOf fs Ds) fs.length := ⟨kvs, hD, lk, hv⟩
      have hT1 := hT.kept (kept_same s1)
      refine ⟨_, rfl, _, rfl, D, v, d, _, fs, gs, L, _, rfl, hT1, hpu, hM, by omega, hst, hf, hm, hL, hl, htm, fun H2 f2 hM2 => ?_⟩
      have fH : Same H H2 := (Fr.drop (p := D) (S := []) ((fr_same s1).trans f2) nD).same
      have beh : behindB c fs d = .ok gs := by
        unfold behindB
        rw [hst]
        exact if_pos ⟨g1, g6⟩
      have hT2 := hT.kept (kept_same fH)
      refine ⟨_, rfl, _, rfl, _, fs, v, d, rfl, hF.kept (kept_same fH), hf.nd, hT2, hBd, hc9, by omega, ?_⟩
      rw [beh]
      intro H3 qf s3 t3z
      have t3 := t3z.th
      have hM3 := hM2.same s3
      obtain ⟨a3, gx, e3, hgx, hGA⟩ := t3.asTup
      cases e3
      have lgx : gx.length = gs.length := by rw [hGA.len, List.length_map]
      have mok := (do_ok c hst hf hm hL).2
      refine ⟨qf, rfl, ⟨gx, hgx⟩, fun D3 nD3 => ?_⟩
      refine lc_acc (walk_tup (K := K) (a := qf) (xs := gx)) (fun i acc H' => acc = ((gs.take i).map fun g => vOf (valM (doB c (mOf fs Ds) d) (.str g.1))) ∧ But D3 H3 H') ⟨rfl, But.refl.upd⟩ (fun i acc H' _ ⟨_, b⟩ _ => Sq.same (t := true) hgx (b.new nD3)) ?_ ?_
      · rintro i x acc H4 H5 hi la ⟨rfl, b4⟩ hD4 ⟨rfl, hx2⟩
        obtain ⟨dz, hdz, tz, mz⟩ := ThAll.get2 hGA hx2
        obtain ⟨g, hg, rfl⟩ : ∃ g, gs[i]? = some g ∧ fieldD g = dz := by
          rw [List.getElem?_map] at hdz
          cases hg : gs[i]? with
          | none =>
            rw [hg] at hdz
            cases hdz
          | some g =>
            rw [hg] at hdz
            exact ⟨g, rfl, Option.some.inj hdz⟩
        obtain ⟨pz, zs, rfl, hpz, hZ⟩ := tz.asTup
        obtain ⟨y0, y1, rfl, u0, u1⟩ := thAll2 hZ
        obtain rfl := u0.asStr
        obtain rfl := u1.asStr
        have s4 := b4.new nD3
        have gnd := (do_ok c hst hf hm hL).1.nd
        obtain ⟨vv, hvv, hk⟩ := mok g.1 g.2 (getF_mem gnd (List.mem_of_getElem? hg))
        obtain ⟨k4, p4, _, v4⟩ := hM3.same s4
        refine ⟨pz, _, rfl, Sq.same (t := true) hpz s4, rfl, _, _, rfl, _, _, rfl, rfl, rfl, ?_⟩
        refine ⟨_, rfl, _, rfl, D, _, rfl, dget_m p4 v4 hvv, push hD4 la (by omega) ⟨?_, b4.upd⟩⟩
        rw [List.take_succ, hg]
        rw [List.map_append]
        show _ = _ ++ [vOf (valM (doB c (mOf fs Ds) d) (.str g.1))]
        rw [valM_of hvv]
      · rintro acc H4 la ⟨rfl, b4⟩ hD4
        rw [lgx, List.take_length] at hD4
        refine ⟨D3, _, rfl, .inl ⟨SqL.of hD4, fun T nT => ?_⟩⟩
        have s4 := b4.new nD3
        have sT := newS (o := .tup (gs.map fun g => vOf (valM (doB c (mOf fs Ds) d) (.str g.1)))) nT
        refine q _ T ((fH.trans s3).trans (s4.trans sT)) (.tup (SqT.of upd_same) ?_)
        have all : ∀ (l : Fs), (∀ g ∈ l, g ∈ gs) → ThAll K (upd H4 T (.tup (gs.map fun g => vOf (valM (doB c (mOf fs Ds) d) (.str g.1))))) (l.map fun g => vOf (valM (doB c (mOf fs Ds) d) (.str g.1))) (l.map fun g => valM (doB c (mOf fs Ds) d) (.str g.1)) := by
          intro l hl2
          induction l with
          | nil => exact .nil
          | cons g r ih =>
            have gnd := (do_ok c hst hf hm hL).1.nd
            obtain ⟨vv, hvv, hk⟩ := mok g.1 g.2 (getF_mem gnd (hl2 g (List.mem_cons_self ..)))
            rw [List.map_cons, List.map_cons, valM_of hvv]
            exact .cons (th_vOfV ⟨_, _, hk⟩) (ih fun x hx => hl2 x (List.mem_cons_of_mem _ hx))
        exact all gs fun g hg => hg
end
end St6

set_option autoImplicit false
set_option maxHeartbeats 4000000
namespace St6
open PySem PySem.Spec PyProof.Rows L2 Tg Cc Nn TL
/-! the law's own doing -/

def spLDo (K : PySem.W.Frag) (c : Nat) : Sp := fun vs H Q _ => ∃ p v d m fs gs L B, vs = [.ref p, v] ∧ Th K H v d ∧ Pu false d ∧ HeldM H p m B ∧ B + growB c d ≤ 1000000 ∧ stepsB c fs d = .ok gs ∧ FOk fs ∧ MOk L fs m ∧ 40 ≤ L ∧ lngB c L d ≤ 16000000 ∧ tmB c d = true ∧
  ∀ H', Fr [p] H H' → HeldM H' p (doB c m d) (B + growB c d) → Q (.ref p) H'
def spLDoRec (K : PySem.W.Frag) (c : Nat) : Sp := fun vs H Q E => ∃ c', c = c' + 1 ∧ spLDo K c' vs H Q E
theorem eqP_comm (a b : PyData) : eqP a b = eqP b a := by
  cases a <;> cases b <;> first | rfl | exact decide_eq_decide.mpr ⟨Eq.symm, Eq.symm⟩
theorem eqP_dec2 {L : Nat} {s : Str} {v d : PyData} (hv : VOk L s v) (hs : s ∈ sorts) (hd : ofSort s d = true) : decide (vOf d = vOf v) = eqP v d ∧ scal (vOf d) (vOf v) = true := by
  have hd2 := vok_sort (L := 40) hs hd (Nat.le_refl _)
  by_cases e : s ∈ numsL
  · obtain ⟨i, rfl⟩ := vok_num hv e
    obtain ⟨j, rfl⟩ := vok_num hd2 e
    exact ⟨decide_eq_decide.mpr ⟨fun h => (V.int.inj h).symm, fun h => (congrArg V.int h).symm⟩, rfl⟩
  · obtain ⟨y, rfl, _, _⟩ := vok_txt hv e
    obtain ⟨z, rfl, _, _⟩ := vok_txt hd2 e
    exact ⟨decide_eq_decide.mpr ⟨fun h => (V.str.inj h).symm, fun h => (congrArg V.str h).symm⟩, rfl⟩
theorem put_f {kvs : List (Key × V)} {m : Mv} {B : Nat} (lk : kvs.length ≤ B) (hv : ∀ z, valV kvs (Sum.inr z) = (m z).map vOf) (n : Str) (v : PyData) : (putK kvs (Sum.inr n) (vOf v)).length ≤ B + 1 ∧ ∀ z, valV (putK kvs (Sum.inr n) (vOf v)) (Sum.inr z) = (upM m n (some v) z).map vOf := by
  refine ⟨Nat.le_trans (length_putK _ _ _) (by omega), fun z => ?_⟩
  rw [valV_put]
  unfold upM
  by_cases e : z = n
  · rw [if_pos (congrArg Sum.inr e), if_pos e]
    rfl
  · rw [if_neg (fun h => e (Sum.inr.inj h)), if_neg e]
    exact hv z
theorem drop_f {kvs : List (Key × V)} {m : Mv} {B : Nat} (lk : kvs.length ≤ B) (hv : ∀ z, valV kvs (Sum.inr z) = (m z).map vOf) (n : Str) : (dropK kvs (Sum.inr n)).length ≤ B ∧ ∀ z, valV (dropK kvs (Sum.inr n)) (Sum.inr z) = (upM m n none z).map vOf := by
  refine ⟨Nat.le_trans (List.length_filter_le _ _) lk, fun z => ?_⟩
  rw [valV_dropK]
  unfold upM
  by_cases e : z = n
  · rw [if_pos (congrArg Sum.inr e), if_pos e]
    rfl
  · rw [if_neg (fun h => e (Sum.inr.inj h)), if_neg e]
    exact hv z
def othM (v : PyData) : PyData → PyData
  | .tuple [x] => x
  | _ => v
theorem tab_head (v : PyData) (l : List PyData) (other : PyData) : ∃ r, ((l.filter fun r => eqP v (firstOf r)).map fun r => vOf (secondOf r)) ++ [vOf (othM v other)] = vOf (tabM v l other) :: r := by
  unfold tabM
  rw [← List.head?_filter]
  cases h : l.filter fun r => eqP v (firstOf r) with
  | nil => exact ⟨[], rfl⟩
  | cons r rs => exact ⟨_, rfl⟩
theorem other_cases {s so : Str} {d : PyData} (h : otherB s so d = true) (v : PyData) : (d = .none ∧ othM v d = v) ∨ ∃ y, d = .tuple [y] ∧ othM v d = y ∧ ofSort so y = true := by
  match d, h with
  | .none, _ => exact .inl ⟨rfl, rfl⟩
  | .tuple [y], h => exact .inr ⟨y, rfl, rfl, h⟩
section
variable {P : Program} {w : World} {K : PySem.W.Frag} {mg : Str → Option Value} {base : Heap} {c : Nat}
theorem scldoS : FnScope ["cells", "steps", "step", "word", "field", "kind", "thing", "value", "new", "rows"] ["cells", "steps"] (defScope sLawDo) := ⟨rfl, rfl, rfl, by decide +kernel, rfl, by decide +kernel, by decide +kernel⟩
theorem ok_ldoS {f : Addr} {fd : FuncData} (F : FnP K "_law_do" sLawDo f fd) (c__law_do : Cl P w K mg base CX0 "_law_do" (1 + c) ["cells", "steps"] (spLDoRec K c) f fd) (mb_sum : mg "sum" = none) (mb_list : mg "list" = none)   : FnOk P w K mg base CX0 (1 + c + 1) f fd ["cells", "steps"] (spLDo K c) := by
  refine F.ok scldoS (fun vs H Q E h => ?_) (fun cdv A outer s H vs Q E hr h => ?_)
  · obtain ⟨p, v, d, m, fs, gs, L, B, rfl, _⟩ := h
    rfl
  · obtain ⟨p, v, d, m, fs, gs, L, B, rfl, hT, hpu, hM, hB, hst, hf, hm, hL, hl, htm, q⟩ := h
    have hu := hu_of hr
    have hs := szl
    refine ⟨_, PSs.nox (pss_cons (ps_for PassesOwn.never rfl (pi_tup (pv 1)) (pg_name (i := 2) scldoS.nd rfl (Or.inr rfl)) (pss_cons (ps_set (i := 3) scldoS.nd rfl (Or.inl rfl) (pe_ix Cc.ix_B (pv 2) (pe_int) (fun _ _ => rfl)))
      (pss_cons (ps_if (pt_cmpR op_in_seq (pv 3) (pe_tup (pa_cons (pe_str) (pa_cons (pe_str) pa_nil))) (by with_unfolding_all rfl)) (pss_one (ps_dput hu (pv 0) (pe_ix Cc.ix_B (pv 2) (pe_int) (fun _ _ => rfl)) (pe_dget hu (pv 0) (pe_ix Cc.ix_B (pv 2) (pe_int) (fun _ _ => rfl)) (fun _ _ => rfl)) rfl)) (pss_nil))
      (pss_cons (ps_if (pt_cmpR op_in_seq (pv 3) (pe_tup (pa_cons (pe_str) (pa_cons (pe_str) pa_nil))) (by with_unfolding_all rfl)) (pss_one (ps_expr (pe_dpop1 (pv 0) (pe_ix Cc.ix_B (pv 2) (pe_int) (fun _ _ => rfl)) ⟨by rfl, by rfl, by rfl, by rfl⟩))) (pss_nil))
      (pss_cons (ps_if (pt_cmpR op_eq (pv 3) (pe_str) (nomark _)) (pss_one (ps_dput hu (pv 0) (pe_ix Cc.ix_B (pv 2) (pe_int) (fun _ _ => rfl)) (pe_ix Cc.ix_B (pv 2) (pe_int) (fun _ _ => rfl)) rfl)) (pss_nil))
      (pss_cons (ps_if (pt_cmpR op_eq (pv 3) (pe_str) (nomark _)) (pss_one (ps_dput hu (pv 0) (pe_ix Cc.ix_B (pv 2) (pe_int) (fun _ _ => rfl)) (pe_op op_add (pe_op op_mul (pe_dget hu (pv 0) (pe_ix Cc.ix_B (pv 2) (pe_int) (fun _ _ => rfl)) (fun _ _ => rfl)) (pe_ix Cc.ix_B (pv 2) (pe_int) (fun _ _ => rfl))) (pe_ix Cc.ix_B (pv 2) (pe_int) (fun _ _ => rfl))) rfl)) (pss_nil))
      (pss_cons (ps_if (pt_cmpR op_eq (pv 3) (pe_str) (nomark _)) (pss_one (ps_dput hu (pv 0) (pe_ix Cc.ix_B (pv 2) (pe_int) (fun _ _ => rfl)) (pe_callB (cr_sum rfl) (by rfl) mb_sum (by decide +kernel) (pa_cons (pe_lc (own := [("field", 4)]) (g := gName 4) (tt := tYes) rfl scldoS.nd (pi_tup (pe_ix Cc.ix_B (pv 2) (pe_int) (fun _ _ => rfl))) (blkOk_by (own := [("field", 4)]) (N := ["cells", "steps", "step", "word", "field", "kind", "thing", "value", "new", "rows"]) (sc := defScope sLawDo) (by decide +kernel)) (fun _ _ _ _ _ => pg_name (i := 4) scldoS.nd rfl (Or.inl rfl)) (fun _ _ _ _ _ => pts_nil) (fun _ _ _ _ _ => pe_dget hu (pv 0) (pv 4) (fun _ _ => rfl))) pa_nil)) rfl)) (pss_nil))
      (pss_cons (ps_if (pt_cmpR op_eq (pv 3) (pe_str) (nomark _)) (pss_one (ps_dput hu (pv 0) (pe_ix Cc.ix_B (pv 2) (pe_int) (fun _ _ => rfl)) (pe_join (pe_str) (pe_lc (own := [("kind", 5), ("thing", 6)]) (tt := tYes) rfl scldoS.nd (pi_tup (pe_ix Cc.ix_B (pv 2) (pe_int) (fun _ _ => rfl))) (blkOk_by (own := [("kind", 5), ("thing", 6)]) (N := ["cells", "steps", "step", "word", "field", "kind", "thing", "value", "new", "rows"]) (sc := defScope sLawDo) (by decide +kernel)) (fun _ _ _ _ _ => Cc.pg_tupk (K := K) (n := 2) rfl rfl (pgs_cons (pg_name (i := 5) scldoS.nd rfl (Or.inl rfl)) (pgs_cons (pg_name (i := 6) scldoS.nd rfl (Or.inl rfl)) (pgs_nil)))) (fun _ _ _ _ _ => pts_nil) (fun _ _ _ _ _ => pe_ifExp (pt_cmpR op_eq (pv 5) (pe_str) (nomark _)) (pv 6) (pe_dget hu (pv 0) (pv 6) (fun _ _ => rfl))))) rfl)) (pss_nil))
      (pss_cons (ps_if (pt_cmpR op_eq (pv 3) (pe_str) (nomark _)) (pss_cons (ps_setLc (i := 9) (own := [("value", 7), ("new", 8)]) rfl scldoS.nd rfl rfl (sw_true rfl rfl rfl (by decide +kernel)) (pi_tup (pe_ix Cc.ix_B (pv 2) (pe_int) (fun _ _ => rfl))) (blkOk_by (own := [("value", 7), ("new", 8)]) (N := ["cells", "steps", "step", "word", "field", "kind", "thing", "value", "new", "rows"]) (sc := defScope sLawDo) (by decide +kernel)) (fun _ _ _ _ _ => Cc.pg_tupk (K := K) (n := 2) rfl rfl (pgs_cons (pg_name (i := 7) scldoS.nd rfl (Or.inl rfl)) (pgs_cons (pg_name (i := 8) scldoS.nd rfl (Or.inl rfl)) (pgs_nil)))) (fun _ _ _ _ _ => pts_one (pt_cmpR op_eq (pv 7) (pe_dget hu (pv 0) (pe_ix (Cc.ix_Bk (K := K) rfl) (pv 2) (pe_int) (fun _ _ => rfl)) (fun _ _ => rfl)) (nomark _))) (fun _ _ _ _ _ => pv 8))
      (pss_cons (ps_set (i := 9) scldoS.nd rfl (Or.inl rfl) (pe_op op_cat (pv 9) (pe_ifExp (pt_cmpR op_isN (pe_ix Cc.ix_B (pv 2) (pe_int) (fun _ _ => rfl)) (pe_non) (nomark _)) (pe_lst (pa_cons (pe_dget hu (pv 0) (pe_ix Cc.ix_B (pv 2) (pe_int) (fun _ _ => rfl)) (fun _ _ => rfl)) pa_nil)) (pe_callTy call_list_of (by rfl) mb_list (by decide +kernel) (pa_cons (pe_ix Cc.ix_B (pv 2) (pe_int) (fun _ _ => rfl)) pa_nil)))))
      (pss_one (ps_dput hu (pv 0) (pe_ix Cc.ix_B (pv 2) (pe_int) (fun _ _ => rfl)) (pe_ix ix_list (pv 9) (pe_int) (fun _ _ => rfl)) rfl)))) (pss_nil))
      (pss_one (ps_if (pt_cmpR op_eq (pv 3) (pe_str) (nomark _)) (pss_one (ps_set (i := 0) scldoS.nd rfl (Or.inr rfl) (pe_call c__law_do.ok (hr.mono (by omega)) (by rfl) c__law_do.m c__law_do.kp c__law_do.b .nil pass0 (pa_cons (pv 0) (pa_cons (pe_ifExp (pt_cmpR op_eq (pe_dget hu (pv 0) (pe_ix Cc.ix_B (pv 2) (pe_int) (fun _ _ => rfl)) (fun _ _ => rfl)) (pe_ix Cc.ix_B (pv 2) (pe_int) (fun _ _ => rfl)) (nomark _)) (pe_ix Cc.ix_B (pv 2) (pe_int) (fun _ _ => rfl)) (pe_ix Cc.ix_B (pv 2) (pe_int) (fun _ _ => rfl))) pa_nil))))) (pss_nil))))))))))))
      (pss_one (ps_ret (pv 0)))), ?_⟩
    have htu : isTup d = true := by
      rw [steps_over] at hst
      cases d <;> first | rfl | (cases hst; done) | (cases hpu with | lst e => cases e)
    obtain ⟨ds, rfl⟩ := isTup_eq htu
    obtain ⟨a, xs, rfl, hx, hA⟩ := hT.asTup
    have lx := hA.len
    rw [steps_over] at hst
    replace hst : goB (stepB (recOf c)) 0 fs ds = .ok gs := hst
    have eg : growB c (.tuple ds) = (ds.map (growS c)).sum := grow_sum c _
    have elen : lngB c L (.tuple ds) = lenGo (lenS (lRec c)) L ds := len_over c L _
    have et : tmB c (.tuple ds) = ds.all (tmS (tRec c)) := tm_over c _
    have ed : doB c m (.tuple ds) = doGo (doS (dRec c)) m ds := do_over c m _
    rw [eg] at hB q
    rw [elen] at hl
    rw [et] at htm
    rw [ed] at q
    refine ⟨_, rfl, a, rfl, ⟨xs, hx⟩, for_tup (K := K) (a := a) (xs := xs) (fun i σ' H' => (∃ y2 y3 y4 y5 y6 y7 y8 y9, σ' = [some (.ref p), some (.ref a), y2, y3, y4, y5, y6, y7, y8, y9]) ∧ Fr [p] H H' ∧ ∃ mi fsi Li Bi, HeldM H' p mi Bi ∧ Bi + ((ds.drop i).map (growS c)).sum ≤ B + (ds.map (growS c)).sum ∧ goB (stepB (recOf c)) i fsi (ds.drop i) = .ok gs ∧ FOk fsi ∧ MOk Li fsi mi ∧ 40 ≤ Li ∧ lenGo (lenS (lRec c)) Li (ds.drop i) ≤ 16000000 ∧ doGo (doS (dRec c)) mi (ds.drop i) = doGo (doS (dRec c)) m ds)
      ⟨⟨_, _, _, _, _, _, _, _, rfl⟩, Fr.refl, m, fs, L, B, hM, Nat.le_refl _, hst, hf, hm, hL, hl, rfl⟩ (fun i σ' H' _ ⟨_, f, _⟩ => ?_) ?_ ?_⟩
    · obtain ⟨kvs, hp, _⟩ := hM
      exact sq_frD hp f hx
    · rintro i x σ' H' hxi ⟨⟨y2, y3, y4, y5, y6, y7, y8, y9, rfl⟩, f, mi, fsi, Li, Bi, hMi, hBi, hgo, hfi, hmi, hLi, hli, hdo⟩
      obtain ⟨dx, hdx, tx, mx⟩ := ThAll.get2 hA hxi
      have hdr : ds.drop i = dx :: ds.drop (i + 1) := by
        obtain ⟨hlt, e⟩ := List.getElem?_eq_some_iff.mp hdx
        rw [List.drop_eq_getElem_cons hlt, e]
      rw [hdr, go_cons] at hgo
      rw [hdr, List.map_cons, List.sum_cons] at hBi
      rw [hdr] at hli hdo
      obtain ⟨gi, hs1, hgo2⟩ : ∃ g, stepB (recOf c) fsi dx = some g ∧ goB (stepB (recOf c)) (i + 1) g (ds.drop (i + 1)) = .ok gs := by
        cases e : stepB (recOf c) fsi dx with
        | none =>
          rw [e] at hgo
          cases hgo
        | some g =>
          rw [e] at hgo
          exact ⟨g, rfl, hgo⟩
      obtain ⟨fok2, mok2⟩ := step_ok (rec_ok c) hs1 hfi hmi hLi
      have htx := List.all_eq_true.mp htm dx mx
      have pdx := hpu.mem dx mx
      have lge : lenS (lRec c) Li dx ≤ 16000000 := Nat.le_trans (lenGo_ge (lenS_ge (lRec_ge c)) (ds.drop (i + 1)) (lenS (lRec c) Li dx)) hli
      have gpos := growS_pos c dx
      obtain ⟨kv0, hp0, _⟩ := id hM
      have tdx := th_frD hp0 f tx pdx
      obtain ⟨kvs, hp, lk, hv⟩ := hMi
      obtain ⟨wd, r, rfl, hlead, hln⟩ := stepB_some hs1
      obtain ⟨a2, ys, rfl, hx2, hA2⟩ := tdx.asTup
      obtain ⟨y0, yr, rfl, t0, hY⟩ := hA2.cons_of
      obtain rfl := t0.asStr
      replace htx : tmLead (tRec c) wd r = true := htx
      replace lge : lenLead (lRec c) Li wd r ≤ 16000000 := lge
      have fin : ∀ H2, Fr [p] H' H2 → HeldM H2 p (doLead (dRec c) mi wd r) (Bi + growS c (.tuple (.str wd :: r))) → Fr [p] H H2 ∧ ∃ mi fsi Li Bi, HeldM H2 p mi Bi ∧ Bi + ((ds.drop (i + 1)).map (growS c)).sum ≤ B + (ds.map (growS c)).sum ∧ goB (stepB (recOf c)) (i + 1) fsi (ds.drop (i + 1)) = .ok gs ∧ FOk fsi ∧ MOk Li fsi mi ∧ 40 ≤ Li ∧ lenGo (lenS (lRec c)) Li (ds.drop (i + 1)) ≤ 16000000 ∧ doGo (doS (dRec c)) mi (ds.drop (i + 1)) = doGo (doS (dRec c)) m ds :=
        fun H2 f2 hM2 => ⟨f.trans f2, _, gi, _, _, hM2, by omega, hgo2, fok2, mok2, Nat.le_trans hLi (lenS_ge (lRec_ge c) Li _), hli, hdo⟩
      clear hdo hli hgo2 mok2 fok2
      rcases lenOf_in hln with rfl | rfl | rfl | rfl | rfl | rfl | rfl | rfl | rfl
      · obtain ⟨d0, d1, rfl⟩ := len2 (Option.some.inj hln).symm
        obtain ⟨x0, x1, exs, t0, t1⟩ := th2 hA2
        obtain rfl := List.tail_eq_of_cons_eq exs
        obtain ⟨hc, rfl⟩ := ifs (show renameB fsi d0 d1 = some gi from hlead)
        obtain ⟨c1, c2⟩ := (Bool.and_eq_true _ _).mp hc
        obtain ⟨n, rfl, hn⟩ := isNew_of c2
        obtain ⟨so, hso⟩ := Option.isSome_iff_exists.mp c1
        obtain ⟨o, rfl, ho⟩ := sortOf_of hso
        obtain rfl := t0.asStr
        obtain rfl := t1.asStr
        obtain ⟨v, hmv, hk⟩ := hmi o so ho
        have no : o ≠ n := fun e => by
          rw [e, hn] at ho
          cases ho
        refine ⟨_, rfl, true, a2, _, 0, _, rfl, rfl, hx2, at0, ?_⟩
        refine ⟨_, rfl, by show 2 ≤ sizeLine; decide, fun st1 nst1 => ⟨st1, (["rename", "copy"] : List Str).map V.str, rfl, .inr (SqT.of upd_same), rfl, by decide +kernel, _, rfl, ?_⟩⟩
        have s1 := newS (o := .tup ((["rename", "copy"] : List Str).map V.str)) nst1
        have hx_1 := sq_frD hp (fr_same s1) hx2
        have hp_1 := s1 _ _ hp
        have f_1 := (Fr.refl).trans (fr_same (S := [p]) s1)
        rw [if_neg (by decide), in_strs, show decide (("rename" : Str) ∈ (["rename", "copy"] : List Str)) = true by decide +kernel]
        refine iteT ?_
        refine ⟨_, rfl, _, rfl, true, a2, _, 1, _, rfl, rfl, hx_1, rfl, p, _, rfl, dget_m hp_1 hv hmv, _, rfl, _, rfl, true, a2, _, 2, _, rfl, rfl, hx_1, rfl, p, _, rfl, DPut.k (k := Sum.inr n) hp_1 (by omega), ?_⟩
        obtain ⟨l_2, v_2⟩ := put_f lk hv n v
        have hx_2 := sq_frD hp_1 (fr_upd (S := [p]) (p := p) (o := .dK (putK kvs (Sum.inr n) (vOf v))) (by simp)) hx_1
        have f_2 := (f_1).trans (fr_upd (S := [p]) (p := p) (o := .dK (putK kvs (Sum.inr n) (vOf v))) (by simp))
        refine ⟨_, rfl, by show 2 ≤ sizeLine; decide, fun st3 nst3 => ⟨st3, (["rename", "drop"] : List Str).map V.str, rfl, .inr (SqT.of upd_same), rfl, by decide +kernel, _, rfl, ?_⟩⟩
        have s3 := newS (o := .tup ((["rename", "drop"] : List Str).map V.str)) nst3
        have hx_3 := sq_frD upd_same (fr_same s3) hx_2
        have hp_3 := s3 _ _ upd_same
        have f_3 := (f_2).trans (fr_same (S := [p]) s3)
        rw [if_neg (by decide), in_strs, show decide (("rename" : Str) ∈ (["rename", "drop"] : List Str)) = true by decide +kernel]
        refine iteT ?_
        refine ⟨_, rfl, p, rfl, .inl ⟨_, .inl hp_3⟩, _, rfl, true, a2, _, 1, _, rfl, rfl, hx_3, rfl, _, Sum.inr o, vOf v, hp_3, rfl, by rw [v_2 o, upM_ne no, hmv]; rfl, ?_⟩
        obtain ⟨l_4, v_4⟩ := drop_f l_2 v_2 o
        have f_4 := (f_3).trans (fr_upd (S := [p]) (p := p) (o := .dK (dropK (putK kvs (Sum.inr n) (vOf v)) (Sum.inr o))) (by simp))
        refine ⟨_, rfl, rfl, _, rfl, iteF ?_⟩
        refine ⟨_, rfl, rfl, _, rfl, iteF ?_⟩
        refine ⟨_, rfl, rfl, _, rfl, iteF ?_⟩
        refine ⟨_, rfl, rfl, _, rfl, iteF ?_⟩
        refine ⟨_, rfl, rfl, _, rfl, iteF ?_⟩
        refine ⟨_, rfl, rfl, _, rfl, iteF ?_⟩
        have edo : upM (upM mi n (some v)) o none = doLead (dRec c) mi "rename" [.str o, .str n] := by
          show upM (upM mi n (some v)) o none = upM (upM mi n (mi o)) o none
          rw [hmv]
        rw [← edo] at fin
        exact ⟨⟨_, _, _, _, _, _, _, _, rfl⟩, fin _ (f_4) ⟨_, upd_same, Nat.le_trans l_4 (by omega), v_4⟩⟩
      · obtain ⟨d0, d1, rfl⟩ := len2 (Option.some.inj hln).symm
        obtain ⟨x0, x1, exs, t0, t1⟩ := th2 hA2
        obtain rfl := List.tail_eq_of_cons_eq exs
        replace hlead : copyB fsi d0 d1 = some gi := hlead
        unfold copyB at hlead
        obtain ⟨el, hel⟩ : ∃ el, sortOf fsi d0 = some el := by
          cases ho : sortOf fsi d0 with
          | none =>
            rw [ho] at hlead
            cases hlead
          | some el => exact ⟨el, rfl⟩
        rw [hel] at hlead
        obtain ⟨hc, rfl⟩ := ifs hlead
        obtain ⟨o, rfl, ho⟩ := sortOf_of hel
        obtain ⟨n, rfl, hn⟩ := isNew_of hc
        obtain rfl := t0.asStr
        obtain rfl := t1.asStr
        obtain ⟨v, hmv, hk⟩ := hmi o el ho
        refine ⟨_, rfl, true, a2, _, 0, _, rfl, rfl, hx2, at0, ?_⟩
        refine ⟨_, rfl, by show 2 ≤ sizeLine; decide, fun st1 nst1 => ⟨st1, (["rename", "copy"] : List Str).map V.str, rfl, .inr (SqT.of upd_same), rfl, by decide +kernel, _, rfl, ?_⟩⟩
        have s1 := newS (o := .tup ((["rename", "copy"] : List Str).map V.str)) nst1
        have hx_1 := sq_frD hp (fr_same s1) hx2
        have hp_1 := s1 _ _ hp
        have f_1 := (Fr.refl).trans (fr_same (S := [p]) s1)
        rw [if_neg (by decide), in_strs, show decide (("copy" : Str) ∈ (["rename", "copy"] : List Str)) = true by decide +kernel]
        refine iteT ?_
        refine ⟨_, rfl, _, rfl, true, a2, _, 1, _, rfl, rfl, hx_1, rfl, p, _, rfl, dget_m hp_1 hv hmv, _, rfl, _, rfl, true, a2, _, 2, _, rfl, rfl, hx_1, rfl, p, _, rfl, DPut.k (k := Sum.inr n) hp_1 (by omega), ?_⟩
        obtain ⟨l_2, v_2⟩ := put_f lk hv n v
        have hx_2 := sq_frD hp_1 (fr_upd (S := [p]) (p := p) (o := .dK (putK kvs (Sum.inr n) (vOf v))) (by simp)) hx_1
        have f_2 := (f_1).trans (fr_upd (S := [p]) (p := p) (o := .dK (putK kvs (Sum.inr n) (vOf v))) (by simp))
        refine ⟨_, rfl, by show 2 ≤ sizeLine; decide, fun st3 nst3 => ⟨st3, (["rename", "drop"] : List Str).map V.str, rfl, .inr (SqT.of upd_same), rfl, by decide +kernel, _, rfl, ?_⟩⟩
        have s3 := newS (o := .tup ((["rename", "drop"] : List Str).map V.str)) nst3
        have hx_3 := sq_frD upd_same (fr_same s3) hx_2
        have hp_3 := s3 _ _ upd_same
        have f_3 := (f_2).trans (fr_same (S := [p]) s3)
        rw [if_neg (by decide), in_strs, show decide (("copy" : Str) ∈ (["rename", "drop"] : List Str)) = false by decide +kernel]
        refine iteF ?_
        refine ⟨_, rfl, rfl, _, rfl, iteF ?_⟩
        refine ⟨_, rfl, rfl, _, rfl, iteF ?_⟩
        refine ⟨_, rfl, rfl, _, rfl, iteF ?_⟩
        refine ⟨_, rfl, rfl, _, rfl, iteF ?_⟩
        refine ⟨_, rfl, rfl, _, rfl, iteF ?_⟩
        refine ⟨_, rfl, rfl, _, rfl, iteF ?_⟩
        have edo : upM mi n (some v) = doLead (dRec c) mi "copy" [.str o, .str n] := by
          show upM mi n (some v) = upM mi n (mi o)
          rw [hmv]
        rw [← edo] at fin
        exact ⟨⟨_, _, _, _, _, _, _, _, rfl⟩, fin _ (f_3) ⟨_, hp_3, Nat.le_trans l_2 (by omega), v_2⟩⟩
      · obtain ⟨d0, rfl⟩ := len1 (Option.some.inj hln).symm
        obtain ⟨x0, exs, t0⟩ := th1 hA2
        obtain rfl := List.tail_eq_of_cons_eq exs
        obtain ⟨hc, rfl⟩ := ifs (show dropB fsi d0 = some gi from hlead)
        obtain ⟨so, hso⟩ := Option.isSome_iff_exists.mp hc
        obtain ⟨o, rfl, ho⟩ := sortOf_of hso
        obtain rfl := t0.asStr
        obtain ⟨v, hmv, hk⟩ := hmi o so ho
        refine ⟨_, rfl, true, a2, _, 0, _, rfl, rfl, hx2, at0, ?_⟩
        refine ⟨_, rfl, by show 2 ≤ sizeLine; decide, fun st1 nst1 => ⟨st1, (["rename", "copy"] : List Str).map V.str, rfl, .inr (SqT.of upd_same), rfl, by decide +kernel, _, rfl, ?_⟩⟩
        have s1 := newS (o := .tup ((["rename", "copy"] : List Str).map V.str)) nst1
        have hx_1 := sq_frD hp (fr_same s1) hx2
        have hp_1 := s1 _ _ hp
        have f_1 := (Fr.refl).trans (fr_same (S := [p]) s1)
        rw [if_neg (by decide), in_strs, show decide (("drop" : Str) ∈ (["rename", "copy"] : List Str)) = false by decide +kernel]
        refine iteF ?_
        refine ⟨_, rfl, by show 2 ≤ sizeLine; decide, fun st2 nst2 => ⟨st2, (["rename", "drop"] : List Str).map V.str, rfl, .inr (SqT.of upd_same), rfl, by decide +kernel, _, rfl, ?_⟩⟩
        have s2 := newS (o := .tup ((["rename", "drop"] : List Str).map V.str)) nst2
        have hx_2 := sq_frD hp_1 (fr_same s2) hx_1
        have hp_2 := s2 _ _ hp_1
        have f_2 := (f_1).trans (fr_same (S := [p]) s2)
        rw [if_neg (by decide), in_strs, show decide (("drop" : Str) ∈ (["rename", "drop"] : List Str)) = true by decide +kernel]
        refine iteT ?_
        refine ⟨_, rfl, p, rfl, .inl ⟨_, .inl hp_2⟩, _, rfl, true, a2, _, 1, _, rfl, rfl, hx_2, rfl, _, Sum.inr o, vOf v, hp_2, rfl, by rw [hv o, hmv]; rfl, ?_⟩
        obtain ⟨l_3, v_3⟩ := drop_f lk hv o
        have f_3 := (f_2).trans (fr_upd (S := [p]) (p := p) (o := .dK (dropK kvs (Sum.inr o))) (by simp))
        refine ⟨_, rfl, rfl, _, rfl, iteF ?_⟩
        refine ⟨_, rfl, rfl, _, rfl, iteF ?_⟩
        refine ⟨_, rfl, rfl, _, rfl, iteF ?_⟩
        refine ⟨_, rfl, rfl, _, rfl, iteF ?_⟩
        refine ⟨_, rfl, rfl, _, rfl, iteF ?_⟩
        refine ⟨_, rfl, rfl, _, rfl, iteF ?_⟩
        have edo : upM mi o none = doLead (dRec c) mi "drop" [.str o] := by
          rfl
        rw [← edo] at fin
        exact ⟨⟨_, _, _, _, _, _, _, _, rfl⟩, fin _ (f_3) ⟨_, upd_same, Nat.le_trans l_3 (by omega), v_3⟩⟩
      · obtain ⟨d0, d1, d2, rfl⟩ := len3 (Option.some.inj hln).symm
        obtain ⟨x0, x1, x2, exs, t0, t1, t2⟩ := th3 hA2
        obtain rfl := List.tail_eq_of_cons_eq exs
        obtain ⟨hc, rfl⟩ := ifs (show putB fsi d0 d1 d2 = some gi from hlead)
        obtain ⟨c1, c2⟩ := (Bool.and_eq_true _ _).mp hc
        obtain ⟨c3, c4⟩ := (Bool.and_eq_true _ _).mp c2
        obtain ⟨n, rfl, hn⟩ := isNew_of c1
        obtain rfl := t0.asStr
        obtain rfl := th_val t2 c4
        refine ⟨_, rfl, true, a2, _, 0, _, rfl, rfl, hx2, at0, ?_⟩
        refine ⟨_, rfl, by show 2 ≤ sizeLine; decide, fun st1 nst1 => ⟨st1, (["rename", "copy"] : List Str).map V.str, rfl, .inr (SqT.of upd_same), rfl, by decide +kernel, _, rfl, ?_⟩⟩
        have s1 := newS (o := .tup ((["rename", "copy"] : List Str).map V.str)) nst1
        have hx_1 := sq_frD hp (fr_same s1) hx2
        have hp_1 := s1 _ _ hp
        have f_1 := (Fr.refl).trans (fr_same (S := [p]) s1)
        rw [if_neg (by decide), in_strs, show decide (("put" : Str) ∈ (["rename", "copy"] : List Str)) = false by decide +kernel]
        refine iteF ?_
        refine ⟨_, rfl, by show 2 ≤ sizeLine; decide, fun st2 nst2 => ⟨st2, (["rename", "drop"] : List Str).map V.str, rfl, .inr (SqT.of upd_same), rfl, by decide +kernel, _, rfl, ?_⟩⟩
        have s2 := newS (o := .tup ((["rename", "drop"] : List Str).map V.str)) nst2
        have hx_2 := sq_frD hp_1 (fr_same s2) hx_1
        have hp_2 := s2 _ _ hp_1
        have f_2 := (f_1).trans (fr_same (S := [p]) s2)
        rw [if_neg (by decide), in_strs, show decide (("put" : Str) ∈ (["rename", "drop"] : List Str)) = false by decide +kernel]
        refine iteF ?_
        refine ⟨_, rfl, rfl, _, rfl, iteT ?_⟩
        refine ⟨_, rfl, true, a2, _, 3, _, rfl, rfl, hx_2, rfl, _, rfl, _, rfl, true, a2, _, 1, _, rfl, rfl, hx_2, rfl, p, _, rfl, DPut.k (k := Sum.inr n) hp_2 (by omega), ?_⟩
        obtain ⟨l_4, v_4⟩ := put_f lk hv n d2
        have hx_4 := sq_frD hp_2 (fr_upd (S := [p]) (p := p) (o := .dK (putK kvs (Sum.inr n) (vOf d2))) (by simp)) hx_2
        have f_4 := (f_2).trans (fr_upd (S := [p]) (p := p) (o := .dK (putK kvs (Sum.inr n) (vOf d2))) (by simp))
        refine ⟨_, rfl, rfl, _, rfl, iteF ?_⟩
        refine ⟨_, rfl, rfl, _, rfl, iteF ?_⟩
        refine ⟨_, rfl, rfl, _, rfl, iteF ?_⟩
        refine ⟨_, rfl, rfl, _, rfl, iteF ?_⟩
        refine ⟨_, rfl, rfl, _, rfl, iteF ?_⟩
        have edo : upM mi n (some d2) = doLead (dRec c) mi "put" [.str n, d1, d2] := by
          rfl
        rw [← edo] at fin
        exact ⟨⟨_, _, _, _, _, _, _, _, rfl⟩, fin _ (f_4) ⟨_, upd_same, Nat.le_trans l_4 (by omega), v_4⟩⟩
      · obtain ⟨d0, d1, d2, rfl⟩ := len3 (Option.some.inj hln).symm
        obtain ⟨x0, x1, x2, exs, t0, t1, t2⟩ := th3 hA2
        obtain rfl := List.tail_eq_of_cons_eq exs
        obtain ⟨hc, rfl⟩ := ifs (show scaleB fsi d0 d1 d2 = some gi from hlead)
        obtain ⟨c1, c2⟩ := (Bool.and_eq_true _ _).mp hc
        obtain ⟨c3, c4⟩ := (Bool.and_eq_true _ _).mp c2
        obtain ⟨el, hel, hn⟩ := among_of c1
        obtain ⟨o, rfl, ho⟩ := sortOf_of hel
        obtain ⟨i1, rfl⟩ : ∃ i, d1 = .int i := by
          cases d1 <;> first | exact ⟨_, rfl⟩ | cases c3
        obtain ⟨i2, rfl⟩ : ∃ i, d2 = .int i := by
          cases d2 <;> first | exact ⟨_, rfl⟩ | cases c4
        obtain rfl := t0.asStr
        cases t1
        cases t2
        obtain ⟨v, hmv, hk⟩ := hmi o el ho
        obtain ⟨iv, rfl⟩ := vok_num hk hn
        have ht : i1.natAbs < 1073741824 := of_decide_eq_true (show decide (i1.natAbs < 1073741824) = true from htx)
        refine ⟨_, rfl, true, a2, _, 0, _, rfl, rfl, hx2, at0, ?_⟩
        refine ⟨_, rfl, by show 2 ≤ sizeLine; decide, fun st1 nst1 => ⟨st1, (["rename", "copy"] : List Str).map V.str, rfl, .inr (SqT.of upd_same), rfl, by decide +kernel, _, rfl, ?_⟩⟩
        have s1 := newS (o := .tup ((["rename", "copy"] : List Str).map V.str)) nst1
        have hx_1 := sq_frD hp (fr_same s1) hx2
        have hp_1 := s1 _ _ hp
        have f_1 := (Fr.refl).trans (fr_same (S := [p]) s1)
        rw [if_neg (by decide), in_strs, show decide (("scale" : Str) ∈ (["rename", "copy"] : List Str)) = false by decide +kernel]
        refine iteF ?_
        refine ⟨_, rfl, by show 2 ≤ sizeLine; decide, fun st2 nst2 => ⟨st2, (["rename", "drop"] : List Str).map V.str, rfl, .inr (SqT.of upd_same), rfl, by decide +kernel, _, rfl, ?_⟩⟩
        have s2 := newS (o := .tup ((["rename", "drop"] : List Str).map V.str)) nst2
        have hx_2 := sq_frD hp_1 (fr_same s2) hx_1
        have hp_2 := s2 _ _ hp_1
        have f_2 := (f_1).trans (fr_same (S := [p]) s2)
        rw [if_neg (by decide), in_strs, show decide (("scale" : Str) ∈ (["rename", "drop"] : List Str)) = false by decide +kernel]
        refine iteF ?_
        refine ⟨_, rfl, rfl, _, rfl, iteF ?_⟩
        refine ⟨_, rfl, rfl, _, rfl, iteT ?_⟩
        refine ⟨_, rfl, _, rfl, true, a2, _, 1, _, rfl, rfl, hx_2, rfl, p, _, rfl, dget_m hp_2 hv hmv, _, rfl, true, a2, _, 2, _, rfl, rfl, hx_2, rfl, iv, i1, rfl, rfl, .inr ⟨Int.lt_of_lt_of_le (show (-(2 : Int) ^ 64) < -1073741824 by decide) (by omega), Int.lt_of_le_of_lt (show i1 ≤ 1073741824 by omega) (by decide)⟩, _, rfl, true, a2, _, 3, _, rfl, rfl, hx_2, rfl, _, _, rfl, rfl, _, rfl, _, rfl, true, a2, _, 1, _, rfl, rfl, hx_2, rfl, p, _, rfl, DPut.k (k := Sum.inr o) hp_2 (by omega), ?_⟩
        obtain ⟨l_5, v_5⟩ := put_f lk hv o (.int (iv * i1 + i2))
        have hx_5 := sq_frD hp_2 (fr_upd (S := [p]) (p := p) (o := .dK (putK kvs (Sum.inr o) (vOf (.int (iv * i1 + i2))))) (by simp)) hx_2
        have f_5 := (f_2).trans (fr_upd (S := [p]) (p := p) (o := .dK (putK kvs (Sum.inr o) (vOf (.int (iv * i1 + i2))))) (by simp))
        refine ⟨_, rfl, rfl, _, rfl, iteF ?_⟩
        refine ⟨_, rfl, rfl, _, rfl, iteF ?_⟩
        refine ⟨_, rfl, rfl, _, rfl, iteF ?_⟩
        refine ⟨_, rfl, rfl, _, rfl, iteF ?_⟩
        have edo : upM mi o (some (.int (iv * i1 + i2))) = doLead (dRec c) mi "scale" [.str o, .int i1, .int i2] := by
          show _ = upM mi o (some (.int (intOf (valM mi (.str o)) * i1 + i2)))
          rw [valM_of hmv]
          rfl
        rw [← edo] at fin
        exact ⟨⟨_, _, _, _, _, _, _, _, rfl⟩, fin _ (f_5) ⟨_, upd_same, Nat.le_trans l_5 (by omega), v_5⟩⟩
      · obtain ⟨d0, d1, rfl⟩ := len2 (Option.some.inj hln).symm
        obtain ⟨x0, x1, exs, t0, t1⟩ := th2 hA2
        obtain rfl := List.tail_eq_of_cons_eq exs
        obtain ⟨hc, rfl⟩ := ifs (show sumB fsi d0 d1 = some gi from hlead)
        obtain ⟨c1, c2⟩ := (Bool.and_eq_true _ _).mp hc
        obtain ⟨n, rfl, hn⟩ := isNew_of c1
        obtain ⟨l, rfl⟩ : ∃ l, d1 = .tuple l := by
          cases d1 <;> first | exact ⟨_, rfl⟩ | cases c2
        replace c2 : ((decide (1 ≤ l.length) && decide (l.length ≤ 6)) && l.all fun f => amongB numsL (sortOf fsi f)) = true := c2
        rw [Bool.and_eq_true, Bool.and_eq_true] at c2
        have l6 := of_decide_eq_true c2.1.2
        obtain rfl := t0.asStr
        obtain ⟨a3, xs3, rfl, hx3, hA3⟩ := t1.asTup
        have lx3 := hA3.len
        refine ⟨_, rfl, true, a2, _, 0, _, rfl, rfl, hx2, at0, ?_⟩
        refine ⟨_, rfl, by show 2 ≤ sizeLine; decide, fun st1 nst1 => ⟨st1, (["rename", "copy"] : List Str).map V.str, rfl, .inr (SqT.of upd_same), rfl, by decide +kernel, _, rfl, ?_⟩⟩
        have s1 := newS (o := .tup ((["rename", "copy"] : List Str).map V.str)) nst1
        have hx_1 := sq_frD hp (fr_same s1) hx2
        have hp_1 := s1 _ _ hp
        have f_1 := (Fr.refl).trans (fr_same (S := [p]) s1)
        rw [if_neg (by decide), in_strs, show decide (("sum" : Str) ∈ (["rename", "copy"] : List Str)) = false by decide +kernel]
        refine iteF ?_
        refine ⟨_, rfl, by show 2 ≤ sizeLine; decide, fun st2 nst2 => ⟨st2, (["rename", "drop"] : List Str).map V.str, rfl, .inr (SqT.of upd_same), rfl, by decide +kernel, _, rfl, ?_⟩⟩
        have s2 := newS (o := .tup ((["rename", "drop"] : List Str).map V.str)) nst2
        have hx_2 := sq_frD hp_1 (fr_same s2) hx_1
        have hp_2 := s2 _ _ hp_1
        have f_2 := (f_1).trans (fr_same (S := [p]) s2)
        rw [if_neg (by decide), in_strs, show decide (("sum" : Str) ∈ (["rename", "drop"] : List Str)) = false by decide +kernel]
        refine iteF ?_
        refine ⟨_, rfl, rfl, _, rfl, iteF ?_⟩
        refine ⟨_, rfl, rfl, _, rfl, iteF ?_⟩
        refine ⟨_, rfl, rfl, _, rfl, iteT ?_⟩
        have hx3b := sq_frD hp (f_2) hx3
        refine ⟨_, rfl, true, a2, _, 2, _, rfl, rfl, hx_2, rfl, a3, rfl, ⟨_, hx3b⟩, fun D nD => ?_⟩
        have npD : p ≠ D := ne_of_none hp_2 nD
        refine lc_acc (walk_tup (K := K) (a := a3) (xs := xs3)) (fun i acc H2 => acc = ((l.take i).map fun f => V.int (intOf (valM mi f))) ∧ But D _ H2) ⟨rfl, But.refl.upd⟩ (fun i acc H2 _ ⟨_, b⟩ _ => Sq.same (t := true) hx3b (b.new nD)) ?_ ?_
        · rintro i x acc H4 H5 hi la ⟨rfl, b⟩ hD ⟨rfl, hxx⟩
          obtain ⟨dx, hdx, tx, mx⟩ := ThAll.get2 hA3 hxx
          obtain ⟨el, hel, hnn⟩ := among_of (List.all_eq_true.mp c2.2 dx mx)
          obtain ⟨o, rfl, ho⟩ := sortOf_of hel
          obtain rfl := tx.asStr
          obtain ⟨v, hmv, hk⟩ := hmi o el ho
          obtain ⟨iv, rfl⟩ := vok_num hk hnn
          refine ⟨rfl, _, rfl, _, rfl, p, _, rfl, dget_m (b.new nD _ _ hp_2) hv hmv, push hD la (by omega) ⟨?_, b.upd⟩⟩
          rw [List.take_succ, hdx]
          show _ = ((l.take i) ++ [PyData.str o]).map _
          rw [List.map_append]
          show _ = _ ++ [V.int (intOf (valM mi (.str o)))]
          rw [valM_of hmv]
          rfl
        rintro acc H4 la ⟨rfl, b⟩ hD
        rw [lx3, List.take_length] at hD
        have sD := b.new nD
        have hpD := sD _ _ hp_2
        have hxD := sq_frD hp_2 (fr_same sD) hx_2
        have fD := (f_2).trans (fr_same (S := [p]) sD)
        refine ⟨D, l.map (fun f => intOf (valM mi f)), rfl, SqL.of (by rw [List.map_map]; exact hD), _, rfl, _, rfl, true, a2, _, 1, _, rfl, rfl, hxD, rfl, p, _, rfl, DPut.k (k := Sum.inr n) hpD (by omega), ?_⟩
        obtain ⟨l_6, v_6⟩ := put_f lk hv n (.int (sumM mi l))
        have hx_6 := sq_frD hpD (fr_upd (S := [p]) (p := p) (o := .dK (putK kvs (Sum.inr n) (vOf (.int (sumM mi l))))) (by simp)) hxD
        have f_6 := (fD).trans (fr_upd (S := [p]) (p := p) (o := .dK (putK kvs (Sum.inr n) (vOf (.int (sumM mi l))))) (by simp))
        refine ⟨_, rfl, rfl, _, rfl, iteF ?_⟩
        refine ⟨_, rfl, rfl, _, rfl, iteF ?_⟩
        refine ⟨_, rfl, rfl, _, rfl, iteF ?_⟩
        have edo : upM mi n (some (.int (sumM mi l))) = doLead (dRec c) mi "sum" [.str n, .tuple l] := by
          rfl
        rw [← edo] at fin
        exact ⟨⟨_, _, _, _, _, _, _, _, rfl⟩, fin _ (f_6) ⟨_, upd_same, Nat.le_trans l_6 (by omega), v_6⟩⟩
      · obtain ⟨d0, d1, rfl⟩ := len2 (Option.some.inj hln).symm
        obtain ⟨x0, x1, exs, t0, t1⟩ := th2 hA2
        obtain rfl := List.tail_eq_of_cons_eq exs
        obtain ⟨hc, rfl⟩ := ifs (show joinB fsi d0 d1 = some gi from hlead)
        obtain ⟨c1, c2⟩ := (Bool.and_eq_true _ _).mp hc
        obtain ⟨n, rfl, hn⟩ := isNew_of c1
        obtain ⟨l, rfl⟩ : ∃ l, d1 = .tuple l := by
          cases d1 <;> first | exact ⟨_, rfl⟩ | cases c2
        replace c2 : ((decide (1 ≤ l.length) && decide (l.length ≤ 8)) && l.all (partB fsi)) = true := c2
        rw [Bool.and_eq_true, Bool.and_eq_true] at c2
        have l8 := of_decide_eq_true c2.1.2
        have hl8 : max Li (l.map (partLen Li)).sum ≤ 16000000 := lge
        have jj := joinM_ok (fun d hd => List.all_eq_true.mp c2.2 d hd) hmi
        obtain rfl := t0.asStr
        obtain ⟨a3, xs3, rfl, hx3, hA3⟩ := t1.asTup
        have lx3 := hA3.len
        refine ⟨_, rfl, true, a2, _, 0, _, rfl, rfl, hx2, at0, ?_⟩
        refine ⟨_, rfl, by show 2 ≤ sizeLine; decide, fun st1 nst1 => ⟨st1, (["rename", "copy"] : List Str).map V.str, rfl, .inr (SqT.of upd_same), rfl, by decide +kernel, _, rfl, ?_⟩⟩
        have s1 := newS (o := .tup ((["rename", "copy"] : List Str).map V.str)) nst1
        have hx_1 := sq_frD hp (fr_same s1) hx2
        have hp_1 := s1 _ _ hp
        have f_1 := (Fr.refl).trans (fr_same (S := [p]) s1)
        rw [if_neg (by decide), in_strs, show decide (("join" : Str) ∈ (["rename", "copy"] : List Str)) = false by decide +kernel]
        refine iteF ?_
        refine ⟨_, rfl, by show 2 ≤ sizeLine; decide, fun st2 nst2 => ⟨st2, (["rename", "drop"] : List Str).map V.str, rfl, .inr (SqT.of upd_same), rfl, by decide +kernel, _, rfl, ?_⟩⟩
        have s2 := newS (o := .tup ((["rename", "drop"] : List Str).map V.str)) nst2
        have hx_2 := sq_frD hp_1 (fr_same s2) hx_1
        have hp_2 := s2 _ _ hp_1
        have f_2 := (f_1).trans (fr_same (S := [p]) s2)
        rw [if_neg (by decide), in_strs, show decide (("join" : Str) ∈ (["rename", "drop"] : List Str)) = false by decide +kernel]
        refine iteF ?_
        refine ⟨_, rfl, rfl, _, rfl, iteF ?_⟩
        refine ⟨_, rfl, rfl, _, rfl, iteF ?_⟩
        refine ⟨_, rfl, rfl, _, rfl, iteF ?_⟩
        refine ⟨_, rfl, rfl, _, rfl, iteT ?_⟩
        have pd1 : Pu false (.tuple l) := pdx.mem _ (by simp)
        have hx3b := sq_frD hp (f_2) hx3
        refine ⟨⟨_, rfl⟩, _, rfl, true, a2, _, 2, _, rfl, rfl, hx_2, rfl, a3, rfl, ⟨_, hx3b⟩, fun D nD => ?_⟩
        have npD : p ≠ D := ne_of_none hp_2 nD
        refine lc_acc (walk_tup (K := K) (a := a3) (xs := xs3)) (fun i acc H2 => acc = ((l.take i).map fun f => V.str (partM mi f)) ∧ But D _ H2) ⟨rfl, But.refl.upd⟩ (fun i acc H2 _ ⟨_, b⟩ _ => Sq.same (t := true) hx3b (b.new nD)) ?_ ?_
        · rintro i x acc H4 H5 hi la ⟨rfl, b⟩ hD ⟨rfl, hxx⟩
          obtain ⟨dx, hdx, tx, mx⟩ := ThAll.get2 (thAll_frD hp (f_2) hA3 pd1.mem) hxx
          have sb := b.new nD
          have hstep : ∀ y : Str, y = partM mi dx → ((l.take (i + 1)).map fun f => V.str (partM mi f)) = ((l.take i).map fun f => V.str (partM mi f)) ++ [V.str y] := fun y ey => by
            rw [List.take_succ, hdx]
            show ((l.take i) ++ [dx]).map _ = _
            rw [List.map_append, ey]
            rfl
          rcases part_of (List.all_eq_true.mp c2.2 dx mx) hmi with ⟨z, rfl, lz, az⟩ | ⟨o, z, rfl, hmv, lz, az⟩
          · obtain ⟨pz, zs, rfl, hpz, hZ⟩ := tx.asTup
            obtain ⟨y0, y1, rfl, u0, u1⟩ := thAll2 hZ
            obtain rfl := u0.asStr
            obtain rfl := u1.asStr
            refine ⟨pz, _, rfl, Sq.same (t := true) hpz sb, rfl, _, _, rfl, _, _, rfl, rfl, rfl, ?_⟩
            exact ⟨_, rfl, rfl, _, rfl, iteT ⟨_, rfl, push hD la (by omega) ⟨(hstep z rfl).symm, b.upd⟩⟩⟩
          · obtain ⟨pz, zs, rfl, hpz, hZ⟩ := tx.asTup
            obtain ⟨y0, y1, rfl, u0, u1⟩ := thAll2 hZ
            obtain rfl := u0.asStr
            obtain rfl := u1.asStr
            refine ⟨pz, _, rfl, Sq.same (t := true) hpz sb, rfl, _, _, rfl, _, _, rfl, rfl, rfl, ?_⟩
            have ez : z = partM mi (.tuple [.str "field", .str o]) := by
              show z = txtOf (valM mi (.str o))
              rw [valM_of hmv]
              rfl
            exact ⟨_, rfl, rfl, _, rfl, iteF ⟨_, rfl, _, rfl, p, _, rfl, dget_m (sb _ _ hp_2) hv hmv, push hD la (by omega) ⟨(hstep z ez).symm, b.upd⟩⟩⟩
        rintro acc H4 la ⟨rfl, b⟩ hD
        rw [lx3, List.take_length] at hD
        have sD := b.new nD
        have hpD := sD _ _ hp_2
        have hxD := sq_frD hp_2 (fr_same sD) hx_2
        have fD := (f_2).trans (fr_same (S := [p]) sD)
        have el : ((l.map (partM mi)).map (·.length)).sum + (l.map (partM mi)).length * (Str.ofString "").length = (joinM mi l).length := by
          have e0 : (Str.ofString "").length = 0 := by decide +kernel
          rw [e0, Nat.mul_zero, Nat.add_zero]
          exact (join_facts fun z hz => by
            obtain ⟨d, hd, rfl⟩ := List.mem_map.mp hz
            exact (part_len (List.all_eq_true.mp c2.2 d hd) hmi).2).2.symm
        refine ⟨_, D, l.map (partM mi), rfl, rfl, .inl (SqL.of (by rw [List.map_map]; exact hD)), by rw [el]; omega, _, rfl, _, rfl, true, a2, _, 1, _, rfl, rfl, hxD, rfl, p, _, rfl, DPut.k (k := Sum.inr n) hpD (by omega), ?_⟩
        obtain ⟨l_7, v_7⟩ := put_f lk hv n (.str (joinM mi l))
        have hx_7 := sq_frD hpD (fr_upd (S := [p]) (p := p) (o := .dK (putK kvs (Sum.inr n) (vOf (.str (joinM mi l))))) (by simp)) hxD
        have f_7 := (fD).trans (fr_upd (S := [p]) (p := p) (o := .dK (putK kvs (Sum.inr n) (vOf (.str (joinM mi l))))) (by simp))
        refine ⟨_, rfl, rfl, _, rfl, iteF ?_⟩
        refine ⟨_, rfl, rfl, _, rfl, iteF ?_⟩
        have edo : upM mi n (some (.str (joinM mi l))) = doLead (dRec c) mi "join" [.str n, .tuple l] := by
          rfl
        rw [← edo] at fin
        exact ⟨⟨_, _, _, _, _, _, _, _, rfl⟩, fin _ (f_7) ⟨_, upd_same, Nat.le_trans l_7 (by omega), v_7⟩⟩
      · obtain ⟨d0, d1, d2, d3, rfl⟩ := len4 (Option.some.inj hln).symm
        obtain ⟨x0, x1, x2, x3, exs, t0, t1, t2, t3⟩ := th4 hA2
        obtain rfl := List.tail_eq_of_cons_eq exs
        replace hlead : tableB fsi d0 d1 d2 d3 = some gi := hlead
        unfold tableB at hlead
        obtain ⟨el, hel⟩ : ∃ el, sortOf fsi d0 = some el := by
          cases ho : sortOf fsi d0 with
          | none =>
            rw [ho] at hlead
            cases hlead
          | some el => exact ⟨el, rfl⟩
        rw [hel] at hlead
        obtain ⟨hc, rfl⟩ := ifs hlead
        obtain ⟨c1, c2⟩ := (Bool.and_eq_true _ _).mp hc
        obtain ⟨c3, c4⟩ := (Bool.and_eq_true _ _).mp c1
        obtain ⟨c5, c6⟩ := (Bool.and_eq_true _ _).mp c3
        obtain ⟨c7, c8⟩ := (Bool.and_eq_true _ _).mp c2
        obtain ⟨o, rfl, ho⟩ := sortOf_of hel
        obtain ⟨so, rfl⟩ : ∃ z, d1 = .str z := by
          cases d1 <;> first | exact ⟨_, rfl⟩ | cases c6
        have hel : el ∈ sorts := hfi.get ho
        obtain ⟨l, rfl⟩ : ∃ l, d2 = .tuple l := by
          cases d2 <;> first | exact ⟨_, rfl⟩ | cases c7
        have c7' : ((decide (l.length ≤ 4) && l.all (rowB el so)) && decide ((l.map keyOf).Nodup)) = true := c7
        rw [Bool.and_eq_true, Bool.and_eq_true] at c7'
        have rowsOk := List.all_eq_true.mp c7'.1.2
        have l4 := of_decide_eq_true c7'.1.1
        obtain rfl := t0.asStr
        obtain ⟨a3, xs3, rfl, hx3, hA3⟩ := t2.asTup
        have lx3 := hA3.len
        obtain ⟨v, hmv, hk⟩ := hmi o el ho
        have hdo1 : doLead (dRec c) mi "table" [.str o, .str so, .tuple l, d3] = upM mi o (some (tabM v l d3)) := by
          show upM mi o (some (tabM (valM mi (.str o)) l d3)) = _
          rw [valM_of hmv]
        rw [hdo1] at fin
        refine ⟨_, rfl, true, a2, _, 0, _, rfl, rfl, hx2, at0, ?_⟩
        refine ⟨_, rfl, by show 2 ≤ sizeLine; decide, fun st1 nst1 => ⟨st1, (["rename", "copy"] : List Str).map V.str, rfl, .inr (SqT.of upd_same), rfl, by decide +kernel, _, rfl, ?_⟩⟩
        have s1 := newS (o := .tup ((["rename", "copy"] : List Str).map V.str)) nst1
        have hx_1 := sq_frD hp (fr_same s1) hx2
        have hp_1 := s1 _ _ hp
        have f_1 := (Fr.refl).trans (fr_same (S := [p]) s1)
        rw [if_neg (by decide), in_strs, show decide (("table" : Str) ∈ (["rename", "copy"] : List Str)) = false by decide +kernel]
        refine iteF ?_
        refine ⟨_, rfl, by show 2 ≤ sizeLine; decide, fun st2 nst2 => ⟨st2, (["rename", "drop"] : List Str).map V.str, rfl, .inr (SqT.of upd_same), rfl, by decide +kernel, _, rfl, ?_⟩⟩
        have s2 := newS (o := .tup ((["rename", "drop"] : List Str).map V.str)) nst2
        have hx_2 := sq_frD hp_1 (fr_same s2) hx_1
        have hp_2 := s2 _ _ hp_1
        have f_2 := (f_1).trans (fr_same (S := [p]) s2)
        rw [if_neg (by decide), in_strs, show decide (("table" : Str) ∈ (["rename", "drop"] : List Str)) = false by decide +kernel]
        refine iteF ?_
        refine ⟨_, rfl, rfl, _, rfl, iteF ?_⟩
        refine ⟨_, rfl, rfl, _, rfl, iteF ?_⟩
        refine ⟨_, rfl, rfl, _, rfl, iteF ?_⟩
        refine ⟨_, rfl, rfl, _, rfl, iteF ?_⟩
        refine ⟨_, rfl, rfl, _, rfl, iteT ?_⟩
        have pd2 : Pu false (.tuple l) := pdx.mem _ (by simp)
        have hx3b := sq_frD hp (f_2) hx3
        have hA3b := thAll_frD hp (f_2) hA3 pd2.mem
        have t3b := th_frD hp (f_2) t3 (pdx.mem _ (by simp))
        refine ⟨_, rfl, true, a2, _, 3, _, rfl, rfl, hx_2, rfl, a3, rfl, ⟨_, hx3b⟩, fun D nD => ?_⟩
        have npD : p ≠ D := ne_of_none hp_2 nD
        refine lc_it (walk_tup (K := K) (a := a3) (xs := xs3)) (fun i H2 => But D _ H2 ∧ H2 D = some (.lst (((l.take i).filter fun r => eqP v (firstOf r)).map fun r => vOf (secondOf r)))) ⟨But.refl.upd, upd_same⟩ (fun i H2 _ ⟨b, _⟩ => Sq.same (t := true) hx3b (b.new nD)) ?_ ?_
        · rintro i x H4 H5 hi ⟨b, hD⟩ ⟨rfl, hxx⟩
          obtain ⟨dx, hdx, tx, mx⟩ := ThAll.get2 hA3b hxx
          have sb := b.new nD
          obtain ⟨u, w, rfl, hu1, hw⟩ := row_of (rowsOk dx mx)
          obtain ⟨pz, zs, rfl, hpz, hZ⟩ := tx.asTup
          obtain ⟨z0, z1, rfl, u0, u1⟩ := thAll2 hZ
          obtain rfl := th_val u0 hu1
          obtain rfl := th_val u1 hw
          obtain ⟨ed, es⟩ := eqP_dec2 hk hel hu1
          have lfl : (((l.take i).filter fun r => eqP v (firstOf r)).map fun r => vOf (secondOf r)).length ≤ i := by
            rw [List.length_map]
            exact Nat.le_trans (List.length_filter_le _ _) (by rw [List.length_take]; omega)
          refine ⟨pz, _, rfl, Sq.same (t := true) hpz sb, rfl, _, _, rfl, _, _, rfl, rfl, rfl, ?_⟩
          refine ⟨_, rfl, _, rfl, _, rfl, true, a2, _, 1, _, rfl, rfl, Sq.same (t := true) hx_2 sb, rfl, p, _, rfl, dget_m (sb _ _ hp_2) hv hmv, es, _, rfl, ?_⟩
          rw [ed]
          have eap : ∀ b, eqP v u = b → ((l.take (i + 1)).filter fun r => eqP v (firstOf r)) = ((l.take i).filter fun r => eqP v (firstOf r)) ++ (if b = true then [.tuple [u, w]] else []) := fun b hb => by
            rw [List.take_succ, hdx, List.filter_append]
            show _ ++ ([PyData.tuple [u, w]].filter fun r => eqP v (firstOf r)) = _
            cases b with
            | true =>
              rw [List.filter_cons_of_pos (p := fun r => eqP v (firstOf r)) (a := .tuple [u, w]) hb]
              rfl
            | false =>
              rw [List.filter_cons_of_neg (p := fun r => eqP v (firstOf r)) (a := .tuple [u, w]) (by show ¬ eqP v u = true; rw [hb]; decide)]
              rfl
          cases e : eqP v u with
          | true =>
            refine iteT ⟨_, rfl, _, hD, by omega, b.upd, ?_⟩
            rw [upd_same, eap true e, List.map_append]
            rfl
          | false =>
            refine iteF ⟨b, ?_⟩
            rw [eap false e, if_neg (by decide), List.append_nil]
            exact hD
        rintro H4 ⟨b, hD⟩
        rw [lx3, List.take_length] at hD
        have sD := b.new nD
        have hpD := sD _ _ hp_2
        have hxD := sq_frD hp_2 (fr_same sD) hx_2
        have fD := (f_2).trans (fr_same (S := [p]) sD)
        have t3D := t3b.kept (kept_same sD)
        have lfl : ((l.filter fun r => eqP v (firstOf r)).map fun r => vOf (secondOf r)).length ≤ 4 := by
          rw [List.length_map]
          exact Nat.le_trans (List.length_filter_le _ _) l4
        have hc8 := other_cases c8 v
        obtain ⟨rr, hrr⟩ := tab_head v l d3
        have edo : upM mi o (some (tabM v l d3)) = upM mi o (some (tabM v l d3)) := rfl
        rcases hc8 with ⟨rfl, eo⟩ | ⟨y, rfl, eo, hoy⟩
        · cases t3D
          refine ⟨_, rfl, _, rfl, true, a2, _, 4, _, rfl, rfl, hxD, rfl, rfl, _, rfl, iteT ⟨_, rfl, _, rfl, true, a2, _, 1, _, rfl, rfl, hxD, rfl, p, _, rfl, dget_m hpD hv hmv, by show 1 ≤ sizeLine; decide, fun LL nLL => ?_⟩⟩
          have s5 := newS (o := .lst [vOf v]) nLL
          rw [eo] at hrr
          refine ⟨D, LL, _, _, rfl, rfl, s5 _ _ hD, upd_same, by rw [hs]; show _ + 1 ≤ _; omega, fun pl npl => ?_⟩
          rw [hrr]
          have s6 := newS (o := .lst (vOf (tabM v l .none) :: rr)) npl
          have s56 := s5.trans s6
          have hp6 := s56 _ _ hpD
          have hx6 := sq_frD hpD (fr_same s56) hxD
          refine ⟨_, rfl, pl, _, 0, _, rfl, rfl, SqL.of upd_same, at0, _, rfl, _, rfl, true, a2, _, 1, _, rfl, rfl, hx6, rfl, p, _, rfl, DPut.k (k := Sum.inr o) hp6 (by omega), ?_⟩
          refine ⟨_, rfl, rfl, _, rfl, iteF ?_⟩
          obtain ⟨l_9, v_9⟩ := put_f lk hv o (tabM v l .none)
          exact ⟨⟨_, _, _, _, _, _, _, _, rfl⟩, fin _ (fD.trans ((fr_same s56).trans (fr_upd (by simp)))) ⟨_, upd_same, Nat.le_trans l_9 (by omega), v_9⟩⟩
        · obtain ⟨a4, xs4, rfl, hx4, hA4⟩ := t3D.asTup
          obtain ⟨w4, r4, rfl, tw4, hr4⟩ := hA4.cons_of
          obtain rfl := hr4.nil_of
          obtain rfl := th_val tw4 hoy
          refine ⟨_, rfl, _, rfl, true, a2, _, 4, _, rfl, rfl, hxD, rfl, rfl, _, rfl, iteF ⟨_, rfl, true, a2, _, 4, _, rfl, rfl, hxD, rfl, a4, _, rfl, .inr hx4, fun LL nLL => ?_⟩⟩
          have s5 := newS (o := .lst [vOf y]) nLL
          rw [eo] at hrr
          refine ⟨D, LL, _, _, rfl, rfl, s5 _ _ hD, upd_same, by rw [hs]; show _ + 1 ≤ _; omega, fun pl npl => ?_⟩
          rw [hrr]
          have s6 := newS (o := .lst (vOf (tabM v l (.tuple [y])) :: rr)) npl
          have s56 := s5.trans s6
          have hp6 := s56 _ _ hpD
          have hx6 := sq_frD hpD (fr_same s56) hxD
          refine ⟨_, rfl, pl, _, 0, _, rfl, rfl, SqL.of upd_same, at0, _, rfl, _, rfl, true, a2, _, 1, _, rfl, rfl, hx6, rfl, p, _, rfl, DPut.k (k := Sum.inr o) hp6 (by omega), ?_⟩
          refine ⟨_, rfl, rfl, _, rfl, iteF ?_⟩
          obtain ⟨l_9, v_9⟩ := put_f lk hv o (tabM v l (.tuple [y]))
          exact ⟨⟨_, _, _, _, _, _, _, _, rfl⟩, fin _ (fD.trans ((fr_same s56).trans (fr_upd (by simp)))) ⟨_, upd_same, Nat.le_trans l_9 (by omega), v_9⟩⟩
      · obtain ⟨d0, d1, d2, d3, rfl⟩ := len4 (Option.some.inj hln).symm
        obtain ⟨x0, x1, x2, x3, exs, t0, t1, t2, t3⟩ := th4 hA2
        obtain rfl := List.tail_eq_of_cons_eq exs
        obtain ⟨el, x, y, hel, hte, hval, hy, hn⟩ : ∃ el x y, sortOf fsi d0 = some el ∧ el ∈ testL ∧ ofSort el d1 = true ∧ recOf c fsi d2 = .ok x ∧ recOf c fsi d3 = .ok y := by
          replace hlead : caseB (recOf c) fsi d0 d1 d2 d3 = some gi := hlead
          unfold caseB at hlead
          cases ho : sortOf fsi d0 with
          | none =>
            rw [ho] at hlead
            cases hlead
          | some el =>
            rw [ho] at hlead
            dsimp only at hlead
            by_cases k : (decide (el ∈ testL) && ofSort el d1) = true
            · rw [if_pos k] at hlead
              rw [Bool.and_eq_true] at k
              cases hy : recOf c fsi d2 with
              | error n =>
                rw [hy] at hlead
                cases hlead
              | ok x =>
                cases hn : recOf c fsi d3 with
                | error n =>
                  rw [hy, hn] at hlead
                  cases hlead
                | ok y => exact ⟨el, x, y, rfl, of_decide_eq_true k.1, k.2, rfl, rfl⟩
            · rw [if_neg k] at hlead
              cases hlead
        cases c with
        | zero => cases hy
        | succ c =>
        obtain ⟨o, rfl, ho⟩ := sortOf_of hel
        have hso : el ∈ sorts := hfi.get ho
        obtain rfl := t0.asStr
        obtain rfl := th_val t1 hval
        obtain ⟨v, hmv, hk⟩ := hmi o el ho
        obtain ⟨ed, es⟩ := eqP_dec hk hso hval
        have gsz : growS (c + 1) (.tuple [.str "case", .str o, d1, d2, d3]) = 1 + (growB c (.str "case") + (growB c (.str o) + (growB c d1 + (growB c d2 + (growB c d3 + 0))))) := rfl
        have hl2 : max (lngB c Li d2) (lngB c Li d3) ≤ 16000000 := lge
        have htm2 : (tmB c d2 && tmB c d3) = true := htx
        rw [Bool.and_eq_true] at htm2
        have pm : ∀ z ∈ [PyData.str "case", .str o, d1, d2, d3], Pu false z := pdx.mem
        have hdo1 : doLead (dRec (c + 1)) mi "case" [.str o, d1, d2, d3] = if eqP v d1 = true then doB c mi d2 else doB c mi d3 := by
          show (if eqP (valM mi (.str o)) d1 = true then doB c mi d2 else doB c mi d3) = _
          rw [valM_of hmv]
        rw [hdo1] at fin
        refine ⟨_, rfl, true, a2, _, 0, _, rfl, rfl, hx2, at0, ?_⟩
        refine ⟨_, rfl, by show 2 ≤ sizeLine; decide, fun st1 nst1 => ⟨st1, (["rename", "copy"] : List Str).map V.str, rfl, .inr (SqT.of upd_same), rfl, by decide +kernel, _, rfl, ?_⟩⟩
        have s1 := newS (o := .tup ((["rename", "copy"] : List Str).map V.str)) nst1
        have hx_1 := sq_frD hp (fr_same s1) hx2
        have hp_1 := s1 _ _ hp
        have f_1 := (Fr.refl).trans (fr_same (S := [p]) s1)
        rw [if_neg (by decide), in_strs, show decide (("case" : Str) ∈ (["rename", "copy"] : List Str)) = false by decide +kernel]
        refine iteF ?_
        refine ⟨_, rfl, by show 2 ≤ sizeLine; decide, fun st2 nst2 => ⟨st2, (["rename", "drop"] : List Str).map V.str, rfl, .inr (SqT.of upd_same), rfl, by decide +kernel, _, rfl, ?_⟩⟩
        have s2 := newS (o := .tup ((["rename", "drop"] : List Str).map V.str)) nst2
        have hx_2 := sq_frD hp_1 (fr_same s2) hx_1
        have hp_2 := s2 _ _ hp_1
        have f_2 := (f_1).trans (fr_same (S := [p]) s2)
        rw [if_neg (by decide), in_strs, show decide (("case" : Str) ∈ (["rename", "drop"] : List Str)) = false by decide +kernel]
        refine iteF ?_
        refine ⟨_, rfl, rfl, _, rfl, iteF ?_⟩
        refine ⟨_, rfl, rfl, _, rfl, iteF ?_⟩
        refine ⟨_, rfl, rfl, _, rfl, iteF ?_⟩
        refine ⟨_, rfl, rfl, _, rfl, iteF ?_⟩
        refine ⟨_, rfl, rfl, _, rfl, iteF ?_⟩
        refine ⟨_, rfl, rfl, _, rfl, iteT ?_⟩
        refine ⟨_, rfl, _, rfl, _, rfl, true, a2, _, 1, _, rfl, rfl, hx_2, rfl, p, _, rfl, dget_m hp_2 hv hmv, _, rfl, true, a2, _, 2, _, rfl, rfl, hx_2, rfl, es, _, rfl, ?_⟩
        rw [ed]
        have hM2 : HeldM _ p mi Bi := ⟨kvs, hp_2, lk, hv⟩
        cases e : eqP v d1 with
        | true =>
          rw [e, if_pos rfl] at fin
          refine iteT ⟨_, rfl, true, a2, _, 3, _, rfl, rfl, hx_2, rfl, c, rfl, p, _, d2, mi, fsi, x, Li, Bi, rfl, th_frD hp (f_2) t2 (pm _ (by simp)), pm _ (by simp), hM2, by omega, hy, hfi, hmi, hLi, by omega, htm2.1, fun H2 f2 hM' => ?_⟩
          exact ⟨⟨_, _, _, _, _, _, _, _, rfl⟩, fin H2 ((f_2).trans f2) (hM'.mono (by omega))⟩
        | false =>
          rw [e, if_neg (by decide)] at fin
          refine iteF ⟨_, rfl, true, a2, _, 4, _, rfl, rfl, hx_2, rfl, c, rfl, p, _, d3, mi, fsi, y, Li, Bi, rfl, th_frD hp (f_2) t3 (pm _ (by simp)), pm _ (by simp), hM2, by omega, hn, hfi, hmi, hLi, by omega, htm2.2, fun H2 f2 hM' => ?_⟩
          exact ⟨⟨_, _, _, _, _, _, _, _, rfl⟩, fin H2 ((f_2).trans f2) (hM'.mono (by omega))⟩
    · rintro σ' H' ⟨⟨y2, y3, y4, y5, y6, y7, y8, y9, rfl⟩, f, mi, fsi, Li, Bi, hMi, hBi, hgo, hfi, hmi, hLi, hli, hdo⟩
      rw [lx, List.drop_length] at hdo hBi
      obtain rfl : mi = doGo (doS (dRec c)) m ds := hdo
      exact ⟨_, rfl, q H' f (hMi.mono (by simpa using hBi))⟩
end
end St6

set_option autoImplicit false
set_option maxHeartbeats 4000000
namespace St6
open PySem PySem.Spec PyProof.Rows L2 Tg Cc Nn TL
/-! the law's own done -/

theorem ok_ldo {P : Program} {w : World} {K : PySem.W.Frag} {mg : Str → Option Value} {base : Heap} {f : Addr} {fd : FuncData} (F : FnP K "_law_do" sLawDo f fd) (m_ : mg "_law_do" = some (.ref f)) (b_ : Binds K fd ["cells", "steps"] []) (h1 : mg "sum" = none) (h2 : mg "list" = none) : ∀ c, FnOk P w K mg base CX0 (1 + c + 1) f fd ["cells", "steps"] (spLDo K c)
  | 0 => ok_ldoS (c := 0) F ⟨fn_sub fun vs H Q E ⟨m', e, _⟩ => by omega, m_, F.kp, b_⟩ h1 h2
  | c + 1 => ok_ldoS (c := c + 1) F ⟨(ok_ldo F m_ b_ h1 h2 c).imp fun vs H Q E ⟨m', e, h⟩ => by
      obtain rfl : c = m' := by omega
      exact h, m_, F.kp, b_⟩ h1 h2
def kvsV : Fs → List PyData → List (Key × V)
  | g :: r, d :: ds => (Sum.inr g.1, vOf d) :: kvsV r ds
  | _, _ => []
theorem kvsV_snoc : ∀ {fs : Fs} {ds : List PyData} {g : Str × Str} {d : PyData}, fs.length = ds.length → kvsV (fs ++ [g]) (ds ++ [d]) = kvsV fs ds ++ [(Sum.inr g.1, vOf d)]
  | [], [], _, _, _ => rfl
  | x :: r, y :: ds, g, d, h => by
    show _ :: kvsV (r ++ [g]) (ds ++ [d]) = _ :: (kvsV r ds ++ _)
    rw [kvsV_snoc (by simpa using h)]
  | [], _ :: _, _, _, h => by simp at h
  | _ :: _, [], _, _, h => by simp at h
theorem kvsV_len : ∀ {fs : Fs} {ds : List PyData}, fs.length = ds.length → (kvsV fs ds).length = fs.length
  | [], [], _ => rfl
  | x :: r, y :: ds, h => by
    show (kvsV r ds).length + 1 = r.length + 1
    rw [kvsV_len (by simpa using h)]
  | [], _ :: _, h => by simp at h
  | _ :: _, [], h => by simp at h
theorem merge_v : ∀ {fs : Fs} {ds : List PyData} {acc : List (Key × V)} {m : Mv}, fs.length = ds.length → (fs.map Prod.fst).Nodup → (∀ z, valV acc (Sum.inr z) = (m z).map vOf) → ∀ z, valV (mergeK acc (kvsV fs ds)) (Sum.inr z) = ((mOf fs ds z).or (m z)).map vOf
  | [], [], acc, m, _, _, h, z => h z
  | g :: r, d :: ds, acc, m, hl, nd, h, z => by
    rw [List.map_cons, List.nodup_cons] at nd
    have h2 : ∀ z, valV (putK acc (Sum.inr g.1) (vOf d)) (Sum.inr z) = (upM m g.1 (some d) z).map vOf := fun z => by
      rw [valV_put]
      unfold upM
      by_cases e : z = g.1
      · rw [if_pos (congrArg Sum.inr e), if_pos e]
        rfl
      · rw [if_neg (fun h => e (Sum.inr.inj h)), if_neg e]
        exact h z
    have ih := merge_v (fs := r) (ds := ds) (by simpa using hl) nd.2 h2 z
    show valV (mergeK (putK acc (Sum.inr g.1) (vOf d)) (kvsV r ds)) (Sum.inr z) = ((if g.1 = z then some d else mOf r ds z).or (m z)).map vOf
    rw [ih]
    unfold upM
    by_cases e : g.1 = z
    · rw [if_pos e, if_pos e.symm, mOf_none (by rw [← e]; exact nd.1)]
      rfl
    · rw [if_neg e, if_neg (fun h => e h.symm)]
  | [], _ :: _, _, _, h, _, _, _ => by simp at h
  | _ :: _, [], _, _, h, _, _, _ => by simp at h
def spLDone (K : PySem.W.Frag) (c : Nat) : Sp := fun vs H Q _ => ∃ u fs v d w Ds gs L, vs = [u, v, w] ∧ Fm K H u fs ∧ FOk fs ∧ Th K H v d ∧ Pu false d ∧ Th K H w (.tuple Ds) ∧ Ds.length = fs.length ∧ (∀ D ∈ Ds, ∃ L s, VOk L s D) ∧ MOk L fs (mOf fs Ds) ∧ Bd 1000 (2 * c + 1) d ∧ fs.length + growB c d ≤ 900000 ∧ stepsB c fs d = .ok gs ∧ gs.length ≤ 100 ∧ 40 ≤ L ∧ lngB c L d ≤ 16000000 ∧ tmB c d = true ∧
  ∀ H' q, Same H H' → Th K H' (.ref q) (.tuple (gs.map fun g => valM (doB c (mOf fs Ds) d) (.str g.1))) → Q (.ref q) H'
theorem paired_of {H : Hp} {K : PySem.W.Frag} : ∀ {ps : List (Addr × (Key × V))}, (∀ x ∈ ps, H x.1 = some (.tup [kV x.2.1, x.2.2])) → Paired (fun p kv => SqT K H p [kV kv.1, kv.2]) (ps.map (·.1)) (ps.map (·.2))
  | [], _ => .nil
  | x :: r, h => .cons (SqT.of (h x (List.mem_cons_self ..))) (paired_of fun y hy => h y (List.mem_cons_of_mem _ hy))
section
variable {P : Program} {w : World} {K : PySem.W.Frag} {mg : Str → Option Value} {base : Heap} {c : Nat}
theorem scldone : FnScope ["form", "steps", "values", "k", "cells", "field", "sort"] ["form", "steps", "values"] (defScope sLawDone) := ⟨rfl, rfl, rfl, by decide +kernel, rfl, by decide +kernel, by decide +kernel⟩
theorem ok_ldone {f : Addr} {fd : FuncData} (F : FnP K "_law_done" sLawDone f fd) {f__law_do : Addr} {fd__law_do : FuncData} (c__law_do : Cl P w K mg base CX0 "_law_do" (1 + c + 1) ["cells", "steps"] (spLDo K c) f__law_do fd__law_do) {f__law_end : Addr} {fd__law_end : FuncData} (c__law_end : Cl P w K mg base CX0 "_law_end" (2 + 2 * c + 1) ["fields", "steps"] (spLEnd K c) f__law_end fd__law_end) (mb_range : mg "range" = none) (mb_len : mg "len" = none) (mb_dict : mg "dict" = none) (mb_tuple : mg "tuple" = none)   : FnOk P w K mg base CX0 (2 + 2 * c + 1 + 1) f fd ["form", "steps", "values"] (spLDone K c) := by
  refine F.ok scldone (fun vs H Q E h => ?_) (fun cdv A outer s H vs Q E hr h => ?_)
  · obtain ⟨u, fs, v, d, w, Ds, gs, L, rfl, _⟩ := h
    rfl
  · obtain ⟨u, fs, v, d, w, Ds, gs, L, rfl, hF, hf, hT, hpu, hW, hln, hvs, hm, hBd, hgr, hst, g100, hL, hl, htm, q⟩ := h
    have hu := hu_of hr
    have hs := szl
    refine ⟨_, PSs.nox (pss_cons (ps_set (i := 4) scldone.nd rfl (Or.inr rfl) (pe_call c__law_do.ok (hr.mono (by omega)) (by rfl) c__law_do.m c__law_do.kp c__law_do.b .nil pass0 (pa_cons (pe_callTy (call_dictP rfl) (by rfl) mb_dict (by decide +kernel) (pa_cons (pe_lc (own := [("k", 3)]) (g := gName 3) (tt := tYes) rfl scldone.nd (pi_range1 (by rfl) mb_range (pa_cons (pe_callB call_len_seq (by rfl) mb_len (by decide +kernel) (pa_cons (pv 0) pa_nil)) pa_nil)) (blkOk_by (own := [("k", 3)]) (N := ["form", "steps", "values", "k", "cells", "field", "sort"]) (sc := defScope sLawDone) (by decide +kernel)) (fun _ _ _ _ _ => pg_name (i := 3) scldone.nd rfl (Or.inl rfl)) (fun _ _ _ _ _ => pts_nil) (fun _ _ _ _ _ => pe_tup (pa_cons (pe_ix (Cc.ix_Bk (K := K) rfl) (pe_ix (Cc.ix_tupk (K := K) rfl) (pv 0) (pv 3) (fun _ _ => rfl)) (pe_int) (fun _ _ => rfl)) (pa_cons (pe_ix (Cc.ix_tupk (K := K) rfl) (pv 2) (pv 3) (fun _ _ => rfl)) pa_nil)))) pa_nil)) (pa_cons (pv 1) pa_nil))))
      (pss_one (ps_ret (pe_callTy call_tuple_of (by rfl) mb_tuple (by decide +kernel) (pa_cons (pe_lc (own := [("field", 5), ("sort", 6)]) (tt := tYes) rfl scldone.nd (pi_tup (pe_call c__law_end.ok (hr.mono (by omega)) (by rfl) c__law_end.m c__law_end.kp c__law_end.b .nil pass0 (pa_cons (pv 0) (pa_cons (pv 1) pa_nil)))) (blkOk_by (own := [("field", 5), ("sort", 6)]) (N := ["form", "steps", "values", "k", "cells", "field", "sort"]) (sc := defScope sLawDone) (by decide +kernel)) (fun _ _ _ _ _ => Cc.pg_tupk (K := K) (n := 2) rfl rfl (pgs_cons (pg_name (i := 5) scldone.nd rfl (Or.inl rfl)) (pgs_cons (pg_name (i := 6) scldone.nd rfl (Or.inl rfl)) (pgs_nil)))) (fun _ _ _ _ _ => pts_nil) (fun _ _ _ _ _ => pe_dget hu (pv 4) (pv 5) (fun _ _ => rfl))) pa_nil))))), ?_⟩
    obtain ⟨pf, fx, rfl, hz, hFA⟩ := id hF
    have hx := hz.sq (K := K)
    obtain ⟨pw, wx, rfl, hwx, hWA⟩ := hW.asTup
    have lfx : fx.length = fs.length := by rw [hFA.len, List.length_map]
    have lwx : wx.length = Ds.length := hWA.len
    refine ⟨_, rfl, pf, _, rfl, .inr hx, _, rfl, by omega, by omega, fun D nD => ?_⟩
    rw [lfx, Int.toNat_natCast]
    refine lc_acc (walk_range (lo := 0) (n := fs.length)) (fun i acc H' => But D H H' ∧ ∃ ps : List (Addr × (Key × V)), acc = ps.map (fun x => V.ref x.1) ∧ (∀ x ∈ ps, H' x.1 = some (.tup [kV x.2.1, x.2.2])) ∧ ps.map (·.2) = kvsV (fs.take i) (Ds.take i)) ⟨But.refl.upd, [], rfl, (fun _ h => by cases h), rfl⟩ (fun _ _ _ _ _ _ => trivial) ?_ ?_
    · rintro i x acc H1 H2 hi la ⟨b, ps, rfl, hps, eps⟩ hD ⟨rfl, rfl⟩
      have s2 := b.new nD
      have i1 : i < fx.length := by omega
      have i2 : i < wx.length := by omega
      obtain ⟨dz, hdz, tz, mz⟩ := ThAll.get2 hFA (List.getElem?_eq_getElem i1)
      obtain ⟨dx, hdx, tx, mx⟩ := ThAll.get2 hWA (List.getElem?_eq_getElem i2)
      obtain ⟨g, hg, rfl⟩ : ∃ g, fs[i]? = some g ∧ fieldD g = dz := by
        rw [List.getElem?_map] at hdz
        cases hg : fs[i]? with
        | none =>
          rw [hg] at hdz
          cases hdz
        | some g =>
          rw [hg] at hdz
          exact ⟨g, rfl, Option.some.inj hdz⟩
      obtain ⟨pz, zs, epz, hpz, hZ⟩ := tz.asTup
      obtain ⟨y0, y1, rfl, u0, u1⟩ := thAll2 hZ
      obtain rfl := u0.asStr
      obtain rfl := u1.asStr
      have edx := th_plainV tx (hvs dx mx)
      refine ⟨rfl, _, rfl, _, rfl, pf, _, _, _, rfl, rfl, Sq.same (t := true) hx s2, (by rw [Int.zero_add]; exact atI_nat (by rw [List.getElem?_eq_getElem i1, epz])), true, pz, _, 0, _, rfl, rfl, Sq.same (t := true) hpz s2, at0, _, rfl, _, rfl, pw, _, _, _, rfl, rfl, Sq.same (t := true) hwx s2, (by rw [Int.zero_add]; exact atI_nat (by rw [List.getElem?_eq_getElem i2, edx])), by show 2 ≤ sizeLine; decide, fun T nT => ?_⟩
      have sT := newS (o := .tup [V.str g.1, vOf dx]) nT
      have hD2 := sT _ _ hD
      have e1 : fs.take (i + 1) = fs.take i ++ [g] := by rw [List.take_succ, hg]; rfl
      have e2 : Ds.take (i + 1) = Ds.take i ++ [dx] := by rw [List.take_succ, hdx]; rfl
      refine push hD2 la (by omega) ⟨(b.same sT).upd, ps ++ [(T, Sum.inr g.1, vOf dx)], by rw [List.map_append]; rfl, fun x hx => ?_, ?_⟩
      · have off : ∀ (a : Addr) (xs : List V), upd H2 T (.tup [V.str g.1, vOf dx]) a = some (.tup xs) → upd (upd H2 T (.tup [V.str g.1, vOf dx])) D (.lst (ps.map (fun x => V.ref x.1) ++ [V.ref T])) a = some (.tup xs) := fun a xs e => by
          rw [upd_ne (ne_of e hD2 (by intro z; cases z))]
          exact e
        rcases List.mem_append.mp hx with h1 | h1
        · exact off _ _ (sT _ _ (hps x h1))
        · rw [List.mem_singleton.mp h1]
          exact off _ _ upd_same
      · rw [e1, e2, kvsV_snoc (by rw [List.length_take, List.length_take, hln]), List.map_append, eps]
        rfl
    · rintro acc H1 la ⟨b, ps, rfl, hps, eps⟩ hD
      rw [List.take_length, List.take_of_length_le (by omega)] at eps
      have s1 := b.new nD
      refine ⟨D, ps.map (·.1), ps.map (·.2), rfl, SqL.of (by rw [List.map_map]; exact hD), paired_of hps, fun p np => ?_⟩
      rw [eps]
      have sp := newS (o := .dK (mergeK [] (kvsV fs Ds))) np
      have lm : (mergeK [] (kvsV fs Ds)).length ≤ fs.length := by
        have := length_mergeK (kvsV fs Ds) []
        rw [kvsV_len hln.symm] at this
        simpa using this
      have hM : HeldM (upd H1 p (.dK (mergeK [] (kvsV fs Ds)))) p (mOf fs Ds) fs.length := ⟨_, upd_same, lm, fun z => by
        rw [merge_v (m := fun _ => none) hln.symm hf.nd (fun z => rfl) z]
        cases mOf fs Ds z <;> rfl⟩
      have s1p := s1.trans sp
      have hT1 := hT.kept (kept_same s1p)
      refine ⟨_, rfl, p, v, d, _, fs, gs, L, _, rfl, hT1, hpu, hM, by omega, hst, hf, hm, hL, hl, htm, fun H2 f2 hM2 => ?_⟩
      have np0 : H p = none := by
        cases e : H p with
        | none => rfl
        | some o =>
          rw [s1 _ _ e] at np
          cases np
      have fH : Same H H2 := (Fr.drop (p := p) (S := []) ((fr_same s1p).trans f2) np0).same
      refine ⟨_, rfl, _, rfl, _, fs, v, d, gs, rfl, hF.same fH, hf.nd, by omega, hT.kept (kept_same fH), hpu.noLst _, hBd, hst, fun H3 u3 s3 hF3 => ?_⟩
      obtain ⟨qf, gx, rfl, hgz, hGA⟩ := hF3
      have hgx := hgz.sq (K := K)
      have hM3 := hM2.same s3
      have lgx : gx.length = gs.length := by rw [hGA.len, List.length_map]
      have dok := do_ok c hst hf hm hL
      refine ⟨qf, rfl, ⟨gx, hgx⟩, fun D3 nD3 => ?_⟩
      refine lc_acc (walk_tup (K := K) (a := qf) (xs := gx)) (fun i acc H' => acc = ((gs.take i).map fun g => vOf (valM (doB c (mOf fs Ds) d) (.str g.1))) ∧ But D3 H3 H') ⟨rfl, But.refl.upd⟩ (fun i acc H' _ ⟨_, b⟩ _ => Sq.same (t := true) hgx (b.new nD3)) ?_ ?_
      · rintro i x acc H4 H5 hi la ⟨rfl, b4⟩ hD4 ⟨rfl, hx2⟩
        obtain ⟨dz, hdz, tz, mz⟩ := ThAll.get2 hGA hx2
        obtain ⟨g, hg, rfl⟩ : ∃ g, gs[i]? = some g ∧ fieldD g = dz := by
          rw [List.getElem?_map] at hdz
          cases hg : gs[i]? with
          | none =>
            rw [hg] at hdz
            cases hdz
          | some g =>
            rw [hg] at hdz
            exact ⟨g, rfl, Option.some.inj hdz⟩
        obtain ⟨pz, zs, rfl, hpz, hZ⟩ := tz.asTup
        obtain ⟨y0, y1, rfl, u0, u1⟩ := thAll2 hZ
        obtain rfl := u0.asStr
        obtain rfl := u1.asStr
        have s4 := b4.new nD3
        obtain ⟨vv, hvv, hk⟩ := dok.2 g.1 g.2 (getF_mem dok.1.nd (List.mem_of_getElem? hg))
        obtain ⟨k4, p4, _, v4⟩ := hM3.same s4
        refine ⟨pz, _, rfl, Sq.same (t := true) hpz s4, rfl, _, _, rfl, _, _, rfl, rfl, rfl, ?_⟩
        refine ⟨_, rfl, _, rfl, p, _, rfl, dget_m p4 v4 hvv, push hD4 la (by omega) ⟨?_, b4.upd⟩⟩
        rw [List.take_succ, hg]
        rw [List.map_append]
        show _ = _ ++ [vOf (valM (doB c (mOf fs Ds) d) (.str g.1))]
        rw [valM_of hvv]
      · rintro acc H4 la ⟨rfl, b4⟩ hD4
        rw [lgx, List.take_length] at hD4
        refine ⟨D3, _, rfl, .inl ⟨SqL.of hD4, fun T nT => ?_⟩⟩
        have s4 := b4.new nD3
        have sT := newS (o := .tup (gs.map fun g => vOf (valM (doB c (mOf fs Ds) d) (.str g.1)))) nT
        refine q _ T ((fH.trans s3).trans (s4.trans sT)) (.tup (SqT.of upd_same) ?_)
        have all : ∀ (l : Fs), (∀ g ∈ l, g ∈ gs) → ThAll K (upd H4 T (.tup (gs.map fun g => vOf (valM (doB c (mOf fs Ds) d) (.str g.1))))) (l.map fun g => vOf (valM (doB c (mOf fs Ds) d) (.str g.1))) (l.map fun g => valM (doB c (mOf fs Ds) d) (.str g.1)) := by
          intro l hl2
          induction l with
          | nil => exact .nil
          | cons g r ih =>
            obtain ⟨vv, hvv, hk⟩ := dok.2 g.1 g.2 (getF_mem dok.1.nd (hl2 g (List.mem_cons_self ..)))
            rw [List.map_cons, List.map_cons, valM_of hvv]
            exact .cons (th_vOfV ⟨_, _, hk⟩) (ih fun x hx => hl2 x (List.mem_cons_of_mem _ hx))
        exact all gs fun g hg => hg
end
end St6

set_option autoImplicit false
set_option maxHeartbeats 4000000
namespace St6
open PySem PySem.Spec PyProof.Rows L2 Tg Cc Nn TL
/-! steps that put, copy and drop -/
theorem ac {α : Type} {P : α → Prop} {a : α} {l : List α} (h : P a) (t : ∀ x ∈ l, P x) : ∀ x ∈ a :: l, P x := fun x hx => (List.mem_cons.mp hx).elim (fun e => e ▸ h) (t x)
theorem an {α : Type} {P : α → Prop} : ∀ x ∈ ([] : List α), P x := fun _ hx => by cases hx
abbrev wordsL : List Str := ["rename", "copy", "drop", "put", "scale", "sum", "join", "table", "case", "code", "word", "amount", "text", "say", "field", "a-", "7"]
theorem sy_flat {w : Str} {r : List PyData} (h : (decide (w ≠ "scale") && (decide (w ≠ "join") && decide (w ≠ "case"))) = true) : SyM (.tuple (.str w :: r)) := by
  rw [Bool.and_eq_true, Bool.and_eq_true] at h
  exact .flat (of_decide_eq_true h.1) (of_decide_eq_true h.2.1) (of_decide_eq_true h.2.2)
structure NewN (fs : Fs) (new : Str) : Prop where
  ok : NameOk new
  no : getF fs new = none
theorem NewN.isB {fs : Fs} {new : Str} (h : NewN fs new) : isNewB fs (.str new) = true := by
  have h1 : smallB 12 (.str new) = true := by
    show ((decide (1 ≤ new.length) && decide (new.length ≤ 12)) && new.cps.toList.all lowC) = true
    rw [decide_eq_true h.ok.2.1, decide_eq_true h.ok.2.2, List.all_eq_true.mpr h.ok.1]
    rfl
  unfold isNewB
  rw [h1, sortOf_str, h.no]
  rfl
theorem words_sorts {s : Str} (h : s ∈ sorts) : s ∈ wordsL := (show ∀ z ∈ sorts, z ∈ wordsL by decide +kernel) s h
theorem sort_sortB {s : Str} (h : s ∈ sorts) : sortB (.str s) = true := (show ∀ z ∈ sorts, sortB (.str z) = true by decide +kernel) s h
theorem test_sorts {s : Str} (h : s ∈ testL) : s ∈ sorts := (show ∀ z ∈ testL, z ∈ sorts by decide +kernel) s h
theorem drop_st {fs : Fs} {o s : Str} (h : getF fs o = some s) (c : Nat) : stepB (recOf c) fs (.tuple [.str "drop", .str o]) = some (fs.filter fun x => !decide (x.1 = o)) := by
  show dropB fs (.str o) = _
  unfold dropB
  rw [sortOf_str, h]
  rfl
theorem strs_gr {a b : Str} (c : Nat) : growS c (.tuple [.str a, .str b]) ≤ 1 := growS_pair (fun c => grow_str c a) (fun c => grow_str c b) c
theorem strs_gr3 {a b d : Str} (c : Nat) : growS c (.tuple [.str a, .str b, .str d]) ≤ 1 := growS_tup (B := 0) (fun c => by simp [grow_str]) c
theorem copy_st {fs : Fs} {o s new : Str} (h : getF fs o = some s) (hN : isNewB fs (.str new) = true) (c : Nat) : stepB (recOf c) fs (.tuple [.str "copy", .str o, .str new]) = some (fs ++ [(new, s)]) := by
  show copyB fs (.str o) (.str new) = _
  unfold copyB
  rw [sortOf_str, h]
  dsimp only
  rw [if_pos hN]
  rfl
theorem put_st {fs : Fs} {new s : Str} {v : PyData} (hN : isNewB fs (.str new) = true) (hs : s ∈ sorts) (hv : ofSort s v = true) (c : Nat) : stepB (recOf c) fs (.tuple [.str "put", .str new, .str s, v]) = some (fs ++ [(new, s)]) := by
  show putB fs (.str new) (.str s) v = _
  unfold putB
  show (if (isNewB fs (.str new) && (sortB (.str s) && ofSort s v)) = true then some (fs ++ [(new, s)]) else none) = _
  rw [hN, sort_sortB hs, hv]
  exact if_pos rfl
theorem put_pu {l : Bool} {new s : Str} {v : PyData} (pv : Plain v) : Pu l (.tuple [.str "put", .str new, .str s, v]) := .tup (ac (.str _) (ac (.str _) (ac (.str _) (ac (plain_pu pv) an))))
theorem put_bd {m : Nat} {new s : Str} {v : PyData} (hn : NameOk new) (hs : s ∈ sorts) (pv : Plain v) : Bd 1000 (m + 1) (.tuple [.str "put", .str new, .str s, v]) := bd_tup (by show 4 ≤ 1000; omega) (ac (bd_word (by decide +kernel)) (ac hn.bd (ac (bd_word (words_sorts hs)) (ac pv.bd' an))))
theorem put_gr {new s : Str} {v : PyData} (pv : Plain v) (c : Nat) : growS c (.tuple [.str "put", .str new, .str s, v]) ≤ 1 := growS_tup (B := 0) (fun c => by simp [grow_str, grow_plain pv]) c
theorem lenGo_id {st : Nat → PyData → Nat} : ∀ (l : List PyData) (L : Nat), (∀ d ∈ l, ∀ L, st L d = L) → lenGo st L l = L
  | [], _, _ => rfl
  | d :: r, L, h => by
    show lenGo st (st L d) r = L
    rw [h d (List.mem_cons_self ..)]
    exact lenGo_id r L fun x hx => h x (List.mem_cons_of_mem _ hx)
theorem len_sym {d : PyData} (h : SyM d) : ∀ c L, lenS (lRec c) L d = L := by
  induction h with
  | @flat w r h1 h2 h3 =>
    intro c L
    show lenLead (lRec c) L w r = L
    unfold lenLead
    split
    · rw [if_neg h2]
    · rw [if_neg h3]
    · rfl
  | scale _ => intro c L; rfl
  | @case t v ys zs _ _ iy iz =>
    intro c L
    show max (lRec c L (.tuple ys)) (lRec c L (.tuple zs)) = L
    cases c with
    | zero => exact Nat.max_self L
    | succ c =>
      show max (lngB c L (.tuple ys)) (lngB c L (.tuple zs)) = L
      rw [len_over, len_over]
      show max (lenGo (lenS (lRec c)) L ys) (lenGo (lenS (lRec c)) L zs) = L
      rw [lenGo_id ys L fun d hd L => iy d hd c L, lenGo_id zs L fun d hd L => iz d hd c L, Nat.max_self]
theorem tm_sym {d : PyData} (h : SyM d) : ∀ c, tmS (tRec c) d = true := by
  induction h with
  | @flat w r h1 h2 h3 =>
    intro c
    show tmLead (tRec c) w r = true
    unfold tmLead
    split
    · rw [decide_eq_false h1]
      rfl
    · rw [decide_eq_false h3]
      rfl
    · rfl
  | @scale n p t ht =>
    intro c
    show (!decide (("scale" : Str) = "scale") || decide ((intOf (.int t)).natAbs < 1073741824)) = true
    rw [decide_eq_true (show (intOf (.int t)).natAbs < 1073741824 from Nat.lt_of_le_of_lt ht (by decide)), Bool.or_true]
  | @case t v ys zs _ _ iy iz =>
    intro c
    show (!decide (("case" : Str) = "case") || (tRec c (.tuple ys) && tRec c (.tuple zs))) = true
    have hy : tRec c (.tuple ys) = true ∧ tRec c (.tuple zs) = true := by
      cases c with
      | zero => exact ⟨rfl, rfl⟩
      | succ c =>
        refine ⟨?_, ?_⟩
        · show tmB c (.tuple ys) = true
          rw [tm_over]
          exact List.all_eq_true.mpr fun d hd => iy d hd c
        · show tmB c (.tuple zs) = true
          rw [tm_over]
          exact List.all_eq_true.mpr fun d hd => iz d hd c
    rw [hy.1, hy.2]
    exact Bool.or_true _
theorem GoodF.fok {fs : Fs} (h : GoodF fs) : FOk fs := ⟨h.nd, fun x hx => (h.ok x hx).2.2.2⟩
/-- values that fit stand for a form's fields
-/
theorem mok_fits : ∀ {fs : Fs} {Ds : List PyData}, Ds.length = fs.length → (∀ x ∈ fs, x.2 ∈ sorts) → ((Ds.zip fs).all fun x => ofSort x.2.2 x.1) = true → MOk 40 fs (mOf fs Ds)
  | [], [], _, _, _ => fun n s e => by cases e
  | g :: r, d :: ds, hl, hs, h => fun n s e => by
    have h : (ofSort g.2 d && (ds.zip r).all fun x => ofSort x.2.2 x.1) = true := h
    rw [Bool.and_eq_true] at h
    show ∃ v, (if g.1 = n then some d else mOf r ds n) = some v ∧ VOk 40 s v
    by_cases en : g.1 = n
    · rw [if_pos en]
      rw [getF_cons_pos en] at e
      obtain rfl := Option.some.inj e
      exact ⟨d, rfl, vok_sort (hs g (List.mem_cons_self ..)) h.1 (Nat.le_refl _)⟩
    · rw [if_neg en]
      rw [getF_cons_neg en] at e
      exact mok_fits (by simpa using hl) (fun x hx => hs x (List.mem_cons_of_mem _ hx)) h.2 n s e
  | [], _ :: _, hl, _, _ => by simp at hl
  | _ :: _, [], hl, _, _ => by simp at hl
theorem vals_fits {fs : Fs} {Ds : List PyData} (h : fitsB fs (.tuple Ds) = true) (hs : ∀ x ∈ fs, x.2 ∈ sorts) : Ds.length = fs.length ∧ MOk 40 fs (mOf fs Ds) := by
  have h : (decide (Ds.length = fs.length) && (Ds.zip fs).all fun x => ofSort x.2.2 x.1) = true := h
  rw [Bool.and_eq_true] at h
  exact ⟨of_decide_eq_true h.1, mok_fits (of_decide_eq_true h.1) hs h.2⟩
theorem plain_vok {D : PyData} (h : Plain D) : ∃ L s, VOk L s D := by
  cases D with
  | int i => exact ⟨0, "code", vok_int (by decide +kernel) i⟩
  | str z => exact ⟨z.length, "text", vok_str (by decide +kernel) (Nat.le_refl _) h.2⟩
  | _ => exact h.elim
theorem pu_vals {l : Bool} {Ds : List PyData} (h : ∀ D ∈ Ds, ∃ L s, VOk L s D) : Pu l (.tuple Ds) := .tup fun D hD => by
  obtain ⟨L, s, hv⟩ := h D hD
  rcases hv.plain with ⟨i, rfl⟩ | ⟨z, rfl, _⟩
  · exact .int _
  · exact .str _
theorem can_str {z : Str} (a : As z) : PyData.canLay0 (.str z) = true := by
  have h1 : PyData.strOk z = true := by
    unfold PyData.strOk
    rw [Array.all_eq_true']
    intro c hc
    have := a c (by simpa using hc)
    exact decide_eq_true (by omega)
  simpa [PyData.canLay0] using h1
theorem can_vals : ∀ {Ds : List PyData}, (∀ D ∈ Ds, ∃ L s, VOk L s D) → PyData.canLayAll0 Ds = true ∧ PyData.depthAll Ds = 0
  | [], _ => ⟨rfl, rfl⟩
  | D :: r, h => by
    have h2 := can_vals fun x hx => h x (List.mem_cons_of_mem _ hx)
    obtain ⟨L, s, hv⟩ := h D (List.mem_cons_self ..)
    rcases hv.plain with ⟨i, rfl⟩ | ⟨z, rfl, _, az⟩
    · simp only [PyData.canLayAll0, PyData.canLay0, PyData.depthAll, PyData.depth, h2.1, h2.2, Bool.true_and]
      exact ⟨trivial, rfl⟩
    · have h1 := can_str az
      simp only [PyData.canLayAll0, PyData.depthAll, PyData.depth, h1, h2.1, h2.2, Bool.true_and]
      exact ⟨trivial, rfl⟩
theorem shaped_vals {Ds : List PyData} (h : ∀ D ∈ Ds, ∃ L s, VOk L s D) : SeqAt.shaped (.tuple Ds) = true := by
  have := can_vals h
  unfold SeqAt.shaped
  simp only [PyData.canLay0, PyData.depth, this.1, this.2]
  decide
theorem eqv_vals {Ds : List PyData} (h : ∀ D ∈ Ds, ∃ L s, VOk L s D) : (PyData.tuple Ds).eqv (.tuple Ds) = true := SeqAt.eqv_refl _ (by simp only [PyData.canLay0]; exact (can_vals h).1)

/-- a form of any length -/
structure GoodG (fs : Fs) : Prop where
  nd : (fs.map Prod.fst).Nodup
  ok : ∀ x ∈ fs, NameOk x.1 ∧ x.2 ∈ sorts
theorem GoodF.good {fs : Fs} (h : GoodF fs) : GoodG fs := ⟨h.nd, fun x hx => ⟨⟨(h.ok x hx).1, (h.ok x hx).2.1, (h.ok x hx).2.2.1⟩, (h.ok x hx).2.2.2⟩⟩
theorem GoodG.get {fs : Fs} (h : GoodG fs) {n s : Str} (e : getF fs n = some s) : NameOk n ∧ s ∈ sorts := by
  obtain ⟨x, hx, rfl, rfl⟩ := getF_in e
  exact h.ok x hx
theorem GoodG.new {fs : Fs} (h : GoodG fs) {n s : Str} (hn : NameOk n) (no : getF fs n = none) (hs : s ∈ sorts) : GoodG (fs ++ [(n, s)]) :=
  ⟨nd_new no h.nd, fun x hx => (List.mem_append.mp hx).elim (h.ok x) fun e => by rw [List.mem_singleton.mp e]; exact ⟨hn, hs⟩⟩
theorem GoodG.drop {fs : Fs} (h : GoodG fs) (o : Str) : GoodG (fs.filter fun x => !decide (x.1 = o)) :=
  ⟨h.nd.sublist (List.filter_sublist.map _), fun x hx => h.ok x ((List.mem_filter.mp hx).1)⟩
/-- steps that fit, forms amid of any length -/
structure WD (fs : Fs) (ds : List PyData) (gs : Fs) : Prop where
  pu : ∀ d ∈ ds, Pu false d
  bd : ∀ d ∈ ds, Bd 1000 2 d
  gr : ∀ d ∈ ds, ∀ c, growS c d ≤ 1
  st : ∀ c, stepsB c fs (.tuple ds) = .ok gs
  gd : GoodG gs
  sy : ∀ d ∈ ds, SyM d
structure WS (fs : Fs) (d : PyData) (gs : Fs) : Prop where
  pu : Pu false d
  bd : Bd 1000 2 d
  gr : ∀ c, growS c d ≤ 1
  st : ∀ c, stepB (recOf c) fs d = some gs
  gd : GoodG gs
  sy : SyM d
theorem WD.nil {fs : Fs} (h : GoodG fs) : WD fs [] fs := ⟨an, an, an, fun c => by rw [steps_over]; rfl, h, an⟩
theorem WD.step {fs gs hs : Fs} {ds : List PyData} {d : PyData} (h : WD fs ds gs) (k : WS gs d hs) : WD fs (ds ++ [d]) hs := by
  refine ⟨fun x hx => ?_, fun x hx => ?_, fun x hx => ?_, fun c => steps_app (h.st c) (steps_one (k.st c)), k.gd, fun x hx => ?_⟩
  all_goals rcases List.mem_append.mp hx with h1 | h1
  · exact h.pu x h1
  · rw [List.mem_singleton.mp h1]
    exact k.pu
  · exact h.bd x h1
  · rw [List.mem_singleton.mp h1]
    exact k.bd
  · exact h.gr x h1
  · rw [List.mem_singleton.mp h1]
    exact k.gr
  · exact h.sy x h1
  · rw [List.mem_singleton.mp h1]
    exact k.sy
theorem WD.puT {fs gs : Fs} {ds : List PyData} (h : WD fs ds gs) : Pu false (.tuple ds) := .tup h.pu
theorem WD.bdT {fs gs : Fs} {ds : List PyData} (h : WD fs ds gs) (l : ds.length ≤ 1000) : Bd 1000 3 (.tuple ds) := bd_tup l h.bd
theorem WD.grT {fs gs : Fs} {ds : List PyData} (h : WD fs ds gs) (c : Nat) : growB c (.tuple ds) ≤ ds.length * 1 := grow_le fun d hd => h.gr d hd c
theorem WD.len {fs gs : Fs} {ds : List PyData} (h : WD fs ds gs) (c L : Nat) : lngB c L (.tuple ds) = L := by
  rw [len_over]
  exact lenGo_id ds L fun d hd L => len_sym (h.sy d hd) c L
theorem WD.tm {fs gs : Fs} {ds : List PyData} (h : WD fs ds gs) (c : Nat) : tmB c (.tuple ds) = true := by
  rw [tm_over]
  exact List.all_eq_true.mpr fun d hd => tm_sym (h.sy d hd) c
theorem ws_put {fs : Fs} {new s : Str} {v : PyData} (hG : GoodG fs) (hN : NewN fs new) (hs : s ∈ sorts) (pv : Plain v) (hv : ofSort s v = true) : WS fs (.tuple [.str "put", .str new, .str s, v]) (fs ++ [(new, s)]) :=
  ⟨put_pu pv, put_bd hN.ok hs pv, put_gr pv, put_st hN.isB hs hv, hG.new hN.ok hN.no hs, sy_flat (by decide +kernel)⟩
theorem ws_copy {fs : Fs} {o s new : Str} (hG : GoodG fs) (h : getF fs o = some s) (hN : NewN fs new) : WS fs (.tuple [.str "copy", .str o, .str new]) (fs ++ [(new, s)]) :=
  ⟨.tup (ac (.str _) (ac (.str _) (ac (.str _) an))), bd_tup (by show 3 ≤ 1000; omega) (ac (bd_word (by decide +kernel)) (ac (hG.get h).1.bd (ac hN.ok.bd an))), strs_gr3, copy_st h hN.isB, hG.new hN.ok hN.no (hG.get h).2, sy_flat (by decide +kernel)⟩
theorem ws_drop {fs : Fs} {o s : Str} (hG : GoodG fs) (h : getF fs o = some s) : WS fs (.tuple [.str "drop", .str o]) (fs.filter fun x => !decide (x.1 = o)) :=
  ⟨.tup (ac (.str _) (ac (.str _) an)), bd_tup (by show 2 ≤ 1000; omega) (ac (bd_word (by decide +kernel)) (ac (hG.get h).1.bd an)), strs_gr, drop_st h, hG.drop o, sy_flat (by decide +kernel)⟩
structure News (fs : Fs) (zs : List Str) : Prop where
  nd : zs.Nodup
  ok : ∀ z ∈ zs, NameOk z
  off : ∀ z ∈ zs, z ∉ fs.map Prod.fst
end St6

set_option autoImplicit false
set_option maxHeartbeats 4000000
namespace St6
open PySem PySem.Spec PyProof.Rows L2 Tg Cc Nn
namespace NB
/-- a step that is no case -/
def noCase : PyData → Prop
  | .tuple (.str w :: _) => w ≠ "case"
  | _ => True
def spLBehind (K : PySem.W.Frag) (rec : Fs → PyData → Except Nat Fs) : Sp := fun vs H Q _ => ∃ f fs v d gs, vs = [f, v] ∧ Fm K H f fs ∧ (fs.map Prod.fst).Nodup ∧ fs.length ≤ 1000000 ∧ Th K H v d ∧ noCase d ∧ stepB rec fs d = some gs ∧ ∀ H' u, Same H H' → Fm K H' u gs → Q u H'
end NB
def spNot : Sp := fun _ _ _ _ => False
namespace NB
section
variable {P : Program} {w : World} {K : PySem.W.Frag} {mg : Str → Option Value} {base : Heap} {rec : Fs → PyData → Except Nat Fs}
theorem sclbehind : FnScope ["fields", "step", "field", "sort", "one"] ["fields", "step"] (defScope sLawBehind) := ⟨rfl, rfl, rfl, by decide +kernel, rfl, by decide +kernel, by decide +kernel⟩
theorem ok_lbehind {f : Addr} {fd : FuncData} (F : FnP K "_law_behind" sLawBehind f fd) {f__law_end : Addr} {fd__law_end : FuncData} (c__law_end : Cl P w K mg base CX0 "_law_end" 1 ["fields", "steps"] spNot f__law_end fd__law_end) (mb_tuple : mg "tuple" = none) (mb_dict : mg "dict" = none)   : FnOk P w K mg base CX0 2 f fd ["fields", "step"] (spLBehind K rec) := by
  refine F.ok sclbehind (fun vs H Q E h => ?_) (fun cdv A outer s H vs Q E hr h => ?_)
  · obtain ⟨f, fs, v, d, gs, rfl, _⟩ := h
    rfl
  · obtain ⟨f, fs, v, d, gs, rfl, hF, nd, hg, hT, hno, hst, q⟩ := h
    have hu := hu_of hr
    have hs := szl
    refine ⟨_, PSs.nox (pss_cons (ps_if (pt_cmpR op_eq (pe_ix Cc.ix_B (pv 1) (pe_int) (fun _ _ => rfl)) (pe_str) (nomark _)) (pss_one (ps_ret (pe_call c__law_end.ok (hr.mono (by decide)) (by rfl) c__law_end.m c__law_end.kp c__law_end.b .nil pass0 (pa_cons (pv 0) (pa_cons (pe_ix Cc.ix_B (pv 1) (pe_int) (fun _ _ => rfl)) pa_nil))))) (pss_nil))
      (pss_cons (ps_if (pt_cmpR op_eq (pe_ix Cc.ix_B (pv 1) (pe_int) (fun _ _ => rfl)) (pe_str) (nomark _)) (pss_one (ps_ret (pe_callTy Nn.call_tuple_ofZ (by rfl) mb_tuple (by decide +kernel) (pa_cons (pe_lc (own := [("field", 2), ("sort", 3)]) (tt := tYes) rfl sclbehind.nd (pi_tup (pv 0)) (blkOk_by (own := [("field", 2), ("sort", 3)]) (N := ["fields", "step", "field", "sort", "one"]) (sc := defScope sLawBehind) (by decide +kernel)) (fun _ _ _ _ _ => Cc.pg_tupk (K := K) (n := 2) rfl rfl (pgs_cons (pg_name (i := 2) sclbehind.nd rfl (Or.inl rfl)) (pgs_cons (pg_name (i := 3) sclbehind.nd rfl (Or.inl rfl)) (pgs_nil)))) (fun _ _ _ _ _ => pts_nil) (fun _ _ _ _ _ => pe_tup (pa_cons (pe_ifExp (pt_cmpR op_eq (pv 2) (pe_ix (Cc.ix_Bk (K := K) rfl) (pv 1) (pe_int) (fun _ _ => rfl)) (nomark _)) (pe_ix (Cc.ix_Bk (K := K) rfl) (pv 1) (pe_int) (fun _ _ => rfl)) (pv 2)) (pa_cons (pv 3) pa_nil)))) pa_nil)))) (pss_nil))
      (pss_cons (ps_if (pt_cmpR op_eq (pe_ix Cc.ix_B (pv 1) (pe_int) (fun _ _ => rfl)) (pe_str) (nomark _)) (pss_one (ps_ret (pe_callTy Nn.call_tuple_ofZ (by rfl) mb_tuple (by decide +kernel) (pa_cons (pe_lc (own := [("one", 4)]) (g := gName 4) rfl sclbehind.nd (pi_tup (pv 0)) (blkOk_by (own := [("one", 4)]) (N := ["fields", "step", "field", "sort", "one"]) (sc := defScope sLawBehind) (by decide +kernel)) (fun _ _ _ _ _ => pg_name (i := 4) sclbehind.nd rfl (Or.inl rfl)) (fun _ _ _ _ _ => pts_one (pt_cmpR op_ne (pe_ix (Cc.ix_Bk (K := K) rfl) (pv 4) (pe_int) (fun _ _ => rfl)) (pe_ix (Cc.ix_Bk (K := K) rfl) (pv 1) (pe_int) (fun _ _ => rfl)) (nomark _))) (fun _ _ _ _ _ => pv 4)) pa_nil)))) (pss_nil))
      (pss_cons (ps_if (pt_cmpR op_eq (pe_ix Cc.ix_B (pv 1) (pe_int) (fun _ _ => rfl)) (pe_str) (nomark _)) (pss_one (ps_ret (pe_callTy Nn.call_tuple_ofZ (by rfl) mb_tuple (by decide +kernel) (pa_cons (pe_lc (own := [("field", 2), ("sort", 3)]) (tt := tYes) rfl sclbehind.nd (pi_tup (pv 0)) (blkOk_by (own := [("field", 2), ("sort", 3)]) (N := ["fields", "step", "field", "sort", "one"]) (sc := defScope sLawBehind) (by decide +kernel)) (fun _ _ _ _ _ => Cc.pg_tupk (K := K) (n := 2) rfl rfl (pgs_cons (pg_name (i := 2) sclbehind.nd rfl (Or.inl rfl)) (pgs_cons (pg_name (i := 3) sclbehind.nd rfl (Or.inl rfl)) (pgs_nil)))) (fun _ _ _ _ _ => pts_nil) (fun _ _ _ _ _ => pe_tup (pa_cons (pv 2) (pa_cons (pe_ifExp (pt_cmpR op_eq (pv 2) (pe_ix (Cc.ix_Bk (K := K) rfl) (pv 1) (pe_int) (fun _ _ => rfl)) (nomark _)) (pe_ix (Cc.ix_Bk (K := K) rfl) (pv 1) (pe_int) (fun _ _ => rfl)) (pv 3)) pa_nil)))) pa_nil)))) (pss_nil))
      (pss_cons (ps_if (pt_cmpR op_eq (pe_ix Cc.ix_B (pv 1) (pe_int) (fun _ _ => rfl)) (pe_str) (nomark _)) (pss_one (ps_ret (pv 0))) (pss_nil))
      (pss_cons (ps_if (pt_cmpR op_eq (pe_ix Cc.ix_B (pv 1) (pe_int) (fun _ _ => rfl)) (pe_str) (nomark _)) (pss_one (ps_ret (pe_op Nn.op_catY (pv 0) (Nn.pe_tupZ (pa_cons (pe_tup (pa_cons (pe_ix Cc.ix_B (pv 1) (pe_int) (fun _ _ => rfl)) (pa_cons (pe_dget hu (pe_callTy (Nn.call_dictT rfl) (by rfl) mb_dict (by decide +kernel) (pa_cons (pv 0) pa_nil)) (pe_ix Cc.ix_B (pv 1) (pe_int) (fun _ _ => rfl)) (fun _ _ => rfl)) pa_nil))) pa_nil))))) (pss_nil))
      (pss_one (ps_ret (pe_op Nn.op_catY (pv 0) (Nn.pe_tupZ (pa_cons (pe_tup (pa_cons (pe_ix Cc.ix_B (pv 1) (pe_int) (fun _ _ => rfl)) (pa_cons (pe_dget2 hu (pe_disp (pps_cons (pe_str) (pe_str) (pps_cons (pe_str) (pe_str) (pps_nil))) (by rfl) (by rfl) (fun z => by cases z) (by decide)) (pe_ix Cc.ix_B (pv 1) (pe_int) (fun _ _ => rfl)) (pe_ix Cc.ix_B (pv 1) (pe_int) (fun _ _ => rfl)) ⟨by rfl, by rfl, by rfl, by rfl⟩) pa_nil))) pa_nil))))))))))), ?_⟩
    obtain ⟨wd, r, rfl, h, hln⟩ := stepB_some hst
    replace h : leadB rec fs wd r = some gs := h
    obtain ⟨a, xs0, rfl, hx, hA⟩ := hT.asTup
    obtain ⟨x0, xr, rfl, t0, hY⟩ := hA.cons_of
    obtain rfl := t0.asStr
    have ly := hY.len
    obtain ⟨fa, fx, rfl, hz, hFA⟩ := id hF
    have lf : fx.length = fs.length := by rw [hFA.len, List.length_map]
    replace hno : wd ≠ "case" := hno
    refine ⟨_, rfl, true, a, _, 0, _, rfl, rfl, hx, at0, rfl, _, rfl, tst "case" (fun e => absurd e hno) (fun n1 => ?_)⟩
    refine ⟨_, rfl, true, a, _, 0, _, rfl, rfl, hx, at0, rfl, _, rfl, tst "rename" (fun e => ?_) (fun n2 => ?_)⟩
    · subst e
      obtain ⟨d0, d1, rfl⟩ := len2 (Option.some.inj hln).symm
      obtain ⟨x0, x1, e, t0, t1⟩ := th2 hA
      obtain rfl := List.tail_eq_of_cons_eq e
      obtain ⟨hc, rfl⟩ := ifs (show renameB fs d0 d1 = some gs from h)
      obtain ⟨c1, c2⟩ := (Bool.and_eq_true _ _).mp hc
      obtain ⟨n, rfl, hn⟩ := isNew_of c2
      obtain rfl := t1.asStr
      obtain ⟨so, hso⟩ := Option.isSome_iff_exists.mp c1
      obtain ⟨o, rfl, ho⟩ := sortOf_of hso
      obtain rfl := t0.asStr
      replace q : ∀ H' u, Same H H' → Fm K H' u (fs.map (ren o n)) → Q u H' := q
      refine ⟨_, rfl, fa, rfl, ⟨fx, hz.sq⟩, fun D nD => ?_⟩
      refine lc_acc (walk_tup (K := K) (a := fa) (xs := fx)) (fun i acc H' => ∃ ps, acc = ps.map (fun x : Addr × Str × Str => V.ref x.1) ∧ ps.map Prod.snd = (fs.take i).map (ren o n) ∧ Prs H' ps ∧ But D H H') ⟨[], rfl, rfl, (fun x hx => by cases hx), But.refl.upd⟩ (fun i acc H' _ ⟨_, _, _, _, b⟩ _ => Sq.same (t := true) hz.sq (b.new nD)) ?_ ?_
      · rintro i x acc H1 H2 hi la ⟨ps, ea, ep, hp, b⟩ hD ⟨rfl, hx2⟩
        obtain ⟨dz, hdz, tz, mz⟩ := ThAll.get2 hFA hx2
        obtain ⟨g, hg2, rfl⟩ : ∃ g, fs[i]? = some g ∧ fieldD g = dz := by
          rw [List.getElem?_map] at hdz
          cases hg2 : fs[i]? with
          | none =>
            rw [hg2] at hdz
            cases hdz
          | some g =>
            rw [hg2] at hdz
            exact ⟨g, rfl, Option.some.inj hdz⟩
        obtain ⟨pz, zs, rfl, hpz, hZ⟩ := tz.asTup
        obtain ⟨y0, y1, rfl, u0, u1⟩ := thAll2 hZ
        obtain rfl := u0.asStr
        obtain rfl := u1.asStr
        have s2 := b.new nD
        have et : (fs.take (i + 1)).map (ren o n) = (fs.take i).map (ren o n) ++ [(ren o n) g] := by rw [List.take_succ, hg2, List.map_append]; rfl
        have done : ∀ (T : Addr) (k z : Str), H2 T = none → (k, z) = (ren o n) g → Push D i (fun i acc H' => ∃ ps, acc = ps.map (fun x : Addr × Str × Str => V.ref x.1) ∧ ps.map Prod.snd = (fs.take i).map (ren o n) ∧ Prs H' ps ∧ But D H H') (.ref T) (upd H2 T (.tup [.str k, .str z])) := fun T k z nT hk => by
          have sT := newS (o := .tup [V.str k, V.str z]) nT
          refine push (sT _ _ hD) la (by omega) ⟨ps ++ [(T, k, z)], ?_, ?_, prs_snoc (prs_same hp sT) (sT _ _ hD) _ upd_same, (b.same sT).upd⟩
          · rw [ea, List.map_append]
            rfl
          · rw [List.map_append, ep, et, ← hk]
            rfl
        refine ⟨pz, _, rfl, Sq.same (t := true) hpz s2, rfl, _, _, rfl, _, _, rfl, rfl, rfl, ?_⟩
        have hx1 := Sq.same (t := true) hx s2
        refine ⟨_, rfl, _, rfl, true, a, _, 1, _, rfl, rfl, hx1, rfl, rfl, _, rfl, ite2 (fun e => ?_) (fun e => ?_)⟩
        · have eq : g.1 = o := V.str.inj (of_decide_eq_true e)
          exact ⟨_, rfl, true, a, _, 2, _, rfl, rfl, hx1, rfl, _, rfl, by show 2 ≤ sizeLine; decide, fun T nT => done T n g.2 nT (by show _ = (if g.1 = o then n else g.1, g.2); rw [if_pos eq])⟩
        · have ne : ¬ g.1 = o := fun z => e (decide_eq_true (congrArg V.str z))
          exact ⟨_, rfl, _, rfl, by show 2 ≤ sizeLine; decide, fun T nT => done T g.1 g.2 nT (by show _ = (if g.1 = o then n else g.1, g.2); rw [if_neg ne])⟩
      · rintro acc H1 la ⟨ps, rfl, ep, hp, b⟩ hD
        rw [lf, List.take_length] at ep
        have s2 := b.new nD
        refine ⟨D, _, rfl, SqL.of hD, fun l H3 s3 nl tz => q H3 _ (s2.trans s3) ⟨l, _, rfl, tz, ?_⟩⟩
        have := th_fields (K := K) (prs_same hp s3)
        rw [ep] at this
        exact this
    refine ⟨_, rfl, true, a, _, 0, _, rfl, rfl, hx, at0, rfl, _, rfl, tst "drop" (fun e => ?_) (fun n3 => ?_)⟩
    · subst e
      obtain ⟨d0, rfl⟩ := len1 (Option.some.inj hln).symm
      obtain ⟨x0, e, t0⟩ := th1 hA
      obtain rfl := List.tail_eq_of_cons_eq e
      obtain ⟨hc, rfl⟩ := ifs (show dropB fs d0 = some gs from h)
      obtain ⟨so, hso⟩ := Option.isSome_iff_exists.mp hc
      obtain ⟨o, rfl, ho⟩ := sortOf_of hso
      obtain rfl := t0.asStr
      replace q : ∀ H' u, Same H H' → Fm K H' u (fs.filter fun x => !decide (x.1 = o)) → Q u H' := q
      refine ⟨_, rfl, fa, rfl, ⟨fx, hz.sq⟩, fun D nD => ?_⟩
      refine lc_it (walk_tup (K := K) (a := fa) (xs := fx)) (fun i H' => But D H H' ∧ ∃ acc, H' D = some (.lst acc) ∧ acc.length ≤ i ∧ ThAll K H acc (((fs.take i).filter fun x => !decide (x.1 = o)).map fieldD)) ⟨But.refl.upd, [], upd_same, Nat.le_refl _, .nil⟩ (fun i H' _ ⟨b, _⟩ => Sq.same (t := true) hz.sq (b.new nD)) ?_ ?_
      · rintro i x H1 H2 hi ⟨b, acc, hD, la, hacc⟩ ⟨rfl, hx2⟩
        obtain ⟨dz, hdz, tz, mz⟩ := ThAll.get2 hFA hx2
        obtain ⟨g, hg2, rfl⟩ : ∃ g, fs[i]? = some g ∧ fieldD g = dz := by
          rw [List.getElem?_map] at hdz
          cases hg2 : fs[i]? with
          | none =>
            rw [hg2] at hdz
            cases hdz
          | some g =>
            rw [hg2] at hdz
            exact ⟨g, rfl, Option.some.inj hdz⟩
        obtain ⟨pz, zs, rfl, hpz, hZ⟩ := id tz.asTup
        obtain ⟨y0, y1, rfl, u0, u1⟩ := thAll2 hZ
        obtain rfl := u0.asStr
        obtain rfl := u1.asStr
        have s2 := b.new nD
        have et : fs.take (i + 1) = fs.take i ++ [g] := by rw [List.take_succ, hg2]; rfl
        refine ⟨rfl, _, rfl, true, pz, _, 0, _, rfl, rfl, Sq.same (t := true) hpz s2, rfl, _, rfl, true, a, _, 1, _, rfl, rfl, Sq.same (t := true) hx s2, rfl, rfl, _, rfl, ite2 (fun e => ?_) (fun e => ?_)⟩
        · have ne : g.1 ≠ o := fun z => by
            rw [decide_eq_true (congrArg V.str z)] at e
            cases e
          refine ⟨_, rfl, acc, hD, by omega, b.upd, acc ++ [.ref pz], upd_same, by rw [List.length_append, List.length_singleton]; omega, ?_⟩
          rw [et, List.filter_append, List.filter_cons_of_pos (by simpa using ne), List.map_append]
          exact ThAll.app hacc (.cons tz .nil)
        · have eq : g.1 = o := by
            have h1 : (!decide (V.str g.1 = V.str o)) = false := by simpa using e
            rw [Bool.not_eq_false'] at h1
            exact V.str.inj (of_decide_eq_true h1)
          refine ⟨b, acc, hD, by omega, ?_⟩
          rw [et, List.filter_append, List.filter_cons_of_neg (by simpa using eq)]
          simpa using hacc
      · rintro H1 ⟨b, acc, hD, la, hacc⟩
        rw [lf, List.take_length] at hacc
        have s2 := b.new nD
        exact ⟨D, _, rfl, SqL.of hD, fun l H3 s3 nl tz => q H3 _ (s2.trans s3) ⟨l, _, rfl, tz, hacc.kept (kept_same (s2.trans s3))⟩⟩
    refine ⟨_, rfl, true, a, _, 0, _, rfl, rfl, hx, at0, rfl, _, rfl, tst "table" (fun e => ?_) (fun n4 => ?_)⟩
    · subst e
      obtain ⟨d0, d1, d2, d3, rfl⟩ := len4 (Option.some.inj hln).symm
      obtain ⟨x0, x1, x2, x3, e, t0, t1, t2, t3⟩ := th4 hA
      obtain rfl := List.tail_eq_of_cons_eq e
      replace h : tableB fs d0 d1 d2 d3 = some gs := h
      unfold tableB at h
      obtain ⟨el, hel⟩ : ∃ el, sortOf fs d0 = some el := by
        cases ho : sortOf fs d0 with
        | none =>
          rw [ho] at h
          cases h
        | some el => exact ⟨el, rfl⟩
      rw [hel] at h
      obtain ⟨hc, rfl⟩ := ifs h
      obtain ⟨o, rfl, ho⟩ := sortOf_of hel
      obtain rfl := t0.asStr
      obtain ⟨so, rfl⟩ : ∃ z, d1 = .str z := by
        have hsb : sortB d1 = true := ((Bool.and_eq_true _ _).mp ((Bool.and_eq_true _ _).mp ((Bool.and_eq_true _ _).mp hc).1).1).2
        cases d1 <;> first | exact ⟨_, rfl⟩ | cases hsb
      obtain rfl := t1.asStr
      replace q : ∀ H' u, Same H H' → Fm K H' u (setF fs o so) → Q u H' := q
      replace q : ∀ H' u, Same H H' → Fm K H' u (fs.map (fun x : Str × Str => if x.1 = o then (x.1, so) else x)) → Q u H' := by
        rw [← set_map ho]
        exact q
      refine ⟨_, rfl, fa, rfl, ⟨fx, hz.sq⟩, fun D nD => ?_⟩
      refine lc_acc (walk_tup (K := K) (a := fa) (xs := fx)) (fun i acc H' => ∃ ps, acc = ps.map (fun x : Addr × Str × Str => V.ref x.1) ∧ ps.map Prod.snd = (fs.take i).map (fun x : Str × Str => if x.1 = o then (x.1, so) else x) ∧ Prs H' ps ∧ But D H H') ⟨[], rfl, rfl, (fun x hx => by cases hx), But.refl.upd⟩ (fun i acc H' _ ⟨_, _, _, _, b⟩ _ => Sq.same (t := true) hz.sq (b.new nD)) ?_ ?_
      · rintro i x acc H1 H2 hi la ⟨ps, ea, ep, hp, b⟩ hD ⟨rfl, hx2⟩
        obtain ⟨dz, hdz, tz, mz⟩ := ThAll.get2 hFA hx2
        obtain ⟨g, hg2, rfl⟩ : ∃ g, fs[i]? = some g ∧ fieldD g = dz := by
          rw [List.getElem?_map] at hdz
          cases hg2 : fs[i]? with
          | none =>
            rw [hg2] at hdz
            cases hdz
          | some g =>
            rw [hg2] at hdz
            exact ⟨g, rfl, Option.some.inj hdz⟩
        obtain ⟨pz, zs, rfl, hpz, hZ⟩ := tz.asTup
        obtain ⟨y0, y1, rfl, u0, u1⟩ := thAll2 hZ
        obtain rfl := u0.asStr
        obtain rfl := u1.asStr
        have s2 := b.new nD
        have et : (fs.take (i + 1)).map (fun x : Str × Str => if x.1 = o then (x.1, so) else x) = (fs.take i).map (fun x : Str × Str => if x.1 = o then (x.1, so) else x) ++ [(fun x : Str × Str => if x.1 = o then (x.1, so) else x) g] := by rw [List.take_succ, hg2, List.map_append]; rfl
        have done : ∀ (T : Addr) (k z : Str), H2 T = none → (k, z) = (fun x : Str × Str => if x.1 = o then (x.1, so) else x) g → Push D i (fun i acc H' => ∃ ps, acc = ps.map (fun x : Addr × Str × Str => V.ref x.1) ∧ ps.map Prod.snd = (fs.take i).map (fun x : Str × Str => if x.1 = o then (x.1, so) else x) ∧ Prs H' ps ∧ But D H H') (.ref T) (upd H2 T (.tup [.str k, .str z])) := fun T k z nT hk => by
          have sT := newS (o := .tup [V.str k, V.str z]) nT
          refine push (sT _ _ hD) la (by omega) ⟨ps ++ [(T, k, z)], ?_, ?_, prs_snoc (prs_same hp sT) (sT _ _ hD) _ upd_same, (b.same sT).upd⟩
          · rw [ea, List.map_append]
            rfl
          · rw [List.map_append, ep, et, ← hk]
            rfl
        refine ⟨pz, _, rfl, Sq.same (t := true) hpz s2, rfl, _, _, rfl, _, _, rfl, rfl, rfl, ?_⟩
        have hx1 := Sq.same (t := true) hx s2
        refine ⟨_, rfl, _, rfl, _, rfl, true, a, _, 1, _, rfl, rfl, hx1, rfl, rfl, _, rfl, ite2 (fun e => ?_) (fun e => ?_)⟩
        · have eq : g.1 = o := V.str.inj (of_decide_eq_true e)
          exact ⟨_, rfl, true, a, _, 2, _, rfl, rfl, hx1, rfl, by show 2 ≤ sizeLine; decide, fun T nT => done T g.1 so nT (by show _ = (if g.1 = o then (g.1, so) else g); rw [if_pos eq])⟩
        · have ne : ¬ g.1 = o := fun z => e (decide_eq_true (congrArg V.str z))
          exact ⟨_, rfl, by show 2 ≤ sizeLine; decide, fun T nT => done T g.1 g.2 nT (by show _ = (if g.1 = o then (g.1, so) else g); rw [if_neg ne])⟩
      · rintro acc H1 la ⟨ps, rfl, ep, hp, b⟩ hD
        rw [lf, List.take_length] at ep
        have s2 := b.new nD
        refine ⟨D, _, rfl, SqL.of hD, fun l H3 s3 nl tz => q H3 _ (s2.trans s3) ⟨l, _, rfl, tz, ?_⟩⟩
        have := th_fields (K := K) (prs_same hp s3)
        rw [ep] at this
        exact this
    refine ⟨_, rfl, true, a, _, 0, _, rfl, rfl, hx, at0, rfl, _, rfl, tst "scale" (fun e => ?_) (fun n5 => ?_)⟩
    · subst e
      obtain ⟨d0, d1, d2, rfl⟩ := len3 (Option.some.inj hln).symm
      obtain ⟨_, rfl⟩ := ifs (show scaleB fs d0 d1 d2 = some gs from h)
      exact ⟨_, rfl, q H _ (Same.refl H) hF⟩
    refine ⟨_, rfl, true, a, _, 0, _, rfl, rfl, hx, at0, rfl, _, rfl, tst "copy" (fun e => ?_) (fun n6 => ?_)⟩
    · subst e
      obtain ⟨d0, d1, rfl⟩ := len2 (Option.some.inj hln).symm
      obtain ⟨x0, x1, e, t0, t1⟩ := th2 hA
      obtain rfl := List.tail_eq_of_cons_eq e
      replace h : copyB fs d0 d1 = some gs := h
      unfold copyB at h
      obtain ⟨el, hel⟩ : ∃ el, sortOf fs d0 = some el := by
        cases ho : sortOf fs d0 with
        | none =>
          rw [ho] at h
          cases h
        | some el => exact ⟨el, rfl⟩
      rw [hel] at h
      obtain ⟨hc, rfl⟩ := ifs h
      obtain ⟨o, rfl, ho⟩ := sortOf_of hel
      obtain rfl := t0.asStr
      obtain ⟨n, rfl, hn⟩ := isNew_of hc
      obtain rfl := t1.asStr
      obtain ⟨ps, rfl, hps⟩ := refs_of hFA
      refine ⟨_, rfl, _, rfl, true, a, _, 2, _, rfl, rfl, hx, rfl, _, rfl, fa, ps, kvsOf fs, rfl, hz, hps, fun p np => ?_⟩
      have s1 := newS (o := .dK (mergeK [] (kvsOf fs))) np
      have g := DGet.k (k := Sum.inr o) (upd_same (H := H) (a := p) (o := .dK (mergeK [] (kvsOf fs))))
      rw [show mergeK [] (kvsOf fs) = kvsOf fs from merge_of fs [] nd] at g
      rw [val_of, ho] at g
      rw [show mergeK [] (kvsOf fs) = kvsOf fs from merge_of fs [] nd] at s1 ⊢
      refine ⟨_, rfl, true, a, _, 1, _, rfl, rfl, Sq.same (t := true) hx s1, rfl, p, .str el, rfl, g, by show 2 ≤ sizeLine; decide, fun T nT => ⟨by show 1 ≤ sizeLine; decide, fun p2 H2 s2 n2 tz => ?_⟩⟩
      have sT := newS (o := .tup [V.str n, V.str el]) nT
      have s12 := (s1.trans sT).trans s2
      refine ⟨fa, p2, _, _, rfl, rfl, (hz.same s12).sq, tz, by simp, by rw [lf, List.length_singleton]; omega, fun p3 H3 s3 tz3 => q H3 _ (s12.trans s3) ?_⟩
      exact fm_snoc tz3 (hFA.kept (kept_same (s12.trans s3))) ((s2.trans s3) _ _ upd_same)
    rcases lenOf_in hln with e | e | e | e | e | e | e | e | e
    · exact absurd e n2
    · exact absurd e n6
    · exact absurd e n3
    · subst e
      obtain ⟨d0, d1, d2, rfl⟩ := len3 (Option.some.inj hln).symm
      obtain ⟨x0, x1, x2, e, t0, t1, t2⟩ := th3 hA
      obtain rfl := List.tail_eq_of_cons_eq e
      obtain ⟨hc, rfl⟩ := ifs (show putB fs d0 d1 d2 = some gs from h)
      obtain ⟨c1, c2⟩ := (Bool.and_eq_true _ _).mp hc
      obtain ⟨so, rfl⟩ : ∃ z, d1 = .str z := by
        have hsb : sortB d1 = true := ((Bool.and_eq_true _ _).mp c2).1
        cases d1 <;> first | exact ⟨_, rfl⟩ | cases hsb
      obtain rfl := t1.asStr
      obtain ⟨n, rfl, hn⟩ := isNew_of c1
      obtain rfl := t0.asStr
      refine ⟨_, rfl, _, rfl, true, a, _, 1, _, rfl, rfl, hx, rfl, fun pD nD => ⟨upd_same, ([(Sum.inr "sum", V.str "amount"), (Sum.inr "join", V.str "text")] : List (Key × V)), rfl, by show 2 ≤ 15; decide, ?_⟩⟩
      have s1 : Same H (upd (upd H pD (.dK [])) pD (.dK (mergeK [] ([(Sum.inr "sum", V.str "amount"), (Sum.inr "join", V.str "text")] : List (Key × V))))) := fun b o e => by
        have ne := ne_of_none e nD
        rw [upd_ne ne, upd_ne ne]
        exact e
      have g := DGet.k (k := Sum.inr (Str.ofString "put")) (upd_same (H := upd H pD (.dK [])) (a := pD) (o := .dK (mergeK [] ([(Sum.inr "sum", V.str "amount"), (Sum.inr "join", V.str "text")] : List (Key × V)))))
      rw [show valV (mergeK [] ([(Sum.inr "sum", V.str "amount"), (Sum.inr "join", V.str "text")] : List (Key × V))) (Sum.inr (Str.ofString "put")) = none from by kernel_rfl] at g
      have hd : (upd (upd H pD (.dK [])) pD (.dK (mergeK [] ([(Sum.inr "sum", V.str "amount"), (Sum.inr "join", V.str "text")] : List (Key × V))))) pD = some (.dK (mergeK [] ([(Sum.inr "sum", V.str "amount"), (Sum.inr "join", V.str "text")] : List (Key × V)))) := upd_same
      generalize upd (upd H pD (.dK [])) pD (.dK (mergeK [] ([(Sum.inr "sum", V.str "amount"), (Sum.inr "join", V.str "text")] : List (Key × V)))) = HD at s1 g hd ⊢
      have hx2 := Sq.same (t := true) hx s1
      refine ⟨pD, rfl, .inl ⟨_, .inl hd⟩, _, rfl, true, a, _, 0, _, rfl, rfl, hx2, rfl, _, rfl, true, a, _, 2, _, rfl, rfl, hx2, rfl, _, g, by show 2 ≤ sizeLine; decide, fun T nT => ⟨by show 1 ≤ sizeLine; decide, fun p2 H2 s2 n2 tz => ?_⟩⟩
      have sT := newS (o := .tup [V.str n, V.str so]) nT
      have s12 := (s1.trans sT).trans s2
      refine ⟨fa, p2, _, _, rfl, rfl, (hz.same s12).sq, tz, by simp, by rw [lf, List.length_singleton]; omega, fun p3 H3 s3 tz3 => q H3 _ (s12.trans s3) ?_⟩
      exact fm_snoc tz3 (hFA.kept (kept_same (s12.trans s3))) ((s2.trans s3) _ _ upd_same)
    · exact absurd e n5
    · subst e
      obtain ⟨d0, d1, rfl⟩ := len2 (Option.some.inj hln).symm
      obtain ⟨x0, x1, e, t0, t1⟩ := th2 hA
      obtain rfl := List.tail_eq_of_cons_eq e
      obtain ⟨hc, rfl⟩ := ifs (show sumB fs d0 d1 = some gs from h)
      obtain ⟨c1, c2⟩ := (Bool.and_eq_true _ _).mp hc
      obtain ⟨n, rfl, hn⟩ := isNew_of c1
      obtain rfl := t0.asStr
      refine ⟨_, rfl, _, rfl, true, a, _, 1, _, rfl, rfl, hx, rfl, fun pD nD => ⟨upd_same, ([(Sum.inr "sum", V.str "amount"), (Sum.inr "join", V.str "text")] : List (Key × V)), rfl, by show 2 ≤ 15; decide, ?_⟩⟩
      have s1 : Same H (upd (upd H pD (.dK [])) pD (.dK (mergeK [] ([(Sum.inr "sum", V.str "amount"), (Sum.inr "join", V.str "text")] : List (Key × V))))) := fun b o e => by
        have ne := ne_of_none e nD
        rw [upd_ne ne, upd_ne ne]
        exact e
      have g := DGet.k (k := Sum.inr (Str.ofString "sum")) (upd_same (H := upd H pD (.dK [])) (a := pD) (o := .dK (mergeK [] ([(Sum.inr "sum", V.str "amount"), (Sum.inr "join", V.str "text")] : List (Key × V)))))
      rw [show valV (mergeK [] ([(Sum.inr "sum", V.str "amount"), (Sum.inr "join", V.str "text")] : List (Key × V))) (Sum.inr (Str.ofString "sum")) = some (V.str "amount") from by kernel_rfl] at g
      have hd : (upd (upd H pD (.dK [])) pD (.dK (mergeK [] ([(Sum.inr "sum", V.str "amount"), (Sum.inr "join", V.str "text")] : List (Key × V))))) pD = some (.dK (mergeK [] ([(Sum.inr "sum", V.str "amount"), (Sum.inr "join", V.str "text")] : List (Key × V)))) := upd_same
      generalize upd (upd H pD (.dK [])) pD (.dK (mergeK [] ([(Sum.inr "sum", V.str "amount"), (Sum.inr "join", V.str "text")] : List (Key × V)))) = HD at s1 g hd ⊢
      have hx2 := Sq.same (t := true) hx s1
      refine ⟨pD, rfl, .inl ⟨_, .inl hd⟩, _, rfl, true, a, _, 0, _, rfl, rfl, hx2, rfl, _, rfl, true, a, _, 2, _, rfl, rfl, hx2, rfl, _, g, by show 2 ≤ sizeLine; decide, fun T nT => ⟨by show 1 ≤ sizeLine; decide, fun p2 H2 s2 n2 tz => ?_⟩⟩
      have sT := newS (o := .tup [V.str n, V.str "amount"]) nT
      have s12 := (s1.trans sT).trans s2
      refine ⟨fa, p2, _, _, rfl, rfl, (hz.same s12).sq, tz, by simp, by rw [lf, List.length_singleton]; omega, fun p3 H3 s3 tz3 => q H3 _ (s12.trans s3) ?_⟩
      exact fm_snoc tz3 (hFA.kept (kept_same (s12.trans s3))) ((s2.trans s3) _ _ upd_same)
    · subst e
      obtain ⟨d0, d1, rfl⟩ := len2 (Option.some.inj hln).symm
      obtain ⟨x0, x1, e, t0, t1⟩ := th2 hA
      obtain rfl := List.tail_eq_of_cons_eq e
      obtain ⟨hc, rfl⟩ := ifs (show joinB fs d0 d1 = some gs from h)
      obtain ⟨c1, c2⟩ := (Bool.and_eq_true _ _).mp hc
      obtain ⟨n, rfl, hn⟩ := isNew_of c1
      obtain rfl := t0.asStr
      refine ⟨_, rfl, _, rfl, true, a, _, 1, _, rfl, rfl, hx, rfl, fun pD nD => ⟨upd_same, ([(Sum.inr "sum", V.str "amount"), (Sum.inr "join", V.str "text")] : List (Key × V)), rfl, by show 2 ≤ 15; decide, ?_⟩⟩
      have s1 : Same H (upd (upd H pD (.dK [])) pD (.dK (mergeK [] ([(Sum.inr "sum", V.str "amount"), (Sum.inr "join", V.str "text")] : List (Key × V))))) := fun b o e => by
        have ne := ne_of_none e nD
        rw [upd_ne ne, upd_ne ne]
        exact e
      have g := DGet.k (k := Sum.inr (Str.ofString "join")) (upd_same (H := upd H pD (.dK [])) (a := pD) (o := .dK (mergeK [] ([(Sum.inr "sum", V.str "amount"), (Sum.inr "join", V.str "text")] : List (Key × V)))))
      rw [show valV (mergeK [] ([(Sum.inr "sum", V.str "amount"), (Sum.inr "join", V.str "text")] : List (Key × V))) (Sum.inr (Str.ofString "join")) = some (V.str "text") from by kernel_rfl] at g
      have hd : (upd (upd H pD (.dK [])) pD (.dK (mergeK [] ([(Sum.inr "sum", V.str "amount"), (Sum.inr "join", V.str "text")] : List (Key × V))))) pD = some (.dK (mergeK [] ([(Sum.inr "sum", V.str "amount"), (Sum.inr "join", V.str "text")] : List (Key × V)))) := upd_same
      generalize upd (upd H pD (.dK [])) pD (.dK (mergeK [] ([(Sum.inr "sum", V.str "amount"), (Sum.inr "join", V.str "text")] : List (Key × V)))) = HD at s1 g hd ⊢
      have hx2 := Sq.same (t := true) hx s1
      refine ⟨pD, rfl, .inl ⟨_, .inl hd⟩, _, rfl, true, a, _, 0, _, rfl, rfl, hx2, rfl, _, rfl, true, a, _, 2, _, rfl, rfl, hx2, rfl, _, g, by show 2 ≤ sizeLine; decide, fun T nT => ⟨by show 1 ≤ sizeLine; decide, fun p2 H2 s2 n2 tz => ?_⟩⟩
      have sT := newS (o := .tup [V.str n, V.str "text"]) nT
      have s12 := (s1.trans sT).trans s2
      refine ⟨fa, p2, _, _, rfl, rfl, (hz.same s12).sq, tz, by simp, by rw [lf, List.length_singleton]; omega, fun p3 H3 s3 tz3 => q H3 _ (s12.trans s3) ?_⟩
      exact fm_snoc tz3 (hFA.kept (kept_same (s12.trans s3))) ((s2.trans s3) _ _ upd_same)
    · exact absurd e n4
    · exact absurd e n1
end
end NB
end St6

set_option maxHeartbeats 2000000
namespace Ev
open PySem PySem.Spec PyProof.Rows L2
open Sem (wp)
section
variable {M : Model} {A : Around} {E : Value → Shared → Prop} {s : Shared} {env : Env}
theorem callWith_type_kwB {pos : Pos} {T : String} {first : List Value} {args : List (Bool × Sem Value)} {keywords : List (Option Str × Sem Value)} {Q : Value → Shared → Prop}
    (hplain : args.any (·.1) = false) (hkw : keywords.any (·.1.isNone) = false)
    (h : wpAny M A (evalArgs (.type T) true args keywords) (fun a s1 => wpAny M A (call (.type T) (first ++ a.pos) a.kw) Q E s1) E s) :
    wpAny M A (callWith pos (.type T) first args keywords) Q E s := by
  unfold callWith
  refine wpAny_bind (wpAny_holding (wpAny_mono h (fun a s1 h1 => wpAny_bind (wpAny_standAt ?_)) fun _ _ x => x))
  simp only [hplain, hkw, Bool.or_false]
  refine wpAny_bind (wpAny_pure ?_)
  exact wpAny_bind (wpAny_mono h1 (fun r s2 hr => wpAny_bind (wpAny_holding (wpAny_point (wpAny_pure hr)))) fun _ _ x => x)
theorem callWith_type_kw {pos : Pos} {T : String} {e : Expr} {rest : List Expr} {kws : List Keyword} {Q : Value → Shared → Prop}
    (h : wpAny M A (spliced (backTo pos (starEach (e :: rest) env))) (fun vs s1 => wpAny M A (evalAll ((backToKw pos (keywordEach kws env)).map (·.2)))
      (fun kvs s2 => wpAny M A (call (.type T) vs (((backToKw pos (keywordEach kws env)).filterMap (·.1)).zip kvs)) Q E s2) E s1) E s)
    (he : starEach (e :: rest) env = (false, eval e env) :: starEach rest env := by rfl)
    (hplain : (backTo pos (starEach (e :: rest) env)).any (·.1) = false := by rfl)
    (hall : (backToKw pos (keywordEach kws env)).all (·.1.isSome) = true := by rfl)
    (hkw : (backToKw pos (keywordEach kws env)).any (·.1.isNone) = false := by rfl) :
    wpAny M A (callWith pos (.type T) [] (backTo pos (starEach (e :: rest) env)) (backToKw pos (keywordEach kws env))) Q E s := by
  refine callWith_type_kwB hplain hkw ?_
  rw [he] at h ⊢
  exact PyProof.Rows.evalArgs_kwB hall h
end
/-- enumerate(text, start=k): each sign in a new pair -/
def ItEs (x : Str) (k : Int) : It := ⟨fun i _ => i < x.cps.size, fun i H v H' => ∃ T c, x.cps[i]? = some c ∧ v = .ref T ∧ H T = none ∧ H' = upd H T (.tup [.int (k + (i : Int)), .str ⟨#[c]⟩]), fun i _ => x.cps.size ≤ i⟩
abbrev SignP (x : Str) : Nat → Value → Prop := fun i v => ∃ c u, x.cps[i]? = some c ∧ v = .str ⟨#[c]⟩ u
theorem drawsOf {prog : Program} {w : World} {A : Around} (hh : A.handled = none) (it : Addr) (x : Str) (t : Tok) : ∃ n, Draws prog w A it [it] n (SignP x) (fun i h => h.IsStrIter it (strIterType x) x t i) ∧ n = x.cps.size := by
  refine ⟨_, ?_, rfl⟩
  unfold strIterType
  cases ha : x.cps.all (· < 128)
  · first | exact Draws.strWide hh it x t | (simp only [ha]; exact Draws.strWide hh it x t)
  · first | exact Draws.strAscii hh it x t | (simp only [ha]; exact Draws.strAscii hh it x t)
theorem turn_enumS {P : Program} {w : World} {K : PySem.W.Frag} {elts : List Expr} {kk : Nat} {tpos : Pos} (x : Str) (t : Tok) (k : Int) (e it : Addr) (hne : e ≠ it) :
    Turn P w K (.Tuple elts kk tpos) (ItEs x k) [e, it] e (fun i h => i ≤ x.cps.size ∧ (∃ old, IsEnum h e it (k + (i : Int)) old) ∧ h.IsStrIter it (strIterType x) x t i) where
  mem := by simp
  obj := fun i h st b hb => by
    obtain ⟨_, ⟨old, he⟩, ⟨o, ho, hc, hd⟩⟩ := st
    have e' : b = e ∨ b = it := by simpa using hb
    rcases e' with z | z
    · rw [z]; exact ⟨_, he, fun v q => nomatch q⟩
    · rw [z]; exact ⟨o, ho, fun v q => by rw [hd] at q; cases q⟩
  keep := fun i h h' st kk => by
    obtain ⟨hi, ⟨old, he⟩, ⟨o, ho, r⟩⟩ := st
    exact ⟨hi, ⟨old, kk e (by simp) _ he⟩, ⟨o, kk it (by simp) o ho, r⟩⟩
  item := by
    intro X hP hw hK hc i pins s σ H E I hf st hg
    subst hP hw hK
    obtain ⟨hi, st1, st2⟩ := st
    have hh : X.A.in1.handled = none := I.ok.hd hc
    obtain ⟨n, D, hn⟩ := drawsOf (prog := X.prog) (w := X.w) hh it x t
    have W := GoesN.enumFrom (elts := elts) (x1 := kk) (pos := tpos) k D e hne (by simpa using hne) (by simp)
    have hel : e < s.heap.objs.size := by obtain ⟨_, he⟩ := st1; exact Heap.lt_size he
    have hil : it < s.heap.objs.size := by obtain ⟨_, q, _⟩ := st2; exact Heap.lt_size q
    refine wpAny_mono (W.goes i s (fun v s2 => ∃ y H', Inv X pins σ H' s2 ∧ RelV y v ∧ (ItEs x k).yld i H y H' ∧ (i + 1 ≤ x.cps.size ∧ (∃ old, IsEnum s2.heap e it (k + ((i + 1 : Nat) : Int)) old) ∧ s2.heap.IsStrIter it (strIterType x) x t (i + 1)) ∧ ∀ b ∈ [e, it], H' b = none) E (by rw [hn]; exact hg) ⟨st1, st2⟩ ?_) (fun r s1 q => q) fun _ _ q => q
    rintro v h' tk ⟨T, t1, y, rfl, hT0, ⟨c, u, hcx, rfl⟩, hT⟩ ⟨he', hit'⟩ hk htk
    obtain ⟨oT, hoT, hcT, nT, hdT⟩ := hT
    have hsm : H T = none := I.hok.fresh hT0
    have new : ObjOk X.prog X.w (upd H T (.tup [.int (k + (i : Int)), .str ⟨#[c]⟩])) h' T (.tup [.int (k + (i : Int)), .str ⟨#[c]⟩]) :=
      ⟨by show 2 ≤ sizeLine; decide, [.int (k + (i : Int)) t1, .str ⟨#[c]⟩ u], .cons ⟨_, rfl⟩ (.cons ⟨_, rfl⟩ .nil), ⟨oT, hoT, hcT, nT, hdT⟩⟩
    have I1 : Inv X pins σ (upd H T (.tup [.int (k + (i : Int)), .str ⟨#[c]⟩])) { s with heap := h', toks := tk } :=
      I.turnedNew (ch := [e, it]) (fun b ob hb q => hk b ob hb q) hf hT0 new
    refine ⟨.ref T, _, I1, rfl, ⟨T, c, hcx, rfl, hsm, rfl⟩, ⟨hg, he', hit'⟩, fun b hb => ?_⟩
    have hb' : b < s.heap.objs.size := by
      have e' : b = e ∨ b = it := by simpa using hb
      rcases e' with z | z
      · rw [z]; exact hel
      · rw [z]; exact hil
    rw [upd_ne (Nat.ne_of_lt (Nat.lt_of_lt_of_le hb' hT0))]
    exact (hf b hb).1
  done := by
    intro X hP hw hK hc i pins s σ H E I hf st hg
    subst hP hw hK
    obtain ⟨hi, st1, st2⟩ := st
    have hh : X.A.in1.handled = none := I.ok.hd hc
    obtain ⟨n, D, hn⟩ := drawsOf (prog := X.prog) (w := X.w) hh it x t
    have W := GoesN.enumFrom (elts := elts) (x1 := kk) (pos := tpos) k D e hne (by simpa using hne) (by simp)
    have hin : i = n := by rw [hn]; exact Nat.le_antisymm hi hg
    subst hin
    obtain ⟨f0, f1, f2, f3, f4, f5⟩ := hf it (by simp)
    refine wpAny_mono (W.stops s (fun s1 => Inv X pins σ H s1) E ⟨st1, st2⟩ fun h' tk hk htk => ?_) (fun r s1 q => q) fun _ _ q => q
    exact I.turnedL (ch := [e, it]) hk hf
  self := fun A i s Q E st h => let ⟨_, ⟨_, he⟩, _⟩ := st; wpAny_pyIter_enum he h

def iEnumS (ta tk : TA) : TI := fun σ H R => ta σ H fun vs H1 => tk σ H1 fun zs H2 => ∃ x k, vs = [.str x] ∧ zs = [.int k] ∧ -(2 ^ 63) ≤ k ∧ k < 2 ^ 63 ∧ R (ItEs x k) H2
theorem pi_enumS {X : Cx} {e : Expr} {ta tk : TA} {p pos tpos : Pos} {elts : List Expr} {kk : Nat} {kws : List Keyword} (hg : Gl X "enumerate") (hm : X.mg "enumerate" = none) (ha : PA X [e] ta) (hk : PK X kws tk)
    (hs : starEach [e] X.env = (false, eval e X.env) :: starEach [] X.env := by rfl) (hpl : (backTo pos (starEach [e] X.env)).any (·.1) = false := by rfl)
    (hall : (backToKw pos (keywordEach kws X.env)).all (·.1.isSome) = true := by rfl) (hnone : (backToKw pos (keywordEach kws X.env)).any (·.1.isNone) = false := by rfl)
    (hks : (backToKw pos (keywordEach kws X.env)).filterMap (·.1) = [Str.ofString "start"] := by rfl) :
    PI X (.Tuple elts kk tpos) (.Call (.Name "enumerate" p) [e] kws pos) (iEnumS ta tk) := by
  refine ⟨fun pins s σ H R I h => ?_⟩
  refine wpAny_Call_Name_kw (ld_blt I hg hm boot_enumerate ?_)
  refine callWith_type_kw (thn (ha.run pos pins s σ H _ I h) fun us s1 ⟨vs, H1, I1, r1, q1⟩ => thn (hk.run pos pins s1 σ H1 _ I1 q1) fun ws s2 ⟨zs, H2, I2, r2, q2⟩ => ?_) hs hpl hall hnone
  rw [hks]
  obtain ⟨x, k, rfl, rfl, k0, k1, q⟩ := q2
  cases r1 with
  | cons ra rr =>
  cases rr
  cases r2 with
  | cons rb rr =>
  cases rr
  obtain ⟨t, rfl⟩ := ra
  obtain ⟨t2, rfl⟩ := rb
  show wpAny _ _ (call (.type "enumerate") [.str x t] [(Str.ofString "start", .int k t2)]) _ _ _
  refine enum_begins_start (begins_text x t) trivial k0 k1 fun h' he hit hsz hkeep => wpAny_pyIter_enum he ?_
  have I3 : Inv X pins σ H2 { s2 with heap := h' } := I2.kept (t' := s2.toks) hkeep
  refine ⟨s2.heap.objs.size + 1, [s2.heap.objs.size + 1, s2.heap.objs.size], _, _, H2, rfl, I3, turn_enumS x t k (s2.heap.objs.size + 1) s2.heap.objs.size (Nat.succ_ne_self _), ⟨Nat.zero_le _, ⟨.none, ?_⟩, ⟨_, hit, rfl, ?_⟩⟩, fun b hb => ?_, q⟩
  · simpa using he
  · rfl
  · have e' : b = s2.heap.objs.size + 1 ∨ b = s2.heap.objs.size := by simpa using hb
    have hle : s2.heap.objs.size ≤ b := by
      rcases e' with z | z
      · rw [z]; exact Nat.le_add_right _ _
      · rw [z]; exact Nat.le_refl _
    exact I2.fpOk hle (I2.hok.fresh hle)
/-! ### text * int -/
theorem mul_len {x : Str} {n : Int} (h0 : 0 ≤ n) : (Txt.mul x n).length ≤ x.length * n.toNat := by
  unfold Txt.mul
  by_cases h1 : n < 1
  · rw [if_pos h1]; exact Nat.zero_le _
  · rw [if_neg h1]
    by_cases h2 : (n == 1 || x.length == 0) = true
    · rw [if_pos h2]
      have : 1 ≤ n.toNat := by omega
      exact Nat.le_mul_of_pos_right _ this
    · rw [if_neg h2]
      show ((List.replicate n.toNat x.cps).foldl (· ++ ·) #[]).size ≤ x.length * n.toNat
      rw [size_reps]
      show 0 + n.toNat * x.cps.size ≤ x.cps.size * n.toNat
      rw [Nat.mul_comm]
      omega
theorem op_mulS {X : Cx} : OpR X (binaryOp .Mult) (fun x y H Q => ∃ z k, x = .str z ∧ y = .int k ∧ 0 ≤ k ∧ k ≤ 16777216 ∧ z.length * k.toNat ≤ sizeLine ∧ Q (.str (Txt.mul z k)) H) := by
  intro pins s σ H x y v u Q I rx ry h
  obtain ⟨z, k, rfl, rfl, k0, k1, hz, q⟩ := h
  obtain ⟨t, rfl⟩ := rx
  obtain ⟨t', rfl⟩ := ry
  refine SB.mul ⟨?_, fun h1 h2 h3 => ?_, fun _ _ => ?_⟩ fun t2 tk => ⟨.str (Txt.mul z k), H, I.tok _, ⟨_, rfl⟩, q⟩
  · rw [decide_eq_false (by omega), decide_eq_false (by omega)]; rfl
  · have hk1 : 1 ≤ k.toNat := by omega
    have h4 : z.length ≤ z.length * k.toNat := Nat.le_mul_of_pos_right _ hk1
    have h5 : sizeLine = 16777216 := by decide
    have e : ((z.length * k.toNat : Nat) : Int) = (z.length : Int) * k := by rw [Int.natCast_mul, Int.toNat_of_nonneg k0]
    have h6 : (z.length : Int) ≤ (2 ^ 63 - 1) / k := Int.le_ediv_of_mul_le (by omega) (by omega)
    omega
  · unfold Builtin.Str.tooLong
    exact decide_eq_false (by omega)
/-! ### text[::-1] -/
def revS (x : Str) : Str := ⟨x.cps.toList.reverse.toArray⟩
theorem revS_len (x : Str) : (revS x).length = x.length := by
  show x.cps.toList.reverse.toArray.size = x.cps.size
  simp
theorem sliceBy_rev (x : Str) (u : Tok) : Txt.sliceBy x none none (-1, u) = revS x := by
  refine TL.ext_tl ?_
  show (Txt.sliceBy x none none (-1, u)).cps.toList = x.cps.toList.reverse
  rw [step_rev_list]
  refine List.ext_getElem (by simp [Str.length]) fun i h1 h2 => ?_
  have hi : i < x.cps.size := by simpa [Str.length] using h1
  have hj : x.length - 1 - i < x.cps.size := by
    show x.cps.size - 1 - i < x.cps.size
    omega
  simp only [List.getElem_map, List.getElem_range, List.getElem_reverse, Array.getElem_toList]
  show x.cps.getD (x.length - 1 - i) 0 = _
  unfold Array.getD
  rw [dif_pos hj]
  rfl
def tRevS (te : TE) : TE := fun σ H Q => te σ H fun x H1 => ∃ z, x = .str z ∧ z.length ≤ sizeLine ∧ Q (.str (revS z)) H1
theorem pe_revS {X : Cx} {e : Expr} {te : TE} {k : Nat} {p1 p2 p3 pos : Pos} (he : PE X e te) : PE X (.Subscript e (.Slice none none (some (.UnaryOp .USub (.Constant (.int 1) k p1) p2)) p3) pos) (tRevS te) := by
  refine ⟨fun pins s σ H Q I h => ?_⟩
  refine Subscript_ (thn (he.run pins s σ H _ I h) fun v s1 ⟨x, H1, I1, r1, q1⟩ => ?_)
  obtain ⟨z, rfl, hz, q⟩ := q1
  obtain ⟨t, rfl⟩ := r1
  have hst : PO X (some (.UnaryOp .USub (.Constant (.int 1) k p1) p2)) (tPart (tUn (rU fun i => .int (-i)) (tC (.int 1)))) := po_some (pe_un un_neg pe_int)
  refine wpAny_Slice (thn (po_none.run pins s1 σ H1 (fun o H2 => o = none ∧ H2 = H1) I1 ⟨rfl, rfl⟩) fun vl s2 ⟨l, H2, I2, pl, el, e2⟩ => ?_)
  subst el e2
  refine thn (po_none.run pins s2 σ H2 (fun o H3 => o = none ∧ H3 = H2) I2 ⟨rfl, rfl⟩) fun vu s3 ⟨u, H3, I3, pu, eu, e3⟩ => ?_
  subst eu e3
  refine thn (hst.run pins s3 σ H3 (fun o H4 => o = some (-1) ∧ H4 = H3) I3 ⟨1, rfl, -1, rfl, rfl, rfl⟩) fun vs s4 ⟨o, H4, I4, ps, eo, e4⟩ => ?_
  subst eo e4
  have I5 : Inv X pins σ H4 { s4 with heap := s4.heap.push { cls := .type "slice", data := .fields #[vl, vu, vs] } } := I4.kept (t' := s4.toks) fun b ob q => Heap.get?_push_of_some _ q
  obtain ⟨l, rfl, hl⟩ := IsPart.raw pl
  obtain ⟨w, rfl, hw⟩ := IsPart.raw pu
  obtain ⟨st, rfl, hst2⟩ := IsPart.raw ps
  have el : l = none := by cases l with | none => rfl | some _ => cases hl
  have ew : w = none := by cases w with | none => rfl | some _ => cases hw
  obtain ⟨tk, est⟩ : ∃ tk, st = some (-1, tk) := by
    cases st with
    | none => cases hst2
    | some p =>
      obtain ⟨a, b⟩ := p
      have : a = -1 := Option.some.inj hst2
      exact ⟨b, by rw [this]⟩
  subst el ew est
  show wpAny (model X.prog X.w) X.A (subscriptTail e (.Slice none none (some (.UnaryOp .USub (.Constant (.int 1) k p1) p2)) p3) (.str z t) (.ref s4.heap.objs.size)) (EP X pins σ Q) X.xe { s4 with heap := s4.heap.push { cls := .type "slice", data := .fields #[partValue none, partValue none, partValue (some (-1, tk))] } }
  refine tail_any (ops := [.ref s4.heap.objs.size, .str z t]) (typeIs_str _ _ _) F.slot_str_getitem.lookup ?_ (by with_unfolding_all rfl)
  refine wpAny_getItem_str_slice (l := none) (u := none) (st := some (-1, tk)) ⟨_, Heap.get?_push_size _ rfl, rfl, rfl⟩ rfl ?_
  have hlen : (Txt.sliceBy z none none (-1, tk)).length ≤ sizeLine := by rw [sliceBy_rev, revS_len]; exact hz
  have hr := sliceBy_rev z tk
  unfold Txt.sliceBy at hr hlen
  unfold sliceMade
  have hc : ¬ ((((some ((-1 : Int), tk)).map (·.1)).getD 1 == 1 && (slicePicked z none none (some (-1, tk))).length == z.length) = true) := by
    have : ((((some ((-1 : Int), tk)).map (·.1)).getD 1 == 1)) = false := rfl
    rw [this]; simp
  rw [if_neg hc] at hr hlen ⊢
  exact ⟨hlen, .str _, H4, I5.tok _, ⟨_, rfl⟩, by rw [hr]; exact q⟩
/-! ### great powers -/
def CPowB (i j : Int) : Prop := 0 ≤ j ∧ (Builtin.Int.intBits i : Int) * j ≤ 2 ^ 27
theorem op_powB {X : Cx} : OpR X (binaryOp .Pow) (rI CPowB fun i j => .int (i ^ j.toNat)) := opI fun _ _ _ _ _ _ _ hc q => pow_int hc.1 hc.2 q
/-! ### a list's items behind a written text's sum: a token is out -/
theorem pa_litAdd {X : Cx} {b : Expr} {es : List Expr} {tb : TE} {ta : TA} {x : Str} {j : Nat} {cp bp : Pos} (hb : PE X b tb) (hr : PAT X es ta)
    (hs : starEach (.BinOp (.Constant (.str x) j cp) .Add b bp :: es) X.env = (false, eval (.BinOp (.Constant (.str x) j cp) .Add b bp) X.env) :: starEach es X.env := by rfl) :
    PA X (.BinOp (.Constant (.str x) j cp) .Add b bp :: es) (tCons (tOp (fun u v H Q => ∃ i k, u = .str i ∧ v = .str k ∧ i.length + k.length ≤ sizeLine ∧ Q (.str (i ++ k)) H) (tC (.str x)) tb) ta) := by
  refine ⟨fun pos pins s σ H Q I h => ?_⟩
  rw [hs]
  show wpAny _ _ (spliced ((false, eval (.BinOp (.Constant (.str x) j cp) .Add b bp) X.env) :: backTo pos (starEach es X.env))) _ _ s
  refine Calls.spliced_cons (wpAny_BinOp (Calls.Constant_str ?_))
  have I1 : Inv X pins σ H { s with toks := s.toks + 1 } := I.tok _
  refine wpAny_mono (PySem.wpAny_toks (hb.run pins { s with toks := s.toks + 1 } σ H _ I1 h)) (fun u s2 q => ?_) fun _ _ z => z.2
  obtain ⟨hk, y, H2, I2, r2, q2⟩ := q
  refine wpAny_mono (PySem.wpAny_toks (op_add_str pins s2 σ H2 (.str x) y (.str x s.toks) u (fun w H3 => ta σ H3 fun xs H4 => Q (w :: xs) H4) I2 ⟨_, rfl⟩ r2 q2)) (fun v s3 q => ?_) fun _ _ z => z.2
  obtain ⟨hk3, w, H3, I3, r3, q3⟩ := q
  have h1 : 1 ≤ s3.toks := by
    have : s.toks + 1 ≤ s2.toks := hk
    omega
  exact thn (hr pos pins s3 σ H3 _ h1 I3 q3) fun us s4 ⟨xs, H4, I4, r4, q4⟩ => ⟨w :: xs, H4, I4, .cons r3 r4, q4⟩
end Ev

set_option autoImplicit false
set_option maxHeartbeats 4000000
namespace St6
open PySem PySem.Spec PyProof.Rows L2 Tg Cc TL
open Ev (op_mulS)
/-! the law's own look at values, values at the bounds, the law -/
def spOfSortL (K : PySem.W.Frag) : Sp := fun vs H Q _ => ∃ v d s, vs = [.str s, v] ∧ Th K H v d ∧ Ok d ∧ s ∈ sorts ∧ ∀ H', Same H H' → Q (.bl (ofSort s d)) H'
/-- the signs of a text that texts don't have -/
def bads (l : List Nat) : List Str := (l.filter fun c => !signB c).map fun c => ⟨#[c]⟩
theorem bads_snoc (l : List Nat) (c : Nat) : bads (l ++ [c]) = bads l ++ (if signB c = true then [] else [⟨#[c]⟩]) := by
  unfold bads
  rw [List.filter_append, List.map_append]
  cases h : signB c <;> simp [h]
theorem bads_nil (l : List Nat) : (bads l).isEmpty = l.all signB := by
  unfold bads
  induction l with
  | nil => rfl
  | cons c r ih =>
    cases h : signB c
    · simp [h]
    · simp [h] at ih ⊢
      exact ih
theorem nots_nil (f : Nat → Bool) : ∀ n : Nat, (((List.range n).filter fun k => !f k).map fun k : Nat => PyData.int ((0 : Int) + (k : Int))).isEmpty = (List.range n).all f := fun n => by
  rw [List.isEmpty_map]
  generalize List.range n = l
  induction l with
  | nil => rfl
  | cons c r ih =>
    cases h : f c
    · simp [h]
    · simp [h] at ih ⊢
      exact ih
theorem zip_all {fs : List (Str × Str)} {ds : List PyData} (h : ds.length = fs.length) (f : Nat → Bool) (hf : ∀ k d g, ds[k]? = some d → fs[k]? = some g → f k = ofSort g.2 d) : (List.range fs.length).all f = (ds.zip fs).all fun x => ofSort x.2.2 x.1 := by
  rw [Bool.eq_iff_iff, List.all_eq_true, List.all_eq_true]
  constructor
  · intro a x hx
    obtain ⟨k, hk⟩ := List.mem_iff_getElem?.mp hx
    rw [List.getElem?_zip_eq_some] at hk
    rw [← hf k _ _ hk.1 hk.2]
    exact a k (List.mem_range.mpr (List.getElem?_eq_some_iff.mp hk.2).1)
  · intro a k hk
    have hk := List.mem_range.mp hk
    rw [hf k _ _ (List.getElem?_eq_getElem (by omega)) (List.getElem?_eq_getElem hk)]
    exact a (_, _) (List.mem_iff_getElem?.mpr ⟨k, List.getElem?_zip_eq_some.mpr ⟨List.getElem?_eq_getElem (by omega), List.getElem?_eq_getElem hk⟩⟩)
theorem shaped_ints (l : List Int) : SeqAt.shaped (.list (l.map PyData.int)) = true := PySem.W.ke_shaped_ints l
section
variable {P : Program} {w : World} {K : PySem.W.Frag} {mg : Str → Option Value} {base : Heap}
theorem sclwhole : FnScope ["thing"] ["thing"] (defScope sLawWhole) := ⟨rfl, rfl, rfl, by decide +kernel, rfl, by decide +kernel, by decide +kernel⟩
theorem ok_lwhole {f : Addr} {fd : FuncData} (F : FnP K "_law_whole" sLawWhole f fd)  (mb_isinstance : mg "isinstance" = none) (mb_int : mg "int" = none) (mb_bool : mg "bool" = none)   : FnOk P w K mg base CX0 1 f fd ["thing"] (spWhole K) := by
  refine F.ok sclwhole (fun vs H Q E h => ?_) (fun cdv A outer s H vs Q E hr h => ?_)
  · obtain ⟨v, d, rfl, _⟩ := h
    rfl
  · obtain ⟨v, d, rfl, hT, hB, q⟩ := h
    have hu := hu_of hr
    refine ⟨_, PSs.nox (pss_one (ps_ret (pe_and (pe_callB call_isi (by rfl) mb_isinstance (by decide +kernel) (pa_cons (pv 0) (pa_cons (pe_bltn (v := .ty "int") (by rfl) mb_int (by decide +kernel) rfl) pa_nil))) (pe_one (pe_not (pe_callB call_isi (by rfl) mb_isinstance (by decide +kernel) (pa_cons (pv 0) (pa_cons (pe_bltn (v := .ty "bool") (by rfl) mb_bool (by decide +kernel) rfl) pa_nil)))))))), ?_⟩
    refine ⟨_, rfl, v, .ty "int", _, _, _, rfl, .ty "int", hT.ty, kit_ty (kit_int d), _, rfl, ?_⟩
    rw [whole_is] at q
    cases hi : isInt d with
    | false =>
      rw [hi] at q
      exact iteF (q H (Same.refl H))
    | true =>
      rw [hi] at q
      exact iteT ⟨_, rfl, v, .ty "bool", _, _, _, rfl, .ty "bool", hT.ty, kit_ty (kit_bool d), _, rfl, q H (Same.refl H)⟩
theorem sclofsort : FnScope ["sort", "thing", "sign"] ["sort", "thing"] (defScope sLawOfSort) := ⟨rfl, rfl, rfl, by decide +kernel, rfl, by decide +kernel, by decide +kernel⟩
theorem ok_lofsort {f : Addr} {fd : FuncData} (F : FnP K "_law_of_sort" sLawOfSort f fd) {f__law_whole : Addr} {fd__law_whole : FuncData} (c__law_whole : Cl P w K mg base CX0 "_law_whole" 1 ["thing"] (spWhole K) f__law_whole fd__law_whole) {f__law_is_word : Addr} {fd__law_is_word : FuncData} (c__law_is_word : Cl P w K mg base CX0 "_law_is_word" 1 ["thing", "most"] (spWord K) f__law_is_word fd__law_is_word) (mb_isinstance : mg "isinstance" = none) (mb_str : mg "str" = none) (mb_len : mg "len" = none) (mb_ord : mg "ord" = none)   : FnOk P w K mg base CX0 2 f fd ["sort", "thing"] (spOfSortL K) := by
  refine F.ok sclofsort (fun vs H Q E h => ?_) (fun cdv A outer s H vs Q E hr h => ?_)
  · obtain ⟨v, d, s, rfl, _⟩ := h
    rfl
  · obtain ⟨v, d, s, rfl, hT, hB, hs_, q⟩ := h
    have hu := hu_of hr
    have hs := szl
    refine ⟨_, PSs.nox (pss_cons (ps_if (pt_cmpR op_in_seq (pv 0) (pe_tup (pa_cons (pe_str) (pa_cons (pe_str) pa_nil))) (by with_unfolding_all rfl)) (pss_one (ps_ret (pe_call c__law_whole.ok (hr.mono (by decide)) (by rfl) c__law_whole.m c__law_whole.kp c__law_whole.b .nil pass0 (pa_cons (pv 1) pa_nil)))) (pss_nil))
      (pss_cons (ps_if (pt_cmpR op_eq (pv 0) (pe_str) (nomark _)) (pss_one (ps_ret (pe_call c__law_is_word.ok (hr.mono (by decide)) (by rfl) c__law_is_word.m c__law_is_word.kp c__law_is_word.b .nil pass0 (pa_cons (pv 1) (pa_cons (pe_int) pa_nil))))) (pss_nil))
      (pss_cons (ps_if (PW.pt (pw_or (pt_not (pt_val (pe_callB call_isi (by rfl) mb_isinstance (by decide +kernel) (pa_cons (pv 1) (pa_cons (pe_bltn (v := .ty "str") (by rfl) mb_str (by decide +kernel) rfl) pa_nil))))) (pw_or1 (pt_cmpR op_gt (pe_callB call_len_str (by rfl) mb_len (by decide +kernel) (pa_cons (pv 1) pa_nil)) (pe_int) (nomark _))))) (pss_one (ps_ret (pe_bl))) (pss_nil))
      (pss_one (ps_ret (pe_cmpR (op_eqD hr.units) (pe_lc (own := [("sign", 2)]) (g := gName 2) rfl sclofsort.nd (pi_str (pv 1)) (blkOk_by (own := [("sign", 2)]) (N := ["sort", "thing", "sign"]) (sc := defScope sLawOfSort) (by decide +kernel)) (fun _ _ _ _ _ => pg_name (i := 2) sclofsort.nd rfl (Or.inl rfl)) (fun _ _ _ _ _ => pts_one (PW.pt (pw_or (pt_not (pt_chain op_lt op_lt (pe_int) (pe_callB call_ord (by rfl) mb_ord (by decide +kernel) (pa_cons (pv 2) pa_nil)) (pe_int))) (pw_or1 (pt_cmpR op_eq (pe_callB call_ord (by rfl) mb_ord (by decide +kernel) (pa_cons (pv 2) pa_nil)) (pe_int) (nomark _)))))) (fun _ _ _ _ _ => pv 2)) (pe_lst (pa_nil)) (nomark _))))))), ?_⟩
    refine ⟨_, rfl, by show 2 ≤ sizeLine; decide, fun t nt => ⟨t, (["code", "amount"] : List Str).map V.str, rfl, .inr (SqT.of upd_same), rfl, by decide +kernel, _, rfl, ?_⟩⟩
    rw [if_neg (by decide), in_strs]
    have sT := newS (o := .tup [.str "code", .str "amount"]) nt
    have hT1 := hT.kept (kept_same sT)
    unfold ofSort at q
    refine ite2 (fun e => ?_) (fun e => ?_)
    · have hm : s = "code" ∨ s = "amount" := by simpa using of_decide_eq_true e
      have n1 : s ≠ "word" := by rcases hm with rfl | rfl <;> decide
      have n2 : s ≠ "text" := by rcases hm with rfl | rfl <;> decide
      rw [if_neg n1, if_neg n2] at q
      exact ⟨_, rfl, v, d, rfl, hT1, hB, fun H1 s1 => q H1 (sT.trans s1)⟩
    · have hm : s = "word" ∨ s = "text" := by
        have h1 : ¬ (s = "code" ∨ s = "amount") := fun z => e (decide_eq_true (by simpa using z))
        have h2 : s = "code" ∨ s = "amount" ∨ s = "word" ∨ s = "text" := by simpa [sorts] using hs_
        rcases h2 with z | z | z | z
        · exact absurd (.inl z) h1
        · exact absurd (.inr z) h1
        · exact .inl z
        · exact .inr z
      refine ⟨_, rfl, rfl, _, rfl, ite2 (fun e2 => ?_) (fun e2 => ?_)⟩
      · rw [dec_str] at e2
        rw [if_pos (of_decide_eq_true e2)] at q
        exact ⟨_, rfl, v, d, 8, rfl, hT1, hB, fun H1 s1 => q H1 (sT.trans s1)⟩
      · rw [dec_str] at e2
        have n1 : s ≠ "word" := fun z => e2 (decide_eq_true z)
        have es : s = "text" := hm.elim (fun z => absurd z n1) id
        rw [if_neg n1, if_pos es] at q
        refine ⟨_, rfl, v, .ty "str", _, _, _, rfl, .ty "str", hT1.ty, kit_ty (kit_str d), _, rfl, ?_⟩
        cases hst : isStr d with
        | false =>
          refine iteT (iteT ?_)
          rw [txtB_not hst, Bool.false_and] at q
          exact q _ sT
        | true =>
          obtain ⟨z, rfl⟩ := isStr_eq hst
          obtain rfl := hT.asStr
          obtain ⟨hz, hA⟩ := bd_str.mp hB
          have val : (txtB (.str z) && lenB 40 (.str z)) = (z.cps.toList.all signB && decide (z.length ≤ 40)) := rfl
          rw [val] at q
          refine iteF ⟨_, rfl, z, rfl, lineN hz, _, _, rfl, rfl, _, rfl, ite2 (fun e3 => ?_) (fun e3 => ?_)⟩
          · have c : ¬ z.length ≤ 40 := by
              have := of_decide_eq_true e3
              omega
            rw [decide_eq_false c, Bool.and_false] at q
            exact q _ sT
          · have c : z.length ≤ 40 := by
              have : ¬ ((40 : Int) < (z.length : Int)) := fun y => e3 (decide_eq_true y)
              omega
            rw [decide_eq_true c, Bool.and_true] at q
            refine ⟨_, rfl, z, rfl, fun D nD => ?_⟩
            generalize upd H t (.tup [.str "code", .str "amount"]) = HA at sT nD ⊢
            refine lc_it (walk_str (z := z)) (fun i H' => But D HA H' ∧ H' D = some (.lst ((bads (z.cps.toList.take i)).map V.str))) ⟨But.refl.upd, upd_same⟩ (fun _ _ _ _ => trivial) ?_ ?_
            · rintro i x H1 H2 hi ⟨b, hD⟩ ⟨rfl, c2, hc, rfl⟩
              have hc2 : z.cps.toList[i]? = some c2 := by rw [Array.getElem?_toList]; exact hc
              have hl : z.length = z.cps.size := rfl
              have l1 : (⟨#[c2]⟩ : Str).length = 1 := rfl
              have lh : ((bads (z.cps.toList.take i)).map V.str).length ≤ i := by
                unfold bads
                rw [List.length_map, List.length_map]
                exact Nat.le_trans (List.length_filter_le _ _) (by rw [List.length_take]; omega)
              have ev : signB c2 = ((decide (32 ≤ c2) && decide (c2 ≤ 126)) && decide (c2 ≠ 37)) := rfl
              have keep : signB c2 = true → But D HA H2 ∧ H2 D = some (.lst ((bads (z.cps.toList.take (i + 1))).map V.str)) := fun sb => by
                refine ⟨b, ?_⟩
                rw [hD, List.take_succ, hc2]
                show _ = some (HO.lst ((bads (z.cps.toList.take i ++ [c2])).map V.str))
                rw [bads_snoc, if_pos sb, List.append_nil]
              have put : signB c2 = false → ∃ acc, H2 D = some (.lst acc) ∧ acc.length < sizeLine ∧ (But D HA (upd H2 D (.lst (acc ++ [.str ⟨#[c2]⟩]))) ∧ (upd H2 D (.lst (acc ++ [.str ⟨#[c2]⟩]))) D = some (.lst ((bads (z.cps.toList.take (i + 1))).map V.str))) := fun sb => by
                refine ⟨_, hD, by omega, b.upd, ?_⟩
                rw [upd_same, List.take_succ, hc2]
                show _ = some (HO.lst ((bads (z.cps.toList.take i ++ [c2])).map V.str))
                rw [bads_snoc, if_neg (by rw [sb]; exact Bool.false_ne_true), List.map_append]
                rfl
              refine ⟨rfl, _, rfl, ⟨#[c2]⟩, rfl, l1, _, _, rfl, rfl, _, rfl, ite2 (fun e4 => ⟨_, _, rfl, rfl, _, rfl, ite2 (fun e5 => ?_) (fun e5 => ?_)⟩) (fun e4 => ⟨_, rfl, iteT ⟨_, rfl, put ?_⟩⟩)⟩
              · have c5 : ¬ c2 ≤ 126 := fun y => by
                  rw [decide_eq_true (show (((⟨#[c2]⟩ : Str).cps.getD 0 0 : Nat) : Int) < 127 from by show (c2 : Int) < 127; omega)] at e5
                  cases e5
                exact iteT ⟨_, rfl, put (by rw [ev, decide_eq_false c5, Bool.and_false, Bool.false_and])⟩
              · have c4 : 32 ≤ c2 := by
                  have : (31 : Int) < (c2 : Int) := of_decide_eq_true e4
                  omega
                have c5 : c2 ≤ 126 := by
                  have h5 : (!decide ((((⟨#[c2]⟩ : Str).cps.getD 0 0 : Nat) : Int) < 127)) = false := by simpa using e5
                  rw [Bool.not_eq_false'] at h5
                  have : (c2 : Int) < 127 := of_decide_eq_true h5
                  omega
                refine ⟨_, rfl, ⟨#[c2]⟩, rfl, l1, rfl, _, rfl, ite2 (fun e6 => ?_) (fun e6 => ?_)⟩
                · have c6 : c2 = 37 := by
                    have : V.int (c2 : Int) = V.int 37 := of_decide_eq_true e6
                    have := V.int.inj this
                    omega
                  exact ⟨_, rfl, put (by rw [ev, decide_eq_false (show ¬ c2 ≠ 37 by omega), Bool.and_false])⟩
                · have c6 : c2 ≠ 37 := fun y => e6 (decide_eq_true (by rw [y]; rfl))
                  exact keep (by rw [ev, decide_eq_true c4, decide_eq_true c5, decide_eq_true c6]; rfl)
              · have c4 : ¬ 32 ≤ c2 := fun y => e4 (decide_eq_true (show (31 : Int) < (c2 : Int) by omega))
                rw [ev, decide_eq_false c4, Bool.false_and, Bool.false_and]
            · rintro H' ⟨b, hD⟩
              rw [List.take_of_length_le (by rw [Array.length_toList]; exact Nat.le_refl _)] at hD
              have h1 : ∀ y ∈ bads z.cps.toList, As y := fun y hy => by
                obtain ⟨c, hc, rfl⟩ := List.mem_map.mp hy
                have := hA c (List.mem_filter.mp hc).1
                intro k hk
                have : k = c := by simpa using hk
                omega
              refine ⟨Nat.zero_le _, fun p np => ⟨.list ((bads z.cps.toList).map PyData.str), .list [], .lst (SqL.of (newS np _ _ hD)) (dpAll_strs _), .lst (SqL.of upd_same) .nil, shaped_strs h1, by decide +kernel, ?_⟩⟩
              rw [eqv_nil, List.isEmpty_map, bads_nil]
              exact q _ (sT.trans ((b.new nD).trans (newS np)))
end
end St6

set_option autoImplicit false
set_option maxHeartbeats 4000000
/-! a text against any thing: == and != -/
namespace Eqx
open PySem PySem.W PySem.SeqAt
open AutoSeq1 (wpAny_loadPart')
open MeetsSeq
theorem str_no_dict (b : Str) (u : Tok) (l : Addr) (es : Array DictEntry) (ep : Nat) (c : Value) (dd : Option Addr) (sl : Array (Option Value)) :
    Meets (Builtin.«str.__eq__» ⟨[.str b u, .ref l], []⟩) (fun _ R s => s.heap.get? l = some { cls := c, dict := dd, data := .dict es ep, slots := sl } ∧ R (.ok (.ret .notImplemented)) s) := by
  refine .of_wp fun prog w A R s h => ?_
  obtain ⟨hp, g, d, tk, os⟩ := s
  obtain ⟨hl, h⟩ := h
  wp_walk using wpAny_loadPart' hl, wpAny_load hl
  exact ⟨_, rfl, h⟩
theorem str_no_dict2 (b : Str) (u : Tok) (l : Addr) (es : Array DictEntry) (ep : Nat) (c : Value) (dd : Option Addr) (sl : Array (Option Value)) :
    Meets (Builtin.«str.__ne__» ⟨[.str b u, .ref l], []⟩) (fun _ R s => s.heap.get? l = some { cls := c, dict := dd, data := .dict es ep, slots := sl } ∧ R (.ok (.ret .notImplemented)) s) := by
  refine .of_wp fun prog w A R s h => ?_
  obtain ⟨hp, g, d, tk, os⟩ := s
  obtain ⟨hl, h⟩ := h
  wp_walk using wpAny_loadPart' hl, wpAny_load hl
  exact ⟨_, rfl, h⟩
section
variable {prog : Program} {w : World} {A : Around} {E : Value → Shared → Prop} {s : Shared}
theorem dict_no_str {a : Addr} {b : Str} {u : Tok} {Q : Value → Shared → Prop} (ha : s.TypeIs (.ref a) "dict") (q : Q .notImplemented s) : wpAny (model prog w) A (call (.builtin "dict.__eq__") [.ref a, .str b u]) Q E s := by
  refine wpAny_call_entry PySem.F.slot_dict_eq ha PySem.F.entry_dict_eq ?_ (PySem.F.args_dict_eq_2 _ _)
  show wpAny _ _ (Builtin.Dict.dictSlotArgs "__eq__" ⟨[.ref a, .str b u], []⟩ >>= _) _ _ s
  refine wpAny_bind ?_
  unfold Builtin.Dict.dictSlotArgs
  refine wpAny_bind (wpAny_notOrdered_dict ha (wpAny_pure ?_))
  refine wpAny_bind (wpAny_isInstance (T := "str") (typeIs_str s b u) PySem.F.sub_str_dict ?_)
  exact wpAny_bind (wpAny_rule (wpAny_pure ⟨_, rfl, q⟩))
theorem dict_no_str2 {a : Addr} {b : Str} {u : Tok} {Q : Value → Shared → Prop} (ha : s.TypeIs (.ref a) "dict") (q : Q .notImplemented s) : wpAny (model prog w) A (call (.builtin "dict.__ne__") [.ref a, .str b u]) Q E s := by
  refine wpAny_call_entry PySem.F.slot_dict_ne ha PySem.F.entry_dict_ne ?_ (PySem.F.args_dict_ne_2 _ _)
  show wpAny _ _ (Builtin.Dict.dictSlotArgs "__ne__" ⟨[.ref a, .str b u], []⟩ >>= _) _ _ s
  refine wpAny_bind ?_
  unfold Builtin.Dict.dictSlotArgs
  refine wpAny_bind (wpAny_notOrdered_dict ha (wpAny_pure ?_))
  refine wpAny_bind (wpAny_isInstance (T := "str") (typeIs_str s b u) PySem.F.sub_str_dict ?_)
  exact wpAny_bind (wpAny_rule (wpAny_pure ⟨_, rfl, q⟩))
end
/-- an object that is just a dict -/
def DictAt (h : Heap) (a : Addr) : Prop := ∃ o es ep, h.get? a = some o ∧ o.cls = .type "dict" ∧ o.data = .dict es ep
section
variable {A : Around} {s : Shared}
theorem eq_str_dict {l : Addr} (b : Str) (u : Tok) (hl : DictAt s.heap l) (hu : A.units < cLine) : RcAt A s (.str b u) (.ref l) false := fun prog w E Q h => by
  obtain ⟨⟨cls, dd, data, sl⟩, es, ep, ho, hc, hd⟩ := hl
  simp only at hc hd
  subst hc hd
  exact rc_eq_decline_or (k := false) (typeIs_str s b u) ⟨_, ho, rfl⟩ (by decide) F.sub_dict_str F.slot_str_eq F.slot_dict_eq_refl
    (fun _ hq => call_meets F.slot_str_eq (typeIs_str s b u) F.entry_str_eq (F.args_str_eq_2 _ _) (str_no_dict b u l es ep (.type "dict") dd sl) ⟨ho, hq⟩)
    (fun _ hq => dict_no_str ⟨_, ho, rfl⟩ hq)
    (fun _ hq => wpAny_of_eq (rfl : isSame (.str b u) (.ref l) = pure false) hq) (.inr hu) h
theorem eq_dict_str {l : Addr} (b : Str) (u : Tok) (hl : DictAt s.heap l) (hu : A.units < cLine) : RcAt A s (.ref l) (.str b u) false := fun prog w E Q h => by
  obtain ⟨⟨cls, dd, data, sl⟩, es, ep, ho, hc, hd⟩ := hl
  simp only at hc hd
  subst hc hd
  exact rc_eq_decline_or (k := false) ⟨_, ho, rfl⟩ (typeIs_str s b u) (by decide) F.sub_str_dict F.slot_dict_eq F.slot_str_eq_refl
    (fun _ hq => dict_no_str ⟨_, ho, rfl⟩ hq)
    (fun _ hq => call_meets F.slot_str_eq_refl (typeIs_str s b u) F.entry_str_eq (F.args_str_eq_2 _ _) (str_no_dict b u l es ep (.type "dict") dd sl) ⟨ho, hq⟩)
    (fun _ hq => wpAny_of_eq (rfl : isSame (.ref l) (.str b u) = pure false) hq) (.inr hu) h
theorem ne_str_dict {l : Addr} (b : Str) (u : Tok) (hl : DictAt s.heap l) (hu : A.units < cLine) : RcNeAt A s (.str b u) (.ref l) true := fun prog w E Q h => by
  obtain ⟨⟨cls, dd, data, sl⟩, es, ep, ho, hc, hd⟩ := hl
  simp only at hc hd
  subst hc hd
  exact rc_ne_decline_or (k := false) (typeIs_str s b u) ⟨_, ho, rfl⟩ (by decide) F.sub_dict_str F.slot_str_ne F.slot_dict_ne_refl
    (fun _ hq => call_meets F.slot_str_ne (typeIs_str s b u) F.entry_str_ne (F.args_str_ne_2 _ _) (str_no_dict2 b u l es ep (.type "dict") dd sl) ⟨ho, hq⟩)
    (fun _ hq => dict_no_str2 ⟨_, ho, rfl⟩ hq)
    (fun _ hq => wpAny_of_eq (rfl : isSame (.str b u) (.ref l) = pure false) hq) (.inr hu) h
theorem ne_dict_str {l : Addr} (b : Str) (u : Tok) (hl : DictAt s.heap l) (hu : A.units < cLine) : RcNeAt A s (.ref l) (.str b u) true := fun prog w E Q h => by
  obtain ⟨⟨cls, dd, data, sl⟩, es, ep, ho, hc, hd⟩ := hl
  simp only at hc hd
  subst hc hd
  exact rc_ne_decline_or (k := false) ⟨_, ho, rfl⟩ (typeIs_str s b u) (by decide) F.sub_str_dict F.slot_dict_ne F.slot_str_ne_refl
    (fun _ hq => dict_no_str2 ⟨_, ho, rfl⟩ hq)
    (fun _ hq => call_meets F.slot_str_ne_refl (typeIs_str s b u) F.entry_str_ne (F.args_str_ne_2 _ _) (str_no_dict2 b u l es ep (.type "dict") dd sl) ⟨ho, hq⟩)
    (fun _ hq => wpAny_of_eq (rfl : isSame (.ref l) (.str b u) = pure false) hq) (.inr hu) h
end
end Eqx
namespace Tg
open PySem PySem.Spec PyProof.Rows L2 PySem.SeqAt
/-- two things, one of them a text, are the same text -/
def sameS : PyData → PyData → Bool
  | .str a, .str b => decide (a = b)
  | _, _ => false
def rEqT (K : PySem.W.Frag) : R2 := fun x y H Q => ∃ d e, Th K H x d ∧ Th K H y e ∧ (isStr d = true ∨ isStr e = true) ∧ Q (.bl (sameS d e)) H
def rNeT (K : PySem.W.Frag) : R2 := fun x y H Q => ∃ d e, Th K H x d ∧ Th K H y e ∧ (isStr d = true ∨ isStr e = true) ∧ Q (.bl (!sameS d e)) H
section
variable {X : Cx} {pins : List (Addr × Obj)} {σ : L2.St} {H : Hp} {s : Shared}
theorem refT (I : Inv X pins σ H s) {a : Addr} {d : PyData} (h : Th X.K H (.ref a) d) : (∃ its, s.heap.IsList a its) ∨ (∃ its, s.heap.IsTuple a its) ∨ Eqx.DictAt s.heap a := by
  cases h with
  | lst e _ =>
    obtain ⟨its, _, hl, _⟩ := I.list e
    exact .inl ⟨_, hl.isList⟩
  | tup e _ =>
    obtain ⟨its, _, hl, _⟩ := I.tuple e
    exact .inr (.inl ⟨_, hl⟩)
  | dct e _ =>
    obtain ⟨_, _, _, _, o, es, ep, ho, hx, hd, _⟩ := I.hok _ _ e
    exact .inr (.inr ⟨o, es, ep, ho, hx.1, hd⟩)
theorem op_eqT (hu : X.A.units < cLine) : OpR X (compareOp .Eq) (rEqT X.K) := by
  intro pins s σ H x y v u Q I rx ry h
  obtain ⟨d, e, hd, he, hs, q⟩ := h
  rcases hs with hs | hs
  · obtain ⟨z, rfl⟩ := isStr_eq hs
    obtain rfl := hd.asStr
    cases he with
    | non => exact op_eq _ _ _ _ _ _ _ _ _ I rx ry ⟨rfl, by simpa [sameS] using q⟩
    | bl b => exact op_eq _ _ _ _ _ _ _ _ _ I rx ry ⟨rfl, by simpa [sameS] using q⟩
    | int i => exact op_eq _ _ _ _ _ _ _ _ _ I rx ry ⟨rfl, by simpa [sameS] using q⟩
    | str z2 => exact op_eq _ _ _ _ _ _ _ _ _ I rx ry ⟨rfl, by simpa [sameS] using q⟩
    | lst e1 e2 =>
      obtain ⟨t, rfl⟩ := rx
      obtain rfl : u = Value.ref _ := ry
      rcases refT I (.lst e1 e2) with ⟨_, h⟩ | ⟨_, h⟩ | h
      · exact RcAt.str_list z t h hu X.prog X.w _ _ ⟨.bl false, H, I, rfl, q⟩
      · exact RcAt.str_tuple z t h hu X.prog X.w _ _ ⟨.bl false, H, I, rfl, q⟩
      · exact Eqx.eq_str_dict z t h hu X.prog X.w _ _ ⟨.bl false, H, I, rfl, q⟩
    | tup e1 e2 =>
      obtain ⟨t, rfl⟩ := rx
      obtain rfl : u = Value.ref _ := ry
      rcases refT I (.tup e1 e2) with ⟨_, h⟩ | ⟨_, h⟩ | h
      · exact RcAt.str_list z t h hu X.prog X.w _ _ ⟨.bl false, H, I, rfl, q⟩
      · exact RcAt.str_tuple z t h hu X.prog X.w _ _ ⟨.bl false, H, I, rfl, q⟩
      · exact Eqx.eq_str_dict z t h hu X.prog X.w _ _ ⟨.bl false, H, I, rfl, q⟩
    | dct e1 e2 =>
      obtain ⟨t, rfl⟩ := rx
      obtain rfl : u = Value.ref _ := ry
      rcases refT I (.dct e1 e2) with ⟨_, h⟩ | ⟨_, h⟩ | h
      · exact RcAt.str_list z t h hu X.prog X.w _ _ ⟨.bl false, H, I, rfl, q⟩
      · exact RcAt.str_tuple z t h hu X.prog X.w _ _ ⟨.bl false, H, I, rfl, q⟩
      · exact Eqx.eq_str_dict z t h hu X.prog X.w _ _ ⟨.bl false, H, I, rfl, q⟩
  · obtain ⟨z, rfl⟩ := isStr_eq hs
    obtain rfl := he.asStr
    cases hd with
    | non => exact op_eq _ _ _ _ _ _ _ _ _ I rx ry ⟨rfl, by simpa [sameS] using q⟩
    | bl b => exact op_eq _ _ _ _ _ _ _ _ _ I rx ry ⟨rfl, by simpa [sameS] using q⟩
    | int i => exact op_eq _ _ _ _ _ _ _ _ _ I rx ry ⟨rfl, by simpa [sameS] using q⟩
    | str z2 => exact op_eq _ _ _ _ _ _ _ _ _ I rx ry ⟨rfl, by simpa [sameS] using q⟩
    | lst e1 e2 =>
      obtain ⟨t, rfl⟩ := ry
      obtain rfl : v = Value.ref _ := rx
      rcases refT I (.lst e1 e2) with ⟨_, h⟩ | ⟨_, h⟩ | h
      · exact RcAt.list_str z t h hu X.prog X.w _ _ ⟨.bl false, H, I, rfl, q⟩
      · exact RcAt.tuple_str z t h hu X.prog X.w _ _ ⟨.bl false, H, I, rfl, q⟩
      · exact Eqx.eq_dict_str z t h hu X.prog X.w _ _ ⟨.bl false, H, I, rfl, q⟩
    | tup e1 e2 =>
      obtain ⟨t, rfl⟩ := ry
      obtain rfl : v = Value.ref _ := rx
      rcases refT I (.tup e1 e2) with ⟨_, h⟩ | ⟨_, h⟩ | h
      · exact RcAt.list_str z t h hu X.prog X.w _ _ ⟨.bl false, H, I, rfl, q⟩
      · exact RcAt.tuple_str z t h hu X.prog X.w _ _ ⟨.bl false, H, I, rfl, q⟩
      · exact Eqx.eq_dict_str z t h hu X.prog X.w _ _ ⟨.bl false, H, I, rfl, q⟩
    | dct e1 e2 =>
      obtain ⟨t, rfl⟩ := ry
      obtain rfl : v = Value.ref _ := rx
      rcases refT I (.dct e1 e2) with ⟨_, h⟩ | ⟨_, h⟩ | h
      · exact RcAt.list_str z t h hu X.prog X.w _ _ ⟨.bl false, H, I, rfl, q⟩
      · exact RcAt.tuple_str z t h hu X.prog X.w _ _ ⟨.bl false, H, I, rfl, q⟩
      · exact Eqx.eq_dict_str z t h hu X.prog X.w _ _ ⟨.bl false, H, I, rfl, q⟩
theorem op_neT (hu : X.A.units < cLine) : OpR X (compareOp .NotEq) (rNeT X.K) := by
  intro pins s σ H x y v u Q I rx ry h
  obtain ⟨d, e, hd, he, hs, q⟩ := h
  rcases hs with hs | hs
  · obtain ⟨z, rfl⟩ := isStr_eq hs
    obtain rfl := hd.asStr
    cases he with
    | non => exact op_ne _ _ _ _ _ _ _ _ _ I rx ry ⟨rfl, by simpa [sameS] using q⟩
    | bl b => exact op_ne _ _ _ _ _ _ _ _ _ I rx ry ⟨rfl, by simpa [sameS] using q⟩
    | int i => exact op_ne _ _ _ _ _ _ _ _ _ I rx ry ⟨rfl, by simpa [sameS] using q⟩
    | str z2 => exact op_ne _ _ _ _ _ _ _ _ _ I rx ry ⟨rfl, by simpa [sameS] using q⟩
    | lst e1 e2 =>
      obtain ⟨t, rfl⟩ := rx
      obtain rfl : u = Value.ref _ := ry
      rcases refT I (.lst e1 e2) with ⟨_, h⟩ | ⟨_, h⟩ | h
      · exact RcNeAt.str_list z t h hu X.prog X.w _ _ ⟨.bl true, H, I, rfl, q⟩
      · exact RcNeAt.str_tuple z t h hu X.prog X.w _ _ ⟨.bl true, H, I, rfl, q⟩
      · exact Eqx.ne_str_dict z t h hu X.prog X.w _ _ ⟨.bl true, H, I, rfl, q⟩
    | tup e1 e2 =>
      obtain ⟨t, rfl⟩ := rx
      obtain rfl : u = Value.ref _ := ry
      rcases refT I (.tup e1 e2) with ⟨_, h⟩ | ⟨_, h⟩ | h
      · exact RcNeAt.str_list z t h hu X.prog X.w _ _ ⟨.bl true, H, I, rfl, q⟩
      · exact RcNeAt.str_tuple z t h hu X.prog X.w _ _ ⟨.bl true, H, I, rfl, q⟩
      · exact Eqx.ne_str_dict z t h hu X.prog X.w _ _ ⟨.bl true, H, I, rfl, q⟩
    | dct e1 e2 =>
      obtain ⟨t, rfl⟩ := rx
      obtain rfl : u = Value.ref _ := ry
      rcases refT I (.dct e1 e2) with ⟨_, h⟩ | ⟨_, h⟩ | h
      · exact RcNeAt.str_list z t h hu X.prog X.w _ _ ⟨.bl true, H, I, rfl, q⟩
      · exact RcNeAt.str_tuple z t h hu X.prog X.w _ _ ⟨.bl true, H, I, rfl, q⟩
      · exact Eqx.ne_str_dict z t h hu X.prog X.w _ _ ⟨.bl true, H, I, rfl, q⟩
  · obtain ⟨z, rfl⟩ := isStr_eq hs
    obtain rfl := he.asStr
    cases hd with
    | non => exact op_ne _ _ _ _ _ _ _ _ _ I rx ry ⟨rfl, by simpa [sameS] using q⟩
    | bl b => exact op_ne _ _ _ _ _ _ _ _ _ I rx ry ⟨rfl, by simpa [sameS] using q⟩
    | int i => exact op_ne _ _ _ _ _ _ _ _ _ I rx ry ⟨rfl, by simpa [sameS] using q⟩
    | str z2 => exact op_ne _ _ _ _ _ _ _ _ _ I rx ry ⟨rfl, by simpa [sameS] using q⟩
    | lst e1 e2 =>
      obtain ⟨t, rfl⟩ := ry
      obtain rfl : v = Value.ref _ := rx
      rcases refT I (.lst e1 e2) with ⟨_, h⟩ | ⟨_, h⟩ | h
      · exact RcNeAt.list_str z t h hu X.prog X.w _ _ ⟨.bl true, H, I, rfl, q⟩
      · exact RcNeAt.tuple_str z t h hu X.prog X.w _ _ ⟨.bl true, H, I, rfl, q⟩
      · exact Eqx.ne_dict_str z t h hu X.prog X.w _ _ ⟨.bl true, H, I, rfl, q⟩
    | tup e1 e2 =>
      obtain ⟨t, rfl⟩ := ry
      obtain rfl : v = Value.ref _ := rx
      rcases refT I (.tup e1 e2) with ⟨_, h⟩ | ⟨_, h⟩ | h
      · exact RcNeAt.list_str z t h hu X.prog X.w _ _ ⟨.bl true, H, I, rfl, q⟩
      · exact RcNeAt.tuple_str z t h hu X.prog X.w _ _ ⟨.bl true, H, I, rfl, q⟩
      · exact Eqx.ne_dict_str z t h hu X.prog X.w _ _ ⟨.bl true, H, I, rfl, q⟩
    | dct e1 e2 =>
      obtain ⟨t, rfl⟩ := ry
      obtain rfl : v = Value.ref _ := rx
      rcases refT I (.dct e1 e2) with ⟨_, h⟩ | ⟨_, h⟩ | h
      · exact RcNeAt.list_str z t h hu X.prog X.w _ _ ⟨.bl true, H, I, rfl, q⟩
      · exact RcNeAt.tuple_str z t h hu X.prog X.w _ _ ⟨.bl true, H, I, rfl, q⟩
      · exact Eqx.ne_dict_str z t h hu X.prog X.w _ _ ⟨.bl true, H, I, rfl, q⟩
theorem op_eqTk {K : PySem.W.Frag} (hK : X.K = K) (hu : X.A.units < cLine) : OpR X (compareOp .Eq) (rEqT K) := hK ▸ op_eqT hu
theorem op_neTk {K : PySem.W.Frag} (hK : X.K = K) (hu : X.A.units < cLine) : OpR X (compareOp .NotEq) (rNeT K) := hK ▸ op_neT hu
end
end Tg

set_option autoImplicit false
set_option maxHeartbeats 4000000
namespace St6
open PySem PySem.Spec PyProof.Rows L2 Tg Cc Nn TL
/-! the law's own look at steps: fields, new names -/
def spLSort (K : PySem.W.Frag) : Sp := fun vs H Q _ => ∃ f fs v d, vs = [f, v] ∧ Th K H f (formD fs) ∧ fs.length ≤ 2000000 ∧ Th K H v d ∧ ∀ H', Same H H' → Q (optV (sortOf fs d)) H'
def spLNew (K : PySem.W.Frag) : Sp := fun vs H Q _ => ∃ f fs v d, vs = [f, v] ∧ Th K H f (formD fs) ∧ fs.length ≤ 2000000 ∧ Th K H v d ∧ Ok d ∧ ∀ H', Same H H' → Q (.bl (isNewB fs d)) H'
def spLIsSort (K : PySem.W.Frag) : Sp := fun vs H Q _ => ∃ v d, vs = [v] ∧ Th K H v d ∧ ∀ H', Same H H' → Q (.bl (sortB d)) H'
def isListB (n : Nat) : PyData → Bool
  | .tuple l => decide (0 < l.length) && decide (l.length ≤ n)
  | _ => false
def spLIsList (K : PySem.W.Frag) : Sp := fun vs H Q _ => ∃ v d n, vs = [v, .int (n : Nat)] ∧ Th K H v d ∧ Ok d ∧ ∀ H', Same H H' → Q (.bl (isListB n d)) H'
/-- the sorts of the fields that bear the name d -/
def hitsF (fs : Fs) (d : PyData) : List Str := (fs.filter fun x => sameS (.str x.1) d).map Prod.snd
theorem hits_head (d : PyData) : ∀ fs : Fs, (hitsF fs d).head? = sortOf fs d
  | [] => by cases d <;> rfl
  | x :: r => by
    have ih := hits_head d r
    cases d with
    | str s =>
      by_cases e : x.1 = s
      · have h1 : sameS (.str x.1) (.str s) = true := decide_eq_true e
        unfold hitsF
        rw [List.filter_cons_of_pos (p := fun x : Str × Str => sameS (.str x.1) (.str s)) h1]
        show some x.2 = getF (x :: r) s
        exact (getF_cons_pos e).symm
      · have h1 : ¬ sameS (.str x.1) (.str s) = true := fun z => e (of_decide_eq_true z)
        unfold hitsF
        rw [List.filter_cons_of_neg (p := fun x : Str × Str => sameS (.str x.1) (.str s)) h1]
        show _ = getF (x :: r) s
        rw [getF_cons_neg e]
        exact ih
    | _ =>
      unfold hitsF
      rw [List.filter_cons_of_neg (by simp [sameS])]
      exact ih
theorem hits_snoc (d : PyData) (l : Fs) (x : Str × Str) : hitsF (l ++ [x]) d = hitsF l d ++ (if sameS (.str x.1) d = true then [x.2] else []) := by
  unfold hitsF
  rw [List.filter_append, List.map_append]
  cases h : sameS (.str x.1) d <;> simp [h]
theorem first_opt (l : List Str) : atI (l.map V.str ++ [V.non]) 0 = some (optV l.head?) := by
  cases l <;> exact at0
theorem field_at {K : PySem.W.Frag} {H : Hp} {fx : List V} {fs : Fs} (hA : ThAll K H fx (fs.map fieldD)) {i : Nat} {x : V} (hx : fx[i]? = some x) : ∃ p g, fs[i]? = some g ∧ x = .ref p ∧ SqT K H p [.str g.1, .str g.2] := by
  obtain ⟨dz, hdz, tz, mz⟩ := ThAll.get2 hA hx
  rw [List.getElem?_map] at hdz
  cases hg2 : fs[i]? with
  | none =>
    rw [hg2] at hdz
    cases hdz
  | some g =>
    rw [hg2] at hdz
    obtain rfl := Option.some.inj hdz
    obtain ⟨pz, zs, rfl, hpz, hZ⟩ := tz.asTup
    obtain ⟨y0, y1, rfl, u0, u1⟩ := thAll2 hZ
    obtain rfl := u0.asStr
    obtain rfl := u1.asStr
    exact ⟨pz, g, rfl, rfl, hpz⟩
section
variable {P : Program} {w : World} {K : PySem.W.Frag} {mg : Str → Option Value} {base : Heap}
theorem sclsort : FnScope ["fields", "field", "name", "sort"] ["fields", "field"] (defScope sLawSort) := ⟨rfl, rfl, rfl, by decide +kernel, rfl, by decide +kernel, by decide +kernel⟩
theorem ok_lsort {f : Addr} {fd : FuncData} (F : FnP K "_law_sort" sLawSort f fd)     : FnOk P w K mg base CX0 1 f fd ["fields", "field"] (spLSort K) := by
  refine F.ok sclsort (fun vs H Q E h => ?_) (fun cdv A outer s H vs Q E hr h => ?_)
  · obtain ⟨f, fs, v, d, rfl, _⟩ := h
    rfl
  · obtain ⟨f, fs, v, d, rfl, hF, hl, hT, q⟩ := h
    have hu := hu_of hr
    have hs := szl
    refine ⟨_, PSs.nox (pss_one (ps_ret (pe_ix ix_list (pe_op op_cat (pe_lc (own := [("name", 2), ("sort", 3)]) rfl sclsort.nd (pi_tup (pv 0)) (blkOk_by (own := [("name", 2), ("sort", 3)]) (N := ["fields", "field", "name", "sort"]) (sc := defScope sLawSort) (by decide +kernel)) (fun _ _ _ _ _ => Cc.pg_tupk (K := K) (n := 2) rfl rfl (pgs_cons (pg_name (i := 2) sclsort.nd rfl (Or.inl rfl)) (pgs_cons (pg_name (i := 3) sclsort.nd rfl (Or.inl rfl)) (pgs_nil)))) (fun _ _ _ _ _ => pts_one (pt_cmpR (op_eqTk (K := K) rfl (Nat.lt_of_le_of_lt (Nat.le_add_right _ 64) hr.units)) (pv 2) (pv 1) (nomark _))) (fun _ _ _ _ _ => pv 3)) (pe_lst (pa_cons (pe_non) pa_nil))) (pe_int) (fun _ _ => rfl)))), ?_⟩
    obtain ⟨pf, fx, rfl, hx, hA⟩ := hF.asTup
    have lf : fx.length = fs.length := by rw [hA.len, List.length_map]
    refine ⟨_, rfl, pf, rfl, ⟨fx, hx⟩, fun D nD => ?_⟩
    refine lc_it (walk_tup (K := K) (a := pf) (xs := fx)) (fun i H' => But D H H' ∧ H' D = some (.lst ((hitsF (fs.take i) d).map V.str)) ∧ (hitsF (fs.take i) d).length ≤ i) ⟨But.refl.upd, upd_same, Nat.le_refl _⟩ (fun i H' _ ⟨b, _⟩ => Sq.same (t := true) hx (b.new nD)) ?_ ?_
    · rintro i x H1 H2 hi ⟨b, hD, la⟩ ⟨rfl, hx2⟩
      obtain ⟨pz, g, hg, rfl, hpz⟩ := field_at hA hx2
      have s2 := b.new nD
      have et : hitsF (fs.take (i + 1)) d = hitsF (fs.take i) d ++ (if sameS (.str g.1) d = true then [g.2] else []) := by rw [List.take_succ, hg]; exact hits_snoc d _ g
      refine ⟨pz, _, rfl, Sq.same (t := true) hpz s2, rfl, _, _, rfl, _, _, rfl, rfl, rfl, ?_⟩
      refine ⟨_, rfl, _, rfl, .str g.1, d, .str _, hT.kept (kept_same s2), .inl rfl, _, rfl, ite2 (fun e => ?_) (fun e => ?_)⟩
      · rw [if_pos e] at et
        refine ⟨_, rfl, _, hD, by rw [List.length_map, hs]; omega, b.upd, ?_, by rw [et, List.length_append, List.length_singleton]; omega⟩
        rw [et, List.map_append]
        exact upd_same
      · rw [if_neg e, List.append_nil] at et
        exact ⟨b, by rw [et]; exact hD, by rw [et]; omega⟩
    · rintro H1 ⟨b, hD, la⟩
      rw [lf, List.take_length] at hD la
      have s2 := b.new nD
      refine ⟨by show 1 ≤ sizeLine; decide, fun p n => ⟨_, _, _, _, rfl, rfl, newS n _ _ hD, upd_same, by rw [List.length_map, hs]; show _ + 1 ≤ _; omega, fun p2 n2 => ⟨p2, _, 0, _, rfl, rfl, SqL.of upd_same, first_opt _, ?_⟩⟩⟩
      rw [hits_head]
      exact q _ (s2.trans ((newS n).trans (newS n2)))
theorem sclnew : FnScope ["fields", "field"] ["fields", "field"] (defScope sLawIsNew) := ⟨rfl, rfl, rfl, by decide +kernel, rfl, by decide +kernel, by decide +kernel⟩
theorem ok_lnew {f : Addr} {fd : FuncData} (F : FnP K "_law_is_new" sLawIsNew f fd) {f__law_is_word : Addr} {fd__law_is_word : FuncData} (c__law_is_word : Cl P w K mg base CX0 "_law_is_word" 1 ["thing", "most"] (spSmall K) f__law_is_word fd__law_is_word) {f__law_sort : Addr} {fd__law_sort : FuncData} (c__law_sort : Cl P w K mg base CX0 "_law_sort" 1 ["fields", "field"] (spLSort K) f__law_sort fd__law_sort)    : FnOk P w K mg base CX0 2 f fd ["fields", "field"] (spLNew K) := by
  refine F.ok sclnew (fun vs H Q E h => ?_) (fun cdv A outer s H vs Q E hr h => ?_)
  · obtain ⟨f, fs, v, d, rfl, _⟩ := h
    rfl
  · obtain ⟨f, fs, v, d, rfl, hF, hl, hT, hB, q⟩ := h
    have hu := hu_of hr
    refine ⟨_, PSs.nox (pss_one (ps_ret (pe_and (pe_call c__law_is_word.ok (hr.mono (by decide)) (by rfl) c__law_is_word.m c__law_is_word.kp c__law_is_word.b .nil pass0 (pa_cons (pv 1) (pa_cons (pe_int) pa_nil))) (pe_one (pe_cmpR op_isN (pe_call c__law_sort.ok (hr.mono (by decide)) (by rfl) c__law_sort.m c__law_sort.kp c__law_sort.b .nil pass0 (pa_cons (pv 0) (pa_cons (pv 1) pa_nil))) (pe_non) (nomark _)))))), ?_⟩
    refine ⟨_, rfl, v, d, 12, rfl, hT, hB, fun H1 s1 => ⟨_, rfl, ?_⟩⟩
    unfold isNewB at q
    cases hb : smallB 12 d with
    | false =>
      rw [hb, Bool.false_and] at q
      exact iteF (q H1 s1)
    | true =>
      rw [hb, Bool.true_and] at q
      refine iteT ⟨_, rfl, _, rfl, f, fs, v, d, rfl, hF.kept (kept_same s1), hl, hT.kept (kept_same s1), fun H2 s2 => ⟨rfl, ?_⟩⟩
      rw [optV_non]
      have e : (!(sortOf fs d).isSome) = (sortOf fs d).isNone := by cases sortOf fs d <;> rfl
      rw [e]
      exact q H2 (s1.trans s2)
theorem sclissort : FnScope ["thing"] ["thing"] (defScope sLawIsSort) := ⟨rfl, rfl, rfl, by decide +kernel, rfl, by decide +kernel, by decide +kernel⟩
theorem ok_lissort {f : Addr} {fd : FuncData} (F : FnP K "_law_is_sort" sLawIsSort f fd)  (mb_isinstance : mg "isinstance" = none) (mb_str : mg "str" = none)   : FnOk P w K mg base CX0 1 f fd ["thing"] (spLIsSort K) := by
  refine F.ok sclissort (fun vs H Q E h => ?_) (fun cdv A outer s H vs Q E hr h => ?_)
  · obtain ⟨v, d, rfl, _⟩ := h
    rfl
  · obtain ⟨v, d, rfl, hT, q⟩ := h
    have hu := hu_of hr
    refine ⟨_, PSs.nox (pss_one (ps_ret (pe_and (pe_callB call_isi (by rfl) mb_isinstance (by decide +kernel) (pa_cons (pv 0) (pa_cons (pe_bltn (v := .ty "str") (by rfl) mb_str (by decide +kernel) rfl) pa_nil))) (pe_one (pe_cmpR op_in_seq (pv 0) (pe_tup (pa_cons (pe_str) (pa_cons (pe_str) (pa_cons (pe_str) (pa_cons (pe_str) pa_nil))))) (by with_unfolding_all rfl)))))), ?_⟩
    refine ⟨_, rfl, v, .ty "str", _, _, _, rfl, .ty "str", hT.ty, kit_ty (kit_str d), _, rfl, ?_⟩
    cases hs : isStr d with
    | false =>
      have e := q H (Same.refl H)
      rw [sortB_not hs] at e
      exact iteF e
    | true =>
      obtain ⟨z, rfl⟩ := isStr_eq hs
      obtain rfl := hT.asStr
      refine iteT ⟨_, rfl, by show 4 ≤ sizeLine; decide, fun t nt => ⟨t, sorts.map V.str, rfl, .inr (SqT.of upd_same), rfl, by decide +kernel, ?_⟩⟩
      rw [if_neg (by decide), in_strs]
      exact q _ (newS nt)
theorem sclislist : FnScope ["thing", "most"] ["thing", "most"] (defScope sLawIsList) := ⟨rfl, rfl, rfl, by decide +kernel, rfl, by decide +kernel, by decide +kernel⟩
theorem ok_lislist {f : Addr} {fd : FuncData} (F : FnP K "_law_is_list" sLawIsList f fd)  (mb_isinstance : mg "isinstance" = none) (mb_tuple : mg "tuple" = none) (mb_len : mg "len" = none)   : FnOk P w K mg base CX0 1 f fd ["thing", "most"] (spLIsList K) := by
  refine F.ok sclislist (fun vs H Q E h => ?_) (fun cdv A outer s H vs Q E hr h => ?_)
  · obtain ⟨v, d, n, rfl, _⟩ := h
    rfl
  · obtain ⟨v, d, n, rfl, hT, hB, q⟩ := h
    have hu := hu_of hr
    refine ⟨_, PSs.nox (pss_one (ps_ret (pe_and (pe_callB call_isi (by rfl) mb_isinstance (by decide +kernel) (pa_cons (pv 0) (pa_cons (pe_bltn (v := .ty "tuple") (by rfl) mb_tuple (by decide +kernel) rfl) pa_nil))) (pe_one (pe_chain op_lt op_le (pe_int) (pe_callB call_len (by rfl) mb_len (by decide +kernel) (pa_cons (pv 0) pa_nil)) (pv 1)))))), ?_⟩
    refine ⟨_, rfl, v, .ty "tuple", _, _, _, rfl, .ty "tuple", hT.ty, kit_ty (kit_tup d), _, rfl, ?_⟩
    cases hs : isTup d with
    | false =>
      have e := q H (Same.refl H)
      have e1 : isListB n d = false := by cases d <;> first | rfl | cases hs
      rw [e1] at e
      exact iteF e
    | true =>
      obtain ⟨ds, rfl⟩ := isTup_eq hs
      obtain ⟨a, xs, rfl, hx, hA⟩ := hT.asTup
      have lx := hA.len
      replace q : ∀ H', Same H H' → Q (.bl (decide (0 < ds.length) && decide (ds.length ≤ n))) H' := q
      refine iteT ⟨_, rfl, _, xs.length, rfl, .inr ⟨_, hx, rfl⟩, _, _, rfl, rfl, _, rfl, ite2 (fun e => ⟨_, rfl, _, _, rfl, rfl, ?_⟩) (fun e => ?_)⟩
      · have c : 0 < ds.length := by
          have := of_decide_eq_true e
          omega
        have e2 : decide ((xs.length : Int) ≤ (n : Int)) = decide (ds.length ≤ n) := by
          rw [lx]
          exact decide_eq_decide.mpr (by omega)
        rw [decide_eq_true c, Bool.true_and] at q
        show Q (.bl (decide ((xs.length : Int) ≤ (n : Int)))) H
        rw [e2]
        exact q H (Same.refl H)
      · have c : ¬ 0 < ds.length := fun y => e (decide_eq_true (by omega))
        rw [decide_eq_false c, Bool.false_and] at q
        exact q H (Same.refl H)
end
end St6

set_option autoImplicit false
set_option maxHeartbeats 4000000
/-! len(set(xs)), xs a list of whole numbers or of texts -/
namespace Ys
open PySem PySem.Spec PyProof.Rows L2
theorem met_mem (ns : List Int) : ∀ i, i ≤ ns.length → (∀ x, x ∈ firstMet (fun i => ns.getD i 0) i ↔ x ∈ ns.take i) ∧ (firstMet (fun i => ns.getD i 0) i).length ≤ i ∧ ((firstMet (fun i => ns.getD i 0) i).length = i ↔ (ns.take i).Nodup)
  | 0, _ => by
    have e : firstMet (fun i => ns.getD i 0) 0 = [] := rfl
    rw [e]
    simp
  | i + 1, hi => by
    obtain ⟨h1, h2, h3⟩ := met_mem ns i (by omega)
    have hx : ns.getD i 0 = ns[i]'hi := by simp [List.getD_eq_getElem?_getD, List.getElem?_eq_getElem hi]
    have et : ns.take (i + 1) = ns.take i ++ [ns[i]'hi] := by rw [List.take_succ, List.getElem?_eq_getElem hi]; rfl
    have es : firstMet (fun i => ns.getD i 0) (i + 1) = if (firstMet (fun i => ns.getD i 0) i).any (· == ns[i]'hi) then firstMet (fun i => ns.getD i 0) i else firstMet (fun i => ns.getD i 0) i ++ [ns[i]'hi] := by
      rw [firstMet_succ, hx]
      rfl
    have ha : (firstMet (fun i => ns.getD i 0) i).any (· == ns[i]'hi) = true ↔ ns[i]'hi ∈ ns.take i := by
      rw [List.any_eq_true, ← h1]
      constructor
      · rintro ⟨x, hx, e⟩
        rw [← beq_iff_eq.mp e]
        exact hx
      · exact fun h => ⟨_, h, beq_iff_eq.mpr rfl⟩
    rw [es, et]
    by_cases c : ns[i]'hi ∈ ns.take i
    · rw [if_pos (ha.mpr c)]
      refine ⟨fun x => ?_, by omega, ?_⟩
      · rw [h1, List.mem_append, List.mem_singleton]
        exact ⟨.inl, fun h => h.elim id fun e => e ▸ c⟩
      · constructor
        · intro e
          omega
        · intro nd
          exact absurd rfl ((List.nodup_append.mp nd).2.2 _ c _ (List.mem_singleton.mpr rfl))
    · rw [if_neg (fun h => c (ha.mp h))]
      refine ⟨fun x => ?_, by rw [List.length_append, List.length_singleton]; omega, ?_⟩
      · rw [List.mem_append, List.mem_append, h1]
      · rw [List.length_append, List.length_singleton, List.nodup_append]
        constructor
        · intro e
          exact ⟨h3.mp (by omega), by simp, fun a ha b hb z => c (by rw [← List.mem_singleton.mp hb, ← z]; exact ha)⟩
        · rintro ⟨nd, _⟩
          have := h3.mpr nd
          omega
def tLenSetA (K : PySem.W.Frag) (ta : TE) : TE := fun σ H Q => ta σ H fun x H1 => ∃ (l : Addr) (ks : List Key), x = .ref l ∧ SqL K H1 l (ks.map kV) ∧ ks.length < 60 ∧ ((∃ ns : List Int, ks = ns.map Sum.inl) ∨ (∃ xs : List Str, ks = xs.map Sum.inr)) ∧ ∀ n : Nat, (n = ks.length ↔ ks.Nodup) → Q (.int n) H1
theorem nodup_inj {α β : Type} {f : α → β} (hf : ∀ x y, f x = f y → x = y) {l : List α} : (l.map f).Nodup ↔ l.Nodup := by
  unfold List.Nodup
  rw [List.pairwise_map]
  constructor
  · exact fun h => h.imp fun n e => n (congrArg f e)
  · exact fun h => h.imp fun n e => n (hf _ _ e)
theorem pe_lenSetA {X : Cx} {a : Expr} {ta : TE} {p p2 q pos : Pos} (hg : Gl X "len") (hm : X.mg "len" = none) (hg2 : Gl X "set") (hm2 : X.mg "set" = none) (ha : PE X a ta) (hc : X.calm = true := by rfl)
    (na : starEach [a] X.env = (false, eval a X.env) :: starEach [] X.env := by rfl) : PE X (.Call (.Name "len" p) [.Call (.Name "set" p2) [a] [] q] [] pos) (tLenSetA X.K ta) := by
  refine ⟨fun pins s σ H Q I h => ?_⟩
  refine Call_ (ld_blt I hg hm PySem.boot_len (PyProof.Rows.callWith_builtin1 (PyProof.Rows.args_cons ?_ rfl) rfl rfl))
  refine Call_ (ld_blt I hg2 hm2 PyProof.Rows.boot_set (PyProof.Rows.callWith_type1 (PyProof.Rows.args_cons (thn (ha.run pins s σ H _ I h) fun v s1 ⟨x, H1, I1, r1, l, ks, e, hq, few, hk, q1⟩ => PyProof.Rows.args_nil ?_) na) na rfl))
  subst e
  cases r1
  rcases hk with ⟨ns, rfl⟩ | ⟨xs, rfl⟩
  · replace hq : SqL X.K H1 l (ns.map V.int) := by
      have e : (ns.map (Sum.inl : Int → Key)).map kV = ns.map V.int := by rw [List.map_map]; rfl
      rw [← e]
      exact hq
    rw [List.length_map] at few
    obtain ⟨its, r, pl, hz⟩ := I1.list hq
    have hl : its.toArray.size = ns.length := by rw [List.size_toArray, ← r.length, List.length_map]
    refine call_set_list (I1.ok.hd hc) pl.isList (ns := ns) (by simpa using r.ints) (by unfold scanBound; omega) fun h' tk hS hk => PyProof.Rows.args_nil ?_
    rw [hl] at hS
    obtain ⟨m1, m2, m3⟩ := met_mem ns ns.length (Nat.le_refl _)
    rw [List.take_length] at m3
    obtain ⟨o, es, ep, t, ho, hex, hd, _, _, _, hf, hn⟩ := hS
    have I2 : Inv X pins σ H1 { s1 with heap := h', toks := tk } := I1.kept fun b o e => hk b o (Heap.lt_size e) e
    refine call_len_set ho hex hd hf (by rw [hn]; omega) ⟨.int (firstMet (fun i => ns.getD i 0) ns.length).length, H1, I2.tok _, ⟨_, by rw [hn]⟩, q1 _ ?_⟩
    rw [List.length_map, nodup_inj (fun x y e => Sum.inl.inj e)]
    exact m3
  · replace hq : SqL X.K H1 l (xs.map V.str) := by
      have e : (xs.map (Sum.inr : Str → Key)).map kV = xs.map V.str := by rw [List.map_map]; rfl
      rw [← e]
      exact hq
    rw [List.length_map] at few
    obtain ⟨its, r, pl, hz⟩ := I1.list hq
    refine set_of_texts (xs := xs) (I1.ok.hd hc) pl.isList (by simpa using strsAre_of r) (by omega) fun h' tk ⟨o, es, ep, t, ho, hex, hd, _, _, _, hf, hn⟩ hk => PyProof.Rows.args_nil ?_
    have I2 : Inv X pins σ H1 { s1 with heap := h', toks := tk } := I1.kept fun b o e => hk b o (Heap.lt_size e) e
    have le := cnt_le xs xs.length
    refine call_len_set ho hex hd hf (by rw [hn] <;> omega) ⟨.int (cnt xs xs.length : Nat), H1, I2.tok _, ⟨_, by rw [hn]⟩, q1 _ ?_⟩
    rw [List.length_map, nodup_inj (fun x y e => Sum.inr.inj e)]
    exact cnt_all
end Ys

set_option autoImplicit false
set_option maxHeartbeats 4000000
namespace St6
open PySem PySem.Spec PyProof.Rows L2 Tg Cc Nn TL
/-! the law's own look at parts and rows -/
def outs (g : Nat → Bool) (l : List Nat) : List Str := (l.filter fun c => !g c).map fun c => ⟨#[c]⟩
theorem outs_snoc (g : Nat → Bool) (l : List Nat) (c : Nat) : outs g (l ++ [c]) = outs g l ++ (if g c = true then [] else [⟨#[c]⟩]) := by
  unfold outs
  rw [List.filter_append, List.map_append]
  cases h : g c <;> simp [h]
theorem outs_nil (g : Nat → Bool) (l : List Nat) : (outs g l).isEmpty = l.all g := by
  unfold outs
  induction l with
  | nil => rfl
  | cons c r ih =>
    cases h : g c
    · simp [h]
    · simp [h] at ih ⊢
      exact ih
def spLPart (K : PySem.W.Frag) : Sp := fun vs H Q _ => ∃ f fs v d, vs = [f, v] ∧ Th K H f (formD fs) ∧ fs.length ≤ 2000000 ∧ Th K H v d ∧ Ok d ∧ ∀ H', Same H H' → Q (.bl (partB fs d)) H'
def spLRows (K : PySem.W.Frag) : Sp := fun vs H Q _ => ∃ v d old new, vs = [v, .str old, .str new] ∧ Th K H v d ∧ Ok d ∧ old ∈ testL ∧ new ∈ testL ∧ ∀ H', Same H H' → Q (.bl (rowsB old new d)) H'
section
variable {P : Program} {w : World} {K : PySem.W.Frag} {mg : Str → Option Value} {base : Heap}
theorem sclpart : FnScope ["fields", "part", "sign"] ["fields", "part"] (defScope sLawIsPart) := ⟨rfl, rfl, rfl, by decide +kernel, rfl, by decide +kernel, by decide +kernel⟩
theorem ok_lpart {f : Addr} {fd : FuncData} (F : FnP K "_law_is_part" sLawIsPart f fd) {f__law_sort : Addr} {fd__law_sort : FuncData} (c__law_sort : Cl P w K mg base CX0 "_law_sort" 1 ["fields", "field"] (spLSort K) f__law_sort fd__law_sort) (mb_isinstance : mg "isinstance" = none) (mb_tuple : mg "tuple" = none) (mb_len : mg "len" = none) (mb_str : mg "str" = none)   : FnOk P w K mg base CX0 2 f fd ["fields", "part"] (spLPart K) := by
  refine F.ok sclpart (fun vs H Q E h => ?_) (fun cdv A outer s H vs Q E hr h => ?_)
  · obtain ⟨f, fs, v, d, rfl, _⟩ := h
    rfl
  · obtain ⟨f, fs, v, d, rfl, hF, hl, hT, hB, q⟩ := h
    have hu := hu_of hr
    have hs_ := szl
    refine ⟨_, PSs.nox (pss_cons (ps_if (PW.pt (pw_or (pt_not (pt_val (pe_callB call_isi (by rfl) mb_isinstance (by decide +kernel) (pa_cons (pv 1) (pa_cons (pe_bltn (v := .ty "tuple") (by rfl) mb_tuple (by decide +kernel) rfl) pa_nil))))) (pw_or1 (pt_cmpR op_ne (pe_callB call_len (by rfl) mb_len (by decide +kernel) (pa_cons (pv 1) pa_nil)) (pe_int) (nomark _))))) (pss_one (ps_ret (pe_bl))) (pss_nil))
      (pss_cons (ps_if (pt_cmpR (op_eqT (Nat.lt_of_le_of_lt (Nat.le_add_right _ 64) hr.units)) (pe_ix Cc.ix_B (pv 1) (pe_int) (fun _ _ => rfl)) (pe_str) (nomark _)) (pss_one (ps_ret (pe_cmpR op_in_seq (pe_call c__law_sort.ok (hr.mono (by decide)) (by rfl) c__law_sort.m c__law_sort.kp c__law_sort.b .nil pass0 (pa_cons (pv 0) (pa_cons (pe_ix Cc.ix_B (pv 1) (pe_int) (fun _ _ => rfl)) pa_nil))) (pe_tup (pa_cons (pe_str) (pa_cons (pe_str) pa_nil))) (by with_unfolding_all rfl)))) (pss_nil))
      (pss_cons (ps_if (PW.pt (pw_or (pt_cmpR (op_neT (Nat.lt_of_le_of_lt (Nat.le_add_right _ 64) hr.units)) (pe_ix Cc.ix_B (pv 1) (pe_int) (fun _ _ => rfl)) (pe_str) (nomark _)) (pw_or (pt_not (pt_val (pe_callB call_isi (by rfl) mb_isinstance (by decide +kernel) (pa_cons (pe_ix Cc.ix_B (pv 1) (pe_int) (fun _ _ => rfl)) (pa_cons (pe_bltn (v := .ty "str") (by rfl) mb_str (by decide +kernel) rfl) pa_nil))))) (pw_or1 (pt_not (pt_chain op_lt op_lt (pe_int) (pe_callB call_len_str (by rfl) mb_len (by decide +kernel) (pa_cons (pe_ix Cc.ix_B (pv 1) (pe_int) (fun _ _ => rfl)) pa_nil)) (pe_int))))))) (pss_one (ps_ret (pe_bl))) (pss_nil))
      (pss_one (ps_ret (pe_cmpR (op_eqD hr.units) (pe_lc (own := [("sign", 2)]) (g := gName 2) rfl sclpart.nd (pi_str (pe_ix Cc.ix_B (pv 1) (pe_int) (fun _ _ => rfl))) (blkOk_by (own := [("sign", 2)]) (N := ["fields", "part", "sign"]) (sc := defScope sLawIsPart) (by decide +kernel)) (fun _ _ _ _ _ => pg_name (i := 2) sclpart.nd rfl (Or.inl rfl)) (fun _ _ _ _ _ => pts_one (pt_cmpR op_notIn_sign (pv 2) (pe_str) (by with_unfolding_all rfl))) (fun _ _ _ _ _ => pv 2)) (pe_lst (pa_nil)) (nomark _))))))), ?_⟩
    refine ⟨_, rfl, v, .ty "tuple", _, _, _, rfl, .ty "tuple", hT.ty, kit_ty (kit_tup d), _, rfl, ?_⟩
    cases ht : isTup d with
    | false =>
      have e := q H (Same.refl H)
      rw [partB_not ht] at e
      exact iteT (iteT e)
    | true =>
      obtain ⟨ds, rfl⟩ := isTup_eq ht
      obtain ⟨a, xs, rfl, hx, hA⟩ := hT.asTup
      have lx := hA.len
      have bs := (Bd.tup hB).2
      refine iteF ⟨_, rfl, _, _, rfl, .inr ⟨_, hx, rfl⟩, rfl, _, rfl, ite2 (fun e => ?_) (fun e => ?_)⟩
      · have ne : ds.length ≠ 2 := fun z => by
          rw [dec_int, decide_eq_true (show (xs.length : Int) = 2 by omega)] at e
          cases e
        have e2 := q H (Same.refl H)
        rw [partB_len ne] at e2
        exact e2
      · have e2 : xs.length = 2 := by
          have e3 : (!decide (V.int (xs.length : Nat) = V.int 2)) = false := by simpa using e
          rw [dec_int, Bool.not_eq_false'] at e3
          have := of_decide_eq_true e3
          omega
        obtain ⟨d0, d1, rfl⟩ := len2 (lx.symm.trans e2)
        obtain ⟨x0, x1, rfl, t0, t1⟩ := thAll2 hA
        have b1 := bs d1 (by simp)
        have i0 : atI [x0, x1] 0 = some x0 := at0
        have i1 : atI [x0, x1] 1 = some x1 := rfl
        refine ⟨_, rfl, true, a, _, 0, _, rfl, rfl, hx, i0, d0, .str "field", t0, .str _, .inr rfl, _, rfl, ite2 (fun e => ?_) (fun e => ?_)⟩
        · obtain rfl : d0 = .str "field" := by
            cases d0 <;> first | (exact congrArg PyData.str (of_decide_eq_true e)) | cases e
          refine ⟨_, rfl, _, rfl, true, a, _, 1, _, rfl, rfl, hx, i1, f, fs, x1, d1, rfl, hF, hl, t1, fun H1 s1 => ?_⟩
          have val : partB fs (.tuple [.str "field", d1]) = amongB joinL (sortOf fs d1) := rfl
          rw [val] at q
          refine ⟨by show 2 ≤ sizeLine; decide, fun t nt => ⟨t, joinL.map V.str, rfl, .inr (SqT.of upd_same), flat_opt _, by decide +kernel, ?_⟩⟩
          rw [if_neg (by decide), in_opt]
          exact q _ (s1.trans (newS nt))
        · have nf : d0 ≠ .str "field" := fun z => e (by rw [z]; exact decide_eq_true (rfl : ("field" : Str) = "field"))
          refine ⟨_, rfl, true, a, _, 0, _, rfl, rfl, hx, i0, d0, .str "say", t0, .str _, .inr rfl, _, rfl, ite2 (fun e => ?_) (fun e => ?_)⟩
          · have ns : d0 ≠ .str "say" := fun z => by
              rw [z] at e
              exact absurd e (by decide)
            have e1 : partB fs (.tuple [d0, d1]) = false := by
              cases d0 with
              | str w =>
                have w1 : w ≠ "say" := fun z => ns (congrArg _ z)
                have w2 : w ≠ "field" := fun z => nf (congrArg _ z)
                show (if w = "say" then sayB d1 else (decide (w = "field") && amongB joinL (sortOf fs d1))) = false
                rw [if_neg w1, decide_eq_false w2, Bool.false_and]
              | _ => rfl
            rw [e1] at q
            exact q H (Same.refl H)
          · obtain rfl : d0 = .str "say" := by
              cases d0 <;> first | (refine congrArg PyData.str (Decidable.byContradiction fun z => e ?_); show (!decide _) = true; rw [decide_eq_false z]; rfl) | (exact absurd rfl e)
            have val : partB fs (.tuple [.str "say", d1]) = sayB d1 := rfl
            rw [val] at q
            refine ⟨_, rfl, true, a, _, 1, _, rfl, rfl, hx, i1, x1, .ty "str", _, _, _, rfl, .ty "str", t1.ty, kit_ty (kit_str d1), _, rfl, ?_⟩
            cases hs : isStr d1 with
            | false =>
              have e := q H (Same.refl H)
              rw [sayB_not hs] at e
              exact iteT (iteT e)
            | true =>
              obtain ⟨z, rfl⟩ := isStr_eq hs
              obtain rfl := t1.asStr
              obtain ⟨hz, hAs⟩ := bd_str.mp b1
              have val : sayB (.str z) = ((decide (1 ≤ z.length) && decide (z.length ≤ 12)) && z.cps.toList.all sayC) := rfl
              refine iteF ⟨_, rfl, true, a, _, 1, _, rfl, rfl, hx, i1, z, rfl, lineN hz, _, _, rfl, rfl, _, rfl, ite2 (fun e1 => ⟨_, _, rfl, rfl, _, rfl, ite2 (fun e2 => ?_) (fun e2 => ?_)⟩) (fun e1 => ⟨_, rfl, iteT ?_⟩)⟩
              · have c2 : ¬ z.length ≤ 12 := fun y => by
                  rw [decide_eq_true (show (z.length : Int) < (13 : Int) by omega)] at e2
                  cases e2
                have e := q H (Same.refl H)
                rw [val, decide_eq_false c2, Bool.and_false, Bool.false_and] at e
                exact e
              · have c1 : 1 ≤ z.length := by
                  have := of_decide_eq_true e1
                  omega
                have c2 : z.length ≤ 12 := by
                  have : (!decide ((z.length : Int) < (13 : Int))) = false := by simpa using e2
                  rw [Bool.not_eq_false'] at this
                  have := of_decide_eq_true this
                  omega
                rw [val, decide_eq_true c1, decide_eq_true c2, Bool.true_and, Bool.true_and] at q
                refine ⟨_, rfl, true, a, _, 1, _, rfl, rfl, hx, i1, z, rfl, fun D nD => ?_⟩
                refine lc_it (walk_str (z := z)) (fun i H' => But D H H' ∧ H' D = some (.lst ((outs sayC (z.cps.toList.take i)).map V.str))) ⟨But.refl.upd, upd_same⟩ (fun _ _ _ _ => trivial) ?_ ?_
                · rintro i x H1 H2 hi ⟨b, hD⟩ ⟨rfl, c, hc, rfl⟩
                  have hc2 : z.cps.toList[i]? = some c := by rw [Array.getElem?_toList]; exact hc
                  have hl2 : z.length = z.cps.size := rfl
                  have lh : ((outs sayC (z.cps.toList.take i)).map V.str).length ≤ i := by
                    unfold outs
                    rw [List.length_map, List.length_map]
                    exact Nat.le_trans (List.length_filter_le _ _) (by rw [List.length_take]; omega)
                  refine ⟨rfl, _, rfl, c, _, rfl, rfl, _, rfl, ite2 (fun e => ?_) (fun e => ?_)⟩
                  · refine ⟨_, rfl, _, hD, by rw [szl]; omega, b.upd, ?_⟩
                    replace e : (!sayC c) = true := e
                    rw [upd_same, List.take_succ, hc2]
                    show _ = some (HO.lst ((outs sayC (z.cps.toList.take i ++ [c])).map V.str))
                    rw [outs_snoc, if_neg (by rw [Bool.not_eq_true'] at e; rw [e]; exact Bool.false_ne_true), List.map_append]
                    rfl
                  · refine ⟨b, ?_⟩
                    replace e : ¬ (!sayC c) = true := e
                    rw [hD, List.take_succ, hc2]
                    show _ = some (HO.lst ((outs sayC (z.cps.toList.take i ++ [c])).map V.str))
                    rw [outs_snoc, if_pos (by simpa using e), List.append_nil]
                · rintro H' ⟨b, hD⟩
                  rw [List.take_of_length_le (by rw [Array.length_toList]; exact Nat.le_refl _)] at hD
                  have h1 : ∀ y ∈ outs sayC z.cps.toList, As y := fun y hy => by
                    obtain ⟨c, hc, rfl⟩ := List.mem_map.mp hy
                    have := hAs c (List.mem_filter.mp hc).1
                    intro k hk
                    have : k = c := by simpa using hk
                    omega
                  refine ⟨Nat.zero_le _, fun p np => ⟨.list ((outs sayC z.cps.toList).map PyData.str), .list [], .lst (SqL.of (newS np _ _ hD)) (dpAll_strs _), .lst (SqL.of upd_same) .nil, shaped_strs h1, by decide +kernel, ?_⟩⟩
                  rw [eqv_nil, List.isEmpty_map, outs_nil]
                  exact q _ ((b.new nD).trans (newS np))
              · have c1 : ¬ 1 ≤ z.length := fun y => e1 (decide_eq_true (by omega))
                have e := q H (Same.refl H)
                rw [val, decide_eq_false c1, Bool.false_and, Bool.false_and] at e
                exact e
theorem sclrows : FnScope ["rows", "old", "new", "row", "values"] ["rows", "old", "new"] (defScope sLawIsRows) := ⟨rfl, rfl, rfl, by decide +kernel, rfl, by decide +kernel, by decide +kernel⟩
theorem ok_lrows {f : Addr} {fd : FuncData} (F : FnP K "_law_is_rows" sLawIsRows f fd) {f__law_of_sort : Addr} {fd__law_of_sort : FuncData} (c__law_of_sort : Cl P w K mg base CX0 "_law_of_sort" 2 ["sort", "thing"] (spOfSortL K) f__law_of_sort fd__law_of_sort) (mb_isinstance : mg "isinstance" = none) (mb_tuple : mg "tuple" = none) (mb_len : mg "len" = none) (mb_set : mg "set" = none)   : FnOk P w K mg base CX0 3 f fd ["rows", "old", "new"] (spLRows K) := by
  refine F.ok sclrows (fun vs H Q E h => ?_) (fun cdv A outer s H vs Q E hr h => ?_)
  · obtain ⟨v, d, old, new, rfl, _⟩ := h
    rfl
  · obtain ⟨v, d, old, new, rfl, hT, hB, ho, hn, q⟩ := h
    have hu := hu_of hr
    have hs_ := szl
    refine ⟨_, PSs.nox (pss_cons (ps_if (PW.pt (pw_or (pt_not (pt_val (pe_callB call_isi (by rfl) mb_isinstance (by decide +kernel) (pa_cons (pv 0) (pa_cons (pe_bltn (v := .ty "tuple") (by rfl) mb_tuple (by decide +kernel) rfl) pa_nil))))) (pw_or1 (pt_cmpR op_gt (pe_callB call_len (by rfl) mb_len (by decide +kernel) (pa_cons (pv 0) pa_nil)) (pe_int) (nomark _))))) (pss_one (ps_ret (pe_bl))) (pss_nil))
      (pss_cons (ps_for PassesOwn.never rfl (pi_tup (pv 0)) (pg_name (i := 3) sclrows.nd rfl (Or.inl rfl)) (pss_cons (ps_if (PW.pt (pw_or (pt_not (pt_val (pe_callB call_isi (by rfl) mb_isinstance (by decide +kernel) (pa_cons (pv 3) (pa_cons (pe_bltn (v := .ty "tuple") (by rfl) mb_tuple (by decide +kernel) rfl) pa_nil))))) (pw_or1 (pt_cmpR op_ne (pe_callB call_len (by rfl) mb_len (by decide +kernel) (pa_cons (pv 3) pa_nil)) (pe_int) (nomark _))))) (pss_one (ps_ret (pe_bl))) (pss_nil))
      (pss_one (ps_if (PW.pt (pw_or (pt_not (pt_val (pe_call c__law_of_sort.ok (hr.mono (by decide)) (by rfl) c__law_of_sort.m c__law_of_sort.kp c__law_of_sort.b .nil pass0 (pa_cons (pv 1) (pa_cons (pe_ix Cc.ix_B (pv 3) (pe_int) (fun _ _ => rfl)) pa_nil))))) (pw_or1 (pt_not (pt_val (pe_call c__law_of_sort.ok (hr.mono (by decide)) (by rfl) c__law_of_sort.m c__law_of_sort.kp c__law_of_sort.b .nil pass0 (pa_cons (pv 2) (pa_cons (pe_ix Cc.ix_B (pv 3) (pe_int) (fun _ _ => rfl)) pa_nil)))))))) (pss_one (ps_ret (pe_bl))) (pss_nil)))))
      (pss_cons (ps_setLc (i := 4) (own := [("row", 3)]) (g := gName 3) (tt := tYes) rfl sclrows.nd rfl rfl (sw_true rfl rfl rfl (by decide +kernel)) (pi_tup (pv 0)) (blkOk_by (own := [("row", 3)]) (N := ["rows", "old", "new", "row", "values"]) (sc := defScope sLawIsRows) (by decide +kernel)) (fun _ _ _ _ _ => pg_name (i := 3) sclrows.nd rfl (Or.inl rfl)) (fun _ _ _ _ _ => pts_nil) (fun _ _ _ _ _ => pe_ix (Cc.ix_Bk (K := K) rfl) (pv 3) (pe_int) (fun _ _ => rfl)))
      (pss_one (ps_ret (pe_cmpR op_eq (Ys.pe_lenSetA (by rfl) mb_len (by rfl) mb_set (pv 4)) (pe_callB call_len_seq (by rfl) mb_len (by decide +kernel) (pa_cons (pv 4) pa_nil)) (nomark _))))))), ?_⟩
    refine ⟨_, rfl, v, .ty "tuple", _, _, _, rfl, .ty "tuple", hT.ty, kit_ty (kit_tup d), _, rfl, ?_⟩
    cases ht : isTup d with
    | false =>
      have e := q H (Same.refl H)
      rw [rowsB_not ht] at e
      exact iteT (iteT e)
    | true =>
      obtain ⟨ds, rfl⟩ := isTup_eq ht
      obtain ⟨a, xs, rfl, hx, hA⟩ := hT.asTup
      have lx := hA.len
      have bs := (Bd.tup hB).2
      have val : rowsB old new (.tuple ds) = ((decide (ds.length ≤ 4) && ds.all (rowB old new)) && decide ((ds.map keyOf).Nodup)) := rfl
      rw [val] at q
      have so : old ∈ sorts := by rcases List.mem_cons.mp ho with rfl | h <;> first | decide | (rw [List.mem_singleton.mp h]; decide)
      have sn : new ∈ sorts := by rcases List.mem_cons.mp hn with rfl | h <;> first | decide | (rw [List.mem_singleton.mp h]; decide)
      refine iteF ⟨_, rfl, _, _, rfl, .inr ⟨_, hx, rfl⟩, _, _, rfl, rfl, _, rfl, ite2 (fun e => ?_) (fun e => ?_)⟩
      · have c : ¬ ds.length ≤ 4 := by
          have := of_decide_eq_true e
          omega
        rw [decide_eq_false c, Bool.false_and, Bool.false_and] at q
        exact q H (Same.refl H)
      have c4 : ds.length ≤ 4 := by
        have : ¬ ((4 : Int) < (xs.length : Int)) := fun y => e (decide_eq_true y)
        omega
      rw [decide_eq_true c4, Bool.true_and] at q
      have bad : ∀ {i : Nat} {d : PyData}, ds[i]? = some d → rowB old new d = false → ∀ H', Same H H' → Q (.bl false) H' := fun {i d} hd hr H' s => by
        have e : ds.all (rowB old new) = false := List.all_eq_false.mpr ⟨d, List.mem_of_getElem? hd, by rw [hr]; exact Bool.false_ne_true⟩
        rw [e, Bool.false_and] at q
        exact q H' s
      refine ⟨_, rfl, a, rfl, ⟨xs, hx⟩, for_tup (K := K) (a := a) (xs := xs) (fun i σ' H' => (∃ x3 x4, σ' = [some (.ref a), some (.str old), some (.str new), x3, x4]) ∧ (∀ d ∈ ds.take i, rowB old new d = true) ∧ Same H H')
        ⟨⟨_, _, rfl⟩, (fun d hd => by simp at hd), Same.refl H⟩ (fun i σ' H' _ ⟨_, _, s2⟩ => Sq.same (t := true) hx s2) ?_ ?_⟩
      · rintro i x σ' H1 hxi ⟨⟨x3, x4, rfl⟩, hr_, s1⟩
        obtain ⟨d, hd, td0, md⟩ := ThAll.get2 hA hxi
        have td := td0.kept (kept_same s1)
        have bd := bs d md
        refine ⟨_, rfl, x, .ty "tuple", _, _, _, rfl, .ty "tuple", td.ty, kit_ty (kit_tup d), _, rfl, ?_⟩
        cases ht : isTup d with
        | false => exact iteT (iteT (bad hd (rowB_not ht) H1 s1))
        | true =>
          obtain ⟨es, rfl⟩ := isTup_eq ht
          obtain ⟨b, ys, rfl, hy, hY⟩ := td.asTup
          have ly := hY.len
          refine iteF ⟨_, rfl, _, _, rfl, .inr ⟨_, hy, rfl⟩, rfl, _, rfl, ite2 (fun e => ?_) (fun e => ?_)⟩
          · have ne : es.length ≠ 2 := fun z => by
              rw [dec_int, decide_eq_true (show (ys.length : Int) = 2 by omega)] at e
              cases e
            exact bad hd (rowB_len ne) H1 s1
          · have e2 : ys.length = 2 := by
              have e3 : (!decide (V.int (ys.length : Nat) = V.int 2)) = false := by simpa using e
              rw [dec_int, Bool.not_eq_false'] at e3
              have := of_decide_eq_true e3
              omega
            obtain ⟨d0, d1, rfl⟩ := len2 (ly.symm.trans e2)
            obtain ⟨y0, y1, rfl, t0, t1⟩ := thAll2 hY
            have bb := (Bd.tup bd).2
            have i0 : atI [y0, y1] 0 = some y0 := at0
            have i1 : atI [y0, y1] 1 = some y1 := rfl
            have vr : rowB old new (.tuple [d0, d1]) = (ofSort old d0 && ofSort new d1) := rfl
            refine ⟨_, rfl, _, rfl, true, b, _, 0, _, rfl, rfl, hy, i0, y0, d0, old, rfl, t0, bb d0 (by simp), so, fun H2 s2 => ⟨_, rfl, ?_⟩⟩
            cases h0 : ofSort old d0 with
            | false =>
              rw [h0, Bool.false_and] at vr
              exact iteT (iteT (bad hd vr H2 (s1.trans s2)))
            | true =>
              rw [h0, Bool.true_and] at vr
              refine iteF ⟨_, rfl, _, rfl, true, b, _, 1, _, rfl, rfl, Sq.same (t := true) hy s2, i1, y1, d1, new, rfl, t1.kept (kept_same s2), bb d1 (by simp), sn, fun H3 s3 => ⟨_, rfl, ?_⟩⟩
              cases h1 : ofSort new d1 with
              | false =>
                rw [h1] at vr
                exact iteT (bad hd vr H3 ((s1.trans s2).trans s3))
              | true =>
                rw [h1] at vr
                refine iteF ⟨⟨_, _, rfl⟩, fun d hd2 => ?_, (s1.trans s2).trans s3⟩
                rw [List.take_succ, hd] at hd2
                rcases List.mem_append.mp hd2 with h | h
                · exact hr_ d h
                · rw [show d = .tuple [d0, d1] by simpa using h]
                  exact vr
      · rintro σ' H1 ⟨⟨x3, x4, rfl⟩, hr_, s1⟩
        rw [lx, List.take_length] at hr_
        have all : ds.all (rowB old new) = true := List.all_eq_true.mpr hr_
        rw [all, Bool.true_and] at q
        have hx1 := Sq.same (t := true) hx s1
        have hA1 := hA.kept (kept_same s1)
        refine ⟨_, rfl, a, rfl, ⟨xs, hx1⟩, fun D nD => ?_⟩
        refine lc_acc (walk_tup (K := K) (a := a) (xs := xs)) (fun i acc H' => acc = (ds.take i).map (fun d => kV (keyOf d)) ∧ But D H1 H') ⟨rfl, But.refl.upd⟩ (fun i acc H' _ ⟨_, b⟩ _ => Sq.same (t := true) hx1 (b.new nD)) ?_ ?_
        · rintro i x acc H2 H3 hi la ⟨ea, b⟩ hD ⟨rfl, hx2⟩
          obtain ⟨d, hd, td0, md⟩ := ThAll.get2 hA1 hx2
          have s2 := b.new nD
          obtain ⟨p, u, w2, rfl, hp, rfl⟩ := row_key (td0.kept (kept_same s2)) (hr_ d md) ho
          refine ⟨rfl, _, rfl, true, p, _, 0, _, rfl, rfl, hp, at0, push hD la (by omega) ⟨?_, b.upd⟩⟩
          rw [ea, List.take_succ, hd, List.map_append]
          rfl
        · rintro acc H2 la ⟨ea, b⟩ hD
          rw [lx, List.take_length] at ea
          have s2 := b.new nD
          have em : acc = (ds.map keyOf).map kV := by rw [ea, List.map_map]; rfl
          have hk : (∃ ns : List Int, ds.map keyOf = ns.map Sum.inl) ∨ (∃ zs : List Str, ds.map keyOf = zs.map Sum.inr) := by
            have one : ∀ d ∈ ds, ∃ a b, d = .tuple [a, b] ∧ ofSort old a = true := fun d hd => by
              have h := hr_ d hd
              have ht : isTup d = true := by
                cases hd2 : isTup d with
                | true => rfl
                | false =>
                  rw [rowB_not hd2] at h
                  cases h
              obtain ⟨es, rfl⟩ := isTup_eq ht
              have hl : es.length = 2 := by
                by_cases hl : es.length = 2
                · exact hl
                · rw [rowB_len hl] at h
                  cases h
              obtain ⟨a, b, rfl⟩ := len2 hl
              have h : (ofSort old a && ofSort new b) = true := h
              rw [Bool.and_eq_true] at h
              exact ⟨a, b, rfl, h.1⟩
            have he : old = "code" ∨ old = "word" := by simpa [testL] using ho
            rcases he with rfl | rfl
            · refine .inl ⟨ds.map fun d => match keyOf d with | .inl i => i | .inr _ => 0, ?_⟩
              rw [List.map_map]
              refine List.map_congr_left fun d hd => ?_
              obtain ⟨a, b, rfl, h⟩ := one d hd
              have h : wholeB a = true := h
              cases a <;> first | rfl | cases h
            · refine .inr ⟨ds.map fun d => match keyOf d with | .inr z => z | .inl _ => "", ?_⟩
              rw [List.map_map]
              refine List.map_congr_left fun d hd => ?_
              obtain ⟨a, b, rfl, h⟩ := one d hd
              have h : smallB 8 a = true := h
              obtain ⟨z, rfl⟩ := small_str h
              rfl
          have la2 : acc.length = ds.length := by rw [em, List.length_map, List.length_map]
          refine ⟨_, rfl, D, ds.map keyOf, rfl, by rw [← em]; exact SqL.of hD, by rw [List.length_map]; omega, hk, fun n hn2 => ⟨_, rfl, D, acc, rfl, .inl (SqL.of hD), rfl, ?_⟩⟩
          rw [List.length_map] at hn2
          have e : decide (V.int (n : Nat) = V.int (acc.length : Nat)) = decide (ds.map keyOf).Nodup := by
            rw [la2]
            refine decide_eq_decide.mpr ((?_ : _ ↔ n = ds.length).trans hn2)
            constructor
            · intro z
              have := V.int.inj z
              omega
            · intro z
              rw [z]
          rw [e]
          exact q _ (s1.trans s2)
end
end St6

set_option autoImplicit false
set_option maxHeartbeats 4000000
/-! a list against the list of nothing -/
namespace Tg
open PySem PySem.Spec PyProof.Rows L2 PySem.SeqAt
def rEqNil (K : PySem.W.Frag) : R2 := fun x y H Q => ∃ (a b : Addr) (xs : List V), x = .ref a ∧ y = .ref b ∧ SqL K H a xs ∧ SqL K H b [] ∧ Q (.bl xs.isEmpty) H
section
variable {X : Cx}
theorem op_eqNil (hu : X.A.units + 64 < cLine) : OpR X (compareOp .Eq) (rEqNil X.K) := by
  intro pins s σ H x y v u Q I rx ry h
  obtain ⟨a, b, xs, rfl, rfl, ha, hb, q⟩ := h
  cases xs with
  | nil => exact op_eqD hu _ _ _ _ _ _ _ _ _ I rx ry ⟨.list [], .list [], .lst ha .nil, .lst hb .nil, by decide +kernel, by decide +kernel, q⟩
  | cons y r =>
    obtain rfl : v = Value.ref a := rx
    obtain rfl : u = Value.ref b := ry
    obtain ⟨its, rv, hl, _⟩ := I.list ha
    obtain ⟨its2, rv2, hl2, _⟩ := I.list hb
    have l1 := rv.length
    have l2 := rv2.length
    have ne : (its.toArray.size != its2.toArray.size) = true := by
      rw [List.size_toArray, List.size_toArray, ← l1, ← l2]
      simp
    exact RcAt.lists_lengths hl.isList hl2.isList ne (Nat.lt_of_le_of_lt (Nat.le_add_right _ 64) hu) X.prog X.w _ _ ⟨.bl false, H, I, rfl, q⟩
end
end Tg

set_option autoImplicit false
set_option maxHeartbeats 4000000
namespace St6
open PySem PySem.Spec PyProof.Rows L2 Tg Cc Nn TL
/-! the law's own look at a step -/
def spLSuits (K : PySem.W.Frag) (rec : Fs → PyData → Except Nat Fs) : Sp := fun vs H Q _ => ∃ f fs v wd r, vs = [f, v] ∧ Th K H f (formD fs) ∧ fs.length ≤ 2000000 ∧ Th K H v (.tuple (.str wd :: r)) ∧ lenOf wd = some r.length ∧ wd ≠ "case" ∧ (∀ d ∈ r, Ok d) ∧ ∀ H', Same H H' → Q (.bl (leadB rec fs wd r).isSome) H'
theorem some_if {α : Type} {c : Bool} {x : α} : (if c = true then some x else none).isSome = c := by cases c <;> rfl
theorem sums_is (fs : Fs) (d : PyData) : sumsB fs d = (isListB 6 d && (items d).all fun f => amongB numsL (sortOf fs f)) := by cases d <;> rfl
theorem parts_is (fs : Fs) (d : PyData) : partsB fs d = (isListB 8 d && (items d).all (partB fs)) := by cases d <;> rfl
theorem isList_tup {n : Nat} {d : PyData} (h : isListB n d = true) : ∃ l, d = .tuple l := by cases d <;> first | exact ⟨_, rfl⟩ | cases h
theorem all_snoc {g : PyData → Bool} {ds : List PyData} {i : Nat} {d : PyData} (h : ds[i]? = some d) : (ds.take (i + 1)).all g = ((ds.take i).all g && g d) := by
  rw [List.take_succ, h, List.all_append]
  simp
section
variable {P : Program} {w : World} {K : PySem.W.Frag} {mg : Str → Option Value} {base : Heap}
theorem sclsuits : FnScope ["fields", "step", "word", "numbers", "one", "old"] ["fields", "step"] (defScope sLawSuits) := ⟨rfl, rfl, rfl, by decide +kernel, rfl, by decide +kernel, by decide +kernel⟩
theorem ok_lsuits {f : Addr} {fd : FuncData} (F : FnP K "_law_suits" sLawSuits f fd) {f__law_whole : Addr} {fd__law_whole : FuncData} (c__law_whole : Cl P w K mg base CX0 "_law_whole" 1 ["thing"] (spWhole K) f__law_whole fd__law_whole) {f__law_sort : Addr} {fd__law_sort : FuncData} (c__law_sort : Cl P w K mg base CX0 "_law_sort" 1 ["fields", "field"] (spLSort K) f__law_sort fd__law_sort) {f__law_is_new : Addr} {fd__law_is_new : FuncData} (c__law_is_new : Cl P w K mg base CX0 "_law_is_new" 2 ["fields", "field"] (spLNew K) f__law_is_new fd__law_is_new) {f__law_is_part : Addr} {fd__law_is_part : FuncData} (c__law_is_part : Cl P w K mg base CX0 "_law_is_part" 2 ["fields", "part"] (spLPart K) f__law_is_part fd__law_is_part) {f__law_is_rows : Addr} {fd__law_is_rows : FuncData} (c__law_is_rows : Cl P w K mg base CX0 "_law_is_rows" 3 ["rows", "old", "new"] (spLRows K) f__law_is_rows fd__law_is_rows) {f__law_is_sort : Addr} {fd__law_is_sort : FuncData} (c__law_is_sort : Cl P w K mg base CX0 "_law_is_sort" 1 ["thing"] (spLIsSort K) f__law_is_sort fd__law_is_sort) {f__law_is_list : Addr} {fd__law_is_list : FuncData} (c__law_is_list : Cl P w K mg base CX0 "_law_is_list" 1 ["thing", "most"] (spLIsList K) f__law_is_list fd__law_is_list) {f__law_of_sort : Addr} {fd__law_of_sort : FuncData} (c__law_of_sort : Cl P w K mg base CX0 "_law_of_sort" 2 ["sort", "thing"] (spOfSortL K) f__law_of_sort fd__law_of_sort) (mb_isinstance : mg "isinstance" = none) (mb_tuple : mg "tuple" = none) (mb_len : mg "len" = none)  {rec : Fs → PyData → Except Nat Fs} : FnOk P w K mg base CX0 4 f fd ["fields", "step"] (spLSuits K rec) := by
  refine F.ok sclsuits (fun vs H Q E h => ?_) (fun cdv A outer s H vs Q E hr h => ?_)
  · obtain ⟨f, fs, v, wd, r, rfl, _⟩ := h
    rfl
  · obtain ⟨f, fs, v, wd, r, rfl, hF, hl, hT, hln, nc, hB, q⟩ := h
    have hu := hu_of hr
    have hs_ := szl
    refine ⟨_, PSs.nox (pss_cons (ps_set (i := 2) sclsuits.nd rfl (Or.inl rfl) (pe_ix Cc.ix_B (pv 1) (pe_int) (fun _ _ => rfl)))
      (pss_cons (ps_set (i := 3) sclsuits.nd rfl (Or.inr rfl) (pe_tup (pa_cons (pe_str) (pa_cons (pe_str) pa_nil))))
      (pss_cons (ps_if (pt_cmpR op_in_seq (pv 2) (pe_tup (pa_cons (pe_str) (pa_cons (pe_str) pa_nil))) (by with_unfolding_all rfl)) (pss_one (ps_ret (pe_and (pe_cmpR op_notN (pe_call c__law_sort.ok (hr.mono (by decide)) (by rfl) c__law_sort.m c__law_sort.kp c__law_sort.b .nil pass0 (pa_cons (pv 0) (pa_cons (pe_ix Cc.ix_B (pv 1) (pe_int) (fun _ _ => rfl)) pa_nil))) (pe_non) (nomark _)) (pe_one (pe_call c__law_is_new.ok (hr.mono (by decide)) (by rfl) c__law_is_new.m c__law_is_new.kp c__law_is_new.b .nil pass0 (pa_cons (pv 0) (pa_cons (pe_ix Cc.ix_B (pv 1) (pe_int) (fun _ _ => rfl)) pa_nil))))))) (pss_nil))
      (pss_cons (ps_if (pt_cmpR op_eq (pv 2) (pe_str) (nomark _)) (pss_one (ps_ret (pe_cmpR op_notN (pe_call c__law_sort.ok (hr.mono (by decide)) (by rfl) c__law_sort.m c__law_sort.kp c__law_sort.b .nil pass0 (pa_cons (pv 0) (pa_cons (pe_ix Cc.ix_B (pv 1) (pe_int) (fun _ _ => rfl)) pa_nil))) (pe_non) (nomark _)))) (pss_nil))
      (pss_cons (ps_if (pt_cmpR op_eq (pv 2) (pe_str) (nomark _)) (pss_one (ps_ret (pe_and (pe_call c__law_is_new.ok (hr.mono (by decide)) (by rfl) c__law_is_new.m c__law_is_new.kp c__law_is_new.b .nil pass0 (pa_cons (pv 0) (pa_cons (pe_ix Cc.ix_B (pv 1) (pe_int) (fun _ _ => rfl)) pa_nil))) (pe_and (pe_call c__law_is_sort.ok (hr.mono (by decide)) (by rfl) c__law_is_sort.m c__law_is_sort.kp c__law_is_sort.b .nil pass0 (pa_cons (pe_ix Cc.ix_B (pv 1) (pe_int) (fun _ _ => rfl)) pa_nil)) (pe_one (pe_call c__law_of_sort.ok (hr.mono (by decide)) (by rfl) c__law_of_sort.m c__law_of_sort.kp c__law_of_sort.b .nil pass0 (pa_cons (pe_ix Cc.ix_B (pv 1) (pe_int) (fun _ _ => rfl)) (pa_cons (pe_ix Cc.ix_B (pv 1) (pe_int) (fun _ _ => rfl)) pa_nil)))))))) (pss_nil))
      (pss_cons (ps_if (pt_cmpR op_eq (pv 2) (pe_str) (nomark _)) (pss_one (ps_ret (pe_and (pe_cmpR op_in_seq (pe_call c__law_sort.ok (hr.mono (by decide)) (by rfl) c__law_sort.m c__law_sort.kp c__law_sort.b .nil pass0 (pa_cons (pv 0) (pa_cons (pe_ix Cc.ix_B (pv 1) (pe_int) (fun _ _ => rfl)) pa_nil))) (pv 3) (by with_unfolding_all rfl)) (pe_and (pe_call c__law_whole.ok (hr.mono (by decide)) (by rfl) c__law_whole.m c__law_whole.kp c__law_whole.b .nil pass0 (pa_cons (pe_ix Cc.ix_B (pv 1) (pe_int) (fun _ _ => rfl)) pa_nil)) (pe_one (pe_call c__law_whole.ok (hr.mono (by decide)) (by rfl) c__law_whole.m c__law_whole.kp c__law_whole.b .nil pass0 (pa_cons (pe_ix Cc.ix_B (pv 1) (pe_int) (fun _ _ => rfl)) pa_nil))))))) (pss_nil))
      (pss_cons (ps_if (PW.pt (pw_and (pt_cmpR op_in_seq (pv 2) (pe_tup (pa_cons (pe_str) (pa_cons (pe_str) pa_nil))) (by with_unfolding_all rfl)) (pw_and1 (pt_not (pt_val (pe_call c__law_is_new.ok (hr.mono (by decide)) (by rfl) c__law_is_new.m c__law_is_new.kp c__law_is_new.b .nil pass0 (pa_cons (pv 0) (pa_cons (pe_ix Cc.ix_B (pv 1) (pe_int) (fun _ _ => rfl)) pa_nil)))))))) (pss_one (ps_ret (pe_bl))) (pss_nil))
      (pss_cons (ps_if (PW.pt (pw_and (pt_cmpR op_eq (pv 2) (pe_str) (nomark _)) (pw_and1 (pt_val (pe_call c__law_is_list.ok (hr.mono (by decide)) (by rfl) c__law_is_list.m c__law_is_list.kp c__law_is_list.b .nil pass0 (pa_cons (pe_ix Cc.ix_B (pv 1) (pe_int) (fun _ _ => rfl)) (pa_cons (pe_int) pa_nil))))))) (pss_one (ps_ret (pe_cmpR (op_eqNil hr.units) (pe_lc (own := [("one", 4)]) (g := gName 4) rfl sclsuits.nd (pi_tup (pe_ix Cc.ix_B (pv 1) (pe_int) (fun _ _ => rfl))) (blkOk_by (own := [("one", 4)]) (N := ["fields", "step", "word", "numbers", "one", "old"]) (sc := defScope sLawSuits) (by decide +kernel)) (fun _ _ _ _ _ => pg_name (i := 4) sclsuits.nd rfl (Or.inl rfl)) (fun _ _ _ _ _ => pts_one (pt_cmpR (Nn.op_notInSk (K := K) rfl) (pe_call c__law_sort.ok (hr.mono (by decide)) (by rfl) c__law_sort.m c__law_sort.kp c__law_sort.b .nil pass0 (pa_cons (pv 0) (pa_cons (pv 4) pa_nil))) (pv 3) (by with_unfolding_all rfl))) (fun _ _ _ _ _ => pv 4)) (pe_lst (pa_nil)) (nomark _)))) (pss_nil))
      (pss_cons (ps_if (PW.pt (pw_and (pt_cmpR op_eq (pv 2) (pe_str) (nomark _)) (pw_and1 (pt_val (pe_call c__law_is_list.ok (hr.mono (by decide)) (by rfl) c__law_is_list.m c__law_is_list.kp c__law_is_list.b .nil pass0 (pa_cons (pe_ix Cc.ix_B (pv 1) (pe_int) (fun _ _ => rfl)) (pa_cons (pe_int) pa_nil))))))) (pss_one (ps_ret (pe_cmpR (op_eqNil hr.units) (pe_lc (own := [("one", 4)]) (g := gName 4) rfl sclsuits.nd (pi_tup (pe_ix Cc.ix_B (pv 1) (pe_int) (fun _ _ => rfl))) (blkOk_by (own := [("one", 4)]) (N := ["fields", "step", "word", "numbers", "one", "old"]) (sc := defScope sLawSuits) (by decide +kernel)) (fun _ _ _ _ _ => pg_name (i := 4) sclsuits.nd rfl (Or.inl rfl)) (fun _ _ _ _ _ => pts_one (pt_not (pt_val (pe_call c__law_is_part.ok (hr.mono (by decide)) (by rfl) c__law_is_part.m c__law_is_part.kp c__law_is_part.b .nil pass0 (pa_cons (pv 0) (pa_cons (pv 4) pa_nil)))))) (fun _ _ _ _ _ => pv 4)) (pe_lst (pa_nil)) (nomark _)))) (pss_nil))
      (pss_cons (ps_if (pt_cmpR op_in_seq (pv 2) (pe_tup (pa_cons (pe_str) (pa_cons (pe_str) pa_nil))) (by with_unfolding_all rfl)) (pss_one (ps_ret (pe_bl))) (pss_nil))
      (pss_cons (ps_set (i := 5) sclsuits.nd rfl (Or.inl rfl) (pe_call c__law_sort.ok (hr.mono (by decide)) (by rfl) c__law_sort.m c__law_sort.kp c__law_sort.b .nil pass0 (pa_cons (pv 0) (pa_cons (pe_ix Cc.ix_B (pv 1) (pe_int) (fun _ _ => rfl)) pa_nil))))
      (pss_cons (ps_if (PW.pt (pw_or (pt_cmpR op_notIn_seq (pv 5) (pe_tup (pa_cons (pe_str) (pa_cons (pe_str) pa_nil))) (by with_unfolding_all rfl)) (pw_or (pt_not (pt_val (pe_call c__law_is_sort.ok (hr.mono (by decide)) (by rfl) c__law_is_sort.m c__law_is_sort.kp c__law_is_sort.b .nil pass0 (pa_cons (pe_ix Cc.ix_B (pv 1) (pe_int) (fun _ _ => rfl)) pa_nil)))) (pw_or1 (pt_cmpR op_notIn_seq (pe_ix Cc.ix_B (pv 1) (pe_int) (fun _ _ => rfl)) (pe_tup (pa_cons (pe_str) (pa_cons (pe_str) pa_nil))) (by with_unfolding_all rfl)))))) (pss_one (ps_ret (pe_bl))) (pss_nil))
      (pss_cons (ps_if (pt_not (pt_val (pe_call c__law_is_rows.ok (hr.mono (by decide)) (by rfl) c__law_is_rows.m c__law_is_rows.kp c__law_is_rows.b .nil pass0 (pa_cons (pe_ix Cc.ix_B (pv 1) (pe_int) (fun _ _ => rfl)) (pa_cons (pv 5) (pa_cons (pe_ix Cc.ix_B (pv 1) (pe_int) (fun _ _ => rfl)) pa_nil)))))) (pss_one (ps_ret (pe_bl))) (pss_nil))
      (pss_cons (ps_if (pt_cmpR op_isN (pe_ix Cc.ix_B (pv 1) (pe_int) (fun _ _ => rfl)) (pe_non) (nomark _)) (pss_one (ps_ret (pe_cmpR op_eq (pe_ix Cc.ix_B (pv 1) (pe_int) (fun _ _ => rfl)) (pv 5) (nomark _)))) (pss_nil))
      (pss_one (ps_ret (pe_and (pe_callB call_isi (by rfl) mb_isinstance (by decide +kernel) (pa_cons (pe_ix Cc.ix_B (pv 1) (pe_int) (fun _ _ => rfl)) (pa_cons (pe_bltn (v := .ty "tuple") (by rfl) mb_tuple (by decide +kernel) rfl) pa_nil))) (pe_and (pe_cmpR op_eq (pe_callB call_len (by rfl) mb_len (by decide +kernel) (pa_cons (pe_ix Cc.ix_B (pv 1) (pe_int) (fun _ _ => rfl)) pa_nil)) (pe_int) (nomark _)) (pe_one (pe_call c__law_of_sort.ok (hr.mono (by decide)) (by rfl) c__law_of_sort.m c__law_of_sort.kp c__law_of_sort.b .nil pass0 (pa_cons (pe_ix Cc.ix_B (pv 1) (pe_int) (fun _ _ => rfl)) (pa_cons (pe_ix Cc.ix_B (pe_ix Cc.ix_B (pv 1) (pe_int) (fun _ _ => rfl)) (pe_int) (fun _ _ => rfl)) pa_nil)))))))))))))))))))))), ?_⟩
    obtain ⟨a, xs, rfl, hx, hA⟩ := hT.asTup
    obtain ⟨x00, xr, rfl, t00, _⟩ := hA.cons_of
    obtain rfl := t00.asStr
    refine ⟨_, rfl, true, a, _, 0, _, rfl, rfl, hx, at0, by show 2 ≤ sizeLine; decide, fun tn nn => ?_⟩
    have s0 := newS (o := .tup [.str "code", .str "amount"]) nn
    have hnum : ∀ {H'}, Same (upd H tn (.tup [.str "code", .str "amount"])) H' → SqT K H' tn (numsL.map V.str) := fun s => Sq.same (t := true) (SqT.of upd_same) s
    generalize upd H tn (.tup [.str "code", .str "amount"]) = H0 at s0 hnum ⊢
    replace hx := Sq.same (t := true) hx s0
    replace hF := hF.kept (kept_same s0)
    replace hA := hA.kept (kept_same s0)
    replace q : ∀ H', Same H0 H' → Q (.bl (leadB rec fs wd r).isSome) H' := fun H' s => q H' (s0.trans s)
    refine ⟨_, rfl, by show 2 ≤ sizeLine; decide, fun t1 n1 => ⟨t1, (["rename", "copy"] : List Str).map V.str, rfl, .inr (SqT.of upd_same), rfl, by decide +kernel, _, rfl, ?_⟩⟩
    rw [if_neg (by decide), in_strs]
    have s1 := newS (o := .tup [.str "rename", .str "copy"]) n1
    generalize upd H0 t1 (.tup [.str "rename", .str "copy"]) = H1 at s1 ⊢
    have hx1 := Sq.same (t := true) hx s1
    have hA1 := hA.kept (kept_same s1)
    have hF1 := hF.kept (kept_same s1)
    refine ite2 (fun e => ?_) (fun e => ?_)
    · have e : wd = "rename" ∨ wd = "copy" := by simpa using of_decide_eq_true e
      have l2 : r.length = 2 := by
        rcases e with rfl | rfl <;> exact (Option.some.inj hln).symm
      obtain ⟨d0, d1, rfl⟩ := len2 l2
      obtain ⟨x0, x1, ex, u0, u1⟩ := th2 hA1
      obtain rfl := List.tail_eq_of_cons_eq ex
      have val : (leadB rec fs wd [d0, d1]).isSome = ((sortOf fs d0).isSome && isNewB fs d1) := by
        rcases e with rfl | rfl
        · exact some_if
        · show (copyB fs d0 d1).isSome = _
          unfold copyB
          cases sortOf fs d0 with
          | none => rfl
          | some z => exact some_if
      rw [val] at q
      refine ⟨_, rfl, _, rfl, true, a, _, 1, _, rfl, rfl, hx1, rfl, f, fs, x0, d0, rfl, hF1, hl, u0, fun H2 s2 => ⟨rfl, _, rfl, ?_⟩⟩
      rw [optV_non, Bool.not_not]
      cases hso : (sortOf fs d0).isSome with
      | false =>
        rw [hso, Bool.false_and] at q
        exact iteF (q _ (s1.trans s2))
      | true =>
        rw [hso, Bool.true_and] at q
        exact iteT ⟨_, rfl, _, rfl, true, a, _, 2, _, rfl, rfl, Sq.same (t := true) hx1 s2, rfl, f, fs, x1, d1, rfl, hF1.kept (kept_same s2), hl, u1.kept (kept_same s2), hB d1 (by simp), fun H3 s3 => q _ ((s1.trans s2).trans s3)⟩
    have nr : wd ≠ "rename" := fun z => e (decide_eq_true (by rw [z]; simp))
    have ny : wd ≠ "copy" := fun z => e (decide_eq_true (by rw [z]; simp))
    clear e
    replace q : ∀ H', Same H1 H' → Q (.bl (leadB rec fs wd r).isSome) H' := fun H' s => q H' (s1.trans s)
    replace hnum : ∀ {H'}, Same H1 H' → SqT K H' tn (numsL.map V.str) := fun s => hnum (s1.trans s)
    refine ⟨_, rfl, rfl, _, rfl, tst "drop" (fun e => ?_) (fun nd => ?_)⟩
    · subst e
      obtain ⟨d0, rfl⟩ := len1 (Option.some.inj hln).symm
      obtain ⟨x0, ex, u0⟩ := th1 hA1
      obtain rfl := List.tail_eq_of_cons_eq ex
      have val : (leadB rec fs "drop" [d0]).isSome = (sortOf fs d0).isSome := some_if
      rw [val] at q
      refine ⟨_, rfl, _, rfl, true, a, _, 1, _, rfl, rfl, hx1, rfl, f, fs, x0, d0, rfl, hF1, hl, u0, fun H2 s2 => ⟨rfl, ?_⟩⟩
      rw [optV_non, Bool.not_not]
      exact q _ s2
    refine ⟨_, rfl, rfl, _, rfl, tst "put" (fun e => ?_) (fun np => ?_)⟩
    · subst e
      obtain ⟨d0, d1, d2, rfl⟩ := len3 (Option.some.inj hln).symm
      obtain ⟨x0, x1, x2, ex, u0, u1, u2⟩ := th3 hA1
      obtain rfl := List.tail_eq_of_cons_eq ex
      have val : (leadB rec fs "put" [d0, d1, d2]).isSome = (isNewB fs d0 && (sortB d1 && ofSort (txtOf d1) d2)) := some_if
      rw [val] at q
      refine ⟨_, rfl, _, rfl, true, a, _, 1, _, rfl, rfl, hx1, rfl, f, fs, x0, d0, rfl, hF1, hl, u0, hB d0 (by simp), fun H2 s2 => ⟨_, rfl, ?_⟩⟩
      cases hn : isNewB fs d0 with
      | false =>
        rw [hn, Bool.false_and] at q
        exact iteF (q _ s2)
      | true =>
        rw [hn, Bool.true_and] at q
        have hx2 := Sq.same (t := true) hx1 s2
        refine iteT ⟨_, rfl, true, a, _, 2, _, rfl, rfl, hx2, rfl, x1, d1, rfl, u1.kept (kept_same s2), fun H3 s3 => ⟨_, rfl, ?_⟩⟩
        cases hsb : sortB d1 with
        | false =>
          rw [hsb, Bool.false_and] at q
          exact iteF (q _ (s2.trans s3))
        | true =>
          rw [hsb, Bool.true_and] at q
          have hx3 := Sq.same (t := true) hx2 s3
          obtain ⟨so, rfl⟩ : ∃ z, d1 = .str z := by cases d1 <;> first | exact ⟨_, rfl⟩ | cases hsb
          obtain rfl := u1.asStr
          have hso : so ∈ sorts := of_decide_eq_true hsb
          exact iteT ⟨_, rfl, true, a, _, 2, _, rfl, rfl, hx3, rfl, _, rfl, true, a, _, 3, _, rfl, rfl, hx3, rfl, x2, d2, so, rfl, (u2.kept (kept_same s2)).kept (kept_same s3), hB d2 (by simp), hso, fun H4 s4 => q _ ((s2.trans s3).trans s4)⟩
    refine ⟨_, rfl, rfl, _, rfl, tst "scale" (fun e => ?_) (fun ns => ?_)⟩
    · subst e
      obtain ⟨d0, d1, d2, rfl⟩ := len3 (Option.some.inj hln).symm
      obtain ⟨x0, x1, x2, ex, u0, u1, u2⟩ := th3 hA1
      obtain rfl := List.tail_eq_of_cons_eq ex
      have val : (leadB rec fs "scale" [d0, d1, d2]).isSome = (amongB numsL (sortOf fs d0) && (wholeB d1 && wholeB d2)) := some_if
      rw [val] at q
      refine ⟨_, rfl, _, rfl, true, a, _, 1, _, rfl, rfl, hx1, rfl, f, fs, x0, d0, rfl, hF1, hl, u0, fun H2 s2 => ⟨_, rfl, tn, _, rfl, .inr (hnum s2), flat_opt _, by decide +kernel, ?_⟩⟩
      rw [if_neg (by decide), in_opt]
      refine ⟨_, rfl, ?_⟩
      cases ha : amongB numsL (sortOf fs d0) with
      | false =>
        rw [ha, Bool.false_and] at q
        exact iteF (q _ s2)
      | true =>
        rw [ha, Bool.true_and] at q
        have hx2 := Sq.same (t := true) hx1 s2
        refine iteT ⟨_, rfl, true, a, _, 2, _, rfl, rfl, hx2, rfl, x1, d1, rfl, u1.kept (kept_same s2), hB d1 (by simp), fun H3 s3 => ⟨_, rfl, ?_⟩⟩
        cases hw : wholeB d1 with
        | false =>
          rw [hw, Bool.false_and] at q
          exact iteF (q _ (s2.trans s3))
        | true =>
          rw [hw, Bool.true_and] at q
          exact iteT ⟨_, rfl, true, a, _, 3, _, rfl, rfl, Sq.same (t := true) hx2 s3, rfl, x2, d2, rfl, (u2.kept (kept_same s2)).kept (kept_same s3), hB d2 (by simp), fun H4 s4 => q _ ((s2.trans s3).trans s4)⟩
    by_cases two : wd = "sum" ∨ wd = "join"
    ·
      have l2 : r.length = 2 := by
        rcases two with rfl | rfl <;> exact (Option.some.inj hln).symm
      obtain ⟨d0, d1, rfl⟩ := len2 l2
      obtain ⟨x0, x1, ex, u0, u1⟩ := th2 hA1
      obtain rfl := List.tail_eq_of_cons_eq ex
      refine ⟨_, rfl, by show 2 ≤ sizeLine; decide, fun t5 n5 => ⟨t5, (["sum", "join"] : List Str).map V.str, rfl, .inr (SqT.of upd_same), rfl, by decide +kernel, _, rfl, ?_⟩⟩
      rw [if_neg (by decide), in_strs]
      have s5 := newS (o := .tup [.str "sum", .str "join"]) n5
      generalize upd H1 t5 (.tup [.str "sum", .str "join"]) = H5 at s5 ⊢
      refine ite2 (fun _ => ?_) (fun e => absurd (decide_eq_true (by rcases two with rfl | rfl <;> simp)) e)
      have hx5 := Sq.same (t := true) hx1 s5
      refine ⟨_, rfl, _, rfl, true, a, _, 1, _, rfl, rfl, hx5, rfl, f, fs, x0, d0, rfl, hF1.kept (kept_same s5), hl, u0.kept (kept_same s5), hB d0 (by simp), fun H6 s6 => ⟨_, rfl, ?_⟩⟩
      have s16 := s5.trans s6
      have u1 := u1.kept (kept_same s16)
      have hx6 := Sq.same (t := true) hx5 s6
      have hF6 := hF1.kept (kept_same s16)
      have b1 := hB d1 (by simp)
      cases hn : isNewB fs d0 with
      | false =>
        have val : (leadB rec fs wd [d0, d1]).isSome = false := by
          rcases two with rfl | rfl
          · show (sumB fs d0 d1).isSome = false
            unfold sumB
            rw [hn]
            rfl
          · show (joinB fs d0 d1).isSome = false
            unfold joinB
            rw [hn]
            rfl
        rw [val] at q
        exact iteT (q _ s16)
      | true =>
        refine iteF ?_
        rcases two with rfl | rfl
        · have val : (leadB rec fs "sum" [d0, d1]).isSome = (isListB 6 d1 && (items d1).all fun f => amongB numsL (sortOf fs f)) := by
            show (sumB fs d0 d1).isSome = _
            unfold sumB
            rw [hn, Bool.true_and, sums_is]
            exact some_if
          rw [val] at q
          refine ⟨_, rfl, rfl, _, rfl, tst "sum" (fun _ => ⟨_, rfl, true, a, _, 2, _, rfl, rfl, hx6, rfl, x1, d1, 6, rfl, u1, b1, fun H7 s7 => ⟨_, rfl, ?_⟩⟩) (fun e => absurd rfl e)⟩
          cases hs : isListB 6 d1 with
          | false =>
            rw [hs, Bool.false_and] at q
            refine iteF ⟨_, rfl, rfl, _, rfl, tst "join" (fun e => absurd e (by decide)) (fun _ => ?_)⟩
            refine ⟨_, rfl, by show 2 ≤ sizeLine; decide, fun t8 n8 => ⟨t8, (["sum", "join"] : List Str).map V.str, rfl, .inr (SqT.of upd_same), rfl, by decide +kernel, _, rfl, ?_⟩⟩
            rw [if_neg (by decide), in_strs]
            exact ite2 (fun _ => q _ ((s16.trans s7).trans (newS n8))) (fun e => absurd (decide_eq_true (by simp)) e)
          | true =>
            rw [hs, Bool.true_and] at q
            obtain ⟨ds, rfl⟩ := isList_tup hs
            replace u1 := u1.kept (kept_same s7)
            have hF7 := hF6.kept (kept_same s7)
            obtain ⟨p, ys, rfl, hy, hY⟩ := u1.asTup
            have ly := hY.len
            have l6 : ds.length ≤ 6 := by
              have : (decide (0 < ds.length) && decide (ds.length ≤ 6)) = true := hs
              rw [Bool.and_eq_true] at this
              exact of_decide_eq_true this.2
            replace q : ∀ H', Same H1 H' → Q (.bl (ds.all fun f => amongB numsL (sortOf fs f))) H' := q
            refine iteT ⟨_, rfl, true, a, _, 2, _, rfl, rfl, Sq.same (t := true) hx6 s7, rfl, p, rfl, ⟨ys, hy⟩, fun D nD => ?_⟩
            refine lc_it (walk_tup (K := K) (a := p) (xs := ys)) (fun i H' => But D H7 H' ∧ ∃ acc, H' D = some (.lst acc) ∧ acc.length ≤ i ∧ acc.isEmpty = (ds.take i).all fun f => amongB numsL (sortOf fs f)) ⟨But.refl.upd, [], upd_same, Nat.le_refl _, rfl⟩ (fun i H' _ ⟨b, _⟩ => Sq.same (t := true) hy (b.new nD)) ?_ ?_
            · rintro i x H8 H9 hi ⟨b, acc, hD, la, hacc⟩ ⟨rfl, hx2⟩
              obtain ⟨d, hd, td, md⟩ := ThAll.get2 hY hx2
              have sb := b.new nD
              refine ⟨rfl, _, rfl, _, rfl, f, fs, x, d, rfl, hF7.kept (kept_same sb), hl, td.kept (kept_same sb), fun HA sA => ⟨_, rfl, tn, _, rfl, .inr (hnum (((s16.trans s7).trans sb).trans sA)), flat_opt _, by decide +kernel, _, rfl, ?_⟩⟩
              rw [if_pos rfl, in_opt]
              have bA := b.same sA
              have hDA := sA _ _ hD
              have an := all_snoc (g := fun f => amongB numsL (sortOf fs f)) hd
              refine ite2 (fun e => ?_) (fun e => ?_)
              · have g0 : amongB numsL (sortOf fs d) = false := by simpa using e
                refine ⟨_, rfl, acc, hDA, by omega, bA.upd, _, upd_same, by rw [List.length_append, List.length_singleton]; omega, ?_⟩
                rw [an, g0, Bool.and_false]
                cases acc <;> rfl
              · have g0 : amongB numsL (sortOf fs d) = true := by simpa using e
                refine ⟨bA, acc, hDA, by omega, ?_⟩
                rw [an, g0, Bool.and_true]
                exact hacc
            · rintro H8 ⟨b, acc, hD, la, hacc⟩
              have sb := b.new nD
              rw [ly, List.take_length] at hacc
              refine ⟨Nat.zero_le _, fun pe ne => ⟨D, pe, acc, rfl, rfl, SqL.of (newS ne _ _ hD), SqL.of upd_same, ?_⟩⟩
              rw [hacc]
              exact q _ (((s16.trans s7).trans sb).trans (newS ne))
        · have val : (leadB rec fs "join" [d0, d1]).isSome = (isListB 8 d1 && (items d1).all (partB fs)) := by
            show (joinB fs d0 d1).isSome = _
            unfold joinB
            rw [hn, Bool.true_and, parts_is]
            exact some_if
          rw [val] at q
          refine ⟨_, rfl, rfl, _, rfl, tst "sum" (fun e => absurd e (by decide)) (fun _ => ?_)⟩
          refine ⟨_, rfl, rfl, _, rfl, tst "join" (fun _ => ⟨_, rfl, true, a, _, 2, _, rfl, rfl, hx6, rfl, x1, d1, 8, rfl, u1, b1, fun H7 s7 => ⟨_, rfl, ?_⟩⟩) (fun e => absurd rfl e)⟩
          cases hs : isListB 8 d1 with
          | false =>
            rw [hs, Bool.false_and] at q
            refine iteF ⟨_, rfl, by show 2 ≤ sizeLine; decide, fun t8 n8 => ⟨t8, (["sum", "join"] : List Str).map V.str, rfl, .inr (SqT.of upd_same), rfl, by decide +kernel, _, rfl, ?_⟩⟩
            rw [if_neg (by decide), in_strs]
            exact ite2 (fun _ => q _ ((s16.trans s7).trans (newS n8))) (fun e => absurd (decide_eq_true (by simp)) e)
          | true =>
            rw [hs, Bool.true_and] at q
            obtain ⟨ds, rfl⟩ := isList_tup hs
            replace u1 := u1.kept (kept_same s7)
            have hF7 := hF6.kept (kept_same s7)
            obtain ⟨p, ys, rfl, hy, hY⟩ := u1.asTup
            have ly := hY.len
            have l6 : ds.length ≤ 8 := by
              have : (decide (0 < ds.length) && decide (ds.length ≤ 8)) = true := hs
              rw [Bool.and_eq_true] at this
              exact of_decide_eq_true this.2
            have bs := (Bd.tup b1).2
            replace q : ∀ H', Same H1 H' → Q (.bl (ds.all (partB fs))) H' := q
            refine iteT ⟨_, rfl, true, a, _, 2, _, rfl, rfl, Sq.same (t := true) hx6 s7, rfl, p, rfl, ⟨ys, hy⟩, fun D nD => ?_⟩
            refine lc_it (walk_tup (K := K) (a := p) (xs := ys)) (fun i H' => But D H7 H' ∧ ∃ acc, H' D = some (.lst acc) ∧ acc.length ≤ i ∧ acc.isEmpty = (ds.take i).all (partB fs)) ⟨But.refl.upd, [], upd_same, Nat.le_refl _, rfl⟩ (fun i H' _ ⟨b, _⟩ => Sq.same (t := true) hy (b.new nD)) ?_ ?_
            · rintro i x H8 H9 hi ⟨b, acc, hD, la, hacc⟩ ⟨rfl, hx2⟩
              obtain ⟨d, hd, td, md⟩ := ThAll.get2 hY hx2
              have sb := b.new nD
              refine ⟨rfl, _, rfl, _, rfl, f, fs, x, d, rfl, hF7.kept (kept_same sb), hl, td.kept (kept_same sb), bs d md, fun HA sA => ⟨_, rfl, ?_⟩⟩
              have bA := b.same sA
              have hDA := sA _ _ hD
              have an := all_snoc (g := partB fs) hd
              refine ite2 (fun e => ?_) (fun e => ?_)
              · have g0 : partB fs d = false := by simpa using e
                refine ⟨_, rfl, acc, hDA, by omega, bA.upd, _, upd_same, by rw [List.length_append, List.length_singleton]; omega, ?_⟩
                rw [an, g0, Bool.and_false]
                cases acc <;> rfl
              · have g0 : partB fs d = true := by simpa using e
                refine ⟨bA, acc, hDA, by omega, ?_⟩
                rw [an, g0, Bool.and_true]
                exact hacc
            · rintro H8 ⟨b, acc, hD, la, hacc⟩
              have sb := b.new nD
              rw [ly, List.take_length] at hacc
              refine ⟨Nat.zero_le _, fun pe ne => ⟨D, pe, acc, rfl, rfl, SqL.of (newS ne _ _ hD), SqL.of upd_same, ?_⟩⟩
              rw [hacc]
              exact q _ (((s16.trans s7).trans sb).trans (newS ne))
    ·
      have e : wd = "table" := by
        rcases lenOf_in hln with e | e | e | e | e | e | e | e | e
        · exact absurd e nr
        · exact absurd e ny
        · exact absurd e nd
        · exact absurd e np
        · exact absurd e ns
        · exact absurd (.inl e) two
        · exact absurd (.inr e) two
        · exact e
        · exact absurd e nc
      subst e
      obtain ⟨d0, d1, d2, d3, rfl⟩ := len4 (Option.some.inj hln).symm
      obtain ⟨x0, x1, x2, x3, ex, u0, u1, u2, u3⟩ := th4 hA1
      obtain rfl := List.tail_eq_of_cons_eq ex
      refine ⟨_, rfl, by show 2 ≤ sizeLine; decide, fun t5 n5 => ⟨t5, (["sum", "join"] : List Str).map V.str, rfl, .inr (SqT.of upd_same), rfl, by decide +kernel, _, rfl, ?_⟩⟩
      rw [if_neg (by decide), in_strs]
      refine ite2 (fun e => absurd (of_decide_eq_true e) (by decide)) (fun _ => ?_)
      have s5 := newS (o := .tup [.str "sum", .str "join"]) n5
      generalize upd H1 t5 (.tup [.str "sum", .str "join"]) = H5 at s5 ⊢
      refine ⟨_, rfl, rfl, _, rfl, tst "sum" (fun e => absurd e (by decide)) (fun _ => ?_)⟩
      refine ⟨_, rfl, rfl, _, rfl, tst "join" (fun e => absurd e (by decide)) (fun _ => ?_)⟩
      refine ⟨_, rfl, by show 2 ≤ sizeLine; decide, fun t8 n8 => ⟨t8, (["sum", "join"] : List Str).map V.str, rfl, .inr (SqT.of upd_same), rfl, by decide +kernel, _, rfl, ?_⟩⟩
      rw [if_neg (by decide), in_strs]
      refine ite2 (fun e => absurd (of_decide_eq_true e) (by decide)) (fun _ => ?_)
      have s8 := s5.trans (newS (o := .tup [.str "sum", .str "join"]) n8)
      generalize upd H5 t8 (.tup [.str "sum", .str "join"]) = H8 at s8 ⊢
      have hx8 := Sq.same (t := true) hx1 s8
      have val : (leadB rec fs "table" [d0, d1, d2, d3]).isSome = match sortOf fs d0 with
          | some elder => ((decide (elder ∈ testL) && sortB d1) && decide (txtOf d1 ∈ testL)) && (rowsB elder (txtOf d1) d2 && otherB elder (txtOf d1) d3)
          | none => false := by
        show (tableB fs d0 d1 d2 d3).isSome = _
        unfold tableB
        cases sortOf fs d0 with
        | none => rfl
        | some z => exact some_if
      rw [val] at q
      refine ⟨_, rfl, _, rfl, true, a, _, 1, _, rfl, rfl, hx8, rfl, f, fs, x0, d0, rfl, hF1.kept (kept_same s8), hl, u0.kept (kept_same s8), fun H9 s9 => ?_⟩
      replace s9 := s8.trans s9
      refine ⟨_, rfl, by show 2 ≤ sizeLine; decide, fun tA nA => ⟨tA, testL.map V.str, rfl, .inr (SqT.of upd_same), flat_opt _, by decide +kernel, _, rfl, ?_⟩⟩
      rw [if_pos rfl, in_opt]
      have sA := s9.trans (newS (o := .tup [.str "code", .str "word"]) nA)
      generalize upd H9 tA (.tup [.str "code", .str "word"]) = HA at sA ⊢
      cases ho : sortOf fs d0 with
      | none =>
        rw [ho] at q
        exact iteT (iteT (q _ sA))
      | some el =>
        rw [ho] at q
        replace q : ∀ H', Same H1 H' → Q (.bl (((decide (el ∈ testL) && sortB d1) && decide (txtOf d1 ∈ testL)) && (rowsB el (txtOf d1) d2 && otherB el (txtOf d1) d3))) H' := q
        show if (!decide (el ∈ testL)) = true then _ else _
        cases hel : decide (el ∈ testL) with
        | false =>
          rw [hel, Bool.false_and, Bool.false_and, Bool.false_and] at q
          exact iteT (iteT (q _ sA))
        | true =>
          rw [hel, Bool.true_and] at q
          have hxA := Sq.same (t := true) hx1 sA
          refine iteF ⟨_, rfl, true, a, _, 2, _, rfl, rfl, hxA, rfl, x1, d1, rfl, u1.kept (kept_same sA), fun HB sB => ⟨_, rfl, ?_⟩⟩
          replace sB := sA.trans sB
          cases hsb : sortB d1 with
          | false =>
            rw [hsb, Bool.false_and, Bool.false_and] at q
            exact iteT (iteT (q _ sB))
          | true =>
            rw [hsb, Bool.true_and] at q
            obtain ⟨so, rfl⟩ : ∃ z, d1 = .str z := by cases d1 <;> first | exact ⟨_, rfl⟩ | cases hsb
            obtain rfl := u1.asStr
            replace q : ∀ H', Same H1 H' → Q (.bl (decide (so ∈ testL) && (rowsB el so d2 && otherB el so d3))) H' := q
            have hxB := Sq.same (t := true) hx1 sB
            refine iteF ⟨_, rfl, true, a, _, 2, _, rfl, rfl, hxB, rfl, by show 2 ≤ sizeLine; decide, fun tC nC => ⟨tC, testL.map V.str, rfl, .inr (SqT.of upd_same), rfl, by decide +kernel, _, rfl, ?_⟩⟩
            rw [if_pos rfl, in_strs]
            have sC := sB.trans (newS (o := .tup [.str "code", .str "word"]) nC)
            generalize upd HB tC (.tup [.str "code", .str "word"]) = HC at sC ⊢
            cases hsl : decide (so ∈ testL) with
            | false =>
              rw [hsl, Bool.false_and] at q
              exact iteT (q _ sC)
            | true =>
              rw [hsl, Bool.true_and] at q
              have hxC := Sq.same (t := true) hx1 sC
              refine iteF ⟨_, rfl, true, a, _, 3, _, rfl, rfl, hxC, rfl, _, rfl, _, rfl, true, a, _, 2, _, rfl, rfl, hxC, rfl, x2, d2, el, so, rfl, u2.kept (kept_same sC), hB d2 (by simp), of_decide_eq_true hel, of_decide_eq_true hsl, fun HD sD => ⟨_, rfl, ?_⟩⟩
              replace sD := sC.trans sD
              cases hr_ : rowsB el so d2 with
              | false =>
                rw [hr_, Bool.false_and] at q
                exact iteT (q _ sD)
              | true =>
                rw [hr_, Bool.true_and] at q
                have hxD := Sq.same (t := true) hx1 sD
                have u3 := u3.kept (kept_same sD)
                refine iteF ⟨_, rfl, true, a, _, 4, _, rfl, rfl, hxD, rfl, rfl, _, rfl, ?_⟩
                rw [th_non u3]
                cases hno : noneB d3 with
                | true =>
                  obtain rfl : d3 = .none := by cases d3 <;> first | rfl | cases hno
                  refine iteT ⟨_, rfl, true, a, _, 2, _, rfl, rfl, hxD, rfl, _, rfl, rfl, ?_⟩
                  have e : decide (V.str so = V.str el) = decide (so = el) := decide_eq_decide.mpr ⟨fun z => V.str.inj z, fun z => congrArg _ z⟩
                  show Q (.bl (decide (V.str so = V.str el))) HD
                  rw [e]
                  exact q _ sD
                | false =>
                  refine iteF ⟨_, rfl, true, a, _, 4, _, rfl, rfl, hxD, rfl, x3, .ty "tuple", _, _, _, rfl, .ty "tuple", u3.ty, kit_ty (kit_tup d3), _, rfl, ?_⟩
                  cases ht : isTup d3 with
                  | false =>
                    have e : otherB el so d3 = false := otherB_not ht hno
                    rw [e] at q
                    exact iteF (q _ sD)
                  | true =>
                    obtain ⟨es, rfl⟩ := isTup_eq ht
                    obtain ⟨p, ys, rfl, hy, hY⟩ := u3.asTup
                    have ly := hY.len
                    refine iteT ⟨_, rfl, true, a, _, 4, _, rfl, rfl, hxD, rfl, _, _, rfl, .inr ⟨_, hy, rfl⟩, rfl, _, rfl, ite2 (fun e => ?_) (fun e => ?_)⟩
                    · have e2 : ys.length = 1 := by
                        rw [dec_int] at e
                        have := of_decide_eq_true e
                        omega
                      obtain ⟨z, rfl⟩ := len1 (ly.symm.trans e2)
                      obtain ⟨y0, yr, rfl, v0, vr⟩ := hY.cons_of
                      obtain rfl := vr.nil_of
                      have bz := (Bd.tup (hB (.tuple [z]) (by simp))).2 z (by simp)
                      exact ⟨_, rfl, true, a, _, 2, _, rfl, rfl, hxD, rfl, _, rfl, true, a, _, 4, _, rfl, rfl, hxD, rfl, true, p, _, 0, _, rfl, rfl, hy, rfl, y0, z, so, rfl, v0, bz, of_decide_eq_true hsb, fun HE sE => q _ (sD.trans sE)⟩
                    · have ne : es.length ≠ 1 := fun z => e (by rw [dec_int]; exact decide_eq_true (by omega))
                      have e : otherB el so (.tuple es) = false := by
                        match es, ne with
                        | [], _ => rfl
                        | [_], h => exact absurd rfl h
                        | _ :: _ :: _, _ => rfl
                      rw [e] at q
                      exact q _ sD
end
end St6

set_option maxHeartbeats 4000000
/-! sorted of lists and tuples of pairs of texts -/
namespace So
open PySem PyProof.Rows Srt SrtO
abbrev txLt (a b : Str) : Bool := decide (a.cps.toList < b.cps.toList)
def lexS (p q : Str × Str) : Bool := if p.1 = q.1 then txLt p.2 q.2 else txLt p.1 q.1
theorem cps_inj {a b : Str} (h : a.cps.toList = b.cps.toList) : a = b := by
  cases a
  cases b
  simpa using h
theorem tx_irr (a : Str) : txLt a a = false := decide_eq_false (List.lt_irrefl _)
theorem tx_asym {a b : Str} (h : txLt a b = true) : txLt b a = false := decide_eq_false (List.lt_asymm (of_decide_eq_true h))
theorem tx_tr {a b c : Str} (h1 : txLt b a = false) (h2 : txLt c b = false) : txLt c a = false := by
  have x : a.cps.toList ≤ b.cps.toList := List.not_lt.mp (of_decide_eq_false h1)
  have y : b.cps.toList ≤ c.cps.toList := List.not_lt.mp (of_decide_eq_false h2)
  exact decide_eq_false (List.not_lt.mpr (List.le_trans x y))
theorem tx_eq {a b : Str} (h1 : txLt a b = false) (h2 : txLt b a = false) : a = b := by
  have x : b.cps.toList ≤ a.cps.toList := List.not_lt.mp (of_decide_eq_false h1)
  have y : a.cps.toList ≤ b.cps.toList := List.not_lt.mp (of_decide_eq_false h2)
  exact cps_inj (List.le_antisymm y x)
theorem lex_asym {p q : Str × Str} (h : lexS p q = true) : lexS q p = false := by
  unfold lexS at *
  by_cases e : p.1 = q.1
  · rw [if_pos e] at h
    rw [if_pos e.symm]
    exact tx_asym h
  · rw [if_neg e] at h
    rw [if_neg (fun z => e z.symm)]
    exact tx_asym h
theorem lex_tr {p q r : Str × Str} (h1 : lexS q p = false) (h2 : lexS r q = false) : lexS r p = false := by
  unfold lexS at *
  by_cases a : q.1 = p.1
  · rw [if_pos a] at h1
    by_cases b : r.1 = q.1
    · rw [if_pos b] at h2
      rw [if_pos (b.trans a)]
      exact tx_tr h1 h2
    · rw [if_neg b] at h2
      rw [if_neg (fun z => b (z.trans a.symm)), ← a]
      exact h2
  · rw [if_neg a] at h1
    by_cases b : r.1 = q.1
    · rw [if_neg (fun z => a (b.symm.trans z)), b]
      exact h1
    · rw [if_neg b] at h2
      have t := tx_tr h1 h2
      by_cases c : r.1 = p.1
      · exfalso
        rw [c] at h2
        exact a (tx_eq h1 h2)
      · rw [if_neg c]
        exact t
theorem lex_eq {p q : Str × Str} (h1 : lexS p q = false) (h2 : lexS q p = false) : p = q := by
  unfold lexS at *
  by_cases e : p.1 = q.1
  · rw [if_pos e] at h1
    rw [if_pos e.symm] at h2
    exact Prod.ext e (tx_eq h1 h2)
  · rw [if_neg e] at h1
    rw [if_neg (fun z => e z.symm)] at h2
    exact absurd (tx_eq h1 h2) e
theorem swoS {α : Type} (k : α → Str × Str) : Swo fun v u => lexS (k v) (k u) := ⟨fun _ _ h => lex_asym h, fun _ _ _ h1 h2 => lex_tr h1 h2⟩
/-- v stands for a tuple of two texts -/
def PairS (h : Heap) (v : Value) (x y : Str) : Prop := ∃ a o t u n, v = .ref a ∧ h.get? a = some o ∧ (o.cls = .type "tuple" ∧ o.data = .seq #[.str x t, .str y u] n)
theorem PairS.on {h h' : Heap} {v : Value} {x y : Str} (p : PairS h v x y) (k : ∀ b o, h.get? b = some o → o.cls = .type "tuple" → h'.get? b = some o) : PairS h' v x y :=
  let ⟨a, o, t, u, n, e, ho, hc, hd⟩ := p
  ⟨a, o, t, u, n, e, k _ _ ho hc, hc, hd⟩
section
variable {prog : Program} {w : World} {A : Around} {E : Value → Shared → Prop} {s : Shared}
theorem one_str (c : Bool) {x y : Str} {t u : Tok} {Q : Bool → Shared → Prop} (h : Q (txLt x y) s) : wpAny (model prog w) A (oneLt' c (.str x t) (.str y u)) Q (fun _ _ => False) s := by
  cases c with
  | true => exact oneLt_str h
  | false => exact PySem.W.kat_one _ _ (PyProof.Rows.lt_str h)
theorem cmpS {vs : List Value} {k : Value → Str × Str} (hp : ∀ v ∈ vs, PairS s.heap v (k v).1 (k v).2) : Cmp prog w A s (tuples' true) (fun p => p.1 ∈ vs) (lt2 fun v u => lexS (k v) (k u)) := by
  intro p q hm hm'
  obtain ⟨a, o, t, u, n, e1, ho, _, hd⟩ := hp _ hm
  obtain ⟨b, o2, t2, u2, n2, e2, ho2, _, hd2⟩ := hp _ hm'
  show wpAny (model prog w) A (keyLt' (tuples' true) p.1 q.1) (fun r s' => s' = s ∧ r = lexS (k p.1) (k q.1)) (fun _ _ => False) s
  unfold lexS
  generalize k p.1 = kp at hd ⊢
  generalize k q.1 = kq at hd2 ⊢
  obtain ⟨x, y⟩ := kp
  obtain ⟨x2, y2⟩ := kq
  dsimp only at hd hd2 ⊢
  rw [e1, e2]
  refine PySem.W.kat_lt ho hd ho2 hd2 (show PySem.W.KatLex prog w A true (decide (2 < 2)) _ [(.str x t, .str x2 t2), (.str y u, .str y2 u2)] 0 s from ?_)
  refine PySem.W.kat_cons (SeqAt.EqAt.str_str x t x2 t2 prog w _ _ (PySem.W.kat_go (fun c1 => ?_) fun c1 => ?_))
  · have f1 : x = x2 := by simpa using c1
    rw [if_pos f1]
    refine PySem.W.kat_yes (PySem.W.kat_cons (SeqAt.EqAt.str_str y u y2 u2 prog w _ _ (PySem.W.kat_go (fun c2 => ?_) fun c2 => ?_)))
    · have f2 : y = y2 := by simpa using c2
      rw [f2, tx_irr]
      exact PySem.W.kat_yes (PySem.W.kat_nil ⟨rfl, rfl⟩)
    · exact PySem.W.kat_no (one_str _ ⟨rfl, rfl⟩)
  · have f1 : ¬ x = x2 := by simpa using c1
    rw [if_neg f1]
    exact PySem.W.kat_no (one_str _ ⟨rfl, rfl⟩)
theorem heads {h : Heap} : ∀ {vs : List Value}, (∀ v ∈ vs, ∃ x y, PairS h v x y) → ∃ fs : List Value, PySem.W.KatTups h vs fs ∧ fs.length = vs.length ∧ ∀ f ∈ fs, ∃ x t, f = Value.str x t
  | [], _ => ⟨[], .nil, rfl, fun _ m => nomatch m⟩
  | v :: vs, hp => by
    obtain ⟨x, y, a, o, t, u, n, rfl, ho, hc, hd⟩ := hp v (List.mem_cons_self ..)
    obtain ⟨fs, h1, h2, h3⟩ := heads fun z m => hp z (List.mem_cons_of_mem _ m)
    refine ⟨.str x t :: fs, .cons ho hc hd rfl h1, congrArg (· + 1) h2, fun f m => ?_⟩
    rcases List.mem_cons.mp m with rfl | m
    · exact ⟨x, t, rfl⟩
    · exact h3 f m
theorem sortableS {a : Addr} {vs : List Value} {k : Value → Str × Str} (h0 : 0 < vs.length) (hp : ∀ v ∈ vs, PairS s.heap v (k v).1 (k v).2) (ha : ∀ o, s.heap.get? a = some o → o.cls ≠ .type "tuple") : SortableO prog w A s a vs fun v u => lexS (k v) (k u) := fun h' keep => by
  have hp' : ∀ v ∈ vs, PairS h' v (k v).1 (k v).2 := fun v m => (hp v m).on fun b o e c => keep b o (fun z => ha o (z ▸ e) c) e
  obtain ⟨fs, h1, h2, h3⟩ := heads fun v m => ⟨_, _, hp' v m⟩
  refine ⟨tuples' true, fun Q E hq => PySem.W.kat_kind (T := .type "str") h1 (by omega) (fun f m => ?_) (by rfl) ?_, cmpS hp'⟩
  · obtain ⟨x, t, rfl⟩ := h3 f m
    exact PySem.W.Looks.now
  · rw [show (Value.type "str" != Value.type "tuple") = true by first | decide +kernel | rfl]
    exact hq
/-- what stands in a list or a tuple, told as a list -/
theorem coll_seq {T : String} {l : Addr} {o : Obj} {n : Nat} {vs : List Value} {Q : List Value → Shared → Prop} (ho : s.heap.get? l = some o) (hc : o.cls = .type T) (hT : T = "list" ∨ T = "tuple") (hd : o.data = .seq vs.toArray n) (hz : vs.length ≤ sizeLine)
    (q : Q vs { s with heap := (s.heap.push (seqObj "list" #[] 0)).update s.heap.objs.size (Obj.mapSeq (· ++ vs.toArray)) }) : wpAny (model prog w) A (collect (.ref l)) Q E s := by
  have hL := Heap.get?_push_of_some (seqObj "list" #[] 0) ho
  have hN : (s.heap.push (seqObj "list" #[] 0)).get? s.heap.objs.size = some (seqObj "list" #[] 0) := Heap.get?_push_size _ rfl
  unfold collect
  refine wpAny_bind (wpAny_runValue (codeAny_builtin entry_proto_collect' ?_))
  show wpAny _ _ (newList [] >>= fun r => again (.builtin "list.__iadd__" ⟨[r, .ref l], []⟩)) _ _ s
  refine wpAny_bind (wpAny_newList (wpAny_pure (And.intro (Code.quiet_builtin _ (by decide +kernel)) (codeAny_builtin entry_list_iadd' ?_))))
  show wpAny _ _ (Builtin.List.listExtendWith (.ref s.heap.objs.size) (.ref l) (.ref s.heap.objs.size)) _ _ (Shared.mk _ _ _ _ _)
  unfold Builtin.List.listExtendWith
  refine wpAny_bind (wpAny_typeOf (T := T) ⟨o, hL, hc⟩ ?_)
  rw [if_pos (by rcases hT with rfl | rfl <;> simp)]
  refine wpAny_bind (listItems_at hL hd (wpAny_bind (listItems_at hN rfl ?_)))
  rw [if_neg (by simp)]
  refine wpAny_bind (listUpdate_at hN rfl (wpAny_pure ?_) (Nat.zero_le _) (Nat.le_succ_of_le (by simpa using hz)))
  refine wpAny_bind (wpAny_load (get?_update_seq hN _) ?_)
  show wpAny _ _ (pure ((#[] : Array Value) ++ vs.toArray).toList) Q E _
  have e : ((#[] : Array Value) ++ vs.toArray).toList = vs := by simp
  rw [e]
  exact wpAny_pure q
theorem sorted_seq {T : String} {l : Addr} {o : Obj} {n : Nat} {vs : List Value} {k : Value → Str × Str} {Q : Value → Shared → Prop} (ho : s.heap.get? l = some o) (hc : o.cls = .type T) (hT : T = "list" ∨ T = "tuple") (hd : o.data = .seq vs.toArray n) (hz : vs.length ≤ sizeLine)
    (hp : ∀ v ∈ vs, PairS s.heap v (k v).1 (k v).2)
    (q : ∀ (h' : Heap) (d : Addr) (out : List Value), Srtd (fun v u => lexS (k v) (k u)) out → out.Perm vs → (∀ b o, s.heap.get? b = some o → h'.get? b = some o) → s.heap.objs.size ≤ d → (∃ n, h'.get? d = some (seqObj "list" out.toArray n)) → Q (.ref d) { s with heap := h' }) :
    wpAny (model prog w) A (call (.builtin "sorted") [.ref l]) Q E s := by
  refine Calls.call_function_entry kind_sorted plain_sorted entry_sorted (args_sorted1 _) ?_
  unfold Builtin.«sorted»
  refine wpAny_bind (m := checkCount "sorted" 1 1 _) (wpAny_pure (wpAny_bind (coll_seq ho hc hT hd hz (wpAny_bind (wpAny_newList ?_ hz)))))
  have z1 : ((s.heap.push (seqObj "list" #[] 0)).update s.heap.objs.size (Obj.mapSeq (· ++ vs.toArray))).objs.size = s.heap.objs.size + 1 := (Heap.size_update ..).trans (size_push' ..)
  have h1 : (((s.heap.push (seqObj "list" #[] 0)).update s.heap.objs.size (Obj.mapSeq (· ++ vs.toArray))).push (seqObj "list" vs.toArray 0)).get? (s.heap.objs.size + 1) = some (seqObj "list" vs.toArray 0) := z1 ▸ Heap.get?_push_size _ rfl
  have k1 : ∀ b o, s.heap.get? b = some o → b ≠ s.heap.objs.size + 1 ∧ (((s.heap.push (seqObj "list" #[] 0)).update s.heap.objs.size (Obj.mapSeq (· ++ vs.toArray))).push (seqObj "list" vs.toArray 0)).get? b = some o := fun b o e => by
    have lt := Heap.lt_size e
    exact ⟨Nat.ne_of_lt (Nat.lt_succ_of_lt lt), Heap.get?_push_of_some _ ((Heap.get?_update_ne _ _ _ _ (Nat.ne_of_lt lt)).trans (Heap.get?_push_of_some _ e))⟩
  rw [z1]
  have ord : 2 ≤ vs.length → SortableO prog w A.in1.in1 { s with heap := (((s.heap.push (seqObj "list" #[] 0)).update s.heap.objs.size (Obj.mapSeq (· ++ vs.toArray))).push (seqObj "list" vs.toArray 0)) } (s.heap.objs.size + 1) vs fun v u => lexS (k v) (k u) := fun h2 => by
    refine sortableS (by omega) (fun v m => (hp v m).on fun b o e _ => (k1 b o e).2) fun o e c => ?_
    obtain rfl := Option.some.inj (e.symm.trans h1)
    exact absurd (Value.type.inj c) (by decide)
  refine wpAny_bind (wpAny_holding (wpAny_call_entry slot_list_sort ⟨_, h1, rfl⟩ entry_list_sort (list_sort_ord (swoS k) h1 hz ord fun out hs hb => ⟨_, rfl, ?_⟩) (args_list_sort _)))
  exact wpAny_pure ⟨_, rfl, q _ _ out hs hb.perm (fun b o e => sortedAll_old e) (Nat.le_succ _) (sortedAll_at s.heap vs out.toArray)⟩
end
/-! ### the one sorted list -/
def Up (l : List (Str × Str)) : Prop := l.Pairwise fun p q => lexS q p = false
theorem up_uniq : ∀ {l m : List (Str × Str)}, Up l → Up m → l.Perm m → l = m
  | [], m, _, _, h => (List.Perm.eq_nil h.symm).symm
  | x :: l, [], _, _, h => absurd h.length_eq (by simp)
  | x :: l, y :: m, hl, hm, h => by
    have hl2 := List.pairwise_cons.mp hl
    have hm2 := List.pairwise_cons.mp hm
    have a : lexS x y = false := by
      rcases List.mem_cons.mp (h.mem_iff.mp (List.mem_cons_self (a := x) (l := l))) with e | e
      · rw [e]
        exact (swoS (α := Str × Str) id).refl y
      · exact hm2.1 x e
    have b : lexS y x = false := by
      rcases List.mem_cons.mp (h.mem_iff.mpr (List.mem_cons_self (a := y) (l := m))) with e | e
      · rw [e]
        exact (swoS (α := Str × Str) id).refl x
      · exact hl2.1 y e
    obtain rfl := lex_eq a b
    rw [up_uniq hl2.2 hm2.2 h.cons_inv]
end So
namespace Tg
open PySem PySem.Spec PyProof.Rows L2
def pairD (p : Str × Str) : PyData := .tuple [.str p.1, .str p.2]
/-- sorted(v), v a list or a tuple of pairs of texts: a new list of them, sorted -/
def rSortPairs (K : PySem.W.Frag) : List V → Hp → VK → Prop := fun vs H Q => ∃ (v : V) (ps : List (Str × Str)), vs = [v] ∧ (Th K H v (.tuple (ps.map pairD)) ∨ Th K H v (.list (ps.map pairD))) ∧
  ∀ (qs : List (Str × Str)) (ys : List V) (p : Addr), So.Up qs → qs.Perm ps → H p = none → ThAll K H ys (qs.map pairD) → Q (.ref p) (upd H p (.lst ys))
theorem thAll_map {K : PySem.W.Frag} {H : Hp} : ∀ {xs : List V} {ps : List (Str × Str)}, ThAll K H xs (ps.map pairD) → ∀ (i : Nat) (x : V) (p : Str × Str), xs[i]? = some x → ps[i]? = some p → Th K H x (pairD p)
  | _, [], _, i, x, p, _, h => by simp at h
  | _, q :: ps, .cons a b, 0, x, p, h1, h2 => by
    obtain rfl := Option.some.inj h1
    obtain rfl := Option.some.inj h2
    exact a
  | _, q :: ps, .cons a b, i + 1, x, p, h1, h2 => thAll_map b i x p (by simpa using h1) (by simpa using h2)
theorem thAll_of {K : PySem.W.Frag} {H : Hp} {k : V → Str × Str} : ∀ {ys : List V}, (∀ y ∈ ys, Th K H y (pairD (k y))) → ThAll K H ys ((ys.map k).map pairD)
  | [], _ => .nil
  | y :: ys, h => .cons (h y (List.mem_cons_self ..)) (thAll_of fun z m => h z (List.mem_cons_of_mem _ m))
open Classical in
/-- the pair that a value stands for -/
noncomputable def keyS (K : PySem.W.Frag) (H : Hp) (v : V) : Str × Str := if h : ∃ p, Th K H v (pairD p) then h.choose else ("", "")
theorem pair_tup {K : PySem.W.Frag} {H : Hp} {v : V} {p : Str × Str} (h : Th K H v (pairD p)) : ∃ a, v = .ref a ∧ SqT K H a [.str p.1, .str p.2] := by
  obtain ⟨a, xs, rfl, hx, hA⟩ := h.asTup
  cases hA with
  | cons h1 h2 =>
    cases h2 with
    | cons h3 h4 =>
      cases h4
      cases h1
      cases h3
      exact ⟨a, rfl, hx⟩
section
variable {X : Cx}
theorem key_is {pins : List (Addr × Obj)} {σ : L2.St} {H : Hp} {s : Shared} (I : Inv X pins σ H s) {v : V} {p : Str × Str} (h : Th X.K H v (pairD p)) : keyS X.K H v = p := by
  have ex : ∃ p, Th X.K H v (pairD p) := ⟨p, h⟩
  have e : Th X.K H v (pairD (keyS X.K H v)) := by
    unfold keyS
    rw [dif_pos ex]
    exact ex.choose_spec
  obtain ⟨a, rfl, h1⟩ := pair_tup h
  obtain ⟨b, e1, h2⟩ := pair_tup e
  cases e1
  have q := I.tuple_inj h1 h2
  simp only [List.cons.injEq, V.str.injEq, and_true] at q
  exact (Prod.ext q.1 q.2).symm
theorem pair_raw {pins : List (Addr × Obj)} {σ : L2.St} {H : Hp} {s : Shared} (I : Inv X pins σ H s) {v : V} {u : Value} {p : Str × Str} (h : Th X.K H v (pairD p)) (r : RelV v u) : So.PairS s.heap u p.1 p.2 := by
  obtain ⟨a, rfl, hx⟩ := pair_tup h
  obtain rfl : u = Value.ref a := r
  obtain ⟨its, rv, ⟨o, ho, hc, n, hd⟩, _⟩ := I.tuple hx
  obtain ⟨u1, u2, e, ⟨t1, r1⟩, ⟨t2, r2⟩⟩ := vals2 rv
  subst e
  subst r1
  subst r2
  exact ⟨a, o, t1, t2, n, rfl, ho, hc, hd⟩
theorem keys_map {pins : List (Addr × Obj)} {σ : L2.St} {H : Hp} {s : Shared} (I : Inv X pins σ H s) : ∀ {xs : List V} {ps : List (Str × Str)}, ThAll X.K H xs (ps.map pairD) → xs.map (keyS X.K H) = ps ∧ ∀ x ∈ xs, Th X.K H x (pairD (keyS X.K H x)) ∧ ∃ a, x = V.ref a
  | _, [], .nil => ⟨rfl, fun _ m => nomatch m⟩
  | x :: xs, p :: ps, .cons a b => by
    obtain ⟨h1, h2⟩ := keys_map I b
    have k := key_is I a
    refine ⟨by rw [List.map_cons, k, h1], fun y m => ?_⟩
    rcases List.mem_cons.mp m with rfl | m
    · rw [k]
      obtain ⟨t, e, _⟩ := pair_tup a
      exact ⟨a, t, e⟩
    · exact h2 y m
theorem cr_sortPairs : CallR X (.builtin "sorted") (rSortPairs X.K) := by
  intro pins s σ H vs us Q I r h
  obtain ⟨v, ps, rfl, hv, q⟩ := h
  obtain ⟨u, rfl, ru⟩ := vals1 r
  have both : ∃ (T : String) (l : Addr) (o : Obj) (n : Nat) (its : List Value) (xs : List V), v = .ref l ∧ s.heap.get? l = some o ∧ o.cls = .type T ∧ (T = "list" ∨ T = "tuple") ∧ o.data = .seq its.toArray n ∧ Vals xs its ∧ xs.length ≤ sizeLine ∧ ThAll X.K H xs (ps.map pairD) := by
    rcases hv with hv | hv
    · obtain ⟨a, xs, rfl, hx, hA⟩ := hv.asTup
      obtain ⟨its, rv, ⟨o, ho, hc, n, hd⟩, hz⟩ := I.tuple hx
      exact ⟨"tuple", a, o, n, its, xs, rfl, ho, hc, .inr rfl, hd, rv, hz, hA⟩
    · obtain ⟨a, xs, rfl, hx, hA⟩ := hv.asLst
      obtain ⟨its, rv, hl, hz⟩ := I.list hx
      obtain ⟨o, ho, hc, n, hd⟩ := hl.isList
      exact ⟨"list", a, o, n, its, xs, rfl, ho, hc, .inl rfl, hd, rv, hz, hA⟩
  obtain ⟨T, l, o, n, its, xs, rfl, ho, hc, hT, hd, rv, hz, hA⟩ := both
  obtain rfl : u = Value.ref l := ru
  obtain ⟨km, kx⟩ := keys_map I hA
  obtain ⟨e1, e2⟩ := refs_back rv fun x m => (kx x m).2
  have th : ∀ v ∈ its, Th X.K H (backV v) (pairD (keyS X.K H (backV v))) := fun v m => (kx (backV v) (by rw [e1]; exact List.mem_map.mpr ⟨v, m, rfl⟩)).1
  refine So.sorted_seq (k := fun u => keyS X.K H (backV u)) ho hc hT hd (by rw [← rv.length]; exact hz) (fun v hv => ?_) fun h' d out h1 h2 kp hd hn => ?_
  · obtain ⟨t, rfl⟩ := e2 v hv
    exact pair_raw I (th _ hv) rfl
  · have h3 : ∀ u ∈ out, ∃ a, u = Value.ref a := fun u hu => e2 u (h2.mem_iff.mp hu)
    obtain ⟨n, hn⟩ := hn
    have up : So.Up ((out.map backV).map (keyS X.K H)) := by
      show List.Pairwise _ _
      rw [List.map_map, List.pairwise_map]
      exact h1
    have pm : ((out.map backV).map (keyS X.K H)).Perm ps := by
      rw [← km, e1]
      exact (h2.map backV).map _
    refine ⟨.ref d, upd H d (.lst (out.map backV)), I.laid (t' := s.toks) kp hd ⟨?_, out, n, vals_back h3, hn⟩, rfl, q _ (out.map backV) d up pm (I.hok.fresh hd) (thAll_of fun y m => ?_)⟩
    · rw [List.length_map, h2.length_eq, ← rv.length]
      exact hz
    · obtain ⟨u, hu, rfl⟩ := List.mem_map.mp m
      exact th u (h2.mem_iff.mp hu)
end
end Tg

set_option autoImplicit false
set_option maxHeartbeats 4000000
/-! a tuple against the tuple of nothing -/
namespace Tg
open PySem PySem.Spec PyProof.Rows L2 PySem.SeqAt
def rEqNilT (K : PySem.W.Frag) : R2 := fun x y H Q => ∃ (a b : Addr) (xs : List V), x = .ref a ∧ y = .ref b ∧ SqT K H a xs ∧ SqT K H b [] ∧ Q (.bl xs.isEmpty) H
section
variable {X : Cx}
theorem op_eqNilT (hu : X.A.units + 64 < cLine) : OpR X (compareOp .Eq) (rEqNilT X.K) := by
  intro pins s σ H x y v u Q I rx ry h
  obtain ⟨a, b, xs, rfl, rfl, ha, hb, q⟩ := h
  obtain rfl : v = Value.ref a := rx
  obtain rfl : u = Value.ref b := ry
  obtain ⟨its, rv, hl, _⟩ := I.tuple ha
  obtain ⟨its2, rv2, hl2, _⟩ := I.tuple hb
  cases rv2
  have l1 := rv.length
  refine RcAt.tuples (e := fun _ => true) hl hl2 (Nat.lt_of_le_of_lt (Nat.le_add_right _ 64) hu) (fun j _ h2 => absurd h2 (by simp)) X.prog X.w _ _ ⟨.bl xs.isEmpty, H, I, ?_, q⟩
  have e : ((List.range (min its.toArray.size ([] : List Value).toArray.size)).all (fun _ => true) && its.toArray.size == ([] : List Value).toArray.size) = xs.isEmpty := by
    rw [List.all_eq_true.mpr (fun _ _ => rfl), Bool.true_and, List.size_toArray, ← l1]
    cases xs <;> rfl
  rw [e]
  rfl
end
end Tg

set_option autoImplicit false
set_option maxHeartbeats 4000000
namespace St6
open PySem PySem.Spec PyProof.Rows L2 Tg Cc Nn TL
/-! the law's own fold over steps -/
theorem eqv_pair (p q : Str × Str) : PyData.eqv (fieldD p) (fieldD q) = decide (p = q) := by
  obtain ⟨a, b⟩ := p
  obtain ⟨c, d⟩ := q
  simp [fieldD, PyData.eqv, PyData.eqvAll, Prod.ext_iff]
  rw [Bool.eq_iff_iff]
  simp
theorem eqvAll_pairs : ∀ l m : Fs, PyData.eqvAll (l.map fieldD) (m.map fieldD) = decide (l = m)
  | [], [] => by simp [PyData.eqvAll]
  | [], _ :: _ => by simp [PyData.eqvAll]
  | _ :: _, [] => by simp [PyData.eqvAll]
  | p :: l, q :: m => by
    have ih := eqvAll_pairs l m
    simp only [List.map_cons, PyData.eqvAll, eqv_pair, ih]
    rw [← Bool.decide_and]
    exact decide_eq_decide.mpr (by simp)
theorem eqv_pairs (l m : Fs) : PyData.eqv (.list (l.map fieldD)) (.list (m.map fieldD)) = decide (l = m) := by
  simp only [PyData.eqv]
  exact eqvAll_pairs l m
theorem getF_inL {fs : Fs} {n s : Str} (h : getF fs n = some s) : (n, s) ∈ fs := by
  unfold getF at h
  cases e : fs.find? fun y => decide (y.1 = n) with
  | none =>
    rw [e] at h
    cases h
  | some y =>
    rw [e] at h
    have h1 : y.1 = n := of_decide_eq_true (List.find?_some (p := fun y : Str × Str => decide (y.1 = n)) e)
    have h2 : y.2 = s := Option.some.inj h
    have := List.mem_of_find?_eq_some e
    rw [← h1, ← h2]
    exact this
theorem getF_memL : ∀ {fs : Fs}, (fs.map Prod.fst).Nodup → ∀ {x : Str × Str}, x ∈ fs → getF fs x.1 = some x.2
  | y :: r, nd, x, hx => by
    rw [List.map_cons, List.nodup_cons] at nd
    rcases List.mem_cons.mp hx with rfl | hx
    · exact getF_cons_pos rfl
    · rw [getF_cons_neg fun e => nd.1 (by rw [e]; exact List.mem_map.mpr ⟨x, hx, rfl⟩)]
      exact getF_memL nd.2 hx
theorem nodup_of {fs : Fs} (h : (fs.map Prod.fst).Nodup) : fs.Nodup := by
  unfold List.Nodup at h
  rw [List.pairwise_map] at h
  exact h.imp fun n e => n (congrArg Prod.fst e)
theorem perm_of_sub : ∀ {l m : Fs}, l.Nodup → (∀ x ∈ l, x ∈ m) → m.length = l.length → l.Perm m
  | [], m, _, _, h => by
    rw [List.eq_nil_of_length_eq_zero h]
  | x :: l, m, nd, sub, h => by
    have hx := sub x (List.mem_cons_self ..)
    have p := List.perm_cons_erase hx
    have nd2 := List.nodup_cons.mp nd
    have l2 : (m.erase x).length = l.length := by
      rw [List.length_erase_of_mem hx, h]
      rfl
    refine (List.Perm.cons x (perm_of_sub nd2.2 (fun y hy => ?_) l2)).trans p.symm
    have ne : y ≠ x := fun e => nd2.1 (e ▸ hy)
    exact (List.mem_erase_of_ne ne).mpr (sub y (List.mem_cons_of_mem _ hy))
theorem eqF_perm {fs gs : Fs} (n1 : (fs.map Prod.fst).Nodup) (n2 : (gs.map Prod.fst).Nodup) : eqF fs gs = true ↔ fs.Perm gs := by
  unfold eqF
  rw [Bool.and_eq_true, decide_eq_true_eq, List.all_eq_true]
  constructor
  · rintro ⟨h1, h2⟩
    exact perm_of_sub (nodup_of n1) (fun x hx => getF_inL (of_decide_eq_true (h2 x hx))) h1.symm
  · intro p
    exact ⟨p.length_eq, fun x hx => decide_eq_true (getF_memL n2 (p.mem_iff.mp hx))⟩
theorem sorted_eq {fs gs qs rs : Fs} (n1 : (fs.map Prod.fst).Nodup) (n2 : (gs.map Prod.fst).Nodup) (u1 : So.Up qs) (p1 : qs.Perm fs) (u2 : So.Up rs) (p2 : rs.Perm gs) : decide (qs = rs) = eqF fs gs := by
  rw [Bool.eq_iff_iff, eqF_perm n1 n2, decide_eq_true_eq]
  constructor
  · intro e
    subst e
    exact p1.symm.trans p2
  · intro p
    exact So.up_uniq u1 u2 (p1.trans (p.trans p2.symm))
/-- names and sorts of small signs -/
def Nice (fs : Fs) : Prop := ∀ x ∈ fs, smallB 12 (.str x.1) = true ∧ x.2 ∈ sorts
theorem Nice.new {fs : Fs} (h : Nice fs) {d : PyData} {s : Str} (hd : isNewB fs d = true) (hs : s ∈ sorts) : Nice (fs ++ [(txtOf d, s)]) := fun x hx => by
  rcases List.mem_append.mp hx with hx | hx
  · exact h x hx
  · rw [List.mem_singleton.mp hx]
    obtain ⟨z, rfl, _⟩ := isNew_of hd
    have hd : (smallB 12 (.str z) && (sortOf fs (.str z)).isNone) = true := hd
    rw [Bool.and_eq_true] at hd
    exact ⟨hd.1, hs⟩
theorem Nice.sort {fs : Fs} (h : Nice fs) {d : PyData} {s : Str} (hd : sortOf fs d = some s) : s ∈ sorts := by
  obtain ⟨y, rfl, hy⟩ := sortOf_of hd
  exact (h _ (getF_inL hy)).2
theorem sortB_txt {d : PyData} (h : sortB d = true) : txtOf d ∈ sorts := by
  cases d <;> first | exact of_decide_eq_true h | cases h
theorem lead_nice {rec : Fs → PyData → Except Nat Fs} (hr : ∀ fs y gs, rec fs y = .ok gs → Nice fs → Nice gs) {fs : Fs} {w : Str} {r : List PyData} {gs : Fs} (h : leadB rec fs w r = some gs) (hn : Nice fs) : Nice gs := by
  have ba : ∀ {a b : Bool}, (a && b) = true → a = true ∧ b = true := fun h => (Bool.and_eq_true _ _).mp h
  match r, h with
  | [], h => cases h
  | [a], h =>
    replace h : (if w = "drop" then dropB fs a else none) = some gs := h
    by_cases e : w = "drop"
    · rw [if_pos e] at h
      obtain ⟨_, rfl⟩ := ifs h
      exact fun x hx => hn x (List.mem_filter.mp hx).1
    · rw [if_neg e] at h
      cases h
  | [a, b], h =>
    replace h : (if w = "rename" then renameB fs a b else if w = "copy" then copyB fs a b else if w = "sum" then sumB fs a b else if w = "join" then joinB fs a b else none) = some gs := h
    by_cases e1 : w = "rename"
    · rw [if_pos e1] at h
      obtain ⟨c, rfl⟩ := ifs h
      obtain ⟨c1, c2⟩ := ba c
      intro x hx
      obtain ⟨y, hy, rfl⟩ := List.mem_map.mp hx
      have new := hn.new c2 (s := "code") (by decide) (txtOf b, "code") (List.mem_append.mpr (.inr (List.mem_singleton.mpr rfl)))
      refine ⟨?_, (hn y hy).2⟩
      show smallB 12 (.str (if y.1 = txtOf a then txtOf b else y.1)) = true
      by_cases e : y.1 = txtOf a
      · rw [if_pos e]
        exact new.1
      · rw [if_neg e]
        exact (hn y hy).1
    rw [if_neg e1] at h
    by_cases e2 : w = "copy"
    · rw [if_pos e2] at h
      unfold copyB at h
      cases ho : sortOf fs a with
      | none =>
        rw [ho] at h
        cases h
      | some s =>
        rw [ho] at h
        obtain ⟨c, rfl⟩ := ifs h
        exact hn.new c (hn.sort ho)
    rw [if_neg e2] at h
    by_cases e3 : w = "sum"
    · rw [if_pos e3] at h
      obtain ⟨c, rfl⟩ := ifs h
      exact hn.new (ba c).1 (by decide)
    rw [if_neg e3] at h
    by_cases e4 : w = "join"
    · rw [if_pos e4] at h
      obtain ⟨c, rfl⟩ := ifs h
      exact hn.new (ba c).1 (by decide)
    rw [if_neg e4] at h
    cases h
  | [a, b, c], h =>
    replace h : (if w = "put" then putB fs a b c else if w = "scale" then scaleB fs a b c else none) = some gs := h
    by_cases e1 : w = "put"
    · rw [if_pos e1] at h
      obtain ⟨c, rfl⟩ := ifs h
      exact hn.new (ba c).1 (sortB_txt (ba (ba c).2).1)
    rw [if_neg e1] at h
    by_cases e2 : w = "scale"
    · rw [if_pos e2] at h
      obtain ⟨c, rfl⟩ := ifs h
      exact hn
    rw [if_neg e2] at h
    cases h
  | [a, b, c, d], h =>
    replace h : (if w = "table" then tableB fs a b c d else if w = "case" then caseB rec fs a b c d else none) = some gs := h
    by_cases e1 : w = "table"
    · rw [if_pos e1] at h
      unfold tableB at h
      cases ho : sortOf fs a with
      | none =>
        rw [ho] at h
        cases h
      | some s =>
        rw [ho] at h
        obtain ⟨k, rfl⟩ := ifs h
        obtain ⟨o, rfl, hy⟩ := sortOf_of ho
        have hs := sortB_txt (ba (ba (ba k).1).1).2
        show Nice (setF fs o (txtOf b))
        rw [set_map hy]
        intro x hx
        obtain ⟨y, hy2, rfl⟩ := List.mem_map.mp hx
        by_cases e : y.1 = o
        · rw [if_pos e]
          exact ⟨(hn y hy2).1, hs⟩
        · rw [if_neg e]
          exact hn y hy2
    rw [if_neg e1] at h
    by_cases e2 : w = "case"
    · rw [if_pos e2] at h
      unfold caseB at h
      cases ho : sortOf fs a with
      | none =>
        rw [ho] at h
        cases h
      | some s =>
        rw [ho] at h
        dsimp only at h
        by_cases k : (decide (s ∈ testL) && ofSort s b) = true
        · rw [if_pos k] at h
          cases hy : rec fs c with
          | error n =>
            rw [hy] at h
            cases h
          | ok x =>
            cases hn2 : rec fs d with
            | error n =>
              rw [hy, hn2] at h
              cases h
            | ok y =>
              rw [hy, hn2] at h
              obtain ⟨_, rfl⟩ := ifs h
              exact hr _ _ _ hy hn
        · rw [if_neg k] at h
          cases h
    rw [if_neg e2] at h
    cases h
  | _ :: _ :: _ :: _ :: _ :: _, h => cases h
theorem step_nice {rec : Fs → PyData → Except Nat Fs} (hr : ∀ fs y gs, rec fs y = .ok gs → Nice fs → Nice gs) {fs : Fs} {d : PyData} {gs : Fs} (h : stepB rec fs d = some gs) (hn : Nice fs) : Nice gs := by
  match d, h with
  | .tuple (.str w :: r), h => exact lead_nice hr (show leadB rec fs w r = some gs from h) hn
theorem go_nice {st : Fs → PyData → Option Fs} (hs : ∀ fs d gs, st fs d = some gs → Nice fs → Nice gs) : ∀ {ds : List PyData} {i : Nat} {fs gs : Fs}, goB st i fs ds = .ok gs → Nice fs → Nice gs
  | [], _, fs, gs, h, hn => by
    obtain rfl := Except.ok.inj (show Except.ok fs = Except.ok gs from h)
    exact hn
  | d :: r, i, fs, gs, h, hn => by
    rw [go_cons] at h
    cases e : st fs d with
    | none =>
      rw [e] at h
      cases h
    | some hs2 =>
      rw [e] at h
      exact go_nice hs h (hs _ _ _ e hn)
theorem over_nice {st : Fs → PyData → Option Fs} (hs : ∀ fs d gs, st fs d = some gs → Nice fs → Nice gs) {d : PyData} {fs gs : Fs} (h : overB st fs d = .ok gs) (hn : Nice fs) : Nice gs := by
  cases d <;> first | exact go_nice hs h hn | cases h
theorem rec_nice : ∀ (c : Nat) (fs : Fs) (d : PyData) (gs : Fs), recOf c fs d = .ok gs → Nice fs → Nice gs
  | 0, _, _, _, h, _ => by cases h
  | c + 1, fs, d, gs, h, hn => by
    replace h : stepsB c fs d = .ok gs := h
    rw [steps_over] at h
    exact over_nice (fun _ _ _ h hn => step_nice (rec_nice c) h hn) h hn
theorem Nice.shaped {fs : Fs} (h : Nice fs) : SeqAt.shaped (.list (fs.map fieldD)) = true := by
  have c1 : ∀ x ∈ fs, As x.1 ∧ As x.2 := fun x hx => by
    obtain ⟨a, b⟩ := h x hx
    have a : ((decide (1 ≤ x.1.length) && decide (x.1.length ≤ 12)) && x.1.cps.toList.all lowC) = true := a
    rw [Bool.and_eq_true, List.all_eq_true] at a
    refine ⟨fun c hc => ?_, (sorts_ok b).2⟩
    have := a.2 c hc
    unfold lowC at this
    simp at this
    omega
  have ch : ∀ {z : Str}, As z → PyData.strOk z = true := fun {z} hz => by
    unfold PyData.strOk
    rw [Array.all_eq_true']
    intro c hc
    have := hz c (by simpa using hc)
    exact decide_eq_true (by omega)
  have all : ∀ l : Fs, (∀ x ∈ l, As x.1 ∧ As x.2) → PyData.canLayAll0 (l.map fieldD) = true ∧ PyData.depthAll (l.map fieldD) ≤ 1 := by
    intro l
    induction l with
    | nil => exact fun _ => ⟨rfl, Nat.zero_le _⟩
    | cons x r ih =>
      intro h
      obtain ⟨i1, i2⟩ := ih fun y hy => h y (List.mem_cons_of_mem _ hy)
      obtain ⟨h1, h2⟩ := h x (List.mem_cons_self ..)
      have a := ch h1
      have b := ch h2
      constructor
      · simp [fieldD, PyData.canLayAll0, PyData.canLay0, a, b, i1]
      · simp [fieldD, PyData.depthAll, PyData.depth]
        omega
  obtain ⟨a1, a2⟩ := all fs c1
  simp [SeqAt.shaped, PyData.canLay0, PyData.depth, a1]
  omega
def okOf : Except Nat Fs → Option Fs
  | .ok gs => some gs
  | .error _ => none
def atOf (len : Nat) : Except Nat Fs → Nat
  | .ok _ => len
  | .error n => n
/-- a form, or None -/
def OptF (K : PySem.W.Frag) (H : Hp) (x : V) : Option Fs → Prop
  | some gs => Fm K H x gs
  | none => x = .non
theorem OptF.same {K : PySem.W.Frag} {H H1 : Hp} {x : V} {o : Option Fs} (h : OptF K H x o) (s : Same H H1) : OptF K H1 x o := by
  cases o with
  | some gs => exact Fm.same h s
  | none => exact h
theorem OptF.non {K : PySem.W.Frag} {H : Hp} {x : V} {o : Option Fs} (h : OptF K H x o) : (!decide (x = .non)) = o.isSome := by
  cases o with
  | some gs =>
    obtain ⟨a, xs, rfl, _⟩ := h
    rfl
  | none =>
    obtain rfl : x = .non := h
    rfl
def AllRes (K : PySem.W.Frag) (H : Hp) (Q : VK) (o : Except Nat Fs) (len : Nat) : Prop := ∀ H' t x, Same H H' → SqT K H' t [x, .int (atOf len o : Nat)] → OptF K H' x (okOf o) → Q (.ref t) H'
def FitRes (K : PySem.W.Frag) (H : Hp) (Q : VK) (o : Option Fs) : Prop := ∀ H' u, Same H H' → OptF K H' u o → Q u H'
theorem FitRes.later {K : PySem.W.Frag} {H H1 : Hp} {Q : VK} {o : Option Fs} (h : FitRes K H Q o) (s : Same H H1) : FitRes K H1 Q o := fun H' u s2 a => h H' u (s.trans s2) a
theorem Nice.perm {fs gs : Fs} (h : Nice fs) (p : gs.Perm fs) : Nice gs := fun x hx => h x (p.mem_iff.mp hx)
theorem dpAll_fields {K : PySem.W.Frag} {H : Hp} : ∀ {l : Fs} {xs : List V}, ThAll K H xs (l.map fieldD) → DpAll K H xs (l.map fieldD)
  | [], xs, h => by
    obtain rfl := h.nil_of
    exact .nil
  | g :: r, xs, h => by
    obtain ⟨x, ys, rfl, t, h2⟩ := ThAll.cons_of (show ThAll K H xs (fieldD g :: r.map fieldD) from h)
    obtain ⟨p, zs, rfl, hz, hZ⟩ := t.asTup
    obtain ⟨y0, y1, rfl, u0, u1⟩ := thAll2 hZ
    obtain rfl := u0.asStr
    obtain rfl := u1.asStr
    exact .cons (.tup hz (.cons (.str _) (.cons (.str _) .nil))) (dpAll_fields h2)
theorem val_look (w : Str) : ∀ l : List (Str × V), valV (l.map fun x => ((Sum.inr x.1 : Key), x.2)) (Sum.inr w) = lookV l w
  | [] => rfl
  | (k, v) :: r => by
    have ih := val_look w r
    rw [lookV_cons]
    unfold valV at ih ⊢
    by_cases e : w = k
    · rw [if_pos e, List.map_cons, List.find?_cons_of_pos (by simp [e])]
      rfl
    · rw [if_neg e, List.map_cons, List.find?_cons_of_neg (by simp; exact fun z => e z.symm)]
      exact ih
def kvs9 : List (Key × V) := lens.map fun x => (Sum.inr x.1, x.2)
theorem val_len (w : Str) : valV kvs9 (Sum.inr w) = (lenOf w).map fun n => V.int ((n + 1 : Nat) : Int) := (val_look w lens).trans (look_len w)
def spLAll (K : PySem.W.Frag) (c : Nat) : Sp := fun vs H Q _ => ∃ f fs v d, vs = [f, v] ∧ Fm K H f fs ∧ (fs.map Prod.fst).Nodup ∧ Nice fs ∧ Th K H v d ∧ Bd 1000 (2 * c + 1) d ∧ c ≤ 9 ∧ fs.length + growB c d ≤ 1000000 ∧ AllRes K H Q (stepsB c fs d) (items d).length
def spRecL (K : PySem.W.Frag) : Nat → Sp
  | 0 => spNot
  | c + 1 => spLAll K c
def spLFit (K : PySem.W.Frag) (c : Nat) : Sp := fun vs H Q _ => ∃ f fs v d, vs = [f, v] ∧ Fm K H f fs ∧ (fs.map Prod.fst).Nodup ∧ Nice fs ∧ Th K H v d ∧ Bd 1000 (2 * c) d ∧ c ≤ 9 ∧ fs.length + growS c d ≤ 1000000 ∧ FitRes K H Q (stepB (recOf c) fs d)
section
variable {P : Program} {w : World} {K : PySem.W.Frag} {mg : Str → Option Value} {base : Heap} {c : Nat}
theorem sclfit : FnScope ["fields", "step", "long", "sort", "yes", "no"] ["fields", "step"] (defScope sLawFit) := ⟨rfl, rfl, rfl, by decide +kernel, rfl, by decide +kernel, by decide +kernel⟩
theorem ok_lfit {f : Addr} {fd : FuncData} (F : FnP K "_law_fit" sLawFit f fd) {f__law_behind : Addr} {fd__law_behind : FuncData} (c__law_behind : Cl P w K mg base CX0 "_law_behind" 2 ["fields", "step"] (NB.spLBehind K (recOf c)) f__law_behind fd__law_behind) {f__law_suits : Addr} {fd__law_suits : FuncData} (c__law_suits : Cl P w K mg base CX0 "_law_suits" 4 ["fields", "step"] (spLSuits K (recOf c)) f__law_suits fd__law_suits) {f__law_sort : Addr} {fd__law_sort : FuncData} (c__law_sort : Cl P w K mg base CX0 "_law_sort" 1 ["fields", "field"] (spLSort K) f__law_sort fd__law_sort) {f__law_of_sort : Addr} {fd__law_of_sort : FuncData} (c__law_of_sort : Cl P w K mg base CX0 "_law_of_sort" 2 ["sort", "thing"] (spOfSortL K) f__law_of_sort fd__law_of_sort) {f__law_all_fit : Addr} {fd__law_all_fit : FuncData} (c__law_all_fit : Cl P w K mg base CX0 "_law_all_fit" (4 + 2 * c) ["fields", "steps"] (spRecL K c) f__law_all_fit fd__law_all_fit) (mb_isinstance : mg "isinstance" = none) (mb_tuple : mg "tuple" = none) (mb_str : mg "str" = none) (mb_len : mg "len" = none) (mb_sorted : mg "sorted" = none)   : FnOk P w K mg base CX0 (4 + 2 * c + 1) f fd ["fields", "step"] (spLFit K c) := by
  refine F.ok sclfit (fun vs H Q E h => ?_) (fun cdv A outer s H vs Q E hr h => ?_)
  · obtain ⟨f, fs, v, d, rfl, _⟩ := h
    rfl
  · obtain ⟨f, fs, v, d, rfl, hF, nd, hN, hT, hB, hc, hg, q⟩ := h
    have hu := hu_of hr
    have hs_ := szl
    refine ⟨_, PSs.nox (pss_cons (ps_set (i := 2) sclfit.nd rfl (Or.inl rfl) (pe_disp (pps_cons (pe_str) (pe_int) (pps_cons (pe_str) (pe_int) (pps_cons (pe_str) (pe_int) (pps_cons (pe_str) (pe_int) (pps_cons (pe_str) (pe_int) (pps_cons (pe_str) (pe_int) (pps_cons (pe_str) (pe_int) (pps_cons (pe_str) (pe_int) (pps_cons (pe_str) (pe_int) (pps_nil)))))))))) (by rfl) (by rfl) (fun z => by cases z) (by decide)))
      (pss_cons (ps_if (PW.pt (pw_or (pt_not (pt_val (pe_callB call_isi (by rfl) mb_isinstance (by decide +kernel) (pa_cons (pv 1) (pa_cons (pe_bltn (v := .ty "tuple") (by rfl) mb_tuple (by decide +kernel) rfl) pa_nil))))) (pw_or (pt_cmpR (op_eqNilT hr.units) (pv 1) (pe_tup (pa_nil)) (nomark _)) (pw_or (pt_not (pt_val (pe_callB call_isi (by rfl) mb_isinstance (by decide +kernel) (pa_cons (pe_ix Cc.ix_B (pv 1) (pe_int) (fun _ _ => rfl)) (pa_cons (pe_bltn (v := .ty "str") (by rfl) mb_str (by decide +kernel) rfl) pa_nil))))) (pw_or1 (pt_cmpR op_ne (pe_callB call_len (by rfl) mb_len (by decide +kernel) (pa_cons (pv 1) pa_nil)) (pe_dget1 hu (pv 2) (pe_ix Cc.ix_B (pv 1) (pe_int) (fun _ _ => rfl)) ⟨by rfl, by rfl, by rfl, by rfl⟩) (nomark _))))))) (pss_one (ps_ret (pe_non))) (pss_nil))
      (pss_cons (ps_if (pt_cmpR op_ne (pe_ix Cc.ix_B (pv 1) (pe_int) (fun _ _ => rfl)) (pe_str) (nomark _)) (pss_one (ps_ret (pe_ifExp (pt_val (pe_call c__law_suits.ok (hr.mono (by omega)) (by rfl) c__law_suits.m c__law_suits.kp c__law_suits.b .nil pass0 (pa_cons (pv 0) (pa_cons (pv 1) pa_nil)))) (pe_call c__law_behind.ok (hr.mono (by omega)) (by rfl) c__law_behind.m c__law_behind.kp c__law_behind.b .nil pass0 (pa_cons (pv 0) (pa_cons (pv 1) pa_nil))) (pe_non)))) (pss_nil))
      (pss_cons (ps_set (i := 3) sclfit.nd rfl (Or.inl rfl) (pe_call c__law_sort.ok (hr.mono (by omega)) (by rfl) c__law_sort.m c__law_sort.kp c__law_sort.b .nil pass0 (pa_cons (pv 0) (pa_cons (pe_ix Cc.ix_B (pv 1) (pe_int) (fun _ _ => rfl)) pa_nil))))
      (pss_cons (ps_if (PW.pt (pw_or (pt_cmpR op_notIn_seq (pv 3) (pe_tup (pa_cons (pe_str) (pa_cons (pe_str) pa_nil))) (by with_unfolding_all rfl)) (pw_or1 (pt_not (pt_val (pe_call c__law_of_sort.ok (hr.mono (by omega)) (by rfl) c__law_of_sort.m c__law_of_sort.kp c__law_of_sort.b .nil pass0 (pa_cons (pv 3) (pa_cons (pe_ix Cc.ix_B (pv 1) (pe_int) (fun _ _ => rfl)) pa_nil)))))))) (pss_one (ps_ret (pe_non))) (pss_nil))
      (pss_cons (ps_set (i := 4) sclfit.nd rfl (Or.inl rfl) (pe_ix Cc.ix_B (pe_call c__law_all_fit.ok (hr.mono (by omega)) (by rfl) c__law_all_fit.m c__law_all_fit.kp c__law_all_fit.b .nil pass0 (pa_cons (pv 0) (pa_cons (pe_ix Cc.ix_B (pv 1) (pe_int) (fun _ _ => rfl)) pa_nil))) (pe_int) (fun _ _ => rfl)))
      (pss_cons (ps_set (i := 5) sclfit.nd rfl (Or.inl rfl) (pe_ix Cc.ix_B (pe_call c__law_all_fit.ok (hr.mono (by omega)) (by rfl) c__law_all_fit.m c__law_all_fit.kp c__law_all_fit.b .nil pass0 (pa_cons (pv 0) (pa_cons (pe_ix Cc.ix_B (pv 1) (pe_int) (fun _ _ => rfl)) pa_nil))) (pe_int) (fun _ _ => rfl)))
      (pss_one (ps_ret (pe_ifExp (PW.pt (pw_and (pt_cmpR op_notN (pv 4) (pe_non) (nomark _)) (pw_and (pt_cmpR op_notN (pv 5) (pe_non) (nomark _)) (pw_and1 (pt_cmpR (op_eqD hr.units) (pe_callB cr_sortPairs (by rfl) mb_sorted (by decide +kernel) (pa_cons (pv 4) pa_nil)) (pe_callB cr_sortPairs (by rfl) mb_sorted (by decide +kernel) (pa_cons (pv 5) pa_nil)) (nomark _)))))) (pv 4) (pe_non))))))))))), ?_⟩
    refine fun pD nD => ⟨upd_same, kvs9, rfl, by show 9 ≤ 15; decide, ?_⟩
    have sD : Same H (upd (upd H pD (.dK [])) pD (.dK (mergeK [] kvs9))) := fun b o e => by
      have ne := ne_of_none e nD
      rw [upd_ne ne, upd_ne ne]
      exact e
    have hD : (upd (upd H pD (.dK [])) pD (.dK (mergeK [] kvs9))) pD = some (.dK kvs9) := by
      rw [upd_same]
      kernel_rfl
    generalize upd (upd H pD (.dK [])) pD (.dK (mergeK [] kvs9)) = H0 at sD hD ⊢
    replace q := FitRes.later q sD
    replace hF := hF.same sD
    replace hT := hT.kept (kept_same sD)
    clear sD nD
    refine ⟨_, rfl, v, .ty "tuple", _, _, _, rfl, .ty "tuple", hT.ty, kit_ty (kit_tup d), _, rfl, ?_⟩
    have none_ : ∀ H', Same H0 H' → stepB (recOf c) fs d = none → Q .non H' := fun H' s e => by
      rw [e] at q
      exact q H' .non s rfl
    cases ht : isTup d with
    | false => exact iteT (iteT (none_ _ (Same.refl _) (stepB_not ht)))
    | true =>
      obtain ⟨ds, rfl⟩ := isTup_eq ht
      obtain ⟨a, xs, rfl, hx, hA⟩ := hT.asTup
      have lx := hA.len
      refine iteF ⟨_, rfl, by show 0 ≤ sizeLine; exact Nat.zero_le _, fun te ne => ⟨a, te, xs, rfl, rfl, Sq.same (t := true) hx (newS ne), SqT.of upd_same, _, rfl, ?_⟩⟩
      have se := newS (o := .tup []) ne
      generalize upd H0 te (.tup []) = H1 at se ⊢
      match ds, lx, hA, hB, hT, hg, q, none_ with
      | [], lx, hA, hB, hT, hg, q, none_ =>
        obtain rfl := hA.nil_of
        exact iteT (iteT (none_ _ se rfl))
      | d0 :: r, lx, hA, hB, hT, hg, q, none_ =>
        obtain ⟨x0, xr, rfl, t0, _⟩ := hA.cons_of
        have hx1 := Sq.same (t := true) hx se
        refine iteF ⟨_, rfl, true, a, _, 0, _, rfl, rfl, hx1, at0, x0, .ty "str", _, _, _, rfl, .ty "str", (t0.kept (kept_same se)).ty, kit_ty (kit_str d0), _, rfl, ?_⟩
        cases hs : isStr d0 with
        | false => exact iteT (iteT (none_ _ se (stepB_word hs)))
        | true =>
          obtain ⟨wd, rfl⟩ := isStr_eq hs
          obtain rfl := t0.asStr
          obtain ⟨k, rfl⟩ : ∃ k, c = k + 1 := by
            cases c with
            | zero => exact hB.elim
            | succ k => exact ⟨k, rfl⟩
          have hD1 := se _ _ hD
          have g := DGet.k (k := Sum.inr wd) hD1
          rw [val_len] at g
          have lx2 : (V.str wd :: xr).length = r.length + 1 := lx
          have lead : ∀ {H'}, Same H0 H' → leadB (stepsB k) fs wd r = none → Q .non H' := fun s e => none_ _ s e
          have out : ¬ lenOf wd = some r.length → Q .non H1 := fun e => lead se (lead_len e)
          refine iteF ⟨_, rfl, _, _, rfl, .inr ⟨_, hx1, rfl⟩, _, rfl, pD, rfl, .inl ⟨_, .inl hD1⟩, _, rfl, true, a, _, 0, _, rfl, rfl, hx1, at0, _, g, ?_⟩
          rw [lx2]
          cases hl : lenOf wd with
          | none => exact ⟨rfl, _, rfl, iteT (out (by rw [hl]; intro z; cases z))⟩
          | some n =>
            refine ⟨rfl, _, rfl, ?_⟩
            show if (!decide (V.int ((r.length + 1 : Nat) : Int) = V.int ((n + 1 : Nat) : Int))) = true then _ else _
            by_cases en : ¬ n = r.length
            · have e : decide (V.int ((r.length + 1 : Nat) : Int) = V.int ((n + 1 : Nat) : Int)) = false := decide_eq_false fun z => en (by have := V.int.inj z; omega)
              rw [e]
              exact iteT (out (by rw [hl]; intro z; exact en (Option.some.inj z)))
            have en := Classical.not_not.mp en
            subst en
            rw [decide_eq_true rfl]
            replace q : FitRes K H0 Q (leadB (stepsB k) fs wd r) := q
            have hB2 : ∀ x ∈ r, Bd 1000 (2 * k + 1) x := fun x hx => hB.2 x (List.mem_cons_of_mem _ hx)
            have ok : ∀ x ∈ r, Ok x := fun x hx => (hB2 x hx).mono (Nat.le_refl _) (by omega)
            have hF1 := hF.same se
            have lf : fs.length ≤ 1000000 := by omega
            refine iteF ⟨_, rfl, true, a, _, 0, _, rfl, rfl, hx1, at0, rfl, _, rfl, ?_⟩
            by_cases nc : ¬ wd = "case"
            · rw [decide_eq_false (fun z => nc (V.str.inj z))]
              refine iteT ⟨_, rfl, _, rfl, f, fs, .ref a, wd, r, rfl, hF1.th, by omega, hT.kept (kept_same se), hl, nc, ok, fun H2 s2 => ⟨_, rfl, ?_⟩⟩
              show if (leadB (stepsB k) fs wd r).isSome = true then _ else _
              cases hst : leadB (stepsB k) fs wd r with
              | none =>
                rw [hst] at q
                exact iteF (q _ _ (se.trans s2) rfl)
              | some gs =>
                rw [hst] at q
                exact iteT ⟨_, rfl, _, rfl, f, fs, .ref a, .tuple (.str wd :: r), gs, rfl, hF1.same s2, nd, lf, hT.kept (kept_same (se.trans s2)), nc, hst, fun H3 u s3 hu => q _ _ ((se.trans s2).trans s3) hu⟩
            have nc := Classical.not_not.mp nc
            subst nc
            rw [decide_eq_true rfl]
            obtain ⟨d0, d1, d2, d3, rfl⟩ := len4 (Option.some.inj hl).symm
            obtain ⟨x1, x2, x3, x4, ex, t0, t1, t2, t3⟩ := th4 hA
            obtain rfl := List.tail_eq_of_cons_eq ex
            replace q : FitRes K H0 Q (caseB (stepsB k) fs d0 d1 d2 d3) := q
            have sum : growS (k + 1) (.tuple [.str "case", d0, d1, d2, d3]) = 1 + (growB k (.str "case") + (growB k d0 + (growB k d1 + (growB k d2 + (growB k d3 + 0))))) := rfl
            rw [sum] at hg
            refine iteF ⟨_, rfl, _, rfl, true, a, _, 1, _, rfl, rfl, hx1, rfl, f, fs, x1, d0, rfl, hF1.th, by omega, t0.kept (kept_same se), fun H2 s2 => ?_⟩
            replace s2 := se.trans s2
            refine ⟨_, rfl, by show 2 ≤ sizeLine; decide, fun tA nA => ⟨tA, testL.map V.str, rfl, .inr (SqT.of upd_same), flat_opt _, by decide +kernel, _, rfl, ?_⟩⟩
            rw [if_pos rfl, in_opt]
            have sA := s2.trans (newS (o := .tup [.str "code", .str "word"]) nA)
            generalize upd H2 tA (.tup [.str "code", .str "word"]) = HA at sA ⊢
            have no : ∀ H', Same H0 H' → caseB (stepsB k) fs d0 d1 d2 d3 = none → Q .non H' := fun H' s e => by
              rw [e] at q
              exact q H' .non s rfl
            cases ho : sortOf fs d0 with
            | none =>
              refine iteT (iteT (no _ sA ?_))
              unfold caseB
              rw [ho]
            | some el =>
              have val : caseB (stepsB k) fs d0 d1 d2 d3 = if (decide (el ∈ testL) && ofSort el d1) = true then bothB (stepsB k fs d2) (stepsB k fs d3) else none := by
                unfold caseB
                rw [ho]
              rw [val] at q no
              show if (!decide (el ∈ testL)) = true then _ else _
              cases hel : decide (el ∈ testL) with
              | false =>
                rw [hel, Bool.false_and, if_neg Bool.false_ne_true] at no
                exact iteT (iteT (no _ sA rfl))
              | true =>
                rw [hel, Bool.true_and] at q no
                have hxA := Sq.same (t := true) hx sA
                have hes : el ∈ sorts := by
                  rcases List.mem_cons.mp (of_decide_eq_true hel) with e | e
                  · rw [e]
                    decide
                  · rw [List.mem_singleton.mp e]
                    decide
                refine iteF ⟨_, rfl, _, rfl, true, a, _, 2, _, rfl, rfl, hxA, rfl, x2, d1, el, rfl, t1.kept (kept_same sA), ok d1 (by simp), hes, fun HB sB => ⟨_, rfl, ?_⟩⟩
                replace sB := sA.trans sB
                cases hob : ofSort el d1 with
                | false =>
                  rw [hob, if_neg Bool.false_ne_true] at no
                  exact iteT (no _ sB rfl)
                | true =>
                  rw [hob, if_pos rfl] at q no
                  have hxB := Sq.same (t := true) hx sB
                  refine iteF ⟨_, rfl, _, rfl, true, a, _, 3, _, rfl, rfl, hxB, rfl, f, fs, x3, d2, rfl, hF.same sB, nd, hN, t2.kept (kept_same sB), hB2 d2 (by simp), by omega, by omega, fun HC tC y sC hC hy => ⟨true, tC, _, 0, _, rfl, rfl, hC, at0, ?_⟩⟩
                  have sBC := sB.trans sC
                  have hxC := Sq.same (t := true) hx sBC
                  refine ⟨_, rfl, _, rfl, true, a, _, 4, _, rfl, rfl, hxC, rfl, f, fs, x4, d3, rfl, hF.same sBC, nd, hN, t3.kept (kept_same sBC), hB2 d3 (by simp), by omega, by omega, fun HD tD z sD hD2 hz => ⟨true, tD, _, 0, _, rfl, rfl, hD2, at0, ?_⟩⟩
                  have sE := sBC.trans sD
                  have hyD := hy.same sD
                  refine ⟨_, rfl, rfl, _, rfl, ?_⟩
                  rw [hyD.non]
                  cases hy1 : stepsB k fs d2 with
                  | error n1 =>
                    rw [hy1] at no
                    exact iteF (no _ sE rfl)
                  | ok gs =>
                    rw [hy1] at hyD no q
                    refine iteT ⟨_, rfl, rfl, _, rfl, ?_⟩
                    rw [hz.non]
                    cases hz1 : stepsB k fs d3 with
                    | error n1 =>
                      rw [hz1] at no
                      exact iteF (no _ sE rfl)
                    | ok hs2 =>
                      rw [hz1] at hz no q
                      have gr1 := (steps_gro k _ _ _ hy1 nd).1
                      have gr2 := (steps_gro k _ _ _ hz1 nd).1
                      have ni1 := rec_nice (k + 1) _ _ _ hy1 hN
                      have ni2 := rec_nice (k + 1) _ _ _ hz1 hN
                      have hyF : Fm K HD y gs := hyD
                      have hzF : Fm K HD z hs2 := hz
                      refine iteT ⟨_, rfl, y, gs, rfl, .inl hyF.th, fun qs yl p up pm np tA2 => ⟨_, rfl, z, hs2, rfl, .inl (hzF.same (newS np)).th, fun qs2 yl2 p2 up2 pm2 np2 tA3 => ?_⟩⟩
                      have s1 := newS (o := .lst yl) np
                      have s2 := newS (o := .lst yl2) np2
                      refine ⟨.list (qs.map fieldD), .list (qs2.map fieldD), .lst (SqL.of (s2 _ _ upd_same)) (dpAll_fields (tA2.kept (kept_same (s1.trans s2)))), .lst (SqL.of upd_same) (dpAll_fields (tA3.kept (kept_same s2))), (ni1.perm pm).shaped, (ni2.perm pm2).shaped, _, rfl, ?_⟩
                      rw [eqv_pairs, sorted_eq gr1 gr2 up pm up2 pm2]
                      have bv : bothB (.ok gs) (.ok hs2) = if eqF gs hs2 = true then some gs else none := rfl
                      rw [bv] at q no
                      cases he : eqF gs hs2 with
                      | false =>
                        rw [he, if_neg Bool.false_ne_true] at no
                        exact iteF (no _ (sE.trans (s1.trans s2)) rfl)
                      | true =>
                        rw [he, if_pos rfl] at q
                        exact iteT ⟨_, rfl, q _ _ (sE.trans (s1.trans s2)) (hyF.same (s1.trans s2))⟩
theorem sclall : FnScope ["fields", "steps", "at"] ["fields", "steps"] (defScope sLawAllFit) := ⟨rfl, rfl, rfl, by decide +kernel, rfl, by decide +kernel, by decide +kernel⟩
theorem ok_lall {f : Addr} {fd : FuncData} (F : FnP K "_law_all_fit" sLawAllFit f fd) {f__law_fit : Addr} {fd__law_fit : FuncData} (c__law_fit : Cl P w K mg base CX0 "_law_fit" (4 + 2 * c + 1) ["fields", "step"] (spLFit K c) f__law_fit fd__law_fit) (mb_isinstance : mg "isinstance" = none) (mb_tuple : mg "tuple" = none) (mb_list : mg "list" = none) (mb_len : mg "len" = none) (mb_range : mg "range" = none)   : FnOk P w K mg base CX0 (4 + 2 * c + 1 + 1) f fd ["fields", "steps"] (spLAll K c) := by
  refine F.ok sclall (fun vs H Q E h => ?_) (fun cdv A outer s H vs Q E hr h => ?_)
  · obtain ⟨f, fs, v, d, rfl, _⟩ := h
    rfl
  · obtain ⟨f, fs, v, d, rfl, hF, nd, hN, hT, hB, hc, hg, q⟩ := h
    have hu := hu_of hr
    have hs_ := szl
    refine ⟨_, PSs.nox (pss_cons (ps_if (pt_not (pt_val (pe_callB call_isiT (by rfl) mb_isinstance (by decide +kernel) (pa_cons (pv 1) (pa_cons (pe_tup (pa_cons (pe_bltn (v := .ty "list") (by rfl) mb_list (by decide +kernel) rfl) ( pa_cons (pe_bltn (v := .ty "tuple") (by rfl) mb_tuple (by decide +kernel) rfl) (pa_nil)))) pa_nil))))) (pss_one (ps_ret (pe_tup (pa_cons (pe_non) (pa_cons (pe_int) pa_nil))))) (pss_nil))
      (pss_cons (ps_for PassesOwn.never rfl (pi_range1 (by rfl) mb_range (pa_cons (pe_callB call_len (by rfl) mb_len (by decide +kernel) (pa_cons (pv 1) pa_nil)) pa_nil)) (pg_name (i := 2) sclall.nd rfl (Or.inl rfl)) (pss_cons (ps_set (i := 0) sclall.nd rfl (Or.inl rfl) (pe_call c__law_fit.ok hr (by rfl) c__law_fit.m c__law_fit.kp c__law_fit.b .nil pass0 (pa_cons (pv 0) (pa_cons (pe_ix Cc.ix_B (pv 1) (pv 2) (fun _ _ => rfl)) pa_nil))))
      (pss_one (ps_if (pt_cmpR op_isN (pv 0) (pe_non) (nomark _)) (pss_one (ps_ret (pe_tup (pa_cons (pe_non) (pa_cons (pv 2) pa_nil))))) (pss_nil)))))
      (pss_one (ps_ret (pe_tup (pa_cons (pv 0) (pa_cons (pe_callB call_len (by rfl) mb_len (by decide +kernel) (pa_cons (pv 1) pa_nil)) pa_nil))))))), ?_⟩
    refine ⟨_, rfl, (by show 2 ≤ sizeLine; decide), fun tp nt => ⟨v, tp, _, _, _, _, rfl, upd_same, .cons (.ty _) (.cons (.ty _) .nil), (hT.kept (kept_same (newS nt))).ty, kit_seq2 _, _, rfl, ?_⟩⟩
    have s0 := newS (o := .tup [.ty "list", .ty "tuple"]) nt
    generalize upd H tp (.tup [.ty "list", .ty "tuple"]) = H0 at s0 ⊢
    rw [steps_over] at q
    cases hsq : isSeq2 d with
    | false =>
      have e : overB (stepB (recOf c)) fs d = .error 0 := by cases d <;> first | rfl | cases hsq
      rw [e] at q
      exact iteT ⟨by show 2 ≤ sizeLine; decide, fun t nt2 => q _ t .non (s0.trans (newS nt2)) (SqT.of upd_same) rfl⟩
    | true =>
      obtain ⟨t, a, xs, rfl, hx, hA, hBi⟩ : ∃ (t : Bool) (a : Addr) (xs : List V), v = .ref a ∧ Sq t K H a xs ∧ ThAll K H xs (items d) ∧ ∀ x ∈ items d, Bd 1000 (2 * c) x := by
        cases d <;> first | (cases hsq; done) | skip
        · obtain ⟨a, xs, rfl, hx, hA⟩ := hT.asLst
          exact ⟨false, a, xs, rfl, hx, hA, hB.2⟩
        · obtain ⟨a, xs, rfl, hx, hA⟩ := hT.asTup
          exact ⟨true, a, xs, rfl, hx, hA, hB.2⟩
      have lx := hA.len
      have lN : (items d).length ≤ 1000 := by
        cases d <;> first | exact hB.1 | exact Nat.zero_le _
      have ov : overB (stepB (recOf c)) fs d = goB (stepB (recOf c)) 0 fs (items d) := by
        cases d <;> first | rfl | cases hsq
      rw [ov] at q
      rw [grow_sum] at hg
      have lenV : ∀ {H'}, Same H H' → (∃ ys, SqL K H' a ys ∧ xs.length = ys.length) ∨ (∃ ys, SqT K H' a ys ∧ xs.length = ys.length) := fun s => by
        have h := Sq.same hx s
        cases t with
        | false => exact .inl ⟨_, h, rfl⟩
        | true => exact .inr ⟨_, h, rfl⟩
      refine iteF ⟨_, rfl, _, xs.length, rfl, lenV s0, (xs.length : Int), rfl, by omega, by omega, ?_⟩
      rw [Int.toNat_natCast]
      refine for_range (lo := 0) (n := xs.length) (fun i σ' H' => (∃ fi fsi x2, σ' = [some fi, some (.ref a), x2] ∧ Fm K H' fi fsi ∧ (fsi.map Prod.fst).Nodup ∧ Nice fsi ∧ goB (stepB (recOf c)) i fsi ((items d).drop i) = goB (stepB (recOf c)) 0 fs (items d) ∧ fsi.length + (((items d).drop i).map (growS c)).sum ≤ 1000000) ∧ Same H H')
        ⟨⟨f, fs, _, rfl, hF.same s0, nd, hN, rfl, hg⟩, s0⟩ ?_ ?_
      · rintro i σ' H1 hi ⟨⟨fi, fsi, x2, rfl, hFi, ndi, hNi, hgo, hlen⟩, s1⟩
        obtain ⟨x, hxi⟩ : ∃ x, xs[i]? = some x := ⟨_, List.getElem?_eq_getElem hi⟩
        obtain ⟨e, he, te, me⟩ := ThAll.get2 hA hxi
        have hdr : (items d).drop i = e :: (items d).drop (i + 1) := by
          obtain ⟨hlt, z⟩ := List.getElem?_eq_some_iff.mp he
          rw [List.drop_eq_getElem_cons hlt, z]
        rw [hdr, List.map_cons, List.sum_cons] at hlen
        rw [hdr, go_cons] at hgo
        rw [Int.zero_add]
        refine ⟨_, rfl, _, rfl, _, rfl, t, a, xs, (i : Int), x, rfl, rfl, Sq.same hx s1, atI_nat hxi, fi, fsi, x, e, rfl, hFi, ndi, hNi, te.kept (kept_same s1), hBi e me, hc, by omega, fun H2 u s2 hu => ⟨_, rfl, rfl, _, rfl, ?_⟩⟩
        have ed : decide (u = .non) = !(stepB (recOf c) fsi e).isSome := by rw [← hu.non, Bool.not_not]
        rw [ed]
        cases hst : stepB (recOf c) fsi e with
        | none =>
          rw [hst] at hgo
          rw [← hgo] at q
          exact iteT ⟨_, rfl, by show 2 ≤ sizeLine; decide, fun t nt2 => q _ t .non ((s1.trans s2).trans (newS nt2)) (SqT.of upd_same) rfl⟩
        | some gs =>
          rw [hst] at hgo hu
          have gr := stepS_gro c hst
          exact iteF ⟨⟨u, gs, _, rfl, hu, (gr ndi).1, step_nice (rec_nice c) hst hNi, hgo, by have := (gr ndi).2; omega⟩, s1.trans s2⟩
      · rintro σ' H1 ⟨⟨fi, fsi, x2, rfl, hFi, ndi, hNi, hgo, hlen⟩, s1⟩
        rw [lx, List.drop_length, go_nil] at hgo
        rw [← hgo] at q
        refine ⟨_, rfl, _, rfl, _, xs.length, rfl, lenV s1, by show 2 ≤ sizeLine; decide, fun t nt2 => q _ t fi (s1.trans (newS nt2)) ?_ (Fm.same hFi (newS nt2))⟩
        rw [lx]
        exact SqT.of upd_same
/-- both, of cases within cases to any depth -/
theorem lfits {f_lb f_su f_so f_of f_fit f_all : Addr} {fd_lb fd_su fd_so fd_of fd_fit fd_all : FuncData}
    (c_lb : ∀ c, Cl P w K mg base CX0 "_law_behind" 2 ["fields", "step"] (NB.spLBehind K (recOf c)) f_lb fd_lb) (c_su : ∀ c, Cl P w K mg base CX0 "_law_suits" 4 ["fields", "step"] (spLSuits K (recOf c)) f_su fd_su)
    (c_so : Cl P w K mg base CX0 "_law_sort" 1 ["fields", "field"] (spLSort K) f_so fd_so) (c_of : Cl P w K mg base CX0 "_law_of_sort" 2 ["sort", "thing"] (spOfSortL K) f_of fd_of)
    (Ff : FnP K "_law_fit" sLawFit f_fit fd_fit) (m_f : mg "_law_fit" = some (.ref f_fit)) (b_f : Binds K fd_fit ["fields", "step"] [])
    (Fa : FnP K "_law_all_fit" sLawAllFit f_all fd_all) (m_a : mg "_law_all_fit" = some (.ref f_all)) (b_a : Binds K fd_all ["fields", "steps"] [])
    (b1 : mg "isinstance" = none) (b2 : mg "tuple" = none) (b3 : mg "str" = none) (b4 : mg "len" = none) (b5 : mg "sorted" = none) (b6 : mg "list" = none) (b7 : mg "range" = none) :
    ∀ c, FnOk P w K mg base CX0 (4 + 2 * c + 1 + 1) f_all fd_all ["fields", "steps"] (spLAll K c)
  | c => by
    have hr : Cl P w K mg base CX0 "_law_all_fit" (4 + 2 * c) ["fields", "steps"] (spRecL K c) f_all fd_all := by
      cases c with
      | zero => exact ⟨⟨fun _ _ _ _ h => h.elim, fun _ _ _ _ _ _ _ _ _ _ _ _ _ h => h.elim⟩, m_a, Fa.kp, b_a⟩
      | succ c => exact ⟨lfits c_lb c_su c_so c_of Ff m_f b_f Fa m_a b_a b1 b2 b3 b4 b5 b6 b7 c, m_a, Fa.kp, b_a⟩
    exact ok_lall Fa ⟨ok_lfit Ff (c_lb c) (c_su c) c_so c_of hr b1 b2 b3 b4 b5, m_f, Ff.kp, b_f⟩ b1 b2 b6 b4 b7
end
end St6

set_option autoImplicit false
set_option maxHeartbeats 4000000
namespace St6
open PySem PySem.Spec PyProof.Rows L2 Tg Cc Nn TL Kx
/-! where steps are refused: the law's own look, what the program tells -/
def placeV : Except Nat Fs → V
  | .ok _ => .non
  | .error n => .int (n : Nat)
def spLPlace (K : PySem.W.Frag) (c : Nat) : Sp := fun vs H Q _ => ∃ f fs v d, vs = [f, v] ∧ Fm K H f fs ∧ (fs.map Prod.fst).Nodup ∧ Nice fs ∧ Th K H v d ∧ Bd 1000 (2 * c + 1) d ∧ c ≤ 9 ∧ fs.length + growB c d ≤ 1000000 ∧ ∀ H', Same H H' → Q (placeV (behindB c fs d)) H'
structure BadX (K : PySem.W.Frag) (C : Addr) : Prop where
  xf : XfC K C
  ec : ExcC K C
  cl : (PySem.W.clsIn K C).isSome = true
  kit : PySem.W.kitOne K (.ref C) (.type "ValueError") = some true
  exm : PySem.W.exmOne K (.ref C) (.ref C) = some true
def BadRes (K : PySem.W.Frag) (H : Hp) (Q : VK) : Except Nat Fs → Prop
  | .ok gs => ∀ H' t q, Same H H' → FZ K H' q gs → H' t = some (.tup [.str "form", .ref q]) → Q (.ref t) H'
  | .error n => ∀ H' t, Same H H' → H' t = some (.tup [.str "bad", .int (n : Nat)]) → Q (.ref t) H'
theorem go_le {st : Fs → PyData → Option Fs} : ∀ {ds : List PyData} {i n : Nat} {fs : Fs}, goB st i fs ds = .error n → n ≤ i + ds.length
  | [], _, _, _, h => by cases h
  | d :: r, i, n, fs, h => by
    rw [go_cons] at h
    cases e : st fs d with
    | none =>
      rw [e] at h
      obtain rfl : i = n := Except.error.inj h
      exact Nat.le_add_right _ _
    | some gs =>
      rw [e] at h
      have := go_le h
      rw [List.length_cons]
      omega
theorem behind_le {c : Nat} {fs : Fs} {d : PyData} {n : Nat} (h : behindB c fs d = .error n) : n ≤ (items d).length := by
  unfold behindB at h
  cases hst : stepsB c fs d with
  | error k =>
    rw [hst] at h
    obtain rfl : k = n := Except.error.inj h
    rw [steps_over] at hst
    cases d with
    | list ds =>
      have := go_le (show goB (stepB (recOf c)) 0 fs ds = .error k from hst)
      simpa [items] using this
    | tuple ds =>
      have := go_le (show goB (stepB (recOf c)) 0 fs ds = .error k from hst)
      simpa [items] using this
    | _ =>
      have : (0 : Nat) = k := Except.error.inj hst
      omega
  | ok gs =>
    rw [hst] at h
    dsimp only at h
    by_cases e : 1 ≤ gs.length ∧ gs.length ≤ 6
    · rw [if_pos e] at h
      cases h
    · rw [if_neg e] at h
      have := Except.error.inj h
      omega
def spLBad (K : PySem.W.Frag) (c : Nat) : Sp := fun vs H Q _ => ∃ f fs v d, vs = [f, v] ∧ Th K H f (formD fs) ∧ (fs.map Prod.fst).Nodup ∧ Th K H v d ∧ Bd 1000 (2 * c + 1) d ∧ c ≤ 9 ∧ fs.length + growB c d ≤ 1000000 ∧ BadRes K H Q (behindB c fs d)
section
variable {P : Program} {w : World} {K : PySem.W.Frag} {mg : Str → Option Value} {base : Heap} {c : Nat} {C fI : Addr} {fdI : FuncData}
theorem sclplace : FnScope ["form", "steps", "fields", "at"] ["form", "steps"] (defScope sLawPlace) := ⟨rfl, rfl, rfl, by decide +kernel, rfl, by decide +kernel, by decide +kernel⟩
theorem ok_lplace {f : Addr} {fd : FuncData} (F : FnP K "_law_place" sLawPlace f fd) {f__law_all_fit : Addr} {fd__law_all_fit : FuncData} (c__law_all_fit : Cl P w K mg base CX0 "_law_all_fit" (4 + 2 * c + 1 + 1) ["fields", "steps"] (spLAll K c) f__law_all_fit fd__law_all_fit) (mb_len : mg "len" = none)   : FnOk P w K mg base CX0 (4 + 2 * c + 3) f fd ["form", "steps"] (spLPlace K c) := by
  refine F.ok sclplace (fun vs H Q E h => ?_) (fun cdv A outer s H vs Q E hr h => ?_)
  · obtain ⟨f, fs, v, d, rfl, _⟩ := h
    rfl
  · obtain ⟨f, fs, v, d, rfl, hF, nd, hN, hT, hB, hc, hg, q⟩ := h
    have hu := hu_of hr
    have hs_ := szl
    refine ⟨_, PSs.nox (pss_cons (ps_asg (pe_call c__law_all_fit.ok (hr.mono (by omega)) (by rfl) c__law_all_fit.m c__law_all_fit.kp c__law_all_fit.b .nil pass0 (pa_cons (pv 0) (pa_cons (pv 1) pa_nil))) (pg_tup rfl (pgs_cons (pg_name (i := 2) sclplace.nd rfl (Or.inl rfl)) (pgs_cons (pg_name (i := 3) sclplace.nd rfl (Or.inl rfl)) (pgs_nil)))))
      (pss_one (ps_ret (pe_ifExp (PW.pt (pw_or (pt_cmpR op_isN (pv 2) (pe_non) (nomark _)) (pw_or1 (pt_not (pt_chain op_lt op_lt (pe_int) (pe_callB call_len (by rfl) mb_len (by decide +kernel) (pa_cons (pv 2) pa_nil)) (pe_int)))))) (pv 3) (pe_non))))), ?_⟩
    refine ⟨_, rfl, _, rfl, f, fs, v, d, rfl, hF, nd, hN, hT, hB, hc, hg, fun H1 t x s1 ht hx => ?_⟩
    refine ⟨t, _, rfl, ht, rfl, _, _, rfl, _, _, rfl, rfl, ?_⟩
    have ex : okOf (stepsB c fs d) = okOf (stepsB c fs d) := rfl
    cases hst : stepsB c fs d with
    | error n =>
      rw [hst] at hx
      obtain rfl : x = .non := hx
      have hb : behindB c fs d = .error n := by
        unfold behindB
        rw [hst]
      rw [hb] at q
      exact ⟨_, rfl, rfl, _, rfl, iteT (iteT ⟨_, rfl, q _ s1⟩)⟩
    | ok gs =>
      rw [hst] at hx
      have hx2 : Fm K H1 x gs := hx
      obtain ⟨a, xs, rfl, tz, hA⟩ := hx2
      have lx : xs.length = gs.length := by rw [hA.len, List.length_map]
      have hb : behindB c fs d = if 1 ≤ gs.length ∧ gs.length ≤ 6 then .ok gs else .error (items d).length := by
        unfold behindB
        rw [hst]
      rw [hb] at q
      refine ⟨_, rfl, rfl, _, rfl, iteF ?_⟩
      refine ⟨_, rfl, _, xs.length, rfl, .inr ⟨_, tz.sq, rfl⟩, _, _, rfl, rfl, _, rfl, ite2 (fun e1 => ⟨_, _, rfl, rfl, _, rfl, ite2 (fun e2 => ?_) (fun e2 => ?_)⟩) (fun e1 => ⟨_, rfl, iteT ?_⟩)⟩
      · have c2 : ¬ (1 ≤ gs.length ∧ gs.length ≤ 6) := fun y => by
          rw [decide_eq_true (show (xs.length : Int) < (7 : Int) by omega)] at e2
          cases e2
        rw [if_neg c2] at q
        exact ⟨_, rfl, q _ s1⟩
      · have c2 : 1 ≤ gs.length ∧ gs.length ≤ 6 := by
          have h1 := of_decide_eq_true e1
          have : (!decide ((xs.length : Int) < (7 : Int))) = false := by simpa using e2
          rw [Bool.not_eq_false'] at this
          have := of_decide_eq_true this
          omega
        rw [if_pos c2] at q
        exact q _ s1
      · have c2 : ¬ (1 ≤ gs.length ∧ gs.length ≤ 6) := fun y => e1 (decide_eq_true (by omega))
        rw [if_neg c2] at q
        exact ⟨_, rfl, q _ s1⟩
theorem sclbad : FnScope ["form", "steps", "found", "bad", "e"] ["form", "steps"] (defScope sLawBad) := ⟨rfl, rfl, rfl, by decide +kernel, rfl, by decide +kernel, by decide +kernel⟩
theorem ok_lbad {f : Addr} {fd : FuncData} (F : FnP K "_law_bad" sLawBad f fd) (T : BadS K mg C fI fdI) (TX : BadX K C) {f_fb : Addr} {fd_fb : FuncData} (c_fb : Cl P w K mg base (L2.CX P w) "form_behind" (8 + 3 * c + 1) ["form", "steps"] (spFormBehind K C c) f_fb fd_fb)
    {f_w : Addr} {fd_w : FuncData} (c_w : Cl P w K mg base CX0 "_law_whole" 1 ["thing"] (spWhole K) f_w fd_w) (mi : mg "isinstance" = none) (mV : mg "ValueError" = none) : FnOk P w K mg base CX0 (8 + 3 * c + 2) f fd ["form", "steps"] (spLBad K c) := by
  refine F.ok sclbad (fun vs H Q E h => ?_) (fun cdv A outer s H vs Q E hr h => ?_)
  · obtain ⟨f, fs, v, d, rfl, _⟩ := h
    rfl
  · obtain ⟨f, fs, v, d, rfl, hF, nd, hT, hB, hc, hg, q⟩ := h
    have hs := szl
    refine ⟨_, pss_cons (ps_set (i := 2) sclbad.nd rfl (Or.inl rfl) pe_non) (pss_cons (ps_set (i := 3) sclbad.nd rfl (Or.inl rfl) pe_non)
      (pss_cons (ps_try_keep (i := 4) (Wout := fun _ _ _ _ => False) rfl rfl rfl sclbad.nd rfl rfl ⟨rfl, by decide, .inl T.g⟩ takes0
        (fun W pn xe tk _ => pss_one (ps_set (i := 2) sclbad.nd rfl (.inl rfl) (pe_callS c_fb.ok (hr.mono (by omega)) (by rfl) c_fb.m c_fb.kp c_fb.b (fun σ => passAt tk σ) (pa_cons (pv 0) (pa_cons (pv 1) pa_nil)))))
        (fun a oe cls d pn hz hf => pss_one (ps_set (i := 3) sclbad.nd rfl (.inl rfl) (pv 4))))
      (pss_cons (ps_if (pt_cmpR op_isN (pv 3) pe_non (nomark _)) (pss_one (ps_ret (pe_tup (pa_cons pe_str (pa_cons (pv 2) pa_nil))))) pss_nil)
      (pss_one (ps_ret (pe_ifExp (PW.pt (pw_and (pt_val (pe_callB call_isH (by rfl) mi PyProof.Rows.boot_isinstance (pa_cons (pv 3) (pa_cons (pe_bltn (v := .ty "ValueError") (u := .type "ValueError") (by rfl) mV (by decide +kernel) rfl) pa_nil))))
          (pw_and1 (pt_val (pe_call c_w.ok (hr.mono (by omega)) (by rfl) c_w.m c_w.kp c_w.b .nil pass0 (pa_cons (pe_xh (pv 3)) pa_nil))))))
        (pe_tup (pa_cons pe_str (pa_cons (pe_xh (pv 3)) pa_nil))) (pe_tup (pa_cons pe_str (pa_cons pe_non pa_nil))))))))), ?_⟩
    refine ⟨_, rfl, _, rfl, f, fs, v, d, rfl, hF, nd, hT, hB, hc, hg, ?_⟩
    cases hb : behindB c fs d with
    | ok gs =>
      rw [hb] at q
      exact fun H1 p s1 fz => ⟨_, rfl, rfl, _, rfl, iteT ⟨_, rfl, by show 2 ≤ sizeLine; decide, fun t nt => q _ t p (s1.trans (newS nt)) (let ⟨xs, a, b⟩ := fz; ⟨xs, a.same (newS nt), b.kept (kept_same (newS nt))⟩) upd_same⟩⟩
    | error n =>
      rw [hb] at q
      refine fun H1 dd s1 nd2 hat => ⟨true, TX.exm, fun _ a na => ?_, fun y => Bool.noConfusion y⟩
      have sa := same_upd (o := Exh (.ref C) (some dd) a) na
      have ha : (upd H1 a (Exh (.ref C) (some dd) a)) a = some (Exh (.ref C) (some dd) a) := upd_same
      have hat2 := sa _ _ hat
      have sH := s1.trans sa
      refine ⟨_, rfl, _, rfl, rfl, _, rfl, iteF ?_⟩
      show _
      generalize (upd H1 a (Exh (.ref C) (some dd) a)) = H2 at ha hat2 sH
      refine ⟨_, rfl, a, C, dd, _, .ty "ValueError", .type "ValueError", true, rfl, ha, hat2, TX.ec, TX.cl, fun u r => r, TX.kit, _, rfl, iteT ?_⟩
      refine ⟨_, rfl, a, C, dd, _, .int (n : Int), rfl, ha, TX.xf, T.noAt, hat2, rfl, .int (n : Int), .int (n : Int), rfl, .int _, ?_, fun H3 s3 => ⟨_, rfl, iteT ?_⟩⟩
      · have hn := behind_le hb
        have hl : (items d).length ≤ 1000 := by
          cases d <;> first | exact hB.1 | exact Nat.zero_le _
        refine bd_int.mpr ?_
        have e : ((n : Nat) : Int).natAbs = n := rfl
        rw [e]
        exact Nat.lt_of_le_of_lt (Nat.le_trans hn hl) (Nat.lt_of_lt_of_le (show 1000 < 10 ^ 4 by decide) (Nat.pow_le_pow_right (by decide) (by decide)))
      · refine ⟨_, rfl, a, C, dd, _, .int (n : Int), rfl, s3 _ _ ha, TX.xf, T.noAt, s3 _ _ hat2, rfl, by show 2 ≤ sizeLine; decide, fun t nt => ?_⟩
        exact q _ t ((sH.trans s3).trans (newS nt)) upd_same
end
end St6

set_option autoImplicit false
set_option maxHeartbeats 4000000
namespace St6
open PySem PySem.Spec PyProof.Rows L2 Tg Cc Nn TL
/-! steps by which more and more fields stand, then fewer -/
def spWide (K : PySem.W.Frag) : Sp := fun vs H Q _ => ∃ (pd cl : Addr) (ns : List Int) (n : Nat) (f : V) (fs : Fs) (p : Addr) (zs : List Str), vs = [.ref pd, f, .ref p] ∧ Pen H pd cl ns n ∧ n ≤ 800000000 ∧ Fm K H f fs ∧ GoodF fs ∧ H p = some (.lst (zs.map V.str)) ∧ News fs zs ∧ 4 ≤ zs.length ∧
  ∀ H' a ds gs, Fr [pd] H H' → Pen H' pd cl ns (n + 400) → Th K H' (.ref a) (.tuple ds) → WD fs ds gs → ds.length ≤ 8 → gs.length ≤ 10 → Q (.ref a) H'
theorem fr_upd0 {S : List Addr} {H H1 : Hp} {l : Addr} {o : HO} (f : Fr S H H1) (h : H l = none) : Fr S H (upd H1 l o) := fun b x n e => by
  rw [upd_ne (ne_of_none e h)]
  exact f b x n e
theorem odd3 {H : Hp} {d cl L D : Addr} {ns : List Int} {n : Nat} {l m : List V} (P : Pen H d cl ns n) (hL : H L = some (.lst l)) (hD : H D = some (.lst m)) : Odd (fun b => b ∈ [d, L, D]) H := fun b hb => by
  simp only [List.mem_cons, List.not_mem_nil, or_false] at hb
  rcases hb with rfl | rfl | rfl
  · exact odd_of P _ (List.mem_singleton_self _)
  · exact .inl ⟨_, hL⟩
  · exact .inl ⟨_, hD⟩
theorem erase_map (l : List Str) (k : Nat) : (l.map V.str).eraseIdx k = (l.eraseIdx k).map V.str := by
  induction l generalizing k with
  | nil => rfl
  | cons a r ih => cases k with
    | zero => rfl
    | succ k => exact congrArg (List.cons (V.str a)) (ih k)
theorem erase_ne {l : List Str} (nd : l.Nodup) {k : Nat} (h : k < l.length) {y : Str} (hy : y ∈ l.eraseIdx k) : y ∈ l ∧ y ≠ l[k] := by
  refine ⟨List.mem_of_mem_eraseIdx hy, fun e => ?_⟩
  rw [List.mem_eraseIdx_iff_getElem] at hy
  obtain ⟨j, hj, ne, ej⟩ := hy
  exact ne ((List.getElem_inj nd).mp (ej.trans e))
theorem tz_eq {H : Hp} {a : Addr} {xs ys : List V} (h : Tz H a xs) (k : Tz H a ys) : xs = ys := by
  obtain ⟨o1, _, h1⟩ := h
  obtain ⟨o2, _, h2⟩ := k
  rw [h1] at h2
  cases h2
  rfl
theorem tz_fr {S : List Addr} {H H1 : Hp} {a : Addr} {xs : List V} (h : Tz H a xs) (o : Odd (fun b => b ∈ S) H) (f : Fr S H H1) : Tz H1 a xs := by
  obtain ⟨o1, h0, h1⟩ := h
  refine ⟨o1, h0, f _ _ (fun z => ?_) h1⟩
  rcases o a z with ⟨l, e⟩ | ⟨k, e, _⟩ <;> (rw [h1] at e; cases e)
theorem List.mem_of_mem_take_le {α : Type} {z : α} {l : List α} {i : Nat} (h : z ∈ l.take i) : z ∈ l.take (i + 1) := by
  rw [List.take_succ]
  exact List.mem_append_left _ h
theorem atI_inS {xs : List Str} {d : Int} (h0 : 0 ≤ d) (h1 : d < (xs.length : Int)) : ∃ z, atI (xs.map V.str) d = some (.str z) ∧ z ∈ xs := atI_map h0 h1
section
variable {P : Program} {w : World} {K : PySem.W.Frag} {mg : Str → Option Value} {base : Heap}
theorem scwide : FnScope ["pen", "form", "news", "fields", "found", "k", "kind", "step", "field", "sort", "left"] ["pen", "form", "news"] (defScope sLawWide) := ⟨rfl, rfl, rfl, by decide +kernel, rfl, by decide +kernel, by decide +kernel⟩
theorem ok_wide {f : Addr} {fd : FuncData} (F : FnP K "_law_wide" sLawWide f fd) {f__law_draw : Addr} {fd__law_draw : FuncData} (c__law_draw : Cl P w K mg base CX0 "_law_draw" 1 ["pen", "many"] (spDraw) f__law_draw fd__law_draw) {f__law_value : Addr} {fd__law_value : FuncData} (c__law_value : Cl P w K mg base CX0 "_law_value" 3 ["pen", "sort"] (spValueD) f__law_value fd__law_value) {f__law_behind : Addr} {fd__law_behind : FuncData} (c__law_behind : Cl P w K mg base CX0 "_law_behind" (2 + 2 * 5) ["fields", "step"] (spLBehind K 5) f__law_behind fd__law_behind) (mb_range : mg "range" = none) (mb_min : mg "min" = none) (mb_len : mg "len" = none) (mb_tuple : mg "tuple" = none)   : FnOk P w K mg base CX0 13 f fd ["pen", "form", "news"] (spWide K) := by
  refine F.ok scwide (fun vs H Q E h => ?_) (fun cdv A outer s H vs Q E hr h => ?_)
  · obtain ⟨pd, cl, ns, n, f, fs, p, zs, rfl, _⟩ := h
    rfl
  · obtain ⟨pd, cl, ns, n, f, fs, p, zs, rfl, hP, hn, hF, hG, hp, hN, hz, q⟩ := h
    have hu := hu_of hr
    have hs := szl
    refine ⟨_, PSs.nox (pss_cons (ps_set (i := 3) scwide.nd rfl (Or.inl rfl) (pv 1))
      (pss_cons (ps_set (i := 4) scwide.nd rfl (Or.inl rfl) (pe_lst (pa_nil)))
      (pss_cons (ps_for PassesOwn.never rfl (pi_range1 (by rfl) mb_range (pa_cons (pe_op op_add (pe_int) (pe_call c__law_draw.ok (hr.mono (by decide)) (by rfl) c__law_draw.m c__law_draw.kp c__law_draw.b .nil pass0 (pa_cons (pv 0) (pa_cons (pe_int) pa_nil)))) pa_nil)) (pg_name (i := 5) scwide.nd rfl (Or.inl rfl)) (pss_cons (ps_set (i := 6) scwide.nd rfl (Or.inl rfl) (pe_ix ix_list (pe_lst (pa_cons (pe_str) (pa_cons (pe_str) (pa_cons (pe_str) (pa_cons (pe_str) pa_nil))))) (pe_call c__law_draw.ok (hr.mono (by decide)) (by rfl) c__law_draw.m c__law_draw.kp c__law_draw.b .nil pass0 (pa_cons (pv 0) (pa_cons (pe_int) pa_nil))) (fun _ _ => rfl)))
      (pss_cons (ps_set (i := 7) scwide.nd rfl (Or.inl rfl) (pe_tup (pa_cons (pe_str) (pa_cons (pe_ix ix_list (pv 2) (pv 5) (fun _ _ => rfl)) (pa_cons (pv 6) (pa_cons (pe_call c__law_value.ok (hr.mono (by decide)) (by rfl) c__law_value.m c__law_value.kp c__law_value.b .nil pass0 (pa_cons (pv 0) (pa_cons (pv 6) pa_nil))) pa_nil))))))
      (C8.pss_cut (ps_if (pt_cmpR op_eq (pe_call c__law_draw.ok (hr.mono (by decide)) (by rfl) c__law_draw.m c__law_draw.kp c__law_draw.b .nil pass0 (pa_cons (pv 0) (pa_cons (pe_int) pa_nil))) (pe_int) (nomark _)) (pss_one (ps_set (i := 7) scwide.nd rfl (Or.inl rfl) (pe_tup (pa_cons (pe_str) (pa_cons (pe_ix Cc.ix_B (pe_ix ix_tup (pv 3) (pe_call c__law_draw.ok (hr.mono (by decide)) (by rfl) c__law_draw.m c__law_draw.kp c__law_draw.b .nil pass0 (pa_cons (pv 0) (pa_cons (pe_callB call_len_seq (by rfl) mb_len (by decide +kernel) (pa_cons (pv 3) pa_nil)) pa_nil))) (fun _ _ => rfl)) (pe_int) (fun _ _ => rfl)) (pa_cons (pe_ix ix_list (pv 2) (pv 5) (fun _ _ => rfl)) pa_nil)))))) (pss_nil))
      (pss_cons (ps_expr (pe_bm PySem.F.plainAttrs_list PySem.F.slot_list_append PySem.F.type_list_append mt_append (pv 4) (pa_cons (pv 7) pa_nil)))
      (pss_one (ps_set (i := 3) scwide.nd rfl (Or.inl rfl) (pe_call c__law_behind.ok (hr.mono (by decide)) (by rfl) c__law_behind.m c__law_behind.kp c__law_behind.b .nil pass0 (pa_cons (pv 3) (pa_cons (pv 7) pa_nil))))))))))
      (pss_cons (ps_setLc (i := 10) (own := [("field", 8), ("sort", 9)]) (tt := tYes) rfl scwide.nd rfl rfl (sw_true rfl rfl rfl (by decide +kernel)) (pi_tup (pv 3)) (blkOk_by (own := [("field", 8), ("sort", 9)]) (N := ["pen", "form", "news", "fields", "found", "k", "kind", "step", "field", "sort", "left"]) (sc := defScope sLawWide) (by decide +kernel)) (fun _ _ _ _ _ => Cc.pg_tupk (K := K) (n := 2) rfl rfl (pgs_cons (pg_name (i := 8) scwide.nd rfl (Or.inl rfl)) (pgs_cons (pg_name (i := 9) scwide.nd rfl (Or.inl rfl)) (pgs_nil)))) (fun _ _ _ _ _ => pts_nil) (fun _ _ _ _ _ => pv 8))
      (pss_cons (ps_for PassesOwn.never rfl (pi_range1 (by rfl) mb_range (pa_cons (pe_callB (call_min2 rfl) (by rfl) mb_min (by decide +kernel) (pa_cons (pe_call c__law_draw.ok (hr.mono (by decide)) (by rfl) c__law_draw.m c__law_draw.kp c__law_draw.b .nil pass0 (pa_cons (pv 0) (pa_cons (pe_int) pa_nil))) (pa_cons (pe_callB call_len_seq (by rfl) mb_len (by decide +kernel) (pa_cons (pv 3) pa_nil)) pa_nil))) pa_nil)) (pg_name (i := 5) scwide.nd rfl (Or.inl rfl)) (pss_one (ps_expr (pe_bm PySem.F.plainAttrs_list PySem.F.slot_list_append PySem.F.type_list_append mt_append (pv 4) (pa_cons (pe_tup (pa_cons (pe_str) (pa_cons (pe_bm PySem.F.plainAttrs_list PySem.F.slot_list_pop PySem.F.type_list_pop mt_popAt (pv 10) (pa_cons (pe_call c__law_draw.ok (hr.mono (by decide)) (by rfl) c__law_draw.m c__law_draw.kp c__law_draw.b .nil pass0 (pa_cons (pv 0) (pa_cons (pe_callB call_len_seq (by rfl) mb_len (by decide +kernel) (pa_cons (pv 10) pa_nil)) pa_nil))) pa_nil)) pa_nil))) pa_nil)))))
      (pss_one (ps_ret (pe_callTy call_tuple_of (by rfl) mb_tuple (by decide +kernel) (pa_cons (pv 4) pa_nil))))))))), ?_⟩
    obtain ⟨fa, fx0, ef, _⟩ := id hF
    subst ef
    have odd := odd_of hP
    have npd : p ≠ pd := by
      obtain ⟨⟨xa, xb, hd, _⟩, _, _⟩ := id hP
      exact ne_of hp hd (by intro z; cases z)
    refine ⟨_, rfl, Nat.zero_le _, fun L nL => ?_⟩
    have nLd : pd ≠ L := by
      obtain ⟨⟨xa, xb, hd, _⟩, _, _⟩ := id hP
      exact ne_of_none hd nL
    have nLc : cl ≠ L := by
      obtain ⟨_, hd, _⟩ := id hP
      exact ne_of_none hd nL
    have s0 := newS (o := .lst []) nL
    have P0 : Pen (upd H L (.lst [])) pd cl ns n := hP.fr (S := []) (fr_same s0) (by simp) (by simp)
    refine ⟨_, rfl, pd, cl, ns, 4, n, rfl, P0, by omega, by decide, by decide, fun H1 c0 f1 P1 k0 k1 => ?_⟩
    obtain ⟨c, rfl⟩ := Int.eq_ofNat_of_zero_le k0
    refine ⟨_, _, rfl, rfl, _, rfl, by omega, by omega, ?_⟩
    have ec : (1 + (c : Int)).toNat = 1 + c := by omega
    rw [ec]
    have c4 : 1 + c ≤ 4 := by omega
    have hL1 : H1 L = some (.lst []) := f1 _ _ (by simpa using nLd.symm) upd_same
    have f01 : Fr [pd, L] H H1 := (fr_new (S := [pd, L]) nL).trans (f1.mono (by simp))
    have g6 := hG.hi
    have g1 := hG.lo
    refine for_range (lo := 0) (n := 1 + c) (fun i σ' H' => ∃ u x5 x6 x7 x8 x9 x10 acc ds gs, σ' = [some (.ref pd), some (.ref fa), some (.ref p), some (.ref u), some (.ref L), x5, x6, x7, x8, x9, x10] ∧ Fm K H' (.ref u) gs ∧ Pen H' pd cl ns (n + 1 + 50 * i) ∧ Fr [pd, L] H H' ∧ H' L = some (.lst acc) ∧ ThAll K H' acc ds ∧ WD fs ds gs ∧ ds.length = i ∧ gs.length = fs.length + i ∧ ∀ z ∈ gs.map Prod.fst, z ∈ fs.map Prod.fst ∨ z ∈ zs.take i)
      ⟨fa, _, _, _, _, _, _, [], [], fs, rfl, (hF.frN odd ((fr_same s0).trans f1)), P1.mono (by omega), f01, hL1, .nil, .nil hG.good, rfl, rfl, fun z hz => .inl hz⟩ ?_ ?_
    · rintro i σ' H2 hi ⟨u, x5, x6, x7, x8, x9, x10, acc, ds, gs, rfl, hF2, P2, f2, hL2, tA, hW, ld, lg, nm⟩
      have f02 : Fr [pd] H H2 := Fr.drop (p := L) (S := [pd]) (f2.mono (by simp)) nL
      have hp2 : H2 p = some (.lst (zs.map V.str)) := f02 _ _ (by simpa using npd) hp
      have hiz : i < zs.length := by omega
      have hNew : NewN gs zs[i] := ⟨hN.ok _ (List.getElem_mem hiz), getF_of_none fun hm2 => by
        rcases nm _ hm2 with h1 | h1
        · exact hN.off _ (List.getElem_mem hiz) h1
        · obtain ⟨j, hj, ej⟩ := List.getElem_of_mem h1
          rw [List.length_take] at hj
          rw [List.getElem_take] at ej
          exact absurd ((List.getElem_inj hN.nd).mp ej) (by omega)⟩
      have ez : (zs.map V.str)[i]? = some (.str zs[i]) := by
        rw [List.getElem?_map, List.getElem?_eq_getElem hiz]
        rfl
      -- kind
      refine ⟨by show 4 ≤ sizeLine; decide, fun LK nLK => ?_⟩
      have s3 := newS (o := .lst [.str "code", .str "amount", .str "word", .str "text"]) nLK
      have P3 := P2.fr (S := []) (fr_same s3) (by simp) (by simp)
      have nKd : pd ≠ LK := by
        obtain ⟨⟨xa, xb, hd, _⟩, _, _⟩ := id P2
        exact ne_of_none hd nLK
      refine ⟨_, rfl, pd, cl, ns, 4, _, rfl, P3, by omega, by decide, by decide, fun H4 j f4 P4 j0 j1 => ?_⟩
      have f24 : Fr [pd] H2 H4 := (fr_same s3).trans f4
      obtain ⟨s, es, ms⟩ := atI_inS (xs := ["code", "amount", "word", "text"]) j0 j1
      have hs' : s ∈ sorts := (show ∀ z ∈ (["code", "amount", "word", "text"] : List Str), z ∈ sorts by decide +kernel) s ms
      have hK4 : H4 LK = some (.lst ((["code", "amount", "word", "text"] : List Str).map V.str)) := f4 _ _ (by simpa using nKd.symm) upd_same
      refine ⟨LK, _, j, _, rfl, rfl, SqL.of hK4, es, ?_⟩
      have hp4 := f24 _ _ (by simpa using npd) hp2
      refine ⟨_, rfl, _, rfl, p, _, _, _, rfl, rfl, SqL.of hp4, (by rw [Int.zero_add]; exact atI_nat ez), _, rfl, _, rfl, _, rfl, pd, cl, ns, _, s, rfl, P4, by omega, hs', fun H5 D f5 P5 pD oD => ?_⟩
      refine ⟨by show 4 ≤ sizeLine; decide, fun T nT => ?_⟩
      have s6 := newS (o := .tup [.str "put", .str zs[i], .str s, vOf D]) nT
      have P6 := P5.fr (S := []) (fr_same s6) (by simp) (by simp)
      have f26 : Fr [pd] H2 (upd H5 T (.tup [.str "put", .str zs[i], .str s, vOf D])) := (f24.trans f5).trans (fr_same s6)
      have t6 : Th K (upd H5 T (.tup [.str "put", .str zs[i], .str s, vOf D])) (.ref T) (.tuple [.str "put", .str zs[i], .str s, D]) := .tup (SqT.of upd_same) (.cons (.str _) (.cons (.str _) (.cons (.str _) (.cons (th_vOf pD) .nil))))
      generalize upd H5 T (.tup [.str "put", .str zs[i], .str s, vOf D]) = H6 at P6 f26 t6 ⊢
      have wput := ws_put hW.gd hNew hs' pD oD
      refine ⟨fun σ' H' => ∃ y6 T d t, σ' = [some (.ref pd), some (.ref fa), some (.ref p), some (.ref u), some (.ref L), some (.int (0 + (i : Int))), y6, some (.ref T), x8, x9, x10] ∧ Th K H' (.ref T) d ∧ WS gs d (gs ++ [(zs[i], t)]) ∧ Pen H' pd cl ns (n + 1 + 50 * i + 50) ∧ Fr [pd] H2 H', ?_, ?_⟩
      · refine ⟨_, rfl, pd, cl, ns, 2, _, rfl, P6, by omega, by decide, by decide, fun H7 j7 f7 P7 _ _ => ⟨rfl, _, rfl, ite2 (fun e => ?_) (fun e => ?_)⟩⟩
        · have f27 := f26.trans f7
          have hF7 := hF2.frN (odd_of P2) f27
          obtain ⟨ua, ux, eu, tz, hA⟩ := hF7
          cases eu
          have lu : ux.length = gs.length := by rw [hA.len, List.length_map]
          refine ⟨_, rfl, _, rfl, _, rfl, u, _, rfl, .inr tz.sq, pd, cl, ns, (ux.length : Int), _, rfl, P7, by omega, by omega, by omega, fun H8 j8 f8 P8 j80 j81 => ?_⟩
          obtain ⟨x, ex, mx⟩ := atI_in (xs := ux) j80 j81
          have f28 := f27.trans f8
          have hF8 := hF2.frN (odd_of P2) f28
          obtain ⟨ua, ux2, eu, tz8, hA8⟩ := hF8
          cases eu
          obtain ⟨jn, rfl⟩ := Int.eq_ofNat_of_zero_le j80
          have ltx : jn < ux.length := by omega
          have l28 : ux2.length = gs.length := by rw [hA8.len, List.length_map]
          have e7 : ux = ux2 := tz_eq (tz_fr tz (odd_of P7) f8) tz8
          subst e7
          obtain ⟨pr, g, hg, epr, hpr⟩ := field_at hA8 (List.getElem?_eq_getElem ltx)
          have hp8 := f28 _ _ (by simpa using npd) hp2
          refine ⟨u, ux, jn, ux[jn], rfl, rfl, tz8.sq, atI_nat (List.getElem?_eq_getElem ltx), true, pr, _, 0, .str g.1, epr, rfl, hpr, rfl, _, rfl, _, rfl, p, _, _, _, rfl, rfl, SqL.of hp8, (by rw [Int.zero_add]; exact atI_nat ez), by show 3 ≤ sizeLine; decide, fun T2 nT2 => ?_⟩
          have s9 := newS (o := .tup [.str "copy", .str g.1, .str zs[i]]) nT2
          have wcopy := ws_copy hW.gd (getF_mem hW.gd.nd (n := g.1) (s := g.2) (List.mem_of_getElem? hg)) hNew
          exact ⟨_, T2, _, g.2, rfl, .tup (SqT.of upd_same) (.cons (.str _) (.cons (.str _) (.cons (.str _) .nil))), wcopy, (P8.fr (S := []) (fr_same s9) (by simp) (by simp)).mono (by omega), f28.trans (fr_same s9)⟩
        · exact ⟨_, T, _, s, rfl, t6.frN wput.pu (odd_of P6) f7, wput, P7.mono (by omega), f26.trans f7⟩
      · rintro σ' H7 ⟨y6, T2, d, t, rfl, t7, w7, P7, f27⟩
        have hL7 := f27 _ _ (by simpa using nLd.symm) hL2
        have f07 : Fr [pd, L] H H7 := f2.trans (f27.mono (by simp))
        have hF7 := hF2.frN (odd_of P2) f27
        have tA7 := tA.frN hW.pu (odd_of P2) f27
        have fL : Fr [pd, L] H7 (upd H7 L (.lst (acc ++ [V.ref T2]))) := fr_upd (by simp)
        have o7 := odd2 P7 hL7
        have hF8 := hF7.frN o7 fL
        have tA8 := tA7.frN hW.pu o7 fL
        have t8 := t7.frN w7.pu o7 fL
        have P8 : Pen (upd H7 L (.lst (acc ++ [V.ref T2]))) pd cl ns _ := P7.fr (S := [L]) (fr_upd (List.mem_singleton_self _)) (by simpa using nLd) (by simpa using nLc)
        have hL8 : upd H7 L (.lst (acc ++ [V.ref T2])) L = some (.lst (acc ++ [V.ref T2])) := upd_same
        have f08 := f07.trans fL
        have la : acc.length = ds.length := tA.len
        refine ⟨_, rfl, .inl ⟨rfl, _, SqL.of hL7⟩, _, rfl, L, acc, _, rfl, rfl, hL7, by omega, ?_⟩
        generalize upd H7 L (.lst (acc ++ [V.ref T2])) = H8 at hF8 tA8 t8 P8 hL8 f08 ⊢
        have gl : gs.length ≤ 100 := by omega
        refine ⟨_, rfl, _, rfl, .ref u, gs, .ref T2, d, _, rfl, hF8, hW.gd.nd, by have := w7.gr 5; omega, t8, w7.pu.noLst _, w7.bd.mono (Nat.le_refl _) (by decide), w7.st 5, fun H9 u9 s9 hF9 => ?_⟩
        obtain ⟨ua, ux, eu, tz, hA⟩ := id hF9
        subst eu
        refine ⟨ua, _, _, _, _, _, _, acc ++ [V.ref T2], ds ++ [d], gs ++ [(zs[i], t)], rfl, hF9, (P8.fr (S := []) (fr_same s9) (by simp) (by simp)).mono (by omega), f08.trans (fr_same s9), s9 _ _ hL8, (tA8.app (.cons t8 .nil)).kept (kept_same s9), hW.step w7, by rw [List.length_append, ld]; rfl, by rw [List.length_append, lg]; show fs.length + i + 1 = _; omega, fun z hz => ?_⟩
        rw [List.map_append] at hz
        rcases List.mem_append.mp hz with hz | hz
        · rcases nm z hz with h1 | h1
          · exact .inl h1
          · exact .inr (List.mem_of_mem_take_le h1)
        · obtain rfl : z = zs[i] := by simpa using hz
          exact .inr (by
            rw [List.take_succ, List.getElem?_eq_getElem hiz]
            exact List.mem_append_right _ (List.mem_singleton_self _))
    · rintro σ' H2 ⟨u, x5, x6, x7, x8, x9, x10, acc, ds, gs, rfl, hF2, P2, f2, hL2, tA, hW, ld, lg, nm⟩
      have f02 : Fr [pd] H H2 := Fr.drop (p := L) (S := [pd]) (f2.mono (by simp)) nL
      obtain ⟨ua, ux, eu, tz, hA⟩ := id hF2
      cases eu
      have lu : ux.length = gs.length := by rw [hA.len, List.length_map]
      refine ⟨_, rfl, u, rfl, ⟨ux, tz.sq⟩, fun D nD => ?_⟩
      have nDd : pd ≠ D := by
        obtain ⟨⟨xa, xb, hd, _⟩, _, _⟩ := id P2
        exact ne_of_none hd nD
      have nDc : cl ≠ D := by
        obtain ⟨_, hd, _⟩ := id P2
        exact ne_of_none hd nD
      have nDL : L ≠ D := ne_of_none hL2 nD
      refine lc_acc (walk_tup (K := K) (a := u) (xs := ux)) (fun i acc H' => acc = ((gs.take i).map fun g => V.str g.1) ∧ But D H2 H') ⟨rfl, But.refl.upd⟩ (fun i acc H' _ ⟨_, b⟩ _ => Sq.same (t := true) tz.sq (b.new nD)) ?_ ?_
      · rintro i x acc2 H3 H4 hi la ⟨ea, b⟩ hD ⟨rfl, hx⟩
        obtain ⟨pr, g, hg, rfl, hpr⟩ := field_at hA hx
        refine ⟨pr, _, rfl, Sq.same (t := true) hpr (b.new nD), rfl, _, _, rfl, _, _, rfl, rfl, rfl, _, rfl, ?_⟩
        refine push hD la (by omega) ⟨?_, b.upd⟩
        rw [ea, List.take_succ, hg, List.map_append]
        rfl
      · rintro acc2 H3 la ⟨ea, b⟩ hD
        have s3 := b.new nD
        rw [List.take_of_length_le (by omega)] at ea
        have P3 := P2.fr (S := []) (fr_same s3) (by simp) (by simp)
        have hF3 := hF2.same s3
        have tA3 := tA.kept (kept_same s3)
        have hL3 := s3 _ _ hL2
        have f03 := f2.trans (fr_same (S := [pd, L]) s3)
        have e2 : acc2 = (gs.map Prod.fst).map V.str := by rw [ea, List.map_map]; rfl
        clear ea
        subst e2
        have l10 : gs.length ≤ 10 := by omega
        obtain ⟨ua, ux3, eu, tz3, hA3⟩ := id hF3
        cases eu
        have lu3 : ux3.length = gs.length := by rw [hA3.len, List.length_map]
        refine ⟨_, rfl, pd, cl, ns, 5, _, rfl, P3, by omega, by decide, by decide, fun H4 m f4 P4 m0 m1 => ?_⟩
        have f34 : Fr [pd] H3 H4 := f4
        have hF4 := hF3.frN (odd_of P3) f4
        have tA4 := tA3.frN hW.pu (odd_of P3) f4
        have hL4 := f4 _ _ (by simpa using nLd.symm) hL3
        have hD4 := f4 _ _ (by simpa using nDd.symm) hD
        have f04 := f03.trans (f4.mono (by simp) : Fr [pd, L] H3 H4)
        obtain ⟨ua, ux4, eu, tz4, hA4⟩ := id hF4
        cases eu
        have lu4 : ux4.length = gs.length := by rw [hA4.len, List.length_map]
        refine ⟨_, rfl, u, _, rfl, .inr tz4.sq, _, _, rfl, _, rfl, ?_⟩
        obtain ⟨M, hM, M4, Mg⟩ : ∃ M : Nat, (if (ux4.length : Int) < m then (ux4.length : Int) else m) = (M : Int) ∧ M ≤ 4 ∧ M ≤ gs.length := by
          by_cases e : (ux4.length : Int) < m
          · exact ⟨ux4.length, by rw [if_pos e], by omega, by omega⟩
          · exact ⟨m.toNat, by rw [if_neg e]; omega, by omega, by omega⟩
        rw [hM, Int.toNat_natCast]
        refine ⟨by omega, by omega, ?_⟩
        have hHD : H D = none := f2.free (by simp [nDd.symm, nDL.symm]) nD
        refine for_range (lo := 0) (n := M) (fun k σ' H' => ∃ x5 x6 x7 x8 x9 acc ds gs' ws, σ' = [some (.ref pd), some (.ref fa), some (.ref p), some (.ref u), some (.ref L), x5, x6, x7, x8, x9, some (.ref D)] ∧ Pen H' pd cl ns (n + 1 + 50 * (1 + c) + 1 + k) ∧ Fr [pd, L] H H' ∧ H' L = some (.lst acc) ∧ ThAll K H' acc ds ∧ WD fs ds gs' ∧ ds.length = 1 + c + k ∧ H' D = some (.lst (ws.map V.str)) ∧ ws.Nodup ∧ (∀ w ∈ ws, w ∈ gs'.map Prod.fst) ∧ ws.length + k = gs.length ∧ gs'.length ≤ 10)
          ⟨_, _, _, _, _, acc, ds, gs, _, rfl, P4.mono (by omega), f04, hL4, tA4, hW, ld, hD4, hW.gd.nd, fun w hw => hw, by rw [List.length_map]; rfl, l10⟩ ?_ ?_
        · rintro k σ' H5 hk ⟨x5, x6, x7, x8, x9, acc, ds, gs2, ws, rfl, P5, f5, hL5, tA5, hW5, ld5, hD5, nd5, in5, lw5, g10⟩
          have lw : (ws.map V.str).length = ws.length := List.length_map _
          refine ⟨_, rfl, .inl ⟨rfl, _, SqL.of hL5⟩, _, rfl, .inl ⟨rfl, _, SqL.of hD5⟩, _, rfl, _, rfl, D, _, rfl, .inl (SqL.of hD5), pd, cl, ns, ((ws.map V.str).length : Int), _, rfl, P5, by omega, by omega, by omega, fun H6 kz f6 P6 z0 z1 => ?_⟩
          obtain ⟨kz, rfl⟩ := Int.eq_ofNat_of_zero_le z0
          have kzl : kz < ws.length := by omega
          have hD6 := f6 _ _ (by simpa using nDd.symm) hD5
          have hL6 := f6 _ _ (by simpa using nLd.symm) hL5
          have ew : (ws.map V.str)[kz]? = some (.str ws[kz]) := by
            rw [List.getElem?_map, List.getElem?_eq_getElem kzl]
            rfl
          refine ⟨D, _, _, kz, .str ws[kz], rfl, rfl, hD6, by omega, by omega, seqIndex_of (by omega) (by omega), ew, by show 2 ≤ sizeLine; decide, fun T nT => ?_⟩
          rw [erase_map] at nT ⊢
          obtain ⟨s, hgs⟩ : ∃ s, getF gs2 ws[kz] = some s := by
            obtain ⟨g, hg, eg⟩ := List.mem_map.mp (in5 _ (List.getElem_mem kzl))
            exact ⟨g.2, getF_mem hW5.gd.nd (by rw [← eg]; exact hg)⟩
          have wdrop := ws_drop hW5.gd hgs
          have tA6 := tA5.frN hW5.pu (odd_of P5) f6
          have nDL2 : L ≠ D := nDL
          -- the three changes
          have P7 : Pen (upd H6 D (.lst ((ws.eraseIdx kz).map V.str))) pd cl ns _ := P6.fr (S := [D]) (fr_upd (List.mem_singleton_self _)) (by simpa using nDd) (by simpa using nDc)
          have fA : Fr [pd, L, D] H6 (upd H6 D (.lst ((ws.eraseIdx kz).map V.str))) := fr_upd (by simp)
          have tA7 := tA6.frN hW5.pu (odd3 P6 hL6 hD6) fA
          have f7 : Fr [pd, L] H (upd H6 D (.lst ((ws.eraseIdx kz).map V.str))) := fr_upd0 (f5.trans (f6.mono (by simp) : Fr [pd, L] H5 H6)) hHD
          have hD7 : upd H6 D (.lst ((ws.eraseIdx kz).map V.str)) D = some (.lst ((ws.eraseIdx kz).map V.str)) := upd_same
          have hL7 : upd H6 D (.lst ((ws.eraseIdx kz).map V.str)) L = some (.lst acc) := by rw [upd_ne nDL2]; exact hL6
          generalize upd H6 D (.lst ((ws.eraseIdx kz).map V.str)) = H7 at P7 tA7 f7 hD7 hL7 nT ⊢
          have s8 := newS (o := .tup [.str "drop", .str ws[kz]]) nT
          have t8 : Th K (upd H7 T (.tup [.str "drop", .str ws[kz]])) (.ref T) (.tuple [.str "drop", .str ws[kz]]) := .tup (SqT.of upd_same) (.cons (.str _) (.cons (.str _) .nil))
          have tA8 := tA7.kept (kept_same s8)
          have P8 := P7.fr (S := []) (fr_same s8) (by simp) (by simp)
          have hD8 := s8 _ _ hD7
          have hL8 := s8 _ _ hL7
          have f8 := f7.trans (fr_same (S := [pd, L]) s8)
          generalize upd H7 T (.tup [.str "drop", .str ws[kz]]) = H8 at t8 tA8 P8 hD8 hL8 f8 ⊢
          have la : acc.length = ds.length := tA8.len
          refine ⟨L, acc, _, rfl, rfl, hL8, by omega, ?_⟩
          have fL : Fr [pd, L, D] H8 (upd H8 L (.lst (acc ++ [V.ref T]))) := fr_upd (by simp)
          have o8 := odd3 P8 hL8 hD8
          have P9 : Pen (upd H8 L (.lst (acc ++ [V.ref T]))) pd cl ns _ := P8.fr (S := [L]) (fr_upd (List.mem_singleton_self _)) (by simpa using nLd) (by simpa using nLc)
          refine ⟨_, _, _, _, _, acc ++ [V.ref T], ds ++ [.tuple [.str "drop", .str ws[kz]]], _, ws.eraseIdx kz, rfl, P9.mono (by omega), f8.trans (fr_upd (by simp)), upd_same, (tA8.app (.cons t8 .nil)).frN (hW5.step wdrop).pu o8 fL, hW5.step wdrop, by rw [List.length_append, ld5]; show 1 + c + k + 1 = _; omega, by rw [upd_ne nDL2.symm]; exact hD8, nd5.sublist (List.eraseIdx_sublist _ _), fun w hw => ?_, by rw [List.length_eraseIdx, if_pos kzl]; omega, Nat.le_trans (List.length_filter_le _ _) g10⟩
          obtain ⟨m1, ne⟩ := erase_ne nd5 kzl hw
          obtain ⟨g, hg, eg⟩ := List.mem_map.mp (in5 _ m1)
          exact List.mem_map.mpr ⟨g, List.mem_filter.mpr ⟨hg, by rw [eg]; simpa using ne⟩, eg⟩
        · rintro σ' H5 ⟨x5, x6, x7, x8, x9, acc, ds, gs2, ws, rfl, P5, f5, hL5, tA5, hW5, ld5, hD5, nd5, in5, lw5, g10⟩
          have f5b : Fr [pd] H H5 := Fr.drop (p := L) (S := [pd]) (f5.mono (by simp)) nL
          refine ⟨_, rfl, L, acc, rfl, .inl ⟨SqL.of hL5, fun l nl => ?_⟩⟩
          have s9 := newS (o := .tup acc) nl
          exact q _ l ds gs2 (f5b.trans (fr_same s9)) ((P5.fr (S := []) (fr_same s9) (by simp) (by simp)).mono (by omega)) (.tup (SqT.of upd_same) (tA5.kept (kept_same s9))) hW5 (by omega) g10
end
end St6

set_option autoImplicit false
set_option maxHeartbeats 4000000
namespace St6
open PySem PySem.Spec PyProof.Rows L2 Tg Cc Nn TL
/-! the law -/
def spLaw (K : PySem.W.Frag) : Sp := fun vs H Q _ => ∃ (a : Addr) (ns : List Int), vs = [.ref a] ∧ SqL K H a (ns.map V.int) ∧ ns.length ≤ 63 ∧ ∀ H', Q (.bl true) H'
theorem small_of {z : Str} (h : Low z) (h1 : 1 ≤ z.length) (h2 : z.length ≤ 12) : smallB 12 (.str z) = true := by
  show ((decide (1 ≤ z.length) && decide (z.length ≤ 12)) && z.cps.toList.all lowC) = true
  rw [decide_eq_true h1, decide_eq_true h2, List.all_eq_true.mpr h]
  rfl
theorem behind_nice {c : Nat} {fs gs : Fs} {d : PyData} (h : behindB c fs d = .ok gs) (n : Nice fs) : stepsB c fs d = .ok gs ∧ Nice gs := by
  unfold behindB at h
  cases hst : stepsB c fs d with
  | error k =>
    rw [hst] at h
    cases h
  | ok hs =>
    rw [hst] at h
    dsimp only at h
    by_cases e : 1 ≤ hs.length ∧ hs.length ≤ 6
    · rw [if_pos e] at h
      obtain rfl := Except.ok.inj h
      exact ⟨rfl, rec_nice (c + 1) fs d _ (show stepsB c fs d = _ from hst) n⟩
    · rw [if_neg e] at h
      cases h
/-! what is told: a word with a form, or with a number -/
theorem fields_depth : ∀ l : Fs, PyData.depthAll (l.map fieldD) ≤ 1
  | [] => Nat.zero_le _
  | x :: r => by
    have := fields_depth r
    simp [fieldD, PyData.depthAll, PyData.depth]
    omega
theorem Nice.told {fs : Fs} (h : Nice fs) : SeqAt.shaped (.tuple [.str "form", formD fs]) = true ∧ (PyData.tuple [.str "form", formD fs]).eqv (.tuple [.str "form", formD fs]) = true := by
  have h2 := h.shaped
  unfold SeqAt.shaped at h2
  rw [Bool.and_eq_true] at h2
  have e0 : PyData.strOk (Str.ofString "form") = true := by decide +kernel
  have e1 : PyData.canLay0 (formD fs) = true := by simpa [formD, PyData.canLay0] using h2.1
  have e2 := fields_depth fs
  have e3 : PyData.canLay0 (.tuple [.str "form", formD fs]) = true := by simp [PyData.canLay0, PyData.canLayAll0, e0, e1]
  refine ⟨?_, SeqAt.eqv_refl _ e3⟩
  unfold SeqAt.shaped
  rw [e3]
  simp [formD, PyData.depth, PyData.depthAll]
  omega
def badD (n : Nat) : PyData := .tuple [.str "bad", .int (n : Int)]
theorem bad_told (n : Nat) : SeqAt.shaped (badD n) = true ∧ (badD n).eqv (badD n) = true := by
  have e3 : PyData.canLay0 (badD n) = true := by
    have e0 : PyData.strOk (Str.ofString "bad") = true := by decide +kernel
    simp [badD, PyData.canLay0, PyData.canLayAll0, e0]
  refine ⟨?_, SeqAt.eqv_refl _ e3⟩
  unfold SeqAt.shaped
  rw [e3]
  simp [badD, PyData.depth, PyData.depthAll]
theorem bad_dp {K : PySem.W.Frag} {H : Hp} {t : Addr} {n : Nat} (h : H t = some (.tup [.str "bad", .int (n : Int)])) : Dp K H (.ref t) (badD n) := .tup (SqT.of h) (.cons (.str _) (.cons (.int _) .nil))
theorem cutV_both (xs : List V) (a b : Nat) (h : a ≤ b) (hb : b ≤ xs.length) : cutV xs (some (a : Int)) (some (b : Int)) = (xs.drop a).take (b - a) := by
  unfold cutV
  have e1 : HT.sIx xs.length 0 (some (a : Int)) = a := by
    show (if (a : Int) < 0 then ((a : Int) + xs.length).toNat else min (a : Int).toNat xs.length) = _
    rw [if_neg (by omega), Int.toNat_natCast]
    omega
  have e2 : HT.sIx xs.length xs.length (some (b : Int)) = b := by
    show (if (b : Int) < 0 then ((b : Int) + xs.length).toNat else min (b : Int).toNat xs.length) = _
    rw [if_neg (by omega), Int.toNat_natCast]
    omega
  rw [e1, e2]
theorem cutV_drop (xs : List V) (m : Nat) : cutV xs (some (m : Int)) none = xs.drop m := by
  unfold cutV
  have e1 : HT.sIx xs.length 0 (some (m : Int)) = min m xs.length := by
    show (if (m : Int) < 0 then ((m : Int) + xs.length).toNat else min (m : Int).toNat xs.length) = _
    rw [if_neg (by omega), Int.toNat_natCast]
  have e2 : HT.sIx xs.length xs.length none = xs.length := rfl
  rw [e1, e2]
  by_cases h : m ≤ xs.length
  · rw [Nat.min_eq_left h, List.take_of_length_le (by rw [List.length_drop]; omega)]
  · rw [Nat.min_eq_right (by omega), List.drop_eq_nil_of_le (by omega), List.drop_eq_nil_of_le (by omega), List.take_nil]
/-- the steps of the law, as they are, or within a case -/
structure SD (fs : Fs) (ds : List PyData) (gs : Fs) : Prop where
  pu : Pu false (.tuple ds)
  bd : Bd 1000 11 (.tuple ds)
  gr : growB 5 (.tuple ds) ≤ 20
  st : stepsB 5 fs (.tuple ds) = .ok gs
  gd : GoodG gs
  sy : ∀ d ∈ ds, SyM d
  l1 : ds.length ≤ 8
  l2 : gs.length ≤ 10
theorem WD.sd {fs gs : Fs} {ds : List PyData} (h : WD fs ds gs) (l : ds.length ≤ 8) (g : gs.length ≤ 10) : SD fs ds gs :=
  ⟨h.puT, (h.bdT (by omega)).mono (Nat.le_refl _) (by decide), by have := h.grT 5; omega, h.st 5, h.gd, h.sy, l, g⟩
theorem WD.case {fs gs : Fs} {ds : List PyData} {t s : Str} {v : PyData} (h : WD fs ds gs) (l : ds.length ≤ 8) (g : gs.length ≤ 10) (hG : GoodF fs) (ht : getF fs t = some s) (hs : s ∈ testL) (pv : Plain v) (hv : ofSort s v = true) :
    SD fs [.tuple [.str "case", .str t, v, .tuple ds, .tuple ds]] gs := by
  have nt := (hG.good.get ht).1
  have st : stepB (recOf 5) fs (.tuple [.str "case", .str t, v, .tuple ds, .tuple ds]) = some gs := case_of (c := 4) ht hs hv (h.st 4) (h.st 4) (eqF_refl h.gd.nd)
  have gr : ∀ c, growS c (.tuple [.str "case", .str t, v, .tuple ds, .tuple ds]) ≤ 1 + 16 := growS_tup (B := 16) fun c => by
    have := h.grT c
    simp [grow_str, grow_plain pv]
    omega
  refine ⟨.tup (ac (.tup (ac (.str _) (ac (.str _) (ac (plain_pu pv) (ac h.puT (ac h.puT an)))))) an), ?_, ?_, ?_, h.gd, ac (.case h.sy h.sy) an, by show 1 ≤ 8; omega, g⟩
  · exact bd_tup (by show 1 ≤ 1000; omega) (ac (bd_tup (by show 5 ≤ 1000; omega) (ac (bd_word (by decide +kernel)) (ac nt.bd (ac pv.bd' (ac ((h.bdT (by omega)).mono (Nat.le_refl _) (by decide)) (ac ((h.bdT (by omega)).mono (Nat.le_refl _) (by decide)) an)))))) an)
  · have := grow_le (c := 5) (B := 17) (ds := [PyData.tuple [.str "case", .str t, v, .tuple ds, .tuple ds]]) (ac (gr 5) an)
    have e : [PyData.tuple [.str "case", .str t, v, .tuple ds, .tuple ds]].length = 1 := rfl
    omega
  · rw [steps_over]
    exact steps_one st 0
theorem SD.len {fs gs : Fs} {ds : List PyData} (h : SD fs ds gs) : lngB 5 40 (.tuple ds) ≤ 16000000 := by
  rw [len_over]
  show lenGo _ _ ds ≤ _
  rw [lenGo_id ds 40 fun d hd L => len_sym (h.sy d hd) 5 L]
  decide
theorem SD.tm {fs gs : Fs} {ds : List PyData} (h : SD fs ds gs) : tmB 5 (.tuple ds) = true := by
  rw [tm_over]
  exact List.all_eq_true.mpr fun d hd => tm_sym (h.sy d hd) 5
theorem GoodF.nice {fs : Fs} (h : GoodF fs) : Nice fs := fun x hx => ⟨small_of (h.ok x hx).1 (h.ok x hx).2.1 (h.ok x hx).2.2.1, (h.ok x hx).2.2.2⟩
theorem Kept.fr' {d cl : Addr} {ns : List Int} {n : Nat} {H H1 : Hp} (h : Pen H d cl ns n) (f : Fr [d] H H1) : Kept H H1 := fun b o e l => by
  refine f b o (fun z => ?_) e
  obtain ⟨⟨x, y, h1, _⟩, _⟩ := h
  rw [List.mem_singleton.mp z, h1] at e
  have := l _ (Option.some.inj e).symm
  exact absurd this (by show ¬ 3 ≤ 1; decide)
theorem testL_is : (["code", "word"] : List Str) = testL := rfl
section
variable {P : Program} {w : World} {K : PySem.W.Frag} {mg : Str → Option Value} {base : Heap} {C : Addr}
theorem sclaw : FnScope ["script", "pen", "turn", "names", "form", "steps", "field", "due", "told", "values"] ["script"] (defScope sLaw) := ⟨rfl, rfl, rfl, by decide +kernel, rfl, by decide +kernel, by decide +kernel⟩
theorem ok_law {f : Addr} {fd : FuncData} (F : FnP K "law" sLaw f fd) {f__law_pen : Addr} {fd__law_pen : FuncData} (c__law_pen : Cl P w K mg base CX0 "_law_pen" 1 ["script"] (spPen K) f__law_pen fd__law_pen) {f__law_names : Addr} {fd__law_names : FuncData} (c__law_names : Cl P w K mg base CX0 "_law_names" 2 ["pen", "many"] (spNames) f__law_names fd__law_names) {f__law_draw : Addr} {fd__law_draw : FuncData} (c__law_draw : Cl P w K mg base CX0 "_law_draw" 1 ["pen", "many"] (spDraw) f__law_draw fd__law_draw) {f__law_form : Addr} {fd__law_form : FuncData} (c__law_form : Cl P w K mg base CX0 "_law_form" 2 ["pen", "names", "least"] (spDFormZ K) f__law_form fd__law_form) {f__law_wide : Addr} {fd__law_wide : FuncData} (c__law_wide : Cl P w K mg base CX0 "_law_wide" 13 ["pen", "form", "news"] (spWide K) f__law_wide fd__law_wide) {f__law_pick : Addr} {fd__law_pick : FuncData} (c__law_pick : Cl P w K mg base CX0 "_law_pick" 2 ["pen", "fields", "sorts"] (spPick K) f__law_pick fd__law_pick) {f__law_value : Addr} {fd__law_value : FuncData} (c__law_value : Cl P w K mg base CX0 "_law_value" 3 ["pen", "sort"] (spValueD) f__law_value fd__law_value) {f__law_place : Addr} {fd__law_place : FuncData} (c__law_place : Cl P w K mg base CX0 "_law_place" 17 ["form", "steps"] (spLPlace K 5) f__law_place fd__law_place) {f__law_bad : Addr} {fd__law_bad : FuncData} (c__law_bad : Cl P w K mg base CX0 "_law_bad" 25 ["form", "steps"] (spLBad K 5) f__law_bad fd__law_bad) {f__law_values : Addr} {fd__law_values : FuncData} (c__law_values : Cl P w K mg base CX0 "_law_values" 4 ["pen", "form"] (spValuesD K) f__law_values fd__law_values) {f__law_end : Addr} {fd__law_end : FuncData} (c__law_end : Cl P w K mg base CX0 "_law_end" 13 ["fields", "steps"] (spLEnd K 5) f__law_end fd__law_end) {f_done : Addr} {fd_done : FuncData} (c_done : Cl P w K mg base CX0 "done" 25 ["form", "steps", "values"] (spDone K 5) f_done fd_done) {f__law_done : Addr} {fd__law_done : FuncData} (c__law_done : Cl P w K mg base CX0 "_law_done" 14 ["form", "steps", "values"] (spLDone K 5) f__law_done fd__law_done) (mb_range : mg "range" = none) (mb_min : mg "min" = none) (mb_len : mg "len" = none) (mb_dict : mg "dict" = none)   : FnOk P w K mg base CX0 26 f fd ["script"] (spLaw K) := by
  refine F.ok sclaw (fun vs H Q E h => ?_) (fun cdv A outer s H vs Q E hr h => ?_)
  · obtain ⟨a, ns, rfl, _⟩ := h
    rfl
  · obtain ⟨a, ns, rfl, hS, hl, q⟩ := h
    have hu := hu_of hr
    have hs := szl
    refine ⟨_, PSs.nox (pss_cons (ps_set (i := 1) sclaw.nd rfl (Or.inl rfl) (pe_call c__law_pen.ok (hr.mono (by decide)) (by rfl) c__law_pen.m c__law_pen.kp c__law_pen.b .nil pass0 (pa_cons (pv 0) pa_nil)))
      (pss_cons (ps_for PassesOwn.never rfl (pi_range1 (by rfl) mb_range (pa_cons (pe_op op_add (pe_int) (pe_callB (call_min2 rfl) (by rfl) mb_min (by decide +kernel) (pa_cons (pe_int) (pa_cons (pe_callB call_len_seq (by rfl) mb_len (by decide +kernel) (pa_cons (pv 0) pa_nil)) pa_nil)))) pa_nil)) (pg_name (i := 2) sclaw.nd rfl (Or.inl rfl)) (pss_cons (ps_set (i := 3) sclaw.nd rfl (Or.inl rfl) (pe_call c__law_names.ok (hr.mono (by decide)) (by rfl) c__law_names.m c__law_names.kp c__law_names.b .nil pass0 (pa_cons (pv 1) (pa_cons (pe_int) pa_nil))))
      (pss_cons (ps_set (i := 4) sclaw.nd rfl (Or.inl rfl) (pe_call c__law_form.ok (hr.mono (by decide)) (by rfl) c__law_form.m c__law_form.kp c__law_form.b .nil pass0 (pa_cons (pv 1) (pa_cons (pv 3) (pa_cons (pe_int) pa_nil)))))
      (pss_cons (ps_set (i := 5) sclaw.nd rfl (Or.inl rfl) (pe_call c__law_wide.ok (hr.mono (by decide)) (by rfl) c__law_wide.m c__law_wide.kp c__law_wide.b .nil pass0 (pa_cons (pv 1) (pa_cons (pv 4) (pa_cons (pe_slice sl_list (pv 3) (po_some (pe_int)) po_none) pa_nil)))))
      (pss_cons (ps_set (i := 6) sclaw.nd rfl (Or.inl rfl) (pe_call c__law_pick.ok (hr.mono (by decide)) (by rfl) c__law_pick.m c__law_pick.kp c__law_pick.b .nil pass0 (pa_cons (pv 1) (pa_cons (pv 4) (pa_cons (pe_tup (pa_cons (pe_str) (pa_cons (pe_str) pa_nil))) pa_nil)))))
      (C8.pss_cut (ps_if (PW.pt (pw_and (pt_cmpR op_notN (pv 6) (pe_non) (nomark _)) (pw_and1 (pt_cmpR op_eq (pe_call c__law_draw.ok (hr.mono (by decide)) (by rfl) c__law_draw.m c__law_draw.kp c__law_draw.b .nil pass0 (pa_cons (pv 1) (pa_cons (pe_int) pa_nil))) (pe_int) (nomark _))))) (pss_one (ps_set (i := 5) sclaw.nd rfl (Or.inl rfl) (pe_tup (pa_cons (pe_tup (pa_cons (pe_str) (pa_cons (pv 6) (pa_cons (pe_call c__law_value.ok (hr.mono (by decide)) (by rfl) c__law_value.m c__law_value.kp c__law_value.b .nil pass0 (pa_cons (pv 1) (pa_cons (pe_dget hu (pe_callTy (Nn.call_dictT rfl) (by rfl) mb_dict (by decide +kernel) (pa_cons (pv 4) pa_nil)) (pv 6) (fun _ _ => rfl)) pa_nil))) (pa_cons (pv 5) (pa_cons (pv 5) pa_nil)))))) pa_nil)))) (pss_nil))
      (pss_cons (ps_set (i := 7) sclaw.nd rfl (Or.inl rfl) (pe_call c__law_place.ok (hr.mono (by decide)) (by rfl) c__law_place.m c__law_place.kp c__law_place.b .nil pass0 (pa_cons (pv 4) (pa_cons (pv 5) pa_nil))))
      (pss_cons (ps_set (i := 8) sclaw.nd rfl (Or.inl rfl) (pe_call c__law_bad.ok (hr.mono (by decide)) (by rfl) c__law_bad.m c__law_bad.kp c__law_bad.b .nil pass0 (pa_cons (pv 4) (pa_cons (pv 5) pa_nil))))
      (pss_cons (ps_if (PW.pt (pw_and (pt_cmpR op_notN (pv 7) (pe_non) (nomark _)) (pw_and1 (PW.pt (pw_or (pt_cmpR op_ne (pv 7) (pe_callB call_len_seq (by rfl) mb_len (by decide +kernel) (pa_cons (pv 5) pa_nil)) (nomark _)) (pw_or1 (pt_cmpR (op_neD hr.units) (pv 8) (pe_tup (pa_cons (pe_str) (pa_cons (pv 7) pa_nil))) (nomark _)))))))) (pss_one (ps_ret (pe_bl))) (pss_nil))
      (pss_one (ps_if (pt_cmpR op_isN (pv 7) (pe_non) (nomark _)) (pss_cons (ps_set (i := 9) sclaw.nd rfl (Or.inl rfl) (pe_call c__law_values.ok (hr.mono (by decide)) (by rfl) c__law_values.m c__law_values.kp c__law_values.b .nil pass0 (pa_cons (pv 1) (pa_cons (pv 4) pa_nil))))
      (pss_cons (ps_if (pt_cmpR (op_neD hr.units) (pv 8) (pe_tup (pa_cons (pe_str) (pa_cons (pe_call c__law_end.ok (hr.mono (by decide)) (by rfl) c__law_end.m c__law_end.kp c__law_end.b .nil pass0 (pa_cons (pv 4) (pa_cons (pv 5) pa_nil))) pa_nil))) (nomark _)) (pss_one (ps_ret (pe_bl))) (pss_nil))
      (pss_one (ps_if (pt_cmpR (op_neD hr.units) (pe_call c_done.ok (hr.mono (by decide)) (by rfl) c_done.m c_done.kp c_done.b .nil pass0 (pa_cons (pv 4) (pa_cons (pv 5) (pa_cons (pv 9) pa_nil)))) (pe_call c__law_done.ok (hr.mono (by decide)) (by rfl) c__law_done.m c__law_done.kp c__law_done.b .nil pass0 (pa_cons (pv 4) (pa_cons (pv 5) (pa_cons (pv 9) pa_nil)))) (nomark _)) (pss_one (ps_ret (pe_bl))) (pss_nil))))) (pss_nil))))))))))))
      (pss_one (ps_ret (pe_bl))))), ?_⟩
    refine ⟨_, rfl, a, ns, rfl, hS, hl, fun H1 d cl ms s1 nd nc P0 => ?_⟩
    have ln : ((ns.map V.int).length : Int) = (ns.length : Nat) := by rw [List.length_map]
    refine ⟨_, rfl, a, _, rfl, .inl (s1.seq hS), _, _, rfl, _, _, rfl, rfl, ?_⟩
    rw [ln]
    have turns : ∃ t : Nat, t ≤ 10 ∧ (3 + (if (ns.length : Int) < 7 then (ns.length : Int) else 7)) = (t : Int) := by
      by_cases c : (ns.length : Int) < 7
      · exact ⟨3 + ns.length, by omega, by rw [if_pos c]; omega⟩
      · exact ⟨10, by omega, by rw [if_neg c]; rfl⟩
    obtain ⟨t, ht, et⟩ := turns
    refine ⟨3 + (if (ns.length : Int) < 7 then (ns.length : Int) else 7), rfl, by omega, by omega, ?_⟩
    rw [et, Int.toNat_natCast]
    refine for_range (lo := 0) (n := t) (fun i σ' H' => (∃ x2 x3 x4 x5 x6 x7 x8 x9, σ' = [some (.ref a), some (.ref d), x2, x3, x4, x5, x6, x7, x8, x9]) ∧ Pen H' d cl ms (10000 * i)) ⟨⟨_, _, _, _, _, _, _, _, rfl⟩, P0⟩ ?_ ?_
    · rintro i σ' H2 hi ⟨⟨x2, x3, x4, x5, x6, x7, x8, x9, rfl⟩, P2⟩
      refine ⟨_, rfl, d, cl, ms, 20, _, rfl, P2, by omega, by omega, fun H3 p zs f3 P3 hp hN => ?_⟩
      refine ⟨_, rfl, _, rfl, d, cl, p, ms, zs, 20, _, 1, rfl, P3, by omega, hp, hN, by omega, by omega, by omega, fun H4 u4 fs f4 P4 hF gF l4 nm4 => ?_⟩
      have npd : p ≠ d := by
        obtain ⟨⟨xa, xb, hd, _⟩, _, _⟩ := id P3
        exact ne_of hp hd (by intro z; cases z)
      have hp4 : H4 p = some (.lst (zs.map V.str)) := f4 _ _ (by simpa using npd) hp
      refine ⟨_, rfl, _, rfl, _, rfl, _, rfl, p, _, rfl, SqL.of hp4, fun pn npn => ?_⟩
      have s4 := newS (o := .lst (cutV (zs.map V.str) (some (6 : Nat)) none)) npn
      have ec : cutV (zs.map V.str) (some 6) none = (zs.drop 6).map V.str := by
        rw [show (some (6 : Int)) = some ((6 : Nat) : Int) from rfl, cutV_drop, List.map_drop]
      have hl4 := gF.hi
      have lz := hN.len
      have news : News fs (zs.drop 6) := ⟨hN.nd.sublist (List.drop_sublist _ _), fun z hz => hN.ok z (List.mem_of_mem_drop hz), fun z hz hm => by
        rw [nm4] at hm
        obtain ⟨j, hj, ej⟩ := List.getElem_of_mem hz
        obtain ⟨k, hk, ek⟩ := List.getElem_of_mem hm
        rw [List.length_take] at hk
        rw [List.length_drop] at hj
        rw [List.getElem_drop] at ej
        rw [List.getElem_take] at ek
        exact absurd ((List.getElem_inj hN.nd).mp (ej.trans ek.symm)) (by omega)⟩
      have P4b := P4.fr (S := []) (fr_same s4) (by simp) (by simp)
      refine ⟨d, cl, ms, _, u4, fs, pn, zs.drop 6, rfl, P4b, by omega, hF.same s4, gF, by rw [upd_same, ec], news, by rw [List.length_drop]; omega, fun H5 pa ds gs f5 P5 t5 hD ld lg => ?_⟩
      have hF5 := (hF.same s4).frN (odd_of P4b) f5
      -- field
      refine ⟨_, rfl, _, rfl, by show 2 ≤ sizeLine; decide, fun st nst => ?_⟩
      have s6 := newS (o := .tup [V.str "code", V.str "word"]) nst
      have P5b := P5.fr (S := []) (fr_same s6) (by simp) (by simp)
      have hF6 := hF5.same s6
      have t6 := t5.kept (kept_same s6)
      refine ⟨d, cl, ms, _, u4, fs, st, testL, rfl, P5b, by omega, hF6.th, gF.nd, by omega, fun x hx => (gF.ok x hx).1.as, SqT.of upd_same, fun H7 o f7 P7 pk => ?_⟩
      have hF7 := hF6.frN (odd_of P5b) f7
      have t7 := t6.frN hD.puT (odd_of P5b) f7
      clear hF5 hF6 t5 t6
      refine ⟨fun σ' H' => ∃ pb ds2 x9, σ' = [some (.ref a), some (.ref d), some (.int (0 + (i : Int))), some (.ref p), some u4, some (.ref pb), some (optV o), x7, x8, x9] ∧ Pen H' d cl ms (10000 * i + 1000) ∧ Fm K H' u4 fs ∧ Th K H' (.ref pb) (.tuple ds2) ∧ SD fs ds2 gs, ?_, ?_⟩
      · refine ⟨_, rfl, rfl, _, rfl, ite2 (fun e1 => ?_) (fun e1 => ?_)⟩
        · refine ⟨_, rfl, d, cl, ms, 3, _, rfl, P7, by omega, by decide, by decide, fun H8 j f8 P8 j0 j1 => ⟨rfl, _, rfl, ite2 (fun e2 => ?_) (fun e2 => ?_)⟩⟩
          · have hF8 := hF7.frN (odd_of P7) f8
            have t8 := t7.frN hD.puT (odd_of P7) f8
            cases o with
            | none => cases e1
            | some z =>
              obtain ⟨s, hs1, hs2⟩ := pk
              obtain ⟨fa, fx, ef, fz, hA8⟩ := id hF8
              subst ef
              obtain ⟨prs, epr, hpr⟩ := refs_of hA8
              subst epr
              have hst : s ∈ sorts := test_sorts hs2
              refine ⟨_, rfl, _, rfl, _, rfl, fa, prs, kvsOf fs, rfl, fz, hpr, fun dd ndd => ?_⟩
              have em : mergeK [] (kvsOf fs) = kvsOf fs := merge_of fs [] gF.nd
              rw [em]
              have s9 := newS (o := .dK (kvsOf fs)) ndd
              have P9 := P8.fr (S := []) (fr_same s9) (by simp) (by simp)
              have hdd : Fd (upd H8 dd (.dK (kvsOf fs))) dd fs := ⟨upd_same, gF.nd, by omega⟩
              have hF9 := hF8.same s9
              have t9 := t8.kept (kept_same s9)
              have gd := hdd.get z
              rw [hs1] at gd
              refine ⟨_, rfl, dd, .str s, rfl, gd, d, cl, ms, _, s, rfl, P9, by omega, hst, fun HA D fA PA pD oD => ?_⟩
              have hFA := hF9.frN (odd_of P9) fA
              have tA := t9.frN hD.puT (odd_of P9) fA
              refine ⟨_, rfl, _, rfl, by show 5 ≤ sizeLine; decide, fun T1 nT1 => ⟨by show 1 ≤ sizeLine; decide, fun T2 nT2 => ?_⟩⟩
              have sB := newS (o := .tup [.str "case", .str z, vOf D, .ref pa, .ref pa]) nT1
              have sC := newS (o := .tup [.ref T1]) nT2
              have tB := tA.kept (kept_same (sB.trans sC))
              exact ⟨T2, _, _, rfl, (PA.fr (S := []) (fr_same (sB.trans sC)) (by simp) (by simp)).mono (by omega), hFA.same (sB.trans sC), .tup (SqT.of upd_same) (.cons (.tup (SqT.of (sC _ _ upd_same)) (.cons (.str _) (.cons (.str _) (.cons (th_vOf pD) (.cons tB (.cons tB .nil)))))) .nil), hD.case ld lg gF hs1 hs2 pD oD⟩
          · exact ⟨pa, ds, _, rfl, P8.mono (by omega), hF7.frN (odd_of P7) f8, t7.frN hD.puT (odd_of P7) f8, hD.sd ld lg⟩
        · exact ⟨pa, ds, _, rfl, P7.mono (by omega), hF7, t7, hD.sd ld lg⟩
      · rintro σ' H8 ⟨pb, ds2, x9, rfl, P8, hF8, t8, hS⟩
        have ghi := hS.l2
        have gr := hS.gr
        obtain ⟨_, xb, eb, hxb, hAb⟩ := id t8.asTup
        cases eb
        have lxb : xb.length = ds2.length := hAb.len
        refine ⟨_, rfl, _, rfl, u4, fs, .ref pb, _, rfl, hF8, gF.nd, gF.nice, t8, hS.bd, by decide, by omega, fun H9 s9 => ?_⟩
        refine ⟨_, rfl, _, rfl, u4, fs, .ref pb, _, rfl, (hF8.same s9).th, gF.nd, t8.kept (kept_same s9), hS.bd, by decide, by omega, ?_⟩
        cases hb : behindB 5 fs (.tuple ds2) with
        | error n =>
          have en : n = ds2.length := by
            unfold behindB at hb
            rw [hS.st] at hb
            dsimp only at hb
            by_cases e : 1 ≤ gs.length ∧ gs.length ≤ 6
            · rw [if_pos e] at hb
              cases hb
            · rw [if_neg e] at hb
              exact (Except.error.inj hb).symm
          intro HA tt sA htt
          have sC := s9.trans sA
          refine ⟨_, rfl, rfl, _, rfl, iteT ?_⟩
          refine ⟨_, rfl, _, rfl, pb, xb, rfl, .inr (Sq.same (t := true) hxb sC), rfl, _, rfl, ite2 (fun e => ?_) (fun e => ?_)⟩
          · rw [en, lxb] at e
            simp [placeV] at e
          refine ⟨_, rfl, _, rfl, by show 2 ≤ sizeLine; decide, fun T nT => ?_⟩
          have sT := newS (o := .tup [.str "bad", placeV (.error n)]) nT
          refine ⟨badD n, badD n, bad_dp (sT _ _ htt), bad_dp upd_same, (bad_told n).1, (bad_told n).1, _, rfl, ?_⟩
          rw [(bad_told n).2]
          refine iteF ⟨_, rfl, rfl, _, rfl, iteF ?_⟩
          exact ⟨⟨_, _, _, _, _, _, _, _, rfl⟩, (P8.fr (S := []) (fr_same (sC.trans sT)) (by simp) (by simp)).mono (by omega)⟩
        | ok gs2 =>
          obtain ⟨hst, niG⟩ := behind_nice hb gF.nice
          have eg : gs2 = gs := by
            rw [hS.st] at hst
            exact (Except.ok.inj hst).symm
          subst eg
          have g16 : 1 ≤ gs2.length ∧ gs2.length ≤ 6 := by
            unfold behindB at hb
            rw [hS.st] at hb
            dsimp only at hb
            by_cases e : 1 ≤ gs2.length ∧ gs2.length ≤ 6
            · exact e
            · rw [if_neg e] at hb
              cases hb
          intro HA tt qf sA fz htt
          have sC := s9.trans sA
          refine ⟨_, rfl, rfl, _, rfl, iteF ?_⟩
          refine ⟨_, rfl, rfl, _, rfl, iteT ?_⟩
          have PA := P8.fr (S := []) (fr_same sC) (by simp) (by simp)
          have hFA := hF8.same sC
          have tA := t8.kept (kept_same sC)
          refine ⟨_, rfl, _, rfl, d, cl, ms, _, u4, fs, rfl, PA, by omega, hFA.th, gF, fun HB qv Ds fB PB hvB plB fitB => ?_⟩
          have hFB := hFA.frN (odd_of PA) fB
          have tB := tA.frN hS.pu (odd_of PA) fB
          have kB := Kept.fr' PA fB
          have httB := kB.tupH htt
          obtain ⟨lnD, mok⟩ := vals_fits fitB gF.fok.so
          have tvB : Th K HB (.ref qv) (.tuple Ds) := .tup (SqT.of hvB) (th_vals plB)
          have pv : ∀ D ∈ Ds, ∃ L s, VOk L s D := fun D hD => plain_vok (plB D hD)
          have dok := do_ok 5 hS.st gF.fok mok (Nat.le_refl _)
          have resV : ∀ D ∈ gs2.map (fun g => valM (doB 5 (mOf fs Ds) (.tuple ds2)) (.str g.1)), ∃ L s, VOk L s D := fun D hD => by
            obtain ⟨g, hg, rfl⟩ := List.mem_map.mp hD
            obtain ⟨vv, hvv, hk⟩ := dok.2 g.1 g.2 (getF_mem dok.1.nd hg)
            rw [valM_of hvv]
            exact ⟨_, _, hk⟩
          -- the form behind
          refine ⟨_, rfl, _, rfl, _, rfl, u4, fs, .ref pb, .tuple ds2, gs2, rfl, hFB, gF.nd, by omega, tB, hS.pu.noLst _, hS.bd, hS.st, fun HC x sBC hx => ?_⟩
          obtain ⟨xa, xx, rfl, xz, xA⟩ := id hx
          refine ⟨by show 2 ≤ sizeLine; decide, fun T nT => ?_⟩
          have sT := newS (o := .tup [.str "form", .ref xa]) nT
          obtain ⟨fa2, fz1, fz2⟩ := fz
          have fzB : Fm K HB (.ref qf) gs2 := Fm.frN ⟨qf, fa2, rfl, fz1, fz2⟩ (odd_of PA) fB
          obtain ⟨_, fxB, eB, fzB1, fzB2⟩ := fzB
          cases eB
          have sCT := sBC.trans sT
          refine ⟨.tuple [.str "form", formD gs2], .tuple [.str "form", formD gs2], .tup (SqT.of (sCT _ _ httB)) (.cons (.str _) (.cons (.tup (fzB1.same sCT).sq (dpAll_fields (fzB2.kept (kept_same sCT)))) .nil)), .tup (SqT.of upd_same) (.cons (.str _) (.cons (.tup (xz.same sT).sq (dpAll_fields (xA.kept (kept_same sT)))) .nil)), niG.told.1, niG.told.1, _, rfl, ?_⟩
          rw [niG.told.2]
          refine iteF ?_
          have hFD := hFB.same sCT
          have tD := tB.kept (kept_same sCT)
          have tvD := tvB.kept (kept_same sCT)
          have PD := PB.fr (S := []) (fr_same sCT) (by simp) (by simp)
          refine ⟨_, rfl, _, rfl, _, rfl, u4, fs, .ref pb, .tuple ds2, .ref qv, Ds, gs2, 40, rfl, hFD.th, gF.fok, tD, .inl hS.pu, tvD, lnD, pv, mok, hS.bd, by decide, by omega, hS.st, g16.1, g16.2, Nat.le_refl _, hS.len, hS.tm, fun HE qe sE te => ?_⟩
          refine ⟨_, rfl, _, rfl, _, rfl, u4, fs, .ref pb, .tuple ds2, .ref qv, Ds, gs2, 40, rfl, hFD.same sE, gF.fok, tD.kept (kept_same sE), hS.pu, tvD.kept (kept_same sE), lnD, pv, mok, hS.bd, by omega, hS.st, by omega, Nat.le_refl _, hS.len, hS.tm, fun HG qg sG tg => ?_⟩
          have puR := pu_vals (l := false) resV
          refine ⟨_, _, (te.kept (kept_same sG)).dp puR, tg.dp puR, shaped_vals resV, shaped_vals resV, _, rfl, ?_⟩
          rw [eqv_vals resV]
          refine iteF ?_
          exact ⟨⟨_, _, _, _, _, _, _, _, rfl⟩, (PD.fr (S := []) (fr_same (sE.trans sG)) (by simp) (by simp)).mono (by omega)⟩
    · rintro σ' H2 ⟨⟨x2, x3, x4, x5, x6, x7, x8, x9, rfl⟩, P2⟩
      exact q H2
end
end St6

set_option maxHeartbeats 0
namespace St6
open PySem PySem.Spec PyProof.Rows L2 Cc Kx
theorem facts {P : Program} {w : World} {K : PySem.W.Frag} {h : Heap} {mg : Str → Option Value} {f : Addr} (X : K.In h) (G : h.Ns mainGlobals mg) (hfa : mg ("law" : Str) = some (.ref f)) (cx : He.SaysX fa fn ts [] ex w h K) :
    ∃ fd : FuncData, (∀ (s : Shared) (v : Value), BindsTo s fd ⟨[v], []⟩ [("script", v)]) ∧ ∀ base : Heap, K.In base → base.Ns mainGlobals mg → FnOk P w K mg base CX0 26 f fd ["script"] (spLaw K) := by
  have c := cx.t.d
  obtain ⟨fd0, F0⟩ := c.def_ 0 (d := mkD "is_sign" 4) rfl
  obtain ⟨fd1, F1⟩ := c.def_ 1 (d := mkD "is_text" 5) rfl
  obtain ⟨fd2, F2⟩ := c.def_ 2 (d := mkD "is_whole" 14) rfl
  obtain ⟨fd3, F3⟩ := c.def_ 3 (d := mkD "_is_small" 16) rfl
  obtain ⟨fd4, F4⟩ := c.def_ 4 (d := mkD "is_name" 15) rfl
  obtain ⟨fd5, F5⟩ := c.def_ 5 (d := mkD "is_sort" 12) rfl
  obtain ⟨fd6, F6⟩ := c.def_ 6 (d := mkD "is_of_sort" 13) rfl
  obtain ⟨fd7, F7⟩ := c.def_ 7 (d := mkD "_sort_of" 29) rfl
  obtain ⟨fd8, F8⟩ := c.def_ 8 (d := mkD "_is_new" 30) rfl
  obtain ⟨fd9, F9⟩ := c.def_ 9 (d := mkD "_is_saying" 39) rfl
  obtain ⟨fd10, F10⟩ := c.def_ 10 (d := mkD "_is_part" 38) rfl
  obtain ⟨fd11, F11⟩ := c.def_ 11 (d := mkD "_is_row" 42) rfl
  obtain ⟨fd12, F12⟩ := c.def_ 12 (d := mkD "_is_other" 43) rfl
  obtain ⟨fd13, F13⟩ := c.def_ 13 (d := mkD "_are_rows" 41) rfl
  obtain ⟨fd14, F14⟩ := c.def_ 14 (d := mkD "_behind_rename" 31) rfl
  obtain ⟨fd15, F15⟩ := c.def_ 15 (d := mkD "_behind_copy" 32) rfl
  obtain ⟨fd16, F16⟩ := c.def_ 16 (d := mkD "_behind_drop" 33) rfl
  obtain ⟨fd17, F17⟩ := c.def_ 17 (d := mkD "_behind_put" 34) rfl
  obtain ⟨fd18, F18⟩ := c.def_ 18 (d := mkD "_behind_scale" 35) rfl
  obtain ⟨fd19, F19⟩ := c.def_ 19 (d := mkD "_behind_sum" 36) rfl
  obtain ⟨fd20, F20⟩ := c.def_ 20 (d := mkD "_behind_join" 37) rfl
  obtain ⟨fd21, F21⟩ := c.def_ 21 (d := mkD "_behind_table" 40) rfl
  obtain ⟨fd22, F22⟩ := c.def_ 22 (d := mkD "_behind_case" 44) rfl
  obtain ⟨fd23, F23⟩ := c.def_ 23 (d := mkD "_sorts_behind_step" 28) rfl
  obtain ⟨fd24, F24⟩ := c.def_ 24 (d := mkD "_sorts_behind" 27) rfl
  obtain ⟨fd25, F25⟩ := c.def_ 25 (d := mkD "form_behind" 26) rfl
  obtain ⟨fd26, F26⟩ := c.def_ 26 (d := mkD "_do_rename" 49) rfl
  obtain ⟨fd27, F27⟩ := c.def_ 27 (d := mkD "_do_copy" 50) rfl
  obtain ⟨fd28, F28⟩ := c.def_ 28 (d := mkD "_do_drop" 51) rfl
  obtain ⟨fd29, F29⟩ := c.def_ 29 (d := mkD "_do_put" 52) rfl
  obtain ⟨fd30, F30⟩ := c.def_ 30 (d := mkD "_do_scale" 53) rfl
  obtain ⟨fd31, F31⟩ := c.def_ 31 (d := mkD "_do_sum" 54) rfl
  obtain ⟨fd32, F32⟩ := c.def_ 32 (d := mkD "_do_join" 55) rfl
  obtain ⟨fd33, F33⟩ := c.def_ 33 (d := mkD "_do_table" 56) rfl
  obtain ⟨fd34, F34⟩ := c.def_ 34 (d := mkD "_do_case" 57) rfl
  obtain ⟨fd35, F35⟩ := c.def_ 35 (d := mkD "_do_steps" 48) rfl
  obtain ⟨fd36, F36⟩ := c.def_ 36 (d := mkD "done" 47) rfl
  obtain ⟨fd37, F37⟩ := c.def_ 37 (d := mkD "_law_pen" 60) rfl
  obtain ⟨fd38, F38⟩ := c.def_ 38 (d := mkD "_law_draw" 61) rfl
  obtain ⟨fd39, F39⟩ := c.def_ 39 (d := mkD "_law_names" 62) rfl
  obtain ⟨fd40, F40⟩ := c.def_ 40 (d := mkD "_law_form" 68) rfl
  obtain ⟨fd41, F41⟩ := c.def_ 41 (d := mkD "_law_word" 63) rfl
  obtain ⟨fd42, F42⟩ := c.def_ 42 (d := mkD "_law_text" 64) rfl
  obtain ⟨fd43, F43⟩ := c.def_ 43 (d := mkD "_law_number" 65) rfl
  obtain ⟨fd44, F44⟩ := c.def_ 44 (d := mkD "_law_value" 66) rfl
  obtain ⟨fd45, F45⟩ := c.def_ 45 (d := mkD "_law_values" 67) rfl
  obtain ⟨fd46, F46⟩ := c.def_ 46 (d := mkD "_law_pick" 69) rfl
  obtain ⟨fd47, F47⟩ := c.def_ 47 (d := mkD "_law_behind" 70) rfl
  obtain ⟨fd48, F48⟩ := c.def_ 48 (d := mkD "_law_end" 71) rfl
  obtain ⟨fd49, F49⟩ := c.def_ 49 (d := mkD "_law_do" 72) rfl
  obtain ⟨fd50, F50⟩ := c.def_ 50 (d := mkD "_law_done" 73) rfl
  obtain ⟨fd51, F51⟩ := c.def_ 51 (d := mkD "_law_whole" 74) rfl
  obtain ⟨fd52, F52⟩ := c.def_ 52 (d := mkD "_law_is_word" 75) rfl
  obtain ⟨fd53, F53⟩ := c.def_ 53 (d := mkD "_law_of_sort" 76) rfl
  obtain ⟨fd54, F54⟩ := c.def_ 54 (d := mkD "_law_sort" 77) rfl
  obtain ⟨fd55, F55⟩ := c.def_ 55 (d := mkD "_law_is_new" 78) rfl
  obtain ⟨fd56, F56⟩ := c.def_ 56 (d := mkD "_law_is_part" 79) rfl
  obtain ⟨fd57, F57⟩ := c.def_ 57 (d := mkD "_law_is_rows" 80) rfl
  obtain ⟨fd58, F58⟩ := c.def_ 58 (d := mkD "_law_is_sort" 81) rfl
  obtain ⟨fd59, F59⟩ := c.def_ 59 (d := mkD "_law_is_list" 82) rfl
  obtain ⟨fd60, F60⟩ := c.def_ 60 (d := mkD "_law_suits" 83) rfl
  obtain ⟨fd61, F61⟩ := c.def_ 61 (d := mkD "_law_fit" 84) rfl
  obtain ⟨fd62, F62⟩ := c.def_ 62 (d := mkD "_law_all_fit" 85) rfl
  obtain ⟨fd63, F63⟩ := c.def_ 63 (d := mkD "_law_place" 86) rfl
  obtain ⟨fd64, F64⟩ := c.def_ 64 (d := mkD "_law_bad" 87) rfl
  obtain ⟨fd65, F65⟩ := c.def_ 65 (d := mkD "_law_wide" 88) rfl
  obtain ⟨fd66, F66⟩ := c.def_ 66 (d := mkD "law" 89) rfl
  have mb_ValueError := He.free_ok X G (c.fact 80 (f := .free "ValueError") rfl)
  have mb_abs := He.free_ok X G (c.fact 81 (f := .free "abs") rfl)
  have mb_all := He.free_ok X G (c.fact 82 (f := .free "all") rfl)
  have mb_bool := He.free_ok X G (c.fact 83 (f := .free "bool") rfl)
  have mb_dict := He.free_ok X G (c.fact 84 (f := .free "dict") rfl)
  have mb_enumerate := He.free_ok X G (c.fact 85 (f := .free "enumerate") rfl)
  have mb_int := He.free_ok X G (c.fact 86 (f := .free "int") rfl)
  have mb_isinstance := He.free_ok X G (c.fact 87 (f := .free "isinstance") rfl)
  have mb_len := He.free_ok X G (c.fact 88 (f := .free "len") rfl)
  have mb_list := He.free_ok X G (c.fact 89 (f := .free "list") rfl)
  have mb_min := He.free_ok X G (c.fact 90 (f := .free "min") rfl)
  have mb_ord := He.free_ok X G (c.fact 91 (f := .free "ord") rfl)
  have mb_range := He.free_ok X G (c.fact 92 (f := .free "range") rfl)
  have mb_set := He.free_ok X G (c.fact 93 (f := .free "set") rfl)
  have mb_sorted := He.free_ok X G (c.fact 94 (f := .free "sorted") rfl)
  have mb_str := He.free_ok X G (c.fact 95 (f := .free "str") rfl)
  have mb_sum := He.free_ok X G (c.fact 96 (f := .free "sum") rfl)
  have mb_tuple := He.free_ok X G (c.fact 97 (f := .free "tuple") rfl)
  have mb_zip := He.free_ok X G (c.fact 98 (f := .free "zip") rfl)
  obtain ⟨t_PERCENT, e_PERCENT⟩ := He.int_ok X G (c.fact 67 (f := .int "PERCENT" 37) rfl)
  obtain ⟨t_MOST_FIELDS, e_MOST_FIELDS⟩ := He.int_ok X G (c.fact 68 (f := .int "MOST_FIELDS" 6) rfl)
  obtain ⟨t_LONGEST_NAME, e_LONGEST_NAME⟩ := He.int_ok X G (c.fact 69 (f := .int "LONGEST_NAME" 12) rfl)
  obtain ⟨t_LONGEST_WORD, e_LONGEST_WORD⟩ := He.int_ok X G (c.fact 70 (f := .int "LONGEST_WORD" 8) rfl)
  obtain ⟨t_LONGEST_TEXT, e_LONGEST_TEXT⟩ := He.int_ok X G (c.fact 71 (f := .int "LONGEST_TEXT" 40) rfl)
  obtain ⟨t_MOST_SUMMED, e_MOST_SUMMED⟩ := He.int_ok X G (c.fact 72 (f := .int "MOST_SUMMED" 6) rfl)
  obtain ⟨t_MOST_PARTS, e_MOST_PARTS⟩ := He.int_ok X G (c.fact 73 (f := .int "MOST_PARTS" 8) rfl)
  obtain ⟨t_MOST_ROWS, e_MOST_ROWS⟩ := He.int_ok X G (c.fact 74 (f := .int "MOST_ROWS" 4) rfl)
  obtain ⟨t_LONGEST_SAYING, e_LONGEST_SAYING⟩ := He.int_ok X G (c.fact 75 (f := .int "LONGEST_SAYING" 12) rfl)
  have g_SORTS := He.glo_ok X G (c.fact 76 (f := .glo "SORTS") rfl)
  have g_NUMBERS := He.glo_ok X G (c.fact 77 (f := .glo "NUMBERS") rfl)
  have g_TESTED := He.glo_ok X G (c.fact 78 (f := .glo "TESTED") rfl)
  have g_JOINED := He.glo_ok X G (c.fact 79 (f := .glo "JOINED") rfl)
  obtain ⟨z_SORTS, y1⟩ := He.ba cx.more
  have q_SORTS := He.tupB_ok z_SORTS
  obtain ⟨z_NUMBERS, y1⟩ := He.ba y1
  have q_NUMBERS := He.tupB_ok z_NUMBERS
  obtain ⟨z_TESTED, y1⟩ := He.ba y1
  have q_TESTED := He.tupB_ok z_TESTED
  obtain ⟨z_JOINED, y1⟩ := He.ba y1
  have q_JOINED := He.tupB_ok z_JOINED
  obtain ⟨vE, y1⟩ := He.ba y1
  obtain ⟨kE, y1⟩ := He.ba y1
  obtain ⟨vL, y1⟩ := He.ba y1
  obtain ⟨vD, y1⟩ := He.ba y1
  obtain ⟨kL, y1⟩ := He.ba y1
  obtain ⟨kD, y1⟩ := He.ba y1
  obtain ⟨yo, y1⟩ := He.ba y1
  obtain ⟨ys, y1⟩ := He.ba y1
  obtain ⟨yb, y1⟩ := He.ba y1
  obtain ⟨yt, y1⟩ := He.ba y1
  obtain ⟨yk, ym⟩ := He.ba y1
  obtain ⟨ym, y1⟩ := He.ba ym
  obtain ⟨yx, y1⟩ := He.ba y1
  obtain ⟨yc, y1⟩ := He.ba y1
  obtain ⟨yv, ym2⟩ := He.ba y1
  have XC : XfC K (He.ga K "BadStep") := xfB_ok yx
  obtain ⟨EC, clE⟩ := excB_ok XC yc
  have TX : BadX K (He.ga K "BadStep") := ⟨XC, EC, clE, of_decide_eq_true yv, of_decide_eq_true ym2⟩
  obtain ⟨esL, nL, kdL⟩ := cx.t.tab 0 (t := (fun K => He.ga K "LENGTHS", keys9)) rfl
  obtain ⟨esD, nD, kdD⟩ := cx.t.tab 1 (t := (fun K => He.ga K "LEADS", keys9)) rfl
  have hL_ : Nn.KTab K w (He.ga K "LENGTHS") lens := Nn.ktab_of kdL kL (vals_kv vL)
  have hD_ : Nn.KTab K w (He.ga K "LEADS") (leadsV (He.ga K "_behind_rename") (He.ga K "_behind_copy") (He.ga K "_behind_drop") (He.ga K "_behind_put") (He.ga K "_behind_scale") (He.ga K "_behind_sum") (He.ga K "_behind_join") (He.ga K "_behind_table") (He.ga K "_behind_case")) := Nn.ktab_of kdD kD (vals_kv vD)
  have g_LENGTHS := He.glo_ok X G (c.fact 103 (f := .glo "LENGTHS") rfl)
  have g_LEADS := He.glo_ok X G (c.fact 104 (f := .glo "LEADS") rfl)
  obtain ⟨t_SAY, e_SAYING_SIGNS⟩ := He.str_ok X G (c.fact 102 (f := .str "SAYING_SIGNS" "abcdefghijklmnopqrstuvwxyz0123456789 -") rfl)
  obtain ⟨fdI, FI⟩ := c.def_ 67 (d := dBad) rfl
  have mI := He.meth_ok (c.fact 101 (f := .meth "BadStep" "__init__") rfl)
  have T : BadS K mg (He.ga K "BadStep") (He.ma K (He.ga K "BadStep") "__init__") fdI := ⟨⟨oexB_ok yo, of_decide_eq_true ys, of_decide_eq_true yb, of_decide_eq_true yt, yk⟩, He.glo_ok X G (c.fact 99 (f := .glo "BadStep") rfl), of_decide_eq_true ym, He.noat_ok (c.fact 100 (f := .noat "BadStep" "at") rfl), mI.at_, beq_iff_eq.mp mI.fn, FI⟩
  obtain ⟨esE, nE, kdE⟩ := cx.t.tab 2 (t := (fun K => He.ga K "DEEDS", keys9)) rfl
  have hE_ : Nn.KTab K w (He.ga K "DEEDS") (leadsV (He.ga K "_do_rename") (He.ga K "_do_copy") (He.ga K "_do_drop") (He.ga K "_do_put") (He.ga K "_do_scale") (He.ga K "_do_sum") (He.ga K "_do_join") (He.ga K "_do_table") (He.ga K "_do_case")) := Nn.ktab_of kdE kE (vals_kv vE)
  have g_DEEDS := He.glo_ok X G (c.fact 105 (f := .glo "DEEDS") rfl)
  have m0 := He.glo_ok X G (c.fact 0 (f := .glo "is_sign") rfl)
  have m1 := He.glo_ok X G (c.fact 1 (f := .glo "is_text") rfl)
  have m2 := He.glo_ok X G (c.fact 2 (f := .glo "is_whole") rfl)
  have m3 := He.glo_ok X G (c.fact 3 (f := .glo "_is_small") rfl)
  have m4 := He.glo_ok X G (c.fact 4 (f := .glo "is_name") rfl)
  have m5 := He.glo_ok X G (c.fact 5 (f := .glo "is_sort") rfl)
  have m6 := He.glo_ok X G (c.fact 6 (f := .glo "is_of_sort") rfl)
  have m7 := He.glo_ok X G (c.fact 7 (f := .glo "_sort_of") rfl)
  have m8 := He.glo_ok X G (c.fact 8 (f := .glo "_is_new") rfl)
  have m9 := He.glo_ok X G (c.fact 9 (f := .glo "_is_saying") rfl)
  have m10 := He.glo_ok X G (c.fact 10 (f := .glo "_is_part") rfl)
  have m11 := He.glo_ok X G (c.fact 11 (f := .glo "_is_row") rfl)
  have m12 := He.glo_ok X G (c.fact 12 (f := .glo "_is_other") rfl)
  have m13 := He.glo_ok X G (c.fact 13 (f := .glo "_are_rows") rfl)
  have m14 := He.glo_ok X G (c.fact 14 (f := .glo "_behind_rename") rfl)
  have m15 := He.glo_ok X G (c.fact 15 (f := .glo "_behind_copy") rfl)
  have m16 := He.glo_ok X G (c.fact 16 (f := .glo "_behind_drop") rfl)
  have m17 := He.glo_ok X G (c.fact 17 (f := .glo "_behind_put") rfl)
  have m18 := He.glo_ok X G (c.fact 18 (f := .glo "_behind_scale") rfl)
  have m19 := He.glo_ok X G (c.fact 19 (f := .glo "_behind_sum") rfl)
  have m20 := He.glo_ok X G (c.fact 20 (f := .glo "_behind_join") rfl)
  have m21 := He.glo_ok X G (c.fact 21 (f := .glo "_behind_table") rfl)
  have m22 := He.glo_ok X G (c.fact 22 (f := .glo "_behind_case") rfl)
  have m23 := He.glo_ok X G (c.fact 23 (f := .glo "_sorts_behind_step") rfl)
  have m24 := He.glo_ok X G (c.fact 24 (f := .glo "_sorts_behind") rfl)
  have m25 := He.glo_ok X G (c.fact 25 (f := .glo "form_behind") rfl)
  have m26 := He.glo_ok X G (c.fact 26 (f := .glo "_do_rename") rfl)
  have m27 := He.glo_ok X G (c.fact 27 (f := .glo "_do_copy") rfl)
  have m28 := He.glo_ok X G (c.fact 28 (f := .glo "_do_drop") rfl)
  have m29 := He.glo_ok X G (c.fact 29 (f := .glo "_do_put") rfl)
  have m30 := He.glo_ok X G (c.fact 30 (f := .glo "_do_scale") rfl)
  have m31 := He.glo_ok X G (c.fact 31 (f := .glo "_do_sum") rfl)
  have m32 := He.glo_ok X G (c.fact 32 (f := .glo "_do_join") rfl)
  have m33 := He.glo_ok X G (c.fact 33 (f := .glo "_do_table") rfl)
  have m34 := He.glo_ok X G (c.fact 34 (f := .glo "_do_case") rfl)
  have m35 := He.glo_ok X G (c.fact 35 (f := .glo "_do_steps") rfl)
  have m36 := He.glo_ok X G (c.fact 36 (f := .glo "done") rfl)
  have m37 := He.glo_ok X G (c.fact 37 (f := .glo "_law_pen") rfl)
  have m38 := He.glo_ok X G (c.fact 38 (f := .glo "_law_draw") rfl)
  have m39 := He.glo_ok X G (c.fact 39 (f := .glo "_law_names") rfl)
  have m40 := He.glo_ok X G (c.fact 40 (f := .glo "_law_form") rfl)
  have m41 := He.glo_ok X G (c.fact 41 (f := .glo "_law_word") rfl)
  have m42 := He.glo_ok X G (c.fact 42 (f := .glo "_law_text") rfl)
  have m43 := He.glo_ok X G (c.fact 43 (f := .glo "_law_number") rfl)
  have m44 := He.glo_ok X G (c.fact 44 (f := .glo "_law_value") rfl)
  have m45 := He.glo_ok X G (c.fact 45 (f := .glo "_law_values") rfl)
  have m46 := He.glo_ok X G (c.fact 46 (f := .glo "_law_pick") rfl)
  have m47 := He.glo_ok X G (c.fact 47 (f := .glo "_law_behind") rfl)
  have m48 := He.glo_ok X G (c.fact 48 (f := .glo "_law_end") rfl)
  have m49 := He.glo_ok X G (c.fact 49 (f := .glo "_law_do") rfl)
  have m50 := He.glo_ok X G (c.fact 50 (f := .glo "_law_done") rfl)
  have m51 := He.glo_ok X G (c.fact 51 (f := .glo "_law_whole") rfl)
  have m52 := He.glo_ok X G (c.fact 52 (f := .glo "_law_is_word") rfl)
  have m53 := He.glo_ok X G (c.fact 53 (f := .glo "_law_of_sort") rfl)
  have m54 := He.glo_ok X G (c.fact 54 (f := .glo "_law_sort") rfl)
  have m55 := He.glo_ok X G (c.fact 55 (f := .glo "_law_is_new") rfl)
  have m56 := He.glo_ok X G (c.fact 56 (f := .glo "_law_is_part") rfl)
  have m57 := He.glo_ok X G (c.fact 57 (f := .glo "_law_is_rows") rfl)
  have m58 := He.glo_ok X G (c.fact 58 (f := .glo "_law_is_sort") rfl)
  have m59 := He.glo_ok X G (c.fact 59 (f := .glo "_law_is_list") rfl)
  have m60 := He.glo_ok X G (c.fact 60 (f := .glo "_law_suits") rfl)
  have m61 := He.glo_ok X G (c.fact 61 (f := .glo "_law_fit") rfl)
  have m62 := He.glo_ok X G (c.fact 62 (f := .glo "_law_all_fit") rfl)
  have m63 := He.glo_ok X G (c.fact 63 (f := .glo "_law_place") rfl)
  have m64 := He.glo_ok X G (c.fact 64 (f := .glo "_law_bad") rfl)
  have m65 := He.glo_ok X G (c.fact 65 (f := .glo "_law_wide") rfl)
  have e := hfa.symm.trans (He.glo_ok X G (c.fact 66 (f := .glo "law") rfl))
  cases e
  have b := FunD.bindsA (ps := ["script"]) F66 fun _ _ _ _ _ _ us hl => match us, hl with | [_], _ => rfl
  refine ⟨fd66, fun s v => b s [v] rfl, fun base _ _ => ?_⟩
  have b0 := FunD.bindsN (ps := ["sign"]) F0 fun _ _ _ _ _ _ us hl => match us, hl with | [_], _ => rfl
  have c_is_sign : Cl P w K mg base CX0 "is_sign" _ _ _ _ _ := ⟨ok_sign F0 mb_ord e_PERCENT ⟨_, rfl⟩, m0, F0.kp, b0⟩
  have b1 := FunD.bindsN (ps := ["thing"]) F1 fun _ _ _ _ _ _ us hl => match us, hl with | [_], _ => rfl
  have c_is_text : Cl P w K mg base CX0 "is_text" _ _ _ _ _ := ⟨ok_text F1 c_is_sign mb_isinstance mb_str mb_all, m1, F1.kp, b1⟩
  have b2 := FunD.bindsN (ps := ["thing"]) F2 fun _ _ _ _ _ _ us hl => match us, hl with | [_], _ => rfl
  have c_is_whole : Cl P w K mg base CX0 "is_whole" _ _ _ _ _ := ⟨ok_whole F2 mb_isinstance mb_int mb_bool, m2, F2.kp, b2⟩
  have b3 := FunD.bindsN (ps := ["thing", "longest"]) F3 fun _ _ _ _ _ _ us hl => match us, hl with | [_, _], _ => rfl
  have c__is_small : Cl P w K mg base CX0 "_is_small" _ _ _ _ _ := ⟨ok_small F3 mb_isinstance mb_str mb_len mb_all, m3, F3.kp, b3⟩
  have b4 := FunD.bindsN (ps := ["thing"]) F4 fun _ _ _ _ _ _ us hl => match us, hl with | [_], _ => rfl
  have c_is_name : Cl P w K mg base CX0 "is_name" _ _ _ _ _ := ⟨ok_name F4 c__is_small e_LONGEST_NAME ⟨_, rfl⟩, m4, F4.kp, b4⟩
  have b5 := FunD.bindsN (ps := ["thing"]) F5 fun _ _ _ _ _ _ us hl => match us, hl with | [_], _ => rfl
  have c_is_sort : Cl P w K mg base CX0 "is_sort" _ _ _ _ _ := ⟨ok_sort F5 mb_isinstance mb_str g_SORTS q_SORTS, m5, F5.kp, b5⟩
  have b6 := FunD.bindsN (ps := ["value", "sort"]) F6 fun _ _ _ _ _ _ us hl => match us, hl with | [_, _], _ => rfl
  have c_is_of_sort : Cl P w K mg base CX0 "is_of_sort" _ _ _ _ _ := ⟨ok_ofsort F6 c__is_small c_is_text c_is_whole mb_len e_LONGEST_WORD ⟨_, rfl⟩ e_LONGEST_TEXT ⟨_, rfl⟩, m6, F6.kp, b6⟩
  have b7 := FunD.bindsN (ps := ["sorts", "field"]) F7 fun _ _ _ _ _ _ us hl => match us, hl with | [_, _], _ => rfl
  have c__sort_of : Cl P w K mg base CX0 "_sort_of" _ _ _ _ _ := ⟨ok_sortof F7 mb_isinstance mb_str, m7, F7.kp, b7⟩
  have b8 := FunD.bindsN (ps := ["sorts", "field"]) F8 fun _ _ _ _ _ _ us hl => match us, hl with | [_, _], _ => rfl
  have c__is_new : Cl P w K mg base CX0 "_is_new" _ _ _ _ _ := ⟨ok_isnew F8 c_is_name, m8, F8.kp, b8⟩
  have b9 := FunD.bindsN (ps := ["thing"]) F9 fun _ _ _ _ _ _ us hl => match us, hl with | [_], _ => rfl
  have c__is_saying : Cl P w K mg base CX0 "_is_saying" _ _ _ _ _ := ⟨ok_saying F9 mb_isinstance mb_str mb_len mb_all e_LONGEST_SAYING ⟨_, rfl⟩ e_SAYING_SIGNS ⟨_, rfl⟩, m9, F9.kp, b9⟩
  have b10 := FunD.bindsN (ps := ["sorts", "part"]) F10 fun _ _ _ _ _ _ us hl => match us, hl with | [_, _], _ => rfl
  have c__is_part : Cl P w K mg base CX0 "_is_part" _ _ _ _ _ := ⟨ok_part F10 c__is_saying c__sort_of mb_isinstance mb_str mb_len mb_tuple g_JOINED q_JOINED, m10, F10.kp, b10⟩
  have b11 := FunD.bindsN (ps := ["row", "elder", "sort"]) F11 fun _ _ _ _ _ _ us hl => match us, hl with | [_, _, _], _ => rfl
  have c__is_row : Cl P w K mg base CX0 "_is_row" _ _ _ _ _ := ⟨ok_row F11 c_is_of_sort mb_isinstance mb_tuple mb_len, m11, F11.kp, b11⟩
  have b12 := FunD.bindsN (ps := ["other", "elder", "sort"]) F12 fun _ _ _ _ _ _ us hl => match us, hl with | [_, _, _], _ => rfl
  have c__is_other : Cl P w K mg base CX0 "_is_other" _ _ _ _ _ := ⟨ok_other F12 c_is_of_sort mb_isinstance mb_tuple mb_len, m12, F12.kp, b12⟩
  have b13 := FunD.bindsN (ps := ["rows", "elder", "sort"]) F13 fun _ _ _ _ _ _ us hl => match us, hl with | [_, _, _], _ => rfl
  have c__are_rows : Cl P w K mg base CX0 "_are_rows" _ _ _ _ _ := ⟨ok_rows F13 c__is_row mb_isinstance mb_tuple mb_len mb_all e_MOST_ROWS ⟨_, rfl⟩, m13, F13.kp, b13⟩
  have b24 := FunD.bindsN (ps := ["sorts", "steps"]) F24 fun _ _ _ _ _ _ us hl => match us, hl with | [_, _], _ => rfl
  have b14 := FunD.bindsN (ps := ["sorts", "step"]) F14 fun _ _ _ _ _ _ us hl => match us, hl with | [_, _], _ => rfl
  have b15 := FunD.bindsN (ps := ["sorts", "step"]) F15 fun _ _ _ _ _ _ us hl => match us, hl with | [_, _], _ => rfl
  have b16 := FunD.bindsN (ps := ["sorts", "step"]) F16 fun _ _ _ _ _ _ us hl => match us, hl with | [_, _], _ => rfl
  have b17 := FunD.bindsN (ps := ["sorts", "step"]) F17 fun _ _ _ _ _ _ us hl => match us, hl with | [_, _], _ => rfl
  have b18 := FunD.bindsN (ps := ["sorts", "step"]) F18 fun _ _ _ _ _ _ us hl => match us, hl with | [_, _], _ => rfl
  have b19 := FunD.bindsN (ps := ["sorts", "step"]) F19 fun _ _ _ _ _ _ us hl => match us, hl with | [_, _], _ => rfl
  have b20 := FunD.bindsN (ps := ["sorts", "step"]) F20 fun _ _ _ _ _ _ us hl => match us, hl with | [_, _], _ => rfl
  have b21 := FunD.bindsN (ps := ["sorts", "step"]) F21 fun _ _ _ _ _ _ us hl => match us, hl with | [_, _], _ => rfl
  have b22 := FunD.bindsN (ps := ["sorts", "step"]) F22 fun _ _ _ _ _ _ us hl => match us, hl with | [_, _], _ => rfl
  have b23 := FunD.bindsN (ps := ["sorts", "step"]) F23 fun _ _ _ _ _ _ us hl => match us, hl with | [_, _], _ => rfl
  have LO : LeadsOk P w K mg base (He.ga K "_behind_rename") (He.ga K "_behind_copy") (He.ga K "_behind_drop") (He.ga K "_behind_put") (He.ga K "_behind_scale") (He.ga K "_behind_sum") (He.ga K "_behind_join") (He.ga K "_behind_table") := ⟨fun rec => held_of (x := "_behind_rename") ⟨ok_brename (rec := rec) F14 c__sort_of c__is_new, m14, F14.kp, b14⟩ (by decide), fun rec => held_of (x := "_behind_copy") ⟨ok_bcopy (rec := rec) F15 c__sort_of c__is_new, m15, F15.kp, b15⟩ (by decide), fun rec => held_of (x := "_behind_drop") ⟨ok_bdrop (rec := rec) F16 c__sort_of, m16, F16.kp, b16⟩ (by decide), fun rec => held_of (x := "_behind_put") ⟨ok_bput (rec := rec) F17 c__is_new c_is_sort c_is_of_sort, m17, F17.kp, b17⟩ (by decide), fun rec => held_of (x := "_behind_scale") ⟨ok_bscale (rec := rec) F18 c__sort_of c_is_whole g_NUMBERS q_NUMBERS, m18, F18.kp, b18⟩ (by decide), fun rec => held_of (x := "_behind_sum") ⟨ok_bsum (rec := rec) F19 c__is_new c__sort_of mb_isinstance mb_tuple mb_len mb_all e_MOST_SUMMED ⟨_, rfl⟩ g_NUMBERS q_NUMBERS, m19, F19.kp, b19⟩ (by decide), fun rec => held_of (x := "_behind_join") ⟨ok_bjoin (rec := rec) F20 c__is_new c__is_part mb_isinstance mb_tuple mb_len mb_all e_MOST_PARTS ⟨_, rfl⟩, m20, F20.kp, b20⟩ (by decide), fun rec => held_of (x := "_behind_table") ⟨ok_btable (rec := rec) F21 c__sort_of c_is_sort c__are_rows c__is_other g_TESTED q_TESTED, m21, F21.kp, b21⟩ (by decide)⟩
  have c__sorts_behind : Cl P w K mg base (L2.CX P w) "_sorts_behind" _ _ _ _ _ := ⟨ok_sorts T LO F22 m22 b22 F23 m23 b23 F24 m24 b24 c__sort_of c_is_of_sort mb_isinstance mb_tuple mb_str mb_len mb_list mb_enumerate g_TESTED q_TESTED g_LENGTHS hL_ g_LEADS hD_ 5, m24, F24.kp, b24⟩
  have b25 := FunD.bindsN (ps := ["form", "steps"]) F25 fun _ _ _ _ _ _ us hl => match us, hl with | [_, _], _ => rfl
  have c_form_behind : Cl P w K mg base (L2.CX P w) "form_behind" _ _ _ _ _ := ⟨ok_behind (c := 5) F25 c__sorts_behind mb_len mb_tuple e_MOST_FIELDS ⟨_, rfl⟩ T, m25, F25.kp, b25⟩
  have b35 := FunD.bindsN (ps := ["held", "steps"]) F35 fun _ _ _ _ _ _ us hl => match us, hl with | [_, _], _ => rfl
  have b26 := FunD.bindsN (ps := ["held", "step"]) F26 fun _ _ _ _ _ _ us hl => match us, hl with | [_, _], _ => rfl
  have b27 := FunD.bindsN (ps := ["held", "step"]) F27 fun _ _ _ _ _ _ us hl => match us, hl with | [_, _], _ => rfl
  have b28 := FunD.bindsN (ps := ["held", "step"]) F28 fun _ _ _ _ _ _ us hl => match us, hl with | [_, _], _ => rfl
  have b29 := FunD.bindsN (ps := ["held", "step"]) F29 fun _ _ _ _ _ _ us hl => match us, hl with | [_, _], _ => rfl
  have b30 := FunD.bindsN (ps := ["held", "step"]) F30 fun _ _ _ _ _ _ us hl => match us, hl with | [_, _], _ => rfl
  have b31 := FunD.bindsN (ps := ["held", "step"]) F31 fun _ _ _ _ _ _ us hl => match us, hl with | [_, _], _ => rfl
  have b32 := FunD.bindsN (ps := ["held", "step"]) F32 fun _ _ _ _ _ _ us hl => match us, hl with | [_, _], _ => rfl
  have b33 := FunD.bindsN (ps := ["held", "step"]) F33 fun _ _ _ _ _ _ us hl => match us, hl with | [_, _], _ => rfl
  have b34 := FunD.bindsN (ps := ["held", "step"]) F34 fun _ _ _ _ _ _ us hl => match us, hl with | [_, _], _ => rfl
  have DO : DeedsOk P w K mg base (He.ga K "_do_rename") (He.ga K "_do_copy") (He.ga K "_do_drop") (He.ga K "_do_put") (He.ga K "_do_scale") (He.ga K "_do_sum") (He.ga K "_do_join") (He.ga K "_do_table") := ⟨fun c => held_of (x := "_do_rename") ⟨ok_dorename (c := c) F26, m26, F26.kp, b26⟩ (by decide), fun c => held_of (x := "_do_copy") ⟨ok_docopy (c := c) F27, m27, F27.kp, b27⟩ (by decide), fun c => held_of (x := "_do_drop") ⟨ok_dodrop (c := c) F28, m28, F28.kp, b28⟩ (by decide), fun c => held_of (x := "_do_put") ⟨ok_doput (c := c) F29, m29, F29.kp, b29⟩ (by decide), fun c => held_of (x := "_do_scale") ⟨ok_doscale (c := c) F30, m30, F30.kp, b30⟩ (by decide), fun c => held_of (x := "_do_sum") ⟨ok_dosum (c := c) F31 mb_sum, m31, F31.kp, b31⟩ (by decide), fun c => held_of (x := "_do_join") ⟨ok_dojoin (c := c) F32, m32, F32.kp, b32⟩ (by decide), fun c => held_of (x := "_do_table") ⟨ok_dotable (c := c) F33, m33, F33.kp, b33⟩ (by decide)⟩
  have c__do_steps : Cl P w K mg base CX0 "_do_steps" _ _ _ _ _ := ⟨ok_deeds DO F34 m34 b34 F35 m35 b35 g_DEEDS hE_ 5, m35, F35.kp, b35⟩
  have b36 := FunD.bindsN (ps := ["form", "steps", "values"]) F36 fun _ _ _ _ _ _ us hl => match us, hl with | [_, _, _], _ => rfl
  have c_done : Cl P w K mg base CX0 "done" _ _ _ _ _ := ⟨ok_done (c := 5) F36 c__do_steps c_form_behind mb_tuple mb_zip, m36, F36.kp, b36⟩
  have b37 := FunD.bindsN (ps := ["script"]) F37 fun _ _ _ _ _ _ us hl => match us, hl with | [_], _ => rfl
  have c__law_pen : Cl P w K mg base CX0 "_law_pen" _ _ _ _ _ := ⟨ok_pen (k := 0) F37, m37, F37.kp, b37⟩
  have b38 := FunD.bindsN (ps := ["pen", "many"]) F38 fun _ _ _ _ _ _ us hl => match us, hl with | [_, _], _ => rfl
  have c__law_draw : Cl P w K mg base CX0 "_law_draw" _ _ _ _ _ := ⟨ok_draw (k := 0) F38 mb_len mb_abs mb_range, m38, F38.kp, b38⟩
  have b39 := FunD.bindsN (ps := ["pen", "many"]) F39 fun _ _ _ _ _ _ us hl => match us, hl with | [_, _], _ => rfl
  have c__law_names : Cl P w K mg base CX0 "_law_names" _ _ _ _ _ := ⟨ok_names F39 c__law_draw mb_range, m39, F39.kp, b39⟩
  have b40 := FunD.bindsN (ps := ["pen", "names", "least"]) F40 fun _ _ _ _ _ _ us hl => match us, hl with | [_, _, _], _ => rfl
  have c__law_form : Cl P w K mg base CX0 "_law_form" _ _ _ _ _ := ⟨ok_dformZ F40 c__law_draw mb_range mb_tuple, m40, F40.kp, b40⟩
  have b41 := FunD.bindsN (ps := ["pen"]) F41 fun _ _ _ _ _ _ us hl => match us, hl with | [_], _ => rfl
  have c__law_word : Cl P w K mg base CX0 "_law_word" _ _ _ _ _ := ⟨ok_wordD F41 c__law_draw mb_range, m41, F41.kp, b41⟩
  have b42 := FunD.bindsN (ps := ["pen"]) F42 fun _ _ _ _ _ _ us hl => match us, hl with | [_], _ => rfl
  have c__law_text : Cl P w K mg base CX0 "_law_text" _ _ _ _ _ := ⟨ok_textD F42 c__law_draw mb_range, m42, F42.kp, b42⟩
  have b43 := FunD.bindsN (ps := ["pen"]) F43 fun _ _ _ _ _ _ us hl => match us, hl with | [_], _ => rfl
  have c__law_number : Cl P w K mg base CX0 "_law_number" _ _ _ _ _ := ⟨ok_numberD F43 c__law_draw, m43, F43.kp, b43⟩
  have b44 := FunD.bindsN (ps := ["pen", "sort"]) F44 fun _ _ _ _ _ _ us hl => match us, hl with | [_, _], _ => rfl
  have c__law_value : Cl P w K mg base CX0 "_law_value" _ _ _ _ _ := ⟨ok_valueD F44 c__law_number c__law_word c__law_text, m44, F44.kp, b44⟩
  have b45 := FunD.bindsN (ps := ["pen", "form"]) F45 fun _ _ _ _ _ _ us hl => match us, hl with | [_, _], _ => rfl
  have c__law_values : Cl P w K mg base CX0 "_law_values" _ _ _ _ _ := ⟨ok_valuesD F45 c__law_value mb_tuple, m45, F45.kp, b45⟩
  have b46 := FunD.bindsN (ps := ["pen", "fields", "sorts"]) F46 fun _ _ _ _ _ _ us hl => match us, hl with | [_, _, _], _ => rfl
  have c__law_pick : Cl P w K mg base CX0 "_law_pick" _ _ _ _ _ := ⟨ok_pick F46 c__law_draw mb_len, m46, F46.kp, b46⟩
  have b48 := FunD.bindsN (ps := ["fields", "steps"]) F48 fun _ _ _ _ _ _ us hl => match us, hl with | [_, _], _ => rfl
  have b47 := FunD.bindsN (ps := ["fields", "step"]) F47 fun _ _ _ _ _ _ us hl => match us, hl with | [_, _], _ => rfl
  have c__law_end : Cl P w K mg base CX0 "_law_end" _ _ _ _ _ := ⟨ok_lends F47 m47 b47 F48 m48 b48 mb_tuple mb_dict 5, m48, F48.kp, b48⟩
  have c_lend4 : Cl P w K mg base CX0 "_law_end" _ _ (spLEnd K 4) _ _ := ⟨ok_lends F47 m47 b47 F48 m48 b48 mb_tuple mb_dict 4, m48, F48.kp, b48⟩
  have c__law_behind : Cl P w K mg base CX0 "_law_behind" _ _ _ _ _ := ⟨ok_lbehind (c := 4) F47 c_lend4 mb_tuple mb_dict, m47, F47.kp, b47⟩
  have b49 := FunD.bindsN (ps := ["cells", "steps"]) F49 fun _ _ _ _ _ _ us hl => match us, hl with | [_, _], _ => rfl
  have c__law_do : Cl P w K mg base CX0 "_law_do" _ _ _ _ _ := ⟨ok_ldo F49 m49 b49 mb_sum mb_list 5, m49, F49.kp, b49⟩
  have b50 := FunD.bindsN (ps := ["form", "steps", "values"]) F50 fun _ _ _ _ _ _ us hl => match us, hl with | [_, _, _], _ => rfl
  have c__law_done : Cl P w K mg base CX0 "_law_done" _ _ _ _ _ := ⟨ok_ldone (c := 5) F50 c__law_do c__law_end mb_range mb_len mb_dict mb_tuple, m50, F50.kp, b50⟩
  have b51 := FunD.bindsN (ps := ["thing"]) F51 fun _ _ _ _ _ _ us hl => match us, hl with | [_], _ => rfl
  have c__law_whole : Cl P w K mg base CX0 "_law_whole" _ _ _ _ _ := ⟨ok_lwhole F51 mb_isinstance mb_int mb_bool, m51, F51.kp, b51⟩
  have b52 := FunD.bindsN (ps := ["thing", "most"]) F52 fun _ _ _ _ _ _ us hl => match us, hl with | [_, _], _ => rfl
  have c__law_is_word : Cl P w K mg base CX0 "_law_is_word" _ _ _ _ _ := ⟨ok_isword F52 mb_isinstance mb_str mb_len, m52, F52.kp, b52⟩
  have b53 := FunD.bindsN (ps := ["sort", "thing"]) F53 fun _ _ _ _ _ _ us hl => match us, hl with | [_, _], _ => rfl
  have c__law_of_sort : Cl P w K mg base CX0 "_law_of_sort" _ _ _ _ _ := ⟨ok_lofsort F53 c__law_whole c__law_is_word mb_isinstance mb_str mb_len mb_ord, m53, F53.kp, b53⟩
  have b54 := FunD.bindsN (ps := ["fields", "field"]) F54 fun _ _ _ _ _ _ us hl => match us, hl with | [_, _], _ => rfl
  have c__law_sort : Cl P w K mg base CX0 "_law_sort" _ _ _ _ _ := ⟨ok_lsort F54, m54, F54.kp, b54⟩
  have b55 := FunD.bindsN (ps := ["fields", "field"]) F55 fun _ _ _ _ _ _ us hl => match us, hl with | [_, _], _ => rfl
  have c__law_is_new : Cl P w K mg base CX0 "_law_is_new" _ _ _ _ _ := ⟨ok_lnew F55 c__law_is_word c__law_sort, m55, F55.kp, b55⟩
  have b56 := FunD.bindsN (ps := ["fields", "part"]) F56 fun _ _ _ _ _ _ us hl => match us, hl with | [_, _], _ => rfl
  have c__law_is_part : Cl P w K mg base CX0 "_law_is_part" _ _ _ _ _ := ⟨ok_lpart F56 c__law_sort mb_isinstance mb_tuple mb_len mb_str, m56, F56.kp, b56⟩
  have b57 := FunD.bindsN (ps := ["rows", "old", "new"]) F57 fun _ _ _ _ _ _ us hl => match us, hl with | [_, _, _], _ => rfl
  have c__law_is_rows : Cl P w K mg base CX0 "_law_is_rows" _ _ _ _ _ := ⟨ok_lrows F57 c__law_of_sort mb_isinstance mb_tuple mb_len mb_set, m57, F57.kp, b57⟩
  have b58 := FunD.bindsN (ps := ["thing"]) F58 fun _ _ _ _ _ _ us hl => match us, hl with | [_], _ => rfl
  have c__law_is_sort : Cl P w K mg base CX0 "_law_is_sort" _ _ _ _ _ := ⟨ok_lissort F58 mb_isinstance mb_str, m58, F58.kp, b58⟩
  have b59 := FunD.bindsN (ps := ["thing", "most"]) F59 fun _ _ _ _ _ _ us hl => match us, hl with | [_, _], _ => rfl
  have c__law_is_list : Cl P w K mg base CX0 "_law_is_list" _ _ _ _ _ := ⟨ok_lislist F59 mb_isinstance mb_tuple mb_len, m59, F59.kp, b59⟩
  have b62 := FunD.bindsN (ps := ["fields", "steps"]) F62 fun _ _ _ _ _ _ us hl => match us, hl with | [_, _], _ => rfl
  have b60 := FunD.bindsN (ps := ["fields", "step"]) F60 fun _ _ _ _ _ _ us hl => match us, hl with | [_, _], _ => rfl
  have b61 := FunD.bindsN (ps := ["fields", "step"]) F61 fun _ _ _ _ _ _ us hl => match us, hl with | [_, _], _ => rfl
  have c_lend0 : Cl P w K mg base CX0 "_law_end" 1 ["fields", "steps"] spNot _ _ := ⟨fn_no, m48, F48.kp, b48⟩
  have c_lb0 : ∀ c, Cl P w K mg base CX0 "_law_behind" 2 ["fields", "step"] (NB.spLBehind K (recOf c)) _ _ := fun c => ⟨NB.ok_lbehind F47 c_lend0 mb_tuple mb_dict, m47, F47.kp, b47⟩
  have c_su0 : ∀ c, Cl P w K mg base CX0 "_law_suits" 4 ["fields", "step"] (spLSuits K (recOf c)) _ _ := fun c => ⟨ok_lsuits F60 c__law_whole c__law_sort c__law_is_new c__law_is_part c__law_is_rows c__law_is_sort c__law_is_list c__law_of_sort mb_isinstance mb_tuple mb_len, m60, F60.kp, b60⟩
  have c__law_all_fit : Cl P w K mg base CX0 "_law_all_fit" _ _ _ _ _ := ⟨lfits c_lb0 c_su0 c__law_sort c__law_of_sort F61 m61 b61 F62 m62 b62 mb_isinstance mb_tuple mb_str mb_len mb_sorted mb_list mb_range 5, m62, F62.kp, b62⟩
  have b63 := FunD.bindsN (ps := ["form", "steps"]) F63 fun _ _ _ _ _ _ us hl => match us, hl with | [_, _], _ => rfl
  have c__law_place : Cl P w K mg base CX0 "_law_place" _ _ _ _ _ := ⟨ok_lplace (c := 5) F63 c__law_all_fit mb_len, m63, F63.kp, b63⟩
  have b64 := FunD.bindsN (ps := ["form", "steps"]) F64 fun _ _ _ _ _ _ us hl => match us, hl with | [_, _], _ => rfl
  have c__law_bad : Cl P w K mg base CX0 "_law_bad" _ _ _ _ _ := ⟨ok_lbad (c := 5) F64 T TX c_form_behind c__law_whole mb_isinstance mb_ValueError, m64, F64.kp, b64⟩
  have b65 := FunD.bindsN (ps := ["pen", "form", "news"]) F65 fun _ _ _ _ _ _ us hl => match us, hl with | [_, _, _], _ => rfl
  have c__law_wide : Cl P w K mg base CX0 "_law_wide" _ _ _ _ _ := ⟨ok_wide F65 c__law_draw c__law_value c__law_behind mb_range mb_min mb_len mb_tuple, m65, F65.kp, b65⟩
  exact ok_law F66 c__law_pen c__law_names c__law_draw c__law_form c__law_wide c__law_pick c__law_value c__law_place c__law_bad c__law_values c__law_end c_done c__law_done mb_range mb_min mb_len mb_dict
end St6
open PySem PySem.W PySem.Calls PyProof.Rows
theorem PySem.Challenge.cw_eventledger_k16_more_than_six_amid_holds : PySem.Challenge.rw_eventledger_k16_more_than_six_amid.Holds := by
  w_on; o_law
  refine HandSHeadRun.head_any (r := OpenLaw.row PySem.Challenge.rw_eventledger_k16_more_than_six_amid) (q := view (OpenLaw.row PySem.Challenge.rw_eventledger_k16_more_than_six_amid).prog [89]) (H := St6.hk) (ob := St6.ob) (M := 3000) (loose := St6.loose) (d := HandSHeadRun.topDef (OpenLaw.row PySem.Challenge.rw_eventledger_k16_more_than_six_amid).prog 89) (kwd := []) St6.ob_eq
    (by kernel_rfl) (fun s => by kernel_rfl) St6.run (by kernel_rfl) (by kernel_rfl) (by kernel_rfl) (by rfl) (by first | assumption | decide +kernel) (by decide +kernel) ⟨rfl, rfl, rfl, rfl, rfl, by decide +kernel⟩ ?hw ?hc
  case hw => w_witness2
  case hc =>
    refine L2.walk_ofE (l := PySem.Challenge.rw_eventledger_k16_more_than_six_amid) (n := 63) (k := 26) (x := "script") (CX := L2.CX0) rfl (by decide) (by kernel_rfl) ⟨rfl, by decide, by decide⟩ ?F (fun _ _ _ _ z => z)
    intro w mg fa h Y G hmg0
    obtain ⟨K, KX, c⟩ := Y
    have hmg : mg ("law" : PySem.Str) = some (.ref fa) := by
      have e : (HandSHeadRun.topDef (OpenLaw.row PySem.Challenge.rw_eventledger_k16_more_than_six_amid).prog 89).name = ("law" : PySem.Str) := by kernel_rfl
      rw [← e]
      exact hmg0
    obtain ⟨fd, hb, hF⟩ := St6.facts (P := (PySem.Challenge.rw_eventledger_k16_more_than_six_amid).prog) (w := w) KX G hmg c
    exact ⟨K, fd, St6.spLaw K, KX, hb, fun H a ns hl _ hS => ⟨a, ns, rfl, hS, hl, fun _ => rfl⟩, hF⟩
