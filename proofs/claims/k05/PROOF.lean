import PyProof.Rows.All
import Wide.All
import OpenK.AllK
import Wide.FinOn
import HandS.Text
import HandS.StrMore
import PyProof.StrLawsFrom
import HandS.ForMost
import HandS.FStr
import HandS.Defaults
import HandS.Style
import HandS.Replace
import HandS.ReplaceLit
import KE.GoesNew
import PyProof.Rows.StrRev
import KE.GoesEnumKw
import PyProof.Rows.CallKwBuiltin
import HandS.MakeKwOnly
import KE.KEqSeq
import HandS.Codes
import HandS.IsInst
import HandS.TupAny
import HandS.Walk
import KE.KStateDown
import HandS.Base
import HandS.Call
import HandS.Ends
import HandS.More
import HandS.Words
import HandS.WordsExc
import HandS.Head0
import HandS.Head1
import HandS.Head2
import HandS.HeadEnd
import HandS.HeadHook1
import HandS.HeadHook2
import HandS.HeadHook3
import HandS.HeadHook4
import Lean
import PySem.Challenge.RW_eventledger_k05_whole_each_flip_is_found
set_option Elab.async false
set_option linter.all false
set_option maxRecDepth 100000
namespace Ev
open PySem PySem.Spec PyProof.Rows L2 TL
abbrev sp : Str := " "
theorem tl_sp : tl sp = [32] := by decide +kernel
theorem sp_mk : sp = ⟨#[32]⟩ := ext_tl tl_sp
def wsum : Nat → List Nat → Int
  | _, [] => 0
  | k, c :: r => (c : Int) * ((k : Int) + 1) + wsum (k + 1) r
theorem wsum_snoc : ∀ (k : Nat) (l : List Nat) (c : Nat), wsum k (l ++ [c]) = wsum k l + (c : Int) * ((k : Int) + (l.length : Int) + 1)
  | k, [], c => by
    show (c : Int) * ((k : Int) + 1) + 0 = 0 + (c : Int) * ((k : Int) + (0 : Nat) + 1)
    simp
  | k, d :: r, c => by
    have ih := wsum_snoc (k + 1) r c
    show (d : Int) * ((k : Int) + 1) + wsum (k + 1) (r ++ [c]) = (d : Int) * ((k : Int) + 1) + wsum (k + 1) r + (c : Int) * ((k : Int) + ((r.length + 1 : Nat) : Int) + 1)
    rw [ih]
    have e : ((k + 1 : Nat) : Int) + (r.length : Int) + 1 = (k : Int) + ((r.length + 1 : Nat) : Int) + 1 := by omega
    rw [e]
    omega
theorem wsum_take {l : List Nat} {i c : Nat} (h : l[i]? = some c) : wsum 0 (l.take (i + 1)) = wsum 0 (l.take i) + (c : Int) * ((i : Int) + 1) := by
  have hi : i < l.length := (List.getElem?_eq_some_iff.mp h).1
  have e : l.take (i + 1) = l.take i ++ [c] := by rw [List.take_add_one, h]; rfl
  rw [e, wsum_snoc, List.length_take, Nat.min_eq_left (Nat.le_of_lt hi)]
  congr 2
  omega
theorem wsum_nonneg : ∀ (k : Nat) (l : List Nat), 0 ≤ wsum k l
  | _, [] => Int.le_refl 0
  | k, c :: r => by
    have ih := wsum_nonneg (k + 1) r
    have h : 0 ≤ (c : Int) * ((k : Int) + 1) := Int.mul_nonneg (by omega) (by omega)
    show 0 ≤ (c : Int) * ((k : Int) + 1) + wsum (k + 1) r
    omega
def sumT (z : Str) : Int := wsum 0 (tl z)
def sumBy (z : Str) (m : Int) : Int := (sumT z).fmod m
abbrev num (n : Int) : Str := Str.ofString (toString n)
def rowT (b : Str) : Str := num (b.length : Int) ++ sp ++ num (sumBy b 1000003) ++ sp ++ b
theorem sumBy_nat {b : Str} {m : Int} (hm : 0 < m) : ∃ k : Nat, sumBy b m = (k : Int) ∧ (k : Int) < m := by
  have h0 := Int.fmod_nonneg (b := m) (wsum_nonneg 0 (tl b)) (Int.le_of_lt hm)
  have h1 := Int.fmod_lt_of_pos (wsum 0 (tl b)) hm
  refine ⟨(sumBy b m).toNat, ?_, ?_⟩
  · show (wsum 0 (tl b)).fmod m = (((wsum 0 (tl b)).fmod m).toNat : Int)
    omega
  · show (((wsum 0 (tl b)).fmod m).toNat : Int) < m
    omega
theorem tl_row (b : Str) : ∃ k : Nat, k < 1000003 ∧ sumBy b 1000003 = (k : Int) ∧ tl (rowT b) = numL b.length ++ (32 :: (numL k ++ (32 :: tl b))) := by
  obtain ⟨k, e, h⟩ := sumBy_nat (b := b) (m := 1000003) (by decide)
  refine ⟨k, by omega, e, ?_⟩
  unfold rowT
  rw [e, tl_append, tl_append, tl_append, tl_append, tl_num, tl_num, tl_sp]
  simp
theorem row_len {b : Str} (h : b.length < 10 ^ 7) : (rowT b).length ≤ b.length + 16 := by
  obtain ⟨k, hk, _, e⟩ := tl_row b
  have h1 := numL_len (n := b.length) (k := 7) (by decide) h
  have h2 := numL_len (n := k) (k := 7) (by decide) (by omega)
  rw [len_tl, e, List.length_append, List.length_cons, List.length_append, List.length_cons, ← len_tl]
  omega
/-! ### behind the first blank -/
def aft : List Nat → List Nat
  | [] => []
  | c :: r => if c = 32 then r else aft r
theorem aft_at : ∀ (l : List Nat) (i : Nat), l[i]? = some 32 → (∀ k, k < i → l[k]? ≠ some 32) → aft l = l.drop (i + 1)
  | [], i, h, _ => by simp at h
  | c :: r, 0, h, _ => by
    have e : c = 32 := Option.some.inj h
    show (if c = 32 then r else aft r) = r
    rw [if_pos e]
  | c :: r, i + 1, h, hn => by
    have hc : c ≠ 32 := fun e => hn 0 (by omega) (by rw [e]; rfl)
    show (if c = 32 then r else aft r) = r.drop (i + 1)
    rw [if_neg hc]
    exact aft_at r i h fun k hk => hn (k + 1) (by omega)
theorem par_aft : ∀ (l acc : List Nat), (match par [32] acc l with | some (_, b) => b | none => []) = aft l
  | [], _ => rfl
  | c :: r, acc => by
    by_cases hc : c = 32
    · have e : par [32] acc (c :: r) = some (acc, r) := by
        show (if pre [32] (c :: r) = true then _ else _) = _
        rw [if_pos (by rw [hc]; rfl)]
        rfl
      rw [e]
      show r = if c = 32 then r else aft r
      rw [if_pos hc]
    · have e : par [32] acc (c :: r) = par [32] (acc ++ [c]) r := by
        show (if pre [32] (c :: r) = true then _ else _) = _
        rw [if_neg]
        intro h
        have h2 : [c] = [32] := eq_of_beq h
        exact hc (List.cons.inj h2).1
      rw [e, par_aft r]
      show aft r = if c = 32 then r else aft r
      rw [if_neg hc]
def tailT (t : Str) : Str := (Txt.partition t sp).2.2
theorem tl_tailT (t : Str) : tl (tailT t) = aft (tl t) := by
  unfold tailT
  rw [partition_par t sp (by rw [tl_sp]; simp), tl_sp, ← par_aft (tl t) []]
  cases par [32] [] (tl t) with
  | none => rfl
  | some q => rfl
theorem aft_len : ∀ l : List Nat, (aft l).length ≤ l.length
  | [] => Nat.le_refl _
  | c :: r => by
    show (if c = 32 then r else aft r).length ≤ r.length + 1
    by_cases h : c = 32
    · rw [if_pos h]; omega
    · rw [if_neg h]
      have := aft_len r
      omega
theorem tailT_len (t : Str) : (tailT t).length ≤ t.length := by
  rw [len_tl, len_tl, tl_tailT]
  exact aft_len _
def bodyT (t : Str) : Str := tailT (tailT t)
theorem bodyT_len (t : Str) : (bodyT t).length ≤ t.length := Nat.le_trans (tailT_len _) (tailT_len _)
def bodyOf (t : Str) : V := if rowT (bodyT t) = t then .str (bodyT t) else .non
/-! ### the law's own look -/
theorem find_find3 (x y : Str) : Txt.find x y = Txt.find3 x y 0 := by
  unfold Txt.find Txt.find3
  have e : fromIndex x.length 0 = 0 := by
    unfold fromIndex
    simp
  rw [e]
  cases Builtin.Str.occurrences x y 0 x.length 1 <;> rfl
theorem from_nat (n k : Nat) : fromIndex n (k : Int) = k := by
  unfold fromIndex
  rw [if_neg (by omega)]
  omega
theorem getD_tl {x : Str} {v : Nat} (hv : v < x.length) : x.cps.getD v 0 = 32 ↔ (tl x)[v]? = some 32 :=
  ⟨fun h => StrLaws.getElem?_of_getD hv h, fun h => StrLaws.getD_of_getElem? h⟩
/-- the first blank from k on -/
theorem find_spec (x : Str) (k : Nat) :
    (Txt.find3 x sp (k : Int) = -1 ∧ ∀ v, k ≤ v → (tl x)[v]? ≠ some 32) ∨ ∃ i : Nat, Txt.find3 x sp (k : Int) = (i : Int) ∧ k ≤ i ∧ (tl x)[i]? = some 32 ∧ ∀ v, k ≤ v → v < i → (tl x)[v]? ≠ some 32 := by
  have out : ∀ v, (tl x)[v]? = some 32 → v < x.length := fun v h => by
    rw [len_tl]
    exact (List.getElem?_eq_some_iff.mp h).1
  rcases StrLaws.find3_spec x 32 (k : Int) with ⟨e, hn⟩ | ⟨i, e, h1, h2, h3, hn⟩
  · rw [from_nat] at hn
    rw [← sp_mk] at e
    exact .inl ⟨e, fun v hv h => hn v hv (out v h) ((getD_tl (out v h)).mpr h)⟩
  · rw [from_nat] at h1 hn
    rw [← sp_mk] at e
    exact .inr ⟨i, e, h1, (getD_tl h2).mp h3, fun v hv hi h => hn v hv hi ((getD_tl (out v h)).mpr h)⟩
theorem tl_cut_from (t : Str) (k : Nat) : tl (cutS t (some (k : Int)) none) = (tl t).drop k := by
  show (((tl t).drop (HT.sIx t.length 0 (some (k : Int)))).take (HT.sIx t.length t.length none - HT.sIx t.length 0 (some (k : Int)))) = _
  rw [HT.sIx_nat, HT.sIx_none]
  have hl := len_tl t
  by_cases h : k ≤ t.length
  · rw [Nat.min_eq_left h]
    exact List.take_of_length_le (by rw [List.length_drop]; omega)
  · rw [Nat.min_eq_right (by omega), List.drop_eq_nil_of_le (by omega), List.drop_eq_nil_of_le (by omega), List.take_nil]
/-- the two looks at a text for a row's body agree -/
theorem looks_agree (t : Str) :
    (∃ f s : Nat, Txt.find t sp = (f : Int) ∧ 1 ≤ f ∧ Txt.find3 t sp ((f : Int) + 1) = (s : Int) ∧ cutS t (some ((s : Int) + 1)) none = bodyT t) ∨
    ((Txt.find t sp < 1 ∨ ∃ f : Nat, Txt.find t sp = (f : Int) ∧ Txt.find3 t sp ((f : Int) + 1) < 0) ∧ bodyOf t = .non) := by
  have noRow : (¬ ∃ f s : Nat, 1 ≤ f ∧ Txt.find t sp = (f : Int) ∧ Txt.find3 t sp ((f : Int) + 1) = (s : Int)) → bodyOf t = .non := by
    intro hno
    unfold bodyOf
    refine if_neg fun he => hno ?_
    obtain ⟨k, _, _, e⟩ := tl_row (bodyT t)
    rw [he] at e
    have e1 : (tl t)[(numL (bodyT t).length).length]? = some 32 := by
      rw [e, List.getElem?_append_right (Nat.le_refl _), Nat.sub_self]
      rfl
    have e2 : (tl t)[(numL (bodyT t).length).length + 1 + (numL k).length]? = some 32 := by
      rw [e, List.getElem?_append_right (by omega)]
      have q : (numL (bodyT t).length).length + 1 + (numL k).length - (numL (bodyT t).length).length = (numL k).length + 1 := by omega
      rw [q, List.getElem?_cons_succ, List.getElem?_append_right (Nat.le_refl _), Nat.sub_self]
      rfl
    rcases find_spec t 0 with ⟨_, hn⟩ | ⟨f, ef, _, hf, hn⟩
    · exact absurd e1 (hn _ (Nat.zero_le _))
    · have f1 : 1 ≤ f := by
        rcases Nat.eq_zero_or_pos f with z | z
        · rw [z, e] at hf
          have hne := numL_ne (bodyT t).length
          cases hN : numL (bodyT t).length with
          | nil => exact absurd hN hne
          | cons c r =>
            rw [hN] at hf
            have ec : c = 32 := Option.some.inj hf
            exact absurd (show (32 : Nat) ∈ numL (bodyT t).length by rw [hN, ec]; exact List.mem_cons_self ..) (numL_free (by omega))
        · exact z
      have fle : f ≤ (numL (bodyT t).length).length := by
        rcases Nat.lt_or_ge (numL (bodyT t).length).length f with z | z
        · exact absurd e1 (hn _ (Nat.zero_le _) z)
        · exact z
      rcases find_spec t (f + 1) with ⟨_, hn2⟩ | ⟨s, es, _, _, _⟩
      · exact absurd e2 (hn2 _ (by omega))
      · exact ⟨f, s, f1, by rw [find_find3]; exact ef, es⟩
  rcases find_spec t 0 with ⟨e, _⟩ | ⟨f, ef, _, hf, hn⟩
  · have e' : Txt.find t sp = -1 := by rw [find_find3]; exact e
    refine .inr ⟨.inl (by rw [e']; decide), noRow ?_⟩
    rintro ⟨f, s, _, q, _⟩
    rw [e'] at q
    omega
  · have ef' : Txt.find t sp = (f : Int) := by rw [find_find3]; exact ef
    rcases Nat.eq_zero_or_pos f with z | z
    · refine .inr ⟨.inl (by rw [ef', z]; decide), noRow ?_⟩
      rintro ⟨g, s, h1, q, _⟩
      rw [ef'] at q
      omega
    · rcases find_spec t (f + 1) with ⟨e2, _⟩ | ⟨s, es, hs1, hs, hn2⟩
      · refine .inr ⟨.inr ⟨f, ef', by rw [show ((f : Int) + 1) = ((f + 1 : Nat) : Int) from rfl, e2]; decide⟩, noRow ?_⟩
        rintro ⟨g, s, _, q, q2⟩
        have : g = f := by rw [ef'] at q; omega
        rw [this, show ((f : Int) + 1) = ((f + 1 : Nat) : Int) from rfl, e2] at q2
        omega
      · refine .inl ⟨f, s, ef', z, es, ext_tl ?_⟩
        rw [show ((s : Int) + 1) = ((s + 1 : Nat) : Int) from rfl, tl_cut_from]
        unfold bodyT
        rw [tl_tailT, tl_tailT, aft_at (tl t) f hf (fun k hk => hn k (Nat.zero_le _) hk)]
        have h2 : ((tl t).drop (f + 1))[s - (f + 1)]? = some 32 := by
          rw [List.getElem?_drop, show f + 1 + (s - (f + 1)) = s by omega]
          exact hs
        rw [aft_at _ _ h2 (fun k hk => by
          rw [List.getElem?_drop]
          exact hn2 _ (by omega) (by omega)), List.drop_drop]
        congr 1
        omega
/-- a row's body is read back -/
theorem body_row (b : Str) : bodyT (rowT b) = b := by
  obtain ⟨k, _, _, e⟩ := tl_row b
  refine ext_tl ?_
  unfold bodyT
  have free : ∀ (p r : List Nat), 32 ∉ p → aft (p ++ 32 :: r) = r := by
    intro p
    induction p with
    | nil => intro r _; rfl
    | cons c p ih =>
      intro r h
      have hc : c ≠ 32 := fun q => h (by rw [q]; exact List.mem_cons_self ..)
      show (if c = 32 then _ else aft (p ++ 32 :: r)) = r
      rw [if_neg hc]
      exact ih r fun q => h (List.mem_cons_of_mem _ q)
  rw [tl_tailT, tl_tailT, e, free _ _ (numL_free (by omega)), free _ _ (numL_free (by omega))]
theorem bodyOf_row (b : Str) : bodyOf (rowT b) = .str b := by
  unfold bodyOf
  rw [body_row, if_pos rfl]
end Ev

set_option autoImplicit false
set_option maxHeartbeats 2000000
/-! rows nearby: of one sign another one, of two neighbours exchanged, ended early -/
namespace Ev
open PySem PySem.Spec PyProof.Rows L2 TL
theorem wsum_app : ∀ (k : Nat) (l r : List Nat), wsum k (l ++ r) = wsum k l + wsum (k + l.length) r
  | k, [], r => by simp [wsum]
  | k, c :: l, r => by
    have ih := wsum_app (k + 1) l r
    show (c : Int) * ((k : Int) + 1) + wsum (k + 1) (l ++ r) = (c : Int) * ((k : Int) + 1) + wsum (k + 1) l + wsum (k + (l.length + 1)) r
    rw [ih, show k + 1 + l.length = k + (l.length + 1) by omega]
    omega
/-- what a row is made of -/
structure RowL (A : List Nat) (L S : Nat) (b : List Nat) : Prop where
  eq : A = numL L ++ 32 :: (numL S ++ 32 :: b)
  len : b.length = L
  sum : (S : Int) = (wsum 0 b).fmod 1000003
  small : S < 1000003
theorem row_l (b : Str) : ∃ S, RowL (tl (rowT b)) b.length S (tl b) := by
  obtain ⟨k, hk, e, er⟩ := tl_row b
  exact ⟨k, er, (len_tl b).symm, e.symm, hk⟩
section
variable {A B : List Nat} {L S L' S' : Nat} {b c : List Nat}
theorem RowL.size (h : RowL A L S b) : A.length = (numL L).length + (numL S).length + 2 + L := by
  rw [h.eq, List.length_append, List.length_cons, List.length_append, List.length_cons, h.len]
  omega
theorem RowL.one (h : RowL A L S b) : 1 ≤ (numL L).length := List.length_pos_iff.mpr (numL_ne L)
theorem RowL.oneS (h : RowL A L S b) : 1 ≤ (numL S).length := List.length_pos_iff.mpr (numL_ne S)
theorem RowL.seven (h : RowL A L S b) : (numL S).length ≤ 7 := numL_len (by decide) (by have := h.small; omega)
theorem at_ne {n i : Nat} (h : i < (numL n).length) : (numL n)[i]? ≠ some 32 := fun e => numL_free (n := n) (s := 32) (.inl (by decide)) (List.mem_of_getElem? e)
theorem RowL.dig (h : RowL A L S b) {i : Nat} (hi : i < (numL L).length) : A[i]? ≠ some 32 := by
  rw [h.eq, List.getElem?_append_left hi]
  exact at_ne hi
theorem RowL.blank (h : RowL A L S b) : A[(numL L).length]? = some 32 := by
  rw [h.eq, List.getElem?_append_right (Nat.le_refl _), Nat.sub_self]
  rfl
theorem RowL.dig2 (h : RowL A L S b) {i : Nat} (h1 : (numL L).length < i) (h2 : i < (numL L).length + 1 + (numL S).length) : A[i]? ≠ some 32 := by
  rw [h.eq, List.getElem?_append_right (by omega)]
  obtain ⟨j, rfl⟩ : ∃ j, i = (numL L).length + 1 + j := ⟨i - (numL L).length - 1, by omega⟩
  rw [show (numL L).length + 1 + j - (numL L).length = j + 1 by omega, List.getElem?_cons_succ, List.getElem?_append_left (by omega)]
  exact at_ne (by omega)
theorem RowL.blank2 (h : RowL A L S b) : A[(numL L).length + 1 + (numL S).length]? = some 32 := by
  rw [h.eq, List.getElem?_append_right (by omega), show (numL L).length + 1 + (numL S).length - (numL L).length = (numL S).length + 1 by omega, List.getElem?_cons_succ, List.getElem?_append_right (Nat.le_refl _), Nat.sub_self]
  rfl
theorem RowL.body (h : RowL A L S b) (i : Nat) : A[(numL L).length + 1 + (numL S).length + 1 + i]? = b[i]? := by
  rw [h.eq, List.getElem?_append_right (by omega), show (numL L).length + 1 + (numL S).length + 1 + i - (numL L).length = (numL S).length + 1 + i + 1 by omega, List.getElem?_cons_succ, List.getElem?_append_right (by omega), show (numL S).length + 1 + i - (numL S).length = i + 1 by omega, List.getElem?_cons_succ]
theorem RowL.sAt (h : RowL A L S b) {i : Nat} (hi : i < (numL S).length) : A[(numL L).length + 1 + i]? = (numL S)[i]? := by
  rw [h.eq, List.getElem?_append_right (by omega), show (numL L).length + 1 + i - (numL L).length = i + 1 by omega, List.getElem?_cons_succ, List.getElem?_append_left hi]
theorem RowL.lAt (h : RowL A L S b) {i : Nat} (hi : i < (numL L).length) : A[i]? = (numL L)[i]? := by
  rw [h.eq, List.getElem?_append_left hi]
/-- the same numbers ahead where all of them agree -/
theorem RowL.sameL (h : RowL A L S b) (k : RowL B L' S' c) (e : (numL L).length = (numL L').length) (ag : ∀ i, i < (numL L).length → A[i]? = B[i]?) : L = L' := by
  refine numL_inj (List.ext_getElem? fun i => ?_)
  by_cases hi : i < (numL L).length
  · rw [← h.lAt hi, ag i hi, k.lAt (by omega)]
  · rw [List.getElem?_eq_none (by omega), List.getElem?_eq_none (by omega)]
theorem RowL.sameS (h : RowL A L S b) (k : RowL B L S' c) (e : (numL S).length = (numL S').length) (ag : ∀ i, (numL L).length < i → i < (numL L).length + 1 + (numL S).length → A[i]? = B[i]?) : S = S' := by
  refine numL_inj (List.ext_getElem? fun i => ?_)
  by_cases hi : i < (numL S).length
  · rw [← h.sAt hi, ag _ (by omega) (by omega), k.sAt (by omega)]
  · rw [List.getElem?_eq_none (by omega), List.getElem?_eq_none (by omega)]
/-- the same behind the first number: the same all along -/
theorem free_split {n m : Nat} {r q : List Nat} (e : numL n ++ 32 :: r = numL m ++ 32 :: q) : n = m ∧ r = q := by
  have hn : 32 ∉ numL n := numL_free (.inl (by decide))
  have hm : 32 ∉ numL m := numL_free (.inl (by decide))
  have key : ∀ (x y : List Nat), 32 ∉ x → 32 ∉ y → x ++ 32 :: r = y ++ 32 :: q → x = y ∧ r = q := by
    intro x
    induction x with
    | nil =>
      intro y _ hy e
      cases y with
      | nil => exact ⟨rfl, (List.cons.inj e).2⟩
      | cons z w => exact absurd (List.cons.inj e).1 (fun t => hy (t ▸ List.mem_cons_self ..))
    | cons z w ih =>
      intro y hx hy e
      cases y with
      | nil => exact absurd (List.cons.inj e).1 (fun t => hx (t ▸ List.mem_cons_self ..))
      | cons u v =>
        obtain ⟨e1, e2⟩ := List.cons.inj e
        obtain ⟨h1, h2⟩ := ih v (fun t => hx (List.mem_cons_of_mem _ t)) (fun t => hy (List.mem_cons_of_mem _ t)) e2
        exact ⟨by rw [e1, h1], h2⟩
  obtain ⟨h1, h2⟩ := key _ _ hn hm e
  exact ⟨numL_inj h1, h2⟩
theorem RowL.sameTail (h : RowL A L S b) (k : RowL B L' S' c) (e : (numL L).length = (numL L').length) (ag : ∀ i, (numL L).length < i → A[i]? = B[i]?) : A = B := by
  have e2 : numL S ++ 32 :: b = numL S' ++ 32 :: c := by
    refine List.ext_getElem? fun i => ?_
    have h1 : A[(numL L).length + 1 + i]? = (numL S ++ 32 :: b)[i]? := by
      rw [h.eq, List.getElem?_append_right (by omega), show (numL L).length + 1 + i - (numL L).length = i + 1 by omega, List.getElem?_cons_succ]
    have h2 : B[(numL L').length + 1 + i]? = (numL S' ++ 32 :: c)[i]? := by
      rw [k.eq, List.getElem?_append_right (by omega), show (numL L').length + 1 + i - (numL L').length = i + 1 by omega, List.getElem?_cons_succ]
    rw [← h1, ag _ (by omega), e, h2]
  obtain ⟨e3, e4⟩ := free_split e2
  have eL : L = L' := by rw [← h.len, ← k.len, e4]
  rw [h.eq, k.eq, e3, e4, eL]
/-- a longer number that begins with another one is far greater -/
theorem val_app (l : List Nat) (x : Nat) : NumText.digitsVal (l ++ [x]) = 10 * NumText.digitsVal l + (x - 48) := by
  unfold NumText.digitsVal
  rw [List.foldl_append]
  show _ * 10 + _ = _
  omega
theorem val_ge (l : List Nat) : ∀ r : List Nat, NumText.digitsVal l ≤ NumText.digitsVal (l ++ r) := fun r => by
  induction r generalizing l with
  | nil => rw [List.append_nil]; exact Nat.le_refl _
  | cons x r ih =>
    have e : l ++ x :: r = (l ++ [x]) ++ r := by simp
    rw [e]
    refine Nat.le_trans ?_ (ih _)
    rw [val_app]
    omega
theorem numL_head0 {n : Nat} {r : List Nat} (e : numL n = 48 :: r) : n = 0 := by
  by_cases h : n < 10
  · rw [numL_lt h] at e
    have := (List.cons.inj e).1
    omega
  · exfalso
    have key : ∀ n : Nat, 10 ≤ n → ∀ r, numL n ≠ 48 :: r := by
      intro n
      induction n using Nat.strongRecOn with
      | _ n ih =>
        intro hn r e
        rw [numL_step hn] at e
        by_cases h2 : n / 10 < 10
        · rw [numL_lt h2] at e
          have := (List.cons.inj e).1
          omega
        · obtain ⟨q, e2⟩ : ∃ q, numL (n / 10) = 48 :: q := by
            cases hq : numL (n / 10) with
            | nil => exact absurd hq (numL_ne _)
            | cons z w =>
              rw [hq] at e
              exact ⟨w, by rw [(List.cons.inj e).1]⟩
          exact ih (n / 10) (by omega) (by omega) _ e2
    exact key n (by omega) r e
theorem longer {n m : Nat} (h : (numL n).length < (numL m).length) (ag : ∀ i, i < (numL n).length → (numL n)[i]? = (numL m)[i]?) : n + 9 ≤ m := by
  have e : numL m = numL n ++ (numL m).drop (numL n).length := by
    have e1 : numL n = (numL m).take (numL n).length := by
      refine List.ext_getElem? fun i => ?_
      by_cases hi : i < (numL n).length
      · rw [List.getElem?_take, if_pos hi]
        exact ag i hi
      · rw [List.getElem?_eq_none (by omega), List.getElem?_eq_none (by rw [List.length_take]; omega)]
    conv => lhs; rw [← List.take_append_drop (numL n).length (numL m), ← e1]
  obtain ⟨x, r, er⟩ : ∃ x r, (numL m).drop (numL n).length = x :: r := by
    cases hd : (numL m).drop (numL n).length with
    | nil =>
      have := congrArg List.length hd
      rw [List.length_drop, List.length_nil] at this
      omega
    | cons x r => exact ⟨x, r, rfl⟩
  rw [er] at e
  have e2 : numL m = (numL n ++ [x]) ++ r := by rw [e]; simp
  have v := val_ge (numL n ++ [x]) r
  rw [← e2, val_app, numL_val, numL_val] at v
  have n1 : 1 ≤ n := by
    refine Nat.pos_of_ne_zero fun z => ?_
    subst z
    have e0 : numL 0 = [48] := numL_lt (by decide)
    rw [e0] at e h
    obtain rfl := numL_head0 (r := x :: r) e
    rw [e0] at h
    exact absurd h (Nat.lt_irrefl _)
  omega
/-- sums of bodies, one sign another one -/
theorem sum_flip {x y : Nat} {p r : List Nat} (hx : x < 128) (hy : y < 128) (ne : x ≠ y) (few : p.length < 5000) : (wsum 0 (p ++ x :: r)).fmod 1000003 ≠ (wsum 0 (p ++ y :: r)).fmod 1000003 := by
  rw [Int.fmod_eq_emod_of_nonneg _ (by decide), Int.fmod_eq_emod_of_nonneg _ (by decide), wsum_app, wsum_app]
  show (wsum 0 p + ((x : Int) * (((0 + p.length : Nat) : Int) + 1) + wsum (0 + p.length + 1) r)) % 1000003 ≠ (wsum 0 p + ((y : Int) * (((0 + p.length : Nat) : Int) + 1) + wsum (0 + p.length + 1) r)) % 1000003
  generalize wsum 0 p = a
  generalize wsum (0 + p.length + 1) r = b
  rw [Nat.zero_add]
  rcases Nat.lt_or_gt_of_ne ne with l | l
  · obtain ⟨k, rfl⟩ : ∃ k, y = x + k := ⟨y - x, by omega⟩
    have e : (((x + k : Nat) : Int)) * ((p.length : Int) + 1) = (x : Int) * ((p.length : Int) + 1) + ((k * (p.length + 1) : Nat) : Int) := by
      rw [Int.natCast_add, Int.add_mul, Int.natCast_mul]
      rfl
    have b1 : k * (p.length + 1) ≤ 127 * 5000 := Nat.mul_le_mul (by omega) (by omega)
    have b2 : 0 < k * (p.length + 1) := Nat.mul_pos (by omega) (by omega)
    rw [e]
    generalize k * (p.length + 1) = d at b1 b2 ⊢
    generalize (x : Int) * ((p.length : Int) + 1) = z
    omega
  · obtain ⟨k, rfl⟩ : ∃ k, x = y + k := ⟨x - y, by omega⟩
    have e : (((y + k : Nat) : Int)) * ((p.length : Int) + 1) = (y : Int) * ((p.length : Int) + 1) + ((k * (p.length + 1) : Nat) : Int) := by
      rw [Int.natCast_add, Int.add_mul, Int.natCast_mul]
      rfl
    have b1 : k * (p.length + 1) ≤ 127 * 5000 := Nat.mul_le_mul (by omega) (by omega)
    have b2 : 0 < k * (p.length + 1) := Nat.mul_pos (by omega) (by omega)
    rw [e]
    generalize k * (p.length + 1) = d at b1 b2 ⊢
    generalize (y : Int) * ((p.length : Int) + 1) = z
    omega
/-- two neighbours exchanged -/
theorem sum_swap {x y : Nat} {p r : List Nat} (hx : x < 128) (hy : y < 128) (ne : x ≠ y) : (wsum 0 (p ++ x :: y :: r)).fmod 1000003 ≠ (wsum 0 (p ++ y :: x :: r)).fmod 1000003 := by
  rw [Int.fmod_eq_emod_of_nonneg _ (by decide), Int.fmod_eq_emod_of_nonneg _ (by decide), wsum_app, wsum_app]
  show (wsum 0 p + ((x : Int) * (((0 + p.length : Nat) : Int) + 1) + ((y : Int) * (((0 + p.length + 1 : Nat) : Int) + 1) + wsum (0 + p.length + 1 + 1) r))) % 1000003 ≠ (wsum 0 p + ((y : Int) * (((0 + p.length : Nat) : Int) + 1) + ((x : Int) * (((0 + p.length + 1 : Nat) : Int) + 1) + wsum (0 + p.length + 1 + 1) r))) % 1000003
  generalize wsum 0 p = a
  generalize wsum (0 + p.length + 1 + 1) r = b
  have e : ((0 + p.length + 1 : Nat) : Int) + 1 = (((0 + p.length : Nat) : Int) + 1) + 1 := by omega
  rw [e]
  generalize ((0 + p.length : Nat) : Int) + 1 = k
  rw [Int.mul_add, Int.mul_add, Int.mul_one, Int.mul_one]
  generalize (x : Int) * k = u
  generalize (y : Int) * k = v
  omega
theorem split_at {l : List Nat} {p x : Nat} (h : l[p]? = some x) : l = l.take p ++ x :: l.drop (p + 1) := by
  have hp := (List.getElem?_eq_some_iff.mp h).1
  conv => lhs; rw [← List.take_append_drop p l, List.drop_eq_getElem_cons hp]
  rw [(List.getElem?_eq_some_iff.mp h).2]
end
end Ev

set_option autoImplicit false
set_option maxHeartbeats 2000000
namespace Ev
open PySem PySem.Spec PyProof.Rows L2 TL
section
variable {A B : List Nat} {L S L' S' : Nat} {b c : List Nat}
theorem RowL.mem (h : RowL A L S b) {x : Nat} (hx : x ∈ b) : x ∈ A := by
  rw [h.eq]
  simp [hx]
/-- the first number of one is the beginning of the other's, but the rows are as long -/
theorem RowL.never (h : RowL A L S b) (k : RowL B L' S' c) (len : B.length = A.length) (lt : (numL L).length < (numL L').length) (ag : ∀ j, j < (numL L).length → A[j]? = B[j]?) : False := by
  have far := longer lt fun j hj => by rw [← h.lAt hj, ag j hj, k.lAt (by omega)]
  have s1 := h.size
  have s2 := k.size
  have a1 := h.seven
  have a2 := k.oneS
  omega
theorem RowL.same (h : RowL A L S b) (k : RowL B L S' c) (e : b = c) : A = B := by
  subst e
  have : S = S' := by
    have := h.sum
    have := k.sum
    omega
  rw [h.eq, k.eq, this]
theorem some_at {l : List Nat} {p : Nat} (h : p < l.length) : ∃ x, l[p]? = some x := ⟨_, List.getElem?_eq_getElem h⟩
theorem RowL.flip (h : RowL A L S b) (k : RowL B L' S' c) (hA : ∀ x ∈ A, x < 128) (hB : ∀ x ∈ B, x < 128) (few : L < 5000) {i : Nat} (len : B.length = A.length) (ag : ∀ j, j ≠ i → A[j]? = B[j]?) : A = B := by
  rcases Nat.lt_trichotomy (numL L).length (numL L').length with lt | e | gt
  · exact (h.never k len lt fun j hj => ag j fun z => by
      subst z
      have b1 := h.blank
      rw [ag _ (by omega)] at b1
      exact k.dig lt b1).elim
  · by_cases i1 : i < (numL L).length
    · exact h.sameTail k e fun j hj => ag j (by omega)
    · have eL := h.sameL k e fun j hj => ag j (by omega)
      subst eL
      have s1 := h.size
      have s2 := k.size
      by_cases i2 : i ≤ (numL L).length + 1 + (numL S).length
      · refine h.same k (List.ext_getElem? fun j => ?_)
        have q := h.body j
        rw [ag _ (by omega), show (numL S).length = (numL S').length by omega, k.body] at q
        exact q.symm
      · have eS := h.sameS k (by omega) fun j h1 h2 => ag j (by omega)
        subst eS
        obtain ⟨p, rfl⟩ : ∃ p, i = (numL L).length + 1 + (numL S).length + 1 + p := ⟨i - ((numL L).length + 1 + (numL S).length + 1), by omega⟩
        have agb : ∀ j, j ≠ p → b[j]? = c[j]? := fun j hj => by
          rw [← h.body j, ag _ (by omega), k.body j]
        by_cases hp : p < L
        · obtain ⟨x, eb⟩ := some_at (l := b) (p := p) (by rw [h.len]; exact hp)
          obtain ⟨y, ec⟩ := some_at (l := c) (p := p) (by rw [k.len]; exact hp)
          have sb := split_at eb
          have sc := split_at ec
          have t1 : c.take p = b.take p := List.ext_getElem? fun j => by
            rw [List.getElem?_take, List.getElem?_take]
            split
            · exact (agb j (by omega)).symm
            · rfl
          have t2 : c.drop (p + 1) = b.drop (p + 1) := List.ext_getElem? fun j => by
            rw [List.getElem?_drop, List.getElem?_drop]
            exact (agb _ (by omega)).symm
          rw [t1, t2] at sc
          by_cases ne : x = y
          · exact h.same k (by rw [sb, sc, ne])
          · exfalso
            refine sum_flip (p := b.take p) (r := b.drop (p + 1)) (hA _ (h.mem (List.mem_of_getElem? eb))) (hB _ (k.mem (List.mem_of_getElem? ec))) ne (by rw [List.length_take]; omega) ?_
            rw [← sb, ← sc, ← h.sum, ← k.sum]
        · refine h.same k (List.ext_getElem? fun j => ?_)
          by_cases hj : j = p
          · subst hj
            rw [List.getElem?_eq_none (by rw [h.len]; omega), List.getElem?_eq_none (by rw [k.len]; omega)]
          · exact agb j hj
  · exact (k.never h len.symm gt fun j hj => (ag j fun z => by
      subst z
      have b1 := k.blank
      rw [← ag _ (by omega)] at b1
      exact h.dig gt b1).symm).elim
theorem RowL.swapLt (h : RowL A L S b) (k : RowL B L' S' c) {i x y : Nat} (len : B.length = A.length) (a0 : A[i]? = some x) (a1 : A[i + 1]? = some y) (b0 : B[i]? = some y) (b1 : B[i + 1]? = some x) (ag : ∀ j, j ≠ i → j ≠ i + 1 → A[j]? = B[j]?)
    (lt : (numL L).length < (numL L').length) : False := by
  have bl := h.blank
  refine h.never k len lt fun j hj => ?_
  by_cases c1 : (numL L).length = i
  · exact ag j (by omega) (by omega)
  · by_cases c2 : (numL L).length = i + 1
    · -- the blank goes ahead, among the figures
      exfalso
      rw [c2, a1] at bl
      rw [Option.some.inj bl] at b0
      exact k.dig (by omega) b0
    · exfalso
      rw [ag _ c1 c2] at bl
      exact k.dig lt bl
theorem RowL.swap (h : RowL A L S b) (k : RowL B L' S' c) (hA : ∀ x ∈ A, x < 128) {i x y : Nat} (ne : x ≠ y) (len : B.length = A.length) (a0 : A[i]? = some x) (a1 : A[i + 1]? = some y) (b0 : B[i]? = some y) (b1 : B[i + 1]? = some x)
    (ag : ∀ j, j ≠ i → j ≠ i + 1 → A[j]? = B[j]?) : False := by
  have noAB : A ≠ B := fun e => ne (by rw [e, b0] at a0; exact (Option.some.inj a0).symm)
  rcases Nat.lt_trichotomy (numL L).length (numL L').length with lt | e | gt
  · exact h.swapLt k len a0 a1 b0 b1 ag lt
  · have bA := h.blank
    have bB := k.blank
    rw [← e] at bB
    have n1 : i ≠ (numL L).length := fun z => by
      rw [← z, a0] at bA
      rw [← z, b0] at bB
      exact ne ((Option.some.inj bA).trans (Option.some.inj bB).symm)
    have n2 : i + 1 ≠ (numL L).length := fun z => by
      rw [← z, a1] at bA
      rw [← z, b1] at bB
      exact ne ((Option.some.inj bB).trans (Option.some.inj bA).symm)
    by_cases i1 : i < (numL L).length
    · exact noAB (h.sameTail k e fun j hj => ag j (by omega) (by omega))
    · have eL := h.sameL k e fun j hj => ag j (by omega) (by omega)
      subst eL
      have s1 := h.size
      have s2 := k.size
      have eS : (numL S).length = (numL S').length := by omega
      have cA := h.blank2
      have cB := k.blank2
      rw [← eS] at cB
      have n3 : i ≠ (numL L).length + 1 + (numL S).length := fun z => by
        rw [← z, a0] at cA
        rw [← z, b0] at cB
        exact ne ((Option.some.inj cA).trans (Option.some.inj cB).symm)
      have n4 : i + 1 ≠ (numL L).length + 1 + (numL S).length := fun z => by
        rw [← z, a1] at cA
        rw [← z, b1] at cB
        exact ne ((Option.some.inj cB).trans (Option.some.inj cA).symm)
      by_cases i2 : i < (numL L).length + 1 + (numL S).length
      · refine noAB (h.same k (List.ext_getElem? fun j => ?_))
        have q := h.body j
        rw [ag _ (by omega) (by omega), eS, k.body] at q
        exact q.symm
      · have eSS := h.sameS k eS fun j h1 h2 => ag j (by omega) (by omega)
        subst eSS
        obtain ⟨p, rfl⟩ : ∃ p, i = (numL L).length + 1 + (numL S).length + 1 + p := ⟨i - ((numL L).length + 1 + (numL S).length + 1), by omega⟩
        have agb : ∀ j, j ≠ p → j ≠ p + 1 → b[j]? = c[j]? := fun j h1 h2 => by rw [← h.body j, ag _ (by omega) (by omega), k.body j]
        rw [h.body] at a0
        rw [k.body] at b0
        rw [show (numL L).length + 1 + (numL S).length + 1 + p + 1 = (numL L).length + 1 + (numL S).length + 1 + (p + 1) by omega] at a1 b1
        rw [h.body] at a1
        rw [k.body] at b1
        have two : ∀ {l : List Nat} {u v : Nat}, l[p]? = some u → l[p + 1]? = some v → l = l.take p ++ u :: v :: l.drop (p + 2) := fun {l u v} e1 e2 => by
          have q := split_at e1
          have q2 : l.drop (p + 1) = v :: l.drop (p + 2) := by
            have hp := (List.getElem?_eq_some_iff.mp e2).1
            rw [List.drop_eq_getElem_cons hp, (List.getElem?_eq_some_iff.mp e2).2]
          rw [q2] at q
          exact q
        have sb := two a0 a1
        have sc := two b0 b1
        have t1 : c.take p = b.take p := List.ext_getElem? fun j => by
          rw [List.getElem?_take, List.getElem?_take]
          split
          · exact (agb j (by omega) (by omega)).symm
          · rfl
        have t2 : c.drop (p + 2) = b.drop (p + 2) := List.ext_getElem? fun j => by
          rw [List.getElem?_drop, List.getElem?_drop]
          exact (agb _ (by omega) (by omega)).symm
        rw [t1, t2] at sc
        refine sum_swap (p := b.take p) (r := b.drop (p + 2)) (hA _ (h.mem (List.mem_of_getElem? a0))) (hA _ (h.mem (List.mem_of_getElem? a1))) ne ?_
        rw [← sb, ← sc, ← h.sum, ← k.sum]
  · exact k.swapLt h len.symm b0 b1 a0 a1 (fun j h1 h2 => (ag j h1 h2).symm) gt
theorem RowL.early (h : RowL A L S b) {i : Nat} (k : RowL (A.take i) L' S' c) (hi : i < A.length) : False := by
  have lB : (A.take i).length = i := by rw [List.length_take]; omega
  have ag : ∀ j, j < i → (A.take i)[j]? = A[j]? := fun j hj => by rw [List.getElem?_take, if_pos hj]
  have s1 := h.size
  have s2 := k.size
  rw [lB] at s2
  have eL : (numL L).length = (numL L').length := by
    rcases Nat.lt_trichotomy (numL L).length (numL L').length with lt | e | gt
    · have := h.blank
      rw [← ag _ (by omega)] at this
      exact (k.dig lt this).elim
    · exact e
    · have := k.blank
      rw [ag _ (by omega)] at this
      exact (h.dig gt this).elim
  have e1 := h.sameL k eL fun j hj => (ag j (by omega)).symm
  subst e1
  have eS : (numL S).length = (numL S').length := by
    rcases Nat.lt_trichotomy (numL S).length (numL S').length with lt | e | gt
    · have := h.blank2
      rw [← ag _ (by omega)] at this
      exact (k.dig2 (by omega) (by omega) this).elim
    · exact e
    · have := k.blank2
      rw [ag _ (by omega)] at this
      exact (h.dig2 (by omega) (by omega) this).elim
  omega
end
/-- no row is told of a text where there is none -/
theorem none_of {t : Str} (h : ∀ L S b, ¬ RowL (tl t) L S b) : bodyOf t = .non := by
  unfold bodyOf
  by_cases e : rowT (bodyT t) = t
  · obtain ⟨S, r⟩ := row_l (bodyT t)
    rw [e] at r
    exact (h _ _ _ r).elim
  · rw [if_neg e]
end Ev

set_option maxHeartbeats 2000000
namespace Ev
open PySem PySem.Spec PyProof.Rows L2
open Sem (wp)
section
variable {M : Model} {A : Around} {E : Value → Shared → Prop} {s : Shared} {env : Env}
theorem callWith_type_kwB {pos : Pos} {T : String} {first : List Value} {args : List (Bool × Sem Value)} {keywords : List (Option Str × Sem Value)} {Q : Value → Shared → Prop}
    (hplain : args.any (·.1) = false) (hkw : keywords.any (·.1.isNone) = false)
    (h : wpAny M A (evalArgs (.type T) true args keywords) (fun a s1 => wpAny M A (call (.type T) (first ++ a.pos) a.kw) Q E s1) E s) :
    wpAny M A (callWith pos (.type T) first args keywords) Q E s := by
  unfold callWith
  refine wpAny_bind (wpAny_holding (wpAny_mono h (fun a s1 h1 => wpAny_bind (wpAny_standAt ?_)) fun _ _ x => x))
  simp only [hplain, hkw, Bool.or_false]
  refine wpAny_bind (wpAny_pure ?_)
  exact wpAny_bind (wpAny_mono h1 (fun r s2 hr => wpAny_bind (wpAny_holding (wpAny_point (wpAny_pure hr)))) fun _ _ x => x)
theorem callWith_type_kw {pos : Pos} {T : String} {e : Expr} {rest : List Expr} {kws : List Keyword} {Q : Value → Shared → Prop}
    (h : wpAny M A (spliced (backTo pos (starEach (e :: rest) env))) (fun vs s1 => wpAny M A (evalAll ((backToKw pos (keywordEach kws env)).map (·.2)))
      (fun kvs s2 => wpAny M A (call (.type T) vs (((backToKw pos (keywordEach kws env)).filterMap (·.1)).zip kvs)) Q E s2) E s1) E s)
    (he : starEach (e :: rest) env = (false, eval e env) :: starEach rest env := by rfl)
    (hplain : (backTo pos (starEach (e :: rest) env)).any (·.1) = false := by rfl)
    (hall : (backToKw pos (keywordEach kws env)).all (·.1.isSome) = true := by rfl)
    (hkw : (backToKw pos (keywordEach kws env)).any (·.1.isNone) = false := by rfl) :
    wpAny M A (callWith pos (.type T) [] (backTo pos (starEach (e :: rest) env)) (backToKw pos (keywordEach kws env))) Q E s := by
  refine callWith_type_kwB hplain hkw ?_
  rw [he] at h ⊢
  exact PyProof.Rows.evalArgs_kwB hall h
end
/-- enumerate(text, start=k): each sign in a new pair -/
def ItEs (x : Str) (k : Int) : It := ⟨fun i _ => i < x.cps.size, fun i H v H' => ∃ T c, x.cps[i]? = some c ∧ v = .ref T ∧ H T = none ∧ H' = upd H T (.tup [.int (k + (i : Int)), .str ⟨#[c]⟩]), fun i _ => x.cps.size ≤ i⟩
abbrev SignP (x : Str) : Nat → Value → Prop := fun i v => ∃ c u, x.cps[i]? = some c ∧ v = .str ⟨#[c]⟩ u
theorem drawsOf {prog : Program} {w : World} {A : Around} (hh : A.handled = none) (it : Addr) (x : Str) (t : Tok) : ∃ n, Draws prog w A it [it] n (SignP x) (fun i h => h.IsStrIter it (strIterType x) x t i) ∧ n = x.cps.size := by
  refine ⟨_, ?_, rfl⟩
  unfold strIterType
  cases ha : x.cps.all (· < 128)
  · first | exact Draws.strWide hh it x t | (simp only [ha]; exact Draws.strWide hh it x t)
  · first | exact Draws.strAscii hh it x t | (simp only [ha]; exact Draws.strAscii hh it x t)
theorem turn_enumS {P : Program} {w : World} {K : PySem.W.Frag} {elts : List Expr} {kk : Nat} {tpos : Pos} (x : Str) (t : Tok) (k : Int) (e it : Addr) (hne : e ≠ it) :
    Turn P w K (.Tuple elts kk tpos) (ItEs x k) [e, it] e (fun i h => i ≤ x.cps.size ∧ (∃ old, IsEnum h e it (k + (i : Int)) old) ∧ h.IsStrIter it (strIterType x) x t i) where
  mem := by simp
  obj := fun i h st b hb => by
    obtain ⟨_, ⟨old, he⟩, ⟨o, ho, hc, hd⟩⟩ := st
    have e' : b = e ∨ b = it := by simpa using hb
    rcases e' with z | z
    · rw [z]; exact ⟨_, he, fun v q => nomatch q⟩
    · rw [z]; exact ⟨o, ho, fun v q => by rw [hd] at q; cases q⟩
  keep := fun i h h' st kk => by
    obtain ⟨hi, ⟨old, he⟩, ⟨o, ho, r⟩⟩ := st
    exact ⟨hi, ⟨old, kk e (by simp) _ he⟩, ⟨o, kk it (by simp) o ho, r⟩⟩
  item := by
    intro X hP hw hK hc i pins s σ H E I hf st hg
    subst hP hw hK
    obtain ⟨hi, st1, st2⟩ := st
    have hh : X.A.in1.handled = none := I.ok.hd hc
    obtain ⟨n, D, hn⟩ := drawsOf (prog := X.prog) (w := X.w) hh it x t
    have W := GoesN.enumFrom (elts := elts) (x1 := kk) (pos := tpos) k D e hne (by simpa using hne) (by simp)
    have hel : e < s.heap.objs.size := by obtain ⟨_, he⟩ := st1; exact Heap.lt_size he
    have hil : it < s.heap.objs.size := by obtain ⟨_, q, _⟩ := st2; exact Heap.lt_size q
    refine wpAny_mono (W.goes i s (fun v s2 => ∃ y H', Inv X pins σ H' s2 ∧ RelV y v ∧ (ItEs x k).yld i H y H' ∧ (i + 1 ≤ x.cps.size ∧ (∃ old, IsEnum s2.heap e it (k + ((i + 1 : Nat) : Int)) old) ∧ s2.heap.IsStrIter it (strIterType x) x t (i + 1)) ∧ ∀ b ∈ [e, it], H' b = none) E (by rw [hn]; exact hg) ⟨st1, st2⟩ ?_) (fun r s1 q => q) fun _ _ q => q
    rintro v h' tk ⟨T, t1, y, rfl, hT0, ⟨c, u, hcx, rfl⟩, hT⟩ ⟨he', hit'⟩ hk htk
    obtain ⟨oT, hoT, hcT, nT, hdT⟩ := hT
    have hsm : H T = none := I.hok.fresh hT0
    have new : ObjOk X.prog X.w (upd H T (.tup [.int (k + (i : Int)), .str ⟨#[c]⟩])) h' T (.tup [.int (k + (i : Int)), .str ⟨#[c]⟩]) :=
      ⟨by show 2 ≤ sizeLine; decide, [.int (k + (i : Int)) t1, .str ⟨#[c]⟩ u], .cons ⟨_, rfl⟩ (.cons ⟨_, rfl⟩ .nil), ⟨oT, hoT, hcT, nT, hdT⟩⟩
    have I1 : Inv X pins σ (upd H T (.tup [.int (k + (i : Int)), .str ⟨#[c]⟩])) { s with heap := h', toks := tk } :=
      I.turnedNew (ch := [e, it]) (fun b ob hb q => hk b ob hb q) hf hT0 new
    refine ⟨.ref T, _, I1, rfl, ⟨T, c, hcx, rfl, hsm, rfl⟩, ⟨hg, he', hit'⟩, fun b hb => ?_⟩
    have hb' : b < s.heap.objs.size := by
      have e' : b = e ∨ b = it := by simpa using hb
      rcases e' with z | z
      · rw [z]; exact hel
      · rw [z]; exact hil
    rw [upd_ne (Nat.ne_of_lt (Nat.lt_of_lt_of_le hb' hT0))]
    exact (hf b hb).1
  done := by
    intro X hP hw hK hc i pins s σ H E I hf st hg
    subst hP hw hK
    obtain ⟨hi, st1, st2⟩ := st
    have hh : X.A.in1.handled = none := I.ok.hd hc
    obtain ⟨n, D, hn⟩ := drawsOf (prog := X.prog) (w := X.w) hh it x t
    have W := GoesN.enumFrom (elts := elts) (x1 := kk) (pos := tpos) k D e hne (by simpa using hne) (by simp)
    have hin : i = n := by rw [hn]; exact Nat.le_antisymm hi hg
    subst hin
    obtain ⟨f0, f1, f2, f3, f4, f5⟩ := hf it (by simp)
    refine wpAny_mono (W.stops s (fun s1 => Inv X pins σ H s1) E ⟨st1, st2⟩ fun h' tk hk htk => ?_) (fun r s1 q => q) fun _ _ q => q
    exact I.turnedL (ch := [e, it]) hk hf
  self := fun A i s Q E st h => let ⟨_, ⟨_, he⟩, _⟩ := st; wpAny_pyIter_enum he h

def iEnumS (ta tk : TA) : TI := fun σ H R => ta σ H fun vs H1 => tk σ H1 fun zs H2 => ∃ x k, vs = [.str x] ∧ zs = [.int k] ∧ -(2 ^ 63) ≤ k ∧ k < 2 ^ 63 ∧ R (ItEs x k) H2
theorem pi_enumS {X : Cx} {e : Expr} {ta tk : TA} {p pos tpos : Pos} {elts : List Expr} {kk : Nat} {kws : List Keyword} (hg : Gl X "enumerate") (hm : X.mg "enumerate" = none) (ha : PA X [e] ta) (hk : PK X kws tk)
    (hs : starEach [e] X.env = (false, eval e X.env) :: starEach [] X.env := by rfl) (hpl : (backTo pos (starEach [e] X.env)).any (·.1) = false := by rfl)
    (hall : (backToKw pos (keywordEach kws X.env)).all (·.1.isSome) = true := by rfl) (hnone : (backToKw pos (keywordEach kws X.env)).any (·.1.isNone) = false := by rfl)
    (hks : (backToKw pos (keywordEach kws X.env)).filterMap (·.1) = [Str.ofString "start"] := by rfl) :
    PI X (.Tuple elts kk tpos) (.Call (.Name "enumerate" p) [e] kws pos) (iEnumS ta tk) := by
  refine ⟨fun pins s σ H R I h => ?_⟩
  refine wpAny_Call_Name_kw (ld_blt I hg hm boot_enumerate ?_)
  refine callWith_type_kw (thn (ha.run pos pins s σ H _ I h) fun us s1 ⟨vs, H1, I1, r1, q1⟩ => thn (hk.run pos pins s1 σ H1 _ I1 q1) fun ws s2 ⟨zs, H2, I2, r2, q2⟩ => ?_) hs hpl hall hnone
  rw [hks]
  obtain ⟨x, k, rfl, rfl, k0, k1, q⟩ := q2
  cases r1 with
  | cons ra rr =>
  cases rr
  cases r2 with
  | cons rb rr =>
  cases rr
  obtain ⟨t, rfl⟩ := ra
  obtain ⟨t2, rfl⟩ := rb
  show wpAny _ _ (call (.type "enumerate") [.str x t] [(Str.ofString "start", .int k t2)]) _ _ _
  refine enum_begins_start (begins_text x t) trivial k0 k1 fun h' he hit hsz hkeep => wpAny_pyIter_enum he ?_
  have I3 : Inv X pins σ H2 { s2 with heap := h' } := I2.kept (t' := s2.toks) hkeep
  refine ⟨s2.heap.objs.size + 1, [s2.heap.objs.size + 1, s2.heap.objs.size], _, _, H2, rfl, I3, turn_enumS x t k (s2.heap.objs.size + 1) s2.heap.objs.size (Nat.succ_ne_self _), ⟨Nat.zero_le _, ⟨.none, ?_⟩, ⟨_, hit, rfl, ?_⟩⟩, fun b hb => ?_, q⟩
  · simpa using he
  · rfl
  · have e' : b = s2.heap.objs.size + 1 ∨ b = s2.heap.objs.size := by simpa using hb
    have hle : s2.heap.objs.size ≤ b := by
      rcases e' with z | z
      · rw [z]; exact Nat.le_add_right _ _
      · rw [z]; exact Nat.le_refl _
    exact I2.fpOk hle (I2.hok.fresh hle)
/-! ### text * int -/
theorem mul_len {x : Str} {n : Int} (h0 : 0 ≤ n) : (Txt.mul x n).length ≤ x.length * n.toNat := by
  unfold Txt.mul
  by_cases h1 : n < 1
  · rw [if_pos h1]; exact Nat.zero_le _
  · rw [if_neg h1]
    by_cases h2 : (n == 1 || x.length == 0) = true
    · rw [if_pos h2]
      have : 1 ≤ n.toNat := by omega
      exact Nat.le_mul_of_pos_right _ this
    · rw [if_neg h2]
      show ((List.replicate n.toNat x.cps).foldl (· ++ ·) #[]).size ≤ x.length * n.toNat
      rw [size_reps]
      show 0 + n.toNat * x.cps.size ≤ x.cps.size * n.toNat
      rw [Nat.mul_comm]
      omega
theorem op_mulS {X : Cx} : OpR X (binaryOp .Mult) (fun x y H Q => ∃ z k, x = .str z ∧ y = .int k ∧ 0 ≤ k ∧ k ≤ 16777216 ∧ z.length * k.toNat ≤ sizeLine ∧ Q (.str (Txt.mul z k)) H) := by
  intro pins s σ H x y v u Q I rx ry h
  obtain ⟨z, k, rfl, rfl, k0, k1, hz, q⟩ := h
  obtain ⟨t, rfl⟩ := rx
  obtain ⟨t', rfl⟩ := ry
  refine SB.mul ⟨?_, fun h1 h2 h3 => ?_, fun _ _ => ?_⟩ fun t2 tk => ⟨.str (Txt.mul z k), H, I.tok _, ⟨_, rfl⟩, q⟩
  · rw [decide_eq_false (by omega), decide_eq_false (by omega)]; rfl
  · have hk1 : 1 ≤ k.toNat := by omega
    have h4 : z.length ≤ z.length * k.toNat := Nat.le_mul_of_pos_right _ hk1
    have h5 : sizeLine = 16777216 := by decide
    have e : ((z.length * k.toNat : Nat) : Int) = (z.length : Int) * k := by rw [Int.natCast_mul, Int.toNat_of_nonneg k0]
    have h6 : (z.length : Int) ≤ (2 ^ 63 - 1) / k := Int.le_ediv_of_mul_le (by omega) (by omega)
    omega
  · unfold Builtin.Str.tooLong
    exact decide_eq_false (by omega)
/-! ### text[::-1] -/
def revS (x : Str) : Str := ⟨x.cps.toList.reverse.toArray⟩
theorem revS_len (x : Str) : (revS x).length = x.length := by
  show x.cps.toList.reverse.toArray.size = x.cps.size
  simp
theorem sliceBy_rev (x : Str) (u : Tok) : Txt.sliceBy x none none (-1, u) = revS x := by
  refine TL.ext_tl ?_
  show (Txt.sliceBy x none none (-1, u)).cps.toList = x.cps.toList.reverse
  rw [step_rev_list]
  refine List.ext_getElem (by simp [Str.length]) fun i h1 h2 => ?_
  have hi : i < x.cps.size := by simpa [Str.length] using h1
  have hj : x.length - 1 - i < x.cps.size := by
    show x.cps.size - 1 - i < x.cps.size
    omega
  simp only [List.getElem_map, List.getElem_range, List.getElem_reverse, Array.getElem_toList]
  show x.cps.getD (x.length - 1 - i) 0 = _
  unfold Array.getD
  rw [dif_pos hj]
  rfl
def tRevS (te : TE) : TE := fun σ H Q => te σ H fun x H1 => ∃ z, x = .str z ∧ z.length ≤ sizeLine ∧ Q (.str (revS z)) H1
theorem pe_revS {X : Cx} {e : Expr} {te : TE} {k : Nat} {p1 p2 p3 pos : Pos} (he : PE X e te) : PE X (.Subscript e (.Slice none none (some (.UnaryOp .USub (.Constant (.int 1) k p1) p2)) p3) pos) (tRevS te) := by
  refine ⟨fun pins s σ H Q I h => ?_⟩
  refine Subscript_ (thn (he.run pins s σ H _ I h) fun v s1 ⟨x, H1, I1, r1, q1⟩ => ?_)
  obtain ⟨z, rfl, hz, q⟩ := q1
  obtain ⟨t, rfl⟩ := r1
  have hst : PO X (some (.UnaryOp .USub (.Constant (.int 1) k p1) p2)) (tPart (tUn (rU fun i => .int (-i)) (tC (.int 1)))) := po_some (pe_un un_neg pe_int)
  refine wpAny_Slice (thn (po_none.run pins s1 σ H1 (fun o H2 => o = none ∧ H2 = H1) I1 ⟨rfl, rfl⟩) fun vl s2 ⟨l, H2, I2, pl, el, e2⟩ => ?_)
  subst el e2
  refine thn (po_none.run pins s2 σ H2 (fun o H3 => o = none ∧ H3 = H2) I2 ⟨rfl, rfl⟩) fun vu s3 ⟨u, H3, I3, pu, eu, e3⟩ => ?_
  subst eu e3
  refine thn (hst.run pins s3 σ H3 (fun o H4 => o = some (-1) ∧ H4 = H3) I3 ⟨1, rfl, -1, rfl, rfl, rfl⟩) fun vs s4 ⟨o, H4, I4, ps, eo, e4⟩ => ?_
  subst eo e4
  have I5 : Inv X pins σ H4 { s4 with heap := s4.heap.push { cls := .type "slice", data := .fields #[vl, vu, vs] } } := I4.kept (t' := s4.toks) fun b ob q => Heap.get?_push_of_some _ q
  obtain ⟨l, rfl, hl⟩ := IsPart.raw pl
  obtain ⟨w, rfl, hw⟩ := IsPart.raw pu
  obtain ⟨st, rfl, hst2⟩ := IsPart.raw ps
  have el : l = none := by cases l with | none => rfl | some _ => cases hl
  have ew : w = none := by cases w with | none => rfl | some _ => cases hw
  obtain ⟨tk, est⟩ : ∃ tk, st = some (-1, tk) := by
    cases st with
    | none => cases hst2
    | some p =>
      obtain ⟨a, b⟩ := p
      have : a = -1 := Option.some.inj hst2
      exact ⟨b, by rw [this]⟩
  subst el ew est
  show wpAny (model X.prog X.w) X.A (subscriptTail e (.Slice none none (some (.UnaryOp .USub (.Constant (.int 1) k p1) p2)) p3) (.str z t) (.ref s4.heap.objs.size)) (EP X pins σ Q) X.xe { s4 with heap := s4.heap.push { cls := .type "slice", data := .fields #[partValue none, partValue none, partValue (some (-1, tk))] } }
  refine tail_any (ops := [.ref s4.heap.objs.size, .str z t]) (typeIs_str _ _ _) F.slot_str_getitem.lookup ?_ (by with_unfolding_all rfl)
  refine wpAny_getItem_str_slice (l := none) (u := none) (st := some (-1, tk)) ⟨_, Heap.get?_push_size _ rfl, rfl, rfl⟩ rfl ?_
  have hlen : (Txt.sliceBy z none none (-1, tk)).length ≤ sizeLine := by rw [sliceBy_rev, revS_len]; exact hz
  have hr := sliceBy_rev z tk
  unfold Txt.sliceBy at hr hlen
  unfold sliceMade
  have hc : ¬ ((((some ((-1 : Int), tk)).map (·.1)).getD 1 == 1 && (slicePicked z none none (some (-1, tk))).length == z.length) = true) := by
    have : ((((some ((-1 : Int), tk)).map (·.1)).getD 1 == 1)) = false := rfl
    rw [this]; simp
  rw [if_neg hc] at hr hlen ⊢
  exact ⟨hlen, .str _, H4, I5.tok _, ⟨_, rfl⟩, by rw [hr]; exact q⟩
/-! ### great powers -/
def CPowB (i j : Int) : Prop := 0 ≤ j ∧ (Builtin.Int.intBits i : Int) * j ≤ 2 ^ 27
theorem op_powB {X : Cx} : OpR X (binaryOp .Pow) (rI CPowB fun i j => .int (i ^ j.toNat)) := opI fun _ _ _ _ _ _ _ hc q => pow_int hc.1 hc.2 q
/-! ### a list's items behind a written text's sum: a token is out -/
theorem pa_litAdd {X : Cx} {b : Expr} {es : List Expr} {tb : TE} {ta : TA} {x : Str} {j : Nat} {cp bp : Pos} (hb : PE X b tb) (hr : PAT X es ta)
    (hs : starEach (.BinOp (.Constant (.str x) j cp) .Add b bp :: es) X.env = (false, eval (.BinOp (.Constant (.str x) j cp) .Add b bp) X.env) :: starEach es X.env := by rfl) :
    PA X (.BinOp (.Constant (.str x) j cp) .Add b bp :: es) (tCons (tOp (fun u v H Q => ∃ i k, u = .str i ∧ v = .str k ∧ i.length + k.length ≤ sizeLine ∧ Q (.str (i ++ k)) H) (tC (.str x)) tb) ta) := by
  refine ⟨fun pos pins s σ H Q I h => ?_⟩
  rw [hs]
  show wpAny _ _ (spliced ((false, eval (.BinOp (.Constant (.str x) j cp) .Add b bp) X.env) :: backTo pos (starEach es X.env))) _ _ s
  refine Calls.spliced_cons (wpAny_BinOp (Calls.Constant_str ?_))
  have I1 : Inv X pins σ H { s with toks := s.toks + 1 } := I.tok _
  refine wpAny_mono (PySem.wpAny_toks (hb.run pins { s with toks := s.toks + 1 } σ H _ I1 h)) (fun u s2 q => ?_) fun _ _ z => z.2
  obtain ⟨hk, y, H2, I2, r2, q2⟩ := q
  refine wpAny_mono (PySem.wpAny_toks (op_add_str pins s2 σ H2 (.str x) y (.str x s.toks) u (fun w H3 => ta σ H3 fun xs H4 => Q (w :: xs) H4) I2 ⟨_, rfl⟩ r2 q2)) (fun v s3 q => ?_) fun _ _ z => z.2
  obtain ⟨hk3, w, H3, I3, r3, q3⟩ := q
  have h1 : 1 ≤ s3.toks := by
    have : s.toks + 1 ≤ s2.toks := hk
    omega
  exact thn (hr pos pins s3 σ H3 _ h1 I3 q3) fun us s4 ⟨xs, H4, I4, r4, q4⟩ => ⟨w :: xs, H4, I4, .cons r3 r4, q4⟩
end Ev

set_option autoImplicit false
set_option maxHeartbeats 2000000
namespace Ev
open PySem PySem.Spec PyProof.Rows L2 TL
theorem fold_toList : ∀ (L : List (Array Nat)) (acc : Array Nat), (L.foldl (· ++ ·) acc).toList = acc.toList ++ (L.map Array.toList).flatten
  | [], acc => by simp
  | x :: r, acc => by
    rw [List.foldl_cons, fold_toList r, Array.toList_append]
    simp
theorem tl_mul {x : Str} {n : Int} (h0 : 0 ≤ n) : tl (Txt.mul x n) = (List.replicate n.toNat (tl x)).flatten := by
  unfold Txt.mul
  by_cases h1 : n < 1
  · rw [if_pos h1, show n.toNat = 0 by omega]
    rfl
  · rw [if_neg h1]
    by_cases h2 : (n == 1 || x.length == 0) = true
    · rw [if_pos h2]
      rcases Bool.or_eq_true_iff.mp h2 with h | h
      · have e : n = 1 := by simpa using h
        subst e
        show tl x = [tl x].flatten
        simp
      · have e : x.length = 0 := by simpa using h
        have e2 : tl x = [] := List.length_eq_zero_iff.mp (by rw [← len_tl]; exact e)
        rw [e2]
        simp
    · rw [if_neg h2]
      show ((List.replicate n.toNat x.cps).foldl (· ++ ·) #[]).toList = _
      rw [fold_toList, List.map_replicate]
      rfl
theorem mem_mul {x : Str} {n : Int} (h0 : 0 ≤ n) {c : Nat} (h : c ∈ tl (Txt.mul x n)) : c ∈ tl x := by
  rw [tl_mul h0] at h
  obtain ⟨l, hl, hc⟩ := List.mem_flatten.mp h
  rw [List.eq_of_mem_replicate hl] at hc
  exact hc
end Ev

set_option maxHeartbeats 2000000
namespace Ev
open PySem PySem.Spec PyProof.Rows L2 TL
def top (i : Nat) : Stmt := PySem.Challenge.pw_eventledger_k05_whole_each_flip_is_found.main.body.getD i (.Pass ⟨0, 0, 0, 0⟩)
abbrev FnP (K : PySem.W.Frag) (x : Str) (st : Stmt) (f : Addr) (fd : FuncData) : Prop := FunD K x x (defArgs st) (defBody st) (defScope st) [] [] f fd
abbrev FnS (K : PySem.W.Frag) (x : Str) (st : Stmt) (f : Addr) (fd : FuncData) : Prop := FunD K x x (defArgs st) (defBody st) (defScope st) [] [("modulus", .int 1000003)] f fd
abbrev sSum : Stmt := top 2
abbrev sFramed : Stmt := top 3
abbrev sBody : Stmt := top 4
theorem same_upd {H : Hp} {p : Addr} {o : HO} (h : H p = none) : Same H (upd H p o) := fun b x e => by
  rw [upd_ne (ne_of_none e h)]
  exact e
theorem scSum : FnScope ["text", "modulus", "total", "place", "sign"] ["text", "modulus"] (defScope sSum) := ⟨rfl, rfl, rfl, by decide +kernel, rfl, by decide +kernel, by decide +kernel⟩
def spSum : Sp := fun vs H Q _ => ∃ (z : Str) (m : Int), vs = [.str z, .int m] ∧ z.length ≤ sizeLine ∧ 0 < m ∧ ∀ H', Same H H' → Q (.int (sumBy z m)) H'
section
variable {P : Program} {w : World} {K : PySem.W.Frag} {mg : Str → Option Value} {base : Heap}
theorem ok_sum {f : Addr} {fd : FuncData} {k : Nat} (F : FnS K "sum_of" sSum f fd) (me : mg "enumerate" = none) (mo : mg "ord" = none) : FnOk P w K mg base CX0 (k + 1) f fd ["text", "modulus"] spSum := by
  refine F.ok scSum (fun vs H Q E h => ?_) (fun cdv A outer s H vs Q E hr h => ?_)
  · obtain ⟨z, m, rfl, _⟩ := h
    rfl
  · obtain ⟨z, m, rfl, hz, hm, q⟩ := h
    refine ⟨_, PSs.nox (pss_cons (ps_set (i := 2) scSum.nd rfl (.inl rfl) pe_int)
      (pss_cons (ps_for PassesOwn.never rfl (pi_enumS (by rfl) me (pa_cons (pv 0) pa_nil) (pk_cons pe_int pk_nil))
          (pg_tup rfl (pgs_cons (pg_name (i := 3) scSum.nd rfl (.inl rfl)) (pgs_cons (pg_name (i := 4) scSum.nd rfl (.inl rfl)) pgs_nil)))
        (pss_one (ps_aug (i := 2) scSum.nd rfl (.inl rfl) (pe_op op_mul (pe_callB call_ord (by rfl) mo (by decide +kernel) (pa_cons (pv 4) pa_nil)) (pv 3)) ip_add)))
      (pss_one (ps_ret (pe_op op_modN (pv 2) (pv 1)))))), ?_⟩
    refine ⟨.str z, rfl, z, 1, rfl, rfl, by decide, by decide, ?_⟩
    refine ⟨fun i n σ H3 => ∃ y3 y4, σ = [some (.str z), some (.int m), some (.int (wsum 0 ((tl z).take i))), y3, y4] ∧ i + n = (tl z).length ∧ Same H H3,
      ⟨(tl z).length, none, none, rfl, by omega, Same.refl _⟩, fun i n σ H3 hW => ?_⟩
    obtain ⟨y3, y4, rfl, en, sm⟩ := hW
    have hlz : z.cps.size = (tl z).length := len_tl z
    by_cases hi : i < (tl z).length
    · refine .inr ⟨by show i < z.cps.size; omega, fun σ' H' => ∃ y3 y4, σ' = [some (.str z), some (.int m), some (.int (wsum 0 ((tl z).take (i + 1)))), y3, y4] ∧ Same H H', fun σ' H' hN => ?_, fun x H' hy => ?_⟩
      · obtain ⟨y3, y4, e, s2⟩ := hN
        exact ⟨n - 1, by omega, y3, y4, e, by omega, s2⟩
      · obtain ⟨T, c, hc, rfl, nT, rfl⟩ := hy
        have hc' : (tl z)[i]? = some c := by
          rw [← hc]; simp
        refine ⟨T, _, rfl, .inl (.inl upd_same), rfl, _, _, rfl, _, _, rfl, rfl, ?_⟩
        refine ⟨_, rfl, _, rfl, ⟨#[c]⟩, rfl, rfl, _, rfl, _, _, rfl, rfl, .inr ?_, _, _, rfl, rfl, ?_⟩
        · have : sizeLine = 16777216 := by decide
          have := len_tl z
          omega
        · refine ⟨some (.int (1 + (i : Int))), some (.str ⟨#[c]⟩), ?_, sm.trans (same_upd nT)⟩
          rw [wsum_take hc']
          have e1 : (1 : Int) + (i : Int) = (i : Int) + 1 := by omega
          rw [← e1]
          rfl
    · refine .inl ⟨by show z.cps.size ≤ i; omega, ?_⟩
      have e : (tl z).take i = tl z := List.take_of_length_le (by omega)
      rw [e]
      exact ⟨_, rfl, _, rfl, _, _, rfl, rfl, by omega, q H3 sm⟩
/-! ### framed, body_of -/
theorem small_log {n : Nat} (h : n < 2 ^ 64) : n.log2 < 1920 := by
  by_cases h0 : n = 0
  · subst h0; decide
  · exact (Nat.log2_lt h0).mpr (Nat.lt_of_lt_of_le h (Nat.pow_le_pow_right (by decide) (by decide)))
theorem num_len {n : Int} (h0 : 0 ≤ n) (h : n < 10 ^ 8) : (num n).length ≤ 8 := by
  obtain ⟨k, rfl⟩ := Int.eq_ofNat_of_zero_le h0
  rw [len_tl, tl_num]
  exact numL_len (by decide) (by omega)
theorem app_len (x y : Str) : (x ++ y).length = x.length + y.length := by
  rw [len_tl, tl_append, List.length_append, ← len_tl, ← len_tl]
theorem app_assoc (x y z : Str) : x ++ y ++ z = x ++ (y ++ z) := ext_tl (by rw [tl_append, tl_append, tl_append, tl_append, List.append_assoc])
theorem emp_app (x : Str) : Str.empty ++ x = x := ext_tl (by rw [tl_append]; rfl)
theorem szl : sizeLine = 16777216 := by decide
theorem sp_len : sp.length = 1 := by rw [len_tl, tl_sp]; rfl
theorem sum_range (z : Str) {m : Int} (hm : 0 < m) : 0 ≤ sumBy z m ∧ sumBy z m < m := by
  obtain ⟨k, e, h⟩ := sumBy_nat (b := z) hm
  rw [e]
  exact ⟨by omega, h⟩
theorem scFramed : FnScope ["body"] ["body"] (defScope sFramed) := ⟨rfl, rfl, rfl, by decide +kernel, rfl, by decide +kernel, by decide +kernel⟩
def spFramed : Sp := fun vs H Q _ => ∃ z : Str, vs = [.str z] ∧ z.length < 10 ^ 7 ∧ ∀ H', Same H H' → Q (.str (rowT z)) H'
theorem ok_framed {f fS : Addr} {fd fdS : FuncData} {k : Nat} (F : FnP K "framed" sFramed f fd) (FS : FnS K "sum_of" sSum fS fdS) (gS : mg "sum_of" = some (.ref fS)) (bS : ∃ ds, Vals [.int 1000003] ds ∧ Binds K fdS ["text", "modulus"] ds) (ml : mg "len" = none) (me : mg "enumerate" = none) (mo : mg "ord" = none) :
    FnOk P w K mg base CX0 (k + 2) f fd ["body"] spFramed := by
  have GS : FnOk P w K mg base CX0 (k + 1) fS fdS ["text", "modulus"] spSum := ok_sum FS me mo
  obtain ⟨ds, vd, bd⟩ := bS
  refine F.ok scFramed (fun vs H Q E h => ?_) (fun cdv A outer s H vs Q E hr h => ?_)
  · obtain ⟨z, rfl, _⟩ := h
    rfl
  · obtain ⟨z, rfl, hz, q⟩ := h
    refine ⟨_, PSs.nox (pss_one (ps_ret (pe_joined (PJ.cons (pe_fmt (pe_callB call_len_str (by rfl) ml PySem.boot_len (pa_cons (pv 0) pa_nil)))
      (PJ.cons pe_str (PJ.cons (pe_fmt (pe_call GS hr (by rfl) gS FS.kp bd vd pass0 (pa_cons (pv 0) pa_nil))) (PJ.cons pe_str (PJ.cons (pe_fmt (pv 0)) PJ.nil)))))))), ?_⟩
    have hl := num_len (n := (z.length : Int)) (by omega) (by omega)
    have hs := szl
    have h1 := sp_len
    obtain ⟨r0, r1⟩ := sum_range z (m := 1000003) (by decide)
    have hk := num_len r0 (by omega)
    refine ⟨_, rfl, z, rfl, by omega, .inr ⟨_, rfl, small_log (by omega), _, rfl, ?_, _, rfl, ?_, _, rfl, z, 1000003, rfl, by omega, by decide, fun H1 s1 => .inr ⟨_, rfl, small_log (by omega), _, rfl, ?_, _, rfl, ?_, _, rfl, .inl ⟨z, rfl, by omega, z, rfl, ?_, ?_⟩⟩⟩⟩
    · rw [app_len]; show 0 + (num (z.length : Int)).length ≤ sizeLine; omega
    · rw [app_len, app_len]; show 0 + (num (z.length : Int)).length + sp.length ≤ sizeLine; omega
    · rw [app_len, app_len, app_len]; show 0 + (num (z.length : Int)).length + sp.length + (num (sumBy z 1000003)).length ≤ sizeLine; omega
    · rw [app_len, app_len, app_len, app_len]; show 0 + (num (z.length : Int)).length + sp.length + (num (sumBy z 1000003)).length + sp.length ≤ sizeLine; omega
    · rw [app_len, app_len, app_len, app_len, app_len]; show 0 + (num (z.length : Int)).length + sp.length + (num (sumBy z 1000003)).length + sp.length + z.length ≤ sizeLine; omega
    · rw [emp_app]
      exact q H1 s1
theorem scBody : FnScope ["row", "body"] ["row"] (defScope sBody) := ⟨rfl, rfl, rfl, by decide +kernel, rfl, by decide +kernel, by decide +kernel⟩
def spBody : Sp := fun vs H Q _ => ∃ t : Str, vs = [.str t] ∧ t.length < 10 ^ 7 ∧ ∀ H', Same H H' → Q (bodyOf t) H'
theorem ok_body {f fF : Addr} {fd fdF : FuncData} {k : Nat} (F : FnP K "body_of" sBody f fd) (FF : FnP K "framed" sFramed fF fdF) (gF : mg "framed" = some (.ref fF)) (GF : FnOk P w K mg base CX0 k fF fdF ["body"] spFramed) :
    FnOk P w K mg base CX0 (k + 1) f fd ["row"] spBody := by
  have bF : Binds K fdF ["body"] [] := FF.bindsN fun _ _ _ _ _ _ us hl => match us, hl with | [_], _ => rfl
  refine F.ok scBody (fun vs H Q E h => ?_) (fun cdv A outer s H vs Q E hr h => ?_)
  · obtain ⟨z, rfl, _⟩ := h
    rfl
  · obtain ⟨t, rfl, hz, q⟩ := h
    have hs := szl
    refine ⟨_, PSs.nox (pss_cons (ps_set (i := 1) scBody.nd rfl (.inl rfl) (pe_ix ix_tup (pe_partition (pe_ix ix_tup (pe_partition (pv 0) pe_str) pe_int (fun _ _ => rfl)) pe_str) pe_int (fun _ _ => rfl)))
      (pss_one (ps_ret (pe_ifExp (pt_cmpR op_eq (pe_call GF hr (by rfl) gF FF.kp bF .nil pass0 (pa_cons (pv 1) pa_nil)) (pv 0) (nomark _)) (pv 1) pe_non)))), ?_⟩
    refine ⟨_, rfl, ⟨_, rfl⟩, t, sp, rfl, rfl, by decide +kernel, by omega, fun p np => ⟨p, _, 2, _, rfl, rfl, SqT.of upd_same, rfl, ⟨_, rfl⟩, tailT t, sp, rfl, rfl, by decide +kernel, ?_, fun p2 np2 => ⟨p2, _, 2, _, rfl, rfl, SqT.of upd_same, rfl, ?_⟩⟩⟩
    · have := tailT_len t
      omega
    · have hb := bodyT_len t
      refine ⟨_, rfl, bodyT t, rfl, by omega, fun H1 s1 => ⟨_, rfl, rfl, _, rfl, ?_⟩⟩
      have sm : Same H H1 := ((same_upd np).trans (same_upd np2)).trans s1
      by_cases e : rowT (bodyT t) = t
      · have e2 : bodyOf t = .str (bodyT t) := if_pos e
        have ed : decide (V.str (rowT (bodyT t)) = V.str t) = true := decide_eq_true (congrArg V.str e)
        rw [ed]
        refine iteT ⟨_, rfl, ?_⟩
        show Q (.str (bodyT t)) H1
        rw [← e2]
        exact q H1 sm
      · have e2 : bodyOf t = .non := if_neg e
        have ed : decide (V.str (rowT (bodyT t)) = V.str t) = false := decide_eq_false fun h => e (V.str.inj h)
        rw [ed]
        refine iteF ?_
        show Q .non H1
        rw [← e2]
        exact q H1 sm
end
end Ev

set_option maxHeartbeats 2000000
namespace Ev
open PySem PySem.Spec PyProof.Rows L2 TL
abbrev sDealt : Stmt := top 6
abbrev sPick : Stmt := top 7
/-! ### the hand -/
/-- all but the object at h is as it was, its first item stays -/
def But (h : Addr) (H H' : Hp) : Prop := (∀ b o, b ≠ h → H b = some o → H' b = some o) ∧ ∀ x xs, H h = some (.lst (x :: xs)) → ∃ ys, H' h = some (.lst (x :: ys))
theorem But.refl (h : Addr) (H : Hp) : But h H H := ⟨fun _ _ _ e => e, fun _ xs e => ⟨xs, e⟩⟩
theorem But.trans {h : Addr} {H H1 H2 : Hp} (a : But h H H1) (b : But h H1 H2) : But h H H2 := ⟨fun c o n e => b.1 c o n (a.1 c o n e), fun x xs e => by
  obtain ⟨ys, e1⟩ := a.2 x xs e
  exact b.2 x ys e1⟩
theorem Same.but {h : Addr} {H H' : Hp} (a : Same H H') : But h H H' := ⟨fun b o _ e => a b o e, fun x xs e => ⟨xs, a _ _ e⟩⟩
theorem but_upd {h : Addr} {H : Hp} {x : V} {xs ys : List V} (hh : H h = some (.lst (x :: xs))) : But h H (upd H h (.lst (x :: ys))) := ⟨fun b y n e => by
  rw [upd_ne n]
  exact e, fun z zs e => by
  rw [hh] at e
  cases e
  exact ⟨ys, upd_same⟩⟩
theorem But.free {h p : Addr} {H H' : Hp} (b : But h H H') (n : p ≠ h) (e : H' p = none) : H p = none := by
  cases q : H p with
  | none => rfl
  | some o =>
    rw [b.1 p o n q] at e
    cases e
theorem But.put {h p : Addr} {H H' : Hp} {o : HO} (b : But h H H') (n : p ≠ h) (e : H p = none) : But h H (upd H' p o) := ⟨fun c x nc q => by
  rw [upd_ne (fun z => by rw [z, e] at q; cases q)]
  exact b.1 c x nc q, fun x xs q => by
  obtain ⟨ys, e1⟩ := b.2 x xs q
  exact ⟨ys, by rw [upd_ne n.symm]; exact e1⟩⟩
def HandAt (H : Hp) (h : Addr) (n : Nat) : Prop := ∃ (l : Addr) (ns : List Int) (t c : Int), H h = some (.lst [.ref l, .int t, .int c]) ∧ H l = some (.lst (ns.map V.int)) ∧ l ≠ h ∧ ns.length ≤ 63 ∧ 0 ≤ t ∧ t ≤ (n : Int) ∧ 0 ≤ c
theorem HandAt.mono {H : Hp} {h : Addr} {n m : Nat} (a : HandAt H h n) (k : n ≤ m) : HandAt H h m := by
  obtain ⟨l, ns, t, c, h1, h2, h3, h4, h5, h6, h7⟩ := a
  exact ⟨l, ns, t, c, h1, h2, h3, h4, h5, by omega, h7⟩
theorem HandAt.same {H H' : Hp} {h : Addr} {n : Nat} (a : HandAt H h n) (s : Same H H') : HandAt H' h n := by
  obtain ⟨l, ns, t, c, h1, h2, r⟩ := a
  exact ⟨l, ns, t, c, s _ _ h1, s _ _ h2, r⟩
theorem HandAt.is {H : Hp} {h : Addr} {n : Nat} (a : HandAt H h n) : ∃ xs, H h = some (.lst xs) := by
  obtain ⟨l, ns, t, c, h1, _⟩ := a
  exact ⟨_, h1⟩
/-- something that was not there is written -/
theorem HandAt.put {H H' : Hp} {h p : Addr} {m n : Nat} {o : HO} (a : HandAt H' h n) (b : But h H H') (a0 : HandAt H h m) (np : H p = none) (n0 : p ≠ h) : HandAt (upd H' p o) h n := by
  obtain ⟨l, ns, t, c, e1, e2, r⟩ := a
  obtain ⟨l0, ns0, t0, c0, f1, f2, _⟩ := a0
  obtain ⟨ys, e3⟩ := b.2 _ _ f1
  rw [e1] at e3
  have el : l = l0 := V.ref.inj (List.cons.inj (HO.lst.inj (Option.some.inj e3))).1
  have nlp : l ≠ p := fun e => by
    rw [← el, e, np] at f2
    cases f2
  exact ⟨l, ns, t, c, by rw [upd_ne n0.symm]; exact e1, by rw [upd_ne nlp]; exact e2, r⟩
theorem scDealt : FnScope ["script"] ["script"] (defScope sDealt) := ⟨rfl, rfl, rfl, by decide +kernel, rfl, by decide +kernel, by decide +kernel⟩
theorem scPick : FnScope ["hand", "many", "digit", "turn", "cell", "mixed"] ["hand", "many"] (defScope sPick) := ⟨rfl, rfl, rfl, by decide +kernel, rfl, by decide +kernel, by decide +kernel⟩
def spDealt (K : PySem.W.Frag) : Sp := fun vs H Q _ => ∃ (a : Addr) (ns : List Int), vs = [.ref a] ∧ SqL K H a (ns.map V.int) ∧ ns.length ≤ 63 ∧ ∀ H' h, Same H H' → H h = none → HandAt H' h 0 → Q (.ref h) H'
def spPick : Sp := fun vs H Q _ => ∃ (h : Addr) (many : Int) (n : Nat), vs = [.ref h, .int many] ∧ HandAt H h n ∧ n ≤ 1000000 ∧ 0 < many ∧ many ≤ 100000000 ∧ ∀ H' d, But h H H' → HandAt H' h (n + 1) → 0 ≤ d → d < many → Q (.int d) H'
theorem cut_map (ns : List Int) (lo hi : Option Int) : ∃ ms : List Int, cutV (ns.map V.int) lo hi = ms.map V.int ∧ ms.length ≤ ns.length := by
  refine ⟨(ns.drop (HT.sIx (ns.map V.int).length 0 lo)).take (HT.sIx (ns.map V.int).length (ns.map V.int).length hi - HT.sIx (ns.map V.int).length 0 lo), ?_, ?_⟩
  · unfold cutV
    rw [List.map_take, List.map_drop]
  · rw [List.length_take, List.length_drop]
    omega
theorem dpAll_ints {K : PySem.W.Frag} {H : Hp} : ∀ ns : List Int, DpAll K H (ns.map V.int) (ns.map PyData.int)
  | [] => .nil
  | n :: r => .cons (.int n) (dpAll_ints r)
section
variable {P : Program} {w : World} {K : PySem.W.Frag} {mg : Str → Option Value} {base : Heap}
theorem ok_dealt {f : Addr} {fd : FuncData} {k : Nat} (F : FnP K "_law_dealt" sDealt f fd) (ml : mg "list" = none) : FnOk P w K mg base CX0 (k + 1) f fd ["script"] (spDealt K) := by
  refine F.ok scDealt (fun vs H Q E h => ?_) (fun cdv A outer s H vs Q E hr h => ?_)
  · obtain ⟨a, ns, rfl, _⟩ := h
    rfl
  · obtain ⟨a, ns, rfl, hS, hl, q⟩ := h
    refine ⟨_, PSs.nox (pss_one (ps_ret (pe_lst (pa_cons (pe_callTy call_list_of (by rfl) ml (by decide +kernel) (pa_cons (pe_slice sl_list (pv 0) po_none (po_some pe_int)) pa_nil)) (pa_cons pe_int (pa_cons pe_int pa_nil)))))), ?_⟩
    obtain ⟨ms, em, lm⟩ := cut_map ns none (some 63)
    refine ⟨_, rfl, 63, rfl, a, _, rfl, hS, fun p np => ⟨p, _, rfl, .inl (SqL.of upd_same), fun l nl => ⟨by show 3 ≤ sizeLine; decide, fun h nh => ?_⟩⟩⟩
    have s1 := (same_upd (o := HO.lst (cutV (ns.map V.int) none (some 63))) np)
    have s2 := (same_upd (o := HO.lst (cutV (ns.map V.int) none (some 63))) nl)
    have s3 := (same_upd (o := HO.lst [.ref l, .int 0, .int 0]) nh)
    have sm := (s1.trans s2).trans s3
    have nlh : l ≠ h := fun e => by
      rw [← e, upd_same] at nh
      cases nh
    refine q _ h sm ((s1.trans s2).free nh) ⟨l, ms, 0, 0, upd_same, ?_, nlh, by omega, Int.le_refl _, Int.le_refl _, Int.le_refl _⟩
    rw [upd_ne nlh, upd_same, em]
theorem pw_ne : (((10 : Int) ^ (60 : Int).toNat) ^ (60 : Int).toNat) ^ (9 : Int).toNat ≠ 0 := by decide +kernel
theorem pw_pos : 0 < (((10 : Int) ^ (60 : Int).toNat) ^ (60 : Int).toNat) ^ (9 : Int).toNat := by decide +kernel
theorem ok_pick {f : Addr} {fd : FuncData} {k : Nat} (F : FnP K "_law_pick" sPick f fd) (ml : mg "len" = none) (ma : mg "abs" = none) : FnOk P w K mg base CX0 (k + 1) f fd ["hand", "many"] spPick := by
  refine F.ok scPick (fun vs H Q E h => ?_) (fun cdv A outer s H vs Q E hr h => ?_)
  · obtain ⟨h, m, n, rfl, _⟩ := h
    rfl
  · obtain ⟨h, m, n, rfl, ⟨l, ns, t, c, hh, hl, nlh, ln, t0, tn, c0⟩, hn, m0, m1, q⟩ := h
    refine ⟨_, PSs.nox (pss_cons (ps_if (pt_cmpR op_gt (pe_ix ix_list (pv 0) pe_int (fun _ _ => rfl)) pe_int (nomark _))
        (pss_cons (ps_set (i := 2) scPick.nd rfl (.inl rfl) (pe_op op_modN (pe_ix ix_list (pv 0) pe_int (fun _ _ => rfl)) (pv 1)))
        (pss_cons (ps_asg (pe_op op_fdivN (pe_ix ix_list (pv 0) pe_int (fun _ _ => rfl)) (pv 1)) (pg_sub (pv 0) pe_int set_list))
        (pss_one (ps_ret (pv 2))))) pss_nil)
      (pss_cons (ps_set (i := 3) scPick.nd rfl (.inl rfl) (pe_ix ix_list (pv 0) pe_int (fun _ _ => rfl)))
      (pss_cons (ps_asg (pe_op op_add (pv 3) pe_int) (pg_sub (pv 0) pe_int set_list))
      (pss_cons (ps_set (i := 4) scPick.nd rfl (.inl rfl) (pe_op op_add (pe_op op_mul pe_int (pv 3)) pe_int))
      (C8.pss_cut (ps_if (pt_cmpR (op_neD hr.units) (pe_ix ix_list (pv 0) pe_int (fun _ _ => rfl)) (pe_lst pa_nil) (nomark _))
        (pss_one (ps_set (i := 4) scPick.nd rfl (.inl rfl) (pe_ix ix_list (pe_ix ix_list (pv 0) pe_int (fun _ _ => rfl)) (pe_op op_modN (pv 3) (pe_callB call_len_seq (by rfl) ml PySem.boot_len (pa_cons (pe_ix ix_list (pv 0) pe_int (fun _ _ => rfl)) pa_nil))) (fun _ _ => rfl)))) pss_nil)
      (C8.pss_cut (ps_if (PW.pt (pw_and (pt_cmpR op_lt (pv 3) (pe_callB call_len_seq (by rfl) ml PySem.boot_len (pa_cons (pe_ix ix_list (pv 0) pe_int (fun _ _ => rfl)) pa_nil)) (nomark _))
          (pw_and1 (pt_cmpR op_ge (pe_callB call_abs (by rfl) ma (by decide +kernel) (pa_cons (pv 4) pa_nil)) (pe_op op_pow pe_int pe_int) (nomark _)))))
        (pss_cons (ps_asg (pe_op op_fdivN (pe_callB call_abs (by rfl) ma (by decide +kernel) (pa_cons (pv 4) pa_nil)) (pv 1)) (pg_sub (pv 0) pe_int set_list))
        (pss_one (ps_ret (pe_op op_modN (pe_callB call_abs (by rfl) ma (by decide +kernel) (pa_cons (pv 4) pa_nil)) (pv 1))))) pss_nil)
      (pss_cons (ps_set (i := 5) scPick.nd rfl (.inl rfl) (pe_op op_modN (pe_op op_mul (pe_op op_add (pe_op op_add (pe_op op_modN (pv 4) pe_int) (pe_op op_mul pe_int (pv 3))) pe_int) pe_int) pe_int))
      (pss_cons (ps_set (i := 5) scPick.nd rfl (.inl rfl) (pe_op op_modN (pe_op op_add (pe_op op_add (pe_op op_mul (pv 5) (pv 5)) (pe_op op_mul pe_int (pv 3))) pe_int) pe_int))
      (pss_one (ps_ret (pe_op op_modN (pe_op op_fdivN (pe_op op_modN (pe_op op_mul (pv 5) (pe_op op_add (pe_op op_modN (pv 5) pe_int) pe_int)) pe_int) pe_int) (pv 1)))))))))))), ?_⟩
    have dm : ∀ x : Int, 0 ≤ x.fmod m ∧ x.fmod m < m := fun x => ⟨Int.fmod_nonneg_of_pos x m0, Int.fmod_lt_of_pos x m0⟩
    have mN : m ≠ 0 := by omega
    have mB : m.natAbs < 1073741824 := by omega
    have dp : ∀ x : Int, 0 ≤ x → 0 ≤ x.fdiv m := fun x h => by
      rw [Int.fdiv_eq_ediv_of_nonneg x (by omega)]
      exact Int.ediv_nonneg h (by omega)
    -- hand[2] > 0
    refine ⟨_, rfl, h, _, 2, .int c, rfl, rfl, SqL.of hh, atI_nat (j := 2) rfl, c, 0, rfl, rfl, _, rfl, ite2 (fun e => ?_) (fun e => ?_)⟩
    · have hc : 0 < c := of_decide_eq_true e
      refine ⟨_, rfl, h, _, 2, .int c, rfl, rfl, SqL.of hh, atI_nat (j := 2) rfl, _, rfl, c, m, rfl, rfl, mN, ?_⟩
      refine ⟨_, rfl, h, _, 2, .int c, rfl, rfl, SqL.of hh, atI_nat (j := 2) rfl, _, rfl, c, m, rfl, rfl, ⟨mN, mB⟩, _, rfl, h, _, 2, 2, rfl, rfl, hh, rfl, ?_⟩
      refine ⟨_, rfl, q _ _ (but_upd hh) ⟨l, ns, t, c.fdiv m, upd_same, ?_, nlh, ln, t0, by omega, dp c c0⟩ (dm c).1 (dm c).2⟩
      rw [upd_ne nlh]
      exact hl
    · refine ⟨_, rfl, h, _, 1, .int t, rfl, rfl, SqL.of hh, atI_nat (j := 1) rfl, ?_⟩
      refine ⟨_, rfl, t, 1, rfl, rfl, _, rfl, h, _, 1, 1, rfl, rfl, hh, rfl, ?_⟩
      refine ⟨_, rfl, 31, t, rfl, rfl, .inl (by decide), _, 7, rfl, rfl, ?_⟩
      have hh1 : (upd H h (.lst (([.ref l, .int t, .int c] : List V).set 1 (.int (t + 1))))) h = some (.lst [.ref l, .int (t + 1), .int c]) := upd_same
      have hl1 : (upd H h (.lst (([.ref l, .int t, .int c] : List V).set 1 (.int (t + 1))))) l = some (.lst (ns.map V.int)) := by
        rw [upd_ne nlh]
        exact hl
      have b1 : But h H (upd H h (.lst (([.ref l, .int t, .int c] : List V).set 1 (.int (t + 1))))) := but_upd hh
      generalize (upd H h (.lst (([.ref l, .int t, .int c] : List V).set 1 (.int (t + 1))))) = H1 at hh1 hl1 b1
      refine ⟨fun σ' H' => ∃ cell, σ' = [some (.ref h), some (.int m), none, some (.int t), some (.int cell), none] ∧ H' h = some (.lst [.ref l, .int (t + 1), .int c]) ∧ H' l = some (.lst (ns.map V.int)) ∧ But h H H', ?_, ?_⟩
      · refine ⟨_, rfl, h, _, 0, .ref l, rfl, rfl, SqL.of hh1, atI_nat (j := 0) rfl, Nat.zero_le _, fun p np => ?_⟩
        have hh2 : (upd H1 p (.lst [])) h = some (.lst [.ref l, .int (t + 1), .int c]) := by rw [upd_ne (ne_of_none hh1 np)]; exact hh1
        have hl2 : (upd H1 p (.lst [])) l = some (.lst (ns.map V.int)) := by rw [upd_ne (ne_of_none hl1 np)]; exact hl1
        have b2 : But h H (upd H1 p (.lst [])) := b1.trans (Same.but (same_upd np))
        have hp2 : (upd H1 p (.lst [])) p = some (.lst []) := upd_same
        generalize (upd H1 p (.lst [])) = H2 at hh2 hl2 b2 hp2
        refine ⟨.list (ns.map PyData.int), .list [], .lst (SqL.of hl2) (dpAll_ints ns), .lst (SqL.of hp2) .nil, PySem.W.ke_shaped_ints ns, by decide +kernel, _, rfl, ite2 (fun e => ?_) (fun e => ?_)⟩
        · have n0 : 0 < ns.length := by
            cases ns with
            | nil => exact absurd e (by decide +kernel)
            | cons x r => exact Nat.succ_pos _
          have hlen : ((ns.map V.int).length : Int) ≠ 0 := by rw [List.length_map]; omega
          have f0 : 0 ≤ t.fmod ((ns.map V.int).length : Int) := Int.fmod_nonneg_of_pos t (by rw [List.length_map]; omega)
          have f1 : t.fmod ((ns.map V.int).length : Int) < ((ns.map V.int).length : Int) := Int.fmod_lt_of_pos t (by rw [List.length_map]; omega)
          obtain ⟨j, ej⟩ := Int.eq_ofNat_of_zero_le f0
          have hj : j < ns.length := by
            rw [ej, List.length_map] at f1
            exact Int.ofNat_lt.mp f1
          refine ⟨_, rfl, h, _, 0, .ref l, rfl, rfl, SqL.of hh2, atI_nat (j := 0) rfl, _, rfl, _, rfl, h, _, 0, .ref l, rfl, rfl, SqL.of hh2, atI_nat (j := 0) rfl, l, _, rfl, .inl (SqL.of hl2), t, _, rfl, rfl, hlen, l, _, (j : Int), .int ns[j], rfl, congrArg V.int ej, SqL.of hl2, atI_nat (j := j) ?_, ns[j], rfl, hh2, hl2, b2⟩
          rw [List.getElem?_map, List.getElem?_eq_getElem hj]
          rfl
        · exact ⟨_, rfl, hh2, hl2, b2⟩
      · rintro σ' H' ⟨cell, rfl, hh3, hl3, b3⟩
        refine ⟨fun σ2 H2 => σ2 = [some (.ref h), some (.int m), none, some (.int t), some (.int cell), none] ∧ H2 = H', ?_, ?_⟩
        · refine ⟨_, rfl, _, rfl, h, _, 0, .ref l, rfl, rfl, SqL.of hh3, atI_nat (j := 0) rfl, l, _, rfl, .inl (SqL.of hl3), t, _, rfl, rfl, _, rfl, ite2 (fun e => ?_) (fun e => ?_)⟩
          · refine ⟨_, rfl, cell, rfl, 10, 18, rfl, rfl, ⟨by decide, by decide, by decide⟩, _, _, rfl, rfl, _, rfl, ite2 (fun e2 => ?_) (fun e2 => ⟨rfl, rfl⟩)⟩
            have c1 : 0 ≤ (if cell < 0 then -cell else cell) := by split <;> omega
            refine ⟨_, rfl, cell, rfl, _, rfl, _, m, rfl, rfl, ⟨mN, mB⟩, _, rfl, h, _, 2, 2, rfl, rfl, hh3, rfl, ?_⟩
            refine ⟨_, rfl, cell, rfl, _, rfl, _, m, rfl, rfl, mN, q _ _ (b3.trans (but_upd hh3)) ⟨l, ns, t + 1, (if cell < 0 then -cell else cell).fdiv m, upd_same, ?_, nlh, ln, by omega, by omega, dp _ c1⟩ (dm _).1 (dm _).2⟩
            rw [upd_ne nlh]
            exact hl3
          · exact iteF ⟨rfl, rfl⟩
        · rintro σ2 H2 ⟨rfl, rfl⟩
          obtain ⟨x1, e1⟩ : ∃ x1, x1 = cell.fmod 2147483579 := ⟨_, rfl⟩
          obtain ⟨x2, e2⟩ : ∃ x2, x2 = ((x1 + 50021 * t + 3) * 69621).fmod 2147483647 := ⟨_, rfl⟩
          obtain ⟨x3, e3⟩ : ∃ x3, x3 = (x2 * x2 + 48271 * t + 19).fmod 2147483563 := ⟨_, rfl⟩
          have r3 := Int.fmod_nonneg_of_pos ((x1 + 50021 * t + 3) * 69621) (b := 2147483647) (by decide)
          have r4 := Int.fmod_lt_of_pos ((x1 + 50021 * t + 3) * 69621) (b := 2147483647) (by decide)
          have r5 := Int.fmod_nonneg_of_pos (x2 * x2 + 48271 * t + 19) (b := 2147483563) (by decide)
          have r6 := Int.fmod_lt_of_pos (x2 * x2 + 48271 * t + 19) (b := 2147483563) (by decide)
          rw [← e2] at r3 r4
          rw [← e3] at r5 r6
          have e1' := congrArg V.int e1.symm
          have e2' := congrArg V.int e2.symm
          have e3' := congrArg V.int e3.symm
          refine ⟨_, rfl, cell, 2147483579, rfl, rfl, (show (2147483579 : Int) ≠ 0 by decide), _, rfl, 50021, t, rfl, rfl, .inl (by decide), x1, _, e1', rfl, _, 3, rfl, rfl, x1 + 50021 * t + 3, 69621, rfl, rfl, .inr (by decide), _, 2147483647, rfl, rfl, (show (2147483647 : Int) ≠ 0 by decide), ?_⟩
          refine ⟨_, rfl, _, rfl, x2, x2, e2', e2', .inl (by omega), _, rfl, 48271, t, rfl, rfl, .inl (by decide), _, _, rfl, rfl, _, 19, rfl, rfl, _, 2147483563, rfl, rfl, (show (2147483563 : Int) ≠ 0 by decide), ?_⟩
          refine ⟨_, rfl, _, rfl, x3, 32749, e3', rfl, (show (32749 : Int) ≠ 0 by decide), _, 5, rfl, rfl, x3, _, e3', rfl, .inl (by omega), _, 2147483629, rfl, rfl, (show (2147483629 : Int) ≠ 0 by decide), _, 32, rfl, rfl, ⟨by decide, by decide⟩, _, rfl, _, m, rfl, rfl, mN, ?_⟩
          exact q _ _ b3 ⟨l, ns, t + 1, c, hh3, hl3, nlh, ln, by omega, by omega, c0⟩ (dm _).1 (dm _).2
end
end Ev

set_option autoImplicit false
set_option maxHeartbeats 2000000
/-! what a caller has of a def; slices and sums of several kinds of things -/
namespace Cc
open PySem PySem.Spec PyProof.Rows L2
structure Cl (P : Program) (w : World) (K : PySem.W.Frag) (mg : Str → Option Value) (base : Heap) (CX : CXT) (x : Str) (k : Nat) (ps : List Str) (sp : Sp) (f : Addr) (fd : FuncData) : Prop where
  ok : FnOk P w K mg base CX k f fd ps sp
  m : mg x = some (.ref f)
  kp : PySem.W.keepIn K (.ref f) = true
  b : Binds K fd ps []
/-- a tuple (t) or a list of xs -/
def Sq (t : Bool) (K : PySem.W.Frag) (H : Hp) (a : Addr) (xs : List V) : Prop := if t = true then SqT K H a xs else SqL K H a xs
theorem Sq.same {t : Bool} {K : PySem.W.Frag} {H H1 : Hp} {a : Addr} {xs : List V} (h : Sq t K H a xs) (s : Same H H1) : Sq t K H1 a xs := by
  cases t with
  | false => exact s.seq h
  | true =>
    rcases (show SqT K H a xs from h) with (h | ⟨o, h⟩) | h
    · exact (show SqT K H1 a xs from .inl (.inl (s _ _ h)))
    · exact (show SqT K H1 a xs from .inl (.inr ⟨o, s _ _ h⟩))
    · exact (show SqT K H1 a xs from .inr h)
/-- .., a list that stands by itself -/
def SqM (t : Bool) (K : PySem.W.Frag) (H : Hp) (a : Addr) (xs : List V) : Prop := if t = true then SqT K H a xs else H a = some (.lst xs)
theorem SqM.sq {t : Bool} {K : PySem.W.Frag} {H : Hp} {a : Addr} {xs : List V} (h : SqM t K H a xs) : Sq t K H a xs := by
  cases t with
  | false => exact (show SqL K H a xs from SqL.of h)
  | true => exact h
theorem SqM.same {t : Bool} {K : PySem.W.Frag} {H H1 : Hp} {a : Addr} {xs : List V} (h : SqM t K H a xs) (s : Same H H1) : SqM t K H1 a xs := by
  cases t with
  | false => exact s _ _ h
  | true => exact Sq.same (t := true) h s
theorem newS {H : Hp} {p : Addr} {o : HO} (h : H p = none) : Same H (upd H p o) := fun b x e => by
  rw [upd_ne (ne_of_none e h)]
  exact e
section
variable {X : Cx}
/-- a list or a tuple cut -/
def rSlB (K : PySem.W.Frag) : V → Option Int → Option Int → Hp → VK → Prop := fun x lo hi H Q => ∃ t a xs, x = .ref a ∧ Sq t K H a xs ∧ ∀ p H', Same H H' → SqM t K H' p (cutV xs lo hi) → Q (.ref p) H'
theorem whole_cut {xs : List V} {lo hi : Option Int} (h : HT.sIx xs.length 0 lo = 0 ∧ HT.sIx xs.length xs.length hi = xs.length) : cutV xs lo hi = xs := by
  unfold cutV
  rw [h.1, h.2, List.drop_zero, Nat.sub_zero, List.take_length]
theorem sl_B : SlR X (rSlB X.K) := by
  intro pins s σ H x v vl vu lo hi sl Q I rx hs pl pu h
  obtain ⟨t, a, xs, rfl, hx, q⟩ := h
  cases t with
  | false => exact sl_list pins s σ H _ v vl vu lo hi sl Q I rx hs pl pu ⟨a, xs, rfl, hx, fun p np => q p _ (newS np) (show _ = _ from upd_same)⟩
  | true => exact sl_tupA pins s σ H _ v vl vu lo hi sl Q I rx hs pl pu ⟨a, xs, rfl, hx, fun w => q a H (Same.refl H) (show SqT _ _ _ _ from by rw [whole_cut w]; exact hx), fun _ p np => q p _ (newS np) (show SqT _ _ _ _ from SqT.of upd_same)⟩
/-- a text, a list, a tuple cut -/
def rSlAny (K : PySem.W.Frag) : V → Option Int → Option Int → Hp → VK → Prop := fun x lo hi H Q => rSlS x lo hi H Q ∨ rSlB K x lo hi H Q
theorem sl_any : SlR X (rSlAny X.K) := sl_str.or sl_B
/-- two lists, or two tuples, put together -/
def rCatB (K : PySem.W.Frag) : R2 := fun x y H Q => ∃ t a b xs ys, x = .ref a ∧ y = .ref b ∧ SqM t K H a xs ∧ SqM t K H b ys ∧ xs.length + ys.length ≤ sizeLine ∧ ∀ p H', Same H H' → SqM t K H' p (xs ++ ys) → Q (.ref p) H'
theorem op_catB : OpR X (binaryOp .Add) (rCatB X.K) := by
  intro pins s σ H x y v u Q I rx ry h
  obtain ⟨t, a, b, xs, ys, rfl, rfl, ha, hb, hz, q⟩ := h
  cases t with
  | false => exact op_cat pins s σ H _ _ v u Q I rx ry ⟨a, b, xs, ys, rfl, rfl, ha, hb, hz, fun p np => q p _ (newS np) (show _ = _ from upd_same)⟩
  | true => exact op_catA pins s σ H _ _ v u Q I rx ry ⟨a, b, xs, ys, rfl, rfl, ha, hb, hz, fun e => q b H (Same.refl H) (show SqT _ _ _ _ from by rw [e]; exact hb),
      fun _ e => q a H (Same.refl H) (show SqT _ _ _ _ from by rw [e, List.append_nil]; exact ha), fun _ _ p np => q p _ (newS np) (show SqT _ _ _ _ from SqT.of upd_same)⟩
/-- two texts, or two lists, or two tuples -/
theorem op_addAny : OpR X (binaryOp .Add) (fun x y H Q => (∃ i j : Str, x = .str i ∧ y = .str j ∧ i.length + j.length ≤ sizeLine ∧ Q (.str (i ++ j)) H) ∨ rCatB X.K x y H Q) := by
  intro pins s σ H x y v u Q I rx ry h
  rcases h with h | h
  · exact op_add_str pins s σ H x y v u Q I rx ry h
  · exact op_catB pins s σ H x y v u Q I rx ry h
/-- an item of a list or a tuple -/
def rIxB (K : PySem.W.Frag) : R2 := fun x y H Q => ∃ t a xs i v, x = .ref a ∧ y = .int i ∧ Sq t K H a xs ∧ atI xs i = some v ∧ Q v H
theorem ix_B : IxR X (rIxB X.K) := by
  intro value slice pins s σ H x y v u Q I rx ry h hs
  obtain ⟨t, a, xs, i, z, rfl, rfl, ha, hz, q⟩ := h
  cases t with
  | false => exact ix_list value slice pins s σ H _ _ v u Q I rx ry ⟨a, xs, i, z, rfl, rfl, ha, hz, q⟩ hs
  | true => exact ix_tup value slice pins s σ H _ _ v u Q I rx ry ⟨a, xs, i, z, rfl, rfl, ha, hz, q⟩ hs
/-! the same within a comprehension, where K is to be told -/
section
variable {K : PySem.W.Frag}
theorem ix_Bk (h : X.K = K) : IxR X (rIxB K) := by
  rw [← h]
  exact ix_B
theorem ix_listk (h : X.K = K) : IxR X (rIxL K) := by
  rw [← h]
  exact ix_list
theorem ix_tupk (h : X.K = K) : IxR X (rIxT K) := by
  rw [← h]
  exact ix_tup
theorem isik (h : X.K = K) : CallR X (.builtin "isinstance") (rIsi K) := by
  rw [← h]
  exact call_isi
end
end
end Cc

set_option autoImplicit false
set_option maxHeartbeats 2000000
/-! lists by a comprehension, without a test -/
namespace Cc
open PySem PySem.Spec PyProof.Rows L2
/-- one more into the list at D, that has i already -/
abbrev Push (D : Addr) (i : Nat) (Iv : Nat → List V → Hp → Prop) (y : V) (H : Hp) : Prop :=
  ∃ acc, H D = some (.lst acc) ∧ acc.length < sizeLine ∧ ∃ a2, a2.length = i + 1 ∧ Iv (i + 1) a2 (upd H D (.lst (acc ++ [y]))) ∧ upd H D (.lst (acc ++ [y])) D = some (.lst a2)
theorem push {D : Addr} {i : Nat} {Iv : Nat → List V → Hp → Prop} {y : V} {H : Hp} {acc : List V} (hD : H D = some (.lst acc)) (la : acc.length = i) (few : i < 1000000) (iv : Iv (i + 1) (acc ++ [y]) (upd H D (.lst (acc ++ [y])))) : Push D i Iv y H :=
  ⟨acc, hD, by rw [la, show sizeLine = 16777216 from by decide]; omega, acc ++ [y], by rw [List.length_append, la]; rfl, iv, upd_same⟩
section
variable {J : It} {n : Nat} {G : Hp → Prop} {Y : Nat → Hp → V → Hp → Prop} {g : TG} {te : TE} {vs : List Nat} {σ : L2.St} {H1 : Hp} {D : Addr} {Qd : Hp → Prop}
/-- by the turn, what is in the new list, and the heap -/
theorem lc_acc (w : Walk J n G Y) (Iv : Nat → List V → Hp → Prop) (h0 : Iv 0 [] (upd H1 D (.lst []))) (hG : ∀ i acc H, i ≤ n → Iv i acc H → H D = some (.lst acc) → G H)
    (hs : ∀ i x acc H H', i < n → acc.length = i → Iv i acc H → H D = some (.lst acc) → Y i H x H' → g x (wipe σ vs) H' fun σ2 H2 => wipe σ2 vs = wipe σ vs ∧ te σ2 H2 fun y H4 => Push D i Iv y H4)
    (hd : ∀ acc H, acc.length = n → Iv n acc H → H D = some (.lst acc) → Qd H) :
    ∃ W : Nat → Nat → Hp → Prop, (∃ m, W 0 m (upd H1 D (.lst []))) ∧ ∀ i m H, W i m H →
      (J.stop i H ∧ Qd H) ∨ (J.go i H ∧ ∃ Nx : Hp → Prop, (∀ H', Nx H' → ∃ m', m' < m ∧ W (i + 1) m' H') ∧ ∀ x H', J.yld i H x H' → g x (wipe σ vs) H' fun σ2 H2 => wipe σ2 vs = wipe σ vs ∧ tYes σ2 H2 fun b H3 =>
        if b = true then te σ2 H3 fun y H4 => ∃ acc, H4 D = some (.lst acc) ∧ acc.length < sizeLine ∧ Nx (upd H4 D (.lst (acc ++ [y]))) else Nx H3) := by
  refine ⟨fun i m H => m = n - i ∧ i ≤ n ∧ ∃ acc, acc.length = i ∧ Iv i acc H ∧ H D = some (.lst acc), ⟨n, by simp, Nat.zero_le _, [], rfl, h0, upd_same⟩, ?_⟩
  rintro i m H ⟨rfl, hi, acc, la, iv, hD⟩
  have q := hG i acc H hi iv hD
  by_cases lt : i < n
  · exact .inr ⟨w.goes i H lt q, fun H' => ∃ acc, acc.length = i + 1 ∧ Iv (i + 1) acc H' ∧ H' D = some (.lst acc), fun H' ⟨a2, l2, v2, d2⟩ => ⟨n - (i + 1), by omega, rfl, lt, a2, l2, v2, d2⟩, fun x H' y => hs i x acc H H' lt la iv hD (w.yields i H x H' lt q y)⟩
  · have e : i = n := by omega
    subst e
    exact .inl ⟨w.stops H q, hd acc H la iv hD⟩
end
/-- all that stood there but what is at D stands -/
def But (D : Addr) (H H' : Hp) : Prop := ∀ b o, b ≠ D → H b = some o → H' b = some o
theorem But.upd {D : Addr} {H H' : Hp} {o : HO} (h : But D H H') : But D H (upd H' D o) := fun b x n e => by
  rw [upd_ne n]
  exact h b x n e
theorem But.same {D : Addr} {H H' H2 : Hp} (h : But D H H') (s : Same H' H2) : But D H H2 := fun b x n e => s b x (h b x n e)
theorem But.new {D : Addr} {H H' : Hp} (h : But D H H') (n : H D = none) : Same H H' := fun b x e => h b x (ne_of_none e n) e
theorem But.refl {D : Addr} {H : Hp} : But D H H := fun _ _ _ e => e
end Cc

set_option autoImplicit false
set_option maxHeartbeats 4000000
namespace Ev
open PySem PySem.Spec PyProof.Rows L2 TL
open Cc (Cl)
abbrev sAlpha : Stmt := top 8
abbrev sAny : Stmt := top 9
abbrev sNone : Stmt := top 10
abbrev sLaw : Stmt := top 11
def As (z : Str) : Prop := ∀ c ∈ tl z, c < 128
theorem As.app {z y : Str} (h : As z) (k : As y) : As (z ++ y) := fun c hc => by
  rw [tl_append] at hc
  exact (List.mem_append.mp hc).elim (h c) (k c)
theorem atI_in {α : Type} {xs : List α} {d : Int} (h0 : 0 ≤ d) (h1 : d < (xs.length : Int)) : ∃ v, atI xs d = some v ∧ v ∈ xs := by
  obtain ⟨j, rfl⟩ := Int.eq_ofNat_of_zero_le h0
  have hj : j < xs.length := Int.ofNat_lt.mp h1
  exact ⟨xs[j], atI_nat (List.getElem?_eq_getElem hj), List.getElem_mem hj⟩
theorem ne_hand {H : Hp} {h p : Addr} {n : Nat} (A : HandAt H h n) (np : H p = none) : p ≠ h := fun e => by
  obtain ⟨xs, hx⟩ := A.is
  rw [e, hx] at np
  cases np
def spAlpha : Sp := fun vs H Q _ => vs = [] ∧ ∀ al : Str, al.length = 94 → As al → Q (.str al) H
def spAny : Sp := fun vs H Q _ => ∃ (h : Addr) (most n : Nat), vs = [.ref h, .int (most : Int)] ∧ HandAt H h n ∧ most ≤ 1000 ∧ n ≤ 900000 ∧ ∀ H' z, But h H H' → HandAt H' h (n + 2 + 3 * most) → z.length ≤ most → As z → Q (.str z) H'
section
variable {P : Program} {w : World} {K : PySem.W.Frag} {mg : Str → Option Value} {base : Heap}
theorem scalpha : FnScope ["some"] [] (defScope sAlpha) := ⟨rfl, rfl, rfl, by decide +kernel, rfl, by decide +kernel, by decide +kernel⟩
theorem ok_alpha {f : Addr} {fd : FuncData} (F : FnP K "_law_alphabet" sAlpha f fd)     : FnOk P w K mg base CX0 1 f fd [] (spAlpha) := by
  refine F.ok scalpha (fun vs H Q E h => ?_) (fun cdv A outer s H vs Q E hr h => ?_)
  · obtain ⟨rfl, _⟩ := h
    rfl
  · obtain ⟨rfl, q⟩ := h
    have hu := hu_of hr
    refine ⟨_, PSs.nox (pss_cons (ps_set (i := 0) scalpha.nd rfl (Or.inl rfl) (pe_str))
      (pss_one (ps_ret (pe_op op_add_str (pv 0) (pe_str))))), ?_⟩
    exact ⟨_, rfl, _, _, rfl, rfl, by decide +kernel, q _ (by decide +kernel) (show ∀ c ∈ tl _, c < 128 by decide +kernel)⟩
theorem scany : FnScope ["hand", "most", "signs", "few", "found", "k"] ["hand", "most"] (defScope sAny) := ⟨rfl, rfl, rfl, by decide +kernel, rfl, by decide +kernel, by decide +kernel⟩
theorem ok_any {f : Addr} {fd : FuncData} (F : FnP K "_law_any_body" sAny f fd) {f__law_alphabet : Addr} {fd__law_alphabet : FuncData} (c__law_alphabet : Cl P w K mg base CX0 "_law_alphabet" 1 [] (spAlpha) f__law_alphabet fd__law_alphabet) {f__law_pick : Addr} {fd__law_pick : FuncData} (c__law_pick : Cl P w K mg base CX0 "_law_pick" 1 ["hand", "many"] (spPick) f__law_pick fd__law_pick) (mb_range : mg "range" = none)   : FnOk P w K mg base CX0 2 f fd ["hand", "most"] (spAny) := by
  refine F.ok scany (fun vs H Q E h => ?_) (fun cdv A outer s H vs Q E hr h => ?_)
  · obtain ⟨h, most, n, rfl, _⟩ := h
    rfl
  · obtain ⟨h, most, n, rfl, hA, hm, hn, q⟩ := h
    have hu := hu_of hr
    have hs := szl
    refine ⟨_, PSs.nox (pss_cons (ps_par (i := 2) (j := 3) rfl scany.nd rfl rfl (by decide) rfl rfl (pa_cons (pe_call0 c__law_alphabet.ok (hr.mono (by decide)) (by rfl) c__law_alphabet.m c__law_alphabet.kp c__law_alphabet.b .nil pass0) (pa_cons (pe_str) pa_nil)) (by rfl))
      (pss_cons (ps_set (i := 4) scany.nd rfl (Or.inl rfl) (pe_str))
      (pss_cons (ps_for PassesOwn.never rfl (pi_range1 (by rfl) mb_range (pa_cons (pe_ix ix_list (pe_lst (pa_cons (pe_int) (pa_cons (pe_call c__law_pick.ok (hr.mono (by decide)) (by rfl) c__law_pick.m c__law_pick.kp c__law_pick.b .nil pass0 (pa_cons (pv 0) (pa_cons (pe_op op_add (pv 1) (pe_int)) pa_nil))) (pa_cons (pv 1) pa_nil)))) (pe_call c__law_pick.ok (hr.mono (by decide)) (by rfl) c__law_pick.m c__law_pick.kp c__law_pick.b .nil pass0 (pa_cons (pv 0) (pa_cons (pe_int) pa_nil))) (fun _ _ => rfl)) pa_nil)) (pg_name (i := 5) scany.nd rfl (Or.inl rfl)) (pss_one (ps_set (i := 4) scany.nd rfl (Or.inl rfl) (pe_op op_add_str (pv 4) (pe_ix ix_list (pe_lst (pa_cons (pe_ix ix_str (pv 2) (pe_call c__law_pick.ok (hr.mono (by decide)) (by rfl) c__law_pick.m c__law_pick.kp c__law_pick.b .nil pass0 (pa_cons (pv 0) (pa_cons (pe_int) pa_nil))) (fun _ _ => rfl)) (pa_cons (pe_ix ix_str (pv 3) (pe_call c__law_pick.ok (hr.mono (by decide)) (by rfl) c__law_pick.m c__law_pick.kp c__law_pick.b .nil pass0 (pa_cons (pv 0) (pa_cons (pe_int) pa_nil))) (fun _ _ => rfl)) pa_nil))) (pe_call c__law_pick.ok (hr.mono (by decide)) (by rfl) c__law_pick.m c__law_pick.kp c__law_pick.b .nil pass0 (pa_cons (pv 0) (pa_cons (pe_int) pa_nil))) (fun _ _ => rfl))))))
      (pss_one (ps_ret (pv 4)))))), ?_⟩
    refine ⟨rfl, fun al la aA => ⟨_, _, rfl, ?_⟩⟩
    -- how many
    refine ⟨_, rfl, _, rfl, _, _, rfl, rfl, h, _, n, rfl, hA, by omega, by omega, by omega, fun H1 d1 b1 A1 d10 d11 => ?_⟩
    refine ⟨_, rfl, by show 3 ≤ sizeLine; decide, fun l nl => ?_⟩
    have n1 := ne_hand A1 nl
    have A2 := A1.put (o := .lst [.int 0, .int d1, .int (most : Int)]) b1 hA (b1.free n1 nl) n1
    have b2 := b1.put (o := .lst [.int 0, .int d1, .int (most : Int)]) n1 (b1.free n1 nl)
    refine ⟨_, rfl, h, 3, _, rfl, A2, by omega, by decide, by decide, fun H3 d3 b3 A3 d30 d31 => ?_⟩
    have hl3 : H3 l = some (.lst [.int 0, .int d1, .int (most : Int)]) := b3.1 _ _ n1 upd_same
    obtain ⟨x, ex, mx⟩ := atI_in (xs := ([.int 0, .int d1, .int (most : Int)] : List V)) d30 d31
    obtain ⟨v, rfl, hv⟩ : ∃ v : Nat, x = .int (v : Int) ∧ v ≤ most := by
      have mx : x = .int 0 ∨ x = .int d1 ∨ x = .int (most : Int) := by simpa using mx
      rcases mx with rfl | rfl | rfl
      · exact ⟨0, rfl, Nat.zero_le _⟩
      · exact ⟨d1.toNat, by rw [Int.toNat_of_nonneg d10], by omega⟩
      · exact ⟨most, rfl, Nat.le_refl _⟩
    have b03 := b2.trans b3
    refine ⟨l, _, d3, _, rfl, rfl, SqL.of hl3, ex, _, rfl, by omega, by omega, ?_⟩
    rw [Int.toNat_natCast]
    refine for_range (lo := 0) (n := v) (fun i σ' H' => (∃ k z, σ' = [some (.ref h), some (.int (most : Int)), some (.str al), some (.str (Str.ofString "0123456789 0123456789 ")), some (.str z), k] ∧ z.length ≤ i ∧ As z) ∧ But h H H' ∧ HandAt H' h (n + 2 + 3 * i))
      ⟨⟨_, _, rfl, Nat.zero_le _, (show ∀ c ∈ tl (Str.ofString ""), c < 128 by decide +kernel)⟩, b03, A3⟩ ?_ ?_
    · rintro i σ' H4 hi ⟨⟨k, z, rfl, lz, az⟩, b4, A4⟩
      refine ⟨_, rfl, _, rfl, _, rfl, h, 94, _, rfl, A4, by omega, by decide, by decide, fun H5 d5 b5 A5 d50 d51 => ?_⟩
      obtain ⟨c5, e5, m5⟩ := atI_in (xs := al.cps.toList) d50 (by rw [show al.cps.toList.length = al.length from (len_tl al).symm, la]; exact d51)
      refine ⟨_, d5, c5, rfl, rfl, by rw [la]; omega, e5, ?_⟩
      refine ⟨_, rfl, _, rfl, h, 22, _, rfl, A5, by omega, by decide, by decide, fun H6 d6 b6 A6 d60 d61 => ?_⟩
      obtain ⟨c6, e6, m6⟩ := atI_in (xs := (Str.ofString "0123456789 0123456789 ").cps.toList) d60 (by rw [show (Str.ofString "0123456789 0123456789 ").cps.toList.length = 22 by decide +kernel]; exact d61)
      refine ⟨_, d6, c6, rfl, rfl, by rw [show (Str.ofString "0123456789 0123456789 ").length = 22 by decide +kernel]; omega, e6, by show 2 ≤ sizeLine; decide, fun p np => ?_⟩
      have b46 := b5.trans b6
      have n2 := ne_hand A6 np
      have A7 := A6.put (o := .lst [.str ⟨#[c5]⟩, .str ⟨#[c6]⟩]) b46 A4 (b46.free n2 np) n2
      have b7 := b46.put (o := .lst [.str ⟨#[c5]⟩, .str ⟨#[c6]⟩]) n2 (b46.free n2 np)
      refine ⟨_, rfl, h, 2, _, rfl, A7, by omega, by decide, by decide, fun H8 d8 b8 A8 d80 d81 => ?_⟩
      have hp8 : H8 p = some (.lst [.str ⟨#[c5]⟩, .str ⟨#[c6]⟩]) := b8.1 _ _ n2 upd_same
      obtain ⟨x, ex, mx⟩ := atI_in (xs := ([.str ⟨#[c5]⟩, .str ⟨#[c6]⟩] : List V)) d80 d81
      obtain ⟨c, rfl, hc⟩ : ∃ c : Nat, x = .str ⟨#[c]⟩ ∧ c < 128 := by
        have mx : x = .str ⟨#[c5]⟩ ∨ x = .str ⟨#[c6]⟩ := by simpa using mx
        rcases mx with rfl | rfl
        · exact ⟨c5, rfl, aA _ m5⟩
        · exact ⟨c6, rfl, (show ∀ c ∈ (Str.ofString "0123456789 0123456789 ").cps.toList, c < 128 by decide +kernel) _ m6⟩
      have l1 : (⟨#[c]⟩ : Str).length = 1 := rfl
      refine ⟨p, _, d8, _, rfl, rfl, SqL.of hp8, ex, _, _, rfl, rfl, by rw [l1]; omega, ⟨_, _, rfl, by rw [app_len, l1]; omega, az.app ?_⟩, b4.trans (b7.trans b8), A8⟩
      intro y hy
      have : y = c := List.mem_singleton.mp hy
      omega
    · rintro σ' H4 ⟨⟨k, z, rfl, lz, az⟩, b4, A4⟩
      exact ⟨_, rfl, q _ z b4 (A4.mono (by omega)) (by omega) az⟩
end
end Ev

set_option autoImplicit false
set_option maxHeartbeats 4000000
namespace Ev
open PySem PySem.Spec PyProof.Rows L2 TL
open Cc (Cl)
theorem tl_to (t : Str) (k : Nat) : tl (cutS t none (some (k : Int))) = (tl t).take k := by
  unfold cutS
  rw [HT.sIx_none, HT.sIx_nat]
  show (((tl t).drop 0).take (min k t.length - 0)) = _
  rw [List.drop_zero, Nat.sub_zero]
  by_cases h : k ≤ t.length
  · rw [Nat.min_eq_left h]
  · rw [Nat.min_eq_right (by omega), len_tl, List.take_length, List.take_of_length_le (by rw [← len_tl]; omega)]
theorem tl_two (t : Str) (k : Nat) (h : k < t.length) : tl (cutS t (some (k : Int)) (some ((k : Int) + 2))) = ((tl t).drop k).take 2 := by
  unfold cutS
  rw [show ((k : Int) + 2) = ((k + 2 : Nat) : Int) by omega, HT.sIx_nat t.length 0 k, HT.sIx_nat t.length t.length (k + 2), Nat.min_eq_left (show k ≤ t.length by omega)]
  show (((tl t).drop k).take (min (k + 2) t.length - k)) = _
  by_cases c : k + 2 ≤ t.length
  · rw [Nat.min_eq_left c, show k + 2 - k = 2 by omega]
  · rw [Nat.min_eq_right (by omega), List.take_of_length_le (by rw [List.length_drop, ← len_tl]; omega), List.take_of_length_le (by rw [List.length_drop, ← len_tl]; omega)]
theorem cutS_len (z : Str) (lo hi : Option Int) : (cutS z lo hi).length ≤ z.length := by
  unfold cutS
  show (Array.size _) ≤ z.cps.size
  rw [List.size_toArray, List.length_take, List.length_drop, Array.length_toList]
  omega
theorem as_row {b : Str} (h : As b) : As (rowT b) := fun c hc => by
  obtain ⟨k, _, _, e⟩ := tl_row b
  rw [e] at hc
  have hd : ∀ n : Nat, ∀ c ∈ numL n, 48 ≤ c ∧ c ≤ 57 := numL_digits
  simp only [List.mem_append, List.mem_cons] at hc
  rcases hc with hc | hc | hc | hc | hc
  · have := hd _ _ hc
    omega
  · omega
  · have := hd _ _ hc
    omega
  · omega
  · exact h c hc
theorem as_mem {A : List Nat} {at_ x : Nat} (hA : ∀ c ∈ A, c < 128) (hx : x < 128) : ∀ c ∈ A.take at_ ++ x :: A.drop (at_ + 1), c < 128 := fun c hc => by
  rcases List.mem_append.mp hc with h | h
  · exact hA c (List.mem_of_mem_take h)
  · rcases List.mem_cons.mp h with rfl | h
    · exact hx
    · exact hA c (List.mem_of_mem_drop h)
/-- one sign another one -/
theorem flip_none {b t : Str} {at_ x : Nat} (hb : b.length < 5000) (hA : As (rowT b)) (hx : x < 128) (ha : at_ < (rowT b).length) (ne : (tl (rowT b))[at_]? ≠ some x) (e : tl t = (tl (rowT b)).take at_ ++ x :: (tl (rowT b)).drop (at_ + 1)) : bodyOf t = .non := by
  refine none_of fun L S c k => ?_
  obtain ⟨S0, r⟩ := row_l b
  rw [len_tl] at ha
  have l1 : ((tl (rowT b)).take at_).length = at_ := by rw [List.length_take]; omega
  have ag : ∀ j, j ≠ at_ → (tl (rowT b))[j]? = (tl t)[j]? := fun j hj => by
    rw [e]
    rcases Nat.lt_or_ge j at_ with h | h
    · rw [List.getElem?_append_left (by omega), List.getElem?_take, if_pos h]
    · rw [List.getElem?_append_right (by omega), l1, show j - at_ = (j - at_ - 1) + 1 by omega, List.getElem?_cons_succ, List.getElem?_drop, show at_ + 1 + (j - at_ - 1) = j by omega]
  have len : (tl t).length = (tl (rowT b)).length := by rw [e, List.length_append, l1, List.length_cons, List.length_drop]; omega
  have q := r.flip k hA (by rw [e]; exact as_mem hA hx) hb (i := at_) len ag
  refine ne ?_
  rw [q, e, List.getElem?_append_right (by omega), l1, Nat.sub_self]
  rfl
theorem swap_none {b t : Str} {at_ x y : Nat} (hA : As (rowT b)) (a0 : (tl (rowT b))[at_]? = some x) (a1 : (tl (rowT b))[at_ + 1]? = some y) (ne : x ≠ y) (e : tl t = (tl (rowT b)).take at_ ++ y :: x :: (tl (rowT b)).drop (at_ + 2)) : bodyOf t = .non := by
  refine none_of fun L S c k => ?_
  obtain ⟨S0, r⟩ := row_l b
  have ha := (List.getElem?_eq_some_iff.mp a1).1
  have l1 : ((tl (rowT b)).take at_).length = at_ := by rw [List.length_take]; omega
  refine r.swap k hA ne (i := at_) ?_ a0 a1 ?_ ?_ fun j h1 h2 => ?_
  · rw [e, List.length_append, l1, List.length_cons, List.length_cons, List.length_drop]
    omega
  · rw [e, List.getElem?_append_right (by omega), l1, Nat.sub_self]
    rfl
  · rw [e, List.getElem?_append_right (by omega), l1, show at_ + 1 - at_ = 1 by omega]
    rfl
  · rw [e]
    rcases Nat.lt_or_ge j at_ with h | h
    · rw [List.getElem?_append_left (by omega), List.getElem?_take, if_pos h]
    · rw [List.getElem?_append_right (by omega), l1, show j - at_ = (j - at_ - 2) + 1 + 1 by omega, List.getElem?_cons_succ, List.getElem?_cons_succ, List.getElem?_drop, show at_ + 2 + (j - at_ - 2) = j by omega]
theorem early_none {b t : Str} {at_ : Nat} (ha : at_ < (rowT b).length) (e : tl t = (tl (rowT b)).take at_) : bodyOf t = .non := by
  refine none_of fun L S c k => ?_
  obtain ⟨S0, r⟩ := row_l b
  rw [e] at k
  exact r.early k (by rw [← len_tl]; exact ha)
theorem dec_str {x y : Str} : decide (V.str x = V.str y) = decide (x = y) := decide_eq_decide.mpr ⟨fun h => V.str.inj h, fun h => by rw [h]⟩
def spNone : Sp := fun vs H Q _ => ∃ (b al : Str) (at_ : Nat), vs = [.str (rowT b), .int (at_ : Int), .str al] ∧ b.length < 5000 ∧ As b ∧ As al ∧ al.length ≤ 100 ∧ at_ < (rowT b).length ∧ ∀ H', Same H H' → Q (.bl true) H'
section
variable {P : Program} {w : World} {K : PySem.W.Frag} {mg : Str → Option Value} {base : Heap}
theorem scnone : FnScope ["written", "at", "signs", "sign", "both"] ["written", "at", "signs"] (defScope sNone) := ⟨rfl, rfl, rfl, by decide +kernel, rfl, by decide +kernel, by decide +kernel⟩
theorem ok_none {f : Addr} {fd : FuncData} (F : FnP K "_law_none" sNone f fd) {f_body_of : Addr} {fd_body_of : FuncData} (c_body_of : Cl P w K mg base CX0 "body_of" 3 ["row"] (spBody) f_body_of fd_body_of)    : FnOk P w K mg base CX0 4 f fd ["written", "at", "signs"] (spNone) := by
  refine F.ok scnone (fun vs H Q E h => ?_) (fun cdv A outer s H vs Q E hr h => ?_)
  · obtain ⟨b, al, at_, rfl, _⟩ := h
    rfl
  · obtain ⟨b, al, at_, rfl, hb, ab, aA, la, ha, q⟩ := h
    have hu := hu_of hr
    have hs := szl
    have rl := row_len (b := b) (by omega)
    have aR := as_row ab
    refine ⟨_, PSs.nox (pss_cons (ps_for PassesOwn.never rfl (pi_str (pv 2)) (pg_name (i := 3) scnone.nd rfl (Or.inl rfl)) (pss_one (ps_if (PW.pt (pw_and (pt_cmpR op_ne (pv 3) (pe_ix ix_str (pv 0) (pv 1) (fun _ _ => rfl)) (nomark _)) (pw_and1 (pt_cmpR op_notN (pe_call c_body_of.ok (hr.mono (by decide)) (by rfl) c_body_of.m c_body_of.kp c_body_of.b .nil pass0 (pa_cons (pe_op op_add_str (pe_op op_add_str (pe_slice sl_str (pv 0) po_none (po_some (pv 1))) (pv 3)) (pe_slice sl_str (pv 0) (po_some (pe_op op_add (pv 1) (pe_int))) po_none)) pa_nil)) (pe_non) (nomark _))))) (pss_one (ps_ret (pe_bl))) (pss_nil))))
      (pss_cons (ps_set (i := 4) scnone.nd rfl (Or.inl rfl) (pe_slice sl_str (pv 0) (po_some (pv 1)) (po_some (pe_op op_add (pv 1) (pe_int)))))
      (C8.pss_cut (ps_if (PW.pt (pw_and (pt_cmpR op_ne (pv 4) (pe_revS (pv 4)) (nomark _)) (pw_and1 (pt_cmpR op_notN (pe_call c_body_of.ok (hr.mono (by decide)) (by rfl) c_body_of.m c_body_of.kp c_body_of.b .nil pass0 (pa_cons (pe_op op_add_str (pe_op op_add_str (pe_slice sl_str (pv 0) po_none (po_some (pv 1))) (pe_revS (pv 4))) (pe_slice sl_str (pv 0) (po_some (pe_op op_add (pv 1) (pe_int))) po_none)) pa_nil)) (pe_non) (nomark _))))) (pss_one (ps_ret (pe_bl))) (pss_nil))
      (pss_one (ps_ret (pe_cmpR op_isN (pe_call c_body_of.ok (hr.mono (by decide)) (by rfl) c_body_of.m c_body_of.kp c_body_of.b .nil pass0 (pa_cons (pe_slice sl_str (pv 0) po_none (po_some (pv 1))) pa_nil)) (pe_non) (nomark _))))))), ?_⟩
    generalize hw : rowT b = w at rl aR ha ⊢
    refine ⟨_, rfl, al, rfl, L2.for_it (walk_str (z := al)) (fun i σ' H' => (∃ k, σ' = [some (.str w), some (.int (at_ : Int)), some (.str al), k, none]) ∧ Same H H') ⟨⟨_, rfl⟩, Same.refl H⟩ (fun _ _ _ _ _ => trivial) ?_ ?_⟩
    · rintro i x σ' H1 H2 hi ⟨⟨k, rfl⟩, s1⟩ ⟨rfl, c, hc, rfl⟩
      have c128 : c < 128 := aA c (List.mem_of_getElem? (by rw [← hc]; exact Array.getElem?_toList))
      obtain ⟨d, hd⟩ : ∃ d, (tl w)[at_]? = some d := ⟨_, List.getElem?_eq_getElem (by rw [← len_tl]; exact ha)⟩
      have l1 : (⟨#[c]⟩ : Str).length = 1 := rfl
      have la2 := cutS_len w none (some (at_ : Int))
      have lb2 := cutS_len w (some ((at_ : Int) + 1)) none
      refine ⟨_, rfl, _, rfl, _, rfl, w, at_, d, rfl, rfl, by omega, atI_nat hd, rfl, _, rfl, ite2 (fun e => ?_) (fun e => ⟨⟨_, rfl⟩, s1⟩)⟩
      have ne : d ≠ c := fun z => by
        subst z
        rw [decide_eq_true rfl] at e
        cases e
      refine ⟨_, rfl, _, rfl, at_, rfl, w, rfl, by omega, _, rfl, _, _, rfl, rfl, by rw [l1]; omega, _, rfl, _, rfl, _, _, rfl, rfl, (at_ : Int) + 1, rfl, w, rfl, by omega, _, _, rfl, rfl, by rw [app_len, l1]; omega, ?_⟩
      refine ⟨_, rfl, by rw [app_len, app_len, l1]; omega, fun H3 s3 => ⟨rfl, _, rfl, ?_⟩⟩
      have none_ : bodyOf (cutS w none (some (at_ : Int)) ++ ⟨#[c]⟩ ++ cutS w (some ((at_ : Int) + 1)) none) = .non := by
        subst hw
        refine flip_none hb aR c128 ha (fun z => ne (Option.some.inj (hd.symm.trans z))) ?_
        rw [tl_append, tl_append, tl_to, show ((at_ : Int) + 1) = ((at_ + 1 : Nat) : Int) by omega, tl_cut_from]
        show (_ ++ [c]) ++ _ = _
        simp
      rw [none_]
      exact ⟨⟨_, rfl⟩, s1.trans s3⟩
    · rintro σ' H1 ⟨⟨k, rfl⟩, s1⟩
      refine ⟨_, rfl, _, rfl, at_, rfl, _, rfl, _, _, rfl, rfl, (at_ : Int) + 2, rfl, w, rfl, by omega, ?_⟩
      have lc := cutS_len w (some (at_ : Int)) (some ((at_ : Int) + 2))
      have la2 := cutS_len w none (some (at_ : Int))
      have lb2 := cutS_len w (some ((at_ : Int) + 2)) none
      have tb := tl_two w at_ ha
      generalize hbo : cutS w (some (at_ : Int)) (some ((at_ : Int) + 2)) = both at lc tb ⊢
      refine ⟨fun σ' H' => σ' = [some (.str w), some (.int (at_ : Int)), some (.str al), k, some (.str both)] ∧ Same H H', ?_, ?_⟩
      · refine ⟨_, rfl, _, rfl, both, rfl, by omega, rfl, _, rfl, ite2 (fun e => ?_) (fun e => ⟨rfl, s1⟩)⟩
        have ne : both ≠ revS both := fun z => by
          rw [dec_str, decide_eq_true z] at e
          cases e
        refine ⟨_, rfl, _, rfl, at_, rfl, w, rfl, by omega, _, rfl, both, rfl, by omega, _, _, rfl, rfl, by rw [revS_len]; omega, _, rfl, _, rfl, _, _, rfl, rfl, (at_ : Int) + 2, rfl, w, rfl, by omega, _, _, rfl, rfl, by rw [app_len, revS_len]; omega, ?_⟩
        refine ⟨_, rfl, by rw [app_len, app_len, revS_len]; omega, fun H3 s3 => ⟨rfl, _, rfl, ?_⟩⟩
        have tr : tl (revS both) = (tl both).reverse := by
          show both.cps.toList.reverse.toArray.toList = _
          simp
        obtain ⟨x, a0⟩ : ∃ x, (tl w)[at_]? = some x := ⟨_, List.getElem?_eq_getElem (by rw [← len_tl]; exact ha)⟩
        have dr : (tl w).drop at_ = x :: (tl w).drop (at_ + 1) := by
          have hp := (List.getElem?_eq_some_iff.mp a0).1
          rw [List.drop_eq_getElem_cons hp, (List.getElem?_eq_some_iff.mp a0).2]
        have none_ : bodyOf (cutS w none (some (at_ : Int)) ++ revS both ++ cutS w (some ((at_ : Int) + 2)) none) = .non := by
          cases h1 : (tl w)[at_ + 1]? with
          | none =>
            exfalso
            have dn : (tl w).drop (at_ + 1) = [] := List.drop_eq_nil_of_le (List.getElem?_eq_none_iff.mp h1)
            rw [dr, dn] at tb
            refine ne (ext_tl ?_)
            rw [tr, tb]
            rfl
          | some y =>
            have dn : (tl w).drop (at_ + 1) = y :: (tl w).drop (at_ + 2) := by
              have hp := (List.getElem?_eq_some_iff.mp h1).1
              rw [List.drop_eq_getElem_cons hp, (List.getElem?_eq_some_iff.mp h1).2]
            rw [dr, dn] at tb
            have tb : tl both = [x, y] := tb
            have xy : x ≠ y := fun z => ne (ext_tl (by rw [tr, tb, z]; rfl))
            subst hw
            refine swap_none aR a0 h1 xy ?_
            rw [tl_append, tl_append, tl_to, tr, tb, show ((at_ : Int) + 2) = ((at_ + 2 : Nat) : Int) by omega, tl_cut_from]
            show (_ ++ [y, x]) ++ _ = _
            simp
        rw [none_]
        exact ⟨rfl, s1.trans s3⟩
      · rintro σ' H3 ⟨rfl, s3⟩
        refine ⟨_, rfl, _, rfl, at_, rfl, w, rfl, by omega, _, rfl, by omega, fun H4 s4 => ⟨rfl, ?_⟩⟩
        have none_ : bodyOf (cutS w none (some (at_ : Int))) = .non := by
          subst hw
          exact early_none ha (tl_to _ _)
        rw [none_]
        exact q H4 (s3.trans s4)
end
end Ev

set_option autoImplicit false
set_option maxHeartbeats 4000000
namespace Ev
open PySem PySem.Spec PyProof.Rows L2 TL
open Cc (Cl)
def spLaw (K : PySem.W.Frag) : Sp := fun vs H Q _ => ∃ (a : Addr) (ns : List Int), vs = [.ref a] ∧ SqL K H a (ns.map V.int) ∧ ns.length ≤ 63 ∧ ∀ H', Q (.bl true) H'
theorem as_cut {z : Str} {lo hi : Option Int} (h : As z) : As (cutS z lo hi) := fun c hc => by
  have h2 : c ∈ (z.cps.toList.drop (HT.sIx z.length 0 lo)).take (HT.sIx z.length z.length hi - HT.sIx z.length 0 lo) := hc
  exact h c (List.mem_of_mem_drop (List.mem_of_mem_take h2))
section
variable {P : Program} {w : World} {K : PySem.W.Frag} {mg : Str → Option Value} {base : Heap}
theorem sclaw : FnScope ["script", "hand", "signs", "turn", "body", "written", "at", "size"] ["script"] (defScope sLaw) := ⟨rfl, rfl, rfl, by decide +kernel, rfl, by decide +kernel, by decide +kernel⟩
theorem ok_law {f : Addr} {fd : FuncData} (F : FnP K "law" sLaw f fd) {f__law_dealt : Addr} {fd__law_dealt : FuncData} (c__law_dealt : Cl P w K mg base CX0 "_law_dealt" 1 ["script"] (spDealt K) f__law_dealt fd__law_dealt) {f__law_pick : Addr} {fd__law_pick : FuncData} (c__law_pick : Cl P w K mg base CX0 "_law_pick" 1 ["hand", "many"] (spPick) f__law_pick fd__law_pick) {f__law_alphabet : Addr} {fd__law_alphabet : FuncData} (c__law_alphabet : Cl P w K mg base CX0 "_law_alphabet" 1 [] (spAlpha) f__law_alphabet fd__law_alphabet) {f__law_any_body : Addr} {fd__law_any_body : FuncData} (c__law_any_body : Cl P w K mg base CX0 "_law_any_body" 2 ["hand", "most"] (spAny) f__law_any_body fd__law_any_body) {f_framed : Addr} {fd_framed : FuncData} (c_framed : Cl P w K mg base CX0 "framed" 2 ["body"] (spFramed) f_framed fd_framed) {f_body_of : Addr} {fd_body_of : FuncData} (c_body_of : Cl P w K mg base CX0 "body_of" 3 ["row"] (spBody) f_body_of fd_body_of) {f__law_none : Addr} {fd__law_none : FuncData} (c__law_none : Cl P w K mg base CX0 "_law_none" 4 ["written", "at", "signs"] (spNone) f__law_none fd__law_none) (mb_range : mg "range" = none) (mb_len : mg "len" = none) (mb_int : mg "int" = none)   : FnOk P w K mg base CX0 5 f fd ["script"] (spLaw K) := by
  refine F.ok sclaw (fun vs H Q E h => ?_) (fun cdv A outer s H vs Q E hr h => ?_)
  · obtain ⟨a, ns, rfl, _⟩ := h
    rfl
  · obtain ⟨a, ns, rfl, hS, hl, q⟩ := h
    have hu := hu_of hr
    have hs := szl
    refine ⟨_, PSs.nox (pss_cons (ps_set (i := 1) sclaw.nd rfl (Or.inl rfl) (pe_call c__law_dealt.ok (hr.mono (by decide)) (by rfl) c__law_dealt.m c__law_dealt.kp c__law_dealt.b .nil pass0 (pa_cons (pv 0) pa_nil)))
      (pss_cons (ps_set (i := 2) sclaw.nd rfl (Or.inl rfl) (pe_call0 c__law_alphabet.ok (hr.mono (by decide)) (by rfl) c__law_alphabet.m c__law_alphabet.kp c__law_alphabet.b .nil pass0))
      (pss_cons (ps_for PassesOwn.never rfl (pi_range1 (by rfl) mb_range (pa_cons (pe_int) pa_nil)) (pg_name (i := 3) sclaw.nd rfl (Or.inl rfl)) (pss_cons (ps_set (i := 4) sclaw.nd rfl (Or.inl rfl) (pe_call c__law_any_body.ok (hr.mono (by decide)) (by rfl) c__law_any_body.m c__law_any_body.kp c__law_any_body.b .nil pass0 (pa_cons (pv 1) (pa_cons (pe_int) pa_nil))))
      (pss_cons (ps_set (i := 5) sclaw.nd rfl (Or.inl rfl) (pe_call c_framed.ok (hr.mono (by decide)) (by rfl) c_framed.m c_framed.kp c_framed.b .nil pass0 (pa_cons (pv 4) pa_nil)))
      (pss_cons (ps_if (pt_cmpR op_ne (pe_call c_body_of.ok (hr.mono (by decide)) (by rfl) c_body_of.m c_body_of.kp c_body_of.b .nil pass0 (pa_cons (pv 5) pa_nil)) (pv 4) (nomark _)) (pss_one (ps_ret (pe_bl))) (pss_nil))
      (pss_cons (ps_for PassesOwn.never rfl (pi_range1 (by rfl) mb_range (pa_cons (pe_callB call_len_str (by rfl) mb_len (by decide +kernel) (pa_cons (pv 5) pa_nil)) pa_nil)) (pg_name (i := 6) sclaw.nd rfl (Or.inl rfl)) (pss_one (ps_if (pt_not (pt_val (pe_call c__law_none.ok (hr.mono (by decide)) (by rfl) c__law_none.m c__law_none.kp c__law_none.b .nil pass0 (pa_cons (pv 5) (pa_cons (pv 6) (pa_cons (pv 2) pa_nil)))))) (pss_one (ps_ret (pe_bl))) (pss_nil))))
      (pss_one (ps_if (pt_cmpR op_ne (pe_call c_body_of.ok (hr.mono (by decide)) (by rfl) c_body_of.m c_body_of.kp c_body_of.b .nil pass0 (pa_cons (pv 5) pa_nil)) (pv 4) (nomark _)) (pss_one (ps_ret (pe_bl))) (pss_nil))))))))
      (pss_cons (ps_par (i := 4) (j := 7) rfl sclaw.nd rfl rfl (by decide) rfl rfl (pa_cons (pe_call c__law_any_body.ok (hr.mono (by decide)) (by rfl) c__law_any_body.m c__law_any_body.kp c__law_any_body.b .nil pass0 (pa_cons (pv 1) (pa_cons (pe_int) pa_nil))) (pa_cons (pe_ix ix_list (pe_lst (pa_cons (pe_int) (pa_cons (pe_op op_add (pe_int) (pe_call c__law_pick.ok (hr.mono (by decide)) (by rfl) c__law_pick.m c__law_pick.kp c__law_pick.b .nil pass0 (pa_cons (pv 1) (pa_cons (pe_int) pa_nil)))) pa_nil))) (pe_call c__law_pick.ok (hr.mono (by decide)) (by rfl) c__law_pick.m c__law_pick.kp c__law_pick.b .nil pass0 (pa_cons (pv 1) (pa_cons (pe_int) pa_nil))) (fun _ _ => rfl)) pa_nil)) (by rfl))
      (C8.pss_cut (ps_if (pt_cmpR op_gt (pv 7) (pe_int) (nomark _)) (pss_one (ps_set (i := 4) sclaw.nd rfl (Or.inl rfl) (pe_slice sl_str (pe_op op_mulS (pe_op op_add_str (pv 4) (pe_str)) (pe_op op_add (pe_int) (pe_op op_fdivN (pv 7) (pe_op op_add (pe_callB call_len_str (by rfl) mb_len (by decide +kernel) (pa_cons (pv 4) pa_nil)) (pe_int))))) po_none (po_some (pv 7))))) (pss_nil))
      (pss_cons (ps_set (i := 5) sclaw.nd rfl (Or.inl rfl) (pe_call c_framed.ok (hr.mono (by decide)) (by rfl) c_framed.m c_framed.kp c_framed.b .nil pass0 (pa_cons (pv 4) pa_nil)))
      (pss_cons (ps_for PassesOwn.never rfl (pi_range1 (by rfl) mb_range (pa_cons (pe_op op_add (pe_int) (pe_op op_mul (pe_int) (pe_callTy call_int1 (by rfl) mb_int (by decide +kernel) (pa_cons (pe_cmpR op_eq (pv 7) pe_int (nomark _)) pa_nil)))) pa_nil)) (pg_name (i := 3) sclaw.nd rfl (Or.inl rfl)) (pss_one (ps_if (pt_not (pt_val (pe_call c__law_none.ok (hr.mono (by decide)) (by rfl) c__law_none.m c__law_none.kp c__law_none.b .nil pass0 (pa_cons (pv 5) (pa_cons (pe_call c__law_pick.ok (hr.mono (by decide)) (by rfl) c__law_pick.m c__law_pick.kp c__law_pick.b .nil pass0 (pa_cons (pv 1) (pa_cons (pe_callB call_len_str (by rfl) mb_len (by decide +kernel) (pa_cons (pv 5) pa_nil)) pa_nil))) (pa_cons (pe_slice sl_str (pe_slice sl_str (pv 2) (po_some (pe_call c__law_pick.ok (hr.mono (by decide)) (by rfl) c__law_pick.m c__law_pick.kp c__law_pick.b .nil pass0 (pa_cons (pv 1) (pa_cons (pe_int) pa_nil)))) po_none) po_none (po_some (pe_int))) pa_nil)))))) (pss_one (ps_ret (pe_bl))) (pss_nil))))
      (pss_one (ps_ret (pe_cmpR op_eq (pe_call c_body_of.ok (hr.mono (by decide)) (by rfl) c_body_of.m c_body_of.kp c_body_of.b .nil pass0 (pa_cons (pv 5) pa_nil)) (pv 4) (nomark _))))))))))), ?_⟩
    refine ⟨_, rfl, a, ns, rfl, hS, hl, fun H1 h s1 nh A1 => ⟨rfl, fun al la aA => ?_⟩⟩
    refine ⟨_, rfl, by decide, by decide, for_range (lo := 0) (n := 3) (fun i σ' H' => (∃ x3 x4 x5 x6, σ' = [some (.ref a), some (.ref h), some (.str al), x3, x4, x5, x6, none]) ∧ HandAt H' h (92 * i)) ⟨⟨_, _, _, _, rfl⟩, A1⟩ ?_ ?_⟩
    · rintro i σ' H2 hi ⟨⟨x3, x4, x5, x6, rfl⟩, A2⟩
      refine ⟨_, rfl, h, 30, _, rfl, A2, by omega, by omega, fun H3 z b3 A3 lz az => ?_⟩
      have rl := row_len (b := z) (by omega)
      refine ⟨_, rfl, z, rfl, by omega, fun H4 s4 => ⟨_, rfl, rowT z, rfl, by omega, fun H5 s5 => ?_⟩⟩
      rw [bodyOf_row]
      refine ⟨_, rfl, rfl, _, rfl, ?_⟩
      rw [decide_eq_true rfl]
      have A5 := (A3.same s4).same s5
      refine iteF ⟨_, rfl, _, rfl, by omega, _, rfl, by omega, by omega, ?_⟩
      refine for_range (lo := 0) (n := (((rowT z).length : Nat) : Int).toNat) (fun j σ' H' => (∃ x6, σ' = [some (.ref a), some (.ref h), some (.str al), some (.int (0 + (i : Int))), some (.str z), some (.str (rowT z)), x6, none]) ∧ HandAt H' h (92 * (i + 1))) ⟨⟨_, rfl⟩, A5.mono (by omega)⟩ ?_ ?_
      · rintro j σ' H6 hj ⟨⟨x6, rfl⟩, A6⟩
        refine ⟨_, rfl, _, rfl, _, rfl, z, al, j, (by rw [Int.zero_add]; rfl), by omega, az, aA, by omega, by omega, fun H7 s7 => ⟨_, rfl, iteF ⟨⟨_, rfl⟩, A6.same s7⟩⟩⟩
      · rintro σ' H6 ⟨⟨x6, rfl⟩, A6⟩
        refine ⟨_, rfl, rowT z, rfl, by omega, fun H7 s7 => ?_⟩
        rw [bodyOf_row]
        refine ⟨_, rfl, rfl, _, rfl, ?_⟩
        rw [decide_eq_true rfl]
        exact iteF ⟨⟨_, _, _, _, rfl⟩, A6.same s7⟩
    · rintro σ' H2 ⟨⟨x3, x4, x5, x6, rfl⟩, A2⟩
      refine ⟨_, rfl, h, 800, _, rfl, A2, by omega, by omega, fun H3 z b3 A3 lz az => ?_⟩
      refine ⟨_, rfl, h, 2400, _, rfl, A3, by omega, by decide, by decide, fun H4 d4 b4 A4 d40 d41 => ⟨_, _, rfl, rfl, by show 2 ≤ sizeLine; decide, fun l nl => ?_⟩⟩
      have n1 := ne_hand A4 nl
      have A5 := A4.put (o := .lst [.int 800, .int (1500 + d4)]) (But.refl h _) A4 nl n1
      refine ⟨_, rfl, h, 2, _, rfl, A5, by omega, by decide, by decide, fun H6 d6 b6 A6 d60 d61 => ?_⟩
      have hl6 : H6 l = some (.lst [.int 800, .int (1500 + d4)]) := b6.1 _ _ n1 upd_same
      obtain ⟨x, ex, mx⟩ := atI_in (xs := ([.int 800, .int (1500 + d4)] : List V)) d60 d61
      obtain ⟨v, rfl, v0, v1⟩ : ∃ v : Nat, x = .int (v : Int) ∧ 800 ≤ v ∧ v ≤ 3900 := by
        have mx : x = .int 800 ∨ x = .int (1500 + d4) := by simpa using mx
        rcases mx with rfl | rfl
        · exact ⟨800, rfl, by omega, by omega⟩
        · exact ⟨(1500 + d4).toNat, by rw [Int.toNat_of_nonneg (by omega)], by omega, by omega⟩
      refine ⟨l, _, d6, _, rfl, rfl, SqL.of hl6, ex, _, _, rfl, ?_⟩
      refine ⟨fun σ' H' => (∃ z2, σ' = [some (.ref a), some (.ref h), some (.str al), x3, some (.str z2), x5, x6, some (.int (v : Int))] ∧ z2.length < 5000 ∧ As z2) ∧ HandAt H' h 3000, ?_, ?_⟩
      · refine ⟨_, rfl, _, _, rfl, rfl, _, rfl, ite2 (fun e => ?_) (fun e => ⟨⟨z, rfl, by omega, az⟩, A6.mono (by omega)⟩)⟩
        have l4 : (Str.ofString "x1 9").length = 4 := by decide +kernel
        have a4 : As (Str.ofString "x1 9") := (show ∀ c ∈ tl (Str.ofString "x1 9"), c < 128 by decide +kernel)
        have k0 : 0 ≤ (v : Int).fdiv ((z.length : Int) + 4) := by
          rw [Int.fdiv_eq_ediv_of_nonneg _ (by omega)]
          exact Int.ediv_nonneg (by omega) (by omega)
        have k1 : (v : Int).fdiv ((z.length : Int) + 4) ≤ 975 := by
          rw [Int.fdiv_eq_ediv_of_nonneg _ (by omega)]
          refine Int.le_of_lt_add_one (Int.ediv_lt_of_lt_mul (by omega) ?_)
          have : (975 + 1 : Int) * 4 ≤ (975 + 1) * ((z.length : Int) + 4) := Int.mul_le_mul_of_nonneg_left (by omega) (by omega)
          omega
        have lz4 : (z ++ Str.ofString "x1 9").length = z.length + 4 := by rw [app_len, l4]
        have ml := mul_len (x := z ++ Str.ofString "x1 9") (n := 1 + (v : Int).fdiv ((z.length : Int) + 4)) (by omega)
        have big : (z ++ Str.ofString "x1 9").length * (1 + (v : Int).fdiv ((z.length : Int) + 4)).toNat ≤ 804 * 976 := Nat.mul_le_mul (by omega) (by omega)
        refine ⟨_, rfl, _, _, rfl, rfl, by rw [l4]; omega, _, rfl, _, rfl, _, rfl, by omega, _, _, rfl, rfl, _, _, rfl, rfl, ⟨by omega, by omega⟩, _, _, rfl, rfl, _, _, rfl, rfl, by omega, by omega, by omega, _, rfl, (v : Int), rfl, _, rfl, by omega, ⟨_, rfl, ?_, ?_⟩, A6.mono (by omega)⟩
        · rw [len_tl, tl_to, List.length_take]
          omega
        · exact as_cut fun c hc => (az.app a4) c (mem_mul (by omega) hc)
      · rintro σ' H7 ⟨⟨z2, rfl, lz2, az2⟩, A7⟩
        have rl := row_len (b := z2) (by omega)
        refine ⟨_, rfl, z2, rfl, by omega, fun H8 s8 => ?_⟩
        have A8 := A7.same s8
        refine ⟨_, rfl, rfl, .inr ⟨_, rfl, ?_⟩⟩
        obtain ⟨t, et, ht⟩ : ∃ t : Nat, (12 + 28 * (if decide (V.int (v : Int) = V.int 800) = true then 1 else 0) : Int) = (t : Int) ∧ t ≤ 40 := by
          by_cases c : decide (V.int (v : Int) = V.int 800) = true
          · exact ⟨40, by rw [if_pos c]; rfl, by omega⟩
          · exact ⟨12, by rw [if_neg c]; rfl, by omega⟩
        refine ⟨_, _, rfl, rfl, .inl ⟨by decide, by decide⟩, _, _, rfl, rfl, t, congrArg (fun x => [V.int x]) et, by omega, by omega, ?_⟩
        rw [Int.toNat_natCast]
        refine for_range (lo := 0) (n := t) (fun i σ' H' => (∃ x3, σ' = [some (.ref a), some (.ref h), some (.str al), x3, some (.str z2), some (.str (rowT z2)), x6, some (.int (v : Int))]) ∧ HandAt H' h (3000 + 2 * i)) ⟨⟨_, rfl⟩, A8⟩ ?_ ?_
        · rintro i σ' H9 hi ⟨⟨y3, rfl⟩, A9⟩
          have rp : 0 < (rowT z2).length := by
            obtain ⟨k, _, _, e⟩ := tl_row z2
            rw [len_tl, e, List.length_append, List.length_cons]
            omega
          refine ⟨_, rfl, _, rfl, _, rfl, _, rfl, by omega, h, _, _, rfl, A9, by omega, by omega, by omega, fun HA dA bA AA dA0 dA1 => ?_⟩
          refine ⟨_, rfl, _, rfl, h, 94, _, rfl, AA, by omega, by decide, by decide, fun HB dB bB AB dB0 dB1 => ?_⟩
          refine ⟨dB, rfl, al, rfl, by omega, 4, rfl, _, rfl, by have := cutS_len al (some dB) none; omega, ?_⟩
          refine ⟨z2, _, dA.toNat, (by rw [Int.toNat_of_nonneg dA0]; rfl), lz2, az2, as_cut (as_cut aA), ?_, by omega, fun HC sC => ⟨_, rfl, iteF ⟨⟨_, rfl⟩, AB.same sC⟩⟩⟩
          have e1 := cutS_len al (some dB) none
          have e2 := cutS_len (cutS al (some dB) none) none (some 4)
          omega
        · rintro σ' H9 ⟨⟨y3, rfl⟩, A9⟩
          refine ⟨_, rfl, rowT z2, rfl, by omega, fun HA sA => ?_⟩
          rw [bodyOf_row]
          refine ⟨_, rfl, rfl, ?_⟩
          rw [decide_eq_true rfl]
          exact q HA
end
end Ev

set_option maxHeartbeats 0
namespace Ev
open PySem PySem.Spec PyProof.Rows L2 Cc
def mkD (x : Str) (i : Nat) : He.DefD := ⟨(x, none), x, x, defArgs (top i), defBody (top i), defScope (top i), [], []⟩
def dK_sum_of : He.DefD := ⟨("sum_of", none), "sum_of", "sum_of", defArgs (top 2), defBody (top 2), defScope (top 2), [], [("modulus", .int 1000003)]⟩
def fn : List He.DefD := [dK_sum_of, mkD "framed" 3, mkD "body_of" 4, mkD "_law_dealt" 6, mkD "_law_pick" 7, mkD "_law_alphabet" 8, mkD "_law_any_body" 9, mkD "_law_none" 10, mkD "law" 11]
def fa : List He.Fa := [.glo "sum_of", .glo "framed", .glo "body_of", .glo "_law_dealt", .glo "_law_pick", .glo "_law_alphabet", .glo "_law_any_body", .glo "_law_none", .glo "law", .int "MODULUS" 1000003, .free "abs", .free "enumerate", .free "int", .free "len", .free "list", .free "ord", .free "range"]
def ex (K : PySem.W.Frag) : Bool := true
abbrev R : PySem.W.OpenRow := PySem.W.OpenLaw.row PySem.Challenge.rw_eventledger_k05_whole_each_flip_is_found
abbrev hk : PySem.W.Hook := He.hookX 4 fa fn [] [] ex
def ob (s : PySem.W.SharedT) : He.AlX := He.obsX 4 fa fn [] [] ex (HandSHeadRun.getT s)
theorem ob_eq (s : PySem.W.SharedT) : ob s = hk.obs s.abs := He.obsX_eq (HandSHeadRun.getT_eq s)
abbrev loose : List Str := ["MODULUS", "sum_of", "framed", "body_of", "_law_dealt", "_law_pick", "_law_alphabet", "_law_any_body", "_law_none"]
theorem run (w : World) : HandSHeadRun.RunEq R (PySem.W.view R.prog [11]) hk ob 2000 loose w := by
  intro os
  kernel_rfl
theorem facts {P : Program} {w : World} {K : PySem.W.Frag} {h : Heap} {mg : Str → Option Value} {f : Addr} (X : K.In h) (G : h.Ns mainGlobals mg) (hfa : mg ("law" : Str) = some (.ref f)) (cx : He.SaysX fa fn [] [] ex w h K) :
    ∃ fd : FuncData, (∀ (s : Shared) (v : Value), BindsTo s fd ⟨[v], []⟩ [("script", v)]) ∧ ∀ base : Heap, K.In base → base.Ns mainGlobals mg → FnOk P w K mg base CX0 5 f fd ["script"] (spLaw K) := by
  have c := cx.t.d
  obtain ⟨fd0, F0⟩ := c.def_ 0 (d := dK_sum_of) rfl
  obtain ⟨fd1, F1⟩ := c.def_ 1 (d := mkD "framed" 3) rfl
  obtain ⟨fd2, F2⟩ := c.def_ 2 (d := mkD "body_of" 4) rfl
  obtain ⟨fd3, F3⟩ := c.def_ 3 (d := mkD "_law_dealt" 6) rfl
  obtain ⟨fd4, F4⟩ := c.def_ 4 (d := mkD "_law_pick" 7) rfl
  obtain ⟨fd5, F5⟩ := c.def_ 5 (d := mkD "_law_alphabet" 8) rfl
  obtain ⟨fd6, F6⟩ := c.def_ 6 (d := mkD "_law_any_body" 9) rfl
  obtain ⟨fd7, F7⟩ := c.def_ 7 (d := mkD "_law_none" 10) rfl
  obtain ⟨fd8, F8⟩ := c.def_ 8 (d := mkD "law" 11) rfl
  have mb_abs := He.free_ok X G (c.fact 10 (f := .free "abs") rfl)
  have mb_enumerate := He.free_ok X G (c.fact 11 (f := .free "enumerate") rfl)
  have mb_int := He.free_ok X G (c.fact 12 (f := .free "int") rfl)
  have mb_len := He.free_ok X G (c.fact 13 (f := .free "len") rfl)
  have mb_list := He.free_ok X G (c.fact 14 (f := .free "list") rfl)
  have mb_ord := He.free_ok X G (c.fact 15 (f := .free "ord") rfl)
  have mb_range := He.free_ok X G (c.fact 16 (f := .free "range") rfl)
  obtain ⟨t_MODULUS, e_MODULUS⟩ := He.int_ok X G (c.fact 9 (f := .int "MODULUS" 1000003) rfl)
  have m0 := He.glo_ok X G (c.fact 0 (f := .glo "sum_of") rfl)
  have m1 := He.glo_ok X G (c.fact 1 (f := .glo "framed") rfl)
  have m2 := He.glo_ok X G (c.fact 2 (f := .glo "body_of") rfl)
  have m3 := He.glo_ok X G (c.fact 3 (f := .glo "_law_dealt") rfl)
  have m4 := He.glo_ok X G (c.fact 4 (f := .glo "_law_pick") rfl)
  have m5 := He.glo_ok X G (c.fact 5 (f := .glo "_law_alphabet") rfl)
  have m6 := He.glo_ok X G (c.fact 6 (f := .glo "_law_any_body") rfl)
  have m7 := He.glo_ok X G (c.fact 7 (f := .glo "_law_none") rfl)
  have e := hfa.symm.trans (He.glo_ok X G (c.fact 8 (f := .glo "law") rfl))
  cases e
  have b := FunD.bindsA (ps := ["script"]) F8 fun _ _ _ _ _ _ us hl => match us, hl with | [_], _ => rfl
  refine ⟨fd8, fun s v => b s [v] rfl, fun base _ _ => ?_⟩
  have b1 := FunD.bindsN (ps := ["body"]) F1 fun _ _ _ _ _ _ us hl => match us, hl with | [_], _ => rfl
  have c_framed : Cl P w K mg base CX0 "framed" _ _ _ _ _ := ⟨ok_framed (k := 0) F1 F0 m0 ((show FnS K "sum_of" sSum _ fd0 from F0).binds0 1 (by simp) rfl fun D doc pm an cdv ct us ks hl hk => match us, hl, ks, hk with | [_], _, [_], _ => ⟨_, _, _, _, _, _, rfl, rfl, rfl⟩) mb_len mb_enumerate mb_ord, m1, F1.kp, b1⟩
  have b2 := FunD.bindsN (ps := ["row"]) F2 fun _ _ _ _ _ _ us hl => match us, hl with | [_], _ => rfl
  have c_body_of : Cl P w K mg base CX0 "body_of" _ _ _ _ _ := ⟨ok_body F2 F1 m1 c_framed.ok, m2, F2.kp, b2⟩
  have b3 := FunD.bindsN (ps := ["script"]) F3 fun _ _ _ _ _ _ us hl => match us, hl with | [_], _ => rfl
  have c__law_dealt : Cl P w K mg base CX0 "_law_dealt" _ _ _ _ _ := ⟨ok_dealt (k := 0) F3 mb_list, m3, F3.kp, b3⟩
  have b4 := FunD.bindsN (ps := ["hand", "many"]) F4 fun _ _ _ _ _ _ us hl => match us, hl with | [_, _], _ => rfl
  have c__law_pick : Cl P w K mg base CX0 "_law_pick" _ _ _ _ _ := ⟨ok_pick (k := 0) F4 mb_len mb_abs, m4, F4.kp, b4⟩
  have b5 := FunD.bindsN (ps := []) F5 fun _ _ _ _ _ _ us hl => match us, hl with | [], _ => rfl
  have c__law_alphabet : Cl P w K mg base CX0 "_law_alphabet" _ _ _ _ _ := ⟨ok_alpha F5, m5, F5.kp, b5⟩
  have b6 := FunD.bindsN (ps := ["hand", "most"]) F6 fun _ _ _ _ _ _ us hl => match us, hl with | [_, _], _ => rfl
  have c__law_any_body : Cl P w K mg base CX0 "_law_any_body" _ _ _ _ _ := ⟨ok_any F6 c__law_alphabet c__law_pick mb_range, m6, F6.kp, b6⟩
  have b7 := FunD.bindsN (ps := ["written", "at", "signs"]) F7 fun _ _ _ _ _ _ us hl => match us, hl with | [_, _, _], _ => rfl
  have c__law_none : Cl P w K mg base CX0 "_law_none" _ _ _ _ _ := ⟨ok_none F7 c_body_of, m7, F7.kp, b7⟩
  exact ok_law F8 c__law_dealt c__law_pick c__law_alphabet c__law_any_body c_framed c_body_of c__law_none mb_range mb_len mb_int
end Ev
open PySem PySem.W PySem.Calls PyProof.Rows
theorem PySem.Challenge.cw_eventledger_k05_whole_each_flip_is_found_holds : PySem.Challenge.rw_eventledger_k05_whole_each_flip_is_found.Holds := by
  w_on; o_law
  refine HandSHeadRun.head_any (r := OpenLaw.row PySem.Challenge.rw_eventledger_k05_whole_each_flip_is_found) (q := view (OpenLaw.row PySem.Challenge.rw_eventledger_k05_whole_each_flip_is_found).prog [11]) (H := Ev.hk) (ob := Ev.ob) (M := 2000) (loose := Ev.loose) (d := HandSHeadRun.topDef (OpenLaw.row PySem.Challenge.rw_eventledger_k05_whole_each_flip_is_found).prog 11) (kwd := []) Ev.ob_eq
    (by kernel_rfl) (fun s => by kernel_rfl) Ev.run (by kernel_rfl) (by kernel_rfl) (by kernel_rfl) (by rfl) (by first | assumption | decide +kernel) (by decide +kernel) ⟨rfl, rfl, rfl, rfl, rfl, by decide +kernel⟩ ?hw ?hc
  case hw => w_witness2
  case hc =>
    refine L2.walk_ofE (l := PySem.Challenge.rw_eventledger_k05_whole_each_flip_is_found) (n := 63) (k := 5) (x := "script") (CX := L2.CX0) rfl (by decide) (by kernel_rfl) ⟨rfl, by decide, by decide⟩ ?F (fun _ _ _ _ z => z)
    intro w mg fa h Y G hmg0
    obtain ⟨K, KX, c⟩ := Y
    have hmg : mg ("law" : PySem.Str) = some (.ref fa) := by
      have e : (HandSHeadRun.topDef (OpenLaw.row PySem.Challenge.rw_eventledger_k05_whole_each_flip_is_found).prog 11).name = ("law" : PySem.Str) := by kernel_rfl
      rw [← e]
      exact hmg0
    obtain ⟨fd, hb, hF⟩ := Ev.facts (P := (PySem.Challenge.rw_eventledger_k05_whole_each_flip_is_found).prog) (w := w) KX G hmg c
    exact ⟨K, fd, Ev.spLaw K, KX, hb, fun H a ns hl _ hS => ⟨a, ns, rfl, hS, hl, fun _ => rfl⟩, hF⟩
