import PyProof.Rows.All
import Wide.All
import OpenK.AllK
import Wide.FinOn
import HandS.Text
import HandS.StrMore
import PyProof.StrLawsFrom
import HandS.ForMost
import HandS.FStr
import HandS.Defaults
import HandS.Style
import HandS.Replace
import HandS.ReplaceLit
import KE.GoesNew
import PyProof.Rows.StrRev
import KE.GoesEnumKw
import PyProof.Rows.CallKwBuiltin
import HandS.MakeKwOnly
import KE.KEqSeq
import HandS.Codes
import KE.KStateDown
import HandS.Base
import HandS.Call
import HandS.Ends
import HandS.More
import HandS.Words
import HandS.WordsExc
import HandS.Head0
import HandS.Head1
import HandS.Head2
import HandS.HeadEnd
import HandS.HeadHook1
import HandS.HeadHook2
import Lean
import PySem.Challenge.RW_eventledger_k04_rows_of_bodies
set_option Elab.async false
set_option linter.all false
set_option maxRecDepth 100000
namespace Ev
open PySem PySem.Spec PyProof.Rows L2 TL
abbrev sp : Str := " "
theorem tl_sp : tl sp = [32] := by decide +kernel
theorem sp_mk : sp = ⟨#[32]⟩ := ext_tl tl_sp
def wsum : Nat → List Nat → Int
  | _, [] => 0
  | k, c :: r => (c : Int) * ((k : Int) + 1) + wsum (k + 1) r
theorem wsum_snoc : ∀ (k : Nat) (l : List Nat) (c : Nat), wsum k (l ++ [c]) = wsum k l + (c : Int) * ((k : Int) + (l.length : Int) + 1)
  | k, [], c => by
    show (c : Int) * ((k : Int) + 1) + 0 = 0 + (c : Int) * ((k : Int) + (0 : Nat) + 1)
    simp
  | k, d :: r, c => by
    have ih := wsum_snoc (k + 1) r c
    show (d : Int) * ((k : Int) + 1) + wsum (k + 1) (r ++ [c]) = (d : Int) * ((k : Int) + 1) + wsum (k + 1) r + (c : Int) * ((k : Int) + ((r.length + 1 : Nat) : Int) + 1)
    rw [ih]
    have e : ((k + 1 : Nat) : Int) + (r.length : Int) + 1 = (k : Int) + ((r.length + 1 : Nat) : Int) + 1 := by omega
    rw [e]
    omega
theorem wsum_take {l : List Nat} {i c : Nat} (h : l[i]? = some c) : wsum 0 (l.take (i + 1)) = wsum 0 (l.take i) + (c : Int) * ((i : Int) + 1) := by
  have hi : i < l.length := (List.getElem?_eq_some_iff.mp h).1
  have e : l.take (i + 1) = l.take i ++ [c] := by rw [List.take_add_one, h]; rfl
  rw [e, wsum_snoc, List.length_take, Nat.min_eq_left (Nat.le_of_lt hi)]
  congr 2
  omega
theorem wsum_nonneg : ∀ (k : Nat) (l : List Nat), 0 ≤ wsum k l
  | _, [] => Int.le_refl 0
  | k, c :: r => by
    have ih := wsum_nonneg (k + 1) r
    have h : 0 ≤ (c : Int) * ((k : Int) + 1) := Int.mul_nonneg (by omega) (by omega)
    show 0 ≤ (c : Int) * ((k : Int) + 1) + wsum (k + 1) r
    omega
def sumT (z : Str) : Int := wsum 0 (tl z)
def sumBy (z : Str) (m : Int) : Int := (sumT z).fmod m
abbrev num (n : Int) : Str := Str.ofString (toString n)
def rowT (b : Str) : Str := num (b.length : Int) ++ sp ++ num (sumBy b 1000003) ++ sp ++ b
theorem sumBy_nat {b : Str} {m : Int} (hm : 0 < m) : ∃ k : Nat, sumBy b m = (k : Int) ∧ (k : Int) < m := by
  have h0 := Int.fmod_nonneg (b := m) (wsum_nonneg 0 (tl b)) (Int.le_of_lt hm)
  have h1 := Int.fmod_lt_of_pos (wsum 0 (tl b)) hm
  refine ⟨(sumBy b m).toNat, ?_, ?_⟩
  · show (wsum 0 (tl b)).fmod m = (((wsum 0 (tl b)).fmod m).toNat : Int)
    omega
  · show (((wsum 0 (tl b)).fmod m).toNat : Int) < m
    omega
theorem tl_row (b : Str) : ∃ k : Nat, k < 1000003 ∧ sumBy b 1000003 = (k : Int) ∧ tl (rowT b) = numL b.length ++ (32 :: (numL k ++ (32 :: tl b))) := by
  obtain ⟨k, e, h⟩ := sumBy_nat (b := b) (m := 1000003) (by decide)
  refine ⟨k, by omega, e, ?_⟩
  unfold rowT
  rw [e, tl_append, tl_append, tl_append, tl_append, tl_num, tl_num, tl_sp]
  simp
theorem row_len {b : Str} (h : b.length < 10 ^ 7) : (rowT b).length ≤ b.length + 16 := by
  obtain ⟨k, hk, _, e⟩ := tl_row b
  have h1 := numL_len (n := b.length) (k := 7) (by decide) h
  have h2 := numL_len (n := k) (k := 7) (by decide) (by omega)
  rw [len_tl, e, List.length_append, List.length_cons, List.length_append, List.length_cons, ← len_tl]
  omega
/-! ### behind the first blank -/
def aft : List Nat → List Nat
  | [] => []
  | c :: r => if c = 32 then r else aft r
theorem aft_at : ∀ (l : List Nat) (i : Nat), l[i]? = some 32 → (∀ k, k < i → l[k]? ≠ some 32) → aft l = l.drop (i + 1)
  | [], i, h, _ => by simp at h
  | c :: r, 0, h, _ => by
    have e : c = 32 := Option.some.inj h
    show (if c = 32 then r else aft r) = r
    rw [if_pos e]
  | c :: r, i + 1, h, hn => by
    have hc : c ≠ 32 := fun e => hn 0 (by omega) (by rw [e]; rfl)
    show (if c = 32 then r else aft r) = r.drop (i + 1)
    rw [if_neg hc]
    exact aft_at r i h fun k hk => hn (k + 1) (by omega)
theorem par_aft : ∀ (l acc : List Nat), (match par [32] acc l with | some (_, b) => b | none => []) = aft l
  | [], _ => rfl
  | c :: r, acc => by
    by_cases hc : c = 32
    · have e : par [32] acc (c :: r) = some (acc, r) := by
        show (if pre [32] (c :: r) = true then _ else _) = _
        rw [if_pos (by rw [hc]; rfl)]
        rfl
      rw [e]
      show r = if c = 32 then r else aft r
      rw [if_pos hc]
    · have e : par [32] acc (c :: r) = par [32] (acc ++ [c]) r := by
        show (if pre [32] (c :: r) = true then _ else _) = _
        rw [if_neg]
        intro h
        have h2 : [c] = [32] := eq_of_beq h
        exact hc (List.cons.inj h2).1
      rw [e, par_aft r]
      show aft r = if c = 32 then r else aft r
      rw [if_neg hc]
def tailT (t : Str) : Str := (Txt.partition t sp).2.2
theorem tl_tailT (t : Str) : tl (tailT t) = aft (tl t) := by
  unfold tailT
  rw [partition_par t sp (by rw [tl_sp]; simp), tl_sp, ← par_aft (tl t) []]
  cases par [32] [] (tl t) with
  | none => rfl
  | some q => rfl
theorem aft_len : ∀ l : List Nat, (aft l).length ≤ l.length
  | [] => Nat.le_refl _
  | c :: r => by
    show (if c = 32 then r else aft r).length ≤ r.length + 1
    by_cases h : c = 32
    · rw [if_pos h]; omega
    · rw [if_neg h]
      have := aft_len r
      omega
theorem tailT_len (t : Str) : (tailT t).length ≤ t.length := by
  rw [len_tl, len_tl, tl_tailT]
  exact aft_len _
def bodyT (t : Str) : Str := tailT (tailT t)
theorem bodyT_len (t : Str) : (bodyT t).length ≤ t.length := Nat.le_trans (tailT_len _) (tailT_len _)
def bodyOf (t : Str) : V := if rowT (bodyT t) = t then .str (bodyT t) else .non
/-! ### the law's own look -/
theorem find_find3 (x y : Str) : Txt.find x y = Txt.find3 x y 0 := by
  unfold Txt.find Txt.find3
  have e : fromIndex x.length 0 = 0 := by
    unfold fromIndex
    simp
  rw [e]
  cases Builtin.Str.occurrences x y 0 x.length 1 <;> rfl
theorem from_nat (n k : Nat) : fromIndex n (k : Int) = k := by
  unfold fromIndex
  rw [if_neg (by omega)]
  omega
theorem getD_tl {x : Str} {v : Nat} (hv : v < x.length) : x.cps.getD v 0 = 32 ↔ (tl x)[v]? = some 32 :=
  ⟨fun h => StrLaws.getElem?_of_getD hv h, fun h => StrLaws.getD_of_getElem? h⟩
/-- the first blank from k on -/
theorem find_spec (x : Str) (k : Nat) :
    (Txt.find3 x sp (k : Int) = -1 ∧ ∀ v, k ≤ v → (tl x)[v]? ≠ some 32) ∨ ∃ i : Nat, Txt.find3 x sp (k : Int) = (i : Int) ∧ k ≤ i ∧ (tl x)[i]? = some 32 ∧ ∀ v, k ≤ v → v < i → (tl x)[v]? ≠ some 32 := by
  have out : ∀ v, (tl x)[v]? = some 32 → v < x.length := fun v h => by
    rw [len_tl]
    exact (List.getElem?_eq_some_iff.mp h).1
  rcases StrLaws.find3_spec x 32 (k : Int) with ⟨e, hn⟩ | ⟨i, e, h1, h2, h3, hn⟩
  · rw [from_nat] at hn
    rw [← sp_mk] at e
    exact .inl ⟨e, fun v hv h => hn v hv (out v h) ((getD_tl (out v h)).mpr h)⟩
  · rw [from_nat] at h1 hn
    rw [← sp_mk] at e
    exact .inr ⟨i, e, h1, (getD_tl h2).mp h3, fun v hv hi h => hn v hv hi ((getD_tl (out v h)).mpr h)⟩
theorem tl_cut_from (t : Str) (k : Nat) : tl (cutS t (some (k : Int)) none) = (tl t).drop k := by
  show (((tl t).drop (HT.sIx t.length 0 (some (k : Int)))).take (HT.sIx t.length t.length none - HT.sIx t.length 0 (some (k : Int)))) = _
  rw [HT.sIx_nat, HT.sIx_none]
  have hl := len_tl t
  by_cases h : k ≤ t.length
  · rw [Nat.min_eq_left h]
    exact List.take_of_length_le (by rw [List.length_drop]; omega)
  · rw [Nat.min_eq_right (by omega), List.drop_eq_nil_of_le (by omega), List.drop_eq_nil_of_le (by omega), List.take_nil]
/-- the two looks at a text for a row's body agree -/
theorem looks_agree (t : Str) :
    (∃ f s : Nat, Txt.find t sp = (f : Int) ∧ 1 ≤ f ∧ Txt.find3 t sp ((f : Int) + 1) = (s : Int) ∧ cutS t (some ((s : Int) + 1)) none = bodyT t) ∨
    ((Txt.find t sp < 1 ∨ ∃ f : Nat, Txt.find t sp = (f : Int) ∧ Txt.find3 t sp ((f : Int) + 1) < 0) ∧ bodyOf t = .non) := by
  have noRow : (¬ ∃ f s : Nat, 1 ≤ f ∧ Txt.find t sp = (f : Int) ∧ Txt.find3 t sp ((f : Int) + 1) = (s : Int)) → bodyOf t = .non := by
    intro hno
    unfold bodyOf
    refine if_neg fun he => hno ?_
    obtain ⟨k, _, _, e⟩ := tl_row (bodyT t)
    rw [he] at e
    have e1 : (tl t)[(numL (bodyT t).length).length]? = some 32 := by
      rw [e, List.getElem?_append_right (Nat.le_refl _), Nat.sub_self]
      rfl
    have e2 : (tl t)[(numL (bodyT t).length).length + 1 + (numL k).length]? = some 32 := by
      rw [e, List.getElem?_append_right (by omega)]
      have q : (numL (bodyT t).length).length + 1 + (numL k).length - (numL (bodyT t).length).length = (numL k).length + 1 := by omega
      rw [q, List.getElem?_cons_succ, List.getElem?_append_right (Nat.le_refl _), Nat.sub_self]
      rfl
    rcases find_spec t 0 with ⟨_, hn⟩ | ⟨f, ef, _, hf, hn⟩
    · exact absurd e1 (hn _ (Nat.zero_le _))
    · have f1 : 1 ≤ f := by
        rcases Nat.eq_zero_or_pos f with z | z
        · rw [z, e] at hf
          have hne := numL_ne (bodyT t).length
          cases hN : numL (bodyT t).length with
          | nil => exact absurd hN hne
          | cons c r =>
            rw [hN] at hf
            have ec : c = 32 := Option.some.inj hf
            exact absurd (show (32 : Nat) ∈ numL (bodyT t).length by rw [hN, ec]; exact List.mem_cons_self ..) (numL_free (by omega))
        · exact z
      have fle : f ≤ (numL (bodyT t).length).length := by
        rcases Nat.lt_or_ge (numL (bodyT t).length).length f with z | z
        · exact absurd e1 (hn _ (Nat.zero_le _) z)
        · exact z
      rcases find_spec t (f + 1) with ⟨_, hn2⟩ | ⟨s, es, _, _, _⟩
      · exact absurd e2 (hn2 _ (by omega))
      · exact ⟨f, s, f1, by rw [find_find3]; exact ef, es⟩
  rcases find_spec t 0 with ⟨e, _⟩ | ⟨f, ef, _, hf, hn⟩
  · have e' : Txt.find t sp = -1 := by rw [find_find3]; exact e
    refine .inr ⟨.inl (by rw [e']; decide), noRow ?_⟩
    rintro ⟨f, s, _, q, _⟩
    rw [e'] at q
    omega
  · have ef' : Txt.find t sp = (f : Int) := by rw [find_find3]; exact ef
    rcases Nat.eq_zero_or_pos f with z | z
    · refine .inr ⟨.inl (by rw [ef', z]; decide), noRow ?_⟩
      rintro ⟨g, s, h1, q, _⟩
      rw [ef'] at q
      omega
    · rcases find_spec t (f + 1) with ⟨e2, _⟩ | ⟨s, es, hs1, hs, hn2⟩
      · refine .inr ⟨.inr ⟨f, ef', by rw [show ((f : Int) + 1) = ((f + 1 : Nat) : Int) from rfl, e2]; decide⟩, noRow ?_⟩
        rintro ⟨g, s, _, q, q2⟩
        have : g = f := by rw [ef'] at q; omega
        rw [this, show ((f : Int) + 1) = ((f + 1 : Nat) : Int) from rfl, e2] at q2
        omega
      · refine .inl ⟨f, s, ef', z, es, ext_tl ?_⟩
        rw [show ((s : Int) + 1) = ((s + 1 : Nat) : Int) from rfl, tl_cut_from]
        unfold bodyT
        rw [tl_tailT, tl_tailT, aft_at (tl t) f hf (fun k hk => hn k (Nat.zero_le _) hk)]
        have h2 : ((tl t).drop (f + 1))[s - (f + 1)]? = some 32 := by
          rw [List.getElem?_drop, show f + 1 + (s - (f + 1)) = s by omega]
          exact hs
        rw [aft_at _ _ h2 (fun k hk => by
          rw [List.getElem?_drop]
          exact hn2 _ (by omega) (by omega)), List.drop_drop]
        congr 1
        omega
/-- a row's body is read back -/
theorem body_row (b : Str) : bodyT (rowT b) = b := by
  obtain ⟨k, _, _, e⟩ := tl_row b
  refine ext_tl ?_
  unfold bodyT
  have free : ∀ (p r : List Nat), 32 ∉ p → aft (p ++ 32 :: r) = r := by
    intro p
    induction p with
    | nil => intro r _; rfl
    | cons c p ih =>
      intro r h
      have hc : c ≠ 32 := fun q => h (by rw [q]; exact List.mem_cons_self ..)
      show (if c = 32 then _ else aft (p ++ 32 :: r)) = r
      rw [if_neg hc]
      exact ih r fun q => h (List.mem_cons_of_mem _ q)
  rw [tl_tailT, tl_tailT, e, free _ _ (numL_free (by omega)), free _ _ (numL_free (by omega))]
theorem bodyOf_row (b : Str) : bodyOf (rowT b) = .str b := by
  unfold bodyOf
  rw [body_row, if_pos rfl]
end Ev

set_option maxHeartbeats 2000000
namespace Ev
open PySem PySem.Spec PyProof.Rows L2
open Sem (wp)
section
variable {M : Model} {A : Around} {E : Value → Shared → Prop} {s : Shared} {env : Env}
theorem callWith_type_kwB {pos : Pos} {T : String} {first : List Value} {args : List (Bool × Sem Value)} {keywords : List (Option Str × Sem Value)} {Q : Value → Shared → Prop}
    (hplain : args.any (·.1) = false) (hkw : keywords.any (·.1.isNone) = false)
    (h : wpAny M A (evalArgs (.type T) true args keywords) (fun a s1 => wpAny M A (call (.type T) (first ++ a.pos) a.kw) Q E s1) E s) :
    wpAny M A (callWith pos (.type T) first args keywords) Q E s := by
  unfold callWith
  refine wpAny_bind (wpAny_holding (wpAny_mono h (fun a s1 h1 => wpAny_bind (wpAny_standAt ?_)) fun _ _ x => x))
  simp only [hplain, hkw, Bool.or_false]
  refine wpAny_bind (wpAny_pure ?_)
  exact wpAny_bind (wpAny_mono h1 (fun r s2 hr => wpAny_bind (wpAny_holding (wpAny_point (wpAny_pure hr)))) fun _ _ x => x)
theorem callWith_type_kw {pos : Pos} {T : String} {e : Expr} {rest : List Expr} {kws : List Keyword} {Q : Value → Shared → Prop}
    (h : wpAny M A (spliced (backTo pos (starEach (e :: rest) env))) (fun vs s1 => wpAny M A (evalAll ((backToKw pos (keywordEach kws env)).map (·.2)))
      (fun kvs s2 => wpAny M A (call (.type T) vs (((backToKw pos (keywordEach kws env)).filterMap (·.1)).zip kvs)) Q E s2) E s1) E s)
    (he : starEach (e :: rest) env = (false, eval e env) :: starEach rest env := by rfl)
    (hplain : (backTo pos (starEach (e :: rest) env)).any (·.1) = false := by rfl)
    (hall : (backToKw pos (keywordEach kws env)).all (·.1.isSome) = true := by rfl)
    (hkw : (backToKw pos (keywordEach kws env)).any (·.1.isNone) = false := by rfl) :
    wpAny M A (callWith pos (.type T) [] (backTo pos (starEach (e :: rest) env)) (backToKw pos (keywordEach kws env))) Q E s := by
  refine callWith_type_kwB hplain hkw ?_
  rw [he] at h ⊢
  exact PyProof.Rows.evalArgs_kwB hall h
end
/-- enumerate(text, start=k): each sign in a new pair -/
def ItEs (x : Str) (k : Int) : It := ⟨fun i _ => i < x.cps.size, fun i H v H' => ∃ T c, x.cps[i]? = some c ∧ v = .ref T ∧ H T = none ∧ H' = upd H T (.tup [.int (k + (i : Int)), .str ⟨#[c]⟩]), fun i _ => x.cps.size ≤ i⟩
abbrev SignP (x : Str) : Nat → Value → Prop := fun i v => ∃ c u, x.cps[i]? = some c ∧ v = .str ⟨#[c]⟩ u
theorem drawsOf {prog : Program} {w : World} {A : Around} (hh : A.handled = none) (it : Addr) (x : Str) (t : Tok) : ∃ n, Draws prog w A it [it] n (SignP x) (fun i h => h.IsStrIter it (strIterType x) x t i) ∧ n = x.cps.size := by
  refine ⟨_, ?_, rfl⟩
  unfold strIterType
  cases ha : x.cps.all (· < 128)
  · first | exact Draws.strWide hh it x t | (simp only [ha]; exact Draws.strWide hh it x t)
  · first | exact Draws.strAscii hh it x t | (simp only [ha]; exact Draws.strAscii hh it x t)
theorem turn_enumS {P : Program} {w : World} {K : PySem.W.Frag} {elts : List Expr} {kk : Nat} {tpos : Pos} (x : Str) (t : Tok) (k : Int) (e it : Addr) (hne : e ≠ it) :
    Turn P w K (.Tuple elts kk tpos) (ItEs x k) [e, it] e (fun i h => i ≤ x.cps.size ∧ (∃ old, IsEnum h e it (k + (i : Int)) old) ∧ h.IsStrIter it (strIterType x) x t i) where
  mem := by simp
  obj := fun i h st b hb => by
    obtain ⟨_, ⟨old, he⟩, ⟨o, ho, hc, hd⟩⟩ := st
    have e' : b = e ∨ b = it := by simpa using hb
    rcases e' with z | z
    · rw [z]; exact ⟨_, he, fun v q => nomatch q⟩
    · rw [z]; exact ⟨o, ho, fun v q => by rw [hd] at q; cases q⟩
  keep := fun i h h' st kk => by
    obtain ⟨hi, ⟨old, he⟩, ⟨o, ho, r⟩⟩ := st
    exact ⟨hi, ⟨old, kk e (by simp) _ he⟩, ⟨o, kk it (by simp) o ho, r⟩⟩
  item := by
    intro X hP hw hK hc i pins s σ H E I hf st hg
    subst hP hw hK
    obtain ⟨hi, st1, st2⟩ := st
    have hh : X.A.in1.handled = none := I.ok.hd hc
    obtain ⟨n, D, hn⟩ := drawsOf (prog := X.prog) (w := X.w) hh it x t
    have W := GoesN.enumFrom (elts := elts) (x1 := kk) (pos := tpos) k D e hne (by simpa using hne) (by simp)
    have hel : e < s.heap.objs.size := by obtain ⟨_, he⟩ := st1; exact Heap.lt_size he
    have hil : it < s.heap.objs.size := by obtain ⟨_, q, _⟩ := st2; exact Heap.lt_size q
    refine wpAny_mono (W.goes i s (fun v s2 => ∃ y H', Inv X pins σ H' s2 ∧ RelV y v ∧ (ItEs x k).yld i H y H' ∧ (i + 1 ≤ x.cps.size ∧ (∃ old, IsEnum s2.heap e it (k + ((i + 1 : Nat) : Int)) old) ∧ s2.heap.IsStrIter it (strIterType x) x t (i + 1)) ∧ ∀ b ∈ [e, it], H' b = none) E (by rw [hn]; exact hg) ⟨st1, st2⟩ ?_) (fun r s1 q => q) fun _ _ q => q
    rintro v h' tk ⟨T, t1, y, rfl, hT0, ⟨c, u, hcx, rfl⟩, hT⟩ ⟨he', hit'⟩ hk htk
    obtain ⟨oT, hoT, hcT, nT, hdT⟩ := hT
    have hsm : H T = none := I.hok.fresh hT0
    have new : ObjOk X.prog X.w (upd H T (.tup [.int (k + (i : Int)), .str ⟨#[c]⟩])) h' T (.tup [.int (k + (i : Int)), .str ⟨#[c]⟩]) :=
      ⟨by show 2 ≤ sizeLine; decide, [.int (k + (i : Int)) t1, .str ⟨#[c]⟩ u], .cons ⟨_, rfl⟩ (.cons ⟨_, rfl⟩ .nil), ⟨oT, hoT, hcT, nT, hdT⟩⟩
    have I1 : Inv X pins σ (upd H T (.tup [.int (k + (i : Int)), .str ⟨#[c]⟩])) { s with heap := h', toks := tk } :=
      I.turnedNew (ch := [e, it]) (fun b ob hb q => hk b ob hb q) hf hT0 new
    refine ⟨.ref T, _, I1, rfl, ⟨T, c, hcx, rfl, hsm, rfl⟩, ⟨hg, he', hit'⟩, fun b hb => ?_⟩
    have hb' : b < s.heap.objs.size := by
      have e' : b = e ∨ b = it := by simpa using hb
      rcases e' with z | z
      · rw [z]; exact hel
      · rw [z]; exact hil
    rw [upd_ne (Nat.ne_of_lt (Nat.lt_of_lt_of_le hb' hT0))]
    exact (hf b hb).1
  done := by
    intro X hP hw hK hc i pins s σ H E I hf st hg
    subst hP hw hK
    obtain ⟨hi, st1, st2⟩ := st
    have hh : X.A.in1.handled = none := I.ok.hd hc
    obtain ⟨n, D, hn⟩ := drawsOf (prog := X.prog) (w := X.w) hh it x t
    have W := GoesN.enumFrom (elts := elts) (x1 := kk) (pos := tpos) k D e hne (by simpa using hne) (by simp)
    have hin : i = n := by rw [hn]; exact Nat.le_antisymm hi hg
    subst hin
    obtain ⟨f0, f1, f2, f3, f4, f5⟩ := hf it (by simp)
    refine wpAny_mono (W.stops s (fun s1 => Inv X pins σ H s1) E ⟨st1, st2⟩ fun h' tk hk htk => ?_) (fun r s1 q => q) fun _ _ q => q
    exact I.turnedL (ch := [e, it]) hk hf
  self := fun A i s Q E st h => let ⟨_, ⟨_, he⟩, _⟩ := st; wpAny_pyIter_enum he h

def iEnumS (ta tk : TA) : TI := fun σ H R => ta σ H fun vs H1 => tk σ H1 fun zs H2 => ∃ x k, vs = [.str x] ∧ zs = [.int k] ∧ -(2 ^ 63) ≤ k ∧ k < 2 ^ 63 ∧ R (ItEs x k) H2
theorem pi_enumS {X : Cx} {e : Expr} {ta tk : TA} {p pos tpos : Pos} {elts : List Expr} {kk : Nat} {kws : List Keyword} (hg : Gl X "enumerate") (hm : X.mg "enumerate" = none) (ha : PA X [e] ta) (hk : PK X kws tk)
    (hs : starEach [e] X.env = (false, eval e X.env) :: starEach [] X.env := by rfl) (hpl : (backTo pos (starEach [e] X.env)).any (·.1) = false := by rfl)
    (hall : (backToKw pos (keywordEach kws X.env)).all (·.1.isSome) = true := by rfl) (hnone : (backToKw pos (keywordEach kws X.env)).any (·.1.isNone) = false := by rfl)
    (hks : (backToKw pos (keywordEach kws X.env)).filterMap (·.1) = [Str.ofString "start"] := by rfl) :
    PI X (.Tuple elts kk tpos) (.Call (.Name "enumerate" p) [e] kws pos) (iEnumS ta tk) := by
  refine ⟨fun pins s σ H R I h => ?_⟩
  refine wpAny_Call_Name_kw (ld_blt I hg hm boot_enumerate ?_)
  refine callWith_type_kw (thn (ha.run pos pins s σ H _ I h) fun us s1 ⟨vs, H1, I1, r1, q1⟩ => thn (hk.run pos pins s1 σ H1 _ I1 q1) fun ws s2 ⟨zs, H2, I2, r2, q2⟩ => ?_) hs hpl hall hnone
  rw [hks]
  obtain ⟨x, k, rfl, rfl, k0, k1, q⟩ := q2
  cases r1 with
  | cons ra rr =>
  cases rr
  cases r2 with
  | cons rb rr =>
  cases rr
  obtain ⟨t, rfl⟩ := ra
  obtain ⟨t2, rfl⟩ := rb
  show wpAny _ _ (call (.type "enumerate") [.str x t] [(Str.ofString "start", .int k t2)]) _ _ _
  refine enum_begins_start (begins_text x t) trivial k0 k1 fun h' he hit hsz hkeep => wpAny_pyIter_enum he ?_
  have I3 : Inv X pins σ H2 { s2 with heap := h' } := I2.kept (t' := s2.toks) hkeep
  refine ⟨s2.heap.objs.size + 1, [s2.heap.objs.size + 1, s2.heap.objs.size], _, _, H2, rfl, I3, turn_enumS x t k (s2.heap.objs.size + 1) s2.heap.objs.size (Nat.succ_ne_self _), ⟨Nat.zero_le _, ⟨.none, ?_⟩, ⟨_, hit, rfl, ?_⟩⟩, fun b hb => ?_, q⟩
  · simpa using he
  · rfl
  · have e' : b = s2.heap.objs.size + 1 ∨ b = s2.heap.objs.size := by simpa using hb
    have hle : s2.heap.objs.size ≤ b := by
      rcases e' with z | z
      · rw [z]; exact Nat.le_add_right _ _
      · rw [z]; exact Nat.le_refl _
    exact I2.fpOk hle (I2.hok.fresh hle)
/-! ### text * int -/
theorem mul_len {x : Str} {n : Int} (h0 : 0 ≤ n) : (Txt.mul x n).length ≤ x.length * n.toNat := by
  unfold Txt.mul
  by_cases h1 : n < 1
  · rw [if_pos h1]; exact Nat.zero_le _
  · rw [if_neg h1]
    by_cases h2 : (n == 1 || x.length == 0) = true
    · rw [if_pos h2]
      have : 1 ≤ n.toNat := by omega
      exact Nat.le_mul_of_pos_right _ this
    · rw [if_neg h2]
      show ((List.replicate n.toNat x.cps).foldl (· ++ ·) #[]).size ≤ x.length * n.toNat
      rw [size_reps]
      show 0 + n.toNat * x.cps.size ≤ x.cps.size * n.toNat
      rw [Nat.mul_comm]
      omega
theorem op_mulS {X : Cx} : OpR X (binaryOp .Mult) (fun x y H Q => ∃ z k, x = .str z ∧ y = .int k ∧ 0 ≤ k ∧ k ≤ 16777216 ∧ z.length * k.toNat ≤ sizeLine ∧ Q (.str (Txt.mul z k)) H) := by
  intro pins s σ H x y v u Q I rx ry h
  obtain ⟨z, k, rfl, rfl, k0, k1, hz, q⟩ := h
  obtain ⟨t, rfl⟩ := rx
  obtain ⟨t', rfl⟩ := ry
  refine SB.mul ⟨?_, fun h1 h2 h3 => ?_, fun _ _ => ?_⟩ fun t2 tk => ⟨.str (Txt.mul z k), H, I.tok _, ⟨_, rfl⟩, q⟩
  · rw [decide_eq_false (by omega), decide_eq_false (by omega)]; rfl
  · have hk1 : 1 ≤ k.toNat := by omega
    have h4 : z.length ≤ z.length * k.toNat := Nat.le_mul_of_pos_right _ hk1
    have h5 : sizeLine = 16777216 := by decide
    have e : ((z.length * k.toNat : Nat) : Int) = (z.length : Int) * k := by rw [Int.natCast_mul, Int.toNat_of_nonneg k0]
    have h6 : (z.length : Int) ≤ (2 ^ 63 - 1) / k := Int.le_ediv_of_mul_le (by omega) (by omega)
    omega
  · unfold Builtin.Str.tooLong
    exact decide_eq_false (by omega)
/-! ### text[::-1] -/
def revS (x : Str) : Str := ⟨x.cps.toList.reverse.toArray⟩
theorem revS_len (x : Str) : (revS x).length = x.length := by
  show x.cps.toList.reverse.toArray.size = x.cps.size
  simp
theorem sliceBy_rev (x : Str) (u : Tok) : Txt.sliceBy x none none (-1, u) = revS x := by
  refine TL.ext_tl ?_
  show (Txt.sliceBy x none none (-1, u)).cps.toList = x.cps.toList.reverse
  rw [step_rev_list]
  refine List.ext_getElem (by simp [Str.length]) fun i h1 h2 => ?_
  have hi : i < x.cps.size := by simpa [Str.length] using h1
  have hj : x.length - 1 - i < x.cps.size := by
    show x.cps.size - 1 - i < x.cps.size
    omega
  simp only [List.getElem_map, List.getElem_range, List.getElem_reverse, Array.getElem_toList]
  show x.cps.getD (x.length - 1 - i) 0 = _
  unfold Array.getD
  rw [dif_pos hj]
  rfl
def tRevS (te : TE) : TE := fun σ H Q => te σ H fun x H1 => ∃ z, x = .str z ∧ z.length ≤ sizeLine ∧ Q (.str (revS z)) H1
theorem pe_revS {X : Cx} {e : Expr} {te : TE} {k : Nat} {p1 p2 p3 pos : Pos} (he : PE X e te) : PE X (.Subscript e (.Slice none none (some (.UnaryOp .USub (.Constant (.int 1) k p1) p2)) p3) pos) (tRevS te) := by
  refine ⟨fun pins s σ H Q I h => ?_⟩
  refine Subscript_ (thn (he.run pins s σ H _ I h) fun v s1 ⟨x, H1, I1, r1, q1⟩ => ?_)
  obtain ⟨z, rfl, hz, q⟩ := q1
  obtain ⟨t, rfl⟩ := r1
  have hst : PO X (some (.UnaryOp .USub (.Constant (.int 1) k p1) p2)) (tPart (tUn (rU fun i => .int (-i)) (tC (.int 1)))) := po_some (pe_un un_neg pe_int)
  refine wpAny_Slice (thn (po_none.run pins s1 σ H1 (fun o H2 => o = none ∧ H2 = H1) I1 ⟨rfl, rfl⟩) fun vl s2 ⟨l, H2, I2, pl, el, e2⟩ => ?_)
  subst el e2
  refine thn (po_none.run pins s2 σ H2 (fun o H3 => o = none ∧ H3 = H2) I2 ⟨rfl, rfl⟩) fun vu s3 ⟨u, H3, I3, pu, eu, e3⟩ => ?_
  subst eu e3
  refine thn (hst.run pins s3 σ H3 (fun o H4 => o = some (-1) ∧ H4 = H3) I3 ⟨1, rfl, -1, rfl, rfl, rfl⟩) fun vs s4 ⟨o, H4, I4, ps, eo, e4⟩ => ?_
  subst eo e4
  have I5 : Inv X pins σ H4 { s4 with heap := s4.heap.push { cls := .type "slice", data := .fields #[vl, vu, vs] } } := I4.kept (t' := s4.toks) fun b ob q => Heap.get?_push_of_some _ q
  obtain ⟨l, rfl, hl⟩ := IsPart.raw pl
  obtain ⟨w, rfl, hw⟩ := IsPart.raw pu
  obtain ⟨st, rfl, hst2⟩ := IsPart.raw ps
  have el : l = none := by cases l with | none => rfl | some _ => cases hl
  have ew : w = none := by cases w with | none => rfl | some _ => cases hw
  obtain ⟨tk, est⟩ : ∃ tk, st = some (-1, tk) := by
    cases st with
    | none => cases hst2
    | some p =>
      obtain ⟨a, b⟩ := p
      have : a = -1 := Option.some.inj hst2
      exact ⟨b, by rw [this]⟩
  subst el ew est
  show wpAny (model X.prog X.w) X.A (subscriptTail e (.Slice none none (some (.UnaryOp .USub (.Constant (.int 1) k p1) p2)) p3) (.str z t) (.ref s4.heap.objs.size)) (EP X pins σ Q) X.xe { s4 with heap := s4.heap.push { cls := .type "slice", data := .fields #[partValue none, partValue none, partValue (some (-1, tk))] } }
  refine tail_any (ops := [.ref s4.heap.objs.size, .str z t]) (typeIs_str _ _ _) F.slot_str_getitem.lookup ?_ (by with_unfolding_all rfl)
  refine wpAny_getItem_str_slice (l := none) (u := none) (st := some (-1, tk)) ⟨_, Heap.get?_push_size _ rfl, rfl, rfl⟩ rfl ?_
  have hlen : (Txt.sliceBy z none none (-1, tk)).length ≤ sizeLine := by rw [sliceBy_rev, revS_len]; exact hz
  have hr := sliceBy_rev z tk
  unfold Txt.sliceBy at hr hlen
  unfold sliceMade
  have hc : ¬ ((((some ((-1 : Int), tk)).map (·.1)).getD 1 == 1 && (slicePicked z none none (some (-1, tk))).length == z.length) = true) := by
    have : ((((some ((-1 : Int), tk)).map (·.1)).getD 1 == 1)) = false := rfl
    rw [this]; simp
  rw [if_neg hc] at hr hlen ⊢
  exact ⟨hlen, .str _, H4, I5.tok _, ⟨_, rfl⟩, by rw [hr]; exact q⟩
/-! ### great powers -/
def CPowB (i j : Int) : Prop := 0 ≤ j ∧ (Builtin.Int.intBits i : Int) * j ≤ 2 ^ 27
theorem op_powB {X : Cx} : OpR X (binaryOp .Pow) (rI CPowB fun i j => .int (i ^ j.toNat)) := opI fun _ _ _ _ _ _ _ hc q => pow_int hc.1 hc.2 q
/-! ### a list's items behind a written text's sum: a token is out -/
theorem pa_litAdd {X : Cx} {b : Expr} {es : List Expr} {tb : TE} {ta : TA} {x : Str} {j : Nat} {cp bp : Pos} (hb : PE X b tb) (hr : PAT X es ta)
    (hs : starEach (.BinOp (.Constant (.str x) j cp) .Add b bp :: es) X.env = (false, eval (.BinOp (.Constant (.str x) j cp) .Add b bp) X.env) :: starEach es X.env := by rfl) :
    PA X (.BinOp (.Constant (.str x) j cp) .Add b bp :: es) (tCons (tOp (fun u v H Q => ∃ i k, u = .str i ∧ v = .str k ∧ i.length + k.length ≤ sizeLine ∧ Q (.str (i ++ k)) H) (tC (.str x)) tb) ta) := by
  refine ⟨fun pos pins s σ H Q I h => ?_⟩
  rw [hs]
  show wpAny _ _ (spliced ((false, eval (.BinOp (.Constant (.str x) j cp) .Add b bp) X.env) :: backTo pos (starEach es X.env))) _ _ s
  refine Calls.spliced_cons (wpAny_BinOp (Calls.Constant_str ?_))
  have I1 : Inv X pins σ H { s with toks := s.toks + 1 } := I.tok _
  refine wpAny_mono (PySem.wpAny_toks (hb.run pins { s with toks := s.toks + 1 } σ H _ I1 h)) (fun u s2 q => ?_) fun _ _ z => z.2
  obtain ⟨hk, y, H2, I2, r2, q2⟩ := q
  refine wpAny_mono (PySem.wpAny_toks (op_add_str pins s2 σ H2 (.str x) y (.str x s.toks) u (fun w H3 => ta σ H3 fun xs H4 => Q (w :: xs) H4) I2 ⟨_, rfl⟩ r2 q2)) (fun v s3 q => ?_) fun _ _ z => z.2
  obtain ⟨hk3, w, H3, I3, r3, q3⟩ := q
  have h1 : 1 ≤ s3.toks := by
    have : s.toks + 1 ≤ s2.toks := hk
    omega
  exact thn (hr pos pins s3 σ H3 _ h1 I3 q3) fun us s4 ⟨xs, H4, I4, r4, q4⟩ => ⟨w :: xs, H4, I4, .cons r3 r4, q4⟩
end Ev

set_option maxHeartbeats 2000000
namespace Ev
open PySem PySem.Spec PyProof.Rows L2 TL
def top (i : Nat) : Stmt := PySem.Challenge.pw_eventledger_k04_rows_of_bodies.main.body.getD i (.Pass ⟨0, 0, 0, 0⟩)
abbrev FnP (K : PySem.W.Frag) (x : Str) (st : Stmt) (f : Addr) (fd : FuncData) : Prop := FunD K x x (defArgs st) (defBody st) (defScope st) [] [] f fd
abbrev FnS (K : PySem.W.Frag) (x : Str) (st : Stmt) (f : Addr) (fd : FuncData) : Prop := FunD K x x (defArgs st) (defBody st) (defScope st) [] [("modulus", .int 1000003)] f fd
abbrev sSum : Stmt := top 2
abbrev sFramed : Stmt := top 3
abbrev sBody : Stmt := top 4
theorem same_upd {H : Hp} {p : Addr} {o : HO} (h : H p = none) : Same H (upd H p o) := fun b x e => by
  rw [upd_ne (ne_of_none e h)]
  exact e
theorem scSum : FnScope ["text", "modulus", "total", "place", "sign"] ["text", "modulus"] (defScope sSum) := ⟨rfl, rfl, rfl, by decide +kernel, rfl, by decide +kernel, by decide +kernel⟩
def spSum : Sp := fun vs H Q _ => ∃ (z : Str) (m : Int), vs = [.str z, .int m] ∧ z.length ≤ sizeLine ∧ 0 < m ∧ ∀ H', Same H H' → Q (.int (sumBy z m)) H'
section
variable {P : Program} {w : World} {K : PySem.W.Frag} {mg : Str → Option Value} {base : Heap}
theorem ok_sum {f : Addr} {fd : FuncData} {k : Nat} (F : FnS K "sum_of" sSum f fd) (me : mg "enumerate" = none) (mo : mg "ord" = none) : FnOk P w K mg base CX0 (k + 1) f fd ["text", "modulus"] spSum := by
  refine F.ok scSum (fun vs H Q E h => ?_) (fun cdv A outer s H vs Q E hr h => ?_)
  · obtain ⟨z, m, rfl, _⟩ := h
    rfl
  · obtain ⟨z, m, rfl, hz, hm, q⟩ := h
    refine ⟨_, PSs.nox (pss_cons (ps_set (i := 2) scSum.nd rfl (.inl rfl) pe_int)
      (pss_cons (ps_for PassesOwn.never rfl (pi_enumS (by rfl) me (pa_cons (pv 0) pa_nil) (pk_cons pe_int pk_nil))
          (pg_tup rfl (pgs_cons (pg_name (i := 3) scSum.nd rfl (.inl rfl)) (pgs_cons (pg_name (i := 4) scSum.nd rfl (.inl rfl)) pgs_nil)))
        (pss_one (ps_aug (i := 2) scSum.nd rfl (.inl rfl) (pe_op op_mul (pe_callB call_ord (by rfl) mo (by decide +kernel) (pa_cons (pv 4) pa_nil)) (pv 3)) ip_add)))
      (pss_one (ps_ret (pe_op op_modN (pv 2) (pv 1)))))), ?_⟩
    refine ⟨.str z, rfl, z, 1, rfl, rfl, by decide, by decide, ?_⟩
    refine ⟨fun i n σ H3 => ∃ y3 y4, σ = [some (.str z), some (.int m), some (.int (wsum 0 ((tl z).take i))), y3, y4] ∧ i + n = (tl z).length ∧ Same H H3,
      ⟨(tl z).length, none, none, rfl, by omega, Same.refl _⟩, fun i n σ H3 hW => ?_⟩
    obtain ⟨y3, y4, rfl, en, sm⟩ := hW
    have hlz : z.cps.size = (tl z).length := len_tl z
    by_cases hi : i < (tl z).length
    · refine .inr ⟨by show i < z.cps.size; omega, fun σ' H' => ∃ y3 y4, σ' = [some (.str z), some (.int m), some (.int (wsum 0 ((tl z).take (i + 1)))), y3, y4] ∧ Same H H', fun σ' H' hN => ?_, fun x H' hy => ?_⟩
      · obtain ⟨y3, y4, e, s2⟩ := hN
        exact ⟨n - 1, by omega, y3, y4, e, by omega, s2⟩
      · obtain ⟨T, c, hc, rfl, nT, rfl⟩ := hy
        have hc' : (tl z)[i]? = some c := by
          rw [← hc]; simp
        refine ⟨T, _, rfl, .inl (.inl upd_same), rfl, _, _, rfl, _, _, rfl, rfl, ?_⟩
        refine ⟨_, rfl, _, rfl, ⟨#[c]⟩, rfl, rfl, _, rfl, _, _, rfl, rfl, .inr ?_, _, _, rfl, rfl, ?_⟩
        · have : sizeLine = 16777216 := by decide
          have := len_tl z
          omega
        · refine ⟨some (.int (1 + (i : Int))), some (.str ⟨#[c]⟩), ?_, sm.trans (same_upd nT)⟩
          rw [wsum_take hc']
          have e1 : (1 : Int) + (i : Int) = (i : Int) + 1 := by omega
          rw [← e1]
          rfl
    · refine .inl ⟨by show z.cps.size ≤ i; omega, ?_⟩
      have e : (tl z).take i = tl z := List.take_of_length_le (by omega)
      rw [e]
      exact ⟨_, rfl, _, rfl, _, _, rfl, rfl, by omega, q H3 sm⟩
/-! ### framed, body_of -/
theorem small_log {n : Nat} (h : n < 2 ^ 64) : n.log2 < 1920 := by
  by_cases h0 : n = 0
  · subst h0; decide
  · exact (Nat.log2_lt h0).mpr (Nat.lt_of_lt_of_le h (Nat.pow_le_pow_right (by decide) (by decide)))
theorem num_len {n : Int} (h0 : 0 ≤ n) (h : n < 10 ^ 8) : (num n).length ≤ 8 := by
  obtain ⟨k, rfl⟩ := Int.eq_ofNat_of_zero_le h0
  rw [len_tl, tl_num]
  exact numL_len (by decide) (by omega)
theorem app_len (x y : Str) : (x ++ y).length = x.length + y.length := by
  rw [len_tl, tl_append, List.length_append, ← len_tl, ← len_tl]
theorem app_assoc (x y z : Str) : x ++ y ++ z = x ++ (y ++ z) := ext_tl (by rw [tl_append, tl_append, tl_append, tl_append, List.append_assoc])
theorem emp_app (x : Str) : Str.empty ++ x = x := ext_tl (by rw [tl_append]; rfl)
theorem szl : sizeLine = 16777216 := by decide
theorem sp_len : sp.length = 1 := by rw [len_tl, tl_sp]; rfl
theorem sum_range (z : Str) {m : Int} (hm : 0 < m) : 0 ≤ sumBy z m ∧ sumBy z m < m := by
  obtain ⟨k, e, h⟩ := sumBy_nat (b := z) hm
  rw [e]
  exact ⟨by omega, h⟩
theorem scFramed : FnScope ["body"] ["body"] (defScope sFramed) := ⟨rfl, rfl, rfl, by decide +kernel, rfl, by decide +kernel, by decide +kernel⟩
def spFramed : Sp := fun vs H Q _ => ∃ z : Str, vs = [.str z] ∧ z.length < 10 ^ 7 ∧ ∀ H', Same H H' → Q (.str (rowT z)) H'
theorem ok_framed {f fS : Addr} {fd fdS : FuncData} {k : Nat} (F : FnP K "framed" sFramed f fd) (FS : FnS K "sum_of" sSum fS fdS) (gS : mg "sum_of" = some (.ref fS)) (bS : ∃ ds, Vals [.int 1000003] ds ∧ Binds K fdS ["text", "modulus"] ds) (ml : mg "len" = none) (me : mg "enumerate" = none) (mo : mg "ord" = none) :
    FnOk P w K mg base CX0 (k + 2) f fd ["body"] spFramed := by
  have GS : FnOk P w K mg base CX0 (k + 1) fS fdS ["text", "modulus"] spSum := ok_sum FS me mo
  obtain ⟨ds, vd, bd⟩ := bS
  refine F.ok scFramed (fun vs H Q E h => ?_) (fun cdv A outer s H vs Q E hr h => ?_)
  · obtain ⟨z, rfl, _⟩ := h
    rfl
  · obtain ⟨z, rfl, hz, q⟩ := h
    refine ⟨_, PSs.nox (pss_one (ps_ret (pe_joined (PJ.cons (pe_fmt (pe_callB call_len_str (by rfl) ml PySem.boot_len (pa_cons (pv 0) pa_nil)))
      (PJ.cons pe_str (PJ.cons (pe_fmt (pe_call GS hr (by rfl) gS FS.kp bd vd pass0 (pa_cons (pv 0) pa_nil))) (PJ.cons pe_str (PJ.cons (pe_fmt (pv 0)) PJ.nil)))))))), ?_⟩
    have hl := num_len (n := (z.length : Int)) (by omega) (by omega)
    have hs := szl
    have h1 := sp_len
    obtain ⟨r0, r1⟩ := sum_range z (m := 1000003) (by decide)
    have hk := num_len r0 (by omega)
    refine ⟨_, rfl, z, rfl, by omega, .inr ⟨_, rfl, small_log (by omega), _, rfl, ?_, _, rfl, ?_, _, rfl, z, 1000003, rfl, by omega, by decide, fun H1 s1 => .inr ⟨_, rfl, small_log (by omega), _, rfl, ?_, _, rfl, ?_, _, rfl, .inl ⟨z, rfl, by omega, z, rfl, ?_, ?_⟩⟩⟩⟩
    · rw [app_len]; show 0 + (num (z.length : Int)).length ≤ sizeLine; omega
    · rw [app_len, app_len]; show 0 + (num (z.length : Int)).length + sp.length ≤ sizeLine; omega
    · rw [app_len, app_len, app_len]; show 0 + (num (z.length : Int)).length + sp.length + (num (sumBy z 1000003)).length ≤ sizeLine; omega
    · rw [app_len, app_len, app_len, app_len]; show 0 + (num (z.length : Int)).length + sp.length + (num (sumBy z 1000003)).length + sp.length ≤ sizeLine; omega
    · rw [app_len, app_len, app_len, app_len, app_len]; show 0 + (num (z.length : Int)).length + sp.length + (num (sumBy z 1000003)).length + sp.length + z.length ≤ sizeLine; omega
    · rw [emp_app]
      exact q H1 s1
theorem scBody : FnScope ["row", "body"] ["row"] (defScope sBody) := ⟨rfl, rfl, rfl, by decide +kernel, rfl, by decide +kernel, by decide +kernel⟩
def spBody : Sp := fun vs H Q _ => ∃ t : Str, vs = [.str t] ∧ t.length < 10 ^ 7 ∧ ∀ H', Same H H' → Q (bodyOf t) H'
theorem ok_body {f fF : Addr} {fd fdF : FuncData} {k : Nat} (F : FnP K "body_of" sBody f fd) (FF : FnP K "framed" sFramed fF fdF) (gF : mg "framed" = some (.ref fF)) (GF : FnOk P w K mg base CX0 k fF fdF ["body"] spFramed) :
    FnOk P w K mg base CX0 (k + 1) f fd ["row"] spBody := by
  have bF : Binds K fdF ["body"] [] := FF.bindsN fun _ _ _ _ _ _ us hl => match us, hl with | [_], _ => rfl
  refine F.ok scBody (fun vs H Q E h => ?_) (fun cdv A outer s H vs Q E hr h => ?_)
  · obtain ⟨z, rfl, _⟩ := h
    rfl
  · obtain ⟨t, rfl, hz, q⟩ := h
    have hs := szl
    refine ⟨_, PSs.nox (pss_cons (ps_set (i := 1) scBody.nd rfl (.inl rfl) (pe_ix ix_tup (pe_partition (pe_ix ix_tup (pe_partition (pv 0) pe_str) pe_int (fun _ _ => rfl)) pe_str) pe_int (fun _ _ => rfl)))
      (pss_one (ps_ret (pe_ifExp (pt_cmpR op_eq (pe_call GF hr (by rfl) gF FF.kp bF .nil pass0 (pa_cons (pv 1) pa_nil)) (pv 0) (nomark _)) (pv 1) pe_non)))), ?_⟩
    refine ⟨_, rfl, ⟨_, rfl⟩, t, sp, rfl, rfl, by decide +kernel, by omega, fun p np => ⟨p, _, 2, _, rfl, rfl, SqT.of upd_same, rfl, ⟨_, rfl⟩, tailT t, sp, rfl, rfl, by decide +kernel, ?_, fun p2 np2 => ⟨p2, _, 2, _, rfl, rfl, SqT.of upd_same, rfl, ?_⟩⟩⟩
    · have := tailT_len t
      omega
    · have hb := bodyT_len t
      refine ⟨_, rfl, bodyT t, rfl, by omega, fun H1 s1 => ⟨_, rfl, rfl, _, rfl, ?_⟩⟩
      have sm : Same H H1 := ((same_upd np).trans (same_upd np2)).trans s1
      by_cases e : rowT (bodyT t) = t
      · have e2 : bodyOf t = .str (bodyT t) := if_pos e
        have ed : decide (V.str (rowT (bodyT t)) = V.str t) = true := decide_eq_true (congrArg V.str e)
        rw [ed]
        refine iteT ⟨_, rfl, ?_⟩
        show Q (.str (bodyT t)) H1
        rw [← e2]
        exact q H1 sm
      · have e2 : bodyOf t = .non := if_neg e
        have ed : decide (V.str (rowT (bodyT t)) = V.str t) = false := decide_eq_false fun h => e (V.str.inj h)
        rw [ed]
        refine iteF ?_
        show Q .non H1
        rw [← e2]
        exact q H1 sm
end
end Ev

set_option maxHeartbeats 2000000
namespace Ev
open PySem PySem.Spec PyProof.Rows L2 TL
abbrev sDealt : Stmt := top 6
abbrev sPick : Stmt := top 7
/-! ### the hand -/
/-- all but the object at h is as it was -/
def But (h : Addr) (H H' : Hp) : Prop := ∀ b o, b ≠ h → H b = some o → H' b = some o
theorem But.refl (h : Addr) (H : Hp) : But h H H := fun _ _ _ e => e
theorem But.trans {h : Addr} {H H1 H2 : Hp} (a : But h H H1) (b : But h H1 H2) : But h H H2 := fun c o n e => b c o n (a c o n e)
theorem Same.but {h : Addr} {H H' : Hp} (a : Same H H') : But h H H' := fun b o _ e => a b o e
theorem but_upd {h : Addr} {H : Hp} {o : HO} : But h H (upd H h o) := fun b x n e => by
  rw [upd_ne n]
  exact e
def HandAt (H : Hp) (h : Addr) (n : Nat) : Prop := ∃ (l : Addr) (ns : List Int) (t c : Int), H h = some (.lst [.ref l, .int t, .int c]) ∧ H l = some (.lst (ns.map V.int)) ∧ l ≠ h ∧ ns.length ≤ 63 ∧ 0 ≤ t ∧ t ≤ (n : Int) ∧ 0 ≤ c
theorem HandAt.mono {H : Hp} {h : Addr} {n m : Nat} (a : HandAt H h n) (k : n ≤ m) : HandAt H h m := by
  obtain ⟨l, ns, t, c, h1, h2, h3, h4, h5, h6, h7⟩ := a
  exact ⟨l, ns, t, c, h1, h2, h3, h4, h5, by omega, h7⟩
theorem HandAt.same {H H' : Hp} {h : Addr} {n : Nat} (a : HandAt H h n) (s : Same H H') : HandAt H' h n := by
  obtain ⟨l, ns, t, c, h1, h2, r⟩ := a
  exact ⟨l, ns, t, c, s _ _ h1, s _ _ h2, r⟩
theorem HandAt.is {H : Hp} {h : Addr} {n : Nat} (a : HandAt H h n) : ∃ xs, H h = some (.lst xs) := by
  obtain ⟨l, ns, t, c, h1, _⟩ := a
  exact ⟨_, h1⟩
theorem scDealt : FnScope ["script"] ["script"] (defScope sDealt) := ⟨rfl, rfl, rfl, by decide +kernel, rfl, by decide +kernel, by decide +kernel⟩
theorem scPick : FnScope ["hand", "many", "digit", "turn", "cell", "mixed"] ["hand", "many"] (defScope sPick) := ⟨rfl, rfl, rfl, by decide +kernel, rfl, by decide +kernel, by decide +kernel⟩
def spDealt (K : PySem.W.Frag) : Sp := fun vs H Q _ => ∃ (a : Addr) (ns : List Int), vs = [.ref a] ∧ SqL K H a (ns.map V.int) ∧ ns.length ≤ 63 ∧ ∀ H' h, Same H H' → H h = none → HandAt H' h 0 → Q (.ref h) H'
def spPick : Sp := fun vs H Q _ => ∃ (h : Addr) (many : Int) (n : Nat), vs = [.ref h, .int many] ∧ HandAt H h n ∧ n ≤ 1000000 ∧ 0 < many ∧ many ≤ 100000000 ∧ ∀ H' d, But h H H' → HandAt H' h (n + 1) → 0 ≤ d → d < many → Q (.int d) H'
theorem cut_map (ns : List Int) (lo hi : Option Int) : ∃ ms : List Int, cutV (ns.map V.int) lo hi = ms.map V.int ∧ ms.length ≤ ns.length := by
  refine ⟨(ns.drop (HT.sIx (ns.map V.int).length 0 lo)).take (HT.sIx (ns.map V.int).length (ns.map V.int).length hi - HT.sIx (ns.map V.int).length 0 lo), ?_, ?_⟩
  · unfold cutV
    rw [List.map_take, List.map_drop]
  · rw [List.length_take, List.length_drop]
    omega
theorem dpAll_ints {K : PySem.W.Frag} {H : Hp} : ∀ ns : List Int, DpAll K H (ns.map V.int) (ns.map PyData.int)
  | [] => .nil
  | n :: r => .cons (.int n) (dpAll_ints r)
section
variable {P : Program} {w : World} {K : PySem.W.Frag} {mg : Str → Option Value} {base : Heap}
theorem ok_dealt {f : Addr} {fd : FuncData} {k : Nat} (F : FnP K "_law_dealt" sDealt f fd) (ml : mg "list" = none) : FnOk P w K mg base CX0 (k + 1) f fd ["script"] (spDealt K) := by
  refine F.ok scDealt (fun vs H Q E h => ?_) (fun cdv A outer s H vs Q E hr h => ?_)
  · obtain ⟨a, ns, rfl, _⟩ := h
    rfl
  · obtain ⟨a, ns, rfl, hS, hl, q⟩ := h
    refine ⟨_, PSs.nox (pss_one (ps_ret (pe_lst (pa_cons (pe_callTy call_list_of (by rfl) ml (by decide +kernel) (pa_cons (pe_slice sl_list (pv 0) po_none (po_some pe_int)) pa_nil)) (pa_cons pe_int (pa_cons pe_int pa_nil)))))), ?_⟩
    obtain ⟨ms, em, lm⟩ := cut_map ns none (some 63)
    refine ⟨_, rfl, 63, rfl, a, _, rfl, hS, fun p np => ⟨p, _, rfl, .inl (SqL.of upd_same), fun l nl => ⟨by show 3 ≤ sizeLine; decide, fun h nh => ?_⟩⟩⟩
    have s1 := (same_upd (o := HO.lst (cutV (ns.map V.int) none (some 63))) np)
    have s2 := (same_upd (o := HO.lst (cutV (ns.map V.int) none (some 63))) nl)
    have s3 := (same_upd (o := HO.lst [.ref l, .int 0, .int 0]) nh)
    have sm := (s1.trans s2).trans s3
    have nlh : l ≠ h := fun e => by
      rw [← e, upd_same] at nh
      cases nh
    refine q _ h sm ((s1.trans s2).free nh) ⟨l, ms, 0, 0, upd_same, ?_, nlh, by omega, Int.le_refl _, Int.le_refl _, Int.le_refl _⟩
    rw [upd_ne nlh, upd_same, em]
theorem pw_ne : (((10 : Int) ^ (60 : Int).toNat) ^ (60 : Int).toNat) ^ (3 : Int).toNat ≠ 0 := by decide +kernel
theorem pw_pos : 0 < (((10 : Int) ^ (60 : Int).toNat) ^ (60 : Int).toNat) ^ (3 : Int).toNat := by decide +kernel
theorem ok_pick {f : Addr} {fd : FuncData} {k : Nat} (F : FnP K "_law_pick" sPick f fd) (ml : mg "len" = none) (ma : mg "abs" = none) : FnOk P w K mg base CX0 (k + 1) f fd ["hand", "many"] spPick := by
  refine F.ok scPick (fun vs H Q E h => ?_) (fun cdv A outer s H vs Q E hr h => ?_)
  · obtain ⟨h, m, n, rfl, _⟩ := h
    rfl
  · obtain ⟨h, m, n, rfl, ⟨l, ns, t, c, hh, hl, nlh, ln, t0, tn, c0⟩, hn, m0, m1, q⟩ := h
    refine ⟨_, PSs.nox (pss_cons (ps_if (pt_cmpR op_gt (pe_ix ix_list (pv 0) pe_int (fun _ _ => rfl)) pe_int (nomark _))
        (pss_cons (ps_set (i := 2) scPick.nd rfl (.inl rfl) (pe_op op_modN (pe_ix ix_list (pv 0) pe_int (fun _ _ => rfl)) (pv 1)))
        (pss_cons (ps_asg (pe_op op_fdivN (pe_ix ix_list (pv 0) pe_int (fun _ _ => rfl)) (pv 1)) (pg_sub (pv 0) pe_int set_list))
        (pss_one (ps_ret (pv 2))))) pss_nil)
      (pss_cons (ps_set (i := 3) scPick.nd rfl (.inl rfl) (pe_ix ix_list (pv 0) pe_int (fun _ _ => rfl)))
      (pss_cons (ps_asg (pe_op op_add (pv 3) pe_int) (pg_sub (pv 0) pe_int set_list))
      (pss_cons (ps_set (i := 4) scPick.nd rfl (.inl rfl) (pe_op op_add (pe_op op_mul pe_int (pv 3)) pe_int))
      (C8.pss_cut (ps_if (pt_cmpR (op_neD hr.units) (pe_ix ix_list (pv 0) pe_int (fun _ _ => rfl)) (pe_lst pa_nil) (nomark _))
        (pss_one (ps_set (i := 4) scPick.nd rfl (.inl rfl) (pe_ix ix_list (pe_ix ix_list (pv 0) pe_int (fun _ _ => rfl)) (pe_op op_modN (pv 3) (pe_callB call_len_seq (by rfl) ml PySem.boot_len (pa_cons (pe_ix ix_list (pv 0) pe_int (fun _ _ => rfl)) pa_nil))) (fun _ _ => rfl)))) pss_nil)
      (C8.pss_cut (ps_if (PW.pt (pw_and (pt_cmpR op_lt (pv 3) (pe_callB call_len_seq (by rfl) ml PySem.boot_len (pa_cons (pe_ix ix_list (pv 0) pe_int (fun _ _ => rfl)) pa_nil)) (nomark _))
          (pw_and1 (pt_cmpR op_ge (pe_callB call_abs (by rfl) ma (by decide +kernel) (pa_cons (pv 4) pa_nil)) (pe_op op_pow pe_int pe_int) (nomark _)))))
        (pss_cons (ps_set (i := 4) scPick.nd rfl (.inl rfl) (pe_op op_modN (pe_callB call_abs (by rfl) ma (by decide +kernel) (pa_cons (pv 4) pa_nil)) (pe_op op_powB (pe_op op_powB (pe_op op_powB pe_int pe_int) pe_int) pe_int)))
        (pss_cons (ps_asg (pe_op op_fdivN (pv 4) (pv 1)) (pg_sub (pv 0) pe_int set_list))
        (pss_one (ps_ret (pe_op op_modN (pv 4) (pv 1)))))) pss_nil)
      (pss_cons (ps_set (i := 5) scPick.nd rfl (.inl rfl) (pe_op op_modN (pe_op op_mul (pe_op op_add (pe_op op_add (pe_op op_modN (pv 4) pe_int) (pe_op op_mul pe_int (pv 3))) pe_int) pe_int) pe_int))
      (pss_cons (ps_set (i := 5) scPick.nd rfl (.inl rfl) (pe_op op_modN (pe_op op_add (pe_op op_add (pe_op op_mul (pv 5) (pv 5)) (pe_op op_mul pe_int (pv 3))) pe_int) pe_int))
      (pss_one (ps_ret (pe_op op_modN (pe_op op_fdivN (pe_op op_modN (pe_op op_mul (pv 5) (pe_op op_add (pe_op op_modN (pv 5) pe_int) pe_int)) pe_int) pe_int) (pv 1)))))))))))), ?_⟩
    have dm : ∀ x : Int, 0 ≤ x.fmod m ∧ x.fmod m < m := fun x => ⟨Int.fmod_nonneg_of_pos x m0, Int.fmod_lt_of_pos x m0⟩
    have mN : m ≠ 0 := by omega
    have mB : m.natAbs < 1073741824 := by omega
    have dp : ∀ x : Int, 0 ≤ x → 0 ≤ x.fdiv m := fun x h => by
      rw [Int.fdiv_eq_ediv_of_nonneg x (by omega)]
      exact Int.ediv_nonneg h (by omega)
    -- hand[2] > 0
    refine ⟨_, rfl, h, _, 2, .int c, rfl, rfl, SqL.of hh, atI_nat (j := 2) rfl, c, 0, rfl, rfl, _, rfl, ite2 (fun e => ?_) (fun e => ?_)⟩
    · have hc : 0 < c := of_decide_eq_true e
      refine ⟨_, rfl, h, _, 2, .int c, rfl, rfl, SqL.of hh, atI_nat (j := 2) rfl, _, rfl, c, m, rfl, rfl, mN, ?_⟩
      refine ⟨_, rfl, h, _, 2, .int c, rfl, rfl, SqL.of hh, atI_nat (j := 2) rfl, _, rfl, c, m, rfl, rfl, ⟨mN, mB⟩, _, rfl, h, _, 2, 2, rfl, rfl, hh, rfl, ?_⟩
      refine ⟨_, rfl, q _ _ but_upd ⟨l, ns, t, c.fdiv m, upd_same, ?_, nlh, ln, t0, by omega, dp c c0⟩ (dm c).1 (dm c).2⟩
      rw [upd_ne nlh]
      exact hl
    · refine ⟨_, rfl, h, _, 1, .int t, rfl, rfl, SqL.of hh, atI_nat (j := 1) rfl, ?_⟩
      refine ⟨_, rfl, t, 1, rfl, rfl, _, rfl, h, _, 1, 1, rfl, rfl, hh, rfl, ?_⟩
      refine ⟨_, rfl, 31, t, rfl, rfl, .inl (by decide), _, 7, rfl, rfl, ?_⟩
      have hh1 : (upd H h (.lst (([.ref l, .int t, .int c] : List V).set 1 (.int (t + 1))))) h = some (.lst [.ref l, .int (t + 1), .int c]) := upd_same
      have hl1 : (upd H h (.lst (([.ref l, .int t, .int c] : List V).set 1 (.int (t + 1))))) l = some (.lst (ns.map V.int)) := by
        rw [upd_ne nlh]
        exact hl
      have b1 : But h H (upd H h (.lst (([.ref l, .int t, .int c] : List V).set 1 (.int (t + 1))))) := but_upd
      generalize (upd H h (.lst (([.ref l, .int t, .int c] : List V).set 1 (.int (t + 1))))) = H1 at hh1 hl1 b1
      refine ⟨fun σ' H' => ∃ cell, σ' = [some (.ref h), some (.int m), none, some (.int t), some (.int cell), none] ∧ H' h = some (.lst [.ref l, .int (t + 1), .int c]) ∧ H' l = some (.lst (ns.map V.int)) ∧ But h H H', ?_, ?_⟩
      · refine ⟨_, rfl, h, _, 0, .ref l, rfl, rfl, SqL.of hh1, atI_nat (j := 0) rfl, Nat.zero_le _, fun p np => ?_⟩
        have hh2 : (upd H1 p (.lst [])) h = some (.lst [.ref l, .int (t + 1), .int c]) := by rw [upd_ne (ne_of_none hh1 np)]; exact hh1
        have hl2 : (upd H1 p (.lst [])) l = some (.lst (ns.map V.int)) := by rw [upd_ne (ne_of_none hl1 np)]; exact hl1
        have b2 : But h H (upd H1 p (.lst [])) := b1.trans (Same.but (same_upd np))
        have hp2 : (upd H1 p (.lst [])) p = some (.lst []) := upd_same
        generalize (upd H1 p (.lst [])) = H2 at hh2 hl2 b2 hp2
        refine ⟨.list (ns.map PyData.int), .list [], .lst (SqL.of hl2) (dpAll_ints ns), .lst (SqL.of hp2) .nil, PySem.W.ke_shaped_ints ns, by decide +kernel, _, rfl, ite2 (fun e => ?_) (fun e => ?_)⟩
        · have n0 : 0 < ns.length := by
            cases ns with
            | nil => exact absurd e (by decide +kernel)
            | cons x r => exact Nat.succ_pos _
          have hlen : ((ns.map V.int).length : Int) ≠ 0 := by rw [List.length_map]; omega
          have f0 : 0 ≤ t.fmod ((ns.map V.int).length : Int) := Int.fmod_nonneg_of_pos t (by rw [List.length_map]; omega)
          have f1 : t.fmod ((ns.map V.int).length : Int) < ((ns.map V.int).length : Int) := Int.fmod_lt_of_pos t (by rw [List.length_map]; omega)
          obtain ⟨j, ej⟩ := Int.eq_ofNat_of_zero_le f0
          have hj : j < ns.length := by
            rw [ej, List.length_map] at f1
            exact Int.ofNat_lt.mp f1
          refine ⟨_, rfl, h, _, 0, .ref l, rfl, rfl, SqL.of hh2, atI_nat (j := 0) rfl, _, rfl, _, rfl, h, _, 0, .ref l, rfl, rfl, SqL.of hh2, atI_nat (j := 0) rfl, l, _, rfl, .inl (SqL.of hl2), t, _, rfl, rfl, hlen, l, _, (j : Int), .int ns[j], rfl, congrArg V.int ej, SqL.of hl2, atI_nat (j := j) ?_, ns[j], rfl, hh2, hl2, b2⟩
          rw [List.getElem?_map, List.getElem?_eq_getElem hj]
          rfl
        · exact ⟨_, rfl, hh2, hl2, b2⟩
      · rintro σ' H' ⟨cell, rfl, hh3, hl3, b3⟩
        refine ⟨fun σ2 H2 => σ2 = [some (.ref h), some (.int m), none, some (.int t), some (.int cell), none] ∧ H2 = H', ?_, ?_⟩
        · refine ⟨_, rfl, _, rfl, h, _, 0, .ref l, rfl, rfl, SqL.of hh3, atI_nat (j := 0) rfl, l, _, rfl, .inl (SqL.of hl3), t, _, rfl, rfl, _, rfl, ite2 (fun e => ?_) (fun e => ?_)⟩
          · refine ⟨_, rfl, cell, rfl, 10, 18, rfl, rfl, ⟨by decide, by decide, by decide⟩, _, _, rfl, rfl, _, rfl, ite2 (fun e2 => ?_) (fun e2 => ⟨rfl, rfl⟩)⟩
            refine ⟨_, rfl, cell, rfl, 10, 60, rfl, rfl, ⟨by decide, by decide +kernel⟩, _, 60, rfl, rfl, ⟨by decide, by decide +kernel⟩, _, 3, rfl, rfl, ⟨by decide, by decide +kernel⟩, _, _, rfl, rfl, pw_ne, ?_⟩
            obtain ⟨c2, ec⟩ : ∃ c2, c2 = (if cell < 0 then -cell else cell).fmod ((((10 : Int) ^ (60 : Int).toNat) ^ (60 : Int).toNat) ^ (3 : Int).toNat) := ⟨_, rfl⟩
            have c1 : 0 ≤ c2 := by
              rw [ec]
              exact Int.fmod_nonneg_of_pos _ pw_pos
            have ec' := congrArg V.int ec.symm
            refine ⟨_, rfl, _, rfl, c2, m, ec', rfl, ⟨mN, mB⟩, _, rfl, h, _, 2, 2, rfl, rfl, hh3, rfl, ?_⟩
            refine ⟨_, rfl, _, rfl, c2, m, ec', rfl, mN, q _ _ (b3.trans but_upd) ⟨l, ns, t + 1, c2.fdiv m, upd_same, ?_, nlh, ln, by omega, by omega, dp c2 c1⟩ (dm c2).1 (dm c2).2⟩
            rw [upd_ne nlh]
            exact hl3
          · exact iteF ⟨rfl, rfl⟩
        · rintro σ2 H2 ⟨rfl, rfl⟩
          obtain ⟨x1, e1⟩ : ∃ x1, x1 = cell.fmod 2147483579 := ⟨_, rfl⟩
          obtain ⟨x2, e2⟩ : ∃ x2, x2 = ((x1 + 50021 * t + 3) * 69621).fmod 2147483647 := ⟨_, rfl⟩
          obtain ⟨x3, e3⟩ : ∃ x3, x3 = (x2 * x2 + 48271 * t + 19).fmod 2147483563 := ⟨_, rfl⟩
          have r3 := Int.fmod_nonneg_of_pos ((x1 + 50021 * t + 3) * 69621) (b := 2147483647) (by decide)
          have r4 := Int.fmod_lt_of_pos ((x1 + 50021 * t + 3) * 69621) (b := 2147483647) (by decide)
          have r5 := Int.fmod_nonneg_of_pos (x2 * x2 + 48271 * t + 19) (b := 2147483563) (by decide)
          have r6 := Int.fmod_lt_of_pos (x2 * x2 + 48271 * t + 19) (b := 2147483563) (by decide)
          rw [← e2] at r3 r4
          rw [← e3] at r5 r6
          have e1' := congrArg V.int e1.symm
          have e2' := congrArg V.int e2.symm
          have e3' := congrArg V.int e3.symm
          refine ⟨_, rfl, cell, 2147483579, rfl, rfl, (show (2147483579 : Int) ≠ 0 by decide), _, rfl, 50021, t, rfl, rfl, .inl (by decide), x1, _, e1', rfl, _, 3, rfl, rfl, x1 + 50021 * t + 3, 69621, rfl, rfl, .inr (by decide), _, 2147483647, rfl, rfl, (show (2147483647 : Int) ≠ 0 by decide), ?_⟩
          refine ⟨_, rfl, _, rfl, x2, x2, e2', e2', .inl (by omega), _, rfl, 48271, t, rfl, rfl, .inl (by decide), _, _, rfl, rfl, _, 19, rfl, rfl, _, 2147483563, rfl, rfl, (show (2147483563 : Int) ≠ 0 by decide), ?_⟩
          refine ⟨_, rfl, _, rfl, x3, 32749, e3', rfl, (show (32749 : Int) ≠ 0 by decide), _, 5, rfl, rfl, x3, _, e3', rfl, .inl (by omega), _, 2147483629, rfl, rfl, (show (2147483629 : Int) ≠ 0 by decide), _, 32, rfl, rfl, ⟨by decide, by decide⟩, _, rfl, _, m, rfl, rfl, mN, ?_⟩
          exact q _ _ b3 ⟨l, ns, t + 1, c, hh3, hl3, nlh, ln, by omega, by omega, c0⟩ (dm _).1 (dm _).2
end
end Ev

set_option maxHeartbeats 2000000
namespace Ev
open PySem PySem.Spec PyProof.Rows L2 TL
abbrev sAlpha : Stmt := top 8
abbrev sSpoilt : Stmt := top 9
abbrev sAny : Stmt := top 10
abbrev sLSum : Stmt := top 11
abbrev sRow : Stmt := top 12
abbrev sIn : Stmt := top 13
theorem scAlpha : FnScope ["some"] [] (defScope sAlpha) := ⟨rfl, rfl, rfl, by decide +kernel, rfl, by decide +kernel, by decide +kernel⟩
theorem scSpoilt : FnScope ["hand", "written", "signs", "at", "way", "sign"] ["hand", "written"] (defScope sSpoilt) := ⟨rfl, rfl, rfl, by decide +kernel, rfl, by decide +kernel, by decide +kernel⟩
theorem scAny : FnScope ["hand", "most", "signs", "few", "found", "k"] ["hand", "most"] (defScope sAny) := ⟨rfl, rfl, rfl, by decide +kernel, rfl, by decide +kernel, by decide +kernel⟩
theorem scLSum : FnScope ["body", "by", "total", "at"] ["body", "by"] (defScope sLSum) := ⟨rfl, rfl, rfl, by decide +kernel, rfl, by decide +kernel, by decide +kernel⟩
theorem scRow : FnScope ["body"] ["body"] (defScope sRow) := ⟨rfl, rfl, rfl, by decide +kernel, rfl, by decide +kernel, by decide +kernel⟩
theorem scIn : FnScope ["written", "first", "second", "body"] ["written"] (defScope sIn) := ⟨rfl, rfl, rfl, by decide +kernel, rfl, by decide +kernel, by decide +kernel⟩
theorem atI_in {α : Type} {xs : List α} {d : Int} (h0 : 0 ≤ d) (h1 : d < (xs.length : Int)) : ∃ v, atI xs d = some v ∧ v ∈ xs := by
  obtain ⟨j, rfl⟩ := Int.eq_ofNat_of_zero_le h0
  have hj : j < xs.length := Int.ofNat_lt.mp h1
  exact ⟨xs[j], atI_nat (List.getElem?_eq_getElem hj), List.getElem_mem hj⟩
def spAlpha : Sp := fun vs H Q _ => vs = [] ∧ ∀ al : Str, al.length = 94 → Q (.str al) H
def spAny : Sp := fun vs H Q _ => ∃ (h : Addr) (most n : Nat), vs = [.ref h, .int (most : Int)] ∧ HandAt H h n ∧ 1 ≤ most ∧ most ≤ 1000 ∧ n ≤ 900000 ∧ ∀ H' z, But h H H' → HandAt H' h (n + 3 + 3 * most) → z.length ≤ most → Q (.str z) H'
def spSpoilt : Sp := fun vs H Q _ => ∃ (h : Addr) (t : Str) (n : Nat), vs = [.ref h, .str t] ∧ HandAt H h n ∧ t.length ≤ 100000 ∧ n ≤ 900000 ∧ ∀ H' z, But h H H' → HandAt H' h (n + 3) → z.length ≤ 3 * t.length + 2 → Q (.str z) H'
def spLSum : Sp := fun vs H Q _ => ∃ (z : Str) (m : Int), vs = [.str z, .int m] ∧ z.length ≤ sizeLine ∧ 0 < m ∧ Q (.int (sumBy z m)) H
def spRow : Sp := fun vs H Q _ => ∃ z : Str, vs = [.str z] ∧ z.length < 10 ^ 7 ∧ Q (.str (rowT z)) H
def spIn : Sp := fun vs H Q _ => ∃ t : Str, vs = [.str t] ∧ t.length < 10 ^ 7 ∧ Q (bodyOf t) H
section
variable {P : Program} {w : World} {K : PySem.W.Frag} {mg : Str → Option Value} {base : Heap}
theorem ok_alpha {f : Addr} {fd : FuncData} {k : Nat} (F : FnP K "_law_alphabet" sAlpha f fd) : FnOk P w K mg base CX0 (k + 1) f fd [] spAlpha := by
  refine F.ok scAlpha (fun vs H Q E h => ?_) (fun cdv A outer s H vs Q E hr h => ?_)
  · obtain ⟨rfl, _⟩ := h
    rfl
  · obtain ⟨rfl, q⟩ := h
    refine ⟨_, PSs.nox (pss_cons (ps_set (i := 0) scAlpha.nd rfl (.inl rfl) pe_str) (pss_one (ps_ret (pe_op op_add_str (pv 0) pe_str)))), ?_⟩
    refine ⟨_, rfl, _, _, rfl, rfl, by decide +kernel, q _ ?_⟩
    decide +kernel
theorem ok_lsum {f : Addr} {fd : FuncData} {k : Nat} (F : FnP K "_law_sum" sLSum f fd) (mr : mg "range" = none) (ml : mg "len" = none) (mo : mg "ord" = none) : FnOk P w K mg base CX0 (k + 1) f fd ["body", "by"] spLSum := by
  refine F.ok scLSum (fun vs H Q E h => ?_) (fun cdv A outer s H vs Q E hr h => ?_)
  · obtain ⟨z, m, rfl, _⟩ := h
    rfl
  · obtain ⟨z, m, rfl, hz, hm, q⟩ := h
    have hs := szl
    have hlz := len_tl z
    refine ⟨_, PSs.nox (pss_cons (ps_set (i := 2) scLSum.nd rfl (.inl rfl) pe_int)
      (pss_cons (ps_for PassesOwn.never rfl (pi_range1 (by rfl) mr (pa_cons (pe_callB call_len_str (by rfl) ml PySem.boot_len (pa_cons (pv 0) pa_nil)) pa_nil)) (pg_name (i := 3) scLSum.nd rfl (.inl rfl))
        (pss_one (ps_set (i := 2) scLSum.nd rfl (.inl rfl) (pe_op op_add (pv 2) (pe_op op_mul (pe_callB call_ord (by rfl) mo (by decide +kernel) (pa_cons (pe_ix ix_str (pv 0) (pv 3) (fun _ _ => rfl)) pa_nil)) (pe_op op_add (pv 3) pe_int))))))
      (pss_one (ps_ret (pe_op op_modN (pv 2) (pv 1)))))), ?_⟩
    refine ⟨_, rfl, z, rfl, hz, _, rfl, by omega, by omega, for_range (lo := 0) (n := z.length) (fun i σ H' => (∃ y, σ = [some (.str z), some (.int m), some (.int (wsum 0 ((tl z).take i))), y]) ∧ H' = H) ⟨⟨_, rfl⟩, rfl⟩ ?_ ?_⟩
    · rintro i σ H' hi ⟨⟨y, rfl⟩, rfl⟩
      have hj : i < (tl z).length := by omega
      have hc : (tl z)[i]? = some (tl z)[i] := List.getElem?_eq_getElem hj
      refine ⟨_, rfl, _, rfl, _, rfl, z, (i : Int), (tl z)[i], rfl, ?_, hz, atI_nat hc, ⟨#[(tl z)[i]]⟩, rfl, rfl, _, rfl, _, 1, rfl, rfl, _, _, rfl, rfl, .inr (by omega), _, _, rfl, rfl, ⟨some (.int (0 + (i : Int))), ?_⟩, rfl⟩
      · show V.int (0 + (i : Int)) = V.int (i : Int)
        rw [Int.zero_add]
      · rw [wsum_take hc]
        have e1 : (0 : Int) + (i : Int) + 1 = (i : Int) + 1 := by omega
        rw [← e1]
        rfl
    · rintro σ H' ⟨⟨y, rfl⟩, rfl⟩
      refine ⟨_, rfl, _, rfl, _, _, rfl, rfl, by omega, ?_⟩
      have e : (tl z).take z.length = tl z := List.take_of_length_le (by omega)
      rw [e]
      exact q
theorem ok_row {f fS : Addr} {fd fdS : FuncData} {k : Nat} (F : FnP K "_law_row" sRow f fd) (FS : FnP K "_law_sum" sLSum fS fdS) (gS : mg "_law_sum" = some (.ref fS)) (GS : FnOk P w K mg base CX0 k fS fdS ["body", "by"] spLSum) (ms : mg "str" = none) (ml : mg "len" = none) :
    FnOk P w K mg base CX0 (k + 1) f fd ["body"] spRow := by
  have bS : Binds K fdS ["body", "by"] [] := FS.bindsN fun _ _ _ _ _ _ us hl => match us, hl with | [_, _], _ => rfl
  refine F.ok scRow (fun vs H Q E h => ?_) (fun cdv A outer s H vs Q E hr h => ?_)
  · obtain ⟨z, rfl, _⟩ := h
    rfl
  · obtain ⟨z, rfl, hz, q⟩ := h
    have hl := num_len (n := (z.length : Int)) (by omega) (by omega)
    have hs := szl
    have h1 := sp_len
    obtain ⟨r0, r1⟩ := sum_range z (m := 1000003) (by decide)
    have hk := num_len r0 (by omega)
    refine ⟨_, PSs.nox (pss_one (ps_ret (pe_op op_add_str (pe_op op_add_str (pe_op op_add_str (pe_op op_add_str (pe_callTy call_str_int (by rfl) ms (by decide +kernel) (pa_cons (pe_callB call_len_str (by rfl) ml PySem.boot_len (pa_cons (pv 0) pa_nil)) pa_nil)) pe_str)
      (pe_callTy call_str_int (by rfl) ms (by decide +kernel) (pa_cons (pe_call GS hr (by rfl) gS FS.kp bS .nil pass0 (pa_cons (pv 0) (pa_cons pe_int pa_nil))) pa_nil))) pe_str) (pv 0)))), ?_⟩
    refine ⟨_, rfl, z, rfl, by omega, _, rfl, small_log (by omega), _, _, rfl, rfl, ?_, _, rfl, z, 1000003, rfl, by omega, by decide, _, rfl, small_log (by omega), _, _, rfl, rfl, ?_, _, _, rfl, rfl, ?_, _, rfl, _, z, rfl, rfl, ?_, q⟩
    · show (num (z.length : Int)).length + sp.length ≤ sizeLine; omega
    · rw [app_len]; show (num (z.length : Int)).length + sp.length + (num (sumBy z 1000003)).length ≤ sizeLine; omega
    · rw [app_len, app_len]; show (num (z.length : Int)).length + sp.length + (num (sumBy z 1000003)).length + sp.length ≤ sizeLine; omega
    · rw [app_len, app_len, app_len]; show (num (z.length : Int)).length + sp.length + (num (sumBy z 1000003)).length + sp.length + z.length ≤ sizeLine; omega
theorem ok_in {f fR : Addr} {fd fdR : FuncData} {k : Nat} (F : FnP K "_law_body_in" sIn f fd) (FR : FnP K "_law_row" sRow fR fdR) (gR : mg "_law_row" = some (.ref fR)) (GR : FnOk P w K mg base CX0 k fR fdR ["body"] spRow) :
    FnOk P w K mg base CX0 (k + 1) f fd ["written"] spIn := by
  have bR : Binds K fdR ["body"] [] := FR.bindsN fun _ _ _ _ _ _ us hl => match us, hl with | [_], _ => rfl
  refine F.ok scIn (fun vs H Q E h => ?_) (fun cdv A outer s H vs Q E hr h => ?_)
  · obtain ⟨z, rfl, _⟩ := h
    rfl
  · obtain ⟨t, rfl, hz, q⟩ := h
    have hs := szl
    refine ⟨_, PSs.nox (pss_cons (ps_set (i := 1) scIn.nd rfl (.inl rfl) (pe_m1 PySem.F.slot_str_find PySem.F.type_str_find mt_find (pv 0) pe_str))
      (pss_cons (ps_set (i := 2) scIn.nd rfl (.inl rfl) (pe_bm PySem.F.plainAttrs_str PySem.F.slot_str_find PySem.F.type_str_find mt_find3 (pv 0) (pa_cons pe_str (pa_cons (pe_op op_add (pv 1) pe_int) pa_nil))))
      (pss_cons (ps_if (PW.pt (pw_or (pt_cmpR op_lt (pv 1) pe_int (nomark _)) (pw_or1 (pt_cmpR op_lt (pv 2) pe_int (nomark _))))) (pss_one (ps_ret pe_non)) pss_nil)
      (pss_cons (ps_set (i := 3) scIn.nd rfl (.inl rfl) (pe_slice sl_str (pv 0) (po_some (pe_op op_add (pv 2) pe_int)) po_none))
      (pss_one (ps_ret (pe_ifExp (pt_cmpR op_eq (pv 0) (pe_call GR hr (by rfl) gR FR.kp bR .nil pass0 (pa_cons (pv 3) pa_nil)) (nomark _)) (pv 3) pe_non))))))), ?_⟩
    refine ⟨_, rfl, ⟨_, rfl⟩, t, sp, rfl, rfl, _, rfl, rfl, _, rfl, Txt.find t sp, 1, rfl, rfl, t, sp, Txt.find t sp + 1, rfl, rfl, _, rfl, Txt.find t sp, 1, rfl, rfl, _, rfl, ?_⟩
    rcases looks_agree t with ⟨i, j, e1, i1, e2, eb⟩ | ⟨hno, hb⟩
    · have d1 : decide (Txt.find t sp < 1) = false := decide_eq_false (by rw [e1]; omega)
      rw [d1]
      refine iteF ⟨_, rfl, Txt.find3 t sp (Txt.find t sp + 1), 0, rfl, rfl, _, rfl, ?_⟩
      have e2' : Txt.find3 t sp (Txt.find t sp + 1) = (j : Int) := by rw [e1]; exact e2
      have d2 : decide (Txt.find3 t sp (Txt.find t sp + 1) < 0) = false := decide_eq_false (by rw [e2']; omega)
      rw [d2]
      refine iteF ⟨_, rfl, _, rfl, Txt.find3 t sp (Txt.find t sp + 1), 1, rfl, rfl, _, rfl, t, rfl, by omega, ?_⟩
      rw [e2', eb]
      have hbl := bodyT_len t
      refine ⟨_, rfl, _, rfl, bodyT t, rfl, by omega, rfl, _, rfl, ?_⟩
      by_cases e : rowT (bodyT t) = t
      · have e3 : bodyOf t = .str (bodyT t) := if_pos e
        have ed : decide (V.str t = V.str (rowT (bodyT t))) = true := decide_eq_true (congrArg V.str e.symm)
        rw [ed]
        refine iteT ⟨_, rfl, ?_⟩
        show Q (.str (bodyT t)) H
        rw [← e3]
        exact q
      · have e3 : bodyOf t = .non := if_neg e
        have ed : decide (V.str t = V.str (rowT (bodyT t))) = false := decide_eq_false fun h => e (V.str.inj h).symm
        rw [ed]
        refine iteF ?_
        show Q .non H
        rw [← e3]
        exact q
    · by_cases c1 : Txt.find t sp < 1
      · have d1 : decide (Txt.find t sp < 1) = true := decide_eq_true c1
        rw [d1]
        refine iteT ?_
        refine iteT ?_
        show Q .non H
        rw [← hb]
        exact q
      · have d1 : decide (Txt.find t sp < 1) = false := decide_eq_false c1
        rw [d1]
        refine iteF ⟨_, rfl, Txt.find3 t sp (Txt.find t sp + 1), 0, rfl, rfl, _, rfl, ?_⟩
        have c2 : Txt.find3 t sp (Txt.find t sp + 1) < 0 := by
          rcases hno with h | ⟨i, e, h⟩
          · exact absurd h c1
          · rw [e]
            exact h
        have d2 : decide (Txt.find3 t sp (Txt.find t sp + 1) < 0) = true := decide_eq_true c2
        rw [d2]
        refine iteT ?_
        show Q .non H
        rw [← hb]
        exact q
theorem four_vals {a b : Int} {x : V} {m : Int} (h : x ∈ ([.int 0, .int 1, .int a, .int b] : List V)) (hm : 1 ≤ m) (a0 : 0 ≤ a) (a1 : a ≤ m) (b0 : 0 ≤ b) (b1 : b ≤ m) : ∃ v : Int, x = .int v ∧ 0 ≤ v ∧ v ≤ m := by
  rcases List.mem_cons.mp h with e | h
  · exact ⟨0, e, by omega, by omega⟩
  rcases List.mem_cons.mp h with e | h
  · exact ⟨1, e, by omega, by omega⟩
  rcases List.mem_cons.mp h with e | h
  · exact ⟨a, e, a0, a1⟩
  rcases List.mem_cons.mp h with e | h
  · exact ⟨b, e, b0, b1⟩
  · cases h
theorem but_at {h p : Addr} {H H' : Hp} {o : HO} (b : But h H H') (hp : H p = some o) (n : p ≠ h) : H' p = some o := b p o n hp
theorem ok_any {f fA fP : Addr} {fd fdA fdP : FuncData} {k : Nat} (F : FnP K "_law_any_body" sAny f fd) (FA : FnP K "_law_alphabet" sAlpha fA fdA) (gA : mg "_law_alphabet" = some (.ref fA)) (GA : FnOk P w K mg base CX0 k fA fdA [] spAlpha)
    (FP : FnP K "_law_pick" sPick fP fdP) (gP : mg "_law_pick" = some (.ref fP)) (GP : FnOk P w K mg base CX0 k fP fdP ["hand", "many"] spPick) (mr : mg "range" = none) :
    FnOk P w K mg base CX0 (k + 1) f fd ["hand", "most"] spAny := by
  have bA : Binds K fdA [] [] := FA.bindsN fun _ _ _ _ _ _ us hl => match us, hl with | [], _ => rfl
  have bP : Binds K fdP ["hand", "many"] [] := FP.bindsN fun _ _ _ _ _ _ us hl => match us, hl with | [_, _], _ => rfl
  refine F.ok scAny (fun vs H Q E h => ?_) (fun cdv A outer s H vs Q E hr h => ?_)
  · obtain ⟨h, m, n, rfl, _⟩ := h
    rfl
  · obtain ⟨h, m, n, rfl, hA, m1, m2, hn, q⟩ := h
    have hs := szl
    refine ⟨_, PSs.nox (pss_cons (ps_par (i := 2) (j := 3) rfl scAny.nd rfl rfl (by decide) rfl rfl (pa_cons (pe_call0 GA hr (by rfl) gA FA.kp bA .nil pass0) (pa_cons pe_str pa_nil)) (by rfl))
      (pss_cons (ps_set (i := 4) scAny.nd rfl (.inl rfl) pe_str)
      (pss_cons (ps_for PassesOwn.never rfl (pi_range1 (by rfl) mr (pa_cons (pe_ix ix_list (pe_lst (pa_cons pe_int (pa_cons pe_int
            (pa_cons (pe_call GP hr (by rfl) gP FP.kp bP .nil pass0 (pa_cons (pv 0) (pa_cons (pe_op op_add (pv 1) pe_int) pa_nil)))
            (pa_cons (pe_call GP hr (by rfl) gP FP.kp bP .nil pass0 (pa_cons (pv 0) (pa_cons (pe_op op_add (pv 1) pe_int) pa_nil))) pa_nil)))))
          (pe_call GP hr (by rfl) gP FP.kp bP .nil pass0 (pa_cons (pv 0) (pa_cons pe_int pa_nil))) (fun _ _ => rfl)) pa_nil)) (pg_name (i := 5) scAny.nd rfl (.inl rfl))
        (pss_one (ps_set (i := 4) scAny.nd rfl (.inl rfl) (pe_op op_add_str (pv 4) (pe_ix ix_list (pe_lst
            (pa_cons (pe_ix ix_str (pv 2) (pe_call GP hr (by rfl) gP FP.kp bP .nil pass0 (pa_cons (pv 0) (pa_cons pe_int pa_nil))) (fun _ _ => rfl))
            (pa_cons (pe_ix ix_str (pv 3) (pe_call GP hr (by rfl) gP FP.kp bP .nil pass0 (pa_cons (pv 0) (pa_cons pe_int pa_nil))) (fun _ _ => rfl)) pa_nil)))
          (pe_call GP hr (by rfl) gP FP.kp bP .nil pass0 (pa_cons (pv 0) (pa_cons pe_int pa_nil))) (fun _ _ => rfl))))))
      (pss_one (ps_ret (pv 4)))))), ?_⟩
    refine ⟨rfl, fun al hal => ⟨_, _, rfl, ?_⟩⟩
    refine ⟨_, rfl, _, rfl, (m : Int), 1, rfl, rfl, h, (m : Int) + 1, n, rfl, hA, by omega, by omega, by omega, fun H1 d1 b1 A1 d10 d11 => ?_⟩
    refine ⟨_, rfl, _, rfl, (m : Int), 1, rfl, rfl, h, (m : Int) + 1, n + 1, rfl, A1, by omega, by omega, by omega, fun H2 d2 b2 A2 d20 d21 => ?_⟩
    refine ⟨by show 4 ≤ sizeLine; omega, fun p np => ?_⟩
    have nph : p ≠ h := fun e => by
      obtain ⟨xs, ex⟩ := A2.is
      rw [e, ex] at np
      cases np
    have hp : upd H2 p (.lst [.int 0, .int 1, .int d1, .int d2]) p = some (.lst [.int 0, .int 1, .int d1, .int d2]) := upd_same
    have A2' : HandAt (upd H2 p (.lst [.int 0, .int 1, .int d1, .int d2])) h (n + 1 + 1) := A2.same (same_upd np)
    have b2' : But h H (upd H2 p (.lst [.int 0, .int 1, .int d1, .int d2])) := (b1.trans b2).trans (Same.but (same_upd np))
    refine ⟨_, rfl, h, 4, n + 1 + 1, rfl, A2', by omega, by omega, by omega, fun H3 d3 b3 A3 d30 d31 => ?_⟩
    have hp3 := but_at b3 hp nph
    obtain ⟨v, ev, vm⟩ := atI_in (xs := ([.int 0, .int 1, .int d1, .int d2] : List V)) d30 (by show d3 < 4; exact d31)
    obtain ⟨c, rfl, c0, c1⟩ := four_vals vm (m := (m : Int)) (by omega) d10 (by omega) d20 (by omega)
    refine ⟨p, _, d3, _, rfl, rfl, SqL.of hp3, ev, c, rfl, by omega, by omega, ?_⟩
    refine for_range (lo := 0) (n := c.toNat) (fun i σ H' => ∃ (few z : Str) (y : Option V), σ = [some (.ref h), some (.int (m : Int)), some (.str al), some (.str few), some (.str z), y] ∧ few.length = 22 ∧ z.length ≤ i ∧ HandAt H' h (n + 3 + 3 * i) ∧ But h H H')
      ⟨_, _, _, rfl, by decide +kernel, by decide +kernel, A3, b2'.trans b3⟩ ?_ ?_
    · rintro i σ H' hi ⟨few, z, y, rfl, hf, hz, Ai, bi⟩
      refine ⟨_, rfl, _, rfl, _, rfl, h, 94, n + 3 + 3 * i, rfl, Ai, by omega, by omega, by omega, fun H4 d4 b4 A4 d40 d41 => ?_⟩
      obtain ⟨e4, x4, m4⟩ := atI_in (xs := al.cps.toList) d40 (by rw [Array.length_toList]; show d4 < (al.length : Int); omega)
      refine ⟨al, d4, e4, rfl, rfl, by omega, x4, _, rfl, _, rfl, h, 22, n + 3 + 3 * i + 1, rfl, A4, by omega, by omega, by omega, fun H5 d5 b5 A5 d50 d51 => ?_⟩
      obtain ⟨e5, x5, m5⟩ := atI_in (xs := few.cps.toList) d50 (by rw [Array.length_toList]; show d5 < (few.length : Int); omega)
      refine ⟨few, d5, e5, rfl, rfl, by omega, x5, by show 2 ≤ sizeLine; omega, fun p2 np2 => ?_⟩
      have nph2 : p2 ≠ h := fun e => by
        obtain ⟨xs, ex⟩ := A5.is
        rw [e, ex] at np2
        cases np2
      have hp2 : upd H5 p2 (.lst [.str ⟨#[e4]⟩, .str ⟨#[e5]⟩]) p2 = some (.lst [.str ⟨#[e4]⟩, .str ⟨#[e5]⟩]) := upd_same
      refine ⟨_, rfl, h, 2, n + 3 + 3 * i + 1 + 1, rfl, A5.same (same_upd np2), by omega, by omega, by omega, fun H6 d6 b6 A6 d60 d61 => ?_⟩
      obtain ⟨v6, x6, m6⟩ := atI_in (xs := ([.str ⟨#[e4]⟩, .str ⟨#[e5]⟩] : List V)) d60 (by show d6 < 2; exact d61)
      obtain ⟨g6, rfl, l6⟩ : ∃ g : Str, v6 = .str g ∧ g.length = 1 := by
        rcases List.mem_cons.mp m6 with e | m6
        · exact ⟨_, e, rfl⟩
        rcases List.mem_cons.mp m6 with e | m6
        · exact ⟨_, e, rfl⟩
        · cases m6
      refine ⟨p2, _, d6, _, rfl, rfl, SqL.of (but_at b6 hp2 nph2), x6, z, g6, rfl, rfl, by omega, few, z ++ g6, some (.int (0 + (i : Int))), rfl, hf, ?_, ?_, ?_⟩
      · rw [app_len]
        omega
      · exact A6.mono (by omega)
      · exact ((bi.trans b4).trans b5).trans ((Same.but (same_upd np2)).trans b6)
    · rintro σ H' ⟨few, z, y, rfl, hf, hz, Ai, bi⟩
      exact ⟨_, rfl, q H' z bi (Ai.mono (by omega)) (by omega)⟩
end
end Ev

set_option maxHeartbeats 2000000
namespace Ev
open PySem PySem.Spec PyProof.Rows L2 TL
section
variable {P : Program} {w : World} {K : PySem.W.Frag} {mg : Str → Option Value} {base : Heap}
theorem ok_spoilt {f fA fP : Addr} {fd fdA fdP : FuncData} {k : Nat} (F : FnP K "_law_spoilt" sSpoilt f fd) (FA : FnP K "_law_alphabet" sAlpha fA fdA) (gA : mg "_law_alphabet" = some (.ref fA)) (GA : FnOk P w K mg base CX0 k fA fdA [] spAlpha)
    (FP : FnP K "_law_pick" sPick fP fdP) (gP : mg "_law_pick" = some (.ref fP)) (GP : FnOk P w K mg base CX0 k fP fdP ["hand", "many"] spPick) (ml : mg "len" = none) :
    FnOk P w K mg base CX0 (k + 1) f fd ["hand", "written"] spSpoilt := by
  have bA : Binds K fdA [] [] := FA.bindsN fun _ _ _ _ _ _ us hl => match us, hl with | [], _ => rfl
  have bP : Binds K fdP ["hand", "many"] [] := FP.bindsN fun _ _ _ _ _ _ us hl => match us, hl with | [_, _], _ => rfl
  refine F.ok scSpoilt (fun vs H Q E h => ?_) (fun cdv A outer s H vs Q E hr h => ?_)
  · obtain ⟨h, t, n, rfl, _⟩ := h
    rfl
  · obtain ⟨h, t, n, rfl, hA, ht, hn, q⟩ := h
    have hs := szl
    refine ⟨_, PSs.nox (pss_cons (ps_set (i := 2) scSpoilt.nd rfl (.inl rfl) (pe_op op_add_str (pe_call0 GA hr (by rfl) gA FA.kp bA .nil pass0) pe_str))
      (pss_cons (ps_par (i := 3) (j := 4) rfl scSpoilt.nd rfl rfl (by decide) rfl rfl (pa_cons (pe_call GP hr (by rfl) gP FP.kp bP .nil pass0 (pa_cons (pv 0) (pa_cons (pe_op op_add (pe_callB call_len_str (by rfl) ml PySem.boot_len (pa_cons (pv 1) pa_nil)) pe_int) pa_nil)))
          (pa_cons (pe_call GP hr (by rfl) gP FP.kp bP .nil pass0 (pa_cons (pv 0) (pa_cons pe_int pa_nil))) pa_nil)) (by rfl))
      (pss_cons (ps_set (i := 5) scSpoilt.nd rfl (.inl rfl) (pe_ix ix_str (pv 2) (pe_call GP hr (by rfl) gP FP.kp bP .nil pass0 (pa_cons (pv 0) (pa_cons (pe_callB call_len_str (by rfl) ml PySem.boot_len (pa_cons (pv 2) pa_nil)) pa_nil))) (fun _ _ => rfl)))
      (pss_cons (ps_if (pt_cmpR op_eq (pv 4) pe_int (nomark _)) (pss_one (ps_ret (pe_op op_add_str (pe_op op_add_str (pe_slice sl_str (pv 1) po_none (po_some (pv 3))) (pv 5)) (pe_slice sl_str (pv 1) (po_some (pv 3)) po_none)))) pss_nil)
      (pss_cons (ps_if (pt_cmpR op_eq (pv 4) pe_int (nomark _)) (pss_one (ps_ret (pe_op op_add_str (pe_slice sl_str (pv 1) po_none (po_some (pv 3))) (pe_slice sl_str (pv 1) (po_some (pe_op op_add (pv 3) pe_int)) po_none)))) pss_nil)
      (pss_cons (ps_if (pt_cmpR op_eq (pv 4) pe_int (nomark _)) (pss_one (ps_ret (pe_op op_add_str (pe_op op_add_str (pe_slice sl_str (pv 1) po_none (po_some (pv 3))) (pv 5)) (pe_slice sl_str (pv 1) (po_some (pe_op op_add (pv 3) pe_int)) po_none)))) pss_nil)
      (pss_cons (ps_if (pt_cmpR op_eq (pv 4) pe_int (nomark _)) (pss_one (ps_ret (pe_op op_add_str (pe_op op_add_str (pe_slice sl_str (pv 1) po_none (po_some (pv 3))) (pe_slice sl_str (pv 1) (po_some (pv 3)) (po_some (pe_op op_add (pv 3) pe_int)))) (pe_slice sl_str (pv 1) (po_some (pv 3)) po_none)))) pss_nil)
      (pss_cons (ps_if (pt_cmpR op_eq (pv 4) pe_int (nomark _)) (pss_one (ps_ret (pe_op op_add_str (pe_op op_add_str (pe_slice sl_str (pv 1) po_none (po_some (pv 3))) (pe_revS (pe_slice sl_str (pv 1) (po_some (pv 3)) (po_some (pe_op op_add (pv 3) pe_int))))) (pe_slice sl_str (pv 1) (po_some (pe_op op_add (pv 3) pe_int)) po_none)))) pss_nil)
      (pss_one (ps_ret (pe_slice sl_str (pv 1) po_none (po_some (pv 3))))))))))))), ?_⟩
    refine ⟨rfl, fun al hal => ⟨al, _, rfl, rfl, by rw [hal]; decide +kernel, ?_⟩⟩
    have cl : ∀ lo hi, (cutS t lo hi).length ≤ t.length := cutS_length t
    refine ⟨_, rfl, _, rfl, t, rfl, by omega, (t.length : Int), 1, rfl, rfl, h, (t.length : Int) + 1, n, rfl, hA, by omega, by omega, by omega, fun H1 d1 b1 A1 d10 d11 => ?_⟩
    refine ⟨_, rfl, h, 6, n + 1, rfl, A1, by omega, by omega, by omega, fun H2 d2 b2 A2 d20 d21 => ⟨_, _, rfl, ?_⟩⟩
    refine ⟨_, rfl, _, rfl, _, rfl, _, rfl, by rw [app_len, hal]; decide +kernel, h, _, n + 1 + 1, rfl, A2, by omega, by rw [app_len, hal]; decide +kernel, by rw [app_len, hal]; decide +kernel, fun H3 d3 b3 A3 d30 d31 => ?_⟩
    obtain ⟨c, xc, _⟩ := atI_in d30 (show d3 < (((al ++ _ : Str).cps.toList).length : Int) by rw [Array.length_toList]; exact d31)
    have bb : But h H H3 := (b1.trans b2).trans b3
    have fin : ∀ z : Str, z.length ≤ 3 * t.length + 2 → Q (.str z) H3 := fun z hz => q H3 z bb A3 hz
    have l1 : (⟨#[c]⟩ : Str).length = 1 := rfl
    refine ⟨_, d3, c, rfl, rfl, by rw [app_len, hal]; decide +kernel, xc, ?_⟩
    have tz : t.length ≤ sizeLine := by omega
    have z1 : ∀ {x y : Str} {a b : Nat}, x.length ≤ a → y.length ≤ b → a + b ≤ 16777216 → x.length + y.length ≤ sizeLine := fun h1 h2 h3 => by omega
    have c1 : (⟨#[c]⟩ : Str).length ≤ 1 := by omega
    have a1 : ∀ {x y : Str} {a b : Nat}, x.length ≤ a → y.length ≤ b → (x ++ y).length ≤ a + b := fun {x y a b} h1 h2 => by
      rw [app_len]
      omega
    -- a sign put in
    refine ⟨_, rfl, rfl, _, rfl, ite2 (fun _ => ?_) (fun _ => ?_)⟩
    · exact ⟨_, rfl, _, rfl, d1, rfl, t, rfl, tz, _, rfl, _, _, rfl, rfl, z1 (cl _ _) c1 (by omega), _, rfl, _, rfl, d1, rfl, t, rfl, tz, _, _, rfl, rfl, z1 (a1 (cl _ _) c1) (cl _ _) (by omega), fin _ (Nat.le_trans (a1 (a1 (cl _ _) c1) (cl _ _)) (by omega))⟩
    -- left out
    refine ⟨_, rfl, rfl, _, rfl, ite2 (fun _ => ?_) (fun _ => ?_)⟩
    · exact ⟨_, rfl, _, rfl, d1, rfl, t, rfl, tz, _, rfl, _, rfl, d1, 1, rfl, rfl, d1 + 1, rfl, t, rfl, tz, _, _, rfl, rfl, z1 (cl _ _) (cl _ _) (by omega), fin _ (Nat.le_trans (a1 (cl _ _) (cl _ _)) (by omega))⟩
    -- over
    refine ⟨_, rfl, rfl, _, rfl, ite2 (fun _ => ?_) (fun _ => ?_)⟩
    · exact ⟨_, rfl, _, rfl, d1, rfl, t, rfl, tz, _, rfl, _, _, rfl, rfl, z1 (cl _ _) c1 (by omega), _, rfl, _, rfl, d1, 1, rfl, rfl, d1 + 1, rfl, t, rfl, tz, _, _, rfl, rfl, z1 (a1 (cl _ _) c1) (cl _ _) (by omega), fin _ (Nat.le_trans (a1 (a1 (cl _ _) c1) (cl _ _)) (by omega))⟩
    -- twice
    refine ⟨_, rfl, rfl, _, rfl, ite2 (fun _ => ?_) (fun _ => ?_)⟩
    · exact ⟨_, rfl, _, rfl, d1, rfl, t, rfl, tz, _, rfl, _, rfl, d1, rfl, _, rfl, d1, 1, rfl, rfl, d1 + 1, rfl, t, rfl, tz, _, _, rfl, rfl, z1 (cl _ _) (cl _ _) (by omega), _, rfl, _, rfl, d1, rfl, t, rfl, tz, _, _, rfl, rfl, z1 (a1 (cl _ _) (cl _ _)) (cl _ _) (by omega), fin _ (Nat.le_trans (a1 (a1 (cl _ _) (cl _ _)) (cl _ _)) (by omega))⟩
    -- exchanged
    refine ⟨_, rfl, rfl, _, rfl, ite2 (fun _ => ?_) (fun _ => ?_)⟩
    · have rl : ∀ lo hi, (revS (cutS t lo hi)).length ≤ t.length := fun lo hi => by
        rw [revS_len]
        exact cl lo hi
      exact ⟨_, rfl, _, rfl, d1, rfl, t, rfl, tz, _, rfl, _, rfl, d1, rfl, _, rfl, d1, 2, rfl, rfl, d1 + 2, rfl, t, rfl, tz, _, rfl, Nat.le_trans (cl _ _) tz, _, _, rfl, rfl, z1 (cl _ _) (rl _ _) (by omega), _, rfl, _, rfl, d1, 2, rfl, rfl, d1 + 2, rfl, t, rfl, tz, _, _, rfl, rfl, z1 (a1 (cl _ _) (rl _ _)) (cl _ _) (by omega), fin _ (Nat.le_trans (a1 (a1 (cl _ _) (rl _ _)) (cl _ _)) (by omega))⟩
    -- the rest cut off
    · exact ⟨_, rfl, _, rfl, d1, rfl, t, rfl, tz, fin _ (Nat.le_trans (cl _ _) (by omega))⟩
end
end Ev

set_option maxHeartbeats 4000000
namespace Ev
open PySem PySem.Spec PyProof.Rows L2 TL CwR
abbrev sLaw : Stmt := top 14
theorem scLaw : FnScope ["script", "hand", "turn", "body", "size", "by", "written", "some", "k", "one"] ["script"] (defScope sLaw) := ⟨rfl, rfl, rfl, by decide +kernel, rfl, by decide +kernel, by decide +kernel⟩
def spLaw (K : PySem.W.Frag) : Sp := fun vs H Q _ => ∃ (a : Addr) (ns : List Int), vs = [.ref a] ∧ SqL K H a (ns.map V.int) ∧ ns.length ≤ 63 ∧ ∀ H', Q (.bl true) H'
theorem row_pos (b : Str) : 0 < (rowT b).length := by
  obtain ⟨k, _, _, e⟩ := tl_row b
  rw [len_tl, e, List.length_append, List.length_cons]
  omega
theorem bodyOf_nil {t : Str} (h : t.length = 0) : bodyOf t = .non := by
  unfold bodyOf
  refine if_neg fun e => ?_
  have := row_pos (bodyT t)
  rw [e] at this
  omega
theorem row_nil : rowT (Str.ofString "") = Str.ofString "0 0 " := by decide +kernel
theorem scal_body (t : Str) : scal (bodyOf t) (bodyOf t) = true := by
  unfold bodyOf
  by_cases h : rowT (bodyT t) = t
  · rw [if_pos h]; rfl
  · rw [if_neg h]; rfl
theorem cut_to (z : Str) {v : Int} (h : 0 ≤ v) : (cutS z none (some v)).length ≤ v.toNat := by
  obtain ⟨k, rfl⟩ := Int.eq_ofNat_of_zero_le h
  show (((z.cps.toList.drop (HT.sIx z.length 0 none)).take (HT.sIx z.length z.length (some (k : Int)) - HT.sIx z.length 0 none)).toArray).size ≤ _
  rw [HT.sIx_nat, HT.sIx_none, List.size_toArray, List.length_take]
  omega
theorem spl_sum : ∀ (l : List Nat) (acc : List Nat), ((spl [32] 0 acc l).map List.length).sum ≤ acc.length + l.length
  | [], acc => by
    rw [spl_nil]
    simp
  | c :: r, acc => by
    by_cases h : pre [32] (c :: r) = true
    · rw [spl_hit h]
      have ih := spl_sum r []
      show (acc.length :: (spl [32] 0 [] r).map List.length).sum ≤ acc.length + (r.length + 1)
      rw [List.sum_cons]
      have e : ([] : List Nat).length = 0 := rfl
      omega
    · have e : spl [32] 0 acc (c :: r) = spl [32] 0 (acc ++ [c]) r := by
        show (if pre [32] (c :: r) = true then _ else _) = _
        rw [if_neg h]
      rw [e]
      have ih := spl_sum r (acc ++ [c])
      rw [List.length_append] at ih
      show _ ≤ acc.length + (r.length + 1)
      have e : ([c] : List Nat).length = 1 := rfl
      omega
theorem split_sum (x : Str) : ((Txt.split x sp).map Str.length).sum ≤ x.length := by
  have h := split_spl x sp (by rw [tl_sp]; simp) (kind_ok (by decide +kernel))
  have h2 := spl_sum (tl x) []
  rw [tl_sp] at h
  rw [← h, List.map_map] at h2
  have e : (List.length ∘ tl) = Str.length := by
    funext y
    exact (len_tl y).symm
  rw [e] at h2
  rw [len_tl x]
  have e0 : ([] : List Nat).length = 0 := rfl
  omega
theorem joinL_len (S : List Nat) : ∀ ps : List (List Nat), (joinL S ps).length ≤ (ps.map List.length).sum + ps.length * S.length
  | [] => Nat.zero_le _
  | [p] => by
    show p.length ≤ p.length + 0 + 1 * S.length
    omega
  | p :: q :: r => by
    have ih := joinL_len S (q :: r)
    show (p ++ (S ++ joinL S (q :: r))).length ≤ p.length + ((q :: r).map List.length).sum + ((q :: r).length + 1) * S.length
    rw [List.length_append, List.length_append, Nat.add_mul]
    omega
theorem join_len (y : Str) (ps : List Str) : (Txt.join y ps).length ≤ (ps.map Str.length).sum + ps.length * y.length := by
  rw [join_eq, len_tl, tl_join]
  have h := joinL_len (tl y) (ps.map tl)
  rw [List.map_map, List.length_map] at h
  have e : (List.length ∘ tl) = Str.length := by
    funext y
    exact (len_tl y).symm
  rw [e, ← len_tl y] at h
  exact h
theorem sum_drop (l : List Nat) : (l.drop 1).sum ≤ l.sum := by
  cases l with
  | nil => exact Nat.le_refl _
  | cons x r =>
    show r.sum ≤ (x :: r).sum
    rw [List.sum_cons]
    omega
/-- the texts that the law looks at -/
def ListAt (H : Hp) (p : Addr) : Prop := ∃ ys : List Str, H p = some (.lst (ys.map V.str)) ∧ ys.length ≤ 100 ∧ ∀ y ∈ ys, y.length ≤ 50000
end Ev

set_option maxHeartbeats 8000000
namespace Ev
open PySem PySem.Spec PyProof.Rows L2 TL CwR
structure Glob (K : PySem.W.Frag) (mg : Str → Option Value) : Prop where
  len : mg "len" = none
  enum : mg "enumerate" = none
  ord : mg "ord" = none
  list : mg "list" = none
  abs : mg "abs" = none
  range : mg "range" = none
  str : mg "str" = none
  mod : ∃ t, mg "MODULUS" = some (.int 1000003 t)
section
variable {P : Program} {w : World} {K : PySem.W.Frag} {mg : Str → Option Value} {base : Heap}
theorem three_nat {x : V} (h : x ∈ ([.int 9, .int 40, .int 200] : List V)) : ∃ m : Nat, x = .int (m : Int) ∧ 1 ≤ m ∧ m ≤ 200 := by
  rcases List.mem_cons.mp h with e | h
  · exact ⟨9, e, by omega, by omega⟩
  rcases List.mem_cons.mp h with e | h
  · exact ⟨40, e, by omega, by omega⟩
  rcases List.mem_cons.mp h with e | h
  · exact ⟨200, e, by omega, by omega⟩
  · cases h
theorem two_size {d : Int} {x : V} (h : x ∈ ([.int 0, .int (1100 + d)] : List V)) (d0 : 0 ≤ d) (d1 : d < 880) : ∃ m : Int, x = .int m ∧ 0 ≤ m ∧ m ≤ 1979 := by
  rcases List.mem_cons.mp h with e | h
  · exact ⟨0, e, by omega, by omega⟩
  rcases List.mem_cons.mp h with e | h
  · exact ⟨_, e, by omega, by omega⟩
  · cases h
theorem four_by {d : Int} {x : V} (h : x ∈ ([.int 1, .int 2, .int (1 + d), .int ((10 : Int) ^ (9 : Int).toNat)] : List V)) (d0 : 0 ≤ d) : ∃ m : Int, x = .int m ∧ 0 < m := by
  rcases List.mem_cons.mp h with e | h
  · exact ⟨1, e, by omega⟩
  rcases List.mem_cons.mp h with e | h
  · exact ⟨2, e, by omega⟩
  rcases List.mem_cons.mp h with e | h
  · exact ⟨_, e, by omega⟩
  rcases List.mem_cons.mp h with e | h
  · exact ⟨_, e, by decide⟩
  · cases h
theorem cut1 (xs : List V) : cutV xs (some 1) none = xs.drop 1 := by
  unfold cutV
  have e1 : HT.sIx xs.length 0 (some 1) = min 1 xs.length := HT.sIx_nat xs.length 0 1
  rw [e1, HT.sIx_none]
  cases xs with
  | nil => rfl
  | cons x r =>
    have e2 : min 1 (x :: r).length = 1 := by
      rw [List.length_cons]
      omega
    rw [e2]
    show List.take ((x :: r).length - 1) r = r
    exact List.take_of_length_le (by rw [List.length_cons]; omega)
def LA (H : Hp) (p : Addr) (n : Nat) : Prop := ∃ ys : List Str, H p = some (.lst (ys.map V.str)) ∧ ys ≠ [] ∧ ys.length ≤ n ∧ ∀ y ∈ ys, y.length ≤ 50000
theorem LA.add {H : Hp} {p : Addr} {n : Nat} {ys : List Str} {y : Str} (l : ys.length ≤ n) (b : ∀ y ∈ ys, y.length ≤ 50000) (hy : y.length ≤ 50000) : LA (upd H p (.lst (ys.map V.str ++ [V.str y]))) p (n + 1) := by
  refine ⟨ys ++ [y], ?_, by simp, ?_, fun u hu => ?_⟩
  · rw [upd_same, List.map_append]
    rfl
  · rw [List.length_append]
    show ys.length + 1 ≤ n + 1
    omega
  · rcases List.mem_append.mp hu with q | q
    · exact b u q
    · rw [List.mem_singleton.mp q]
      exact hy
theorem HandAt.put {H : Hp} {h p : Addr} {n : Nat} {ys : List Str} {o : HO} (A : HandAt H h n) (nph : p ≠ h) (hp : H p = some (.lst (ys.map V.str))) (ne : ys ≠ []) : HandAt (upd H p o) h n := by
  obtain ⟨l, nsx, t, c, e1, e2, r⟩ := A
  have nlp : l ≠ p := fun e => by
    rw [e, hp] at e2
    have e3 := HO.lst.inj (Option.some.inj e2)
    cases ys with
    | nil => exact ne rfl
    | cons y0 yr =>
      cases nsx with
      | nil => cases e3
      | cons n0 nr => cases e3
  exact ⟨l, nsx, t, c, by rw [upd_ne nph.symm]; exact e1, by rw [upd_ne nlp]; exact e2, r⟩
theorem ne_hand {H : Hp} {h p : Addr} {n : Nat} (A : HandAt H h n) (np : H p = none) : p ≠ h := fun e => by
  obtain ⟨xs, ex⟩ := A.is
  rw [e, ex] at np
  cases np
theorem ok_law {f fD fP fA fN fS fF fB fL fR fI fT : Addr} {fd fdD fdP fdA fdN fdS fdF fdB fdL fdR fdI fdT : FuncData} (T : Glob K mg)
    (F : FnP K "law" sLaw f fd) (FD : FnP K "_law_dealt" sDealt fD fdD) (gD : mg "_law_dealt" = some (.ref fD)) (FP : FnP K "_law_pick" sPick fP fdP) (gP : mg "_law_pick" = some (.ref fP))
    (FA : FnP K "_law_alphabet" sAlpha fA fdA) (gA : mg "_law_alphabet" = some (.ref fA)) (FN : FnP K "_law_any_body" sAny fN fdN) (gN : mg "_law_any_body" = some (.ref fN))
    (FS : FnS K "sum_of" sSum fS fdS) (gS : mg "sum_of" = some (.ref fS)) (FF : FnP K "framed" sFramed fF fdF) (gF : mg "framed" = some (.ref fF)) (FB : FnP K "body_of" sBody fB fdB) (gB : mg "body_of" = some (.ref fB))
    (FL : FnP K "_law_sum" sLSum fL fdL) (gL : mg "_law_sum" = some (.ref fL)) (FR : FnP K "_law_row" sRow fR fdR) (gR : mg "_law_row" = some (.ref fR)) (FI : FnP K "_law_body_in" sIn fI fdI) (gI : mg "_law_body_in" = some (.ref fI))
    (FT : FnP K "_law_spoilt" sSpoilt fT fdT) (gT : mg "_law_spoilt" = some (.ref fT)) : FnOk P w K mg base CX0 5 f fd ["script"] (spLaw K) := by
  obtain ⟨tm, gM⟩ := T.mod
  have bS : ∃ ds, Vals [.int 1000003] ds ∧ Binds K fdS ["text", "modulus"] ds := FS.binds0 1 (by simp) rfl fun D doc pm an cdv ct us ks hl hk => match us, hl, ks, hk with | [_], _, [_], _ => ⟨_, _, _, _, _, _, rfl, rfl, rfl⟩
  obtain ⟨ds, vd, bd⟩ := bS
  obtain ⟨mv, kb⟩ := FS.kbinds0 1 ["modulus"] [] (ps := ["text", "modulus"]) (fun us _ ws => us ++ ws) (by simp) (by simp) (fun r1 _ r3 => r1.append r3) fun D doc pm an cdv ct us mv ws hl hm hw => match us, hl, mv, hm, ws, hw with | [_], _, [], _, [_], _ => rfl
  have GD : FnOk P w K mg base CX0 1 fD fdD ["script"] (spDealt K) := ok_dealt FD T.list
  have GP : FnOk P w K mg base CX0 1 fP fdP ["hand", "many"] spPick := ok_pick FP T.len T.abs
  have GA : FnOk P w K mg base CX0 1 fA fdA [] spAlpha := ok_alpha FA
  have GN : FnOk P w K mg base CX0 2 fN fdN ["hand", "most"] spAny := ok_any FN FA gA GA FP gP GP T.range
  have GT : FnOk P w K mg base CX0 2 fT fdT ["hand", "written"] spSpoilt := ok_spoilt FT FA gA GA FP gP GP T.len
  have GS : FnOk P w K mg base CX0 1 fS fdS ["text", "modulus"] spSum := ok_sum FS T.enum T.ord
  have GF : FnOk P w K mg base CX0 2 fF fdF ["body"] spFramed := ok_framed FF FS gS ⟨ds, vd, bd⟩ T.len T.enum T.ord
  have GB : FnOk P w K mg base CX0 3 fB fdB ["row"] spBody := ok_body FB FF gF GF
  have GL : FnOk P w K mg base CX0 1 fL fdL ["body", "by"] spLSum := ok_lsum FL T.range T.len T.ord
  have GR : FnOk P w K mg base CX0 2 fR fdR ["body"] spRow := ok_row FR FL gL GL T.str T.len
  have GI : FnOk P w K mg base CX0 3 fI fdI ["written"] spIn := ok_in FI FR gR GR
  have b1 : ∀ {K : PySem.W.Frag} {x : Str} {st : Stmt} {f : Addr} {fd : FuncData}, True := trivial
  have bD : Binds K fdD ["script"] [] := FD.bindsN fun _ _ _ _ _ _ us hl => match us, hl with | [_], _ => rfl
  have bP : Binds K fdP ["hand", "many"] [] := FP.bindsN fun _ _ _ _ _ _ us hl => match us, hl with | [_, _], _ => rfl
  have bN : Binds K fdN ["hand", "most"] [] := FN.bindsN fun _ _ _ _ _ _ us hl => match us, hl with | [_, _], _ => rfl
  have bT : Binds K fdT ["hand", "written"] [] := FT.bindsN fun _ _ _ _ _ _ us hl => match us, hl with | [_, _], _ => rfl
  have bF : Binds K fdF ["body"] [] := FF.bindsN fun _ _ _ _ _ _ us hl => match us, hl with | [_], _ => rfl
  have bB : Binds K fdB ["row"] [] := FB.bindsN fun _ _ _ _ _ _ us hl => match us, hl with | [_], _ => rfl
  have bL : Binds K fdL ["body", "by"] [] := FL.bindsN fun _ _ _ _ _ _ us hl => match us, hl with | [_, _], _ => rfl
  have bR : Binds K fdR ["body"] [] := FR.bindsN fun _ _ _ _ _ _ us hl => match us, hl with | [_], _ => rfl
  have bI : Binds K fdI ["written"] [] := FI.bindsN fun _ _ _ _ _ _ us hl => match us, hl with | [_], _ => rfl
  refine F.ok scLaw (fun vs H Q E h => ?_) (fun cdv A outer s H vs Q E hr h => ?_)
  · obtain ⟨a, ns, rfl, _⟩ := h
    rfl
  · obtain ⟨a, ns, rfl, hS, hlen, q⟩ := h
    have hr1 : Room 1 _ := hr.mono (by decide)
    have hr2 : Room 2 _ := hr.mono (by decide)
    have hr3 : Room 3 _ := hr.mono (by decide)
    have hs := szl
    have hsp := sp_len
    refine ⟨_, PSs.nox (pss_cons (ps_set (i := 1) scLaw.nd rfl (.inl rfl) (pe_call GD hr1 (by rfl) gD FD.kp bD .nil pass0 (pa_cons (pv 0) pa_nil)))
      (pss_cons (ps_if (PW.pt (pw_or (pt_cmpR op_ne (pe_glob (v := .int 1000003) (by rfl) gM ⟨_, rfl⟩) (pe_int) (nomark _)) (pw_or (pt_cmpR op_notN (pe_call GB hr3 (by rfl) gB FB.kp bB .nil pass0 (pa_cons (pe_str) pa_nil)) pe_non (nomark _)) (pw_or (pt_cmpR op_ne (pe_call GF hr2 (by rfl) gF FF.kp bF .nil pass0 (pa_cons (pe_str) pa_nil)) (pe_str) (nomark _)) (pw_or1 (pt_cmpR op_ne (pe_call GB hr3 (by rfl) gB FB.kp bB .nil pass0 (pa_cons (pe_str) pa_nil)) (pe_str) (nomark _))))))) (pss_one (ps_ret pe_bl)) pss_nil)
      (pss_cons (ps_for PassesOwn.never rfl (pi_range1 (by rfl) T.range (pa_cons pe_int pa_nil)) (pg_name (i := 2) scLaw.nd rfl (.inl rfl)) (pss_cons (ps_set (i := 3) scLaw.nd rfl (.inl rfl) (pe_call GN hr2 (by rfl) gN FN.kp bN .nil pass0 (pa_cons (pv 1) (pa_cons (pe_ix ix_list (pe_lst (pa_cons (pe_int) (pa_cons (pe_int) (pa_cons (pe_int) pa_nil)))) (pe_call GP hr1 (by rfl) gP FP.kp bP .nil pass0 (pa_cons (pv 1) (pa_cons (pe_int) pa_nil))) (fun _ _ => rfl)) pa_nil))))
      (C8.pss_cut (ps_if (pt_cmpR op_eq (pv 2) pe_int (nomark _)) (pss_cons (ps_set (i := 4) scLaw.nd rfl (.inl rfl) (pe_ix ix_list (pe_lst (pa_cons (pe_int) (pa_cons (pe_op op_add (pe_int) (pe_call GP hr1 (by rfl) gP FP.kp bP .nil pass0 (pa_cons (pv 1) (pa_cons (pe_int) pa_nil)))) pa_nil))) (pe_call GP hr1 (by rfl) gP FP.kp bP .nil pass0 (pa_cons (pv 1) (pa_cons (pe_int) pa_nil))) (fun _ _ => rfl)))
      (pss_one (ps_set (i := 3) scLaw.nd rfl (.inl rfl) (pe_slice sl_str (pe_op op_mulS (pe_op op_add_str (pv 3) (pe_str)) (pe_op op_add (pe_int) (pe_op op_fdivN (pv 4) (pe_op op_add (pe_callB call_len_str (by rfl) T.len PySem.boot_len (pa_cons (pv 3) pa_nil)) (pe_int))))) po_none (po_some (pv 4)))))) pss_nil)
      (pss_cons (ps_set (i := 5) scLaw.nd rfl (.inl rfl) (pe_ix ix_list (pe_lst (pa_cons (pe_int) (pa_cons (pe_int) (pa_cons (pe_op op_add (pe_int) (pe_call GP hr1 (by rfl) gP FP.kp bP .nil pass0 (pa_cons (pv 1) (pa_cons (pe_int) pa_nil)))) (pa_cons (pe_op op_pow (pe_int) (pe_int)) pa_nil))))) (pe_call GP hr1 (by rfl) gP FP.kp bP .nil pass0 (pa_cons (pv 1) (pa_cons (pe_int) pa_nil))) (fun _ _ => rfl)))
      (pss_cons (ps_if (PW.pt (pw_or (pt_cmpR op_ne (pe_call GS hr1 (by rfl) gS FS.kp bd vd pass0 (pa_cons (pv 3) pa_nil)) (pe_call GL hr1 (by rfl) gL FL.kp bL .nil pass0 (pa_cons (pv 3) (pa_cons (pe_int) pa_nil))) (nomark _)) (pw_or1 (pt_cmpR op_ne (pe_callN GS hr1 (by rfl) gS FS.kp kb pass0 (pa_cons (pv 3) pa_nil) (pk_cons (pv 5) pk_nil)) (pe_call GL hr1 (by rfl) gL FL.kp bL .nil pass0 (pa_cons (pv 3) (pa_cons (pv 5) pa_nil))) (nomark _))))) (pss_one (ps_ret pe_bl)) pss_nil)
      (pss_cons (ps_set (i := 6) scLaw.nd rfl (.inl rfl) (pe_call GF hr2 (by rfl) gF FF.kp bF .nil pass0 (pa_cons (pv 3) pa_nil)))
      (pss_cons (ps_if (PW.pt (pw_or (pt_cmpR op_ne (pv 6) (pe_call GR hr2 (by rfl) gR FR.kp bR .nil pass0 (pa_cons (pv 3) pa_nil)) (nomark _)) (pw_or1 (pt_cmpR op_ne (pe_call GB hr3 (by rfl) gB FB.kp bB .nil pass0 (pa_cons (pv 6) pa_nil)) (pv 3) (nomark _))))) (pss_one (ps_ret pe_bl)) pss_nil)
      (C8.pss_cut  (ps_set (i := 7) scLaw.nd rfl (.inl rfl) (pe_lst (pa_cons (pv 3) (pa_litAdd (pv 6) (pat_cons (PET.of (pe_op op_add_str (pv 6) (pv 6))) (pat_cons (pet_replC (pv 6) (by decide +kernel)) (pat_cons (PET.of (pe_join pe_str (pe_slice sl_list (pe_split (pv 6) pe_str) (po_some pe_int) po_none))) pat_nil)))))))
      (C8.pss_cut  (ps_expr (pe_bm PySem.F.plainAttrs_list PySem.F.slot_list_append PySem.F.type_list_append mt_append (pv 7) (pa_cons (pe_op op_add_str (pe_op op_add_str (pe_callTy call_str_int (by rfl) T.str (by decide +kernel) (pa_cons (pe_callB call_len_str (by rfl) T.len PySem.boot_len (pa_cons (pv 3) pa_nil)) pa_nil)) (pe_str)) (pe_slice sl_str (pv 6) (po_some (pe_op op_add (pe_callB call_len_str (by rfl) T.len PySem.boot_len (pa_cons (pe_callTy call_str_int (by rfl) T.str (by decide +kernel) (pa_cons (pe_callB call_len_str (by rfl) T.len PySem.boot_len (pa_cons (pv 3) pa_nil)) pa_nil)) pa_nil)) (pe_int))) po_none)) pa_nil)))
      (C8.pss_cut  (ps_expr (pe_bm PySem.F.plainAttrs_list PySem.F.slot_list_append PySem.F.type_list_append mt_append (pv 7) (pa_cons (pe_op op_add_str (pe_op op_add_str (pe_op op_add_str (pe_op op_add_str (pe_callTy call_str_int (by rfl) T.str (by decide +kernel) (pa_cons (pe_op op_add (pe_callB call_len_str (by rfl) T.len PySem.boot_len (pa_cons (pv 3) pa_nil)) (pe_int)) pa_nil)) (pe_str)) (pe_callTy call_str_int (by rfl) T.str (by decide +kernel) (pa_cons (pe_call GL hr1 (by rfl) gL FL.kp bL .nil pass0 (pa_cons (pv 3) (pa_cons (pe_int) pa_nil))) pa_nil))) (pe_str)) (pv 3)) pa_nil)))
      (pss_cons (ps_for PassesOwn.never rfl (pi_range1 (by rfl) T.range (pa_cons pe_int pa_nil)) (pg_name (i := 8) scLaw.nd rfl (.inl rfl)) (pss_cons (ps_expr (pe_bm PySem.F.plainAttrs_list PySem.F.slot_list_append PySem.F.type_list_append mt_append (pv 7) (pa_cons (pe_call GT hr2 (by rfl) gT FT.kp bT .nil pass0 (pa_cons (pv 1) (pa_cons (pv 6) pa_nil))) pa_nil)))
      (pss_one (ps_expr (pe_bm PySem.F.plainAttrs_list PySem.F.slot_list_append PySem.F.type_list_append mt_append (pv 7) (pa_cons (pe_call GT hr2 (by rfl) gT FT.kp bT .nil pass0 (pa_cons (pv 1) (pa_cons (pe_ix ix_list (pv 7) (pe_un un_neg pe_int) (fun _ _ => rfl)) pa_nil))) pa_nil))))))
      (pss_one (ps_for PassesOwn.never rfl (pi_list (pv 7)) (pg_name (i := 9) scLaw.nd rfl (.inl rfl)) (pss_one (ps_if (pt_cmpR op_ne (pe_call GB hr3 (by rfl) gB FB.kp bB .nil pass0 (pa_cons (pv 9) pa_nil)) (pe_call GI hr3 (by rfl) gI FI.kp bI .nil pass0 (pa_cons (pv 9) pa_nil)) (nomark _)) (pss_one (ps_ret pe_bl)) pss_nil)))))))))))))))
      (pss_one (ps_ret pe_bl))))), ?_⟩
    refine ⟨_, rfl, a, ns, rfl, hS, hlen, fun H1 h s1 hnew A1 => ?_⟩
    refine ⟨rfl, _, rfl, iteNS rfl ?_⟩
    refine ⟨_, rfl, by decide +kernel, fun H2 s2 => ⟨rfl, _, rfl, iteNS (bodyOf_nil (by decide +kernel)) ?_⟩⟩
    refine ⟨_, rfl, by decide +kernel, fun H3 s3 => ⟨rfl, _, rfl, iteNS (congrArg V.str row_nil) ?_⟩⟩
    have e0 : bodyOf (Str.ofString "0 0 ") = .str (Str.ofString "") := by
      rw [← row_nil]
      exact bodyOf_row _
    refine ⟨_, rfl, by decide +kernel, fun H4 s4 => ⟨by rw [e0]; rfl, _, rfl, iteNS e0 ?_⟩⟩
    have A4 : HandAt H4 h 0 := ((A1.same s2).same s3).same s4
    refine ⟨9, rfl, by decide, by decide, for_range (lo := 0) (n := 9) (fun i σ H' => (∃ y2 y3 y4 y5 y6 y7 y8 y9, σ = [some (.ref a), some (.ref h), y2, y3, y4, y5, y6, y7, y8, y9]) ∧ HandAt H' h (1000 * i)) ⟨⟨_, _, _, _, _, _, _, _, rfl⟩, A4⟩ ?_ ?_⟩
    · rintro i σ H5 hi ⟨⟨y2, y3, y4, y5, y6, y7, y8, y9, rfl⟩, A5⟩
      -- a body
      refine ⟨_, rfl, by show 3 ≤ sizeLine; omega, fun p np => ?_⟩
      have nph := ne_hand A5 np
      refine ⟨_, rfl, h, 3, 1000 * i, rfl, A5.same (same_upd np), by omega, by omega, by omega, fun H6 d6 b6 A6 d60 d61 => ?_⟩
      obtain ⟨v, ev, vm⟩ := atI_in (xs := ([.int 9, .int 40, .int 200] : List V)) d60 (by show d6 < 3; exact d61)
      obtain ⟨m, rfl, m1, m2⟩ := three_nat vm
      refine ⟨p, _, d6, _, rfl, rfl, SqL.of (but_at b6 upd_same nph), ev, h, m, 1000 * i + 1, rfl, A6, m1, by omega, by omega, fun H7 z b7 A7 hz => ?_⟩
      have A7' : HandAt H7 h (1000 * i + 604) := A7.mono (by omega)
      refine ⟨fun σ' H' => ∃ z y4, σ' = [some (.ref a), some (.ref h), some (.int (0 + (i : Int))), some (.str z), y4, y5, y6, y7, y8, y9] ∧ z.length ≤ 2000 ∧ HandAt H' h (1000 * i + 606), ?_, ?_⟩
      · refine ⟨_, rfl, rfl, _, rfl, ite2 (fun _ => ?_) (fun _ => ⟨z, y4, rfl, by omega, A7'.mono (by omega)⟩)⟩
        refine ⟨_, rfl, h, 880, _, rfl, A7', by omega, by omega, by omega, fun H8 d8 b8 A8 d80 d81 => ⟨1100, d8, rfl, rfl, by show 2 ≤ sizeLine; omega, fun p8 np8 => ?_⟩⟩
        have np8h := ne_hand A8 np8
        refine ⟨_, rfl, h, 2, _, rfl, A8.same (same_upd np8), by omega, by omega, by omega, fun H9 d9 b9 A9 d90 d91 => ?_⟩
        obtain ⟨v9, ev9, vm9⟩ := atI_in (xs := ([.int 0, .int (1100 + d8)] : List V)) d90 (by show d9 < 2; exact d91)
        obtain ⟨sz, rfl, sz0, sz1⟩ := two_size vm9 d80 d81
        refine ⟨p8, _, d9, _, rfl, rfl, SqL.of (but_at b9 upd_same np8h), ev9, ?_⟩
        have l4 : (Str.ofString "x1 9").length = 4 := by decide +kernel
        have la : (z ++ Str.ofString "x1 9").length ≤ 204 := by rw [app_len]; omega
        have f0 : 0 ≤ sz.fdiv ((z.length : Int) + 4) := by
          rw [Int.fdiv_eq_ediv_of_nonneg sz (by omega)]
          exact Int.ediv_nonneg sz0 (by omega)
        have f1 : sz.fdiv ((z.length : Int) + 4) ≤ sz := by
          rw [Int.fdiv_eq_ediv_of_nonneg sz (by omega)]
          exact Int.ediv_le_self _ sz0
        have ml : (Txt.mul (z ++ Str.ofString "x1 9") (1 + sz.fdiv ((z.length : Int) + 4))).length ≤ sizeLine := by
          refine Nat.le_trans (mul_len (by omega)) ?_
          refine Nat.le_trans (Nat.mul_le_mul la (show (1 + sz.fdiv ((z.length : Int) + 4)).toNat ≤ 1980 by omega)) ?_
          omega
        refine ⟨_, rfl, _, _, rfl, rfl, ?_, _, rfl, _, rfl, z, rfl, by omega, _, 4, rfl, rfl, sz, _, rfl, rfl, ⟨?_, ?_⟩, 1, _, rfl, rfl, _, _, rfl, rfl, ?_, ?_, ?_, _, rfl, sz, rfl, _, rfl, ml, ?_⟩
        · omega
        · show (z.length : Int) + 4 ≠ 0
          omega
        · show ((z.length : Int) + 4).natAbs < 1073741824
          omega
        · show 0 ≤ 1 + sz.fdiv ((z.length : Int) + 4)
          omega
        · show 1 + sz.fdiv ((z.length : Int) + 4) ≤ 16777216
          omega
        · refine Nat.le_trans (Nat.mul_le_mul la (show (1 + sz.fdiv ((z.length : Int) + 4)).toNat ≤ 1980 by omega)) ?_
          omega
        · exact ⟨_, some (.int sz), rfl, Nat.le_trans (cut_to _ sz0) (by omega), A9.mono (by omega)⟩
      · rintro σ' H8 ⟨z, y4, rfl, hz, A8⟩
        -- by
        refine ⟨_, rfl, h, 999, _, rfl, A8, by omega, by omega, by omega, fun H9 d9 b9 A9 d90 d91 => ⟨1, d9, rfl, rfl, 10, 9, rfl, rfl, ⟨by decide, by decide, by decide⟩, by show 4 ≤ sizeLine; omega, fun p9 np9 => ?_⟩⟩
        have np9h := ne_hand A9 np9
        refine ⟨_, rfl, h, 4, _, rfl, A9.same (same_upd np9), by omega, by omega, by omega, fun H10 d10 b10 A10 d100 d101 => ?_⟩
        obtain ⟨v10, ev10, vm10⟩ := atI_in (xs := ([.int 1, .int 2, .int (1 + d9), .int ((10 : Int) ^ (9 : Int).toNat)] : List V)) d100 (by show d10 < 4; exact d101)
        obtain ⟨m, rfl, m0⟩ := four_by vm10 d90
        refine ⟨p9, _, d10, _, rfl, rfl, SqL.of (but_at b10 upd_same np9h), ev10, ?_⟩
        -- both sums
        refine ⟨_, rfl, z, 1000003, rfl, by omega, by decide, fun H11 s11 => ⟨_, rfl, z, 1000003, rfl, by omega, by decide, rfl, _, rfl, iteNS rfl ?_⟩⟩
        refine ⟨_, rfl, _, rfl, rfl, rfl, z, m, rfl, by omega, m0, fun H12 s12 => ⟨_, rfl, _, rfl, z, m, rfl, by omega, m0, rfl, _, rfl, iteNS rfl ?_⟩⟩
        -- the row
        refine ⟨_, rfl, z, rfl, by omega, fun H13 s13 => ?_⟩
        refine ⟨_, rfl, _, rfl, z, rfl, by omega, rfl, _, rfl, iteNS rfl ?_⟩
        have lw : (rowT z).length ≤ 2016 := Nat.le_trans (row_len (by omega)) (by omega)
        refine ⟨_, rfl, rowT z, rfl, by omega, fun H14 s14 => ⟨_, rfl, by rw [bodyOf_row]; rfl, _, rfl, iteNS (bodyOf_row z) ?_⟩⟩
        have A14 : HandAt H14 h (1000 * i + 608) := (((A10.same s11).same s12).same s13).same s14
        -- some texts
        have l0 : (Str.ofString "0").length = 1 := by decide +kernel
        have l2 : (Str.ofString "  ").length = 2 := by decide +kernel
        have ss := split_sum (rowT z)
        have sc := split_le (rowT z) sp
        have sd : (((Txt.split (rowT z) sp).drop 1).map Str.length).sum ≤ 2016 := by
          rw [List.map_drop]
          exact Nat.le_trans (sum_drop _) (Nat.le_trans ss lw)
        have cd : ((Txt.split (rowT z) sp).drop 1).length ≤ 2018 := by
          rw [List.length_drop]
          omega
        refine ⟨fun σ' H' => ∃ p, σ' = [some (.ref a), some (.ref h), some (.int (0 + (i : Int))), some (.str z), y4, some (.int m), some (.str (rowT z)), some (.ref p), y8, y9] ∧ p ≠ h ∧ LA H' p 5 ∧ HandAt H' h (1000 * i + 608), ?_, ?_⟩
        · refine ⟨_, rfl, _, rfl, _, _, rfl, rfl, ?_, _, rfl, _, rfl, _, _, rfl, rfl, ?_, _, rfl, rowT z, rfl, ?_, ⟨_, rfl⟩, _, rfl, ⟨_, rfl⟩, rowT z, sp, rfl, rfl, by decide +kernel, by omega, fun p15 np15 => ⟨1, rfl, p15, _, rfl, SqL.of upd_same, fun p16 np16 => ⟨sp, p16, (Txt.split (rowT z) sp).drop 1, rfl, rfl, .inl (SqL.of ?_), ?_, by show 5 ≤ sizeLine; omega, fun p17 np17 => ?_⟩⟩⟩
          · omega
          · omega
          · show (rowT z).length + ((rowT z).length + 1) * (Str.ofString "  ").length ≤ 16777216
            rw [l2]
            omega
          · rw [upd_same, cut1, List.map_drop]
          · show (((Txt.split (rowT z) sp).drop 1).map Str.length).sum + ((Txt.split (rowT z) sp).drop 1).length * sp.length ≤ 16777216
            rw [hsp]
            omega
          · have A16 := (A14.same (same_upd np15)).same (same_upd (o := HO.lst (cutV ((Txt.split (rowT z) sp).map V.str) (some 1) none)) np16)
            refine ⟨p17, rfl, ne_hand A16 np17, ⟨[z, Str.ofString "0" ++ rowT z, rowT z ++ rowT z, Txt.replace (rowT z) (Str.ofString " ") (Str.ofString "  "), Txt.join sp ((Txt.split (rowT z) sp).drop 1)], upd_same, by simp, Nat.le_refl _, fun y hy => ?_⟩, A16.same (same_upd np17)⟩
            rcases List.mem_cons.mp hy with rfl | hy
            · omega
            rcases List.mem_cons.mp hy with rfl | hy
            · rw [app_len]; omega
            rcases List.mem_cons.mp hy with rfl | hy
            · rw [app_len]; omega
            rcases List.mem_cons.mp hy with rfl | hy
            · refine Nat.le_trans (TK.replace_len _ _ _) ?_
              rw [l2]
              omega
            rcases List.mem_cons.mp hy with rfl | hy
            · refine Nat.le_trans (join_len _ _) ?_
              rw [hsp]
              omega
            · cases hy
        rintro σ' H15 ⟨p, rfl, nph, ⟨ys, hp, ney, ly, by5⟩, A15⟩
        have nl := num_len (n := (z.length : Int)) (by omega) (by omega)
        have nl1 := num_len (n := (z.length : Int) + 1) (by omega) (by omega)
        obtain ⟨r0, r1⟩ := sum_range z (m := 1000003) (by decide)
        have nk := num_len r0 (by omega)
        have cl : ∀ lo hi, (cutS (rowT z) lo hi).length ≤ 2016 := fun lo hi => Nat.le_trans (cutS_length _ _ _) lw
        have l02 : (Str.ofString " 0").length = 2 := by decide +kernel
        refine ⟨fun σ' H' => σ' = [some (.ref a), some (.ref h), some (.int (0 + (i : Int))), some (.str z), y4, some (.int m), some (.str (rowT z)), some (.ref p), y8, y9] ∧ LA H' p 6 ∧ HandAt H' h (1000 * i + 608), ?_, ?_⟩
        · refine ⟨_, rfl, .inl ⟨rfl, _, SqL.of hp⟩, _, rfl, z, rfl, by omega, _, rfl, small_log (by omega), _, _, rfl, rfl, ?_, _, rfl, _, rfl, z, rfl, by omega, _, rfl, small_log (by omega), _, rfl, ?_, _, 1, rfl, rfl, _, rfl, rowT z, rfl, by omega, _, _, rfl, rfl, ?_, p, _, _, rfl, rfl, hp, ?_, rfl, LA.add ly by5 ?_, ?_⟩
          · show (num (z.length : Int)).length + (Str.ofString " 0").length ≤ sizeLine
            omega
          · show (num (z.length : Int)).length ≤ sizeLine
            omega
          · rw [app_len]
            show (num (z.length : Int)).length + (Str.ofString " 0").length + _ ≤ sizeLine
            refine Nat.le_trans (Nat.add_le_add_left (cl _ _) _) ?_
            omega
          · rw [List.length_map]
            omega
          · rw [app_len, app_len]
            show (num (z.length : Int)).length + (Str.ofString " 0").length + _ ≤ 50000
            refine Nat.le_trans (Nat.add_le_add_left (cl _ _) _) ?_
            omega
          · exact A15.put nph hp ney
        rintro σ' H16 ⟨rfl, ⟨ys, hp, ney, ly, by6⟩, A16⟩
        refine ⟨fun σ' H' => σ' = [some (.ref a), some (.ref h), some (.int (0 + (i : Int))), some (.str z), y4, some (.int m), some (.str (rowT z)), some (.ref p), y8, y9] ∧ LA H' p 7 ∧ HandAt H' h (1000 * i + 608), ?_, ?_⟩
        · refine ⟨_, rfl, .inl ⟨rfl, _, SqL.of hp⟩, _, rfl, z, rfl, by omega, _, 1, rfl, rfl, _, rfl, small_log (by omega), _, _, rfl, rfl, ?_, _, rfl, z, 1000003, rfl, by omega, by decide, _, rfl, small_log (by omega), _, _, rfl, rfl, ?_, _, _, rfl, rfl, ?_, _, rfl, _, z, rfl, rfl, ?_, p, _, _, rfl, rfl, hp, ?_, rfl, LA.add ly by6 ?_, A16.put nph hp ney⟩
          · show (num ((z.length : Int) + 1)).length + sp.length ≤ sizeLine; omega
          · rw [app_len]; show (num ((z.length : Int) + 1)).length + sp.length + (num (sumBy z 1000003)).length ≤ sizeLine; omega
          · rw [app_len, app_len]; show (num ((z.length : Int) + 1)).length + sp.length + (num (sumBy z 1000003)).length + sp.length ≤ sizeLine; omega
          · rw [app_len, app_len, app_len]; show (num ((z.length : Int) + 1)).length + sp.length + (num (sumBy z 1000003)).length + sp.length + z.length ≤ sizeLine; omega
          · rw [List.length_map]
            omega
          · rw [app_len, app_len, app_len, app_len]; show (num ((z.length : Int) + 1)).length + sp.length + (num (sumBy z 1000003)).length + sp.length + z.length ≤ 50000; omega
        rintro σ' H17 ⟨rfl, L17, A17⟩
        -- spoilt ones
        refine ⟨8, rfl, by decide, by decide, for_range (lo := 0) (n := 8) (fun j σ H' => (∃ y8, σ = [some (.ref a), some (.ref h), some (.int (0 + (i : Int))), some (.str z), y4, some (.int m), some (.str (rowT z)), some (.ref p), y8, y9]) ∧ LA H' p (7 + 2 * j) ∧ HandAt H' h (1000 * i + 608 + 6 * j)) ⟨⟨y8, rfl⟩, L17, A17⟩ ?_ ?_⟩
        · rintro j σ H18 hj ⟨⟨y8, rfl⟩, ⟨ys, hp, ney, ly, by7⟩, A18⟩
          refine ⟨_, rfl, .inl ⟨rfl, _, SqL.of hp⟩, _, rfl, _, rfl, h, rowT z, _, rfl, A18, by omega, by omega, fun Ha za ba Aa lza => ?_⟩
          have hpa := but_at ba hp nph
          refine ⟨p, _, _, rfl, rfl, hpa, by rw [List.length_map]; omega, ?_⟩
          have A19 : HandAt (upd Ha p (.lst (ys.map V.str ++ [V.str za]))) h (1000 * i + 608 + 6 * j + 3) := Aa.put nph hpa ney
          obtain ⟨zs, hz2, nez, lz, bz⟩ : LA (upd Ha p (.lst (ys.map V.str ++ [V.str za]))) p (7 + 2 * j + 1) := LA.add ly by7 (by omega)
          refine ⟨_, rfl, .inl ⟨rfl, _, SqL.of upd_same⟩, _, rfl, _, rfl, 1, rfl, p, _, -1, .str za, rfl, rfl, SqL.of upd_same, atI_last _ _, h, za, _, rfl, A19, by omega, by omega, fun Hb zb bb Ab lzb => ?_⟩
          have hpb := but_at bb hz2 nph
          refine ⟨p, _, _, rfl, rfl, hpb, by rw [List.length_map]; omega, ⟨_, rfl⟩, ?_, ?_⟩
          · obtain ⟨us, hu, neu, lu, bu⟩ := LA.add (H := Hb) (p := p) lz bz (show zb.length ≤ 50000 by omega)
            exact ⟨us, hu, neu, by omega, bu⟩
          · exact (Ab.put nph hpb nez).mono (by omega)
        · rintro σ H18 ⟨⟨y8, rfl⟩, ⟨ys, hp, ney, ly, by7⟩, A18⟩
          -- each is looked at
          refine ⟨_, rfl, p, rfl, ⟨_, SqL.of hp⟩, for_list (K := K) (a := p) (xs := ys.map V.str) (fun j σ H' => (∃ y9, σ = [some (.ref a), some (.ref h), some (.int (0 + (i : Int))), some (.str z), y4, some (.int m), some (.str (rowT z)), some (.ref p), y8, y9]) ∧ H' p = some (.lst (ys.map V.str)) ∧ HandAt H' h (1000 * i + 656)) ⟨⟨y9, rfl⟩, hp, A18.mono (by omega)⟩ (fun j σ H' _ q => SqL.of q.2.1) ?_ ?_⟩
          · rintro j x σ H19 hx ⟨⟨y9, rfl⟩, hp9, A19⟩
            obtain ⟨y, hy, rfl⟩ := List.mem_map.mp (List.mem_of_getElem? hx)
            have ly := by7 y hy
            refine ⟨_, rfl, y, rfl, by omega, fun H20 s20 => ⟨_, rfl, y, rfl, by omega, scal_body y, _, rfl, iteNS rfl ?_⟩⟩
            exact ⟨⟨_, rfl⟩, s20 _ _ hp9, A19.same s20⟩
          · rintro σ H19 ⟨⟨y9, rfl⟩, hp9, A19⟩
            exact ⟨⟨_, _, _, _, _, _, _, _, rfl⟩, A19.mono (by omega)⟩
    · rintro σ H5 ⟨⟨y2, y3, y4, y5, y6, y7, y8, y9, rfl⟩, A5⟩
      exact q _
end
end Ev

set_option maxHeartbeats 0
namespace Ev
open PySem PySem.Spec PyProof.Rows L2
def mkD (x : Str) (i : Nat) : He.DefD := ⟨(x, none), x, x, defArgs (top i), defBody (top i), defScope (top i), [], []⟩
def dSum : He.DefD := ⟨("sum_of", none), "sum_of", "sum_of", defArgs (top 2), defBody (top 2), defScope (top 2), [], [("modulus", .int 1000003)]⟩
def fn : List He.DefD := [dSum, mkD "framed" 3, mkD "body_of" 4, mkD "_law_dealt" 6, mkD "_law_pick" 7, mkD "_law_alphabet" 8, mkD "_law_spoilt" 9, mkD "_law_any_body" 10, mkD "_law_sum" 11, mkD "_law_row" 12, mkD "_law_body_in" 13, mkD "law" 14]
def fa : List He.Fa := [.glo "sum_of", .glo "framed", .glo "body_of", .glo "_law_dealt", .glo "_law_pick", .glo "_law_alphabet", .glo "_law_spoilt", .glo "_law_any_body", .glo "_law_sum", .glo "_law_row", .glo "_law_body_in", .glo "law",
  .int "MODULUS" 1000003, .free "len", .free "enumerate", .free "ord", .free "list", .free "abs", .free "range", .free "str"]
abbrev R : PySem.W.OpenRow := PySem.W.OpenLaw.row PySem.Challenge.rw_eventledger_k04_rows_of_bodies
abbrev hk : PySem.W.Hook := He.hookD 4 fa fn
def ob (s : PySem.W.SharedT) : He.AlD := He.obsDG 4 fa fn (HandSHeadRun.getT s)
theorem ob_eq (s : PySem.W.SharedT) : ob s = hk.obs s.abs := He.obsDG_eq (HandSHeadRun.getT_eq s)
abbrev loose : List Str := ["MODULUS", "sum_of", "framed", "body_of", "_law_dealt", "_law_pick", "_law_alphabet", "_law_spoilt", "_law_any_body", "_law_sum", "_law_row", "_law_body_in"]
theorem run (w : World) : HandSHeadRun.RunEq R (PySem.W.view R.prog [14]) hk ob 2000 loose w := by
  intro os
  kernel_rfl
theorem facts {P : Program} {w : World} {K : PySem.W.Frag} {h : Heap} {mg : Str → Option Value} {f : Addr} (X : K.In h) (G : h.Ns mainGlobals mg) (hfa : mg ("law" : Str) = some (.ref f)) (c : He.SaysD fa fn K) :
    ∃ fd : FuncData, (∀ (s : Shared) (v : Value), BindsTo s fd ⟨[v], []⟩ [("script", v)]) ∧ ∀ base : Heap, K.In base → base.Ns mainGlobals mg → FnOk P w K mg base CX0 5 f fd ["script"] (spLaw K) := by
  obtain ⟨fd0, F0⟩ := c.def_ 0 (d := dSum) rfl
  obtain ⟨fd1, F1⟩ := c.def_ 1 (d := mkD "framed" 3) rfl
  obtain ⟨fd2, F2⟩ := c.def_ 2 (d := mkD "body_of" 4) rfl
  obtain ⟨fd3, F3⟩ := c.def_ 3 (d := mkD "_law_dealt" 6) rfl
  obtain ⟨fd4, F4⟩ := c.def_ 4 (d := mkD "_law_pick" 7) rfl
  obtain ⟨fd5, F5⟩ := c.def_ 5 (d := mkD "_law_alphabet" 8) rfl
  obtain ⟨fd6, F6⟩ := c.def_ 6 (d := mkD "_law_spoilt" 9) rfl
  obtain ⟨fd7, F7⟩ := c.def_ 7 (d := mkD "_law_any_body" 10) rfl
  obtain ⟨fd8, F8⟩ := c.def_ 8 (d := mkD "_law_sum" 11) rfl
  obtain ⟨fd9, F9⟩ := c.def_ 9 (d := mkD "_law_row" 12) rfl
  obtain ⟨fd10, F10⟩ := c.def_ 10 (d := mkD "_law_body_in" 13) rfl
  obtain ⟨fd, F⟩ := c.def_ 11 (d := mkD "law" 14) rfl
  have e := hfa.symm.trans (He.glo_ok X G (c.fact 11 (f := .glo "law") rfl))
  cases e
  have b := FunD.bindsA (ps := ["script"]) F fun _ _ _ _ _ _ us hl => match us, hl with | [_], _ => rfl
  have T : Glob K mg := ⟨He.free_ok X G (c.fact 13 (f := .free "len") rfl), He.free_ok X G (c.fact 14 (f := .free "enumerate") rfl), He.free_ok X G (c.fact 15 (f := .free "ord") rfl), He.free_ok X G (c.fact 16 (f := .free "list") rfl),
    He.free_ok X G (c.fact 17 (f := .free "abs") rfl), He.free_ok X G (c.fact 18 (f := .free "range") rfl), He.free_ok X G (c.fact 19 (f := .free "str") rfl), He.int_ok X G (c.fact 12 (f := .int "MODULUS" 1000003) rfl)⟩
  exact ⟨fd, fun s v => b s [v] rfl, fun base _ _ => ok_law T F F3 (He.glo_ok X G (c.fact 3 (f := .glo "_law_dealt") rfl)) F4 (He.glo_ok X G (c.fact 4 (f := .glo "_law_pick") rfl)) F5 (He.glo_ok X G (c.fact 5 (f := .glo "_law_alphabet") rfl))
    F7 (He.glo_ok X G (c.fact 7 (f := .glo "_law_any_body") rfl)) F0 (He.glo_ok X G (c.fact 0 (f := .glo "sum_of") rfl)) F1 (He.glo_ok X G (c.fact 1 (f := .glo "framed") rfl)) F2 (He.glo_ok X G (c.fact 2 (f := .glo "body_of") rfl))
    F8 (He.glo_ok X G (c.fact 8 (f := .glo "_law_sum") rfl)) F9 (He.glo_ok X G (c.fact 9 (f := .glo "_law_row") rfl)) F10 (He.glo_ok X G (c.fact 10 (f := .glo "_law_body_in") rfl)) F6 (He.glo_ok X G (c.fact 6 (f := .glo "_law_spoilt") rfl))⟩
end Ev
open PySem PySem.W PySem.Calls PyProof.Rows
theorem PySem.Challenge.cw_eventledger_k04_rows_of_bodies_holds : PySem.Challenge.rw_eventledger_k04_rows_of_bodies.Holds := by
  w_on; o_law
  refine HandSHeadRun.head_any (r := OpenLaw.row PySem.Challenge.rw_eventledger_k04_rows_of_bodies) (q := view (OpenLaw.row PySem.Challenge.rw_eventledger_k04_rows_of_bodies).prog [14]) (H := Ev.hk) (ob := Ev.ob) (M := 2000) (loose := Ev.loose) (d := HandSHeadRun.topDef (OpenLaw.row PySem.Challenge.rw_eventledger_k04_rows_of_bodies).prog 14) (kwd := []) Ev.ob_eq
    (by kernel_rfl) (fun s => by kernel_rfl) Ev.run (by kernel_rfl) (by kernel_rfl) (by kernel_rfl) (by rfl) (by first | assumption | decide +kernel) (by decide +kernel) ⟨rfl, rfl, rfl, rfl, rfl, by decide +kernel⟩ ?hw ?hc
  case hw => w_witness2
  case hc =>
    refine L2.walk_ofE (l := PySem.Challenge.rw_eventledger_k04_rows_of_bodies) (n := 63) (k := 5) (x := "script") (CX := L2.CX0) rfl (by decide) (by kernel_rfl) ⟨rfl, by decide, by decide⟩ ?F (fun _ _ _ _ z => z)
    intro w mg fa h Y G hmg0
    obtain ⟨K, KX, c⟩ := Y
    have hmg : mg ("law" : PySem.Str) = some (.ref fa) := by
      have e : (HandSHeadRun.topDef (OpenLaw.row PySem.Challenge.rw_eventledger_k04_rows_of_bodies).prog 14).name = ("law" : PySem.Str) := by kernel_rfl
      rw [← e]
      exact hmg0
    obtain ⟨fd, hb, hF⟩ := Ev.facts (P := (PySem.Challenge.rw_eventledger_k04_rows_of_bodies).prog) (w := w) KX G hmg c
    exact ⟨K, fd, Ev.spLaw K, KX, hb, fun H a ns hl _ hS => ⟨a, ns, rfl, hS, hl, fun _ => rfl⟩, hF⟩
