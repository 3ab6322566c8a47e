import PyProof.Rows.All
import Wide.All
import OpenK.AllK
import Wide.FinOn
import HandS.ForMost
import KE.IntTextLaws
import PyProof.Rows.StrDigitsNeg
import HandS.More
import HandS.Replace
import HandS.ReplaceLit
import HandS.Codes
import HandS.IsInst
import HandS.RevRange
import HandS.Conv
import HandS.Defaults
import HandS.Style
import PyProof.IsRules
import HandS.ReplaceList
import KE.KEqSeq
import HandS.Text
import HandS.ExcInit
import HandS.ExcField
import HandS.TryOnly
import HandS.WordsExc
import KE.GoesMore
import HandS.Iter
import HandS.Dict
import HandS.StrMore
import HandS.FStr
import KE.GoesNew
import PyProof.Rows.StrRev
import KE.GoesEnumKw
import PyProof.Rows.CallKwBuiltin
import KE.KExcIs
import KE.KExcInit
import PyProof.ExcBaseAll.RuntimeError
import HandS.ForExc
import HandS.ExcIs
import HandS.ExcValue
import HandS.HeadHook3
import KE.KStateDown
import HandS.Base
import HandS.Call
import HandS.Ends
import HandS.Words
import HandS.Head0
import HandS.Head1
import HandS.Head2
import HandS.HeadEnd
import HandS.HeadHook1
import HandS.HeadHook2
import HandS.HeadHook4
import Lean
import PySem.Challenge.RW_eventledger_k02_texts_that_write_no_valu
set_option Elab.async false
set_option linter.all false
set_option maxRecDepth 100000
namespace Vl
open PySem PySem.Spec PyProof.Rows L2 TL
/-! ### values in a heap -/
mutual
inductive Vd (H : Hp) : V → PyData → Prop
  | non : Vd H .non .none
  | bl (b : Bool) : Vd H (.bl b) (.bool b)
  | int (i : Int) : Vd H (.int i) (.int i)
  | str (x : Str) : Vd H (.str x) (.str x)
  | tup {a : Addr} {xs : List V} {ds : List PyData} : H a = some (.tup xs) → VdAll H xs ds → Vd H (.ref a) (.tuple ds)
inductive VdAll (H : Hp) : List V → List PyData → Prop
  | nil : VdAll H [] []
  | cons {v : V} {vs : List V} {d : PyData} {ds : List PyData} : Vd H v d → VdAll H vs ds → VdAll H (v :: vs) (d :: ds)
end
def KeepT (H H' : Hp) : Prop := ∀ b xs, H b = some (.tup xs) → H' b = some (.tup xs)
theorem KeepT.refl (H : Hp) : KeepT H H := fun _ _ e => e
theorem KeepT.trans {H H1 H2 : Hp} (a : KeepT H H1) (b : KeepT H1 H2) : KeepT H H2 := fun c x e => b c x (a c x e)
theorem Same.keepT {H H' : Hp} (s : Same H H') : KeepT H H' := fun b xs e => s b _ e
mutual
theorem Vd.keep {H H' : Hp} (k : KeepT H H') : ∀ {v : V} {d : PyData}, Vd H v d → Vd H' v d
  | _, _, .non => .non
  | _, _, .bl b => .bl b
  | _, _, .int i => .int i
  | _, _, .str x => .str x
  | _, _, .tup h r => .tup (k _ _ h) (VdAll.keep k r)
theorem VdAll.keep {H H' : Hp} (k : KeepT H H') : ∀ {vs : List V} {ds : List PyData}, VdAll H vs ds → VdAll H' vs ds
  | _, _, .nil => .nil
  | _, _, .cons h r => .cons (Vd.keep k h) (VdAll.keep k r)
end
theorem VdAll.len {H : Hp} : ∀ {vs : List V} {ds : List PyData}, VdAll H vs ds → vs.length = ds.length
  | _, _, .nil => rfl
  | _, _, .cons _ r => congrArg Nat.succ r.len
theorem VdAll.snoc {H : Hp} {v : V} {d : PyData} (h : Vd H v d) : ∀ {vs : List V} {ds : List PyData}, VdAll H vs ds → VdAll H (vs ++ [v]) (ds ++ [d])
  | _, _, .nil => .cons h .nil
  | _, _, .cons a r => .cons a (VdAll.snoc h r)
theorem VdAll.get {H : Hp} : ∀ {vs : List V} {ds : List PyData} (i : Nat) {v : V}, VdAll H vs ds → vs[i]? = some v → ∃ d, ds[i]? = some d ∧ Vd H v d
  | _, _, _, _, .nil, e => by simp at e
  | _, _, 0, _, .cons a r, e => ⟨_, rfl, by cases e; exact a⟩
  | _, _, i + 1, _, .cons a r, e => r.get i e
/-! ### the writing -/
abbrev num (n : Int) : Str := Str.ofString (toString n)
def sgn (i : Int) : List Nat := tl (num i)
def dbl : List Nat → List Nat
  | [] => []
  | c :: r => if c = 34 then 34 :: 34 :: dbl r else c :: dbl r
mutual
def wr : PyData → List Nat
  | .none => [45]
  | .bool b => [if b then 43 else 33]
  | .int i => sgn i
  | .str z => 34 :: (dbl (tl z) ++ [34])
  | .tuple ds => 40 :: wrF ds
  | .list _ => []
  | .dict _ => []
def wrF : List PyData → List Nat
  | [] => [41]
  | d :: r => wr d ++ wrT r
def wrT : List PyData → List Nat
  | [] => [41]
  | d :: r => 32 :: (wr d ++ wrT r)
end
mutual
def sz : PyData → Nat
  | .tuple ds => 2 + szAll ds
  | .none => 1
  | .bool _ => 1
  | .int _ => 1
  | .str _ => 1
  | .list _ => 1
  | .dict _ => 1
def szAll : List PyData → Nat
  | [] => 0
  | d :: r => sz d + 1 + szAll r
end
/-- values that are written -/
inductive Ok : PyData → Prop
  | non : Ok .none
  | bl (b : Bool) : Ok (.bool b)
  | int (i : Int) (h : i.natAbs < 10 ^ 40) : Ok (.int i)
  | str (z : Str) (h : ∀ c ∈ tl z, 32 ≤ c ∧ c ≤ 126 ∧ c ≠ 37) : Ok (.str z)
  | tup {ds : List PyData} (h : ∀ d ∈ ds, Ok d) : Ok (.tuple ds)
/-! ### reading, sign by sign -/
def cnt : Nat → List Nat → Nat
  | 0, _ => 0
  | _ + 1, [] => 0
  | m + 1, c :: r => if 48 ≤ c ∧ c ≤ 57 then 1 + cnt m r else 0
def figs : List Nat → Nat
  | [] => 0
  | c :: r => if 49 ≤ c ∧ c ≤ 57 then 1 + cnt 39 r else 0
def numLen : List Nat → Nat
  | [] => 0
  | c :: r => if c = 48 then 1 else if c = 45 then (if figs r = 0 then 0 else 1 + figs r) else figs (c :: r)
def plain (c : Nat) : Prop := 32 ≤ c ∧ c ≤ 126 ∧ c ≠ 34 ∧ c ≠ 37
instance (c : Nat) : Decidable (plain c) := inferInstanceAs (Decidable (_ ∧ _))
inductive TR where
  | ok (v : List Nat) (n : Nat)
  | err (n : Nat)
def TR.up (p : List Nat) (k : Nat) : TR → TR
  | .ok v n => .ok (p ++ v) (n + k)
  | .err n => .err (n + k)
def txtM : List Nat → TR
  | [] => .err 0
  | [c] => if c = 34 then .ok [] 1 else if plain c then .err 1 else .err 0
  | c :: e :: r => if c = 34 then (if e = 34 then (txtM r).up [34] 2 else .ok [] 1) else if plain c then (txtM (e :: r)).up [c] 1 else .err 0
inductive Flat : List Nat → PyData → Nat → Prop
  | txt {r v : List Nat} {n : Nat} : txtM r = .ok v n → Flat (34 :: r) (.str ⟨v.toArray⟩) (n + 1)
  | num {l : List Nat} {n : Nat} {i : Int} : l.head? ≠ some 34 → numLen l = n → 0 < n → n ≤ 41 → intText? ⟨(l.take n).toArray⟩ = some i → Flat l (.int i) n
  | minus {r : List Nat} : numLen (45 :: r) = 0 → Flat (45 :: r) .none 1
  | plus {r : List Nat} : Flat (43 :: r) (.bool true) 1
  | bang {r : List Nat} : Flat (33 :: r) (.bool false) 1
mutual
inductive Go (L : List Nat) : Nat → List (List PyData) → PyData → Prop
  | more {at_ : Nat} {st : List (List PyData)} {d : PyData} : L[at_]? = some 40 → L[at_ + 1]? ≠ some 41 → Go L (at_ + 1) ([] :: st) d → Go L at_ st d
  | empty {at_ : Nat} {st : List (List PyData)} {d : PyData} : L[at_]? = some 40 → L[at_ + 1]? = some 41 → Cl L (at_ + 1) ([] :: st) d → Go L at_ st d
  | flat {at_ n : Nat} {top : List PyData} {st : List (List PyData)} {v d : PyData} : L[at_]? ≠ some 40 → Flat (L.drop at_) v n → Cl L (at_ + n) ((top ++ [v]) :: st) d → Go L at_ (top :: st) d
inductive Cl (L : List Nat) : Nat → List (List PyData) → PyData → Prop
  | close {at_ : Nat} {top nx : List PyData} {st : List (List PyData)} {d : PyData} : L[at_]? = some 41 → Cl L (at_ + 1) ((nx ++ [.tuple top]) :: st) d → Cl L at_ (top :: nx :: st) d
  | done {at_ : Nat} {d : PyData} : at_ = L.length → Cl L at_ [[d]] d
  | sep {at_ : Nat} {top nx : List PyData} {st : List (List PyData)} {d : PyData} : L[at_]? = some 32 → Go L (at_ + 1) (top :: nx :: st) d → Cl L at_ (top :: nx :: st) d
end
/-! ### what is written is read -/
def Aft (l : List Nat) : Prop := l.head? = none ∨ l.head? = some 32 ∨ l.head? = some 41
theorem drop_at {L r : List Nat} {k c : Nat} (h : L.drop k = c :: r) : L[k]? = some c := by
  have e := List.getElem?_drop (xs := L) (i := k) (j := 0)
  rw [h] at e
  exact e.symm
theorem drop_next {L p r : List Nat} {k : Nat} (h : L.drop k = p ++ r) : L.drop (k + p.length) = r := by
  rw [← List.drop_drop, h, List.drop_left]
theorem cnt_digits : ∀ (ds rest : List Nat) (m : Nat), (∀ c ∈ ds, 48 ≤ c ∧ c ≤ 57) → ds.length ≤ m → (∀ c, rest.head? = some c → ¬ (48 ≤ c ∧ c ≤ 57)) → cnt m (ds ++ rest) = ds.length
  | [], rest, m, _, _, hr => by
    cases m with
    | zero => rfl
    | succ m =>
      cases rest with
      | nil => rfl
      | cons c r =>
        show (if 48 ≤ c ∧ c ≤ 57 then 1 + cnt m r else 0) = 0
        rw [if_neg (hr c rfl)]
  | c :: ds, rest, 0, _, hl, _ => by simp at hl
  | c :: ds, rest, m + 1, hd, hl, hr => by
    show (if 48 ≤ c ∧ c ≤ 57 then 1 + cnt m (ds ++ rest) else 0) = ds.length + 1
    rw [if_pos (hd c (List.mem_cons_self ..)), cnt_digits ds rest m (fun x hx => hd x (List.mem_cons_of_mem _ hx)) (by simpa using hl) hr]
    omega
theorem Aft.noDigit {l : List Nat} (h : Aft l) : ∀ c, l.head? = some c → ¬ (48 ≤ c ∧ c ≤ 57) := fun c e => by
  rcases h with h | h | h
  · rw [h] at e; cases e
  · rw [h] at e; cases e; omega
  · rw [h] at e; cases e; omega
theorem numL_head : ∀ n : Nat, 0 < n → ∃ c r, numL n = c :: r ∧ 49 ≤ c ∧ c ≤ 57 := by
  intro n
  induction n using Nat.strongRecOn with
  | _ n ih =>
    intro h0
    by_cases h : n < 10
    · exact ⟨48 + n, [], numL_lt h, by omega, by omega⟩
    · obtain ⟨c, r, e, h1, h2⟩ := ih (n / 10) (by omega) (by omega)
      exact ⟨c, r ++ [48 + n % 10], by rw [numL_step (by omega), e]; rfl, h1, h2⟩
theorem figs_num {n : Nat} {rest : List Nat} (h0 : 0 < n) (h : n < 10 ^ 40) (ha : Aft rest) : figs (numL n ++ rest) = (numL n).length := by
  obtain ⟨c, r, e, h1, h2⟩ := numL_head n h0
  have hl := numL_len (n := n) (k := 40) (by decide) h
  have hd := numL_digits n
  rw [e] at hl hd ⊢
  show (if 49 ≤ c ∧ c ≤ 57 then 1 + cnt 39 (r ++ rest) else 0) = r.length + 1
  rw [if_pos ⟨h1, h2⟩, cnt_digits r rest 39 (fun x hx => hd x (List.mem_cons_of_mem _ hx)) (by simpa using hl) ha.noDigit]
  omega
theorem sgn_pos (n : Nat) : sgn (n : Int) = numL n := tl_num n
theorem sgn_neg {n : Nat} (h : 0 < n) : sgn (-(n : Int)) = 45 :: numL n := by
  show tl (Str.ofString (toString (-(n : Int)))) = _
  rw [toString_neg (by omega), show (0 - -(n : Int)) = (n : Int) by omega, tl_ofString, String.toList_append, List.map_append, ← tl_ofString (toString (n : Int)), tl_num]
  rfl
theorem flat_int {i : Int} {rest : List Nat} (h : i.natAbs < 10 ^ 40) (ha : Aft rest) : Flat (sgn i ++ rest) (.int i) (sgn i).length ∧ ∃ c r, sgn i = c :: r ∧ c ≠ 40 ∧ c ≠ 41 := by
  by_cases h0 : 0 ≤ i
  · obtain ⟨n, rfl⟩ := Int.eq_ofNat_of_zero_le h0
    have hn : n < 10 ^ 40 := h
    have hl := numL_len (n := n) (k := 40) (by decide) hn
    have e : sgn (n : Int) = numL n := sgn_pos n
    have hv : intText? ⟨((numL n ++ rest).take (numL n).length).toArray⟩ = some (n : Int) := by
      rw [List.take_left, ← tl_num n]
      exact int_num (by omega)
    rcases Nat.eq_zero_or_pos n with z | z
    · subst z
      have e0 : numL 0 = [48] := numL_lt (by decide)
      rw [e]
      rw [e0] at hv ⊢
      exact ⟨.num (by simp) rfl (by decide) (by decide) hv, 48, [], rfl, by decide, by decide⟩
    · have hf := figs_num z hn ha
      obtain ⟨c, r, ec, h1, h2⟩ := numL_head n z
      rw [e]
      refine ⟨.num ?_ ?_ (by rw [ec]; exact Nat.succ_pos _) (by omega) hv, c, r, ec, by omega, by omega⟩
      · rw [ec]
        intro q
        have : c = 34 := Option.some.inj q
        omega
      · rw [ec] at hf ⊢
        show (if c = 48 then 1 else if c = 45 then _ else figs (c :: (r ++ rest))) = _
        rw [if_neg (by omega), if_neg (by omega)]
        exact hf
  · obtain ⟨n, hn0, rfl⟩ : ∃ n : Nat, 0 < n ∧ i = -(n : Int) := ⟨i.natAbs, by omega, by omega⟩
    have hn : n < 10 ^ 40 := by simpa using h
    have hl := numL_len (n := n) (k := 40) (by decide) hn
    have e := sgn_neg hn0
    have hf := figs_num hn0 hn ha
    rw [e]
    refine ⟨.num (by simp) ?_ (Nat.succ_pos _) (by rw [List.length_cons]; omega) ?_, 45, _, rfl, by decide, by decide⟩
    · show (if (45 : Nat) = 48 then 1 else if (45 : Nat) = 45 then (if figs (numL n ++ rest) = 0 then 0 else 1 + figs (numL n ++ rest)) else figs (45 :: (numL n ++ rest))) = (numL n).length + 1
      rw [if_neg (by decide), if_pos rfl, hf, if_neg (by have := List.length_pos_iff.mpr (numL_ne n); omega)]
      omega
    · rw [List.take_left]
      have q := intText_neg (x := ⟨(45 :: numL n).toArray⟩) (cs := numL n) rfl (numL_digits n) (numL_ne n) (by show (45 :: numL n).toArray.size ≤ 4300; simp; omega)
      rw [q, show NumText.digitsVal (numL n) = n from numL_val n]
theorem txtM_dbl : ∀ (s rest : List Nat), (∀ c ∈ s, 32 ≤ c ∧ c ≤ 126 ∧ c ≠ 37) → rest.head? ≠ some 34 → txtM (dbl s ++ 34 :: rest) = .ok s ((dbl s).length + 1)
  | [], rest, _, hr => by
    show txtM (34 :: rest) = _
    cases rest with
    | nil => rfl
    | cons e r =>
      have he : e ≠ 34 := fun z => hr (by rw [z]; rfl)
      show (if (34 : Nat) = 34 then (if e = 34 then _ else TR.ok [] 1) else _) = _
      rw [if_pos rfl, if_neg he]
      rfl
  | c :: s, rest, hs, hr => by
    have ih := txtM_dbl s rest (fun x hx => hs x (List.mem_cons_of_mem _ hx)) hr
    have hc := hs c (List.mem_cons_self ..)
    by_cases h : c = 34
    · have e : dbl (c :: s) = 34 :: 34 :: dbl s := if_pos h
      rw [e]
      show (if (34 : Nat) = 34 then (if (34 : Nat) = 34 then (txtM (dbl s ++ 34 :: rest)).up [34] 2 else _) else _) = _
      rw [if_pos rfl, if_pos rfl, ih, h]
      rfl
    · have e : dbl (c :: s) = c :: dbl s := if_neg h
      rw [e]
      have hp : plain c := ⟨hc.1, hc.2.1, h, hc.2.2⟩
      have key : ∀ (x : Nat) (r : List Nat), txtM (c :: x :: r) = (txtM (x :: r)).up [c] 1 := fun x r => by
        show (if c = 34 then _ else if plain c then (txtM (x :: r)).up [c] 1 else _) = _
        rw [if_neg h, if_pos hp]
      have step : txtM (c :: dbl s ++ 34 :: rest) = (txtM (dbl s ++ 34 :: rest)).up [c] 1 := by
        cases hd : dbl s with
        | nil => exact key 34 rest
        | cons x r => exact key x (r ++ 34 :: rest)
      rw [step, ih]
      rfl
theorem flat_of {d : PyData} (h : Ok d) (hf : ∀ ds, d ≠ .tuple ds) {rest : List Nat} (ha : Aft rest) : Flat (wr d ++ rest) d (wr d).length ∧ ∃ c r, wr d = c :: r ∧ c ≠ 40 ∧ c ≠ 41 := by
  cases h with
  | non =>
    refine ⟨.minus ?_, 45, [], rfl, by decide, by decide⟩
    show (if (45 : Nat) = 48 then 1 else if (45 : Nat) = 45 then (if figs rest = 0 then 0 else 1 + figs rest) else figs (45 :: rest)) = 0
    have e : figs rest = 0 := by
      cases rest with
      | nil => rfl
      | cons c r =>
        have := ha.noDigit c rfl
        show (if 49 ≤ c ∧ c ≤ 57 then _ else 0) = 0
        rw [if_neg (by omega)]
    rw [if_neg (by decide), if_pos rfl, if_pos e]
  | bl b =>
    cases b with
    | true => exact ⟨.plus, 43, [], rfl, by decide, by decide⟩
    | false => exact ⟨.bang, 33, [], rfl, by decide, by decide⟩
  | int i h => exact flat_int h ha
  | str z h =>
    have hr : rest.head? ≠ some 34 := fun e => by
      rcases ha with q | q | q
      · rw [q] at e; cases e
      · rw [q] at e; cases e
      · rw [q] at e; cases e
    have t := txtM_dbl (tl z) rest h hr
    have f := Flat.txt t
    have e1 : (⟨(tl z).toArray⟩ : Str) = z := mk_tl z
    rw [e1] at f
    refine ⟨?_, 34, _, rfl, by decide, by decide⟩
    have e2 : wr (.str z) ++ rest = 34 :: (dbl (tl z) ++ 34 :: rest) := by
      show 34 :: (dbl (tl z) ++ [34]) ++ rest = _
      simp
    have e3 : (wr (.str z)).length = (dbl (tl z)).length + 1 + 1 := by
      show (34 :: (dbl (tl z) ++ [34])).length = _
      simp
    rw [e2, e3]
    exact f
  | tup h => exact absurd rfl (hf _)
theorem wr_head {d : PyData} (h : Ok d) : ∃ c r, wr d = c :: r ∧ c ≠ 41 := by
  by_cases hf : ∃ ds, d = .tuple ds
  · obtain ⟨ds, rfl⟩ := hf
    exact ⟨40, wrF ds, rfl, by decide⟩
  · obtain ⟨_, c, r, e, _, h2⟩ := flat_of h (fun ds e => hf ⟨ds, e⟩) (rest := []) (.inl rfl)
    exact ⟨c, r, e, h2⟩
theorem aft_T (r : List PyData) (rest : List Nat) : Aft (wrT r ++ rest) := by
  cases r with
  | nil => exact .inr (.inr rfl)
  | cons d r => exact .inr (.inl rfl)
theorem go_wr {L : List Nat} {d : PyData} (h : Ok d) : ∀ (k : Nat) (rest : List Nat) (top : List PyData) (st : List (List PyData)) (r : PyData), L.drop k = wr d ++ rest → Aft rest → Cl L (k + (wr d).length) ((top ++ [d]) :: st) r → Go L k (top :: st) r := by
  have flatc : ∀ {d : PyData}, Ok d → (∀ ds, d ≠ .tuple ds) → ∀ (k : Nat) (rest : List Nat) (top : List PyData) (st : List (List PyData)) (r : PyData), L.drop k = wr d ++ rest → Aft rest → Cl L (k + (wr d).length) ((top ++ [d]) :: st) r → Go L k (top :: st) r := by
    intro d h hf k rest top st r e ha q
    obtain ⟨f, c, t, ec, h1, _⟩ := flat_of h hf ha
    refine .flat ?_ (by rw [e]; exact f) q
    have e2 : L.drop k = c :: (t ++ rest) := by rw [e, ec]; rfl
    rw [drop_at e2]
    exact fun z => h1 (Option.some.inj z)
  induction h with
  | non => exact flatc .non (fun _ e => by cases e)
  | bl b => exact flatc (.bl b) (fun _ e => by cases e)
  | int i h => exact flatc (.int i h) (fun _ e => by cases e)
  | str z h => exact flatc (.str z h) (fun _ e => by cases e)
  | @tup ds hd ih =>
    intro k rest top st r e ha q
    have tail : ∀ (rs : List PyData), (∀ d ∈ rs, d ∈ ds) → ∀ (k' : Nat) (acc : List PyData), L.drop k' = wrT rs ++ rest → Cl L (k' + (wrT rs).length) ((top ++ [.tuple (acc ++ rs)]) :: st) r → Cl L k' (acc :: top :: st) r := by
      intro rs
      induction rs with
      | nil =>
        intro _ k' acc e q
        rw [List.append_nil] at q
        exact .close (drop_at (show L.drop k' = 41 :: rest from e)) q
      | cons d rs ih2 =>
        intro hm k' acc e q
        have e0 : L.drop k' = 32 :: (wr d ++ (wrT rs ++ rest)) := by
          rw [e]
          show 32 :: (wr d ++ wrT rs) ++ rest = _
          simp
        have e1 : L.drop (k' + 1) = wr d ++ (wrT rs ++ rest) := drop_next (p := [32]) e0
        have e2 : L.drop (k' + 1 + (wr d).length) = wrT rs ++ rest := drop_next e1
        refine .sep (drop_at e0) (ih d (hm d (List.mem_cons_self ..)) _ _ _ _ _ e1 (aft_T rs rest) (ih2 (fun x hx => hm x (List.mem_cons_of_mem _ hx)) _ _ e2 ?_))
        have e3 : k' + 1 + (wr d).length + (wrT rs).length = k' + (wrT (d :: rs)).length := by
          show _ = k' + (32 :: (wr d ++ wrT rs)).length
          rw [List.length_cons, List.length_append]
          omega
        rw [e3, List.append_assoc]
        exact q
    cases ds with
    | nil =>
      have e0 : L.drop k = 40 :: (41 :: rest) := e
      have e1 : L.drop (k + 1) = 41 :: rest := drop_next (p := [40]) e0
      exact .empty (drop_at e0) (drop_at e1) (.close (drop_at e1) q)
    | cons d rs =>
      have e0 : L.drop k = 40 :: (wr d ++ (wrT rs ++ rest)) := by
        rw [e]
        show 40 :: (wr d ++ wrT rs) ++ rest = _
        simp
      have e1 : L.drop (k + 1) = wr d ++ (wrT rs ++ rest) := drop_next (p := [40]) e0
      have e2 : L.drop (k + 1 + (wr d).length) = wrT rs ++ rest := drop_next e1
      obtain ⟨c, t, ec, hc⟩ := wr_head (hd d (List.mem_cons_self ..))
      have e1' : L.drop (k + 1) = c :: (t ++ (wrT rs ++ rest)) := by rw [e1, ec]; rfl
      refine .more (drop_at e0) (by rw [drop_at e1']; exact fun z => hc (Option.some.inj z)) (ih d (List.mem_cons_self ..) _ _ _ _ _ e1 (aft_T rs rest) (tail rs (fun x hx => List.mem_cons_of_mem _ hx) _ _ e2 ?_))
      have e3 : k + 1 + (wr d).length + (wrT rs).length = k + (wr (.tuple (d :: rs))).length := by
        show _ = k + (40 :: (wr d ++ wrT rs)).length
        rw [List.length_cons, List.length_append]
        omega
      rw [e3]
      exact q
theorem go_all {d : PyData} (h : Ok d) : Go (wr d) 0 [[]] d :=
  go_wr h 0 [] [] [] d (by simp) (.inl rfl) (.done (by simp))
end Vl

set_option maxHeartbeats 2000000
namespace Vl
open PySem PySem.Spec PyProof.Rows L2 TL CwR
/-- x is b, of a truth, a number, a text -/
def flatP : V → Bool
  | .non => true | .bl _ => true | .int _ => true | .str _ => true | _ => false
theorem op_isT {X : Cx} : OpR X (compareOp .Is) (fun x y H Q => ∃ b : Bool, y = .bl b ∧ flatP x = true ∧ Q (.bl (decide (x = .bl b))) H) := by
  intro pins s σ H x y v u Q I rx ry h
  obtain ⟨b, rfl, hf, q⟩ := h
  cases (show u = Value.bool b from ry)
  cases x with
  | non =>
    cases (show v = Value.none from rx)
    exact wpAny_is_other (by cases b <;> rfl) (fun z => by cases z) ⟨.bl false, H, I, rfl, by simpa using q⟩
  | bl a =>
    cases (show v = Value.bool a from rx)
    by_cases e : a = b
    · subst e
      exact wpAny_is_self rfl ⟨.bl true, H, I, rfl, by simpa using q⟩
    · exact wpAny_is_other rfl (fun z => e (Value.bool.inj z)) ⟨.bl false, H, I, rfl, by simpa [e] using q⟩
  | int i =>
    obtain ⟨t, rfl⟩ := rx
    exact wpAny_is_other (by cases b <;> rfl) (fun z => by cases z) ⟨.bl false, H, I, rfl, by simpa using q⟩
  | str z =>
    obtain ⟨t, rfl⟩ := rx
    exact wpAny_is_other (by cases b <;> rfl) (fun z => by cases z) ⟨.bl false, H, I, rfl, by simpa using q⟩
  | _ => cases hf
/-- a written dict, asked by a text that is there -/
theorem ix_kd {X : Cx} {d : Addr} {es : Array DictEntry} {n : Nat} (D : KDict X.K X.w d es n) : IxR X (fun x y H Q => ∃ (z : Str) (u0 : Value) (v0 : V), x = .ref d ∧ y = .str z ∧ PySem.W.nsIn X.K d z = some (some u0) ∧ RelV v0 u0 ∧ Q v0 H) := by
  intro value slice pins s σ H x y v u Q I rx ry h hs
  have hx : x = .ref d := by obtain ⟨_, _, _, e, _⟩ := h; exact e
  have hg := op_item_kd D pins s σ H x y v u Q I rx ry h
  subst hx
  cases rx
  exact tail_any (kd_type D I) PySem.slot_dict_getitem.lookup hg hs
/-- 'x' + e, behind the text a token is out -/
theorem pe_litAdd {X : Cx} {b : Expr} {tb : TE} {x : Str} {j : Nat} {cp bp : Pos} (hb : PET X b tb) :
    PE X (.BinOp (.Constant (.str x) j cp) .Add b bp) (tOp (fun u v H Q => ∃ i k, u = .str i ∧ v = .str k ∧ i.length + k.length ≤ sizeLine ∧ Q (.str (i ++ k)) H) (tC (.str x)) tb) := by
  refine ⟨fun pins s σ H Q I h => wpAny_BinOp (Calls.Constant_str ?_)⟩
  have I1 : Inv X pins σ H { s with toks := s.toks + 1 } := I.tok _
  refine thn (hb pins { s with toks := s.toks + 1 } σ H _ (Nat.succ_le_succ (Nat.zero_le _)) I1 h) fun u s2 q => ?_
  obtain ⟨y, H2, I2, r2, q2⟩ := q
  exact op_add_str pins s2 σ H2 (.str x) y (.str x s.toks) u Q I2 ⟨_, rfl⟩ r2 q2
end Vl

set_option maxHeartbeats 2000000
namespace Vl
open PySem PySem.Spec PyProof.Rows L2 TL CwR PySem.StrLaws
def top (i : Nat) : Stmt := PySem.Challenge.pw_eventledger_k02_texts_that_write_no_valu.main.body.getD i (.Pass ⟨0, 0, 0, 0⟩)
abbrev FnP (K : PySem.W.Frag) (x : Str) (st : Stmt) (f : Addr) (fd : FuncData) : Prop := FunD K x x (defArgs st) (defBody st) (defScope st) [] [] f fd
theorem same_upd {H : Hp} {p : Addr} {o : HO} (h : H p = none) : Same H (upd H p o) := fun b x e => by
  rw [upd_ne (ne_of_none e h)]
  exact e
theorem szl : sizeLine = 16777216 := by decide
theorem app_len (x y : Str) : (x ++ y).length = x.length + y.length := by
  rw [len_tl, tl_append, List.length_append, ← len_tl, ← len_tl]
theorem dbl_repl : ∀ l : List Nat, replL [34] [34, 34] l = dbl l
  | [] => replL_nil
  | c :: r => by
    by_cases h : c = 34
    · have e : dbl (c :: r) = 34 :: 34 :: dbl r := if_pos h
      rw [e, replL_hit (by simp) (by rw [h]; rfl)]
      show [34, 34] ++ replL [34] [34, 34] r = _
      rw [dbl_repl r]
      rfl
    · have e : dbl (c :: r) = c :: dbl r := if_neg h
      rw [e, replL_miss (by intro q; exact h (List.cons.inj q).1), dbl_repl r]
theorem dbl_len : ∀ l : List Nat, (dbl l).length ≤ 2 * l.length
  | [] => Nat.le_refl _
  | c :: r => by
    have ih := dbl_len r
    show (if c = 34 then 34 :: 34 :: dbl r else c :: dbl r).length ≤ 2 * (r.length + 1)
    by_cases h : c = 34
    · rw [if_pos h]
      show (dbl r).length + 1 + 1 ≤ _
      omega
    · rw [if_neg h]
      show (dbl r).length + 1 ≤ _
      omega
/-- the sizes that a value may have -/
def Sm : PyData → Prop
  | .int i => i.natAbs.log2 < 1920
  | .str z => z.length ≤ 1000000
  | _ => True
def spFlat : Sp := fun vs H Q _ => ∃ (x : V) (d : PyData), vs = [x] ∧ Vd H x d ∧ Sm d ∧ (∀ ds, d ≠ .tuple ds) ∧ ∀ r : Str, tl r = wr d → Q (.str r) H
end Vl

set_option maxHeartbeats 4000000
namespace Vl
open PySem PySem.Spec PyProof.Rows L2 TL CwR PySem.StrLaws
/-! ### what waits -/
inductive It where
  | txt (t : Str)
  | val (d : PyData)
def It.w : It → List Nat
  | .txt t => tl t
  | .val d => wr d
def It.m : It → Nat
  | .txt _ => 1
  | .val d => sz d
inductive Itm (H : Hp) : V → It → Prop
  | txt {p : Addr} {t : Str} : H p = some (.tup [.str t, .bl true]) → t.length ≤ 1 → Itm H (.ref p) (.txt t)
  | val {p : Addr} {v : V} {d : PyData} : H p = some (.tup [v, .bl false]) → Vd H v d → Itm H (.ref p) (.val d)
inductive Stk (H : Hp) : List V → List It → Prop
  | nil : Stk H [] []
  | snoc {xs : List V} {its : List It} {x : V} {it : It} : Stk H xs its → Itm H x it → Stk H (xs ++ [x]) (its ++ [it])
theorem Itm.keep {H H' : Hp} (k : KeepT H H') {x : V} {it : It} (h : Itm H x it) : Itm H' x it := by
  cases h with
  | txt a b => exact .txt (k _ _ a) b
  | val a b => exact .val (k _ _ a) (b.keep k)
theorem Stk.keep {H H' : Hp} (k : KeepT H H') {xs : List V} {its : List It} (h : Stk H xs its) : Stk H' xs its := by
  induction h with
  | nil => exact .nil
  | snoc _ i ih => exact .snoc ih (i.keep k)
theorem Stk.last {H : Hp} {xs : List V} {its : List It} (h : Stk H xs its) (ne : xs ≠ []) : ∃ xs0 x its0 it, xs = xs0 ++ [x] ∧ its = its0 ++ [it] ∧ Stk H xs0 its0 ∧ Itm H x it := by
  cases h with
  | nil => exact absurd rfl ne
  | snoc a b => exact ⟨_, _, _, _, rfl, rfl, a, b⟩
theorem Stk.len {H : Hp} {xs : List V} {its : List It} (h : Stk H xs its) : xs.length = its.length := by
  induction h with
  | nil => rfl
  | snoc _ _ ih => rw [List.length_append, List.length_append, ih]; rfl
def wAll (its : List It) : List Nat := its.reverse.flatMap It.w
def mAll (its : List It) : Nat := (its.map It.m).sum
theorem wAll_snoc (its : List It) (it : It) : wAll (its ++ [it]) = it.w ++ wAll its := by
  unfold wAll
  rw [List.reverse_append]
  rfl
theorem mAll_snoc (its : List It) (it : It) : mAll (its ++ [it]) = mAll its + it.m := by
  unfold mAll
  rw [List.map_append, List.sum_append]
  show _ + (it.m + 0) = _
  omega
theorem sz_pos (d : PyData) : 1 ≤ sz d := by
  cases d <;> (first | exact Nat.le_refl 1 | (show 1 ≤ 2 + _; omega))
theorem mAll_len : ∀ its : List It, its.length ≤ mAll its
  | [] => Nat.le_refl 0
  | it :: r => by
    have ih := mAll_len r
    have h : 1 ≤ it.m := by
      cases it with
      | txt _ => exact Nat.le_refl 1
      | val d => exact sz_pos d
    unfold mAll at ih ⊢
    rw [List.map_cons, List.sum_cons, List.length_cons]
    omega
theorem szAll_drop (ds : List PyData) {i : Nat} {d : PyData} (h : ds[i]? = some d) : szAll (ds.drop i) = sz d + 1 + szAll (ds.drop (i + 1)) := by
  have hi : i < ds.length := (List.getElem?_eq_some_iff.mp h).1
  have e : ds.drop i = d :: ds.drop (i + 1) := by
    rw [List.drop_eq_getElem_cons hi]
    congr 1
    exact (List.getElem?_eq_some_iff.mp h).2
  rw [e]
  rfl
theorem wrT_drop (ds : List PyData) {i : Nat} {d : PyData} (h : ds[i]? = some d) : wrT (ds.drop i) = 32 :: (wr d ++ wrT (ds.drop (i + 1))) := by
  have hi : i < ds.length := (List.getElem?_eq_some_iff.mp h).1
  have e : ds.drop i = d :: ds.drop (i + 1) := by
    rw [List.drop_eq_getElem_cons hi]
    congr 1
    exact (List.getElem?_eq_some_iff.mp h).2
  rw [e]
  rfl
theorem wrF_zero (ds : List PyData) {d : PyData} (h : ds[0]? = some d) : wrF ds = wr d ++ wrT (ds.drop 1) := by
  cases ds with
  | nil => cases h
  | cons x r =>
    have e : x = d := Option.some.inj h
    rw [e]
    rfl
def flat (ps : List Str) : List Nat := (ps.map tl).flatten
theorem flat_snoc (ps : List Str) (p : Str) : flat (ps ++ [p]) = flat ps ++ tl p := by
  unfold flat
  rw [List.map_append, List.flatten_append]
  simp
theorem flat_len (ps : List Str) : (ps.map Str.length).sum = (flat ps).length := by
  unfold flat
  rw [List.length_flatten, List.map_map]
  exact congrArg List.sum (List.map_congr_left fun p _ => len_tl p)
theorem joinL_nil : ∀ l : List (List Nat), joinL [] l = l.flatten
  | [] => rfl
  | [p] => by simp [joinL]
  | p :: q :: r => by
    show p ++ ([] ++ joinL [] (q :: r)) = _
    rw [joinL_nil (q :: r)]
    simp
/-- all that the value holds is small -/
inductive SmA : PyData → Prop
  | flat {d : PyData} (h : Sm d) (n : ∀ ds, d ≠ .tuple ds) : SmA d
  | tup {ds : List PyData} (h : ∀ d ∈ ds, SmA d) : SmA (.tuple ds)
def It.ok : It → Prop
  | .txt _ => True
  | .val d => SmA d
def spShown : Sp := fun vs H Q _ => ∃ (x : V) (d : PyData), vs = [x] ∧ Vd H x d ∧ SmA d ∧ sz d ≤ 1000000 ∧ (wr d).length ≤ 4000000 ∧ ∀ H' r, Same H H' → tl r = wr d → Q (.str r) H'
theorem keep_lst {H : Hp} {a : Addr} {xs ys : List V} (h : H a = some (.lst xs)) : KeepT H (upd H a (.lst ys)) := fun b zs e => by
  have n : b ≠ a := fun q => by rw [q, h] at e; cases e
  rw [upd_ne n]
  exact e
theorem same_put {H0 H : Hp} {a : Addr} {o : HO} (s : Same H0 H) (n : H0 a = none) : Same H0 (upd H a o) := fun b x e => by
  rw [upd_ne (ne_of_none e n)]
  exact s b x e
theorem szAll_le (ds : List PyData) : ∀ k, szAll (ds.drop k) ≤ szAll ds := by
  induction ds with
  | nil => intro k; rw [List.drop_nil]; exact Nat.le_refl _
  | cons d r ih =>
    intro k
    cases k with
    | zero => exact Nat.le_refl _
    | succ k =>
      show szAll (r.drop k) ≤ sz d + 1 + szAll r
      have := ih k
      omega
theorem Vd.kind {K : PySem.W.Frag} {H : Hp} {v : V} {d : PyData} (h : Vd H v d) : (∃ a ys ds, v = .ref a ∧ d = .tuple ds ∧ H a = some (.tup ys) ∧ VdAll H ys ds) ∨
    ((∀ ds, d ≠ .tuple ds) ∧ ∃ tv, TyX K H v tv ∧ PySem.W.kitOne K tv (.type "tuple") = some false) := by
  cases h with
  | non => exact .inr ⟨(fun _ e => by cases e), .type "NoneType", .base .non, kit_ty (by decide +kernel)⟩
  | bl b => exact .inr ⟨(fun _ e => by cases e), .type "bool", .base (.bl b), kit_ty (by decide +kernel)⟩
  | int i => exact .inr ⟨(fun _ e => by cases e), .type "int", .base (.int i), kit_ty (by decide +kernel)⟩
  | str z => exact .inr ⟨(fun _ e => by cases e), .type "str", .base (.str z), kit_ty (by decide +kernel)⟩
  | tup a r => exact .inl ⟨_, _, _, rfl, rfl, a, r⟩
theorem SmA.sm {d : PyData} (h : SmA d) (n : ∀ ds, d ≠ .tuple ds) : Sm d := by
  cases h with
  | flat h _ => exact h
  | tup h => exact absurd rfl (n _)
theorem SmA.get {ds : List PyData} (h : SmA (.tuple ds)) : ∀ d ∈ ds, SmA d := by
  cases h with
  | flat _ n => exact absurd rfl (n _)
  | tup h => exact h
theorem szAll_len : ∀ ds : List PyData, ds.length ≤ szAll ds
  | [] => Nat.le_refl 0
  | d :: r => by
    have := szAll_len r
    show r.length + 1 ≤ sz d + 1 + szAll r
    omega
theorem wrF_end {ds : List PyData} {n : Nat} (h : ds.length = n) : (if n = n ∧ 0 < n then wrF ds else wrT (ds.drop (n - n))) = wrF ds := by
  by_cases h0 : 0 < n
  · rw [if_pos ⟨rfl, h0⟩]
  · have e : ds = [] := List.length_eq_zero_iff.mp (by omega)
    rw [if_neg (fun q => h0 q.2), e, List.drop_nil]
    rfl
/-- between two turns of the loop over what waits -/
def ShW (x : V) (pa wa : Addr) (d : PyData) (H : Hp) (m : Nat) (σ : L2.St) (H' : Hp) : Prop :=
  ∃ (ps : List Str) (xs : List V) (its : List It) (y3 y4 y5 : Option V), σ = [some x, some (.ref pa), some (.ref wa), y3, y4, y5] ∧ H' pa = some (.lst (ps.map V.str)) ∧ H' wa = some (.lst xs) ∧ Stk H' xs its ∧ flat ps ++ wAll its = wr d ∧
    (∀ it ∈ its, it.ok) ∧ Same H H' ∧ ps.length + mAll its ≤ sz d ∧ m = mAll its
def TuW (x : V) (pa wa a : Addr) (ps : List Str) (its0 : List It) (ds : List PyData) (n : Nat) (H H1 : Hp) (i : Nat) (σ : L2.St) (H' : Hp) : Prop :=
  ∃ (xs : List V) (its : List It) (y5 : Option V), σ = [some x, some (.ref pa), some (.ref wa), some (.ref a), some (.bl false), y5] ∧ H' pa = some (.lst (ps.map V.str)) ∧ H' wa = some (.lst xs) ∧ Stk H' xs its ∧
    wAll its = (if i = n ∧ 0 < n then wrF ds else wrT (ds.drop (n - i))) ++ wAll its0 ∧ (∀ it ∈ its, it.ok) ∧ Same H H' ∧ KeepT H1 H' ∧ mAll its ≤ mAll its0 + 1 + szAll (ds.drop (n - i))
end Vl

set_option maxHeartbeats 4000000
namespace Vl
open PySem PySem.Spec PyProof.Rows L2 TL CwR PySem.StrLaws
/-! ### one sign of a text -/
def sg (t : Str) (k : Nat) : Str := cutS t (some (k : Int)) (some ((k : Int) + 1))
theorem tl_cut (t : Str) (a b : Nat) : tl (cutS t (some (a : Int)) (some (b : Int))) = ((tl t).drop a).take (b - a) := by
  show ((tl t).drop (HT.sIx t.length 0 (some (a : Int)))).take (HT.sIx t.length t.length (some (b : Int)) - HT.sIx t.length 0 (some (a : Int))) = _
  rw [HT.sIx_nat, HT.sIx_nat]
  have hl := len_tl t
  by_cases h : a ≤ t.length
  · rw [Nat.min_eq_left h]
    by_cases h2 : b ≤ t.length
    · rw [Nat.min_eq_left h2]
    · rw [Nat.min_eq_right (show t.length ≤ b by omega), List.take_of_length_le (i := t.length - a) (by rw [List.length_drop]; omega), List.take_of_length_le (i := b - a) (by rw [List.length_drop]; omega)]
  · rw [Nat.min_eq_right (show t.length ≤ a by omega), List.drop_eq_nil_of_le (show (tl t).length ≤ t.length by omega), List.drop_eq_nil_of_le (show (tl t).length ≤ a by omega), List.take_nil, List.take_nil]
theorem tl_sg (t : Str) (k : Nat) : tl (sg t k) = ((tl t).drop k).take 1 := by
  have e := tl_cut t k (k + 1)
  rw [show k + 1 - k = 1 by omega] at e
  exact e
theorem take1 (l : List Nat) (k : Nat) : (l.drop k).take 1 = (match l[k]? with | some c => [c] | none => []) := by
  cases h : l[k]? with
  | none =>
    rw [List.drop_eq_nil_of_le (List.getElem?_eq_none_iff.mp h)]
    rfl
  | some c =>
    have hk : k < l.length := (List.getElem?_eq_some_iff.mp h).1
    rw [List.drop_eq_getElem_cons hk]
    show [l[k]] = [c]
    rw [(List.getElem?_eq_some_iff.mp h).2]
theorem tl_sg' (t : Str) (k : Nat) : tl (sg t k) = (match (tl t)[k]? with | some c => [c] | none => []) := (tl_sg t k).trans (take1 _ k)
theorem sg_eq {t c1 : Str} {k c : Nat} (h : tl c1 = [c]) : (V.str (sg t k) = V.str c1) ↔ (tl t)[k]? = some c := by
  constructor
  · intro e
    have e2 := congrArg tl (V.str.inj e)
    rw [tl_sg', h] at e2
    cases hk : (tl t)[k]? with
    | none => rw [hk] at e2; cases e2
    | some d =>
      rw [hk] at e2
      rw [(List.cons.inj e2).1]
  · intro e
    refine congrArg V.str (ext_tl ?_)
    rw [tl_sg', e, h]
theorem sg_len (t : Str) (k : Nat) : (sg t k).length ≤ 1 := by
  rw [len_tl, tl_sg, List.length_take]
  omega
def plainLen : List Nat → Nat
  | [] => 0
  | c :: r => if plain c then 1 + plainLen r else 0
def plainB (z : Str) : Bool := match tl z with
  | [c] => decide (plain c)
  | _ => false
theorem plainLen_le : ∀ l : List Nat, plainLen l ≤ l.length
  | [] => Nat.le_refl 0
  | c :: r => by
    have := plainLen_le r
    show (if plain c then 1 + plainLen r else 0) ≤ r.length + 1
    by_cases h : plain c
    · rw [if_pos h]; omega
    · rw [if_neg h]; omega
theorem plainLen_at (l : List Nat) (k : Nat) : plainLen (l.drop k) = (match l[k]? with | some c => (if plain c then 1 + plainLen (l.drop (k + 1)) else 0) | none => 0) := by
  cases h : l[k]? with
  | none =>
    rw [List.drop_eq_nil_of_le (List.getElem?_eq_none_iff.mp h)]
    rfl
  | some c =>
    have hk : k < l.length := (List.getElem?_eq_some_iff.mp h).1
    rw [List.drop_eq_getElem_cons hk, (List.getElem?_eq_some_iff.mp h).2]
    rfl
theorem lt1 (a c : Nat) : decide ([a] < [c]) = decide (a < c) := by
  rw [Bool.eq_iff_iff, decide_eq_true_iff, decide_eq_true_iff]
  constructor
  · intro h
    cases h with
    | rel r => exact r
    | cons r => cases r
  · intro h
    exact List.Lex.rel h
abbrev sPlain : Stmt := top 14
abbrev sBehind : Stmt := top 13
theorem scPlain : FnScope ["sign"] ["sign"] (defScope sPlain) := ⟨rfl, rfl, rfl, by decide +kernel, rfl, by decide +kernel, by decide +kernel⟩
theorem scBehind : FnScope ["text", "at"] ["text", "at"] (defScope sBehind) := ⟨rfl, rfl, rfl, by decide +kernel, rfl, by decide +kernel, by decide +kernel⟩
def spPlain : Sp := fun vs H Q _ => ∃ z : Str, vs = [.str z] ∧ z.length ≤ 1 ∧ Q (.bl (plainB z)) H
def spBehind : Sp := fun vs H Q _ => ∃ (t : Str) (k : Nat), vs = [.str t, .int (k : Int)] ∧ t.length ≤ sizeLine ∧ Q (.int ((k + plainLen ((tl t).drop k) : Nat) : Int)) H
abbrev sSign : Stmt := top 15
theorem scSign : FnScope ["sign"] ["sign"] (defScope sSign) := ⟨rfl, rfl, rfl, by decide +kernel, rfl, by decide +kernel, by decide +kernel⟩
/-- one of the signs that texts have -/
def signB (z : Str) : Bool := match tl z with
  | [c] => decide (32 ≤ c ∧ c ≤ 126 ∧ c ≠ 37)
  | _ => false
def spSign : Sp := fun vs H Q _ => ∃ z : Str, vs = [.str z] ∧ z.length ≤ 1 ∧ Q (.bl (signB z)) H
theorem one_or {z : Str} (hl : z.length ≤ 1) : tl z = [] ∨ ∃ c, tl z = [c] := by
  have := len_tl z
  cases h : tl z with
  | nil => exact .inl rfl
  | cons c r =>
    rw [h, List.length_cons] at this
    exact .inr ⟨c, by rw [List.length_eq_zero_iff.mp (show r.length = 0 by omega)]⟩
section
variable {P : Program} {w : World} {K : PySem.W.Frag} {mg : Str → Option Value} {base : Heap}
theorem ok_sign {f : Addr} {fd : FuncData} {k : Nat} (F : FnP K "is_sign" sSign f fd) (mo : mg "ord" = none) (gP : ∃ t, mg "PERCENT" = some (.int 37 t)) : FnOk P w K mg base CX0 (k + 1) f fd ["sign"] spSign := by
  obtain ⟨tm, gP⟩ := gP
  refine F.ok scSign (fun vs H Q E h => ?_) (fun cdv A outer s H vs Q E hr h => ?_)
  · obtain ⟨x, rfl, _⟩ := h
    rfl
  · obtain ⟨z, rfl, hl, q⟩ := h
    refine ⟨_, PSs.nox (pss_one (ps_ret (pe_and (pe_chain op_le_str op_le_str pe_str (pv 0) pe_str) (pe_one (pe_cmpR op_ne (pe_callB call_ord (by rfl) mo (by decide +kernel) (pa_cons (pv 0) pa_nil)) (pe_glob (v := .int 37) (by rfl) gP ⟨_, rfl⟩) (nomark _)))))), ?_⟩
    have t32 : (Str.ofString " ").cps.toList = [32] := by decide +kernel
    have t126 : (Str.ofString "~").cps.toList = [126] := by decide +kernel
    refine ⟨_, rfl, _, z, rfl, rfl, _, rfl, ?_⟩
    rcases one_or hl with e | ⟨c, e⟩
    · have e' : z.cps.toList = [] := e
      have d1 : decide (z.cps.toList < (Str.ofString " ").cps.toList) = true := by rw [e', t32]; decide
      have ep : signB z = false := by unfold signB; rw [e]
      rw [d1]
      refine iteF ⟨false, rfl, iteF ?_⟩
      rw [ep] at q
      exact q
    · have e' : z.cps.toList = [c] := e
      have ep : signB z = decide (32 ≤ c ∧ c ≤ 126 ∧ c ≠ 37) := by unfold signB; rw [e]
      rw [ep] at q
      have d1 : decide (z.cps.toList < (Str.ofString " ").cps.toList) = decide (c < 32) := by rw [e', t32]; exact lt1 c 32
      have d2 : decide ((Str.ofString "~").cps.toList < z.cps.toList) = decide (126 < c) := by rw [e', t126]; exact lt1 126 c
      rw [d1]
      by_cases h1 : c < 32
      · rw [decide_eq_true h1]
        refine iteF ⟨false, rfl, iteF ?_⟩
        rw [decide_eq_false (fun h : 32 ≤ c ∧ c ≤ 126 ∧ c ≠ 37 => by have := h.1; omega)] at q
        exact q
      · rw [decide_eq_false h1]
        refine iteT ⟨z, _, rfl, rfl, _, rfl, ?_⟩
        rw [d2]
        by_cases h2 : 126 < c
        · rw [decide_eq_true h2]
          refine iteF ?_
          rw [decide_eq_false (fun h : 32 ≤ c ∧ c ≤ 126 ∧ c ≠ 37 => by have := h.2.1; omega)] at q
          exact q
        · rw [decide_eq_false h2]
          refine iteT ⟨_, rfl, z, rfl, ?_, rfl, ?_⟩
          · rw [len_tl, e]; rfl
          · have g : (z.cps.getD 0 0) = c := by
              have : z = ⟨#[c]⟩ := ext_tl e
              rw [this]
              rfl
            rw [g]
            by_cases h4 : c = 37
            · rw [decide_eq_false (fun h : 32 ≤ c ∧ c ≤ 126 ∧ c ≠ 37 => h.2.2 h4)] at q
              have d4 : decide (V.int (c : Int) = V.int 37) = true := decide_eq_true (by rw [h4]; rfl)
              rw [d4]
              exact q
            · rw [decide_eq_true (show 32 ≤ c ∧ c ≤ 126 ∧ c ≠ 37 from ⟨by omega, by omega, h4⟩)] at q
              have d4 : decide (V.int (c : Int) = V.int 37) = false := decide_eq_false (fun h => h4 (by have := V.int.inj h; omega))
              rw [d4]
              exact q
theorem ok_plain {f fS : Addr} {fd fdS : FuncData} {k : Nat} (F : FnP K "_is_plain" sPlain f fd) (FS : FnP K "is_sign" sSign fS fdS) (gS : mg "is_sign" = some (.ref fS)) (GS : FnOk P w K mg base CX0 k fS fdS ["sign"] spSign) : FnOk P w K mg base CX0 (k + 1) f fd ["sign"] spPlain := by
  have bS : Binds K fdS ["sign"] [] := FS.bindsN fun _ _ _ _ _ _ us hl => match us, hl with | [_], _ => rfl
  refine F.ok scPlain (fun vs H Q E h => ?_) (fun cdv A outer s H vs Q E hr h => ?_)
  · obtain ⟨x, rfl, _⟩ := h
    rfl
  · obtain ⟨z, rfl, hl, q⟩ := h
    refine ⟨_, PSs.nox (pss_one (ps_ret (pe_and (pe_call GS hr (by rfl) gS FS.kp bS .nil pass0 (pa_cons (pv 0) pa_nil)) (pe_one (pe_cmpR op_ne (pv 0) pe_str (nomark _)))))), ?_⟩
    have t34 : tl (Str.ofString "\"") = [34] := by decide +kernel
    refine ⟨_, rfl, z, rfl, hl, _, rfl, ?_⟩
    rcases one_or hl with e | ⟨c, e⟩
    · have es : signB z = false := by unfold signB; rw [e]
      have ep : plainB z = false := by unfold plainB; rw [e]
      rw [ep] at q
      rw [es]
      exact iteF q
    · have es : signB z = decide (32 ≤ c ∧ c ≤ 126 ∧ c ≠ 37) := by unfold signB; rw [e]
      have ep : plainB z = decide (plain c) := by unfold plainB; rw [e]
      rw [ep] at q
      rw [es]
      by_cases h0 : 32 ≤ c ∧ c ≤ 126 ∧ c ≠ 37
      · rw [decide_eq_true h0]
        refine iteT ⟨_, rfl, rfl, ?_⟩
        have d3 : (!decide (V.str z = V.str (Str.ofString "\""))) = decide (plain c) := by
          have d4 : decide (V.str z = V.str (Str.ofString "\"")) = decide (c = 34) := decide_eq_decide.mpr ⟨fun h => by
            have h' := congrArg tl (V.str.inj h)
            rw [e, t34] at h'
            exact (List.cons.inj h').1, fun h => congrArg V.str (ext_tl (by rw [e, t34, h]))⟩
          rw [d4]
          by_cases h3 : c = 34
          · rw [decide_eq_true h3, decide_eq_false (fun h : plain c => h.2.2.1 h3)]
            rfl
          · rw [decide_eq_false h3, decide_eq_true (show plain c from ⟨h0.1, h0.2.1, h3, h0.2.2⟩)]
            rfl
        show Q (.bl (!decide (V.str z = V.str (Str.ofString "\"")))) H
        rw [d3]
        exact q
      · rw [decide_eq_false h0]
        rw [decide_eq_false (fun h : plain c => h0 ⟨h.1, h.2.1, h.2.2.2⟩)] at q
        exact iteF q
theorem ok_behind {f fP : Addr} {fd fdP : FuncData} {k : Nat} (F : FnP K "_behind_plain_signs" sBehind f fd) (FP : FnP K "_is_plain" sPlain fP fdP) (gP : mg "_is_plain" = some (.ref fP)) (GP : FnOk P w K mg base CX0 k fP fdP ["sign"] spPlain) : FnOk P w K mg base CX0 (k + 1) f fd ["text", "at"] spBehind := by
  have bP : Binds K fdP ["sign"] [] := FP.bindsN fun _ _ _ _ _ _ us hl => match us, hl with | [_], _ => rfl
  refine F.ok scBehind (fun vs H Q E h => ?_) (fun cdv A outer s H vs Q E hr h => ?_)
  · obtain ⟨t, n, rfl, _⟩ := h
    rfl
  · obtain ⟨t, n, rfl, hz, q⟩ := h
    have hl := len_tl t
    refine ⟨_, PSs.nox (pss_cons (ps_while PassesOwn.never (pt_val (pe_call GP hr (by rfl) gP FP.kp bP .nil pass0 (pa_cons (pe_slice sl_str (pv 0) (po_some (pv 1)) (po_some (pe_op op_add (pv 1) pe_int))) pa_nil)))
        (pss_one (ps_aug (i := 1) scBehind.nd rfl (.inl rfl) pe_int ip_add))) (pss_one (ps_ret (pv 1)))), ?_⟩
    refine ⟨fun m σ H' => H' = H ∧ ∃ j : Nat, σ = [some (.str t), some (.int (j : Int))] ∧ j + plainLen ((tl t).drop j) = n + plainLen ((tl t).drop n) ∧ m = (tl t).length - j, ⟨_, rfl, n, rfl, rfl, rfl⟩, ?_⟩
    rintro m σ H' ⟨rfl, j, rfl, ej, rfl⟩
    have sl : (sg t j).length ≤ 1 := sg_len t j
    have pa := plainLen_at (tl t) j
    refine ⟨_, rfl, _, rfl, (j : Int), rfl, _, rfl, (j : Int), 1, rfl, rfl, (j : Int) + 1, rfl, t, rfl, hz, sg t j, rfl, sl, _, rfl, ?_⟩
    have et := tl_sg' t j
    cases hj : (tl t)[j]? with
    | none =>
      rw [hj] at et pa
      have eb : plainB (sg t j) = false := by unfold plainB; rw [et]
      rw [eb]
      refine iteF ⟨_, rfl, ?_⟩
      rw [← ej, pa] at q
      exact q
    | some c =>
      rw [hj] at et pa
      have eb : plainB (sg t j) = decide (plain c) := by unfold plainB; rw [et]
      rw [eb]
      have hjl : j < (tl t).length := (List.getElem?_eq_some_iff.mp hj).1
      by_cases hp : plain c
      · rw [decide_eq_true hp]
        have pa' : plainLen ((tl t).drop j) = 1 + plainLen ((tl t).drop (j + 1)) := by
          rw [pa]
          exact if_pos hp
        refine iteT ⟨fun σ' H2 => ∃ m', m' < (tl t).length - j ∧ H2 = H' ∧ ∃ j : Nat, σ' = [some (.str t), some (.int (j : Int))] ∧ j + plainLen ((tl t).drop j) = n + plainLen ((tl t).drop n) ∧ m' = (tl t).length - j, fun _ _ h => h, ?_⟩
        refine ⟨_, rfl, (j : Int), 1, rfl, rfl, _, ?_, rfl, j + 1, rfl, by omega, rfl⟩
        omega
      · rw [decide_eq_false hp]
        have pa' : plainLen ((tl t).drop j) = 0 := by
          rw [pa]
          exact if_neg hp
        refine iteF ⟨_, rfl, ?_⟩
        rw [← ej, pa'] at q
        exact q
end
end Vl

set_option maxHeartbeats 4000000
namespace Vl
open PySem PySem.Spec PyProof.Rows L2 TL CwR PySem.StrLaws
abbrev sNumber : Stmt := top 11
abbrev sText : Stmt := top 12
theorem scNumber : FnScope ["text", "at", "first", "behind"] ["text", "at"] (defScope sNumber) := ⟨rfl, rfl, rfl, by decide +kernel, rfl, by decide +kernel, by decide +kernel⟩
theorem scText : FnScope ["text", "at", "pieces", "end"] ["text", "at"] (defScope sText) := ⟨rfl, rfl, rfl, by decide +kernel, rfl, by decide +kernel, by decide +kernel⟩
def spNumber : Sp := fun vs H Q _ => ∃ (t : Str) (k : Nat), vs = [.str t, .int (k : Int)] ∧ t.length ≤ sizeLine ∧ k ≤ 2 * sizeLine ∧ Q (.int ((k + numLen ((tl t).drop k) : Nat) : Int)) H
def spText : Sp := fun vs H Q _ => ∃ (t : Str) (k : Nat) (v : List Nat) (n : Nat), vs = [.str t, .int (k : Int)] ∧ t.length ≤ sizeLine ∧ txtM ((tl t).drop k) = .ok v n ∧
  ∀ H' p r, Same H H' → H p = none → tl r = v → H' p = some (.tup [.str r, .int ((k + n : Nat) : Int)]) → Q (.ref p) H'
/-- a figure between two -/
theorem fig_at {t lo hi : Str} {a b : Nat} (hlo : lo.cps.toList = [a]) (hhi : hi.cps.toList = [b]) (k : Nat) :
    (!decide ((sg t k).cps.toList < lo.cps.toList)) = (match (tl t)[k]? with | some c => decide (a ≤ c) | none => false) ∧ (!decide (hi.cps.toList < (sg t k).cps.toList)) = (match (tl t)[k]? with | some c => decide (c ≤ b) | none => true) := by
  have e : (sg t k).cps.toList = _ := tl_sg' t k
  rw [e, hlo, hhi]
  cases (tl t)[k]? with
  | none =>
    refine ⟨?_, ?_⟩
    · show (!decide (([] : List Nat) < [a])) = false
      have h : ([] : List Nat) < [a] := List.Lex.nil
      rw [decide_eq_true h]
      rfl
    · show (!decide ([b] < ([] : List Nat))) = true
      rw [decide_eq_false (by intro h; cases h)]
      rfl
  | some c =>
    refine ⟨?_, ?_⟩
    · show (!decide ([c] < [a])) = decide (a ≤ c)
      rw [lt1, ← decide_not]
      exact decide_eq_decide.mpr (by omega)
    · show (!decide ([b] < [c])) = decide (c ≤ b)
      rw [lt1, ← decide_not]
      exact decide_eq_decide.mpr (by omega)
theorem cnt_at (m : Nat) (l : List Nat) (k : Nat) : cnt (m + 1) (l.drop k) = (match l[k]? with | some c => (if 48 ≤ c ∧ c ≤ 57 then 1 + cnt m (l.drop (k + 1)) else 0) | none => 0) := by
  cases h : l[k]? with
  | none =>
    rw [List.drop_eq_nil_of_le (List.getElem?_eq_none_iff.mp h)]
    rfl
  | some c =>
    have hk : k < l.length := (List.getElem?_eq_some_iff.mp h).1
    rw [List.drop_eq_getElem_cons hk, (List.getElem?_eq_some_iff.mp h).2]
    rfl
theorem figs_at (l : List Nat) (k : Nat) : figs (l.drop k) = (match l[k]? with | some c => (if 49 ≤ c ∧ c ≤ 57 then 1 + cnt 39 (l.drop (k + 1)) else 0) | none => 0) := by
  cases h : l[k]? with
  | none =>
    rw [List.drop_eq_nil_of_le (List.getElem?_eq_none_iff.mp h)]
    rfl
  | some c =>
    have hk : k < l.length := (List.getElem?_eq_some_iff.mp h).1
    rw [List.drop_eq_getElem_cons hk, (List.getElem?_eq_some_iff.mp h).2]
    rfl
/-- a number's length from its first figure's place -/
theorem numLen_at (l : List Nat) (k : Nat) (h0 : l[k]? ≠ some 48) : numLen (l.drop k) = (if l[k]? = some 45 then (if figs (l.drop (k + 1)) = 0 then 0 else 1 + figs (l.drop (k + 1))) else figs (l.drop k)) := by
  cases h : l[k]? with
  | none =>
    rw [List.drop_eq_nil_of_le (List.getElem?_eq_none_iff.mp h), if_neg (by simp)]
    rfl
  | some c =>
    have hk : k < l.length := (List.getElem?_eq_some_iff.mp h).1
    have e : l.drop k = c :: l.drop (k + 1) := by rw [List.drop_eq_getElem_cons hk, (List.getElem?_eq_some_iff.mp h).2]
    rw [e]
    have hc : c ≠ 48 := fun z => h0 (by rw [h, z])
    show (if c = 48 then 1 else if c = 45 then (if figs (l.drop (k + 1)) = 0 then 0 else 1 + figs (l.drop (k + 1))) else figs (c :: l.drop (k + 1))) = _
    rw [if_neg hc]
    by_cases h5 : c = 45
    · subst h5
      rw [if_pos rfl, if_pos rfl]
    · rw [if_neg h5, if_neg (fun z => h5 (Option.some.inj z))]
section
variable {P : Program} {w : World} {K : PySem.W.Frag} {mg : Str → Option Value} {base : Heap}
theorem ok_number {f : Addr} {fd : FuncData} {k : Nat} (F : FnP K "_behind_number" sNumber f fd) (gM : ∃ t, mg "MOST_FIGURES" = some (.int 40 t)) : FnOk P w K mg base CX0 (k + 1) f fd ["text", "at"] spNumber := by
  obtain ⟨tm, gM⟩ := gM
  refine F.ok scNumber (fun vs H Q E h => ?_) (fun cdv A outer s H vs Q E hr h => ?_)
  · obtain ⟨t, n, rfl, _⟩ := h
    rfl
  · obtain ⟨t, n, rfl, hz, hn, q⟩ := h
    have hs := szl
    refine ⟨_, PSs.nox (pss_cons (ps_if (pt_cmpR op_eq (pe_slice sl_str (pv 0) (po_some (pv 1)) (po_some (pe_op op_add (pv 1) pe_int))) pe_str (nomark _)) (pss_one (ps_ret (pe_op op_add (pv 1) pe_int))) pss_nil)
      (C8.pss_cut (ps_set (i := 2) scNumber.nd rfl (.inl rfl) (pe_ifExp (pt_cmpR op_eq (pe_slice sl_str (pv 0) (po_some (pv 1)) (po_some (pe_op op_add (pv 1) pe_int))) pe_str (nomark _)) (pe_op op_add (pv 1) pe_int) (pv 1)))
      (pss_cons (ps_if (pt_not (pt_chain op_le_str op_le_str pe_str (pe_slice sl_str (pv 0) (po_some (pv 2)) (po_some (pe_op op_add (pv 2) pe_int))) pe_str)) (pss_one (ps_ret (pv 1))) pss_nil)
      (pss_cons (ps_set (i := 3) scNumber.nd rfl (.inl rfl) (pe_op op_add (pv 2) pe_int))
      (pss_cons (ps_while PassesOwn.never (PW.pt (pw_and (pt_cmpR op_lt (pv 3) (pe_op op_add (pv 2) (pe_glob (v := .int 40) (by rfl) gM ⟨_, rfl⟩)) (nomark _)) (pw_and1 (pt_chain op_le_str op_le_str pe_str (pe_slice sl_str (pv 0) (po_some (pv 3)) (po_some (pe_op op_add (pv 3) pe_int))) pe_str))))
        (pss_one (ps_aug (i := 3) scNumber.nd rfl (.inl rfl) pe_int ip_add)))
      (pss_one (ps_ret (pv 3)))))))), ?_⟩
    have t48 : tl (Str.ofString "0") = [48] := by decide +kernel
    have t45 : tl (Str.ofString "-") = [45] := by decide +kernel
    have c49 : (Str.ofString "1").cps.toList = [49] := by decide +kernel
    have c57 : (Str.ofString "9").cps.toList = [57] := by decide +kernel
    have c48 : (Str.ofString "0").cps.toList = [48] := by decide +kernel
    refine ⟨_, rfl, _, rfl, (n : Int), rfl, _, rfl, (n : Int), 1, rfl, rfl, (n : Int) + 1, rfl, t, rfl, hz, rfl, _, rfl, ite2 (fun e => ?_) (fun e => ?_)⟩
    · have e0 : (tl t)[n]? = some 48 := (sg_eq t48).mp (of_decide_eq_true e)
      have en : numLen ((tl t).drop n) = 1 := by
        have hk : n < (tl t).length := (List.getElem?_eq_some_iff.mp e0).1
        rw [List.drop_eq_getElem_cons hk, (List.getElem?_eq_some_iff.mp e0).2]
        rfl
      rw [en] at q
      exact ⟨_, rfl, (n : Int), 1, rfl, rfl, q⟩
    · have e0 : (tl t)[n]? ≠ some 48 := fun h => e (decide_eq_true ((sg_eq t48).mpr h))
      have en := numLen_at (tl t) n e0
      refine ⟨fun σ' H' => H' = H ∧ ∃ fst : Nat, σ' = [some (.str t), some (.int (n : Int)), some (.int (fst : Int)), none] ∧ fst ≤ n + 1 ∧ n ≤ fst ∧ numLen ((tl t).drop n) = (if figs ((tl t).drop fst) = 0 then 0 else fst - n + figs ((tl t).drop fst)), ?_, ?_⟩
      · refine ⟨_, rfl, _, rfl, (n : Int), rfl, _, rfl, (n : Int), 1, rfl, rfl, (n : Int) + 1, rfl, t, rfl, hz, rfl, _, rfl, ite2 (fun e => ?_) (fun e => ?_)⟩
        · have e1 : (tl t)[n]? = some 45 := (sg_eq t45).mp (of_decide_eq_true e)
          refine ⟨_, rfl, (n : Int), 1, rfl, rfl, rfl, n + 1, rfl, Nat.le_refl _, by omega, ?_⟩
          rw [en, if_pos e1, show n + 1 - n = 1 by omega]
        · have e1 : (tl t)[n]? ≠ some 45 := fun h => e (decide_eq_true ((sg_eq t45).mpr h))
          refine ⟨_, rfl, rfl, n, rfl, by omega, Nat.le_refl _, ?_⟩
          rw [en, if_neg e1, Nat.sub_self]
          by_cases hf : figs ((tl t).drop n) = 0
          · rw [if_pos hf, hf]
          · rw [if_neg hf, Nat.zero_add]
      · rintro σ' H' ⟨rfl, fst, rfl, f1, f0, ef⟩
        obtain ⟨g1, g2⟩ := fig_at (t := t) c49 c57 fst
        have fa := figs_at (tl t) fst
        refine ⟨_, rfl, _, rfl, (fst : Int), rfl, _, rfl, (fst : Int), 1, rfl, rfl, (fst : Int) + 1, rfl, t, rfl, hz, _, sg t fst, rfl, rfl, _, rfl, ?_⟩
        have back : figs ((tl t).drop fst) = 0 → Q (.int (n : Int)) H' := fun h => by
          rw [ef, if_pos h] at q
          exact q
        rw [g1]
        cases hc : (tl t)[fst]? with
        | none =>
          rw [hc] at fa
          refine iteF ⟨_, rfl, iteT ⟨_, rfl, back fa⟩⟩
        | some c =>
          rw [hc] at fa g2
          have fa' : figs ((tl t).drop fst) = (if 49 ≤ c ∧ c ≤ 57 then 1 + cnt 39 ((tl t).drop (fst + 1)) else 0) := fa
          show if decide (49 ≤ c) = true then _ else _
          by_cases h1 : 49 ≤ c
          · rw [decide_eq_true h1]
            refine iteT ⟨sg t fst, _, rfl, rfl, _, rfl, ?_⟩
            rw [g2]
            show if (!decide (c ≤ 57)) = true then _ else _
            by_cases h2 : c ≤ 57
            · refine iteNS h2 ?_
              rw [if_pos ⟨h1, h2⟩] at fa'
              rw [fa', if_neg (by omega)] at ef
              refine ⟨_, rfl, (fst : Int), 1, rfl, rfl, ?_⟩
              refine ⟨fun m σ H2 => H2 = H' ∧ ∃ j : Nat, σ = [some (.str t), some (.int (n : Int)), some (.int (fst : Int)), some (.int ((fst + 1 + j : Nat) : Int))] ∧ j ≤ 39 ∧ j + cnt (39 - j) ((tl t).drop (fst + 1 + j)) = cnt 39 ((tl t).drop (fst + 1)) ∧ m = 39 - j, ⟨39, rfl, 0, rfl, by omega, by simp, rfl⟩, ?_⟩
              rintro m σ H2 ⟨rfl, j, rfl, j39, ej, rfl⟩
              have fin : cnt (39 - j) ((tl t).drop (fst + 1 + j)) = 0 → Q (.int ((fst + 1 + j : Nat) : Int)) H2 := fun h => by
                have e1 : n + numLen ((tl t).drop n) = fst + 1 + j := by omega
                rw [e1] at q
                exact q
              refine ⟨_, rfl, _, rfl, (fst : Int), 40, rfl, rfl, _, _, rfl, rfl, _, rfl, ite2 (fun e => ?_) (fun e => ?_)⟩
              · have hj : j < 39 := by
                  have := of_decide_eq_true e
                  omega
                obtain ⟨k1, k2⟩ := fig_at (t := t) c48 c57 (fst + 1 + j)
                have ca := cnt_at (38 - j) (tl t) (fst + 1 + j)
                rw [show 38 - j + 1 = 39 - j by omega] at ca
                refine ⟨_, rfl, _, rfl, ((fst + 1 + j : Nat) : Int), rfl, _, rfl, ((fst + 1 + j : Nat) : Int), 1, rfl, rfl, ((fst + 1 + j : Nat) : Int) + 1, rfl, t, rfl, hz, _, sg t (fst + 1 + j), rfl, rfl, _, rfl, ?_⟩
                rw [k1]
                cases hd : (tl t)[fst + 1 + j]? with
                | none =>
                  rw [hd] at ca
                  exact iteF ⟨_, rfl, iteF ⟨_, rfl, fin ca⟩⟩
                | some c2 =>
                  rw [hd] at ca k2
                  have ca' : cnt (39 - j) ((tl t).drop (fst + 1 + j)) = (if 48 ≤ c2 ∧ c2 ≤ 57 then 1 + cnt (38 - j) ((tl t).drop (fst + 1 + j + 1)) else 0) := ca
                  show if decide (48 ≤ c2) = true then _ else _
                  by_cases q1 : 48 ≤ c2
                  · rw [decide_eq_true q1]
                    refine iteT ⟨sg t (fst + 1 + j), _, rfl, rfl, _, rfl, ?_⟩
                    rw [k2]
                    show if decide (c2 ≤ 57) = true then _ else _
                    by_cases q2 : c2 ≤ 57
                    · rw [if_pos ⟨q1, q2⟩] at ca'
                      rw [decide_eq_true q2]
                      refine iteT ⟨fun σ' H3 => ∃ m', m' < 39 - j ∧ H3 = H2 ∧ ∃ j : Nat, σ' = [some (.str t), some (.int (n : Int)), some (.int (fst : Int)), some (.int ((fst + 1 + j : Nat) : Int))] ∧ j ≤ 39 ∧ j + cnt (39 - j) ((tl t).drop (fst + 1 + j)) = cnt 39 ((tl t).drop (fst + 1)) ∧ m' = 39 - j, fun _ _ h => h, ?_⟩
                      refine ⟨_, rfl, ((fst + 1 + j : Nat) : Int), 1, rfl, rfl, 39 - (j + 1), by omega, rfl, j + 1, rfl, by omega, ?_, rfl⟩
                      rw [show 39 - (j + 1) = 38 - j by omega, show fst + 1 + (j + 1) = fst + 1 + j + 1 by omega]
                      omega
                    · rw [if_neg (fun h => q2 h.2)] at ca'
                      rw [decide_eq_false q2]
                      exact iteF ⟨_, rfl, fin ca'⟩
                  · rw [if_neg (fun h => q1 h.1)] at ca'
                    rw [decide_eq_false q1]
                    exact iteF ⟨_, rfl, iteF ⟨_, rfl, fin ca'⟩⟩
              · have hj : j = 39 := by
                  rcases Nat.lt_or_ge j 39 with h | h
                  · exact absurd (decide_eq_true (show (((fst + 1 + j : Nat) : Int)) < (fst : Int) + 40 by omega)) e
                  · omega
                refine iteF ⟨_, rfl, fin ?_⟩
                rw [hj]
                rfl
            · rw [decide_eq_false h2]
              rw [if_neg (fun h => h2 h.2)] at fa'
              exact iteT ⟨_, rfl, back fa'⟩
          · rw [decide_eq_false h1]
            rw [if_neg (fun h => h1 h.1)] at fa'
            exact iteF ⟨_, rfl, iteT ⟨_, rfl, back fa'⟩⟩
end
end Vl

set_option maxHeartbeats 4000000
namespace Vl
open PySem PySem.Spec PyProof.Rows L2 TL CwR PySem.StrLaws
/-- up to the first sign that isn't plain -/
theorem txtM_split : ∀ (l v : List Nat) (n : Nat), txtM l = .ok v n → ∃ r, l.drop (plainLen l) = 34 :: r ∧
    ((r.head? ≠ some 34 ∧ v = l.take (plainLen l) ∧ n = plainLen l + 1) ∨ ∃ r' v' n', r = 34 :: r' ∧ txtM r' = .ok v' n' ∧ v = l.take (plainLen l) ++ 34 :: v' ∧ n = plainLen l + 2 + n')
  | [], v, n, h => by cases h
  | [c], v, n, h => by
    have h' : (if c = 34 then TR.ok [] 1 else if plain c then .err 1 else .err 0) = .ok v n := h
    by_cases h1 : c = 34
    · rw [if_pos h1] at h'
      cases h'
      subst h1
      have e : plainLen [34] = 0 := rfl
      rw [e]
      exact ⟨[], rfl, .inl ⟨by simp, rfl, rfl⟩⟩
    · rw [if_neg h1] at h'
      by_cases h2 : plain c
      · rw [if_pos h2] at h'; cases h'
      · rw [if_neg h2] at h'; cases h'
  | c :: e :: r, v, n, h => by
    have h' : (if c = 34 then (if e = 34 then (txtM r).up [34] 2 else TR.ok [] 1) else if plain c then (txtM (e :: r)).up [c] 1 else .err 0) = .ok v n := h
    by_cases h1 : c = 34
    · rw [if_pos h1] at h'
      subst h1
      have ep : plainLen (34 :: e :: r) = 0 := rfl
      rw [ep]
      by_cases h2 : e = 34
      · rw [if_pos h2] at h'
        subst h2
        cases ht : txtM r with
        | err m => rw [ht] at h'; cases h'
        | ok v' n' =>
          rw [ht] at h'
          cases h'
          exact ⟨34 :: r, rfl, .inr ⟨r, v', n', rfl, ht, rfl, by omega⟩⟩
      · rw [if_neg h2] at h'
        cases h'
        exact ⟨e :: r, rfl, .inl ⟨fun z => h2 (Option.some.inj z), rfl, rfl⟩⟩
    · rw [if_neg h1] at h'
      by_cases h2 : plain c
      · rw [if_pos h2] at h'
        have ep : plainLen (c :: e :: r) = plainLen (e :: r) + 1 := by
          show (if plain c then 1 + plainLen (e :: r) else 0) = _
          rw [if_pos h2]
          omega
        cases ht : txtM (e :: r) with
        | err m => rw [ht] at h'; cases h'
        | ok v' n' =>
          rw [ht] at h'
          cases h'
          obtain ⟨r2, e2, q⟩ := txtM_split (e :: r) v' n' ht
          rw [ep]
          refine ⟨r2, e2, ?_⟩
          rcases q with ⟨q1, q2, q3⟩ | ⟨r', v2, n2, q1, q2, q3, q4⟩
          · exact .inl ⟨q1, by rw [q2]; rfl, by omega⟩
          · exact .inr ⟨r', v2, n2, q1, q2, by rw [q3]; rfl, by omega⟩
      · rw [if_neg h2] at h'; cases h'
theorem txtM_len : ∀ (l v : List Nat) (n : Nat), txtM l = .ok v n → v.length + 1 ≤ n ∧ n ≤ l.length
  | [], v, n, h => by cases h
  | [c], v, n, h => by
    have h' : (if c = 34 then TR.ok [] 1 else if plain c then .err 1 else .err 0) = .ok v n := h
    by_cases h1 : c = 34
    · rw [if_pos h1] at h'
      cases h'
      exact ⟨Nat.le_refl 1, Nat.le_refl 1⟩
    · rw [if_neg h1] at h'
      by_cases h2 : plain c
      · rw [if_pos h2] at h'; cases h'
      · rw [if_neg h2] at h'; cases h'
  | c :: e :: r, v, n, h => by
    have h' : (if c = 34 then (if e = 34 then (txtM r).up [34] 2 else TR.ok [] 1) else if plain c then (txtM (e :: r)).up [c] 1 else .err 0) = .ok v n := h
    have el : (c :: e :: r).length = r.length + 2 := rfl
    by_cases h1 : c = 34
    · rw [if_pos h1] at h'
      by_cases h2 : e = 34
      · rw [if_pos h2] at h'
        cases ht : txtM r with
        | err m => rw [ht] at h'; cases h'
        | ok v' n' =>
          rw [ht] at h'
          cases h'
          have := txtM_len r v' n' ht
          rw [el]
          refine ⟨?_, by omega⟩
          show v'.length + 1 + 1 ≤ _
          omega
      · rw [if_neg h2] at h'
        cases h'
        rw [el]
        exact ⟨Nat.le_refl 1, by omega⟩
    · rw [if_neg h1] at h'
      by_cases h2 : plain c
      · rw [if_pos h2] at h'
        cases ht : txtM (e :: r) with
        | err m => rw [ht] at h'; cases h'
        | ok v' n' =>
          rw [ht] at h'
          cases h'
          have := txtM_len (e :: r) v' n' ht
          have e2 : (e :: r).length = r.length + 1 := rfl
          rw [el]
          refine ⟨?_, by omega⟩
          show v'.length + 1 + 1 ≤ _
          omega
      · rw [if_neg h2] at h'; cases h'
section
variable {P : Program} {w : World} {K : PySem.W.Frag} {mg : Str → Option Value} {base : Heap}
theorem ok_text {f fB : Addr} {fd fdB : FuncData} {k : Nat} (F : FnP K "_read_text" sText f fd) (FB : FnP K "_behind_plain_signs" sBehind fB fdB) (gB : mg "_behind_plain_signs" = some (.ref fB)) (GB : FnOk P w K mg base CX0 k fB fdB ["text", "at"] spBehind) : FnOk P w K mg base CX0 (k + 1) f fd ["text", "at"] spText := by
  have bB : Binds K fdB ["text", "at"] [] := FB.bindsN fun _ _ _ _ _ _ us hl => match us, hl with | [_, _], _ => rfl
  refine F.ok scText (fun vs H Q E h => ?_) (fun cdv A outer s H vs Q E hr h => ?_)
  · obtain ⟨t, n, v, m, rfl, _⟩ := h
    rfl
  · obtain ⟨t, k0, v, n, rfl, hz, ht, q⟩ := h
    have hs := szl
    have hl := len_tl t
    have t34 : tl (Str.ofString "\"") = [34] := by decide +kernel
    have l34 : (Str.ofString "\"").length = 1 := by decide +kernel
    refine ⟨_, PSs.nox (pss_cons (ps_set (i := 2) scText.nd rfl (.inl rfl) (pe_lst pa_nil))
      (pss_one (ps_while PassesOwn.never (pt_val pe_bl) (pss_cons (ps_set (i := 3) scText.nd rfl (.inl rfl) (pe_call GB hr (by rfl) gB FB.kp bB .nil pass0 (pa_cons (pv 0) (pa_cons (pv 1) pa_nil))))
      (pss_cons (ps_expr (pe_bm PySem.F.plainAttrs_list PySem.F.slot_list_append PySem.F.type_list_append mt_append (pv 2) (pa_cons (pe_slice sl_str (pv 0) (po_some (pv 1)) (po_some (pv 3))) pa_nil)))
      (pss_cons (ps_if (pt_cmpR op_ne (pe_slice sl_str (pv 0) (po_some (pv 3)) (po_some (pe_op op_add (pv 3) (pe_int)))) (pe_str) (nomark _)) (pss_one ps_never) pss_nil)
      (pss_cons (ps_if (pt_cmpR op_ne (pe_slice sl_str (pv 0) (po_some (pe_op op_add (pv 3) (pe_int))) (po_some (pe_op op_add (pv 3) (pe_int)))) (pe_str) (nomark _)) (pss_one (ps_ret (pe_tup (pa_cons (pe_join pe_str (pv 2)) (pa_cons (pe_op op_add (pv 3) (pe_int)) pa_nil))))) pss_nil)
      (pss_cons (ps_expr (pe_bm PySem.F.plainAttrs_list PySem.F.slot_list_append PySem.F.type_list_append mt_append (pv 2) (pa_cons (pe_str) pa_nil)))
      (pss_one (ps_set (i := 1) scText.nd rfl (.inl rfl) (pe_op op_add (pv 3) (pe_int)))))))))))), ?_⟩
    refine ⟨Nat.zero_le _, fun pa npa => ?_⟩
    refine ⟨fun m σ H' => ∃ (j : Nat) (ps : List Str) (v' : List Nat) (n' : Nat) (y3 : Option V), σ = [some (.str t), some (.int (j : Int)), some (.ref pa), y3] ∧ H' pa = some (.lst (ps.map V.str)) ∧ Same H H' ∧ txtM ((tl t).drop j) = .ok v' n' ∧ flat ps ++ v' = v ∧ j + n' = k0 + n ∧ ps.length ≤ j ∧ m = n',
      ⟨n, k0, [], v, n, none, rfl, upd_same, same_upd npa, ht, rfl, rfl, Nat.zero_le _, rfl⟩, ?_⟩
    rintro m σ H' ⟨j, ps, v', n', y3, rfl, hp, sm, htj, hfl, hjn, hpl, rfl⟩
    obtain ⟨r, hr1, hcase⟩ := txtM_split _ _ _ htj
    have hlen := txtM_len _ _ _ htj
    rw [List.length_drop] at hlen
    have hpl2 : plainLen ((tl t).drop j) ≤ (tl t).length - j := by
      have := plainLen_le ((tl t).drop j)
      rw [List.length_drop] at this
      exact this
    refine ⟨_, rfl, iteT ⟨fun σ' H2 => ∃ m', m' < m ∧ ∃ (j : Nat) (ps : List Str) (v' : List Nat) (n' : Nat) (y3 : Option V), σ' = [some (.str t), some (.int (j : Int)), some (.ref pa), y3] ∧ H2 pa = some (.lst (ps.map V.str)) ∧ Same H H2 ∧ txtM ((tl t).drop j) = .ok v' n' ∧ flat ps ++ v' = v ∧ j + n' = k0 + n ∧ ps.length ≤ j ∧ m' = n', fun _ _ h => h, ?_⟩⟩
    have hvl := txtM_len _ _ _ ht
    rw [List.length_drop] at hvl
    obtain ⟨e, he⟩ : ∃ e, e = j + plainLen ((tl t).drop j) := ⟨_, rfl⟩
    have hde : (tl t).drop e = 34 :: r := by rw [he, ← List.drop_drop]; exact hr1
    have he0 : (tl t)[e]? = some 34 := drop_at hde
    have hde1 : (tl t).drop (e + 1) = r := drop_next (p := [34]) hde
    have hpc : tl (cutS t (some (j : Int)) (some (e : Int))) = ((tl t).drop j).take (plainLen ((tl t).drop j)) := by
      rw [tl_cut, show e - j = plainLen ((tl t).drop j) by omega]
    refine ⟨_, rfl, _, rfl, t, j, rfl, hz, ?_⟩
    rw [← he]
    refine ⟨_, rfl, .inl ⟨rfl, _, SqL.of hp⟩, _, rfl, _, rfl, (j : Int), rfl, _, rfl, (e : Int), rfl, t, rfl, hz, pa, _, _, rfl, rfl, hp, by rw [List.length_map]; omega, ?_⟩
    have hp1 : upd H' pa (.lst (ps.map V.str ++ [V.str (cutS t (some (j : Int)) (some (e : Int)))])) pa = some (.lst ((ps ++ [cutS t (some (j : Int)) (some (e : Int))]).map V.str)) := by rw [upd_same, List.map_append]; rfl
    have sm1 : Same H (upd H' pa (.lst (ps.map V.str ++ [V.str (cutS t (some (j : Int)) (some (e : Int)))]))) := same_put sm npa
    generalize upd H' pa (.lst (ps.map V.str ++ [V.str (cutS t (some (j : Int)) (some (e : Int)))])) = H1 at hp1 sm1
    refine ⟨_, rfl, _, rfl, (e : Int), rfl, _, rfl, (e : Int), 1, rfl, rfl, (e : Int) + 1, rfl, t, rfl, hz, rfl, _, rfl, iteNS ((sg_eq t34).mpr he0) ?_⟩
    refine ⟨_, rfl, _, rfl, (e : Int), 1, rfl, rfl, ((e + 1 : Nat) : Int), rfl, _, rfl, (e : Int), 2, rfl, rfl, ((e + 1 : Nat) : Int) + 1, rfl, t, rfl, hz, rfl, _, rfl, ?_⟩
    have hsg : (V.str (sg t (e + 1)) = V.str (Str.ofString "\"")) ↔ r.head? = some 34 := by
      rw [sg_eq t34, ← hde1, ← List.head?_drop]
    show if (!decide (V.str (sg t (e + 1)) = V.str (Str.ofString "\""))) = true then _ else _
    rcases hcase with ⟨q1, q2, q3⟩ | ⟨r', v2, n2, q1, q2, q3, q4⟩
    · have hd : decide (V.str (sg t (e + 1)) = V.str (Str.ofString "\"")) = false := decide_eq_false (fun h => q1 (hsg.mp h))
      rw [hd]
      refine iteT ?_
      have hfin : flat (ps ++ [cutS t (some (j : Int)) (some (e : Int))]) = v := by
        rw [flat_snoc, hpc, ← q2]
        exact hfl
      refine ⟨⟨_, rfl⟩, _, rfl, Str.ofString "", pa, ps ++ [cutS t (some (j : Int)) (some (e : Int))], rfl, rfl, .inl (SqL.of hp1), ?_, _, rfl, (e : Int), 1, rfl, rfl, by show 2 ≤ sizeLine; omega, fun p np => ?_⟩
      · have l0 : (Str.ofString "").length = 0 := by decide +kernel
        rw [l0, flat_len, hfin]
        omega
      · refine q _ p (Txt.join (Str.ofString "") (ps ++ [cutS t (some (j : Int)) (some (e : Int))])) (sm1.trans (same_upd np)) (sm1.free np) ?_ ?_
        · have t0 : tl (Str.ofString "") = [] := by decide +kernel
          rw [join_eq, tl_join, t0, joinL_nil]
          exact hfin
        · rw [upd_same]
          have e1 : ((k0 + n : Nat) : Int) = (e : Int) + 1 := by omega
          rw [e1]
    · have hd : decide (V.str (sg t (e + 1)) = V.str (Str.ofString "\"")) = true := decide_eq_true (hsg.mpr (by rw [q1]; rfl))
      rw [hd]
      refine iteF ?_
      refine ⟨_, rfl, .inl ⟨rfl, _, SqL.of hp1⟩, pa, _, _, rfl, rfl, hp1, by rw [List.length_map, List.length_append]; show ps.length + 1 < sizeLine; omega, ?_⟩
      have hde2 : (tl t).drop (e + 2) = r' := by
        rw [q1] at hde1
        exact drop_next (p := [34]) hde1
      refine ⟨_, rfl, (e : Int), 2, rfl, rfl, n2, by omega, e + 2, ps ++ [cutS t (some (j : Int)) (some (e : Int))] ++ [Str.ofString "\""], v2, n2, _, rfl, ?_, same_put sm1 npa, by rw [hde2]; exact q2, ?_, by omega, ?_, rfl⟩
      · rw [upd_same, List.map_append (l₂ := [Str.ofString "\""])]
        rfl
      · rw [flat_snoc, flat_snoc, hpc, t34, ← hfl, q3]
        simp
      · rw [List.length_append, List.length_append]
        show ps.length + 1 + 1 ≤ e + 2
        omega
end
end Vl

set_option maxHeartbeats 4000000
namespace Vl
open PySem PySem.Spec PyProof.Rows L2 TL CwR PySem.StrLaws
abbrev sReadFlat : Stmt := top 10
abbrev sClose : Stmt := top 9
abbrev sRead : Stmt := top 8
theorem scReadFlat : FnScope ["text", "at", "sign", "behind"] ["text", "at"] (defScope sReadFlat) := ⟨rfl, rfl, rfl, by decide +kernel, rfl, by decide +kernel, by decide +kernel⟩
theorem scClose : FnScope ["text", "at", "lists", "closed"] ["text", "at", "lists"] (defScope sClose) := ⟨rfl, rfl, rfl, by decide +kernel, rfl, by decide +kernel, by decide +kernel⟩
theorem scRead : FnScope ["text", "lists", "at", "value"] ["text"] (defScope sRead) := ⟨rfl, rfl, rfl, by decide +kernel, rfl, by decide +kernel, by decide +kernel⟩
structure Signs (K : PySem.W.Frag) (w : World) (mg : Str → Option Value) : Prop where
  ex : ∃ (d : Addr) (es : Array DictEntry) (n : Nat), KDict K w d es n ∧ mg "SIGNS" = some (.ref d) ∧ (∃ u, PySem.W.nsIn K d "-" = some (some u) ∧ RelV .non u) ∧ (∃ u, PySem.W.nsIn K d "+" = some (some u) ∧ RelV (.bl true) u) ∧ (∃ u, PySem.W.nsIn K d "!" = some (some u) ∧ RelV (.bl false) u)
def spReadFlat : Sp := fun vs H Q _ => ∃ (t : Str) (k n : Nat) (d : PyData), vs = [.str t, .int (k : Int)] ∧ t.length ≤ 10000000 ∧ k ≤ t.length ∧ Flat ((tl t).drop k) d n ∧
  ∀ H' p x, Same H H' → H p = none → H' p = some (.tup [x, .int ((k + n : Nat) : Int)]) → Vd H' x d → Q (.ref p) H'
section
variable {P : Program} {w : World} {K : PySem.W.Frag} {mg : Str → Option Value} {base : Heap}
theorem ok_readflat {f fT fN : Addr} {fd fdT fdN : FuncData} {k : Nat} (F : FnP K "_read_flat" sReadFlat f fd) (FT : FnP K "_read_text" sText fT fdT) (gT : mg "_read_text" = some (.ref fT)) (GT : FnOk P w K mg base CX0 k fT fdT ["text", "at"] spText)
    (FN : FnP K "_behind_number" sNumber fN fdN) (gN : mg "_behind_number" = some (.ref fN)) (GN : FnOk P w K mg base CX0 k fN fdN ["text", "at"] spNumber) (S : Signs K w mg) (mi : mg "int" = none) :
    FnOk P w K mg base CX0 (k + 1) f fd ["text", "at"] spReadFlat := by
  have bT : Binds K fdT ["text", "at"] [] := FT.bindsN fun _ _ _ _ _ _ us hl => match us, hl with | [_, _], _ => rfl
  have bN : Binds K fdN ["text", "at"] [] := FN.bindsN fun _ _ _ _ _ _ us hl => match us, hl with | [_, _], _ => rfl
  obtain ⟨dS, es, nS, D, gS, ⟨u1, e1, r1⟩, ⟨u2, e2, r2⟩, ⟨u3, e3, r3⟩⟩ := S.ex
  refine F.ok scReadFlat (fun vs H Q E h => ?_) (fun cdv A outer s H vs Q E hr h => ?_)
  · obtain ⟨t, k, n, d, rfl, _⟩ := h
    rfl
  · obtain ⟨t, k0, n, d, rfl, hz, hk, hf, q⟩ := h
    have hs := szl
    have t34 : tl (Str.ofString "\"") = [34] := by decide +kernel
    refine ⟨_, PSs.nox (pss_cons (ps_set (i := 2) scReadFlat.nd rfl (.inl rfl) (pe_slice sl_str (pv 0) (po_some (pv 1)) (po_some (pe_op op_add (pv 1) (pe_int)))))
      (pss_cons (ps_if (pt_cmpR op_eq (pv 2) (pe_str) (nomark _)) (pss_one (ps_ret (pe_call GT hr (by rfl) gT FT.kp bT .nil pass0 (pa_cons (pv 0) (pa_cons (pe_op op_add (pv 1) (pe_int)) pa_nil))))) pss_nil)
      (pss_cons (ps_set (i := 3) scReadFlat.nd rfl (.inl rfl) (pe_call GN hr (by rfl) gN FN.kp bN .nil pass0 (pa_cons (pv 0) (pa_cons (pv 1) pa_nil))))
      (pss_cons (ps_if (pt_cmpR op_gt (pv 3) (pv 1) (nomark _)) (pss_one (ps_ret (pe_tup (pa_cons (pe_callTy call_int_str (by rfl) mi (by decide +kernel) (pa_cons (pe_slice sl_str (pv 0) (po_some (pv 1)) (po_some (pv 3))) pa_nil)) (pa_cons (pv 3) pa_nil))))) pss_nil)
      (pss_cons (ps_if (pt_cmpR (op_in_kd D) (pv 2) (pe_glob (v := .ref dS) (by rfl) gS rfl) (by rfl)) (pss_one (ps_ret (pe_tup (pa_cons (pe_ix (ix_kd D) (pe_glob (v := .ref dS) (by rfl) gS rfl) (pv 2) (fun _ _ => rfl)) (pa_cons (pe_op op_add (pv 1) (pe_int)) pa_nil))))) pss_nil)
      (pss_one (ps_never))))))), ?_⟩
    refine ⟨_, rfl, _, rfl, (k0 : Int), rfl, _, rfl, (k0 : Int), 1, rfl, rfl, (k0 : Int) + 1, rfl, t, rfl, by omega, ?_⟩
    refine ⟨_, rfl, rfl, _, rfl, ?_⟩
    show if decide (V.str (sg t k0) = V.str (Str.ofString "\"")) = true then _ else _
    have dq : decide (V.str (sg t k0) = V.str (Str.ofString "\"")) = decide ((tl t)[k0]? = some 34) := decide_eq_decide.mpr (sg_eq t34)
    rw [dq]
    obtain ⟨l, hl⟩ : ∃ l, (tl t).drop k0 = l := ⟨_, rfl⟩
    rw [hl] at hf
    cases hf with
    | txt ht =>
      rename_i r v n'
      have hc : (tl t)[k0]? = some 34 := drop_at hl
      have hd : decide ((tl t)[k0]? = some 34) = true := decide_eq_true hc
      rw [hd]
      have hl1 : (tl t).drop (k0 + 1) = r := drop_next (p := [34]) hl
      refine iteT ⟨_, rfl, _, rfl, (k0 : Int), 1, rfl, rfl, t, k0 + 1, v, n', rfl, by omega, by rw [hl1]; exact ht, fun H' p z sm np hz2 hp => ?_⟩
      have ez : (⟨v.toArray⟩ : Str) = z := ext_tl hz2.symm
      rw [ez] at q
      refine q H' p (.str z) sm np ?_ (.str z)
      rw [hp]
      congr 6
      omega
    | num h34 hnl hn0 hn41 hint =>
      rename_i i
      have hc : (tl t)[k0]? ≠ some 34 := by rw [← List.head?_drop, hl]; exact h34
      have hd : decide ((tl t)[k0]? = some 34) = false := decide_eq_false hc
      rw [hd]
      refine iteF ⟨_, rfl, _, rfl, t, k0, rfl, by omega, by omega, ?_⟩
      rw [hl, hnl]
      refine ⟨_, rfl, _, rfl, ((k0 + n : Nat) : Int), (k0 : Int), rfl, rfl, _, rfl, ?_⟩
      have hd2 : decide ((k0 : Int) < ((k0 + n : Nat) : Int)) = true := decide_eq_true (by omega)
      rw [hd2]
      have hcut : cutS t (some (k0 : Int)) (some ((k0 + n : Nat) : Int)) = ⟨(l.take n).toArray⟩ := ext_tl (by
        rw [tl_cut, hl, show k0 + n - k0 = n by omega])
      refine iteT ⟨_, rfl, _, rfl, (k0 : Int), rfl, _, rfl, ((k0 + n : Nat) : Int), rfl, t, rfl, by omega, _, i, rfl, by rw [hcut]; exact hint, ?_, _, rfl, by show 2 ≤ sizeLine; omega, fun p np => ?_⟩
      · rw [len_tl, tl_cut, List.length_take]
        omega
      · exact q _ p (.int i) (same_upd np) np upd_same (.int i)
    | minus hn =>
      rename_i r
      have hc : (tl t)[k0]? = some 45 := drop_at hl
      have hd : decide ((tl t)[k0]? = some 34) = false := decide_eq_false (by rw [hc]; intro z; cases z)
      rw [hd]
      have hsg : sg t k0 = Str.ofString "-" := ext_tl (by rw [tl_sg', hc]; decide +kernel)
      refine iteF ⟨_, rfl, _, rfl, t, k0, rfl, by omega, by omega, ?_⟩
      have hnum : numLen (45 :: r) = 0 := hn
      rw [hl, hnum]
      refine ⟨_, rfl, _, rfl, ((k0 + 0 : Nat) : Int), (k0 : Int), rfl, rfl, _, rfl, ?_⟩
      have hd2 : decide ((k0 : Int) < ((k0 + 0 : Nat) : Int)) = false := decide_eq_false (by omega)
      rw [hd2]
      refine iteF ⟨_, rfl, sg t k0, some u1, rfl, rfl, by rw [hsg]; exact e1, _, rfl, iteT ?_⟩
      refine ⟨_, rfl, sg t k0, u1, .non, rfl, rfl, by rw [hsg]; exact e1, r1, _, rfl, (k0 : Int), 1, rfl, rfl, by show 2 ≤ sizeLine; omega, fun p np => ?_⟩
      exact q _ p .non (same_upd np) np upd_same .non
    | plus =>
      rename_i r
      have hc : (tl t)[k0]? = some 43 := drop_at hl
      have hd : decide ((tl t)[k0]? = some 34) = false := decide_eq_false (by rw [hc]; intro z; cases z)
      rw [hd]
      have hsg : sg t k0 = Str.ofString "+" := ext_tl (by rw [tl_sg', hc]; decide +kernel)
      refine iteF ⟨_, rfl, _, rfl, t, k0, rfl, by omega, by omega, ?_⟩
      have hnum : numLen (43 :: r) = 0 := by simp [numLen, figs]
      rw [hl, hnum]
      refine ⟨_, rfl, _, rfl, ((k0 + 0 : Nat) : Int), (k0 : Int), rfl, rfl, _, rfl, ?_⟩
      have hd2 : decide ((k0 : Int) < ((k0 + 0 : Nat) : Int)) = false := decide_eq_false (by omega)
      rw [hd2]
      refine iteF ⟨_, rfl, sg t k0, some u2, rfl, rfl, by rw [hsg]; exact e2, _, rfl, iteT ?_⟩
      refine ⟨_, rfl, sg t k0, u2, (.bl true), rfl, rfl, by rw [hsg]; exact e2, r2, _, rfl, (k0 : Int), 1, rfl, rfl, by show 2 ≤ sizeLine; omega, fun p np => ?_⟩
      exact q _ p (.bl true) (same_upd np) np upd_same (.bl true)
    | bang =>
      rename_i r
      have hc : (tl t)[k0]? = some 33 := drop_at hl
      have hd : decide ((tl t)[k0]? = some 34) = false := decide_eq_false (by rw [hc]; intro z; cases z)
      rw [hd]
      have hsg : sg t k0 = Str.ofString "!" := ext_tl (by rw [tl_sg', hc]; decide +kernel)
      refine iteF ⟨_, rfl, _, rfl, t, k0, rfl, by omega, by omega, ?_⟩
      have hnum : numLen (33 :: r) = 0 := by simp [numLen, figs]
      rw [hl, hnum]
      refine ⟨_, rfl, _, rfl, ((k0 + 0 : Nat) : Int), (k0 : Int), rfl, rfl, _, rfl, ?_⟩
      have hd2 : decide ((k0 : Int) < ((k0 + 0 : Nat) : Int)) = false := decide_eq_false (by omega)
      rw [hd2]
      refine iteF ⟨_, rfl, sg t k0, some u3, rfl, rfl, by rw [hsg]; exact e3, _, rfl, iteT ?_⟩
      refine ⟨_, rfl, sg t k0, u3, (.bl false), rfl, rfl, by rw [hsg]; exact e3, r3, _, rfl, (k0 : Int), 1, rfl, rfl, by show 2 ≤ sizeLine; omega, fun p np => ?_⟩
      exact q _ p (.bl false) (same_upd np) np upd_same (.bl false)
end
end Vl

set_option maxHeartbeats 4000000
namespace Vl
open PySem PySem.Spec PyProof.Rows L2 TL CwR PySem.StrLaws
/-! ### lists of lists -/
inductive Sk (H : Hp) : List Addr → List (List PyData) → Prop
  | nil : Sk H [] []
  | cons {a : Addr} {as : List Addr} {xs : List V} {ds : List PyData} {st : List (List PyData)} : H a = some (.lst xs) → VdAll H xs ds → a ∉ as → Sk H as st → Sk H (a :: as) (ds :: st)
theorem Sk.len {H : Hp} {as : List Addr} {st : List (List PyData)} (h : Sk H as st) : as.length = st.length := by
  induction h with
  | nil => rfl
  | cons _ _ _ _ ih => exact congrArg Nat.succ ih
theorem Sk.put {H H' : Hp} {as : List Addr} {st : List (List PyData)} (h : Sk H as st) (k : KeepT H H') (e : ∀ b ∈ as, H' b = H b) : Sk H' as st := by
  induction h with
  | nil => exact .nil
  | cons h1 h2 h3 _ ih => exact .cons ((e _ (List.mem_cons_self ..)).trans h1) (h2.keep k) h3 (ih fun b hb => e b (List.mem_cons_of_mem _ hb))
theorem Sk.is {H : Hp} {as : List Addr} {st : List (List PyData)} (h : Sk H as st) : ∀ b ∈ as, ∃ xs, H b = some (.lst xs) := by
  induction h with
  | nil => intro b hb; cases hb
  | cons h1 _ _ _ ih =>
    intro b hb
    rcases List.mem_cons.mp hb with e | hb
    · rw [e]; exact ⟨_, h1⟩
    · exact ih b hb
/-- the object L holds the lists, the outer ones first; all are newer than H0 -/
structure LS (H0 H : Hp) (L : Addr) (as : List Addr) (st : List (List PyData)) : Prop where
  at_ : H L = some (.lst (as.reverse.map V.ref))
  sk : Sk H as st
  out : L ∉ as
  newL : H0 L = none
  new : ∀ a ∈ as, H0 a = none
  same : Same H0 H
def Few (k : Nat) (st : List (List PyData)) : Prop := st ≠ [] ∧ st.length ≤ k + 1 ∧ ∀ ds ∈ st, ds.length ≤ k
theorem LS.laid {H0 H : Hp} {L : Addr} {as : List Addr} {st : List (List PyData)} (l : LS H0 H L as st) {p : Addr} {o : HO} (np : H p = none) : LS H0 (upd H p o) L as st := by
  have s := same_upd (o := o) np
  refine ⟨s _ _ l.at_, l.sk.put (Same.keepT s) fun b hb => ?_, l.out, l.newL, l.new, l.same.trans s⟩
  obtain ⟨xs, e⟩ := l.sk.is b hb
  rw [e]
  exact s _ _ e
/-- something is put behind the innermost list -/
theorem LS.push {H0 H : Hp} {L a : Addr} {as : List Addr} {xs : List V} {ds : List PyData} {st : List (List PyData)} {x : V} {d : PyData} (l : LS H0 H L (a :: as) (ds :: st)) (ha : H a = some (.lst xs)) (hx : VdAll H xs ds) (hv : Vd H x d) :
    LS H0 (upd H a (.lst (xs ++ [x]))) L (a :: as) ((ds ++ [d]) :: st) := by
  have nL : L ≠ a := fun e => l.out (by rw [e]; exact List.mem_cons_self ..)
  have k : KeepT H (upd H a (.lst (xs ++ [x]))) := keep_lst ha
  refine ⟨by rw [upd_ne nL]; exact l.at_, ?_, l.out, l.newL, l.new, same_put l.same (l.new a (List.mem_cons_self ..))⟩
  cases l.sk with
  | cons h1 h2 h3 h4 =>
    refine .cons upd_same ((VdAll.snoc hv hx).keep k) h3 (h4.put k fun b hb => ?_)
    rw [upd_ne (fun e => h3 (by rw [← e]; exact hb))]
theorem LS.top {H0 H : Hp} {L : Addr} {as : List Addr} {ds : List PyData} {st : List (List PyData)} (l : LS H0 H L as (ds :: st)) : ∃ a as' xs, as = a :: as' ∧ H a = some (.lst xs) ∧ VdAll H xs ds := by
  obtain ⟨_, sk, _, _, _, _⟩ := l
  cases sk with
  | cons h1 h2 h3 h4 => exact ⟨_, _, _, rfl, h1, h2⟩
theorem rev_ref (a : Addr) (as : List Addr) : (a :: as).reverse.map V.ref = as.reverse.map V.ref ++ [V.ref a] := by
  rw [List.reverse_cons, List.map_append]
  rfl
def spClose : Sp := fun vs H Q _ => ∃ (t : Str) (k : Nat) (L : Addr) (H0 : Hp) (as : List Addr) (st : List (List PyData)) (d : PyData), vs = [.str t, .int (k : Int), .ref L] ∧ t.length ≤ 10000000 ∧ LS H0 H L as st ∧ Few k st ∧ k ≤ t.length ∧ Cl (tl t) k st d ∧
  ∀ H' k' as' st', LS H0 H' L as' st' → Few k' st' → k' ≤ t.length → k ≤ k' → Cl (tl t) k' st' d → (st'.length = 1 ∨ (tl t)[k']? ≠ some 41) → Q (.int (k' : Int)) H'
section
variable {P : Program} {w : World} {K : PySem.W.Frag} {mg : Str → Option Value} {base : Heap}
theorem ok_close {f : Addr} {fd : FuncData} {k : Nat} (F : FnP K "_close_tuples" sClose f fd) (ml : mg "len" = none) (mt : mg "tuple" = none) : FnOk P w K mg base CX0 (k + 1) f fd ["text", "at", "lists"] spClose := by
  refine F.ok scClose (fun vs H Q E h => ?_) (fun cdv A outer s H vs Q E hr h => ?_)
  · obtain ⟨t, k, L, H0, as, st, d, rfl, _⟩ := h
    rfl
  · obtain ⟨t, k0, L, H0, as, st, d, rfl, hz, hL, hF, hk, hC, q⟩ := h
    have hs := szl
    have hl := len_tl t
    have t41 : tl (Str.ofString ")") = [41] := by decide +kernel
    refine ⟨_, PSs.nox (pss_cons (ps_while PassesOwn.never (PW.pt (pw_and (pt_cmpR op_gt (pe_callB call_len_seq (by rfl) ml PySem.boot_len (pa_cons (pv 2) pa_nil)) (pe_int) (nomark _)) (pw_and1 (pt_cmpR op_eq (pe_slice sl_str (pv 0) (po_some (pv 1)) (po_some (pe_op op_add (pv 1) (pe_int)))) (pe_str) (nomark _))))) (pss_cons (ps_set (i := 3) scClose.nd rfl (.inl rfl) (pe_callTy call_tuple_of (by rfl) mt PyProof.Rows.boot_tuple (pa_cons (pe_bm0 PySem.F.plainAttrs_list PySem.F.slot_list_pop PySem.F.type_list_pop mt_pop (pv 2)) pa_nil)))
      (pss_cons (ps_expr (pe_bm PySem.F.plainAttrs_list PySem.F.slot_list_append PySem.F.type_list_append mt_append (pe_ix ix_list (pv 2) (pe_un un_neg pe_int) (fun _ _ => rfl)) (pa_cons (pv 3) pa_nil)))
      (pss_one (ps_aug (i := 1) scClose.nd rfl (.inl rfl) (pe_int) ip_add)))))
      (pss_one (ps_ret (pv 1)))), ?_⟩
    refine ⟨fun m σ H' => ∃ (k' : Nat) (as' : List Addr) (st' : List (List PyData)) (y3 : Option V), σ = [some (.str t), some (.int (k' : Int)), some (.ref L), y3] ∧ LS H0 H' L as' st' ∧ Few k' st' ∧ k' ≤ t.length ∧ k0 ≤ k' ∧ Cl (tl t) k' st' d ∧ m = st'.length,
      ⟨st.length, k0, as, st, none, rfl, hL, hF, hk, Nat.le_refl _, hC, rfl⟩, ?_⟩
    rintro m σ H' ⟨k', as', st', y3, rfl, hL', hF', hk', hkk, hC', rfl⟩
    have hlen := hL'.sk.len
    obtain ⟨hne, hn1, hn2⟩ := hF'
    have fin : (st'.length = 1 ∨ (tl t)[k']? ≠ some 41) → Q (.int (k' : Int)) H' := fun h => q H' k' as' st' hL' ⟨hne, hn1, hn2⟩ hk' hkk hC' h
    refine ⟨_, rfl, L, _, rfl, .inl (SqL.of hL'.at_), _, 1, rfl, rfl, _, rfl, ite2 (fun e => ?_) (fun e => ?_)⟩
    · have h1 : 1 < st'.length := by
        have e1 := of_decide_eq_true e
        rw [List.length_map, List.length_reverse, hlen] at e1
        exact Int.ofNat_lt.mp e1
      refine ⟨_, rfl, _, rfl, (k' : Int), rfl, _, rfl, (k' : Int), 1, rfl, rfl, (k' : Int) + 1, rfl, t, rfl, by omega, rfl, _, rfl, ite2 (fun e2 => ?_) (fun e2 => ?_)⟩
      · have h41 : (tl t)[k']? = some 41 := (sg_eq t41).mp (of_decide_eq_true e2)
        have hklt : k' < (tl t).length := (List.getElem?_eq_some_iff.mp h41).1
        cases hC' with
        | done hd => exact absurd h1 (by simp)
        | sep h32 _ => rw [h41] at h32; cases h32
        | @close _ top nx st2 _ _ hC2 =>
          obtain ⟨a, as2, xs, rfl, ha, hxs⟩ := hL'.top
          cases hL'.sk with
          | cons s1 s2 s3 s4 =>
          cases s4 with
          | @cons b as3 ys _ _ b1 b2 b3 b4 =>
          rw [ha] at s1
          cases s1
          have nba : b ≠ a := fun e => s3 (by rw [← e]; exact List.mem_cons_self ..)
          have nLa : L ≠ a := fun e => hL'.out (by rw [e]; exact List.mem_cons_self ..)
          have nLb : L ≠ b := fun e => hL'.out (by rw [e]; exact List.mem_cons_of_mem _ (List.mem_cons_self ..))
          have hat := hL'.at_
          rw [rev_ref] at hat
          refine ⟨fun σ' H2 => ∃ m', m' < (top :: nx :: st2).length ∧ ∃ (k' : Nat) (as' : List Addr) (st' : List (List PyData)) (y3 : Option V), σ' = [some (.str t), some (.int (k' : Int)), some (.ref L), y3] ∧ LS H0 H2 L as' st' ∧ Few k' st' ∧ k' ≤ t.length ∧ k0 ≤ k' ∧ Cl (tl t) k' st' d ∧ m' = st'.length, fun _ _ h => h, ?_⟩
          have hdl : ((b :: as3).reverse.map V.ref ++ [V.ref a]).dropLast = (b :: as3).reverse.map V.ref := List.dropLast_concat
          refine ⟨_, rfl, .inl ⟨rfl, _, SqL.of hat⟩, L, _, .ref a, rfl, rfl, hat, by simp, ?_⟩
          have kL : KeepT H' (upd H' L (.lst ((b :: as3).reverse.map V.ref ++ [V.ref a]).dropLast)) := keep_lst hat
          have hL1 : LS H0 (upd H' L (.lst ((b :: as3).reverse.map V.ref ++ [V.ref a]).dropLast)) L (b :: as3) (nx :: st2) := by
            refine ⟨by rw [upd_same, hdl], (Sk.cons b1 b2 b3 b4).put kL fun c hc => ?_, fun h => hL'.out (List.mem_cons_of_mem _ h), hL'.newL, fun c hc => hL'.new c (List.mem_cons_of_mem _ hc), same_put hL'.same hL'.newL⟩
            rw [upd_ne (fun e => hL'.out (by rw [← e]; exact List.mem_cons_of_mem _ hc))]
          have ha1 : upd H' L (.lst ((b :: as3).reverse.map V.ref ++ [V.ref a]).dropLast) a = some (.lst xs) := by rw [upd_ne nLa.symm]; exact ha
          have hx1 := hxs.keep kL
          have hb1 : upd H' L (.lst ((b :: as3).reverse.map V.ref ++ [V.ref a]).dropLast) b = some (.lst ys) := by rw [upd_ne nLb.symm]; exact b1
          have hy1 := b2.keep kL
          generalize upd H' L (.lst ((b :: as3).reverse.map V.ref ++ [V.ref a]).dropLast) = H1 at hL1 ha1 hx1 hb1 hy1
          refine ⟨a, xs, rfl, .inl ⟨SqL.of ha1, fun p np => ?_⟩⟩
          have sp := same_upd (o := HO.tup xs) np
          have hL2 : LS H0 (upd H1 p (.tup xs)) L (b :: as3) (nx :: st2) := hL1.laid np
          have hb2 := sp _ _ hb1
          have hy2 := hy1.keep (Same.keepT sp)
          have hv2 : Vd (upd H1 p (.tup xs)) (.ref p) (.tuple top) := .tup upd_same (hx1.keep (Same.keepT sp))
          have hat2 := hL2.at_
          rw [rev_ref] at hat2
          generalize upd H1 p (.tup xs) = H2 at hL2 hb2 hy2 hv2 hat2
          have hnx := hn2 nx (List.mem_cons_of_mem _ (List.mem_cons_self ..))
          refine ⟨_, rfl, 1, rfl, L, _, -1, .ref b, rfl, rfl, SqL.of hat2, atI_last _ _, .inl ⟨rfl, _, SqL.of hb2⟩, _, rfl, b, _, _, rfl, rfl, hb2, by rw [hy2.len]; omega, ?_⟩
          refine ⟨_, rfl, (k' : Int), 1, rfl, rfl, (nx :: st2).length, Nat.lt_succ_self _, k' + 1, b :: as3, (nx ++ [.tuple top]) :: st2, _, rfl, hL2.push hb2 hy2 hv2, ⟨by simp, ?_, ?_⟩, by omega, by omega, hC2, rfl⟩
          · have e3 : (top :: nx :: st2).length = st2.length + 2 := rfl
            show st2.length + 1 ≤ k' + 1 + 1
            omega
          · intro ds hds
            rcases List.mem_cons.mp hds with e3 | e3
            · rw [e3, List.length_append]
              show nx.length + 1 ≤ k' + 1
              omega
            · have := hn2 ds (List.mem_cons_of_mem _ (List.mem_cons_of_mem _ e3))
              omega
      · exact ⟨_, rfl, fin (.inr fun h => e2 (decide_eq_true ((sg_eq t41).mpr h)))⟩
    · have h1 : st'.length = 1 := by
        have hpos : 0 < st'.length := List.length_pos_iff.mpr hne
        rcases Nat.lt_or_ge 1 st'.length with h | h
        · refine absurd (decide_eq_true ?_) e
          rw [List.length_map, List.length_reverse, hlen]
          exact Int.ofNat_lt.mpr h
        · omega
      exact iteF ⟨_, rfl, fin (.inl h1)⟩
end
end Vl

set_option maxHeartbeats 4000000
namespace Vl
open PySem PySem.Spec PyProof.Rows L2 TL CwR PySem.StrLaws
def spRead : Sp := fun vs H Q _ => ∃ (t : Str) (d : PyData), vs = [.str t] ∧ t.length ≤ 10000000 ∧ Go (tl t) 0 [[]] d ∧ ∀ H' x, Same H H' → Vd H' x d → Q x H'
theorem cnt_le : ∀ (m : Nat) (l : List Nat), cnt m l ≤ l.length
  | 0, _ => Nat.zero_le _
  | _ + 1, [] => Nat.le_refl 0
  | m + 1, c :: r => by
    have := cnt_le m r
    show (if 48 ≤ c ∧ c ≤ 57 then 1 + cnt m r else 0) ≤ r.length + 1
    by_cases h : 48 ≤ c ∧ c ≤ 57
    · rw [if_pos h]; omega
    · rw [if_neg h]; omega
theorem figs_le : ∀ l : List Nat, figs l ≤ l.length
  | [] => Nat.le_refl 0
  | c :: r => by
    have := cnt_le 39 r
    show (if 49 ≤ c ∧ c ≤ 57 then 1 + cnt 39 r else 0) ≤ r.length + 1
    by_cases h : 49 ≤ c ∧ c ≤ 57
    · rw [if_pos h]; omega
    · rw [if_neg h]; omega
theorem numLen_le : ∀ l : List Nat, numLen l ≤ l.length
  | [] => Nat.le_refl 0
  | c :: r => by
    have h1 := figs_le r
    have h2 := figs_le (c :: r)
    show (if c = 48 then 1 else if c = 45 then (if figs r = 0 then 0 else 1 + figs r) else figs (c :: r)) ≤ r.length + 1
    by_cases a : c = 48
    · rw [if_pos a]; omega
    · rw [if_neg a]
      by_cases b : c = 45
      · rw [if_pos b]
        by_cases e : figs r = 0
        · rw [if_pos e]; omega
        · rw [if_neg e]; omega
      · rw [if_neg b]; exact h2
theorem LS.mono {H0 H H' : Hp} {L : Addr} {as : List Addr} {st : List (List PyData)} (l : LS H0 H L as st) (s : Same H H') : LS H0 H' L as st := by
  refine ⟨s _ _ l.at_, l.sk.put (Same.keepT s) fun b hb => ?_, l.out, l.newL, l.new, l.same.trans s⟩
  obtain ⟨xs, e⟩ := l.sk.is b hb
  rw [e]
  exact s _ _ e
theorem LS.open {H0 H : Hp} {L p : Addr} {as : List Addr} {st : List (List PyData)} (l : LS H0 H L as st) (np : H p = none) : LS H0 (upd (upd H p (.lst [])) L (.lst (as.reverse.map V.ref ++ [V.ref p]))) L (p :: as) ([] :: st) := by
  have s := same_upd (o := HO.lst []) np
  have l1 := l.mono s
  have nLp : L ≠ p := fun e => by rw [← e, l.at_] at np; cases np
  have npas : p ∉ as := fun h => by
    obtain ⟨xs, e⟩ := l.sk.is p h
    rw [e] at np
    cases np
  refine ⟨by rw [upd_same, rev_ref], .cons (xs := []) (by rw [upd_ne nLp.symm, upd_same]) .nil npas (l1.sk.put (keep_lst l1.at_) fun b hb => ?_), ?_, l.newL, ?_, same_put l1.same l.newL⟩
  · rw [upd_ne (fun e => l.out (by rw [← e]; exact hb))]
  · intro h
    rcases List.mem_cons.mp h with e | h
    · exact nLp e
    · exact l.out h
  · intro b hb
    rcases List.mem_cons.mp hb with e | hb
    · rw [e]; exact l.same.free np
    · exact l.new b hb
theorem flat_ne {l : List Nat} {d : PyData} {n : Nat} (h : Flat l d n) : l ≠ [] ∧ 1 ≤ n ∧ n ≤ l.length := by
  cases h with
  | txt h =>
    have := txtM_len _ _ _ h
    rw [List.length_cons]
    exact ⟨by simp, by omega, by omega⟩
  | num h1 h2 h3 h4 h5 =>
    have := numLen_le l
    refine ⟨fun e => ?_, by omega, by omega⟩
    rw [e] at h2
    have : numLen [] = 0 := rfl
    omega
  | minus => exact ⟨by simp, Nat.le_refl 1, by simp⟩
  | plus => exact ⟨by simp, Nat.le_refl 1, by simp⟩
  | bang => exact ⟨by simp, Nat.le_refl 1, by simp⟩
section
variable {P : Program} {w : World} {K : PySem.W.Frag} {mg : Str → Option Value} {base : Heap}
theorem ok_read {f fC fF : Addr} {fd fdC fdF : FuncData} {k : Nat} (F : FnP K "read" sRead f fd) (FC : FnP K "_close_tuples" sClose fC fdC) (gC : mg "_close_tuples" = some (.ref fC)) (GC : FnOk P w K mg base CX0 k fC fdC ["text", "at", "lists"] spClose)
    (FF : FnP K "_read_flat" sReadFlat fF fdF) (gF : mg "_read_flat" = some (.ref fF)) (GF : FnOk P w K mg base CX0 k fF fdF ["text", "at"] spReadFlat) (ml : mg "len" = none) : FnOk P w K mg base CX0 (k + 1) f fd ["text"] spRead := by
  have bC : Binds K fdC ["text", "at", "lists"] [] := FC.bindsN fun _ _ _ _ _ _ us hl => match us, hl with | [_, _, _], _ => rfl
  have bF : Binds K fdF ["text", "at"] [] := FF.bindsN fun _ _ _ _ _ _ us hl => match us, hl with | [_, _], _ => rfl
  refine F.ok scRead (fun vs H Q E h => ?_) (fun cdv A outer s H vs Q E hr h => ?_)
  · obtain ⟨t, d, rfl, _⟩ := h
    rfl
  · obtain ⟨t, d, rfl, hz, hG, q⟩ := h
    have hs := szl
    have hl := len_tl t
    have t40 : tl (Str.ofString "(") = [40] := by decide +kernel
    have t41 : tl (Str.ofString ")") = [41] := by decide +kernel
    have t32 : tl (Str.ofString " ") = [32] := by decide +kernel
    refine ⟨_, PSs.nox (pss_cons (ps_set (i := 1) scRead.nd rfl (.inl rfl) (pe_lst (pa_cons (pe_lst pa_nil) pa_nil)))
      (pss_cons (ps_set (i := 2) scRead.nd rfl (.inl rfl) (pe_int))
      (pss_cons (ps_while PassesOwn.never (pt_val pe_bl) (C8.pss_cut (ps_if (pt_cmpR op_eq (pe_slice sl_str (pv 0) (po_some (pv 2)) (po_some (pe_op op_add (pv 2) (pe_int)))) (pe_str) (nomark _)) (pss_cons (ps_expr (pe_bm PySem.F.plainAttrs_list PySem.F.slot_list_append PySem.F.type_list_append mt_append (pv 1) (pa_cons (pe_lst pa_nil) pa_nil)))
      (pss_cons (ps_aug (i := 2) scRead.nd rfl (.inl rfl) (pe_int) ip_add)
      (pss_one (ps_if (pt_cmpR op_ne (pe_slice sl_str (pv 0) (po_some (pv 2)) (po_some (pe_op op_add (pv 2) (pe_int)))) (pe_str) (nomark _)) (pss_one ps_continue) pss_nil)))) (pss_cons (ps_asg (pe_call GF hr (by rfl) gF FF.kp bF .nil pass0 (pa_cons (pv 0) (pa_cons (pv 2) pa_nil))) (pg_tup rfl (pgs_cons (pg_name (i := 3) scRead.nd rfl (.inl rfl)) (pgs_cons (pg_name (i := 2) scRead.nd rfl (.inl rfl)) pgs_nil))))
      (pss_one (ps_expr (pe_bm PySem.F.plainAttrs_list PySem.F.slot_list_append PySem.F.type_list_append mt_append (pe_ix ix_list (pv 1) (pe_un un_neg pe_int) (fun _ _ => rfl)) (pa_cons (pv 3) pa_nil))))))
      (pss_cons (ps_set (i := 2) scRead.nd rfl (.inl rfl) (pe_call GC hr (by rfl) gC FC.kp bC .nil pass0 (pa_cons (pv 0) (pa_cons (pv 2) (pa_cons (pv 1) pa_nil)))))
      (pss_cons (ps_if (pt_cmpR op_eq (pe_callB call_len_seq (by rfl) ml PySem.boot_len (pa_cons (pv 1) pa_nil)) (pe_int) (nomark _)) (pss_one ps_break) pss_nil)
      (pss_cons (ps_if (pt_cmpR op_ne (pe_slice sl_str (pv 0) (po_some (pv 2)) (po_some (pe_op op_add (pv 2) (pe_int)))) (pe_str) (nomark _)) (pss_one ps_never) pss_nil)
      (pss_one (ps_aug (i := 2) scRead.nd rfl (.inl rfl) (pe_int) ip_add)))))))
      (pss_cons (ps_if (pt_cmpR op_lt (pv 2) (pe_callB call_len_str (by rfl) ml PySem.boot_len (pa_cons (pv 0) pa_nil)) (nomark _)) (pss_one ps_never) pss_nil)
      (pss_one (ps_ret (pe_ix ix_list (pe_ix ix_list (pv 1) (pe_int) (fun _ _ => rfl)) (pe_int) (fun _ _ => rfl)))))))), ?_⟩
    refine ⟨Nat.zero_le _, fun a na => ⟨by show 1 ≤ sizeLine; omega, fun L nL => ?_⟩⟩
    have sa := same_upd (o := HO.lst []) na
    have sL := same_upd (o := HO.lst [V.ref a]) nL
    have naL : L ≠ a := fun e => by rw [e, upd_same] at nL; cases nL
    have hL0 : LS H (upd (upd H a (.lst [])) L (.lst [.ref a])) L [a] [[]] :=
      ⟨upd_same, .cons (sL _ _ upd_same) .nil (by simp) .nil, by simpa using naL, sa.free nL, fun c hc => by rw [List.mem_singleton.mp hc]; exact na, sa.trans sL⟩
    refine ⟨fun m σ H' => ∃ (k : Nat) (as : List Addr) (st : List (List PyData)) (y3 : Option V), σ = [some (.str t), some (.ref L), some (.int (k : Int)), y3] ∧ LS H H' L as st ∧ Few k st ∧ k ≤ t.length ∧ Go (tl t) k st d ∧ m = t.length - k,
      ⟨t.length - 0, 0, [a], [[]], none, rfl, hL0, ⟨by simp, by simp, by simp⟩, Nat.zero_le _, hG, rfl⟩, ?_⟩
    rintro m σ H' ⟨k, as, st, y3, rfl, hL, ⟨f1, f2, f3⟩, hk, hg, rfl⟩
    refine ⟨_, rfl, iteT ⟨fun σ' H2 => ∃ m', m' < t.length - k ∧ ∃ (k : Nat) (as : List Addr) (st : List (List PyData)) (y3 : Option V), σ' = [some (.str t), some (.ref L), some (.int (k : Int)), y3] ∧ LS H H2 L as st ∧ Few k st ∧ k ≤ t.length ∧ Go (tl t) k st d ∧ m' = t.length - k, fun _ _ h => h, ?_⟩⟩
    refine ⟨fun σ' H2 => ∃ (k2 : Nat) (as : List Addr) (st : List (List PyData)) (y3 : Option V), σ' = [some (.str t), some (.ref L), some (.int (k2 : Int)), y3] ∧ LS H H2 L as st ∧ Few k2 st ∧ k2 ≤ t.length ∧ k < k2 ∧ Cl (tl t) k2 st d, ?_, ?_⟩
    · refine ⟨_, rfl, _, rfl, (k : Int), rfl, _, rfl, (k : Int), 1, rfl, rfl, (k : Int) + 1, rfl, t, rfl, by omega, rfl, _, rfl, ?_⟩
      show if decide (V.str (sg t k) = V.str (Str.ofString "(")) = true then _ else _
      rw [show decide (V.str (sg t k) = V.str (Str.ofString "(")) = decide ((tl t)[k]? = some 40) from decide_eq_decide.mpr (sg_eq t40)]
      cases hg with
      | more h40 h41 hg2 =>
        have hkl : k < (tl t).length := (List.getElem?_eq_some_iff.mp h40).1
        rw [decide_eq_true h40]
        refine iteT ⟨_, rfl, .inl ⟨rfl, _, SqL.of hL.at_⟩, Nat.zero_le _, fun p np => ?_⟩
        have hLp := (hL.laid (o := HO.lst []) np).at_
        refine ⟨L, _, _, rfl, rfl, hLp, by rw [List.length_map, List.length_reverse, hL.sk.len]; omega, ?_⟩
        have hLo := hL.open np
        refine ⟨_, rfl, (k : Int), 1, rfl, rfl, ?_⟩
        refine ⟨_, rfl, _, rfl, ((k + 1 : Nat) : Int), rfl, _, rfl, ((k + 1 : Nat) : Int), 1, rfl, rfl, ((k + 1 : Nat) : Int) + 1, rfl, t, rfl, by omega, rfl, _, rfl, ?_⟩
        show if (!decide (V.str (sg t (k + 1)) = V.str (Str.ofString ")"))) = true then _ else _
        rw [decide_eq_false (fun h => h41 ((sg_eq t41).mp h))]
        refine iteT ?_
        refine ⟨t.length - (k + 1), by omega, k + 1, p :: as, [] :: st, _, rfl, hLo, ⟨by simp, ?_, ?_⟩, by omega, hg2, rfl⟩
        · show st.length + 1 ≤ k + 1 + 1
          omega
        · intro ds hds
          rcases List.mem_cons.mp hds with e | e
          · rw [e]; exact Nat.zero_le _
          · have := f3 ds e; omega
      | empty h40 h41 hc2 =>
        have hkl : k < (tl t).length := (List.getElem?_eq_some_iff.mp h40).1
        rw [decide_eq_true h40]
        refine iteT ⟨_, rfl, .inl ⟨rfl, _, SqL.of hL.at_⟩, Nat.zero_le _, fun p np => ?_⟩
        have hLp := (hL.laid (o := HO.lst []) np).at_
        refine ⟨L, _, _, rfl, rfl, hLp, by rw [List.length_map, List.length_reverse, hL.sk.len]; omega, ?_⟩
        have hLo := hL.open np
        refine ⟨_, rfl, (k : Int), 1, rfl, rfl, ?_⟩
        refine ⟨_, rfl, _, rfl, ((k + 1 : Nat) : Int), rfl, _, rfl, ((k + 1 : Nat) : Int), 1, rfl, rfl, ((k + 1 : Nat) : Int) + 1, rfl, t, rfl, by omega, rfl, _, rfl, iteNS ((sg_eq t41).mpr h41) ?_⟩
        refine ⟨k + 1, p :: as, [] :: st, _, rfl, hLo, ⟨by simp, ?_, ?_⟩, by omega, by omega, hc2⟩
        · show st.length + 1 ≤ k + 1 + 1
          omega
        · intro ds hds
          rcases List.mem_cons.mp hds with e | e
          · rw [e]; exact Nat.zero_le _
          · have := f3 ds e; omega
      | @flat _ n top st2 v _ h40 hf hc2 =>
        obtain ⟨hne, hn1, hn2⟩ := flat_ne hf
        rw [List.length_drop] at hn2
        rw [decide_eq_false h40]
        refine iteF ⟨_, rfl, _, rfl, t, k, n, v, rfl, hz, hk, hf, fun H3 p x sm np hp hv => ?_⟩
        have hL3 := hL.mono sm
        obtain ⟨a3, as3, xs3, rfl, ha3, hx3⟩ := hL3.top
        have hat := hL3.at_
        rw [rev_ref] at hat
        have hf3 := f3 top (List.mem_cons_self ..)
        refine ⟨p, _, rfl, .inl (.inl hp), rfl, _, _, rfl, _, _, rfl, rfl, ?_⟩
        refine ⟨_, rfl, 1, rfl, L, _, -1, .ref a3, rfl, rfl, SqL.of hat, atI_last _ _, .inl ⟨rfl, _, SqL.of ha3⟩, _, rfl, a3, _, _, rfl, rfl, ha3, by rw [hx3.len]; omega, ?_⟩
        refine ⟨k + n, a3 :: as3, (top ++ [v]) :: st2, _, rfl, hL3.push ha3 hx3 hv, ⟨by simp, ?_, ?_⟩, by omega, by omega, hc2⟩
        · have e3 : (top :: st2).length = st2.length + 1 := rfl
          show st2.length + 1 ≤ k + n + 1
          omega
        · intro ds hds
          rcases List.mem_cons.mp hds with e | e
          · rw [e, List.length_append]
            show top.length + 1 ≤ k + n
            omega
          · have := f3 ds (List.mem_cons_of_mem _ e); omega
    · rintro σ' H2 ⟨k2, as2, st2, y4, rfl, hL2, ⟨g1, g2, g3⟩, hk2, hkk, hc⟩
      refine ⟨_, rfl, _, rfl, _, rfl, t, k2, L, H, as2, st2, d, rfl, hz, hL2, ⟨g1, g2, g3⟩, hk2, hc, fun H3 k3 as3 st3 hL3 hF3 hk3 hkk3 hc3 hor => ?_⟩
      have hlen := hL3.sk.len
      obtain ⟨p1, p2, p3⟩ := hF3
      refine ⟨_, rfl, L, _, rfl, .inl (SqL.of hL3.at_), rfl, _, rfl, ite2 (fun e => ?_) (fun e => ?_)⟩
      · have h1 : st3.length = 1 := by
          have e1 := V.int.inj (of_decide_eq_true e)
          rw [List.length_map, List.length_reverse, hlen] at e1
          omega
        cases hc3 with
        | close _ _ => exact absurd h1 (by simp)
        | sep _ _ => exact absurd h1 (by simp)
        | done hd =>
          refine ⟨_, rfl, _, rfl, t, rfl, by omega, _, _, rfl, rfl, _, rfl, ?_⟩
          rw [decide_eq_false (show ¬ ((k3 : Int) < (t.length : Int)) by omega)]
          refine iteF ?_
          obtain ⟨a3, as4, xs3, rfl, ha3, hx3⟩ := hL3.top
          have e4 : as4 = [] := List.length_eq_zero_iff.mp (by simpa using hlen)
          subst e4
          cases hx3 with
          | cons hv hr =>
          cases hr
          exact ⟨_, rfl, L, _, 0, .ref a3, rfl, rfl, SqL.of hL3.at_, atI_nat (j := 0) rfl, a3, _, 0, _, rfl, rfl, SqL.of ha3, atI_nat (j := 0) rfl, q H3 _ hL3.same hv⟩
      · have h1 : st3.length ≠ 1 := fun h => by
          refine e (decide_eq_true (congrArg V.int ?_))
          rw [List.length_map, List.length_reverse, hlen, h]
          rfl
        have h41 : (tl t)[k3]? ≠ some 41 := by
          rcases hor with h | h
          · exact absurd h h1
          · exact h
        cases hc3 with
        | close h _ => exact absurd h h41
        | done _ => exact absurd rfl h1
        | sep h32 hg2 =>
          have hkl : k3 < (tl t).length := (List.getElem?_eq_some_iff.mp h32).1
          refine ⟨_, rfl, _, rfl, (k3 : Int), rfl, _, rfl, (k3 : Int), 1, rfl, rfl, (k3 : Int) + 1, rfl, t, rfl, by omega, rfl, _, rfl, iteNS ((sg_eq t32).mpr h32) ?_⟩
          refine ⟨_, rfl, (k3 : Int), 1, rfl, rfl, t.length - (k3 + 1), by omega, k3 + 1, as3, _, _, rfl, hL3, ⟨p1, by omega, fun ds hds => by have := p3 ds hds; omega⟩, by omega, hg2, rfl⟩
end
end Vl

set_option maxHeartbeats 2000000
namespace Vl
open PySem PySem.Spec PyProof.Rows L2 TL
/-! ### great powers -/
def CPowB (i j : Int) : Prop := 0 ≤ j ∧ (Builtin.Int.intBits i : Int) * j ≤ 2 ^ 27
theorem op_powB {X : Cx} : OpR X (binaryOp .Pow) (rI CPowB fun i j => .int (i ^ j.toNat)) := opI fun _ _ _ _ _ _ _ hc q => pow_int hc.1 hc.2 q
abbrev sDealt : Stmt := top 17
abbrev sPick : Stmt := top 18
/-! ### the hand -/
/-- all but the object at h is as it was, its first item stays -/
def But (h : Addr) (H H' : Hp) : Prop := (∀ b o, b ≠ h → H b = some o → H' b = some o) ∧ ∀ x xs, H h = some (.lst (x :: xs)) → ∃ ys, H' h = some (.lst (x :: ys))
theorem But.refl (h : Addr) (H : Hp) : But h H H := ⟨fun _ _ _ e => e, fun _ xs e => ⟨xs, e⟩⟩
theorem But.trans {h : Addr} {H H1 H2 : Hp} (a : But h H H1) (b : But h H1 H2) : But h H H2 := ⟨fun c o n e => b.1 c o n (a.1 c o n e), fun x xs e => by
  obtain ⟨ys, e1⟩ := a.2 x xs e
  exact b.2 x ys e1⟩
theorem Same.but {h : Addr} {H H' : Hp} (a : Same H H') : But h H H' := ⟨fun b o _ e => a b o e, fun x xs e => ⟨xs, a _ _ e⟩⟩
theorem but_upd {h : Addr} {H : Hp} {x : V} {xs ys : List V} (hh : H h = some (.lst (x :: xs))) : But h H (upd H h (.lst (x :: ys))) := ⟨fun b y n e => by
  rw [upd_ne n]
  exact e, fun z zs e => by
  rw [hh] at e
  cases e
  exact ⟨ys, upd_same⟩⟩
theorem But.free {h p : Addr} {H H' : Hp} (b : But h H H') (n : p ≠ h) (e : H' p = none) : H p = none := by
  cases q : H p with
  | none => rfl
  | some o =>
    rw [b.1 p o n q] at e
    cases e
theorem But.put {h p : Addr} {H H' : Hp} {o : HO} (b : But h H H') (n : p ≠ h) (e : H p = none) : But h H (upd H' p o) := ⟨fun c x nc q => by
  rw [upd_ne (fun z => by rw [z, e] at q; cases q)]
  exact b.1 c x nc q, fun x xs q => by
  obtain ⟨ys, e1⟩ := b.2 x xs q
  exact ⟨ys, by rw [upd_ne n.symm]; exact e1⟩⟩
def HandAt (H : Hp) (h : Addr) (n : Nat) : Prop := ∃ (l : Addr) (ns : List Int) (t c : Int), H h = some (.lst [.ref l, .int t, .int c]) ∧ H l = some (.lst (ns.map V.int)) ∧ l ≠ h ∧ ns.length ≤ 63 ∧ 0 ≤ t ∧ t ≤ (n : Int) ∧ 0 ≤ c
theorem HandAt.mono {H : Hp} {h : Addr} {n m : Nat} (a : HandAt H h n) (k : n ≤ m) : HandAt H h m := by
  obtain ⟨l, ns, t, c, h1, h2, h3, h4, h5, h6, h7⟩ := a
  exact ⟨l, ns, t, c, h1, h2, h3, h4, h5, by omega, h7⟩
theorem HandAt.same {H H' : Hp} {h : Addr} {n : Nat} (a : HandAt H h n) (s : Same H H') : HandAt H' h n := by
  obtain ⟨l, ns, t, c, h1, h2, r⟩ := a
  exact ⟨l, ns, t, c, s _ _ h1, s _ _ h2, r⟩
theorem HandAt.is {H : Hp} {h : Addr} {n : Nat} (a : HandAt H h n) : ∃ xs, H h = some (.lst xs) := by
  obtain ⟨l, ns, t, c, h1, _⟩ := a
  exact ⟨_, h1⟩
/-- something that was not there is written -/
theorem HandAt.put {H H' : Hp} {h p : Addr} {m n : Nat} {o : HO} (a : HandAt H' h n) (b : But h H H') (a0 : HandAt H h m) (np : H p = none) (n0 : p ≠ h) : HandAt (upd H' p o) h n := by
  obtain ⟨l, ns, t, c, e1, e2, r⟩ := a
  obtain ⟨l0, ns0, t0, c0, f1, f2, _⟩ := a0
  obtain ⟨ys, e3⟩ := b.2 _ _ f1
  rw [e1] at e3
  have el : l = l0 := V.ref.inj (List.cons.inj (HO.lst.inj (Option.some.inj e3))).1
  have nlp : l ≠ p := fun e => by
    rw [← el, e, np] at f2
    cases f2
  exact ⟨l, ns, t, c, by rw [upd_ne n0.symm]; exact e1, by rw [upd_ne nlp]; exact e2, r⟩
theorem scDealt : FnScope ["script"] ["script"] (defScope sDealt) := ⟨rfl, rfl, rfl, by decide +kernel, rfl, by decide +kernel, by decide +kernel⟩
theorem scPick : FnScope ["hand", "many", "digit", "turn", "cell", "mixed"] ["hand", "many"] (defScope sPick) := ⟨rfl, rfl, rfl, by decide +kernel, rfl, by decide +kernel, by decide +kernel⟩
def spDealt (K : PySem.W.Frag) : Sp := fun vs H Q _ => ∃ (a : Addr) (ns : List Int), vs = [.ref a] ∧ SqL K H a (ns.map V.int) ∧ ns.length ≤ 63 ∧ ∀ H' h, Same H H' → H h = none → HandAt H' h 0 → Q (.ref h) H'
def spPick : Sp := fun vs H Q _ => ∃ (h : Addr) (many : Int) (n : Nat), vs = [.ref h, .int many] ∧ HandAt H h n ∧ n ≤ 1000000 ∧ 0 < many ∧ many ≤ 100000000 ∧ ∀ H' d, But h H H' → HandAt H' h (n + 1) → 0 ≤ d → d < many → Q (.int d) H'
theorem cut_map (ns : List Int) (lo hi : Option Int) : ∃ ms : List Int, cutV (ns.map V.int) lo hi = ms.map V.int ∧ ms.length ≤ ns.length := by
  refine ⟨(ns.drop (HT.sIx (ns.map V.int).length 0 lo)).take (HT.sIx (ns.map V.int).length (ns.map V.int).length hi - HT.sIx (ns.map V.int).length 0 lo), ?_, ?_⟩
  · unfold cutV
    rw [List.map_take, List.map_drop]
  · rw [List.length_take, List.length_drop]
    omega
theorem dpAll_ints {K : PySem.W.Frag} {H : Hp} : ∀ ns : List Int, DpAll K H (ns.map V.int) (ns.map PyData.int)
  | [] => .nil
  | n :: r => .cons (.int n) (dpAll_ints r)
section
variable {P : Program} {w : World} {K : PySem.W.Frag} {mg : Str → Option Value} {base : Heap}
theorem ok_dealt {f : Addr} {fd : FuncData} {k : Nat} (F : FnP K "_law_dealt" sDealt f fd) (ml : mg "list" = none) : FnOk P w K mg base CX0 (k + 1) f fd ["script"] (spDealt K) := by
  refine F.ok scDealt (fun vs H Q E h => ?_) (fun cdv A outer s H vs Q E hr h => ?_)
  · obtain ⟨a, ns, rfl, _⟩ := h
    rfl
  · obtain ⟨a, ns, rfl, hS, hl, q⟩ := h
    refine ⟨_, PSs.nox (pss_one (ps_ret (pe_lst (pa_cons (pe_callTy call_list_of (by rfl) ml (by decide +kernel) (pa_cons (pe_slice sl_list (pv 0) po_none (po_some pe_int)) pa_nil)) (pa_cons pe_int (pa_cons pe_int pa_nil)))))), ?_⟩
    obtain ⟨ms, em, lm⟩ := cut_map ns none (some 63)
    refine ⟨_, rfl, 63, rfl, a, _, rfl, hS, fun p np => ⟨p, _, rfl, .inl (SqL.of upd_same), fun l nl => ⟨by show 3 ≤ sizeLine; decide, fun h nh => ?_⟩⟩⟩
    have s1 := (same_upd (o := HO.lst (cutV (ns.map V.int) none (some 63))) np)
    have s2 := (same_upd (o := HO.lst (cutV (ns.map V.int) none (some 63))) nl)
    have s3 := (same_upd (o := HO.lst [.ref l, .int 0, .int 0]) nh)
    have sm := (s1.trans s2).trans s3
    have nlh : l ≠ h := fun e => by
      rw [← e, upd_same] at nh
      cases nh
    refine q _ h sm ((s1.trans s2).free nh) ⟨l, ms, 0, 0, upd_same, ?_, nlh, by omega, Int.le_refl _, Int.le_refl _, Int.le_refl _⟩
    rw [upd_ne nlh, upd_same, em]
theorem pw_ne : (((10 : Int) ^ (60 : Int).toNat) ^ (60 : Int).toNat) ^ (4 : Int).toNat ≠ 0 := by decide +kernel
theorem pw_pos : 0 < (((10 : Int) ^ (60 : Int).toNat) ^ (60 : Int).toNat) ^ (4 : Int).toNat := by decide +kernel
theorem ok_pick {f : Addr} {fd : FuncData} {k : Nat} (F : FnP K "_law_pick" sPick f fd) (ml : mg "len" = none) (ma : mg "abs" = none) : FnOk P w K mg base CX0 (k + 1) f fd ["hand", "many"] spPick := by
  refine F.ok scPick (fun vs H Q E h => ?_) (fun cdv A outer s H vs Q E hr h => ?_)
  · obtain ⟨h, m, n, rfl, _⟩ := h
    rfl
  · obtain ⟨h, m, n, rfl, ⟨l, ns, t, c, hh, hl, nlh, ln, t0, tn, c0⟩, hn, m0, m1, q⟩ := h
    refine ⟨_, PSs.nox (pss_cons (ps_if (pt_cmpR op_gt (pe_ix ix_list (pv 0) pe_int (fun _ _ => rfl)) pe_int (nomark _))
        (pss_cons (ps_set (i := 2) scPick.nd rfl (.inl rfl) (pe_op op_modN (pe_ix ix_list (pv 0) pe_int (fun _ _ => rfl)) (pv 1)))
        (pss_cons (ps_asg (pe_op op_fdivN (pe_ix ix_list (pv 0) pe_int (fun _ _ => rfl)) (pv 1)) (pg_sub (pv 0) pe_int set_list))
        (pss_one (ps_ret (pv 2))))) pss_nil)
      (pss_cons (ps_set (i := 3) scPick.nd rfl (.inl rfl) (pe_ix ix_list (pv 0) pe_int (fun _ _ => rfl)))
      (pss_cons (ps_asg (pe_op op_add (pv 3) pe_int) (pg_sub (pv 0) pe_int set_list))
      (pss_cons (ps_set (i := 4) scPick.nd rfl (.inl rfl) (pe_op op_add (pe_op op_mul pe_int (pv 3)) pe_int))
      (C8.pss_cut (ps_if (pt_cmpR (op_neD hr.units) (pe_ix ix_list (pv 0) pe_int (fun _ _ => rfl)) (pe_lst pa_nil) (nomark _))
        (pss_one (ps_set (i := 4) scPick.nd rfl (.inl rfl) (pe_ix ix_list (pe_ix ix_list (pv 0) pe_int (fun _ _ => rfl)) (pe_op op_modN (pv 3) (pe_callB call_len_seq (by rfl) ml PySem.boot_len (pa_cons (pe_ix ix_list (pv 0) pe_int (fun _ _ => rfl)) pa_nil))) (fun _ _ => rfl)))) pss_nil)
      (C8.pss_cut (ps_if (PW.pt (pw_and (pt_cmpR op_lt (pv 3) (pe_callB call_len_seq (by rfl) ml PySem.boot_len (pa_cons (pe_ix ix_list (pv 0) pe_int (fun _ _ => rfl)) pa_nil)) (nomark _))
          (pw_and1 (pt_cmpR op_ge (pe_callB call_abs (by rfl) ma (by decide +kernel) (pa_cons (pv 4) pa_nil)) (pe_op op_pow pe_int pe_int) (nomark _)))))
        (pss_cons (ps_set (i := 4) scPick.nd rfl (.inl rfl) (pe_op op_modN (pe_callB call_abs (by rfl) ma (by decide +kernel) (pa_cons (pv 4) pa_nil)) (pe_op op_powB (pe_op op_powB (pe_op op_powB pe_int pe_int) pe_int) pe_int)))
        (pss_cons (ps_asg (pe_op op_fdivN (pv 4) (pv 1)) (pg_sub (pv 0) pe_int set_list))
        (pss_one (ps_ret (pe_op op_modN (pv 4) (pv 1)))))) pss_nil)
      (pss_cons (ps_set (i := 5) scPick.nd rfl (.inl rfl) (pe_op op_modN (pe_op op_mul (pe_op op_add (pe_op op_add (pe_op op_modN (pv 4) pe_int) (pe_op op_mul pe_int (pv 3))) pe_int) pe_int) pe_int))
      (pss_cons (ps_set (i := 5) scPick.nd rfl (.inl rfl) (pe_op op_modN (pe_op op_add (pe_op op_add (pe_op op_mul (pv 5) (pv 5)) (pe_op op_mul pe_int (pv 3))) pe_int) pe_int))
      (pss_one (ps_ret (pe_op op_modN (pe_op op_fdivN (pe_op op_modN (pe_op op_mul (pv 5) (pe_op op_add (pe_op op_modN (pv 5) pe_int) pe_int)) pe_int) pe_int) (pv 1)))))))))))), ?_⟩
    have dm : ∀ x : Int, 0 ≤ x.fmod m ∧ x.fmod m < m := fun x => ⟨Int.fmod_nonneg_of_pos x m0, Int.fmod_lt_of_pos x m0⟩
    have mN : m ≠ 0 := by omega
    have mB : m.natAbs < 1073741824 := by omega
    have dp : ∀ x : Int, 0 ≤ x → 0 ≤ x.fdiv m := fun x h => by
      rw [Int.fdiv_eq_ediv_of_nonneg x (by omega)]
      exact Int.ediv_nonneg h (by omega)
    -- hand[2] > 0
    refine ⟨_, rfl, h, _, 2, .int c, rfl, rfl, SqL.of hh, atI_nat (j := 2) rfl, c, 0, rfl, rfl, _, rfl, ite2 (fun e => ?_) (fun e => ?_)⟩
    · have hc : 0 < c := of_decide_eq_true e
      refine ⟨_, rfl, h, _, 2, .int c, rfl, rfl, SqL.of hh, atI_nat (j := 2) rfl, _, rfl, c, m, rfl, rfl, mN, ?_⟩
      refine ⟨_, rfl, h, _, 2, .int c, rfl, rfl, SqL.of hh, atI_nat (j := 2) rfl, _, rfl, c, m, rfl, rfl, ⟨mN, mB⟩, _, rfl, h, _, 2, 2, rfl, rfl, hh, rfl, ?_⟩
      refine ⟨_, rfl, q _ _ (but_upd hh) ⟨l, ns, t, c.fdiv m, upd_same, ?_, nlh, ln, t0, by omega, dp c c0⟩ (dm c).1 (dm c).2⟩
      rw [upd_ne nlh]
      exact hl
    · refine ⟨_, rfl, h, _, 1, .int t, rfl, rfl, SqL.of hh, atI_nat (j := 1) rfl, ?_⟩
      refine ⟨_, rfl, t, 1, rfl, rfl, _, rfl, h, _, 1, 1, rfl, rfl, hh, rfl, ?_⟩
      refine ⟨_, rfl, 31, t, rfl, rfl, .inl (by decide), _, 7, rfl, rfl, ?_⟩
      have hh1 : (upd H h (.lst (([.ref l, .int t, .int c] : List V).set 1 (.int (t + 1))))) h = some (.lst [.ref l, .int (t + 1), .int c]) := upd_same
      have hl1 : (upd H h (.lst (([.ref l, .int t, .int c] : List V).set 1 (.int (t + 1))))) l = some (.lst (ns.map V.int)) := by
        rw [upd_ne nlh]
        exact hl
      have b1 : But h H (upd H h (.lst (([.ref l, .int t, .int c] : List V).set 1 (.int (t + 1))))) := but_upd hh
      generalize (upd H h (.lst (([.ref l, .int t, .int c] : List V).set 1 (.int (t + 1))))) = H1 at hh1 hl1 b1
      refine ⟨fun σ' H' => ∃ cell, σ' = [some (.ref h), some (.int m), none, some (.int t), some (.int cell), none] ∧ H' h = some (.lst [.ref l, .int (t + 1), .int c]) ∧ H' l = some (.lst (ns.map V.int)) ∧ But h H H', ?_, ?_⟩
      · refine ⟨_, rfl, h, _, 0, .ref l, rfl, rfl, SqL.of hh1, atI_nat (j := 0) rfl, Nat.zero_le _, fun p np => ?_⟩
        have hh2 : (upd H1 p (.lst [])) h = some (.lst [.ref l, .int (t + 1), .int c]) := by rw [upd_ne (ne_of_none hh1 np)]; exact hh1
        have hl2 : (upd H1 p (.lst [])) l = some (.lst (ns.map V.int)) := by rw [upd_ne (ne_of_none hl1 np)]; exact hl1
        have b2 : But h H (upd H1 p (.lst [])) := b1.trans (Same.but (same_upd np))
        have hp2 : (upd H1 p (.lst [])) p = some (.lst []) := upd_same
        generalize (upd H1 p (.lst [])) = H2 at hh2 hl2 b2 hp2
        refine ⟨.list (ns.map PyData.int), .list [], .lst (SqL.of hl2) (dpAll_ints ns), .lst (SqL.of hp2) .nil, PySem.W.ke_shaped_ints ns, by decide +kernel, _, rfl, ite2 (fun e => ?_) (fun e => ?_)⟩
        · have n0 : 0 < ns.length := by
            cases ns with
            | nil => exact absurd e (by decide +kernel)
            | cons x r => exact Nat.succ_pos _
          have hlen : ((ns.map V.int).length : Int) ≠ 0 := by rw [List.length_map]; omega
          have f0 : 0 ≤ t.fmod ((ns.map V.int).length : Int) := Int.fmod_nonneg_of_pos t (by rw [List.length_map]; omega)
          have f1 : t.fmod ((ns.map V.int).length : Int) < ((ns.map V.int).length : Int) := Int.fmod_lt_of_pos t (by rw [List.length_map]; omega)
          obtain ⟨j, ej⟩ := Int.eq_ofNat_of_zero_le f0
          have hj : j < ns.length := by
            rw [ej, List.length_map] at f1
            exact Int.ofNat_lt.mp f1
          refine ⟨_, rfl, h, _, 0, .ref l, rfl, rfl, SqL.of hh2, atI_nat (j := 0) rfl, _, rfl, _, rfl, h, _, 0, .ref l, rfl, rfl, SqL.of hh2, atI_nat (j := 0) rfl, l, _, rfl, .inl (SqL.of hl2), t, _, rfl, rfl, hlen, l, _, (j : Int), .int ns[j], rfl, congrArg V.int ej, SqL.of hl2, atI_nat (j := j) ?_, ns[j], rfl, hh2, hl2, b2⟩
          rw [List.getElem?_map, List.getElem?_eq_getElem hj]
          rfl
        · exact ⟨_, rfl, hh2, hl2, b2⟩
      · rintro σ' H' ⟨cell, rfl, hh3, hl3, b3⟩
        refine ⟨fun σ2 H2 => σ2 = [some (.ref h), some (.int m), none, some (.int t), some (.int cell), none] ∧ H2 = H', ?_, ?_⟩
        · refine ⟨_, rfl, _, rfl, h, _, 0, .ref l, rfl, rfl, SqL.of hh3, atI_nat (j := 0) rfl, l, _, rfl, .inl (SqL.of hl3), t, _, rfl, rfl, _, rfl, ite2 (fun e => ?_) (fun e => ?_)⟩
          · refine ⟨_, rfl, cell, rfl, 10, 18, rfl, rfl, ⟨by decide, by decide, by decide⟩, _, _, rfl, rfl, _, rfl, ite2 (fun e2 => ?_) (fun e2 => ⟨rfl, rfl⟩)⟩
            refine ⟨_, rfl, cell, rfl, 10, 60, rfl, rfl, ⟨by decide, by decide +kernel⟩, _, 60, rfl, rfl, ⟨by decide, by decide +kernel⟩, _, 4, rfl, rfl, ⟨by decide, by decide +kernel⟩, _, _, rfl, rfl, pw_ne, ?_⟩
            obtain ⟨c2, ec⟩ : ∃ c2, c2 = (if cell < 0 then -cell else cell).fmod ((((10 : Int) ^ (60 : Int).toNat) ^ (60 : Int).toNat) ^ (4 : Int).toNat) := ⟨_, rfl⟩
            have c1 : 0 ≤ c2 := by
              rw [ec]
              exact Int.fmod_nonneg_of_pos _ pw_pos
            have ec' := congrArg V.int ec.symm
            refine ⟨_, rfl, _, rfl, c2, m, ec', rfl, ⟨mN, mB⟩, _, rfl, h, _, 2, 2, rfl, rfl, hh3, rfl, ?_⟩
            refine ⟨_, rfl, _, rfl, c2, m, ec', rfl, mN, q _ _ (b3.trans (but_upd hh3)) ⟨l, ns, t + 1, c2.fdiv m, upd_same, ?_, nlh, ln, by omega, by omega, dp c2 c1⟩ (dm c2).1 (dm c2).2⟩
            rw [upd_ne nlh]
            exact hl3
          · exact iteF ⟨rfl, rfl⟩
        · rintro σ2 H2 ⟨rfl, rfl⟩
          obtain ⟨x1, e1⟩ : ∃ x1, x1 = cell.fmod 2147483579 := ⟨_, rfl⟩
          obtain ⟨x2, e2⟩ : ∃ x2, x2 = ((x1 + 50021 * t + 3) * 69621).fmod 2147483647 := ⟨_, rfl⟩
          obtain ⟨x3, e3⟩ : ∃ x3, x3 = (x2 * x2 + 48271 * t + 19).fmod 2147483563 := ⟨_, rfl⟩
          have r3 := Int.fmod_nonneg_of_pos ((x1 + 50021 * t + 3) * 69621) (b := 2147483647) (by decide)
          have r4 := Int.fmod_lt_of_pos ((x1 + 50021 * t + 3) * 69621) (b := 2147483647) (by decide)
          have r5 := Int.fmod_nonneg_of_pos (x2 * x2 + 48271 * t + 19) (b := 2147483563) (by decide)
          have r6 := Int.fmod_lt_of_pos (x2 * x2 + 48271 * t + 19) (b := 2147483563) (by decide)
          rw [← e2] at r3 r4
          rw [← e3] at r5 r6
          have e1' := congrArg V.int e1.symm
          have e2' := congrArg V.int e2.symm
          have e3' := congrArg V.int e3.symm
          refine ⟨_, rfl, cell, 2147483579, rfl, rfl, (show (2147483579 : Int) ≠ 0 by decide), _, rfl, 50021, t, rfl, rfl, .inl (by decide), x1, _, e1', rfl, _, 3, rfl, rfl, x1 + 50021 * t + 3, 69621, rfl, rfl, .inr (by decide), _, 2147483647, rfl, rfl, (show (2147483647 : Int) ≠ 0 by decide), ?_⟩
          refine ⟨_, rfl, _, rfl, x2, x2, e2', e2', .inl (by omega), _, rfl, 48271, t, rfl, rfl, .inl (by decide), _, _, rfl, rfl, _, 19, rfl, rfl, _, 2147483563, rfl, rfl, (show (2147483563 : Int) ≠ 0 by decide), ?_⟩
          refine ⟨_, rfl, _, rfl, x3, 32749, e3', rfl, (show (32749 : Int) ≠ 0 by decide), _, 5, rfl, rfl, x3, _, e3', rfl, .inl (by omega), _, 2147483629, rfl, rfl, (show (2147483629 : Int) ≠ 0 by decide), _, 32, rfl, rfl, ⟨by decide, by decide⟩, _, rfl, _, m, rfl, rfl, mN, ?_⟩
          exact q _ _ b3 ⟨l, ns, t + 1, c, hh3, hl3, nlh, ln, by omega, by omega, c0⟩ (dm _).1 (dm _).2
end
end Vl

set_option maxHeartbeats 4000000
namespace Vl
open PySem PySem.Spec PyProof.Rows L2 TL
abbrev sAlpha : Stmt := top 19
abbrev sLong : Stmt := top 20
abbrev sAText : Stmt := top 21
theorem scAlpha : FnScope ["some"] [] (defScope sAlpha) := ⟨rfl, rfl, rfl, by decide +kernel, rfl, by decide +kernel, by decide +kernel⟩
theorem scLong : FnScope ["hand", "total", "k"] ["hand"] (defScope sLong) := ⟨rfl, rfl, rfl, by decide +kernel, rfl, by decide +kernel, by decide +kernel⟩
theorem scAText : FnScope ["hand", "most", "signs", "found", "k", "sign"] ["hand", "most"] (defScope sAText) := ⟨rfl, rfl, rfl, by decide +kernel, rfl, by decide +kernel, by decide +kernel⟩
def sgOk (c : Nat) : Prop := 32 ≤ c ∧ c ≤ 126 ∧ c ≠ 37
instance (c : Nat) : Decidable (sgOk c) := inferInstanceAs (Decidable (_ ∧ _))
theorem atI_in {α : Type} {xs : List α} {d : Int} (h0 : 0 ≤ d) (h1 : d < (xs.length : Int)) : ∃ v, atI xs d = some v ∧ v ∈ xs := by
  obtain ⟨j, rfl⟩ := Int.eq_ofNat_of_zero_le h0
  have hj : j < xs.length := Int.ofNat_lt.mp h1
  exact ⟨xs[j], atI_nat (List.getElem?_eq_getElem hj), List.getElem_mem hj⟩
theorem ne_hand {H : Hp} {h p : Addr} {n : Nat} (A : HandAt H h n) (np : H p = none) : p ≠ h := fun e => by
  obtain ⟨xs, ex⟩ := A.is
  rw [e, ex] at np
  cases np
theorem but_at {h p : Addr} {H H' : Hp} {o : HO} (b : But h H H') (hp : H p = some o) (n : p ≠ h) : H' p = some o := b.1 p o n hp
def spAlpha : Sp := fun vs H Q _ => vs = [] ∧ ∀ al : Str, al.length = 94 → (∀ c ∈ tl al, sgOk c) → Q (.str al) H
def spLong : Sp := fun vs H Q _ => ∃ (h : Addr) (n : Nat), vs = [.ref h] ∧ HandAt H h n ∧ n ≤ 900000 ∧ ∀ H' (i : Int), But h H H' → HandAt H' h (n + 44) → i.natAbs < 10 ^ 40 → Q (.int i) H'
def spAText : Sp := fun vs H Q _ => ∃ (h : Addr) (most n : Nat), vs = [.ref h, .int (most : Int)] ∧ HandAt H h n ∧ n ≤ 900000 ∧ 1 ≤ most ∧ most ≤ 1000 ∧ ∀ H' z, But h H H' → HandAt H' h (n + 2 + 2 * most) → z.length ≤ most → (∀ c ∈ tl z, sgOk c) → Q (.str z) H'
theorem long_vals {a b : Int} {x : V} (h : x ∈ ([.int 1, .int (1 + a), .int (1 + b), .int 40] : List V)) (a0 : 0 ≤ a) (a1 : a < 5) (b0 : 0 ≤ b) (b1 : b < 40) : ∃ v : Nat, x = .int (v : Int) ∧ v ≤ 40 := by
  rcases List.mem_cons.mp h with e | h
  · exact ⟨1, e, by omega⟩
  rcases List.mem_cons.mp h with e | h
  · exact ⟨(1 + a).toNat, by rw [e]; congr 1; omega, by omega⟩
  rcases List.mem_cons.mp h with e | h
  · exact ⟨(1 + b).toNat, by rw [e]; congr 1; omega, by omega⟩
  rcases List.mem_cons.mp h with e | h
  · exact ⟨40, e, by omega⟩
  · cases h
theorem one_vals {x : V} (h : x ∈ ([.int 1, .int (-1)] : List V)) : x = .int 1 ∨ x = .int (-1) := by
  rcases List.mem_cons.mp h with e | h
  · exact .inl e
  · exact .inr (List.mem_singleton.mp h)
theorem text_vals {a : Int} {x : V} {m : Nat} (h : x ∈ ([.int 0, .int 1, .int a] : List V)) (hm : 1 ≤ m) (a0 : 0 ≤ a) (a1 : a ≤ m) : ∃ v : Nat, x = .int (v : Int) ∧ v ≤ m := by
  rcases List.mem_cons.mp h with e | h
  · exact ⟨0, e, by omega⟩
  rcases List.mem_cons.mp h with e | h
  · exact ⟨1, e, by omega⟩
  rcases List.mem_cons.mp h with e | h
  · exact ⟨a.toNat, by rw [e]; congr 1; omega, by omega⟩
  · cases h
theorem sign_vals {c : Nat} {x : V} (hc : sgOk c) (h : x ∈ ([.str (Str.ofString "\""), .str (Str.ofString " "), .str ⟨#[c]⟩, .str ⟨#[c]⟩] : List V)) : ∃ z : Str, x = .str z ∧ z.length = 1 ∧ ∀ e ∈ tl z, sgOk e := by
  rcases List.mem_cons.mp h with e | h
  · exact ⟨_, e, by decide +kernel, by decide +kernel⟩
  rcases List.mem_cons.mp h with e | h
  · exact ⟨_, e, by decide +kernel, by decide +kernel⟩
  have q : ∃ z : Str, (V.str ⟨#[c]⟩) = .str z ∧ z.length = 1 ∧ ∀ e ∈ tl z, sgOk e := ⟨_, rfl, rfl, fun e he => by rw [List.mem_singleton.mp (show e ∈ [c] from he)]; exact hc⟩
  rcases List.mem_cons.mp h with e | h
  · rw [e]; exact q
  rcases List.mem_cons.mp h with e | h
  · rw [e]; exact q
  · cases h
section
variable {P : Program} {w : World} {K : PySem.W.Frag} {mg : Str → Option Value} {base : Heap}
theorem ok_alpha {f : Addr} {fd : FuncData} {k : Nat} (F : FnP K "_law_alphabet" sAlpha f fd) : FnOk P w K mg base CX0 (k + 1) f fd [] spAlpha := by
  refine F.ok scAlpha (fun vs H Q E h => ?_) (fun cdv A outer s H vs Q E hr h => ?_)
  · obtain ⟨rfl, _⟩ := h
    rfl
  · obtain ⟨rfl, q⟩ := h
    refine ⟨_, PSs.nox (pss_cons (ps_set (i := 0) scAlpha.nd rfl (.inl rfl) pe_str) (pss_one (ps_ret (pe_op op_add_str (pv 0) pe_str)))), ?_⟩
    refine ⟨_, rfl, _, _, rfl, rfl, by decide +kernel, q _ ?_ ?_⟩
    · decide +kernel
    · decide +kernel
theorem ok_long {f fP : Addr} {fd fdP : FuncData} {k : Nat} (F : FnP K "_law_long_number" sLong f fd) (FP : FnP K "_law_pick" sPick fP fdP) (gP : mg "_law_pick" = some (.ref fP)) (GP : FnOk P w K mg base CX0 k fP fdP ["hand", "many"] spPick) (mr : mg "range" = none) :
    FnOk P w K mg base CX0 (k + 1) f fd ["hand"] spLong := by
  have bP : Binds K fdP ["hand", "many"] [] := FP.bindsN fun _ _ _ _ _ _ us hl => match us, hl with | [_, _], _ => rfl
  refine F.ok scLong (fun vs H Q E h => ?_) (fun cdv A outer s H vs Q E hr h => ?_)
  · obtain ⟨h, n, rfl, _⟩ := h
    rfl
  · obtain ⟨h, n, rfl, hA, hn, q⟩ := h
    have hs := szl
    refine ⟨_, PSs.nox (pss_cons (ps_set (i := 1) scLong.nd rfl (.inl rfl) (pe_int))
      (pss_cons (ps_for PassesOwn.never rfl (pi_range1 (by rfl) mr (pa_cons (pe_ix ix_list (pe_lst (pa_cons (pe_int) (pa_cons (pe_op op_add (pe_int) (pe_call GP hr (by rfl) gP FP.kp bP .nil pass0 (pa_cons (pv 0) (pa_cons (pe_int) pa_nil)))) (pa_cons (pe_op op_add (pe_int) (pe_call GP hr (by rfl) gP FP.kp bP .nil pass0 (pa_cons (pv 0) (pa_cons (pe_int) pa_nil)))) (pa_cons (pe_int) pa_nil))))) (pe_call GP hr (by rfl) gP FP.kp bP .nil pass0 (pa_cons (pv 0) (pa_cons (pe_int) pa_nil))) (fun _ _ => rfl)) pa_nil)) (pg_name (i := 2) scLong.nd rfl (.inl rfl)) (pss_one (ps_set (i := 1) scLong.nd rfl (.inl rfl) (pe_op op_add (pe_op op_mul (pe_int) (pv 1)) (pe_call GP hr (by rfl) gP FP.kp bP .nil pass0 (pa_cons (pv 0) (pa_cons (pe_int) pa_nil)))))))
      (pss_one (ps_ret (pe_op op_mul (pv 1) (pe_ix ix_list (pe_lst (pa_cons (pe_int) (pa_cons (pe_un un_neg pe_int) pa_nil))) (pe_call GP hr (by rfl) gP FP.kp bP .nil pass0 (pa_cons (pv 0) (pa_cons (pe_int) pa_nil))) (fun _ _ => rfl))))))), ?_⟩
    refine ⟨_, rfl, h, 5, n, rfl, hA, by omega, by omega, by omega, fun H1 d1 b1 A1 d10 d11 => ⟨1, d1, rfl, rfl, _, rfl, h, 40, _, rfl, A1, by omega, by omega, by omega, fun H2 d2 b2 A2 d20 d21 => ⟨1, d2, rfl, rfl, by show 4 ≤ sizeLine; omega, fun p np => ?_⟩⟩⟩
    have nph := ne_hand A2 np
    refine ⟨_, rfl, h, 4, _, rfl, A2.same (same_upd np), by omega, by omega, by omega, fun H3 d3 b3 A3 d30 d31 => ?_⟩
    obtain ⟨v, ev, vm⟩ := atI_in (xs := ([.int 1, .int (1 + d1), .int (1 + d2), .int 40] : List V)) d30 (by show d3 < 4; exact d31)
    obtain ⟨c, rfl, c1⟩ := long_vals vm d10 d11 d20 d21
    have bb : But h H H3 := ((b1.trans b2).trans (Same.but (same_upd np))).trans b3
    refine ⟨p, _, d3, _, rfl, rfl, SqL.of (but_at b3 upd_same nph), ev, (c : Int), rfl, by omega, by omega, ?_⟩
    refine for_range (lo := 0) (n := (c : Int).toNat) (fun i σ H' => ∃ (t : Int) (y : Option V), σ = [some (.ref h), some (.int t), y] ∧ 0 ≤ t ∧ t < ((10 ^ i : Nat) : Int) ∧ HandAt H' h (n + 3 + i) ∧ But h H H') ⟨0, none, rfl, Int.le_refl 0, by decide, A3, bb⟩ ?_ ?_
    · rintro i σ H' hi ⟨t, y, rfl, t0, t1, Ai, bi⟩
      refine ⟨_, rfl, 10, t, rfl, rfl, .inl (by decide), _, rfl, h, 10, _, rfl, Ai, by omega, by omega, by omega, fun H4 d4 b4 A4 d40 d41 => ?_⟩
      refine ⟨10 * t, d4, rfl, rfl, 10 * t + d4, some (.int (0 + (i : Int))), rfl, by omega, ?_, A4, bi.trans b4⟩
      rw [Nat.pow_succ]
      omega
    · rintro σ H' ⟨t, y, rfl, t0, t1, Ai, bi⟩
      have hc : (c : Int).toNat ≤ 40 := by omega
      have tb : t < ((10 ^ 40 : Nat) : Int) := Int.lt_of_lt_of_le t1 (Int.ofNat_le.mpr (Nat.pow_le_pow_right (by decide) hc))
      refine ⟨_, rfl, 1, rfl, by show 2 ≤ sizeLine; omega, fun p2 np2 => ?_⟩
      have nph2 := ne_hand Ai np2
      refine ⟨_, rfl, h, 2, _, rfl, Ai.same (same_upd np2), by omega, by omega, by omega, fun H5 d5 b5 A5 d50 d51 => ?_⟩
      obtain ⟨v5, ev5, vm5⟩ := atI_in (xs := ([.int 1, .int (-1)] : List V)) d50 (by show d5 < 2; exact d51)
      have bb5 : But h H H5 := (bi.trans (Same.but (same_upd np2))).trans b5
      rcases one_vals vm5 with rfl | rfl
      · exact ⟨p2, _, d5, _, rfl, rfl, SqL.of (but_at b5 upd_same nph2), ev5, t, 1, rfl, rfl, .inr (by decide), q H5 _ bb5 (A5.mono (by omega)) (by omega)⟩
      · exact ⟨p2, _, d5, _, rfl, rfl, SqL.of (but_at b5 upd_same nph2), ev5, t, -1, rfl, rfl, .inr (by decide), q H5 _ bb5 (A5.mono (by omega)) (by omega)⟩
theorem ok_atext {f fA fP : Addr} {fd fdA fdP : FuncData} {k : Nat} (F : FnP K "_law_any_text" sAText f fd) (FA : FnP K "_law_alphabet" sAlpha fA fdA) (gA : mg "_law_alphabet" = some (.ref fA)) (GA : FnOk P w K mg base CX0 k fA fdA [] spAlpha)
    (FP : FnP K "_law_pick" sPick fP fdP) (gP : mg "_law_pick" = some (.ref fP)) (GP : FnOk P w K mg base CX0 k fP fdP ["hand", "many"] spPick) (mr : mg "range" = none) : FnOk P w K mg base CX0 (k + 1) f fd ["hand", "most"] spAText := by
  have bA : Binds K fdA [] [] := FA.bindsN fun _ _ _ _ _ _ us hl => match us, hl with | [], _ => rfl
  have bP : Binds K fdP ["hand", "many"] [] := FP.bindsN fun _ _ _ _ _ _ us hl => match us, hl with | [_, _], _ => rfl
  refine F.ok scAText (fun vs H Q E h => ?_) (fun cdv A outer s H vs Q E hr h => ?_)
  · obtain ⟨h, m, n, rfl, _⟩ := h
    rfl
  · obtain ⟨h, m, n, rfl, hA, hn, m1, m2, q⟩ := h
    have hs := szl
    refine ⟨_, PSs.nox (pss_cons (ps_par (i := 2) (j := 3) rfl scAText.nd rfl rfl (by decide) rfl rfl (pa_cons (pe_call0 GA hr (by rfl) gA FA.kp bA .nil pass0) (pa_cons (pe_str) pa_nil)) (by rfl))
      (pss_cons (ps_for PassesOwn.never rfl (pi_range1 (by rfl) mr (pa_cons (pe_ix ix_list (pe_lst (pa_cons (pe_int) (pa_cons (pe_int) (pa_cons (pe_call GP hr (by rfl) gP FP.kp bP .nil pass0 (pa_cons (pv 0) (pa_cons (pe_op op_add (pv 1) (pe_int)) pa_nil))) pa_nil)))) (pe_call GP hr (by rfl) gP FP.kp bP .nil pass0 (pa_cons (pv 0) (pa_cons (pe_int) pa_nil))) (fun _ _ => rfl)) pa_nil)) (pg_name (i := 4) scAText.nd rfl (.inl rfl)) (pss_cons (ps_set (i := 5) scAText.nd rfl (.inl rfl) (pe_ix ix_str (pv 2) (pe_call GP hr (by rfl) gP FP.kp bP .nil pass0 (pa_cons (pv 0) (pa_cons (pe_int) pa_nil))) (fun _ _ => rfl)))
      (pss_one (ps_set (i := 3) scAText.nd rfl (.inl rfl) (pe_op op_add_str (pv 3) (pe_ix ix_list (pe_lst (pa_cons (pe_str) (pa_cons (pe_str) (pa_cons (pv 5) (pa_cons (pv 5) pa_nil))))) (pe_call GP hr (by rfl) gP FP.kp bP .nil pass0 (pa_cons (pv 0) (pa_cons (pe_int) pa_nil))) (fun _ _ => rfl)))))))
      (pss_one (ps_ret (pv 3))))), ?_⟩
    refine ⟨rfl, fun al hal hals => ⟨_, _, rfl, ?_⟩⟩
    refine ⟨_, rfl, _, rfl, (m : Int), 1, rfl, rfl, h, (m : Int) + 1, n, rfl, hA, by omega, by omega, by omega, fun H1 d1 b1 A1 d10 d11 => ⟨by show 3 ≤ sizeLine; omega, fun p np => ?_⟩⟩
    have nph := ne_hand A1 np
    refine ⟨_, rfl, h, 3, _, rfl, A1.same (same_upd np), by omega, by omega, by omega, fun H3 d3 b3 A3 d30 d31 => ?_⟩
    obtain ⟨v, ev, vm⟩ := atI_in (xs := ([.int 0, .int 1, .int d1] : List V)) d30 (by show d3 < 3; exact d31)
    obtain ⟨c, rfl, c1⟩ := text_vals vm m1 d10 (by omega)
    have bb : But h H H3 := (b1.trans (Same.but (same_upd np))).trans b3
    refine ⟨p, _, d3, _, rfl, rfl, SqL.of (but_at b3 upd_same nph), ev, (c : Int), rfl, by omega, by omega, ?_⟩
    refine for_range (lo := 0) (n := (c : Int).toNat) (fun i σ H' => ∃ (z : Str) (y4 y5 : Option V), σ = [some (.ref h), some (.int (m : Int)), some (.str al), some (.str z), y4, y5] ∧ z.length ≤ i ∧ (∀ e ∈ tl z, sgOk e) ∧ HandAt H' h (n + 2 + 2 * i) ∧ But h H H') ⟨_, _, _, rfl, by decide +kernel, by decide +kernel, A3, bb⟩ ?_ ?_
    · rintro i σ H' hi ⟨z, y4, y5, rfl, hz, hzs, Ai, bi⟩
      refine ⟨_, rfl, _, rfl, h, 94, _, rfl, Ai, by omega, by omega, by omega, fun H4 d4 b4 A4 d40 d41 => ?_⟩
      obtain ⟨e4, x4, mm4⟩ := atI_in (xs := al.cps.toList) d40 (by rw [Array.length_toList]; show d4 < (al.length : Int); omega)
      have ok4 := hals e4 mm4
      refine ⟨al, d4, e4, rfl, rfl, by omega, x4, ?_⟩
      refine ⟨_, rfl, _, rfl, _, rfl, by show 4 ≤ sizeLine; omega, fun p2 np2 => ?_⟩
      have nph2 := ne_hand A4 np2
      refine ⟨_, rfl, h, 4, _, rfl, A4.same (same_upd np2), by omega, by omega, by omega, fun H6 d6 b6 A6 d60 d61 => ?_⟩
      obtain ⟨v6, x6, m6⟩ := atI_in (xs := ([.str (Str.ofString "\""), .str (Str.ofString " "), .str ⟨#[e4]⟩, .str ⟨#[e4]⟩] : List V)) d60 (by show d6 < 4; exact d61)
      obtain ⟨g6, rfl, l6, s6⟩ := sign_vals ok4 m6
      refine ⟨p2, _, d6, _, rfl, rfl, SqL.of (but_at b6 upd_same nph2), x6, z, g6, rfl, rfl, by omega, z ++ g6, some (.int (0 + (i : Int))), some (.str ⟨#[e4]⟩), rfl, ?_, ?_, ?_, ?_⟩
      · rw [app_len]
        omega
      · intro e he
        rw [tl_append] at he
        rcases List.mem_append.mp he with q | q
        · exact hzs e q
        · exact s6 e q
      · exact A6.mono (by omega)
      · exact ((bi.trans b4).trans (Same.but (same_upd np2))).trans b6
    · rintro σ H' ⟨z, y4, y5, rfl, hz, hzs, Ai, bi⟩
      exact ⟨_, rfl, q H' z bi (Ai.mono (by omega)) (by omega) hzs⟩
end
end Vl

set_option maxHeartbeats 4000000
namespace Vl
open PySem PySem.Spec PyProof.Rows L2 TL
abbrev sValue : Stmt := top 22
theorem scValue : FnScope ["hand", "deep", "way", "k"] ["hand", "deep"] (defScope sValue) := ⟨rfl, rfl, rfl, by decide +kernel, rfl, by decide +kernel, by decide +kernel⟩
def pB : Nat → Nat
  | 0 => 54
  | D + 1 => 54 + 4 * pB D
def sB : Nat → Nat
  | 0 => 1
  | D + 1 => 2 + 3 * (sB D + 1)
def wB : Nat → Nat
  | 0 => 44
  | D + 1 => 44 + 3 * (wB D + 1)
theorem pB_le (D : Nat) : 54 ≤ pB D := by cases D <;> (first | exact Nat.le_refl _ | (show 54 ≤ 54 + _; omega))
theorem sB_le (D : Nat) : 1 ≤ sB D := by cases D <;> (first | exact Nat.le_refl _ | (show 1 ≤ 2 + _; omega))
theorem wB_le (D : Nat) : 44 ≤ wB D := by cases D <;> (first | exact Nat.le_refl _ | (show 44 ≤ 44 + _; omega))
/-- brackets -/
def n41 (l : List Nat) : Nat := l.countP fun c => decide (c = 41)
def nb (l : List Nat) : Nat := l.countP fun c => decide (c = 40 ∨ c = 41)
theorem nb_app (a b : List Nat) : nb (a ++ b) = nb a + nb b := List.countP_append ..
theorem nb_cons (c : Nat) (l : List Nat) : nb (c :: l) = nb l + (if c = 40 ∨ c = 41 then 1 else 0) := by
  unfold nb
  rw [List.countP_cons]
  simp
theorem nb_le (l : List Nat) : nb l ≤ l.length := List.countP_le_length
theorem nb_zero {l : List Nat} (h : ∀ c ∈ l, c ≠ 40 ∧ c ≠ 41) : nb l = 0 := List.countP_eq_zero.mpr fun c hc => by
  have := h c hc
  simpa using this
theorem nb_dbl : ∀ l : List Nat, nb (dbl l) = nb l
  | [] => rfl
  | c :: r => by
    have ih := nb_dbl r
    by_cases h : c = 34
    · have e : dbl (c :: r) = 34 :: 34 :: dbl r := if_pos h
      rw [e, nb_cons, nb_cons, nb_cons, ih, h]
      rfl
    · have e : dbl (c :: r) = c :: dbl r := if_neg h
      rw [e, nb_cons, nb_cons, ih]
def bB : Nat → Nat
  | 0 => 20
  | D + 1 => 2 + 3 * bB D
theorem bB_mono : ∀ {D E : Nat}, D ≤ E → bB D ≤ bB E
  | _, 0, h => by
    rw [Nat.le_zero.mp h]
    exact Nat.le_refl _
  | D, E + 1, h => by
    by_cases e : D = E + 1
    · rw [e]
      exact Nat.le_refl _
    · have := bB_mono (D := D) (E := E) (by omega)
      show _ ≤ 2 + 3 * bB E
      omega
structure Good (s w D : Nat) (d : PyData) : Prop where
  b_ : nb (wr d) ≤ bB D
  ok : Ok d
  sm : SmA d
  s_ : sz d ≤ s
  w_ : (wr d).length ≤ w
  dp : d.depth ≤ D
theorem Good.mono {s w D s' w' D' : Nat} {d : PyData} (g : Good s w D d) (h1 : s ≤ s') (h2 : w ≤ w') (h3 : D ≤ D') : Good s' w' D' d := ⟨Nat.le_trans g.b_ (bB_mono h3), g.ok, g.sm, Nat.le_trans g.s_ h1, Nat.le_trans g.w_ h2, Nat.le_trans g.dp h3⟩
theorem dbl_le (l : List Nat) : (dbl l).length ≤ 2 * l.length := dbl_len l
theorem sgn_len {i : Int} (h : i.natAbs < 10 ^ 40) : (sgn i).length ≤ 41 := by
  by_cases h0 : 0 ≤ i
  · obtain ⟨n, rfl⟩ := Int.eq_ofNat_of_zero_le h0
    rw [sgn_pos]
    have := numL_len (n := n) (k := 40) (by decide) h
    omega
  · obtain ⟨n, hn0, rfl⟩ : ∃ n : Nat, 0 < n ∧ i = -(n : Int) := ⟨i.natAbs, by omega, by omega⟩
    rw [sgn_neg hn0, List.length_cons]
    have := numL_len (n := n) (k := 40) (by decide) (by simpa using h)
    omega
theorem log_small {n : Nat} (h : n < 10 ^ 40) : n.log2 < 1920 := by
  by_cases h0 : n = 0
  · subst h0; decide
  · exact (Nat.log2_lt h0).mpr (Nat.lt_of_lt_of_le h (Nat.le_trans (show 10 ^ 40 ≤ 2 ^ 256 by decide) (Nat.pow_le_pow_right (by decide) (by decide))))
theorem nb_sgn (i : Int) : nb (sgn i) = 0 := by
  refine nb_zero fun c hc => ?_
  by_cases h0 : 0 ≤ i
  · obtain ⟨n, rfl⟩ := Int.eq_ofNat_of_zero_le h0
    rw [sgn_pos] at hc
    have := numL_digits n c hc
    omega
  · obtain ⟨n, hn0, rfl⟩ : ∃ n : Nat, 0 < n ∧ i = -(n : Int) := ⟨i.natAbs, by omega, by omega⟩
    rw [sgn_neg hn0] at hc
    rcases List.mem_cons.mp hc with e | h
    · omega
    · have := numL_digits n c h
      omega
theorem good_int {i : Int} (h : i.natAbs < 10 ^ 40) : Good 1 44 0 (.int i) :=
  ⟨by show nb (sgn i) ≤ _; rw [nb_sgn]; exact Nat.zero_le _, .int i h, .flat (log_small h) (fun _ e => by cases e), Nat.le_refl 1, Nat.le_trans (sgn_len h) (by decide), Nat.le_refl 0⟩
theorem good_str {z : Str} (h : ∀ c ∈ tl z, sgOk c) (hl : z.length ≤ 20) : Good 1 44 0 (.str z) := by
  refine ⟨?_, .str z h, .flat (Nat.le_trans hl (by decide)) (fun _ e => by cases e), Nat.le_refl 1, ?_, Nat.le_refl 0⟩
  · show nb (34 :: (dbl (tl z) ++ [34])) ≤ 20
    rw [nb_cons, nb_app, nb_dbl]
    have := nb_le (tl z)
    have := len_tl z
    have e : nb [34] = 0 := rfl
    rw [if_neg (by decide), e]
    omega
  show (34 :: (dbl (tl z) ++ [34])).length ≤ 44
  have := dbl_len (tl z)
  have := len_tl z
  rw [List.length_cons, List.length_append]
  show (dbl (tl z)).length + 1 + 1 ≤ 44
  omega
theorem good_non : Good 1 44 0 .none := ⟨by decide, .non, .flat True.intro (fun _ e => by cases e), Nat.le_refl 1, by decide, Nat.le_refl 0⟩
theorem good_bl (b : Bool) : Good 1 44 0 (.bool b) := ⟨by cases b <;> decide, .bl b, .flat True.intro (fun _ e => by cases e), Nat.le_refl 1, by cases b <;> decide, Nat.le_refl 0⟩
theorem szAll_bound {s : Nat} : ∀ ds : List PyData, (∀ d ∈ ds, sz d ≤ s) → szAll ds ≤ ds.length * (s + 1)
  | [], _ => Nat.zero_le _
  | d :: r, h => by
    have ih := szAll_bound r fun x hx => h x (List.mem_cons_of_mem _ hx)
    have := h d (List.mem_cons_self ..)
    show sz d + 1 + szAll r ≤ (r.length + 1) * (s + 1)
    rw [Nat.succ_mul]
    omega
theorem wrT_bound {w : Nat} : ∀ ds : List PyData, (∀ d ∈ ds, (wr d).length ≤ w) → (wrT ds).length ≤ 1 + ds.length * (w + 1)
  | [], _ => Nat.le_add_right 1 _
  | d :: r, h => by
    have ih := wrT_bound r fun x hx => h x (List.mem_cons_of_mem _ hx)
    have := h d (List.mem_cons_self ..)
    show (32 :: (wr d ++ wrT r)).length ≤ 1 + (r.length + 1) * (w + 1)
    rw [List.length_cons, List.length_append, Nat.succ_mul]
    omega
theorem wrF_bound {w : Nat} (ds : List PyData) (h : ∀ d ∈ ds, (wr d).length ≤ w) : (wrF ds).length ≤ 1 + ds.length * (w + 1) := by
  cases ds with
  | nil => exact Nat.le_add_right 1 _
  | cons d r =>
    have ih := wrT_bound r fun x hx => h x (List.mem_cons_of_mem _ hx)
    have := h d (List.mem_cons_self ..)
    show (wr d ++ wrT r).length ≤ 1 + (r.length + 1) * (w + 1)
    rw [List.length_append, Nat.succ_mul]
    omega
theorem depthAll_le {D : Nat} : ∀ ds : List PyData, (∀ d ∈ ds, d.depth ≤ D) → PyData.depthAll ds ≤ D
  | [], _ => Nat.zero_le _
  | d :: r, h => by
    have ih := depthAll_le r fun x hx => h x (List.mem_cons_of_mem _ hx)
    have := h d (List.mem_cons_self ..)
    show max d.depth (PyData.depthAll r) ≤ D
    omega
theorem nb_wrT {b : Nat} : ∀ ds : List PyData, (∀ d ∈ ds, nb (wr d) ≤ b) → nb (wrT ds) ≤ 1 + ds.length * b
  | [], _ => by show nb [41] ≤ 1 + 0 * b; rw [Nat.zero_mul]; decide
  | d :: r, h => by
    have ih := nb_wrT r fun x hx => h x (List.mem_cons_of_mem _ hx)
    have := h d (List.mem_cons_self ..)
    show nb (32 :: (wr d ++ wrT r)) ≤ 1 + (r.length + 1) * b
    rw [nb_cons, if_neg (by decide), nb_app, Nat.succ_mul]
    omega
theorem nb_wrF {b : Nat} (ds : List PyData) (h : ∀ d ∈ ds, nb (wr d) ≤ b) : nb (wrF ds) ≤ 1 + ds.length * b := by
  cases ds with
  | nil => show nb [41] ≤ 1 + 0 * b; rw [Nat.zero_mul]; decide
  | cons d r =>
    have ih := nb_wrT r fun x hx => h x (List.mem_cons_of_mem _ hx)
    have := h d (List.mem_cons_self ..)
    show nb (wr d ++ wrT r) ≤ 1 + (r.length + 1) * b
    rw [nb_app, Nat.succ_mul]
    omega
theorem good_tup {s w D n : Nat} {ds : List PyData} (h : ∀ d ∈ ds, Good s w D d) (hn : ds.length ≤ n) (h3 : ds.length ≤ 3) : Good (2 + n * (s + 1)) (2 + n * (w + 1)) (D + 1) (.tuple ds) := by
  refine ⟨?_, .tup fun d hd => (h d hd).ok, .tup fun d hd => (h d hd).sm, ?_, ?_, ?_⟩
  · have hb := nb_wrF ds fun d hd => (h d hd).b_
    show nb (40 :: wrF ds) ≤ 2 + 3 * bB D
    rw [nb_cons, if_pos (.inl rfl)]
    have := Nat.mul_le_mul_right (bB D) h3
    omega
  · have := szAll_bound ds fun d hd => (h d hd).s_
    show 2 + szAll ds ≤ _
    exact Nat.add_le_add_left (Nat.le_trans this (Nat.mul_le_mul_right _ hn)) 2
  · have := wrF_bound ds fun d hd => (h d hd).w_
    show (wrF ds).length + 1 ≤ _
    have := Nat.mul_le_mul_right (w + 1) hn
    omega
  · show PyData.depthAll ds + 1 ≤ D + 1
    have := depthAll_le ds fun d hd => (h d hd).dp
    omega
theorem but_keep {h : Addr} {H H' : Hp} {xs : List V} (b : But h H H') (hh : H h = some (.lst xs)) : KeepT H H' := fun c ys e => b.1 c _ (fun q => by rw [q, hh] at e; cases e) e
def spValue (D : Nat) : Sp := fun vs H Q _ => ∃ (h : Addr) (n : Nat), vs = [.ref h, .int (D : Int)] ∧ HandAt H h n ∧ n + pB D ≤ 900000 ∧ ∀ H' x d, But h H H' → HandAt H' h (n + pB D) → Vd H' x d → Good (sB D) (wB D) D d → Q x H'
def spV : Nat → Sp
  | 0 => fun _ _ _ _ => False
  | D + 1 => spValue D
theorem way_vals {x : V} (h : x ∈ ([.non, .bl true, .bl false] : List V)) (H : Hp) : ∃ d, Vd H x d ∧ Good 1 44 0 d := by
  rcases List.mem_cons.mp h with e | h
  · exact ⟨_, by rw [e]; exact .non, good_non⟩
  rcases List.mem_cons.mp h with e | h
  · exact ⟨_, by rw [e]; exact .bl true, good_bl true⟩
  rcases List.mem_cons.mp h with e | h
  · exact ⟨_, by rw [e]; exact .bl false, good_bl false⟩
  · cases h
theorem num_vals {x : V} {a b : Int} (h : x ∈ ([.int 0, .int a, .int b] : List V)) (ha : a.natAbs < 10 ^ 40) (hb : b.natAbs < 10 ^ 40) (H : Hp) : ∃ d, Vd H x d ∧ Good 1 44 0 d := by
  rcases List.mem_cons.mp h with e | h
  · exact ⟨_, by rw [e]; exact .int 0, good_int (by decide)⟩
  rcases List.mem_cons.mp h with e | h
  · exact ⟨_, by rw [e]; exact .int a, good_int ha⟩
  rcases List.mem_cons.mp h with e | h
  · exact ⟨_, by rw [e]; exact .int b, good_int hb⟩
  · cases h
section
variable {P : Program} {w : World} {K : PySem.W.Frag} {mg : Str → Option Value} {base : Heap}
theorem ok_valueS {f fP fL fT : Addr} {fd fdP fdL fdT : FuncData} (D : Nat) (F : FnP K "_law_any_value" sValue f fd) (gV : mg "_law_any_value" = some (.ref f)) (GV : FnOk P w K mg base CX0 (2 + D) f fd ["hand", "deep"] (spV D))
    (FP : FnP K "_law_pick" sPick fP fdP) (gP : mg "_law_pick" = some (.ref fP)) (GP : FnOk P w K mg base CX0 1 fP fdP ["hand", "many"] spPick)
    (FL : FnP K "_law_long_number" sLong fL fdL) (gL : mg "_law_long_number" = some (.ref fL)) (GL : FnOk P w K mg base CX0 2 fL fdL ["hand"] spLong)
    (FT : FnP K "_law_any_text" sAText fT fdT) (gT : mg "_law_any_text" = some (.ref fT)) (GT : FnOk P w K mg base CX0 2 fT fdT ["hand", "most"] spAText)
    (mi : mg "int" = none) (mt : mg "tuple" = none) (mr : mg "range" = none) : FnOk P w K mg base CX0 (2 + D + 1) f fd ["hand", "deep"] (spValue D) := by
  have bV : Binds K fd ["hand", "deep"] [] := F.bindsN fun _ _ _ _ _ _ us hl => match us, hl with | [_, _], _ => rfl
  have bP : Binds K fdP ["hand", "many"] [] := FP.bindsN fun _ _ _ _ _ _ us hl => match us, hl with | [_, _], _ => rfl
  have bL : Binds K fdL ["hand"] [] := FL.bindsN fun _ _ _ _ _ _ us hl => match us, hl with | [_], _ => rfl
  have bT : Binds K fdT ["hand", "most"] [] := FT.bindsN fun _ _ _ _ _ _ us hl => match us, hl with | [_, _], _ => rfl
  refine F.ok scValue (fun vs H Q E h => ?_) (fun cdv A outer s H vs Q E hr h => ?_)
  · obtain ⟨h, n, rfl, _⟩ := h
    rfl
  · obtain ⟨h, n, rfl, hA, hn, q⟩ := h
    have hs := szl
    have hr1 : Room 1 _ := hr.mono (show 1 ≤ 2 + D by omega)
    have hr2 : Room 2 _ := hr.mono (show 2 ≤ 2 + D by omega)
    have hp := pB_le D
    have hsB := sB_le D
    have hwB := wB_le D
    refine ⟨_, PSs.nox (pss_cons (ps_set (i := 2) scValue.nd rfl (.inl rfl) (pe_call GP hr1 (by rfl) gP FP.kp bP .nil pass0 (pa_cons (pv 0) (pa_cons (pe_ix ix_list (pe_lst (pa_cons (pe_int) (pa_cons (pe_int) pa_nil))) (pe_callTy call_int1 (by rfl) mi boot_int (pa_cons (pe_cmpR op_gt (pv 1) (pe_int) (nomark _)) pa_nil)) (fun _ _ => rfl)) pa_nil))))
      (pss_cons (ps_if (pt_cmpR op_lt (pv 2) (pe_int) (nomark _)) (pss_one (ps_ret (pe_ix ix_list (pe_lst (pa_cons (pe_non) (pa_cons (pe_bl) (pa_cons (pe_bl) pa_nil)))) (pv 2) (fun _ _ => rfl)))) pss_nil)
      (pss_cons (ps_if (pt_cmpR op_lt (pv 2) (pe_int) (nomark _)) (pss_one (ps_ret (pe_ix ix_list (pe_lst (pa_cons (pe_int) (pa_cons (pe_call GP hr1 (by rfl) gP FP.kp bP .nil pass0 (pa_cons (pv 0) (pa_cons (pe_int) pa_nil))) (pa_cons (pe_call GL hr2 (by rfl) gL FL.kp bL .nil pass0 (pa_cons (pv 0) pa_nil)) pa_nil)))) (pe_op op_sub (pv 2) (pe_int)) (fun _ _ => rfl)))) pss_nil)
      (pss_cons (ps_if (pt_cmpR op_lt (pv 2) (pe_int) (nomark _)) (pss_one (ps_ret (pe_call GT hr2 (by rfl) gT FT.kp bT .nil pass0 (pa_cons (pv 0) (pa_cons (pe_int) pa_nil))))) pss_nil)
      (pss_one (ps_ret (pe_callTy call_tuple_of (by rfl) mt PyProof.Rows.boot_tuple (pa_cons (pe_lc (own := [("k", 3)]) (g := gName 3) (tt := tYes) rfl scValue.nd (pi_range1 (by rfl) mr (pa_cons (pe_call GP hr1 (by rfl) gP FP.kp bP .nil pass0 (pa_cons (pv 0) (pa_cons (pe_int) pa_nil))) pa_nil)) (blkOk_by (own := [("k", 3)]) (N := ["hand", "deep", "way", "k"]) (sc := defScope sValue) (by decide +kernel)) (fun _ _ _ _ _ => pg_name (i := 3) scValue.nd rfl (Or.inl rfl)) (fun _ _ _ _ _ => pts_nil) (fun _ _ _ _ _ => pe_call GV hr (by rfl) gV F.kp bV .nil pass0 (pa_cons (pv 0) (pa_cons (pe_op op_sub (pv 1) (pe_int)) pa_nil)))) pa_nil)))))))), ?_⟩
    have fin : ∀ H' x d k, But h H H' → HandAt H' h k → k ≤ n + pB D → Vd H' x d → Good 1 44 0 d → Q x H' := fun H' x d k b A hk vd g => q H' x d b (A.mono hk) vd (g.mono hsB hwB (Nat.zero_le _))
    -- way
    refine ⟨_, rfl, by show 2 ≤ sizeLine; omega, fun p np => ⟨_, rfl, _, 0, rfl, rfl, .inr ⟨_, rfl, ?_⟩⟩⟩
    obtain ⟨m, em, m0, m1, md⟩ : ∃ m : Int, atI ([.int 8, .int 12] : List V) (if decide ((0 : Int) < (D : Int)) = true then 1 else 0) = some (.int m) ∧ 8 ≤ m ∧ m ≤ 12 ∧ (D = 0 → m = 8) := by
      by_cases h0 : (0 : Int) < (D : Int)
      · rw [decide_eq_true h0, if_pos rfl]
        exact ⟨12, atI_nat (j := 1) rfl, by omega, by omega, by omega⟩
      · rw [decide_eq_false h0, if_neg (by decide)]
        exact ⟨8, atI_nat (j := 0) rfl, by omega, by omega, by omega⟩
    have nph := ne_hand hA np
    refine ⟨p, _, _, .int m, rfl, rfl, SqL.of upd_same, em, h, m, n, rfl, hA.same (same_upd np), by omega, by omega, by omega, fun H1 w1 b1 A1 w10 w11 => ?_⟩
    have bb1 : But h H H1 := (Same.but (same_upd np)).trans b1
    refine ⟨_, rfl, w1, 3, rfl, rfl, _, rfl, ite2 (fun e => ?_) (fun e => ?_)⟩
    · have e1 : w1 < 3 := of_decide_eq_true e
      refine ⟨by show 3 ≤ sizeLine; omega, fun p2 np2 => ?_⟩
      obtain ⟨v, ev, vm⟩ := atI_in (xs := ([.non, .bl true, .bl false] : List V)) w10 (by show w1 < 3; exact e1)
      obtain ⟨d, vd, gd⟩ := way_vals vm (upd H1 p2 (.lst [.non, .bl true, .bl false]))
      exact ⟨_, rfl, p2, _, w1, v, rfl, rfl, SqL.of upd_same, ev, fin _ _ _ _ (bb1.trans (Same.but (same_upd np2))) (A1.same (same_upd np2)) (by omega) vd gd⟩
    have e1 : ¬ w1 < 3 := fun h => e (decide_eq_true h)
    refine ⟨_, rfl, w1, 6, rfl, rfl, _, rfl, ite2 (fun e => ?_) (fun e => ?_)⟩
    · have e2 : w1 < 6 := of_decide_eq_true e
      refine ⟨_, rfl, h, 12, _, rfl, A1, by omega, by omega, by omega, fun H2 d2 b2 A2 d20 d21 => ?_⟩
      refine ⟨_, rfl, h, _, rfl, A2, by omega, fun H3 i3 b3 A3 hi3 => ⟨by show 3 ≤ sizeLine; omega, fun p3 np3 => ?_⟩⟩
      have hw : 0 ≤ w1 - 3 := by omega
      obtain ⟨v, ev, vm⟩ := atI_in (xs := ([.int 0, .int d2, .int i3] : List V)) hw (by show w1 - 3 < 3; omega)
      obtain ⟨d, vd, gd⟩ := num_vals vm (by omega) hi3 (upd H3 p3 (.lst [.int 0, .int d2, .int i3]))
      exact ⟨_, rfl, w1, 3, rfl, rfl, p3, _, w1 - 3, v, rfl, rfl, SqL.of upd_same, ev, fin _ _ _ _ (((bb1.trans b2).trans b3).trans (Same.but (same_upd np3))) (A3.same (same_upd np3)) (by omega) vd gd⟩
    have e2 : ¬ w1 < 6 := fun h => e (decide_eq_true h)
    refine ⟨_, rfl, w1, 8, rfl, rfl, _, rfl, ite2 (fun e => ?_) (fun e => ?_)⟩
    · refine ⟨_, rfl, h, 20, _, rfl, A1, by omega, by omega, by omega, fun H2 z b2 A2 hz hzs => ?_⟩
      exact fin _ _ _ _ (bb1.trans b2) A2 (by omega) (.str z) (good_str hzs hz)
    have e3 : ¬ w1 < 8 := fun h => e (decide_eq_true h)
    cases D with
    | zero =>
      have := md rfl
      omega
    | succ D =>
      have hpB : pB (D + 1) = 54 + 4 * pB D := rfl
      have hpD := pB_le D
      refine ⟨_, rfl, h, 4, _, rfl, A1, by omega, by omega, by omega, fun H2 d2 b2 A2 d20 d21 => ⟨d2, rfl, by omega, by omega, fun L nL => ?_⟩⟩
      have nLh := ne_hand A2 nL
      refine lc_range (lo := 0) (n := d2.toNat) (fun i H' => ∃ xs ds, H' L = some (.lst xs) ∧ VdAll H' xs ds ∧ (∀ d ∈ ds, Good (sB D) (wB D) D d) ∧ ds.length = i ∧ But h H H' ∧ HandAt H' h (n + 2 + i * pB D) ∧ But h H2 H') ⟨[], [], upd_same, .nil, (fun _ h => by cases h), rfl, (bb1.trans b2).trans (Same.but (same_upd nL)), ?_, Same.but (same_upd nL)⟩ ?_ ?_
      · rw [Nat.zero_mul]
        exact A2.same (same_upd nL)
      · rintro i H3 hi ⟨xs, ds, hL3, hx3, hg3, hl3, b3, A3, b5⟩
        have hi4 : i ≤ 3 := by omega
        have him : i * pB D ≤ 3 * pB D := Nat.mul_le_mul_right _ hi4
        obtain ⟨hxs, hhx⟩ := A3.is
        refine ⟨rfl, _, rfl, _, rfl, ((D + 1 : Nat) : Int), 1, rfl, rfl, h, n + 2 + i * pB D, ?_, A3, by omega, fun H4 x d b4 A4 vd gd => ?_⟩
        · show [V.ref h, V.int (((D + 1 : Nat) : Int) - 1)] = [V.ref h, V.int (D : Int)]
          rw [show (((D + 1 : Nat) : Int) - 1) = (D : Int) by omega]
        have hL4 := but_at b4 hL3 nLh
        have k4 : KeepT H3 H4 := but_keep b4 hhx
        have k5 : KeepT H4 (upd H4 L (.lst (xs ++ [x]))) := keep_lst hL4
        refine ⟨xs, hL4, by rw [hx3.len, hl3]; omega, xs ++ [x], ds ++ [d], upd_same, (VdAll.snoc vd (hx3.keep k4)).keep k5, ?_, by rw [List.length_append, hl3]; rfl, ?_, ?_, (b5.trans b4).put nLh nL⟩
        · intro u hu
          rcases List.mem_append.mp hu with q | q
          · exact hg3 u q
          · rw [List.mem_singleton.mp q]; exact gd
        · exact (b3.trans b4).put nLh (((bb1.trans b2)).free nLh nL)
        · have e5 : n + 2 + (i + 1) * pB D = n + 2 + i * pB D + pB D := by rw [Nat.succ_mul]; omega
          rw [e5]
          exact A4.put (b5.trans b4) A2 nL nLh
      · rintro H3 ⟨xs, ds, hL3, hx3, hg3, hl3, b3, A3, b5⟩
        refine ⟨L, xs, rfl, .inl ⟨SqL.of hL3, fun p3 np3 => ?_⟩⟩
        have s3 := same_upd (o := HO.tup xs) np3
        have hl4 : ds.length ≤ 3 := by omega
        have hm3 : d2.toNat * pB D ≤ 3 * pB D := Nat.mul_le_mul_right _ (by omega)
        refine q _ _ (.tuple ds) (b3.trans (Same.but s3)) ((A3.same s3).mono (by omega)) (.tup upd_same (hx3.keep (Same.keepT s3))) ((good_tup hg3 hl4 hl4).mono (Nat.le_refl _) ?_ (Nat.le_refl _))
        show 2 + 3 * (wB D + 1) ≤ 44 + 3 * (wB D + 1)
        omega
end
end Vl

set_option maxHeartbeats 4000000
namespace Vl
open PySem PySem.Spec PyProof.Rows L2 TL CwR PySem.StrLaws
abbrev sWriting : Stmt := top 23
theorem scWr : FnScope ["value", "part"] ["value"] (defScope sWriting) := ⟨rfl, rfl, rfl, by decide +kernel, rfl, by decide +kernel, by decide +kernel⟩
theorem joinL_wrT : ∀ (d : PyData) (ds : List PyData), joinL [32] ((d :: ds).map wr) ++ [41] = wr d ++ wrT ds
  | d, [] => by
    show wr d ++ [41] = wr d ++ [41]
    rfl
  | d, e :: r => by
    show (wr d ++ ([32] ++ joinL [32] ((e :: r).map wr))) ++ [41] = wr d ++ (32 :: (wr e ++ wrT r))
    rw [← joinL_wrT e r]
    simp
theorem joinL_wrF (ds : List PyData) : joinL [32] (ds.map wr) ++ [41] = wrF ds := by
  cases ds with
  | nil => rfl
  | cons d r => exact joinL_wrT d r
theorem wr_len_all : ∀ ds : List PyData, ((ds.map wr).map List.length).sum + ds.length ≤ (wrT ds).length
  | [] => Nat.zero_le _
  | d :: r => by
    have ih := wr_len_all r
    show (wr d).length + ((r.map wr).map List.length).sum + (r.length + 1) ≤ (32 :: (wr d ++ wrT r)).length
    rw [List.length_cons, List.length_append]
    omega
theorem wrT_wrF (ds : List PyData) : (wrT ds).length ≤ (wrF ds).length + 1 := by
  cases ds with
  | nil => show 1 ≤ 1 + 1; omega
  | cons d r =>
    show (32 :: (wr d ++ wrT r)).length ≤ (wr d ++ wrT r).length + 1
    rw [List.length_cons]
    exact Nat.le_refl _
theorem depth_mem : ∀ (ds : List PyData) {d : PyData}, d ∈ ds → d.depth ≤ PyData.depthAll ds
  | e :: r, d, h => by
    show d.depth ≤ max e.depth (PyData.depthAll r)
    rcases List.mem_cons.mp h with q | q
    · rw [q]; omega
    · have := depth_mem r q
      omega
theorem wr_mem_T : ∀ (ds : List PyData) {d : PyData}, d ∈ ds → (wr d).length ≤ (wrT ds).length
  | e :: r, d, h => by
    show (wr d).length ≤ (32 :: (wr e ++ wrT r)).length
    rw [List.length_cons, List.length_append]
    rcases List.mem_cons.mp h with q | q
    · rw [q]; omega
    · have := wr_mem_T r q
      omega
def spWr (D : Nat) : Sp := fun vs H Q _ => ∃ (x : V) (d : PyData), vs = [x] ∧ Vd H x d ∧ SmA d ∧ (wr d).length ≤ 4000000 ∧ d.depth ≤ D ∧ ∀ H' r, Same H H' → tl r = wr d → Q (.str r) H'
def spW : Nat → Sp
  | 0 => fun _ _ _ _ => False
  | D + 1 => spWr D
theorem fn_none {P : Program} {w : World} {K : PySem.W.Frag} {mg : Str → Option Value} {base : Heap} {k : Nat} {f : Addr} {fd : FuncData} {ps : List Str} : FnOk P w K mg base CX0 k f fd ps (fun _ _ _ _ => False) :=
  ⟨fun _ _ _ _ h => h.elim, fun _ _ _ _ _ _ _ _ _ _ _ _ _ h => h.elim⟩
section
variable {P : Program} {w : World} {K : PySem.W.Frag} {mg : Str → Option Value} {base : Heap}
theorem ok_value {f fP fL fT : Addr} {fd fdP fdL fdT : FuncData} (F : FnP K "_law_any_value" sValue f fd) (gV : mg "_law_any_value" = some (.ref f))
    (FP : FnP K "_law_pick" sPick fP fdP) (gP : mg "_law_pick" = some (.ref fP)) (GP : FnOk P w K mg base CX0 1 fP fdP ["hand", "many"] spPick)
    (FL : FnP K "_law_long_number" sLong fL fdL) (gL : mg "_law_long_number" = some (.ref fL)) (GL : FnOk P w K mg base CX0 2 fL fdL ["hand"] spLong)
    (FT : FnP K "_law_any_text" sAText fT fdT) (gT : mg "_law_any_text" = some (.ref fT)) (GT : FnOk P w K mg base CX0 2 fT fdT ["hand", "most"] spAText)
    (mi : mg "int" = none) (mt : mg "tuple" = none) (mr : mg "range" = none) : ∀ D, FnOk P w K mg base CX0 (2 + D) f fd ["hand", "deep"] (spV D)
  | 0 => fn_none
  | D + 1 => ok_valueS D F gV (ok_value F gV FP gP GP FL gL GL FT gT GT mi mt mr D) FP gP GP FL gL GL FT gT GT mi mt mr
theorem ok_writingS {f : Addr} {fd : FuncData} (D k : Nat) (F : FnP K "_law_writing" sWriting f fd) (gW : mg "_law_writing" = some (.ref f)) (GW : FnOk P w K mg base CX0 k f fd ["value"] (spW D))
    (mi : mg "isinstance" = none) (mb : mg "bool" = none) (mn : mg "int" = none) (ms : mg "str" = none) : FnOk P w K mg base CX0 (k + 1) f fd ["value"] (spWr D) := by
  have bW : Binds K fd ["value"] [] := F.bindsN fun _ _ _ _ _ _ us hl => match us, hl with | [_], _ => rfl
  refine F.ok scWr (fun vs H Q E h => ?_) (fun cdv A outer s H vs Q E hr h => ?_)
  · obtain ⟨x, d, rfl, _⟩ := h
    rfl
  · obtain ⟨x, d, rfl, hv, hs, hw, hD, q⟩ := h
    have hz := szl
    refine ⟨_, PSs.nox (pss_cons (ps_if (pt_cmpR op_isN (pv 0) pe_non (nomark _)) (pss_one (ps_ret pe_str)) pss_nil)
      (pss_cons (ps_if (pt_val (pe_callB call_isi (by rfl) mi (by decide +kernel) (pa_cons (pv 0) (pa_cons (pe_bltn (v := .ty "bool") (by rfl) mb boot_bool rfl) pa_nil)))) (pss_one (ps_ret (pe_ix ix_list (pe_lst (pa_cons (pe_str) (pa_cons (pe_str) pa_nil))) (pe_callTy call_int1 (by rfl) mn boot_int (pa_cons (pv 0) pa_nil)) (fun _ _ => rfl)))) pss_nil)
      (pss_cons (ps_if (pt_val (pe_callB call_isi (by rfl) mi (by decide +kernel) (pa_cons (pv 0) (pa_cons (pe_bltn (v := .ty "int") (by rfl) mn boot_int rfl) pa_nil)))) (pss_one (ps_ret (pe_callTy call_str_int (by rfl) ms boot_str (pa_cons (pv 0) pa_nil)))) pss_nil)
      (pss_cons (ps_if (pt_val (pe_callB call_isi (by rfl) mi (by decide +kernel) (pa_cons (pv 0) (pa_cons (pe_bltn (v := .ty "str") (by rfl) ms boot_str rfl) pa_nil)))) (pss_one (ps_ret (pe_op op_add_str (pe_op op_add_str (pe_str) (pe_join pe_str (pe_split (pv 0) pe_str))) (pe_str)))) pss_nil)
      (pss_one (ps_ret (pe_op op_add_str (pe_op op_add_str (pe_str) (pe_join pe_str (pe_lc (own := [("part", 1)]) (g := gName 1) (tt := tYes) rfl scWr.nd (pi_tup (pv 0)) (blkOk_by (own := [("part", 1)]) (N := ["value", "part"]) (sc := defScope sWriting) (by decide +kernel)) (fun _ _ _ _ _ => pg_name (i := 1) scWr.nd rfl (Or.inl rfl)) (fun _ _ _ _ _ => pts_nil) (fun _ _ _ _ _ => pe_call GW hr (by rfl) gW F.kp bW .nil pass0 (pa_cons (pv 1) pa_nil))))) (pe_str)))))))), ?_⟩
    have l1 : (Str.ofString "\"").length = 1 := by decide +kernel
    have l2 : (Str.ofString "\"\"").length = 2 := by decide +kernel
    have t1 : tl (Str.ofString "\"") = [34] := by decide +kernel
    have t2 : tl (Str.ofString "\"\"") = [34, 34] := by decide +kernel
    have sr : Same H H := fun _ _ e => e
    cases hv with
    | non => exact ⟨_, rfl, rfl, _, rfl, iteT (q _ _ sr (by decide +kernel))⟩
    | bl b =>
      refine ⟨_, rfl, rfl, _, rfl, iteF ?_⟩
      refine ⟨_, rfl, .bl b, .ty "bool", .type "bool", .type "bool", true, rfl, .ty _, .base (.bl b), kit_ty (by decide +kernel), _, rfl, iteT ?_⟩
      refine ⟨by show 2 ≤ sizeLine; omega, fun p np => ⟨_, rfl, .inr ⟨b, rfl, ?_⟩⟩⟩
      cases b with
      | true => exact ⟨p, _, 1, _, rfl, rfl, SqL.of upd_same, rfl, q _ _ (same_upd np) (by decide +kernel)⟩
      | false => exact ⟨p, _, 0, _, rfl, rfl, SqL.of upd_same, rfl, q _ _ (same_upd np) (by decide +kernel)⟩
    | int i =>
      refine ⟨_, rfl, rfl, _, rfl, iteF ?_⟩
      refine ⟨_, rfl, .int i, .ty "bool", .type "int", .type "bool", false, rfl, .ty _, .base (.int i), kit_ty (by decide +kernel), _, rfl, iteF ?_⟩
      refine ⟨_, rfl, .int i, .ty "int", .type "int", .type "int", true, rfl, .ty _, .base (.int i), kit_ty (by decide +kernel), _, rfl, iteT ?_⟩
      exact ⟨_, rfl, i, rfl, hs.sm (fun _ e => by cases e), q _ _ sr rfl⟩
    | str z =>
      refine ⟨_, rfl, rfl, _, rfl, iteF ?_⟩
      refine ⟨_, rfl, .str z, .ty "bool", .type "str", .type "bool", false, rfl, .ty _, .base (.str z), kit_ty (by decide +kernel), _, rfl, iteF ?_⟩
      refine ⟨_, rfl, .str z, .ty "int", .type "str", .type "int", false, rfl, .ty _, .base (.str z), kit_ty (by decide +kernel), _, rfl, iteF ?_⟩
      refine ⟨_, rfl, .str z, .ty "str", .type "str", .type "str", true, rfl, .ty _, .base (.str z), kit_ty (by decide +kernel), _, rfl, iteT ?_⟩
      have hs' : z.length ≤ 1000000 := hs.sm (fun _ e => by cases e)
      have rl : tl (Txt.replace z (Str.ofString "\"") (Str.ofString "\"\"")) = dbl (tl z) := by
        have e := replace_list (x := z) (y := Str.ofString "\"") (z := Str.ofString "\"\"") (by rw [l1]; exact Nat.le_refl 1)
        have e2 : tl (Txt.replace z (Str.ofString "\"") (Str.ofString "\"\"")) = replL (tl (Str.ofString "\"")) (tl (Str.ofString "\"\"")) (tl z) := e
        rw [e2, t1, t2, dbl_repl]
      have e34 : Str.ofString "\"" = ⟨#[34]⟩ := by decide +kernel
      have jl : tl (Txt.join (Str.ofString "\"\"") (Txt.split z (Str.ofString "\""))) = dbl (tl z) := by
        rw [join_eq, ← rl, e34, replace_one]
      have jn : (Txt.join (Str.ofString "\"\"") (Txt.split z (Str.ofString "\""))).length ≤ 2000000 := by
        rw [len_tl, jl]
        have := dbl_len (tl z)
        have := len_tl z
        omega
      have sw := split_weight z (Str.ofString "\"") (by rw [l1]; exact Nat.le_refl 1)
      refine ⟨⟨_, rfl⟩, _, rfl, ⟨_, rfl⟩, z, _, rfl, rfl, ?_, by omega, fun p np => ⟨_, p, _, rfl, rfl, .inl (SqL.of upd_same), ?_, ?_⟩⟩
      · rw [l1]; rfl
      · rw [l2]
        omega
      refine ⟨_, _, rfl, rfl, ?_, _, _, rfl, rfl, ?_, q _ _ (same_upd np) ?_⟩
      · rw [l1]; omega
      · rw [app_len, l1]; omega
      · rw [tl_append, tl_append, t1, jl]
        show [34] ++ dbl (tl z) ++ [34] = 34 :: (dbl (tl z) ++ [34])
        simp
    | tup ha hys =>
      rename_i a ys ds
      refine ⟨_, rfl, rfl, _, rfl, iteF ?_⟩
      refine ⟨_, rfl, .ref a, .ty "bool", .type "tuple", .type "bool", false, rfl, .ty _, .base (.tup ha), kit_ty (by decide +kernel), _, rfl, iteF ?_⟩
      refine ⟨_, rfl, .ref a, .ty "int", .type "tuple", .type "int", false, rfl, .ty _, .base (.tup ha), kit_ty (by decide +kernel), _, rfl, iteF ?_⟩
      refine ⟨_, rfl, .ref a, .ty "str", .type "tuple", .type "str", false, rfl, .ty _, .base (.tup ha), kit_ty (by decide +kernel), _, rfl, iteF ?_⟩
      have hyl := hys.len
      have hwF : (wrF ds).length + 1 ≤ 4000000 := hw
      have hla := wr_len_all ds
      have hTF := wrT_wrF ds
      refine ⟨⟨_, rfl⟩, _, rfl, a, rfl, ⟨_, SqT.of ha⟩, fun L nL => ?_⟩
      refine lc_tup (xs := ys) (fun i H' => ∃ zs : List Str, H' L = some (.lst (zs.map V.str)) ∧ zs.map tl = (ds.take i).map wr ∧ Same H H') ⟨[], upd_same, rfl, same_upd nL⟩ (fun i H' hi h => ?_) ?_ ?_
      · obtain ⟨zs, _, _, sm⟩ := h
        exact SqT.of (sm _ _ ha)
      · rintro i x H' hx ⟨zs, hL, hzs, sm⟩
        obtain ⟨d5, hd5, vd5⟩ := hys.get _ hx
        have hmem := List.mem_of_getElem? hd5
        have hid : i < ds.length := (List.getElem?_eq_some_iff.mp hd5).1
        have hzl : zs.length = i := by
          have := congrArg List.length hzs
          simp at this
          omega
        cases D with
        | zero =>
          have : PyData.depthAll ds + 1 ≤ 0 := hD
          omega
        | succ D =>
          have hdp : PyData.depthAll ds + 1 ≤ D + 1 := hD
          have hdm := depth_mem ds hmem
          have hwm := wr_mem_T ds hmem
          refine ⟨rfl, _, rfl, x, d5, rfl, vd5.keep (Same.keepT sm), hs.get d5 hmem, by omega, by omega, fun H2 r s2 hr => ?_⟩
          refine ⟨_, s2 _ _ hL, by rw [List.length_map]; omega, zs ++ [r], ?_, ?_, ?_⟩
          · rw [upd_same, List.map_append]; rfl
          · rw [List.map_append, hzs, List.take_add_one, List.map_append, hd5]
            show _ ++ [tl r] = _ ++ [wr d5]
            rw [hr]
          · exact same_put (sm.trans s2) nL
      · rintro H' ⟨zs, hL, hzs, sm⟩
        rw [hyl, List.take_length] at hzs
        have hzl : zs.length = ds.length := by
          have := congrArg List.length hzs
          simpa using this
        have t32 : tl (Str.ofString " ") = [32] := by decide +kernel
        have l32 : (Str.ofString " ").length = 1 := by decide +kernel
        have t40 : tl (Str.ofString "(") = [40] := by decide +kernel
        have l40 : (Str.ofString "(").length = 1 := by decide +kernel
        have t41 : tl (Str.ofString ")") = [41] := by decide +kernel
        have l41 : (Str.ofString ")").length = 1 := by decide +kernel
        have hsum : (zs.map Str.length).sum = ((ds.map wr).map List.length).sum := by
          rw [← hzs, List.map_map]
          exact congrArg List.sum (List.map_congr_left fun p _ => len_tl p)
        have jt : tl (Txt.join (Str.ofString " ") zs) ++ [41] = wrF ds := by
          rw [join_eq, tl_join, t32, hzs]
          exact joinL_wrF ds
        have jn : (Txt.join (Str.ofString " ") zs).length + 1 = (wrF ds).length := by
          rw [len_tl, ← jt, List.length_append]
          rfl
        refine ⟨Str.ofString " ", L, zs, rfl, rfl, .inl (SqL.of hL), ?_, ?_⟩
        · rw [l32, hsum]
          omega
        refine ⟨_, _, rfl, rfl, ?_, _, _, rfl, rfl, ?_, q _ _ sm ?_⟩
        · rw [l40]; omega
        · rw [app_len, l40, l41]; omega
        · rw [tl_append, tl_append, t40, t41, List.append_assoc, jt]
          rfl
theorem ok_writing {f : Addr} {fd : FuncData} (F : FnP K "_law_writing" sWriting f fd) (gW : mg "_law_writing" = some (.ref f))
    (mi : mg "isinstance" = none) (mb : mg "bool" = none) (mn : mg "int" = none) (ms : mg "str" = none) : ∀ D, FnOk P w K mg base CX0 D f fd ["value"] (spW D)
  | 0 => fn_none
  | D + 1 => ok_writingS D D F gW (ok_writing F gW mi mb mn ms D) mi mb mn ms
end
end Vl

set_option autoImplicit false
set_option maxHeartbeats 2000000
namespace Vl
open PySem PySem.Spec PyProof.Rows L2 TL CwR PySem.StrLaws
/-! ### what is read is the writing -/
theorem txt_back : ∀ (r v : List Nat) (n : Nat), txtM r = .ok v n → r.take n = dbl v ++ [34] ∧ (∀ c ∈ v, 32 ≤ c ∧ c ≤ 126 ∧ c ≠ 37) ∧ n ≤ r.length
  | [], v, n, h => by cases h
  | [c], v, n, h => by
    by_cases e : c = 34
    · have h2 : TR.ok [] 1 = TR.ok v n := (if_pos e).symm.trans h
      cases h2
      rw [e]
      exact ⟨rfl, by simp, by simp⟩
    · have h2 := (if_neg e).symm.trans h
      by_cases p : plain c
      · have h3 := (if_pos p).symm.trans h2
        cases h3
      · have h3 := (if_neg p).symm.trans h2
        cases h3
  | c :: e :: r, v, n, h => by
    by_cases e1 : c = 34
    · have h2 := (if_pos e1).symm.trans h
      by_cases e2 : e = 34
      · have h3 := (if_pos e2).symm.trans h2
        cases q : txtM r with
        | err m =>
          rw [q] at h3
          cases h3
        | ok v' n' =>
          rw [q] at h3
          cases h3
          obtain ⟨a, b, d⟩ := txt_back r v' n' q
          rw [e1, e2]
          refine ⟨?_, ?_, ?_⟩
          · show 34 :: 34 :: r.take n' = dbl (34 :: v') ++ [34]
            rw [a]
            have : dbl (34 :: v') = 34 :: 34 :: dbl v' := if_pos rfl
            rw [this]
            rfl
          · intro x hx
            rcases List.mem_cons.mp hx with z | z
            · rw [z]; decide
            · exact b x z
          · simp
            omega
      · have h3 := (if_neg e2).symm.trans h2
        cases h3
        rw [e1]
        exact ⟨rfl, by simp, by simp⟩
    · have h2 := (if_neg e1).symm.trans h
      by_cases p : plain c
      · have h3 := (if_pos p).symm.trans h2
        cases q : txtM (e :: r) with
        | err m =>
          rw [q] at h3
          cases h3
        | ok v' n' =>
          rw [q] at h3
          cases h3
          obtain ⟨a, b, d⟩ := txt_back (e :: r) v' n' q
          refine ⟨?_, ?_, ?_⟩
          · show c :: (e :: r).take n' = dbl (c :: v') ++ [34]
            rw [a]
            have : dbl (c :: v') = c :: dbl v' := if_neg e1
            rw [this]
            rfl
          · intro x hx
            rcases List.mem_cons.mp hx with z | z
            · rw [z]; exact ⟨p.1, p.2.1, p.2.2.2⟩
            · exact b x z
          · simp at d ⊢
            omega
      · have h3 := (if_neg p).symm.trans h2
        cases h3
theorem cnt_take : ∀ (m : Nat) (l : List Nat), (∀ c ∈ l.take (cnt m l), 48 ≤ c ∧ c ≤ 57) ∧ cnt m l ≤ m ∧ cnt m l ≤ l.length
  | 0, l => ⟨by intro c hc; have : cnt 0 l = 0 := rfl; rw [this] at hc; simp at hc, Nat.le_refl 0, Nat.zero_le _⟩
  | m + 1, [] => ⟨(fun c hc => by simp at hc), Nat.zero_le _, Nat.zero_le _⟩
  | m + 1, c :: r => by
    obtain ⟨a, b, d⟩ := cnt_take m r
    by_cases h : 48 ≤ c ∧ c ≤ 57
    · have e : cnt (m + 1) (c :: r) = 1 + cnt m r := if_pos h
      rw [e, Nat.add_comm 1]
      refine ⟨fun x hx => ?_, by omega, by rw [List.length_cons]; omega⟩
      rcases List.mem_cons.mp (show x ∈ c :: r.take (cnt m r) from hx) with z | z
      · rw [z]; exact h
      · exact a x z
    · have e : cnt (m + 1) (c :: r) = 0 := if_neg h
      rw [e]
      exact ⟨(fun x hx => by simp at hx), Nat.zero_le _, Nat.zero_le _⟩
theorem numL_more : ∀ (ds : List Nat) (k j : Nat), (∀ c ∈ ds, 48 ≤ c ∧ c ≤ 57) → 0 < k → k < 10 ^ j → ∃ k', 0 < k' ∧ k' < 10 ^ (j + ds.length) ∧ numL k' = numL k ++ ds
  | [], k, j, _, h0, hk => ⟨k, h0, hk, by simp⟩
  | c :: r, k, j, hd, h0, hk => by
    have hc := hd c (List.mem_cons_self ..)
    have e : numL (10 * k + (c - 48)) = numL k ++ [c] := by
      rw [numL_step (by omega), show (10 * k + (c - 48)) / 10 = k by omega, show 48 + (10 * k + (c - 48)) % 10 = c by omega]
    obtain ⟨k', a, b, d⟩ := numL_more r (10 * k + (c - 48)) (j + 1) (fun x hx => hd x (List.mem_cons_of_mem _ hx)) (by omega) (by rw [Nat.pow_succ]; omega)
    refine ⟨k', a, ?_, ?_⟩
    · rw [List.length_cons, show j + (r.length + 1) = j + 1 + r.length by omega]
      exact b
    · rw [d, e, List.append_assoc]
      rfl
theorem figs_back {l : List Nat} (h : 0 < figs l) : ∃ k, 0 < k ∧ k < 10 ^ 40 ∧ numL k = l.take (figs l) ∧ figs l ≤ 40 ∧ figs l ≤ l.length ∧ (∃ c r, l = c :: r ∧ 49 ≤ c ∧ c ≤ 57) := by
  cases l with
  | nil => cases h
  | cons c r =>
    by_cases hc : 49 ≤ c ∧ c ≤ 57
    · have e : figs (c :: r) = 1 + cnt 39 r := if_pos hc
      obtain ⟨a, b, d⟩ := cnt_take 39 r
      obtain ⟨k', h1, h2, h3⟩ := numL_more (r.take (cnt 39 r)) (c - 48) 1 a (by omega) (by omega)
      refine ⟨k', h1, ?_, ?_, by omega, by rw [List.length_cons]; omega, c, r, rfl, hc⟩
      · have hl : (r.take (cnt 39 r)).length ≤ 39 := by rw [List.length_take]; omega
        exact Nat.lt_of_lt_of_le h2 (Nat.pow_le_pow_right (by decide) (by omega))
      · rw [h3, numL_lt (show c - 48 < 10 by omega), e, Nat.add_comm 1]
        show [48 + (c - 48)] ++ _ = c :: r.take (cnt 39 r)
        rw [show 48 + (c - 48) = c by omega]
        rfl
    · have e : figs (c :: r) = 0 := if_neg hc
      omega
theorem str_ext {x y : Str} (h : tl x = tl y) : x = y := by
  cases x
  cases y
  congr
  exact Array.toList_inj.mp h
theorem int_of_numL {k : Nat} (hk : k < 10 ^ 40) : intText? ⟨(numL k).toArray⟩ = some (k : Int) := by
  have hl := numL_len (n := k) (k := 40) (by decide) hk
  have e : (⟨(numL k).toArray⟩ : Str) = num (k : Int) := by
    have z := tl_num k
    apply str_ext
    rw [z]
  rw [e]
  exact int_num (by omega)
theorem flat_back {l : List Nat} {v : PyData} {n : Nat} (h : Flat l v n) : wr v = l.take n ∧ Ok v ∧ n ≤ l.length := by
  cases h with
  | txt h =>
    rename_i r u m
    obtain ⟨a, b, d⟩ := txt_back _ _ _ h
    refine ⟨?_, .str _ b, by rw [List.length_cons]; omega⟩
    show 34 :: (dbl u ++ [34]) = 34 :: r.take m
    rw [a]
  | num h1 h2 h3 h4 h5 =>
    rename_i i
    cases l with
    | nil =>
      have : numLen [] = 0 := rfl
      omega
    | cons c r =>
      by_cases a : c = 48
      · have e : numLen (c :: r) = 1 := if_pos a
        have en : n = 1 := by omega
        subst en
        have e0 : numL 0 = [48] := numL_lt (by decide)
        have hv := int_of_numL (k := 0) (by decide)
        rw [e0] at hv
        have et : (c :: r).take 1 = [48] := by rw [a]; rfl
        rw [et] at h5
        rw [hv] at h5
        cases h5
        rw [et]
        refine ⟨?_, .int _ (by decide), by simp⟩
        show sgn ((0 : Nat) : Int) = [48]
        rw [sgn_pos, e0]
      · by_cases b : c = 45
        · by_cases f : figs r = 0
          · have e : numLen (c :: r) = 0 := by
              show (if c = 48 then 1 else if c = 45 then (if figs r = 0 then 0 else 1 + figs r) else figs (c :: r)) = 0
              rw [if_neg a, if_pos b, if_pos f]
            omega
          · have e : numLen (c :: r) = 1 + figs r := by
              show (if c = 48 then 1 else if c = 45 then (if figs r = 0 then 0 else 1 + figs r) else figs (c :: r)) = _
              rw [if_neg a, if_pos b, if_neg f]
            obtain ⟨k, k1, k2, k3, k4, k5, _⟩ := figs_back (l := r) (by omega)
            have en : n = figs r + 1 := by omega
            subst en
            have et : (c :: r).take (figs r + 1) = 45 :: numL k := by
              rw [b]
              show 45 :: r.take (figs r) = _
              rw [k3]
            have hl := numL_len (n := k) (k := 40) (by decide) k2
            have q := intText_neg (x := ⟨(45 :: numL k).toArray⟩) (cs := numL k) rfl (numL_digits k) (numL_ne k) (by show (45 :: numL k).toArray.size ≤ 4300; simp; omega)
            rw [et, q, show NumText.digitsVal (numL k) = k from numL_val k] at h5
            cases h5
            rw [et]
            refine ⟨sgn_neg k1, .int _ (by simpa using k2), by rw [List.length_cons]; omega⟩
        · have e : numLen (c :: r) = figs (c :: r) := by
            show (if c = 48 then 1 else if c = 45 then (if figs r = 0 then 0 else 1 + figs r) else figs (c :: r)) = _
            rw [if_neg a, if_neg b]
          obtain ⟨k, k1, k2, k3, k4, k5, _⟩ := figs_back (l := c :: r) (by omega)
          have en : n = figs (c :: r) := by omega
          rw [en] at h5 ⊢
          rw [← k3, int_of_numL k2] at h5
          cases h5
          rw [← k3]
          exact ⟨sgn_pos k, .int _ (by simpa using k2), k5⟩
  | minus => exact ⟨rfl, .non, by simp⟩
  | plus => exact ⟨rfl, .bl true, by simp⟩
  | bang => exact ⟨rfl, .bl false, by simp⟩
/-- values, a blank behind each -/
def bl : List PyData → List Nat
  | [] => []
  | d :: r => wr d ++ 32 :: bl r
def jn (ds : List PyData) : List Nat := joinL [32] (ds.map wr)
/-- what stands ahead of the next value -/
def gS : List (List PyData) → List Nat
  | [] => []
  | [_] => []
  | top :: nx :: st => gS (nx :: st) ++ 40 :: bl top
/-- what stands ahead of the sign behind a value -/
def cS : List (List PyData) → List Nat
  | [] => []
  | [b] => jn b
  | top :: nx :: st => gS (nx :: st) ++ 40 :: jn top
def Bot : List (List PyData) → Prop
  | [] => False
  | [b] => b = []
  | _ :: nx :: st => Bot (nx :: st)
def BotC : List (List PyData) → Prop
  | [] => False
  | [b] => ∃ x, b = [x]
  | _ :: nx :: st => Bot (nx :: st)
theorem jn_snoc : ∀ (ds : List PyData) (d : PyData), jn (ds ++ [d]) = bl ds ++ wr d
  | [], d => rfl
  | [a], d => by
    show wr a ++ ([32] ++ wr d) = (wr a ++ 32 :: []) ++ wr d
    simp
  | a :: b :: r, d => by
    have ih := jn_snoc (b :: r) d
    show wr a ++ ([32] ++ jn (b :: r ++ [d])) = (wr a ++ 32 :: bl (b :: r)) ++ wr d
    rw [ih]
    simp
theorem jn_bl : ∀ ds : List PyData, ds ≠ [] → jn ds ++ [32] = bl ds
  | [], h => absurd rfl h
  | [a], _ => rfl
  | a :: b :: r, _ => by
    have ih := jn_bl (b :: r) (by simp)
    show (wr a ++ ([32] ++ jn (b :: r))) ++ [32] = wr a ++ 32 :: bl (b :: r)
    rw [← ih]
    simp
theorem jn_wr (ds : List PyData) : 40 :: (jn ds ++ [41]) = wr (.tuple ds) := by
  show _ = 40 :: wrF ds
  rw [← joinL_wrF]
  rfl
theorem take_at {L : List Nat} {k c : Nat} (h : L[k]? = some c) : L.take (k + 1) = L.take k ++ [c] := by
  rw [List.take_add_one, h]
  rfl
def AllOk (st : List (List PyData)) : Prop := ∀ ds ∈ st, ∀ d ∈ ds, Ok d
theorem AllOk.snoc {top : List PyData} {st : List (List PyData)} (a : AllOk (top :: st)) {d : PyData} (h : Ok d) : AllOk ((top ++ [d]) :: st) := fun ds hds x hx => by
  rcases List.mem_cons.mp hds with e | e
  · rw [e] at hx
    rcases List.mem_append.mp hx with y | y
    · exact a top (List.mem_cons_self ..) x y
    · rw [List.mem_singleton.mp y]; exact h
  · exact a ds (List.mem_cons_of_mem _ e) x hx
theorem AllOk.open {st : List (List PyData)} (a : AllOk st) : AllOk ([] :: st) := fun ds hds x hx => by
  rcases List.mem_cons.mp hds with e | e
  · rw [e] at hx; cases hx
  · exact a ds e x hx
theorem gS_open {st : List (List PyData)} (b : Bot st) : gS ([] :: st) = gS st ++ [40] := by
  cases st with
  | nil => exact b.elim
  | cons s r => rfl
theorem bot_open {st : List (List PyData)} (b : Bot st) : Bot ([] :: st) := by
  cases st with
  | nil => exact b.elim
  | cons s r => exact b
theorem cS_snoc {top : List PyData} {st : List (List PyData)} (b : Bot (top :: st)) (v : PyData) : cS ((top ++ [v]) :: st) = gS (top :: st) ++ wr v ∧ BotC ((top ++ [v]) :: st) := by
  cases st with
  | nil =>
    have e : top = [] := b
    subst e
    exact ⟨rfl, v, rfl⟩
  | cons s r =>
    refine ⟨?_, b⟩
    show gS (s :: r) ++ 40 :: jn (top ++ [v]) = (gS (s :: r) ++ 40 :: bl top) ++ wr v
    rw [jn_snoc]
    simp
mutual
theorem go_back {L : List Nat} : ∀ {k : Nat} {st : List (List PyData)} {d : PyData}, Go L k st d → L.take k = gS st → Bot st → AllOk st → L = wr d ∧ Ok d
  | _, _, _, .more h1 h2 h3, e, b, a => go_back h3 (by rw [take_at h1, e, gS_open b]) (bot_open b) a.open
  | k, st, _, .empty h1 h2 h3, e, b, a => by
    refine cl_back h3 ?_ ?_ a.open fun _ _ _ => h2
    · rw [take_at h1, e]
      cases st with
      | nil => exact b.elim
      | cons s r => rfl
    · cases st with
      | nil => exact b.elim
      | cons s r => exact b
  | k, _, _, .flat (n := n) (top := top) (st := st) (v := v) h1 h2 h3, e, b, a => by
    obtain ⟨f1, f2, f3⟩ := flat_back h2
    obtain ⟨c1, c2⟩ := cS_snoc b v
    refine cl_back h3 ?_ c2 (a.snoc f2) fun s r z => ?_
    · rw [List.take_add, e, c1, f1]
    · have := congrArg List.length (List.cons.inj z).1
      simp at this
theorem cl_back {L : List Nat} : ∀ {k : Nat} {st : List (List PyData)} {d : PyData}, Cl L k st d → L.take k = cS st → BotC st → AllOk st → (∀ s r, st = [] :: s :: r → L[k]? = some 41) → L = wr d ∧ Ok d
  | k, _, _, .close (top := top) (nx := nx) (st := st) h1 h2, e, b, a, _ => by
    have b2 : Bot (nx :: st) := b
    have ot : Ok (.tuple top) := .tup (a top (List.mem_cons_self ..))
    obtain ⟨c1, c2⟩ := cS_snoc b2 (.tuple top)
    refine cl_back h2 ?_ c2 (AllOk.snoc (fun ds hds => a ds (List.mem_cons_of_mem _ hds)) ot) fun s r z => ?_
    · rw [take_at h1, e, c1, ← jn_wr]
      show (gS (nx :: st) ++ 40 :: jn top) ++ [41] = _
      simp
    · have := congrArg List.length (List.cons.inj z).1
      simp at this
  | _, _, d, .done h1, e, b, a, _ => by
    rw [h1, List.take_length] at e
    exact ⟨e, a [d] (List.mem_cons_self ..) d (List.mem_cons_self ..)⟩
  | k, _, _, .sep (top := top) (nx := nx) (st := st) h1 h2, e, b, a, ne => by
    have b2 : Bot (nx :: st) := b
    have nt : top ≠ [] := fun z => by
      have := ne nx st (by rw [z])
      rw [h1] at this
      cases this
    refine go_back h2 ?_ b2 a
    rw [take_at h1, e]
    show (gS (nx :: st) ++ 40 :: jn top) ++ [32] = gS (nx :: st) ++ 40 :: bl top
    rw [← jn_bl top nt]
    simp
end
theorem go_is {L : List Nat} {d : PyData} (h : Go L 0 [[]] d) : L = wr d ∧ Ok d := go_back h rfl rfl fun ds hds x hx => by
  rw [List.mem_singleton.mp hds] at hx
  cases hx
end Vl

set_option autoImplicit false
set_option maxHeartbeats 2000000
namespace Vl
open PySem PySem.Spec PyProof.Rows L2 TL CwR PySem.StrLaws
/-! ### where a text is refused -/
inductive FlatE : List Nat → Nat → Prop
  | txt {r : List Nat} {n : Nat} : txtM r = .err n → FlatE (34 :: r) (n + 1)
  | none {l : List Nat} : l.head? ≠ some 34 → numLen l = 0 → l.head? ≠ some 45 → l.head? ≠ some 43 → l.head? ≠ some 33 → FlatE l 0
mutual
inductive GoE (L : List Nat) : Nat → List (List PyData) → Nat → Prop
  | more {k e : Nat} {st : List (List PyData)} : L[k]? = some 40 → L[k + 1]? ≠ some 41 → GoE L (k + 1) ([] :: st) e → GoE L k st e
  | empty {k e : Nat} {st : List (List PyData)} : L[k]? = some 40 → L[k + 1]? = some 41 → ClE L (k + 1) ([] :: st) e → GoE L k st e
  | flat {k n e : Nat} {top : List PyData} {st : List (List PyData)} {v : PyData} : L[k]? ≠ some 40 → Flat (L.drop k) v n → ClE L (k + n) ((top ++ [v]) :: st) e → GoE L k (top :: st) e
  | bad {k n : Nat} {st : List (List PyData)} : L[k]? ≠ some 40 → FlatE (L.drop k) n → GoE L k st (k + n)
inductive ClE (L : List Nat) : Nat → List (List PyData) → Nat → Prop
  | close {k e : Nat} {top nx : List PyData} {st : List (List PyData)} : L[k]? = some 41 → ClE L (k + 1) ((nx ++ [.tuple top]) :: st) e → ClE L k (top :: nx :: st) e
  | rest {k : Nat} {x : List PyData} : k < L.length → ClE L k [x] k
  | sep {k e : Nat} {top nx : List PyData} {st : List (List PyData)} : L[k]? = some 32 → GoE L (k + 1) (top :: nx :: st) e → ClE L k (top :: nx :: st) e
  | bad {k : Nat} {top nx : List PyData} {st : List (List PyData)} : L[k]? ≠ some 41 → L[k]? ≠ some 32 → ClE L k (top :: nx :: st) k
end
theorem flat_num {l : List Nat} (h : l.head? ≠ some 34) (h0 : 0 < numLen l) : ∃ i, Flat l (.int i) (numLen l) := by
  cases l with
  | nil => cases h0
  | cons c r =>
    by_cases a : c = 48
    · have e : numLen (c :: r) = 1 := if_pos a
      have e0 : numL 0 = [48] := numL_lt (by decide)
      have hv := int_of_numL (k := 0) (by decide)
      rw [e0] at hv
      refine ⟨0, .num h rfl h0 (by omega) ?_⟩
      rw [e, a]
      exact hv
    · by_cases b : c = 45
      · by_cases f : figs r = 0
        · have e : numLen (c :: r) = 0 := by
            show (if c = 48 then 1 else if c = 45 then (if figs r = 0 then 0 else 1 + figs r) else figs (c :: r)) = 0
            rw [if_neg a, if_pos b, if_pos f]
          omega
        · have e : numLen (c :: r) = figs r + 1 := by
            show (if c = 48 then 1 else if c = 45 then (if figs r = 0 then 0 else 1 + figs r) else figs (c :: r)) = _
            rw [if_neg a, if_pos b, if_neg f, Nat.add_comm]
          obtain ⟨k, k1, k2, k3, k4, k5, _⟩ := figs_back (l := r) (by omega)
          have et : (c :: r).take (figs r + 1) = 45 :: numL k := by
            rw [b]
            show 45 :: r.take (figs r) = _
            rw [k3]
          have hl := numL_len (n := k) (k := 40) (by decide) k2
          have q := intText_neg (x := ⟨(45 :: numL k).toArray⟩) (cs := numL k) rfl (numL_digits k) (numL_ne k) (by show (45 :: numL k).toArray.size ≤ 4300; simp; omega)
          exact ⟨_, .num h rfl h0 (by omega) (by rw [e, et]; exact q)⟩
      · have e : numLen (c :: r) = figs (c :: r) := by
          show (if c = 48 then 1 else if c = 45 then (if figs r = 0 then 0 else 1 + figs r) else figs (c :: r)) = _
          rw [if_neg a, if_neg b]
        obtain ⟨k, k1, k2, k3, k4, k5, _⟩ := figs_back (l := c :: r) (by omega)
        exact ⟨_, .num h rfl h0 (by omega) (by rw [e, ← k3]; exact int_of_numL k2)⟩
theorem flat_total (l : List Nat) : (∃ v n, Flat l v n) ∨ ∃ n, FlatE l n := by
  by_cases h : l.head? = some 34
  · cases l with
    | nil => cases h
    | cons c r =>
      cases h
      cases q : txtM r with
      | ok v n => exact .inl ⟨_, _, .txt q⟩
      | err n => exact .inr ⟨_, .txt q⟩
  · by_cases h0 : 0 < numLen l
    · obtain ⟨i, f⟩ := flat_num h h0
      exact .inl ⟨_, _, f⟩
    · have z : numLen l = 0 := by omega
      cases l with
      | nil => exact .inr ⟨0, .none h z (by simp) (by simp) (by simp)⟩
      | cons c r =>
        by_cases c1 : c = 45
        · subst c1; exact .inl ⟨_, _, .minus z⟩
        by_cases c2 : c = 43
        · subst c2; exact .inl ⟨_, _, .plus⟩
        by_cases c3 : c = 33
        · subst c3; exact .inl ⟨_, _, .bang⟩
        exact .inr ⟨0, .none h z (by simpa using c1) (by simpa using c2) (by simpa using c3)⟩
theorem tot {L : List Nat} : ∀ m : Nat, (∀ (k : Nat) (st : List (List PyData)), L.length + 1 - k ≤ m → k ≤ L.length → Bot st → (∃ d, Go L k st d) ∨ ∃ e, GoE L k st e) ∧
    (∀ (k : Nat) (st : List (List PyData)), L.length + 1 - k ≤ m → k ≤ L.length → BotC st → (∃ d, Cl L k st d) ∨ ∃ e, ClE L k st e)
  | 0 => ⟨fun k st h hk _ => by omega, fun k st h hk _ => by omega⟩
  | m + 1 => by
    obtain ⟨tg, tc⟩ := tot (L := L) m
    refine ⟨fun k st h hk b => ?_, fun k st h hk b => ?_⟩
    · by_cases h4 : L[k]? = some 40
      · have hl := (List.getElem?_eq_some_iff.mp h4).1
        by_cases h5 : L[k + 1]? = some 41
        · have bc : BotC ([] :: st) := by
            cases st with
            | nil => exact b.elim
            | cons s r => exact b
          rcases tc (k + 1) ([] :: st) (by omega) (by omega) bc with ⟨d, g⟩ | ⟨e, g⟩
          · exact .inl ⟨d, .empty h4 h5 g⟩
          · exact .inr ⟨e, .empty h4 h5 g⟩
        · rcases tg (k + 1) ([] :: st) (by omega) (by omega) (bot_open b) with ⟨d, g⟩ | ⟨e, g⟩
          · exact .inl ⟨d, .more h4 h5 g⟩
          · exact .inr ⟨e, .more h4 h5 g⟩
      · rcases flat_total (L.drop k) with ⟨v, n, f⟩ | ⟨n, f⟩
        · obtain ⟨_, f1, f2⟩ := flat_ne f
          rw [List.length_drop] at f2
          cases st with
          | nil => exact b.elim
          | cons top r =>
            rcases tc (k + n) ((top ++ [v]) :: r) (by omega) (by omega) (cS_snoc b v).2 with ⟨d, g⟩ | ⟨e, g⟩
            · exact .inl ⟨d, .flat h4 f g⟩
            · exact .inr ⟨e, .flat h4 f g⟩
        · exact .inr ⟨_, .bad h4 f⟩
    · match st, b with
      | [x], b =>
        obtain ⟨d, rfl⟩ := b
        by_cases e : k = L.length
        · exact .inl ⟨d, .done e⟩
        · exact .inr ⟨k, .rest (by omega)⟩
      | top :: nx :: r, b =>
        by_cases h4 : L[k]? = some 41
        · have hl := (List.getElem?_eq_some_iff.mp h4).1
          have b2 : Bot (nx :: r) := b
          rcases tc (k + 1) ((nx ++ [.tuple top]) :: r) (by omega) (by omega) (cS_snoc b2 _).2 with ⟨d, g⟩ | ⟨e, g⟩
          · exact .inl ⟨d, .close h4 g⟩
          · exact .inr ⟨e, .close h4 g⟩
        · by_cases h5 : L[k]? = some 32
          · have hl := (List.getElem?_eq_some_iff.mp h5).1
            rcases tg (k + 1) (top :: nx :: r) (by omega) (by omega) b with ⟨d, g⟩ | ⟨e, g⟩
            · exact .inl ⟨d, .sep h5 g⟩
            · exact .inr ⟨e, .sep h5 g⟩
          · exact .inr ⟨k, .bad h4 h5⟩
theorem go_total (L : List Nat) : (∃ d, Go L 0 [[]] d) ∨ ∃ e, GoE L 0 [[]] e := (tot (L := L) (L.length + 1)).1 0 [[]] (by omega) (Nat.zero_le _) rfl
end Vl

set_option autoImplicit false
set_option maxHeartbeats 4000000
namespace Vl
open PySem PySem.Spec PyProof.Rows L2 TL CwR PySem.StrLaws
/-! ### the refusal -/
def inCls (s : Stmt) (i : Nat) : Stmt := match s with
  | .ClassDef _ _ _ b _ _ _ _ _ _ _ => b.getD i (.Pass ⟨0, 0, 0, 0⟩)
  | _ => .Pass ⟨0, 0, 0, 0⟩
abbrev sInit : Stmt := inCls (top 1) 0
theorem scInit : FnScope ["self", "at"] ["self", "at"] (defScope sInit) := ⟨rfl, rfl, rfl, by decide +kernel, rfl, by decide +kernel, by decide +kernel⟩
def spInit (K : PySem.W.Frag) (C : Addr) : Sp := fun vs H Q _ => ∃ (a : Addr) (v : V), vs = [.ref a, v] ∧ H a = some (exo a C none) ∧ ∀ dx, H dx = none → dx ≠ a → Q .non (upd (upd H dx (exd dx [("at", v)])) a (exo a C (some dx)))
/-- what is known of the class -/
structure NoV (K : PySem.W.Frag) (mg : Str → Option Value) (C fI : Addr) (fdI : FuncData) : Prop where
  ox : OexC K C
  g : mg "NoValue" = some (.ref C)
  noAt : PySem.W.findIn K (.ref C) "at" = some none
  iC : PySem.W.findIn K (.ref C) "__init__" = some (some (.ref fI))
  tI : PySem.W.typeIn K (.ref fI) = some (.type "function")
  fn : FunD K "__init__" "NoValue.__init__" (defArgs sInit) (defBody sInit) (defScope sInit) [] [] fI fdI
section
variable {P : Program} {w : World} {K : PySem.W.Frag} {mg : Str → Option Value} {base : Heap}
theorem ok_init {C fI : Addr} {fdI : FuncData} (T : NoV K mg C fI fdI) : FnOk P w K mg base CX0 1 fI fdI ["self", "at"] (spInit K C) := by
  refine T.fn.ok scInit (fun vs H Q E h => ?_) (fun cdv A outer s H vs Q E hr h => ?_)
  · obtain ⟨a, v, rfl, _⟩ := h
    rfl
  · obtain ⟨a, v, rfl, ha, q⟩ := h
    refine ⟨_, PSs.nox (pss_one (ps_ost (pv 0) (pv 1))), ?_⟩
    exact ⟨_, rfl, _, rfl, a, C, rfl, T.ox, T.noAt, .inl ⟨ha, fun dx hd hn => q dx hd hn⟩⟩
/-- how the refusal leaves a def -/
def Out (C : Addr) (E : XK) (H : Hp) (n : Nat) : Prop := ∀ (H' : Hp) (d : Addr), Same H H' → H d = none → H' d = some (.xd [("at", .int (n : Int))]) → E (.ref C) (some d) H'
theorem out_of {C : Addr} {H1 : Hp} {W : XK} {n : Nat} (h : Out C W H1 n) : ([V.int (n : Int)] : List V).length ≤ 1000 ∧ ∀ a, H1 a = none →
    spInit K C (.ref a :: ([V.int (n : Int)] ++ [])) (upd H1 a (exo a C none)) (fun v H2 => v = .non ∧ ∃ (d : Addr) (fs : List (Str × V)), H2 a = some (exo a C (some d)) ∧ H2 d = some (exd d fs) ∧ H1 d = none ∧ W (.ref C) (some d) (upd (del H2 a) d (.xd fs))) (fun _ _ _ => False) := by
  refine ⟨by simp, fun a na => ⟨a, .int (n : Int), rfl, upd_same, fun dx hd hn => ?_⟩⟩
  have hd1 : H1 dx = none := by rw [← hd, upd_ne hn]
  refine ⟨rfl, dx, [("at", .int (n : Int))], upd_same, by rw [upd_ne hn, upd_same], hd1, h _ dx (fun b x e => ?_) hd1 upd_same⟩
  have nb : b ≠ dx := ne_of_none e hd1
  have na : b ≠ a := ne_of_none e na
  rw [upd_ne nb]
  show (if b = a then none else _) = _
  rw [if_neg na, upd_ne na, upd_ne nb, upd_ne na]
  exact e
theorem bindI {C fI : Addr} {fdI : FuncData} (T : NoV K mg C fI fdI) : Binds K fdI ["self", "at"] [] := T.fn.bindsN fun _ _ _ _ _ _ us hl => match us, hl with | [_, _], _ => rfl
end
end Vl

set_option autoImplicit false
set_option maxHeartbeats 4000000
namespace Vl
open PySem PySem.Spec PyProof.Rows L2 TL CwR PySem.StrLaws
theorem up_up (p q : List Nat) (k l : Nat) (t : TR) : (t.up p k).up q l = t.up (q ++ p) (k + l) := by
  cases t with
  | ok v n =>
    show TR.ok (q ++ (p ++ v)) (n + k + l) = TR.ok (q ++ p ++ v) (n + (k + l))
    rw [List.append_assoc, Nat.add_assoc]
  | err n =>
    show TR.err (n + k + l) = TR.err (n + (k + l))
    rw [Nat.add_assoc]
theorem up_nil (t : TR) : t.up [] 0 = t := by cases t <;> rfl
theorem txtM_plain {c : Nat} (h : plain c) (l : List Nat) : txtM (c :: l) = (txtM l).up [c] 1 := by
  have c34 : c ≠ 34 := h.2.2.1
  cases l with
  | nil => exact (if_neg c34).trans (if_pos h)
  | cons e r => exact (if_neg c34).trans (if_pos h)
/-- the next step of reading a text: refused, closed, or a quote written twice -/
theorem txtM_case : ∀ l : List Nat, ((l.drop (plainLen l)).head? ≠ some 34 ∧ txtM l = .err (plainLen l)) ∨
    (∃ r, l.drop (plainLen l) = 34 :: r ∧ r.head? ≠ some 34 ∧ txtM l = .ok (l.take (plainLen l)) (plainLen l + 1)) ∨
    (∃ r, l.drop (plainLen l) = 34 :: 34 :: r ∧ txtM l = (txtM r).up (l.take (plainLen l) ++ [34]) (plainLen l + 2))
  | [] => .inl ⟨by simp, rfl⟩
  | c :: l => by
    by_cases p : plain c
    · have ep : plainLen (c :: l) = plainLen l + 1 := (if_pos p).trans (Nat.add_comm ..)
      have et := txtM_plain p l
      rw [ep, et]
      show ((l.drop (plainLen l)).head? ≠ some 34 ∧ _) ∨ (∃ r, l.drop (plainLen l) = 34 :: r ∧ r.head? ≠ some 34 ∧ _ = TR.ok (c :: l.take (plainLen l)) _) ∨ (∃ r, l.drop (plainLen l) = 34 :: 34 :: r ∧ _ = (txtM r).up (c :: l.take (plainLen l) ++ [34]) _)
      rcases txtM_case l with ⟨a, b⟩ | ⟨r, a, b, d⟩ | ⟨r, a, b⟩
      · exact .inl ⟨a, by rw [b]; rfl⟩
      · exact .inr (.inl ⟨r, a, b, by rw [d]; rfl⟩)
      · exact .inr (.inr ⟨r, a, by rw [b, up_up]; rfl⟩)
    · have ep : plainLen (c :: l) = 0 := if_neg p
      rw [ep]
      by_cases e : c = 34
      · subst e
        cases l with
        | nil => exact .inr (.inl ⟨[], rfl, by simp, rfl⟩)
        | cons x r =>
          by_cases e2 : x = 34
          · subst e2
            exact .inr (.inr ⟨r, rfl, rfl⟩)
          · refine .inr (.inl ⟨x :: r, rfl, by simpa using e2, ?_⟩)
            exact (if_pos rfl).trans (if_neg e2)
      · refine .inl ⟨by simpa using e, ?_⟩
        cases l with
        | nil => exact (if_neg e).trans (if_neg p)
        | cons x r => exact (if_neg e).trans (if_neg p)
/-- read, or refused -/
def spTextE (C : Addr) : Sp := fun vs H Q E => ∃ (t : Str) (k : Nat), vs = [.str t, .int (k : Int)] ∧ t.length ≤ 10000000 ∧ k ≤ t.length ∧
  (∀ (v : List Nat) (n : Nat), txtM ((tl t).drop k) = .ok v n → ∀ (H' : Hp) (p : Addr) (r : Str), Same H H' → H p = none → tl r = v → H' p = some (.tup [.str r, .int ((k + n : Nat) : Int)]) → Q (.ref p) H') ∧
  (∀ n, txtM ((tl t).drop k) = .err n → Out C E H (k + n))
theorem Out.later {C : Addr} {E : XK} {H H1 : Hp} {n : Nat} (o : Out C E H n) (s : Same H H1) : Out C E H1 n := fun H' d s' hd e => o H' d (s.trans s') (s.free hd) e
section
variable {P : Program} {w : World} {K : PySem.W.Frag} {mg : Str → Option Value} {base : Heap}
theorem ok_textE {C fI : Addr} {fdI : FuncData} (T : NoV K mg C fI fdI) {f fB : Addr} {fd fdB : FuncData} {k : Nat} (F : FnP K "_read_text" sText f fd) (FB : FnP K "_behind_plain_signs" sBehind fB fdB) (gB : mg "_behind_plain_signs" = some (.ref fB)) (GB : FnOk P w K mg base CX0 3 fB fdB ["text", "at"] spBehind) : FnOk P w K mg base (L2.CX P w) 4 f fd ["text", "at"] (spTextE C) := by
  have bB : Binds K fdB ["text", "at"] [] := FB.bindsN fun _ _ _ _ _ _ us hl => match us, hl with | [_, _], _ => rfl
  refine F.ok scText (fun vs H Q E h => ?_) (fun cdv A outer s H vs Q E hr h => ?_)
  · obtain ⟨t, k0, rfl, _⟩ := h
    rfl
  · obtain ⟨t, k0, rfl, hz0, hk0, q, qe⟩ := h
    have hs := szl
    have hz : t.length ≤ sizeLine := by omega
    have hl := len_tl t
    have t34 : tl (Str.ofString "\"") = [34] := by decide +kernel
    have l34 : (Str.ofString "\"").length = 1 := by decide +kernel
    have GI : FnOk P w K mg base CX0 1 fI fdI ["self", "at"] (spInit K C) := ok_init T
    refine ⟨_, pss_cons (ps_set (i := 2) scText.nd rfl (.inl rfl) (pe_lst pa_nil))
      (pss_one (ps_while PassesOwn.leaving (pt_val pe_bl) (pss_cons (ps_set (i := 3) scText.nd rfl (.inl rfl) (pe_call GB hr (by rfl) gB FB.kp bB .nil pass0 (pa_cons (pv 0) (pa_cons (pv 1) pa_nil))))
      (pss_cons (ps_expr (pe_bm PySem.F.plainAttrs_list PySem.F.slot_list_append PySem.F.type_list_append mt_append (pv 2) (pa_cons (pe_slice sl_str (pv 0) (po_some (pv 1)) (po_some (pv 3))) pa_nil)))
      (pss_cons (ps_if (pt_cmpR op_ne (pe_slice sl_str (pv 0) (po_some (pv 3)) (po_some (pe_op op_add (pv 3) (pe_int)))) (pe_str) (nomark _)) (pss_one (ps_raise rfl (takes_of rfl rfl rfl rfl) (pmk_oex T.ox T.iC T.tI GI (hr.mono (by decide)) (bindI T) .nil pass0 (by rfl) T.g (pa_cons (pv 3) pa_nil)))) pss_nil)
      (pss_cons (ps_if (pt_cmpR op_ne (pe_slice sl_str (pv 0) (po_some (pe_op op_add (pv 3) (pe_int))) (po_some (pe_op op_add (pv 3) (pe_int)))) (pe_str) (nomark _)) (pss_one (ps_ret (pe_tup (pa_cons (pe_join pe_str (pv 2)) (pa_cons (pe_op op_add (pv 3) (pe_int)) pa_nil))))) pss_nil)
      (pss_cons (ps_expr (pe_bm PySem.F.plainAttrs_list PySem.F.slot_list_append PySem.F.type_list_append mt_append (pv 2) (pa_cons (pe_str) pa_nil)))
      (pss_one (ps_set (i := 1) scText.nd rfl (.inl rfl) (pe_op op_add (pv 3) (pe_int))))))))))), ?_⟩
    refine ⟨Nat.zero_le _, fun pa npa => ?_⟩
    let I : Nat → L2.St → Hp → Prop := fun m σ H' => ∃ (j : Nat) (ps : List Str) (y3 : Option V), σ = [some (.str t), some (.int (j : Int)), some (.ref pa), y3] ∧ H' pa = some (.lst (ps.map V.str)) ∧ Same H H' ∧ txtM ((tl t).drop k0) = (txtM ((tl t).drop j)).up (flat ps) (j - k0) ∧ k0 ≤ j ∧ j ≤ t.length ∧ ps.length ≤ j ∧ (flat ps).length ≤ j ∧ m = t.length - j
    refine ⟨I, ⟨t.length - k0, k0, [], none, rfl, upd_same, same_upd npa, ?_, Nat.le_refl _, hk0, Nat.zero_le _, Nat.zero_le _, rfl⟩, ?_⟩
    · rw [Nat.sub_self]
      exact (up_nil _).symm
    rintro m σ H' ⟨j, ps, y3, rfl, hp, sm, hup, hkj, hjt, hpl, hfl, rfl⟩
    have hplen := plainLen_le ((tl t).drop j)
    rw [List.length_drop] at hplen
    obtain ⟨e, he⟩ : ∃ e, e = j + plainLen ((tl t).drop j) := ⟨_, rfl⟩
    have hde : ((tl t).drop j).drop (plainLen ((tl t).drop j)) = (tl t).drop e := by rw [he, List.drop_drop]
    have hpc : tl (cutS t (some (j : Int)) (some (e : Int))) = ((tl t).drop j).take (plainLen ((tl t).drop j)) := by
      rw [tl_cut, show e - j = plainLen ((tl t).drop j) by omega]
    refine ⟨_, rfl, iteT ⟨fun σ' H2 => ∃ m', m' < t.length - j ∧ I m' σ' H2, fun _ _ h => h, ?_⟩⟩
    refine ⟨_, rfl, _, rfl, t, j, rfl, hz, ?_⟩
    rw [← he]
    refine ⟨_, rfl, .inl ⟨rfl, _, SqL.of hp⟩, _, rfl, _, rfl, (j : Int), rfl, _, rfl, (e : Int), rfl, t, rfl, hz, pa, _, _, rfl, rfl, hp, by rw [List.length_map]; omega, ?_⟩
    have hp1 : upd H' pa (.lst (ps.map V.str ++ [V.str (cutS t (some (j : Int)) (some (e : Int)))])) pa = some (.lst ((ps ++ [cutS t (some (j : Int)) (some (e : Int))]).map V.str)) := by rw [upd_same, List.map_append]; rfl
    have sm1 : Same H (upd H' pa (.lst (ps.map V.str ++ [V.str (cutS t (some (j : Int)) (some (e : Int)))]))) := same_put sm npa
    generalize upd H' pa (.lst (ps.map V.str ++ [V.str (cutS t (some (j : Int)) (some (e : Int)))])) = H1 at hp1 sm1
    refine ⟨_, rfl, _, rfl, (e : Int), rfl, _, rfl, (e : Int), 1, rfl, rfl, (e : Int) + 1, rfl, t, rfl, hz, rfl, _, rfl, ?_⟩
    show if (!decide (V.str (sg t e) = V.str (Str.ofString "\""))) = true then _ else _
    have hsg : ∀ i, (V.str (sg t i) = V.str (Str.ofString "\"")) ↔ ((tl t).drop i).head? = some 34 := fun i => by
      rw [sg_eq t34, List.head?_drop]
    have hfs : flat (ps ++ [cutS t (some (j : Int)) (some (e : Int))]) = flat ps ++ ((tl t).drop j).take (plainLen ((tl t).drop j)) := by
      rw [flat_snoc, hpc]
    have htk : (((tl t).drop j).take (plainLen ((tl t).drop j))).length = plainLen ((tl t).drop j) := by
      rw [List.length_take, List.length_drop]
      omega
    rcases txtM_case ((tl t).drop j) with ⟨a, b⟩ | ⟨r, a, b, d⟩ | ⟨r, a, b⟩
    · -- refused
      rw [hde] at a
      rw [decide_eq_false (fun h => a ((hsg e).mp h))]
      refine iteT ⟨_, rfl, ?_⟩
      have hn : txtM ((tl t).drop k0) = .err (plainLen ((tl t).drop j) + (j - k0)) := by rw [hup, b]; rfl
      have o := (qe _ hn).later sm1
      rw [show k0 + (plainLen ((tl t).drop j) + (j - k0)) = e by omega] at o
      exact out_of o
    · rw [hde] at a
      rw [decide_eq_true ((hsg e).mpr (by rw [a]; rfl))]
      refine iteF ?_
      have hd1 : (tl t).drop (e + 1) = r := drop_next (p := [34]) a
      refine ⟨_, rfl, _, rfl, (e : Int), 1, rfl, rfl, ((e + 1 : Nat) : Int), rfl, _, rfl, (e : Int), 2, rfl, rfl, ((e + 1 : Nat) : Int) + 1, rfl, t, rfl, hz, rfl, _, rfl, ?_⟩
      show if (!decide (V.str (sg t (e + 1)) = V.str (Str.ofString "\""))) = true then _ else _
      rw [decide_eq_false (fun h => b (by rw [← hd1]; exact (hsg (e + 1)).mp h))]
      refine iteT ?_
      have hn : txtM ((tl t).drop k0) = .ok (flat ps ++ ((tl t).drop j).take (plainLen ((tl t).drop j))) (plainLen ((tl t).drop j) + 1 + (j - k0)) := by rw [hup, d]; rfl
      refine ⟨⟨_, rfl⟩, _, rfl, Str.ofString "", pa, ps ++ [cutS t (some (j : Int)) (some (e : Int))], rfl, rfl, .inl (SqL.of hp1), ?_, _, rfl, (e : Int), 1, rfl, rfl, by show 2 ≤ sizeLine; omega, fun p np => ?_⟩
      · have l0 : (Str.ofString "").length = 0 := by decide +kernel
        rw [l0, flat_len, hfs, List.length_append, htk]
        omega
      · refine q _ _ hn _ p (Txt.join (Str.ofString "") (ps ++ [cutS t (some (j : Int)) (some (e : Int))])) (sm1.trans (same_upd np)) (sm1.free np) ?_ ?_
        · have t0 : tl (Str.ofString "") = [] := by decide +kernel
          rw [join_eq, tl_join, t0, joinL_nil]
          exact hfs
        · rw [upd_same]
          have e1 : ((k0 + (plainLen ((tl t).drop j) + 1 + (j - k0)) : Nat) : Int) = (e : Int) + 1 := by omega
          rw [e1]
    · rw [hde] at a
      rw [decide_eq_true ((hsg e).mpr (by rw [a]; rfl))]
      refine iteF ?_
      have hd1 : (tl t).drop (e + 1) = 34 :: r := drop_next (p := [34]) a
      have hd2 : (tl t).drop (e + 2) = r := drop_next (p := [34]) hd1
      have hel : e + 2 ≤ t.length := by
        have := congrArg List.length a
        rw [List.length_drop, List.length_cons, List.length_cons] at this
        omega
      refine ⟨_, rfl, _, rfl, (e : Int), 1, rfl, rfl, ((e + 1 : Nat) : Int), rfl, _, rfl, (e : Int), 2, rfl, rfl, ((e + 1 : Nat) : Int) + 1, rfl, t, rfl, hz, rfl, _, rfl, ?_⟩
      show if (!decide (V.str (sg t (e + 1)) = V.str (Str.ofString "\""))) = true then _ else _
      rw [decide_eq_true ((hsg (e + 1)).mpr (by rw [hd1]; rfl))]
      refine iteF ?_
      refine ⟨_, rfl, .inl ⟨rfl, _, SqL.of hp1⟩, pa, _, _, rfl, rfl, hp1, by rw [List.length_map, List.length_append]; show ps.length + 1 < sizeLine; omega, ?_⟩
      refine ⟨_, rfl, (e : Int), 2, rfl, rfl, t.length - (e + 2), by omega, e + 2, ps ++ [cutS t (some (j : Int)) (some (e : Int))] ++ [Str.ofString "\""], _, rfl, ?_, same_put sm1 npa, ?_, by omega, hel, ?_, ?_, rfl⟩
      · rw [upd_same, List.map_append (l₂ := [Str.ofString "\""])]
        rfl
      · rw [hup, b, up_up, hd2, flat_snoc, hfs, t34, List.append_assoc]
        congr 1
        omega
      · rw [List.length_append, List.length_append]
        show ps.length + 1 + 1 ≤ e + 2
        omega
      · rw [flat_snoc, hfs, t34, List.length_append, List.length_append, htk]
        show (flat ps).length + _ + 1 ≤ _
        omega
end
end Vl

set_option autoImplicit false
set_option maxHeartbeats 4000000
namespace Vl
open PySem PySem.Spec PyProof.Rows L2 TL CwR PySem.StrLaws
/-- the table of signs, and that nothing else is in it -/
structure SignsE (K : PySem.W.Frag) (w : World) (mg : Str → Option Value) : Prop where
  ex : ∃ (d : Addr) (es : Array DictEntry) (n : Nat), KDict K w d es n ∧ mg "SIGNS" = some (.ref d) ∧ (∃ u, PySem.W.nsIn K d "-" = some (some u) ∧ RelV .non u) ∧ (∃ u, PySem.W.nsIn K d "+" = some (some u) ∧ RelV (.bl true) u) ∧ (∃ u, PySem.W.nsIn K d "!" = some (some u) ∧ RelV (.bl false) u) ∧
    ∀ z : Str, z ≠ "-" → z ≠ "+" → z ≠ "!" → PySem.W.nsIn K d z = some none
def spReadFlatE (C : Addr) : Sp := fun vs H Q E => ∃ (t : Str) (k : Nat), vs = [.str t, .int (k : Int)] ∧ t.length ≤ 10000000 ∧ k ≤ t.length ∧
  (∀ d n, Flat ((tl t).drop k) d n → ∀ H' p x, Same H H' → H p = none → H' p = some (.tup [x, .int ((k + n : Nat) : Int)]) → Vd H' x d → Q (.ref p) H') ∧ (∀ n, FlatE ((tl t).drop k) n → Out C E H (k + n))
section
variable {P : Program} {w : World} {K : PySem.W.Frag} {mg : Str → Option Value} {base : Heap}
theorem ok_readflatE {C fI : Addr} {fdI : FuncData} (T : NoV K mg C fI fdI) {f fT fN : Addr} {fd fdT fdN : FuncData} (F : FnP K "_read_flat" sReadFlat f fd) (FT : FnP K "_read_text" sText fT fdT) (gT : mg "_read_text" = some (.ref fT)) (GT : FnOk P w K mg base (L2.CX P w) 4 fT fdT ["text", "at"] (spTextE C))
    (FN : FnP K "_behind_number" sNumber fN fdN) (gN : mg "_behind_number" = some (.ref fN)) (GN : FnOk P w K mg base CX0 4 fN fdN ["text", "at"] spNumber) (S : SignsE K w mg) (mi : mg "int" = none) :
    FnOk P w K mg base (L2.CX P w) 5 f fd ["text", "at"] (spReadFlatE C) := by
  have bT : Binds K fdT ["text", "at"] [] := FT.bindsN fun _ _ _ _ _ _ us hl => match us, hl with | [_, _], _ => rfl
  have bN : Binds K fdN ["text", "at"] [] := FN.bindsN fun _ _ _ _ _ _ us hl => match us, hl with | [_, _], _ => rfl
  obtain ⟨dS, es, nS, D, gS, ⟨u1, e1, r1⟩, ⟨u2, e2, r2⟩, ⟨u3, e3, r3⟩, eo⟩ := S.ex
  refine F.ok scReadFlat (fun vs H Q E h => ?_) (fun cdv A outer s H vs Q E hr h => ?_)
  · obtain ⟨t, k, rfl, _⟩ := h
    rfl
  · obtain ⟨t, k0, rfl, hz, hk, q0, qe⟩ := h
    have hs := szl
    have hr2 : Room 2 _ := hr.mono (by decide)
    have t34 : tl (Str.ofString "\"") = [34] := by decide +kernel
    have t45 : tl (Str.ofString "-") = [45] := by decide +kernel
    have t43 : tl (Str.ofString "+") = [43] := by decide +kernel
    have t33 : tl (Str.ofString "!") = [33] := by decide +kernel
    have GI : FnOk P w K mg base CX0 1 fI fdI ["self", "at"] (spInit K C) := ok_init T
    refine ⟨_, pss_cons (ps_set (i := 2) scReadFlat.nd rfl (.inl rfl) (pe_slice sl_str (pv 0) (po_some (pv 1)) (po_some (pe_op op_add (pv 1) (pe_int)))))
      (pss_cons (ps_if (pt_cmpR op_eq (pv 2) (pe_str) (nomark _)) (pss_one (ps_ret (pe_callS GT hr (by rfl) gT FT.kp bT (fun σ => passAt (takes_of rfl rfl rfl rfl) σ) (pa_cons (pv 0) (pa_cons (pe_op op_add (pv 1) (pe_int)) pa_nil))))) pss_nil)
      (pss_cons (ps_set (i := 3) scReadFlat.nd rfl (.inl rfl) (pe_call GN hr (by rfl) gN FN.kp bN .nil pass0 (pa_cons (pv 0) (pa_cons (pv 1) pa_nil))))
      (pss_cons (ps_if (pt_cmpR op_gt (pv 3) (pv 1) (nomark _)) (pss_one (ps_ret (pe_tup (pa_cons (pe_callTy call_int_str (by rfl) mi (by decide +kernel) (pa_cons (pe_slice sl_str (pv 0) (po_some (pv 1)) (po_some (pv 3))) pa_nil)) (pa_cons (pv 3) pa_nil))))) pss_nil)
      (pss_cons (ps_if (pt_cmpR (op_in_kd D) (pv 2) (pe_glob (v := .ref dS) (by rfl) gS rfl) (by rfl)) (pss_one (ps_ret (pe_tup (pa_cons (pe_ix (ix_kd D) (pe_glob (v := .ref dS) (by rfl) gS rfl) (pv 2) (fun _ _ => rfl)) (pa_cons (pe_op op_add (pv 1) (pe_int)) pa_nil))))) pss_nil)
      (pss_one (ps_raise rfl (takes_of rfl rfl rfl rfl) (pmk_oex T.ox T.iC T.tI GI hr2 (bindI T) .nil pass0 (by rfl) T.g (pa_cons (pv 1) pa_nil)))))))), ?_⟩
    refine ⟨_, rfl, _, rfl, (k0 : Int), rfl, _, rfl, (k0 : Int), 1, rfl, rfl, (k0 : Int) + 1, rfl, t, rfl, by omega, ?_⟩
    refine ⟨_, rfl, rfl, _, rfl, ?_⟩
    show if decide (V.str (sg t k0) = V.str (Str.ofString "\"")) = true then _ else _
    have dq : decide (V.str (sg t k0) = V.str (Str.ofString "\"")) = decide ((tl t)[k0]? = some 34) := decide_eq_decide.mpr (sg_eq t34)
    rw [dq]
    obtain ⟨l, hl⟩ : ∃ l, (tl t).drop k0 = l := ⟨_, rfl⟩
    rw [hl] at q0 qe
    rcases flat_total l with ⟨d, n, hf⟩ | ⟨n, hf⟩
    · have q := q0 d n hf
      cases hf with
      | txt ht =>
        rename_i r v n'
        have hc : (tl t)[k0]? = some 34 := drop_at hl
        have hkl : k0 < (tl t).length := (List.getElem?_eq_some_iff.mp hc).1
        rw [← len_tl] at hkl
        rw [decide_eq_true hc]
        have hl1 : (tl t).drop (k0 + 1) = r := drop_next (p := [34]) hl
        refine iteT ⟨_, rfl, _, rfl, (k0 : Int), 1, rfl, rfl, t, k0 + 1, rfl, hz, by omega, fun v2 n2 h2 H' p z sm np hz2 hp => ?_, fun n2 h2 => ?_⟩
        · rw [hl1, ht] at h2
          cases h2
          have ez : (⟨v.toArray⟩ : Str) = z := ext_tl hz2.symm
          rw [ez] at q
          refine q H' p (.str z) sm np ?_ (.str z)
          rw [hp]
          congr 6
          omega
        · rw [hl1, ht] at h2
          cases h2
      | num h34 hnl hn0 hn41 hint =>
        rename_i i
        have hc : (tl t)[k0]? ≠ some 34 := by rw [← List.head?_drop, hl]; exact h34
        have hd : decide ((tl t)[k0]? = some 34) = false := decide_eq_false hc
        rw [hd]
        refine iteF ⟨_, rfl, _, rfl, t, k0, rfl, by omega, by omega, ?_⟩
        rw [hl, hnl]
        refine ⟨_, rfl, _, rfl, ((k0 + n : Nat) : Int), (k0 : Int), rfl, rfl, _, rfl, ?_⟩
        have hd2 : decide ((k0 : Int) < ((k0 + n : Nat) : Int)) = true := decide_eq_true (by omega)
        rw [hd2]
        have hcut : cutS t (some (k0 : Int)) (some ((k0 + n : Nat) : Int)) = ⟨(l.take n).toArray⟩ := ext_tl (by
          rw [tl_cut, hl, show k0 + n - k0 = n by omega])
        refine iteT ⟨_, rfl, _, rfl, (k0 : Int), rfl, _, rfl, ((k0 + n : Nat) : Int), rfl, t, rfl, by omega, _, i, rfl, by rw [hcut]; exact hint, ?_, _, rfl, by show 2 ≤ sizeLine; omega, fun p np => ?_⟩
        · rw [len_tl, tl_cut, List.length_take]
          omega
        · exact q _ p (.int i) (same_upd np) np upd_same (.int i)
      | minus hn =>
        rename_i r
        have hc : (tl t)[k0]? = some 45 := drop_at hl
        have hd : decide ((tl t)[k0]? = some 34) = false := decide_eq_false (by rw [hc]; intro z; cases z)
        rw [hd]
        have hsg : sg t k0 = Str.ofString "-" := ext_tl (by rw [tl_sg', hc]; decide +kernel)
        refine iteF ⟨_, rfl, _, rfl, t, k0, rfl, by omega, by omega, ?_⟩
        have hnum : numLen (45 :: r) = 0 := hn
        rw [hl, hnum]
        refine ⟨_, rfl, _, rfl, ((k0 + 0 : Nat) : Int), (k0 : Int), rfl, rfl, _, rfl, ?_⟩
        have hd2 : decide ((k0 : Int) < ((k0 + 0 : Nat) : Int)) = false := decide_eq_false (by omega)
        rw [hd2]
        refine iteF ⟨_, rfl, sg t k0, some u1, rfl, rfl, by rw [hsg]; exact e1, _, rfl, iteT ?_⟩
        refine ⟨_, rfl, sg t k0, u1, .non, rfl, rfl, by rw [hsg]; exact e1, r1, _, rfl, (k0 : Int), 1, rfl, rfl, by show 2 ≤ sizeLine; omega, fun p np => ?_⟩
        exact q _ p .non (same_upd np) np upd_same .non
      | plus =>
        rename_i r
        have hc : (tl t)[k0]? = some 43 := drop_at hl
        have hd : decide ((tl t)[k0]? = some 34) = false := decide_eq_false (by rw [hc]; intro z; cases z)
        rw [hd]
        have hsg : sg t k0 = Str.ofString "+" := ext_tl (by rw [tl_sg', hc]; decide +kernel)
        refine iteF ⟨_, rfl, _, rfl, t, k0, rfl, by omega, by omega, ?_⟩
        have hnum : numLen (43 :: r) = 0 := by simp [numLen, figs]
        rw [hl, hnum]
        refine ⟨_, rfl, _, rfl, ((k0 + 0 : Nat) : Int), (k0 : Int), rfl, rfl, _, rfl, ?_⟩
        have hd2 : decide ((k0 : Int) < ((k0 + 0 : Nat) : Int)) = false := decide_eq_false (by omega)
        rw [hd2]
        refine iteF ⟨_, rfl, sg t k0, some u2, rfl, rfl, by rw [hsg]; exact e2, _, rfl, iteT ?_⟩
        refine ⟨_, rfl, sg t k0, u2, (.bl true), rfl, rfl, by rw [hsg]; exact e2, r2, _, rfl, (k0 : Int), 1, rfl, rfl, by show 2 ≤ sizeLine; omega, fun p np => ?_⟩
        exact q _ p (.bl true) (same_upd np) np upd_same (.bl true)
      | bang =>
        rename_i r
        have hc : (tl t)[k0]? = some 33 := drop_at hl
        have hd : decide ((tl t)[k0]? = some 34) = false := decide_eq_false (by rw [hc]; intro z; cases z)
        rw [hd]
        have hsg : sg t k0 = Str.ofString "!" := ext_tl (by rw [tl_sg', hc]; decide +kernel)
        refine iteF ⟨_, rfl, _, rfl, t, k0, rfl, by omega, by omega, ?_⟩
        have hnum : numLen (33 :: r) = 0 := by simp [numLen, figs]
        rw [hl, hnum]
        refine ⟨_, rfl, _, rfl, ((k0 + 0 : Nat) : Int), (k0 : Int), rfl, rfl, _, rfl, ?_⟩
        have hd2 : decide ((k0 : Int) < ((k0 + 0 : Nat) : Int)) = false := decide_eq_false (by omega)
        rw [hd2]
        refine iteF ⟨_, rfl, sg t k0, some u3, rfl, rfl, by rw [hsg]; exact e3, _, rfl, iteT ?_⟩
        refine ⟨_, rfl, sg t k0, u3, (.bl false), rfl, rfl, by rw [hsg]; exact e3, r3, _, rfl, (k0 : Int), 1, rfl, rfl, by show 2 ≤ sizeLine; omega, fun p np => ?_⟩
        exact q _ p (.bl false) (same_upd np) np upd_same (.bl false)
    · cases hf with
      | txt ht =>
        rename_i r m
        have hc : (tl t)[k0]? = some 34 := drop_at hl
        have hkl : k0 < (tl t).length := (List.getElem?_eq_some_iff.mp hc).1
        rw [← len_tl] at hkl
        rw [decide_eq_true hc]
        have hl1 : (tl t).drop (k0 + 1) = r := drop_next (p := [34]) hl
        refine iteT ⟨_, rfl, _, rfl, (k0 : Int), 1, rfl, rfl, t, k0 + 1, rfl, hz, by omega, fun v2 n2 h2 H' p z sm np hz2 hp => ?_, fun n2 h2 => ?_⟩
        · rw [hl1, ht] at h2
          cases h2
        · rw [hl1, ht] at h2
          cases h2
          have o := qe (m + 1) (.txt ht)
          rw [show k0 + (m + 1) = k0 + 1 + m by omega] at o
          exact o
      | none h1 h2 h3 h4 h5 =>
        have hh : (tl t)[k0]? = l.head? := by rw [← hl, List.head?_drop]
        rw [← hh] at h1 h3 h4 h5
        rw [decide_eq_false h1]
        refine iteF ⟨_, rfl, _, rfl, t, k0, rfl, by omega, by omega, ?_⟩
        rw [hl, h2]
        refine ⟨_, rfl, _, rfl, ((k0 + 0 : Nat) : Int), (k0 : Int), rfl, rfl, _, rfl, ?_⟩
        have hd2 : decide ((k0 : Int) < ((k0 + 0 : Nat) : Int)) = false := decide_eq_false (by omega)
        rw [hd2]
        refine iteF ⟨_, rfl, sg t k0, none, rfl, rfl, eo _ (fun e => h3 ((sg_eq t45).mp (congrArg V.str e))) (fun e => h4 ((sg_eq t43).mp (congrArg V.str e))) (fun e => h5 ((sg_eq t33).mp (congrArg V.str e))), _, rfl, iteF ?_⟩
        exact ⟨_, rfl, out_of (qe 0 (.none (by rw [← hh]; exact h1) h2 (by rw [← hh]; exact h3) (by rw [← hh]; exact h4) (by rw [← hh]; exact h5)))⟩
end
end Vl

set_option autoImplicit false
set_option maxHeartbeats 4000000
namespace Vl
open PySem PySem.Spec PyProof.Rows L2 TL CwR PySem.StrLaws
/-! ### what becomes of a text: a value, or a place -/
def GoR (L : List Nat) (k : Nat) (st : List (List PyData)) : PyData ⊕ Nat → Prop
  | .inl d => Go L k st d
  | .inr e => GoE L k st e
def ClR (L : List Nat) (k : Nat) (st : List (List PyData)) : PyData ⊕ Nat → Prop
  | .inl d => Cl L k st d
  | .inr e => ClE L k st e
theorem GoR.cases {L : List Nat} {k : Nat} {st : List (List PyData)} {o : PyData ⊕ Nat} (h : GoR L k st o) : (L[k]? = some 40 ∧ L[k + 1]? ≠ some 41 ∧ GoR L (k + 1) ([] :: st) o) ∨ (L[k]? = some 40 ∧ L[k + 1]? = some 41 ∧ ClR L (k + 1) ([] :: st) o) ∨
    (L[k]? ≠ some 40 ∧ ∃ n top st2 v, st = top :: st2 ∧ Flat (L.drop k) v n ∧ ClR L (k + n) ((top ++ [v]) :: st2) o) ∨ (L[k]? ≠ some 40 ∧ ∃ n, FlatE (L.drop k) n ∧ o = .inr (k + n)) := by
  cases o with
  | inl d =>
    cases h with
    | more a b c => exact .inl ⟨a, b, c⟩
    | empty a b c => exact .inr (.inl ⟨a, b, c⟩)
    | flat a b c => exact .inr (.inr (.inl ⟨a, _, _, _, _, rfl, b, c⟩))
  | inr e =>
    cases h with
    | more a b c => exact .inl ⟨a, b, c⟩
    | empty a b c => exact .inr (.inl ⟨a, b, c⟩)
    | flat a b c => exact .inr (.inr (.inl ⟨a, _, _, _, _, rfl, b, c⟩))
    | bad a b => exact .inr (.inr (.inr ⟨a, _, b, rfl⟩))
theorem ClR.close {L : List Nat} {k : Nat} {st : List (List PyData)} {o : PyData ⊕ Nat} (h : ClR L k st o) (h1 : 1 < st.length) (h41 : L[k]? = some 41) : ∃ top nx st2, st = top :: nx :: st2 ∧ ClR L (k + 1) ((nx ++ [.tuple top]) :: st2) o := by
  cases o with
  | inl d =>
    cases h with
    | close a b => exact ⟨_, _, _, rfl, b⟩
    | done a => exact absurd h1 (by simp)
    | sep a b => rw [h41] at a; cases a
  | inr e =>
    cases h with
    | close a b => exact ⟨_, _, _, rfl, b⟩
    | rest a => exact absurd h1 (by simp)
    | sep a b => rw [h41] at a; cases a
    | bad a b => exact absurd h41 a
theorem ClR.one {L : List Nat} {k : Nat} {st : List (List PyData)} {o : PyData ⊕ Nat} (h : ClR L k st o) (h1 : st.length = 1) : (∃ d, st = [[d]] ∧ o = .inl d ∧ k = L.length) ∨ ∃ x, st = [x] ∧ o = .inr k ∧ k < L.length := by
  cases o with
  | inl d =>
    cases h with
    | close a b => exact absurd h1 (by simp)
    | done a => exact .inl ⟨_, rfl, rfl, a⟩
    | sep a b => exact absurd h1 (by simp)
  | inr e =>
    cases h with
    | close a b => exact absurd h1 (by simp)
    | rest a => exact .inr ⟨_, rfl, rfl, a⟩
    | sep a b => exact absurd h1 (by simp)
    | bad a b => exact absurd h1 (by simp)
theorem ClR.many {L : List Nat} {k : Nat} {st : List (List PyData)} {o : PyData ⊕ Nat} (h : ClR L k st o) (h1 : st.length ≠ 1) (h41 : L[k]? ≠ some 41) : (L[k]? = some 32 ∧ GoR L (k + 1) st o) ∨ (L[k]? ≠ some 32 ∧ o = .inr k) := by
  cases o with
  | inl d =>
    cases h with
    | close a b => exact absurd a h41
    | done a => exact absurd rfl h1
    | sep a b => exact .inl ⟨a, b⟩
  | inr e =>
    cases h with
    | close a b => exact absurd a h41
    | rest a => exact absurd rfl h1
    | sep a b => exact .inl ⟨a, b⟩
    | bad a b => exact .inr ⟨b, rfl⟩
theorem num43 (r : List Nat) : numLen (43 :: r) = 0 := by simp [numLen, figs]
theorem num33 (r : List Nat) : numLen (33 :: r) = 0 := by simp [numLen, figs]
theorem flat_one {l : List Nat} {v v' : PyData} {n n' : Nat} (h : Flat l v n) (h' : Flat l v' n') : v = v' ∧ n = n' := by
  cases h with
  | txt a =>
    cases h' with
    | txt b =>
      rw [a] at b
      cases b
      exact ⟨rfl, rfl⟩
    | num h1 _ _ _ _ => exact absurd rfl h1
  | num h1 h2 h3 h4 h5 =>
    cases h' with
    | txt b => exact absurd rfl h1
    | num g1 g2 g3 g4 g5 =>
      have en : n = n' := h2.symm.trans g2
      subst en
      rw [h5] at g5
      cases g5
      exact ⟨rfl, rfl⟩
    | minus b => omega
    | plus => rw [num43] at h2; omega
    | bang => rw [num33] at h2; omega
  | minus a =>
    cases h' with
    | num g1 g2 g3 g4 g5 => omega
    | minus _ => exact ⟨rfl, rfl⟩
  | plus =>
    cases h' with
    | num g1 g2 g3 g4 g5 => rw [num43] at g2; omega
    | plus => exact ⟨rfl, rfl⟩
  | bang =>
    cases h' with
    | num g1 g2 g3 g4 g5 => rw [num33] at g2; omega
    | bang => exact ⟨rfl, rfl⟩
theorem flat_not {l : List Nat} {v : PyData} {n m : Nat} (h : Flat l v n) : ¬ FlatE l m := by
  intro g
  cases g with
  | txt b =>
    cases h with
    | txt a => rw [a] at b; cases b
    | num h1 _ _ _ _ => exact absurd rfl h1
  | none g1 g2 g3 g4 g5 =>
    cases h with
    | txt a => exact absurd rfl g1
    | num h1 h2 h3 _ _ => omega
    | minus _ => exact absurd rfl g3
    | plus => exact absurd rfl g4
    | bang => exact absurd rfl g5
theorem flatE_one {l : List Nat} {n n' : Nat} (h : FlatE l n) (h' : FlatE l n') : n = n' := by
  cases h with
  | txt a =>
    cases h' with
    | txt b => rw [a] at b; cases b; rfl
    | none g1 _ _ _ _ => exact absurd rfl g1
  | none g1 g2 g3 g4 g5 =>
    cases h' with
    | txt b => exact absurd rfl g1
    | none _ _ _ _ _ => rfl
def spCloseE : Sp := fun vs H Q _ => ∃ (t : Str) (k : Nat) (L : Addr) (H0 : Hp) (as : List Addr) (st : List (List PyData)) (o : PyData ⊕ Nat), vs = [.str t, .int (k : Int), .ref L] ∧ t.length ≤ 10000000 ∧ LS H0 H L as st ∧ Few k st ∧ k ≤ t.length ∧ ClR (tl t) k st o ∧
  ∀ H' k' as' st', LS H0 H' L as' st' → Few k' st' → k' ≤ t.length → k ≤ k' → ClR (tl t) k' st' o → (st'.length = 1 ∨ (tl t)[k']? ≠ some 41) → Q (.int (k' : Int)) H'
def spReadE (C : Addr) : Sp := fun vs H Q E => ∃ t : Str, vs = [.str t] ∧ t.length ≤ 10000000 ∧ (∀ d, Go (tl t) 0 [[]] d → ∀ H' x, Same H H' → Vd H' x d → Q x H') ∧ (∀ e, GoE (tl t) 0 [[]] e → Out C E H e)
def Fin (C : Addr) (Q : VK) (E : XK) (H : Hp) : PyData ⊕ Nat → Prop
  | .inl d => ∀ H' x, Same H H' → Vd H' x d → Q x H'
  | .inr e => Out C E H e
section
variable {P : Program} {w : World} {K : PySem.W.Frag} {mg : Str → Option Value} {base : Heap}
theorem ok_closeE {f : Addr} {fd : FuncData} {k : Nat} (F : FnP K "_close_tuples" sClose f fd) (ml : mg "len" = none) (mt : mg "tuple" = none) : FnOk P w K mg base CX0 (k + 1) f fd ["text", "at", "lists"] spCloseE := by
  refine F.ok scClose (fun vs H Q E h => ?_) (fun cdv A outer s H vs Q E hr h => ?_)
  · obtain ⟨t, k, L, H0, as, st, o, rfl, _⟩ := h
    rfl
  · obtain ⟨t, k0, L, H0, as, st, o, rfl, hz, hL, hF, hk, hC, q⟩ := h
    have hs := szl
    have hl := len_tl t
    have t41 : tl (Str.ofString ")") = [41] := by decide +kernel
    refine ⟨_, PSs.nox (pss_cons (ps_while PassesOwn.never (PW.pt (pw_and (pt_cmpR op_gt (pe_callB call_len_seq (by rfl) ml PySem.boot_len (pa_cons (pv 2) pa_nil)) (pe_int) (nomark _)) (pw_and1 (pt_cmpR op_eq (pe_slice sl_str (pv 0) (po_some (pv 1)) (po_some (pe_op op_add (pv 1) (pe_int)))) (pe_str) (nomark _))))) (pss_cons (ps_set (i := 3) scClose.nd rfl (.inl rfl) (pe_callTy call_tuple_of (by rfl) mt PyProof.Rows.boot_tuple (pa_cons (pe_bm0 PySem.F.plainAttrs_list PySem.F.slot_list_pop PySem.F.type_list_pop mt_pop (pv 2)) pa_nil)))
      (pss_cons (ps_expr (pe_bm PySem.F.plainAttrs_list PySem.F.slot_list_append PySem.F.type_list_append mt_append (pe_ix ix_list (pv 2) (pe_un un_neg pe_int) (fun _ _ => rfl)) (pa_cons (pv 3) pa_nil)))
      (pss_one (ps_aug (i := 1) scClose.nd rfl (.inl rfl) (pe_int) ip_add)))))
      (pss_one (ps_ret (pv 1)))), ?_⟩
    refine ⟨fun m σ H' => ∃ (k' : Nat) (as' : List Addr) (st' : List (List PyData)) (y3 : Option V), σ = [some (.str t), some (.int (k' : Int)), some (.ref L), y3] ∧ LS H0 H' L as' st' ∧ Few k' st' ∧ k' ≤ t.length ∧ k0 ≤ k' ∧ ClR (tl t) k' st' o ∧ m = st'.length,
      ⟨st.length, k0, as, st, none, rfl, hL, hF, hk, Nat.le_refl _, hC, rfl⟩, ?_⟩
    rintro m σ H' ⟨k', as', st', y3, rfl, hL', hF', hk', hkk, hC', rfl⟩
    have hlen := hL'.sk.len
    obtain ⟨hne, hn1, hn2⟩ := hF'
    have fin : (st'.length = 1 ∨ (tl t)[k']? ≠ some 41) → Q (.int (k' : Int)) H' := fun h => q H' k' as' st' hL' ⟨hne, hn1, hn2⟩ hk' hkk hC' h
    refine ⟨_, rfl, L, _, rfl, .inl (SqL.of hL'.at_), _, 1, rfl, rfl, _, rfl, ite2 (fun e => ?_) (fun e => ?_)⟩
    · have h1 : 1 < st'.length := by
        have e1 := of_decide_eq_true e
        rw [List.length_map, List.length_reverse, hlen] at e1
        exact Int.ofNat_lt.mp e1
      refine ⟨_, rfl, _, rfl, (k' : Int), rfl, _, rfl, (k' : Int), 1, rfl, rfl, (k' : Int) + 1, rfl, t, rfl, by omega, rfl, _, rfl, ite2 (fun e2 => ?_) (fun e2 => ?_)⟩
      · have h41 : (tl t)[k']? = some 41 := (sg_eq t41).mp (of_decide_eq_true e2)
        have hklt : k' < (tl t).length := (List.getElem?_eq_some_iff.mp h41).1
        obtain ⟨top, nx, st2, rfl, hC2⟩ := hC'.close h1 h41
        · skip
          obtain ⟨a, as2, xs, rfl, ha, hxs⟩ := hL'.top
          cases hL'.sk with
          | cons s1 s2 s3 s4 =>
          cases s4 with
          | @cons b as3 ys _ _ b1 b2 b3 b4 =>
          rw [ha] at s1
          cases s1
          have nba : b ≠ a := fun e => s3 (by rw [← e]; exact List.mem_cons_self ..)
          have nLa : L ≠ a := fun e => hL'.out (by rw [e]; exact List.mem_cons_self ..)
          have nLb : L ≠ b := fun e => hL'.out (by rw [e]; exact List.mem_cons_of_mem _ (List.mem_cons_self ..))
          have hat := hL'.at_
          rw [rev_ref] at hat
          refine ⟨fun σ' H2 => ∃ m', m' < (top :: nx :: st2).length ∧ ∃ (k' : Nat) (as' : List Addr) (st' : List (List PyData)) (y3 : Option V), σ' = [some (.str t), some (.int (k' : Int)), some (.ref L), y3] ∧ LS H0 H2 L as' st' ∧ Few k' st' ∧ k' ≤ t.length ∧ k0 ≤ k' ∧ ClR (tl t) k' st' o ∧ m' = st'.length, fun _ _ h => h, ?_⟩
          have hdl : ((b :: as3).reverse.map V.ref ++ [V.ref a]).dropLast = (b :: as3).reverse.map V.ref := List.dropLast_concat
          refine ⟨_, rfl, .inl ⟨rfl, _, SqL.of hat⟩, L, _, .ref a, rfl, rfl, hat, by simp, ?_⟩
          have kL : KeepT H' (upd H' L (.lst ((b :: as3).reverse.map V.ref ++ [V.ref a]).dropLast)) := keep_lst hat
          have hL1 : LS H0 (upd H' L (.lst ((b :: as3).reverse.map V.ref ++ [V.ref a]).dropLast)) L (b :: as3) (nx :: st2) := by
            refine ⟨by rw [upd_same, hdl], (Sk.cons b1 b2 b3 b4).put kL fun c hc => ?_, fun h => hL'.out (List.mem_cons_of_mem _ h), hL'.newL, fun c hc => hL'.new c (List.mem_cons_of_mem _ hc), same_put hL'.same hL'.newL⟩
            rw [upd_ne (fun e => hL'.out (by rw [← e]; exact List.mem_cons_of_mem _ hc))]
          have ha1 : upd H' L (.lst ((b :: as3).reverse.map V.ref ++ [V.ref a]).dropLast) a = some (.lst xs) := by rw [upd_ne nLa.symm]; exact ha
          have hx1 := hxs.keep kL
          have hb1 : upd H' L (.lst ((b :: as3).reverse.map V.ref ++ [V.ref a]).dropLast) b = some (.lst ys) := by rw [upd_ne nLb.symm]; exact b1
          have hy1 := b2.keep kL
          generalize upd H' L (.lst ((b :: as3).reverse.map V.ref ++ [V.ref a]).dropLast) = H1 at hL1 ha1 hx1 hb1 hy1
          refine ⟨a, xs, rfl, .inl ⟨SqL.of ha1, fun p np => ?_⟩⟩
          have sp := same_upd (o := HO.tup xs) np
          have hL2 : LS H0 (upd H1 p (.tup xs)) L (b :: as3) (nx :: st2) := hL1.laid np
          have hb2 := sp _ _ hb1
          have hy2 := hy1.keep (Same.keepT sp)
          have hv2 : Vd (upd H1 p (.tup xs)) (.ref p) (.tuple top) := .tup upd_same (hx1.keep (Same.keepT sp))
          have hat2 := hL2.at_
          rw [rev_ref] at hat2
          generalize upd H1 p (.tup xs) = H2 at hL2 hb2 hy2 hv2 hat2
          have hnx := hn2 nx (List.mem_cons_of_mem _ (List.mem_cons_self ..))
          refine ⟨_, rfl, 1, rfl, L, _, -1, .ref b, rfl, rfl, SqL.of hat2, atI_last _ _, .inl ⟨rfl, _, SqL.of hb2⟩, _, rfl, b, _, _, rfl, rfl, hb2, by rw [hy2.len]; omega, ?_⟩
          refine ⟨_, rfl, (k' : Int), 1, rfl, rfl, (nx :: st2).length, Nat.lt_succ_self _, k' + 1, b :: as3, (nx ++ [.tuple top]) :: st2, _, rfl, hL2.push hb2 hy2 hv2, ⟨by simp, ?_, ?_⟩, by omega, by omega, hC2, rfl⟩
          · have e3 : (top :: nx :: st2).length = st2.length + 2 := rfl
            show st2.length + 1 ≤ k' + 1 + 1
            omega
          · intro ds hds
            rcases List.mem_cons.mp hds with e3 | e3
            · rw [e3, List.length_append]
              show nx.length + 1 ≤ k' + 1
              omega
            · have := hn2 ds (List.mem_cons_of_mem _ (List.mem_cons_of_mem _ e3))
              omega
      · exact ⟨_, rfl, fin (.inr fun h => e2 (decide_eq_true ((sg_eq t41).mpr h)))⟩
    · have h1 : st'.length = 1 := by
        have hpos : 0 < st'.length := List.length_pos_iff.mpr hne
        rcases Nat.lt_or_ge 1 st'.length with h | h
        · refine absurd (decide_eq_true ?_) e
          rw [List.length_map, List.length_reverse, hlen]
          exact Int.ofNat_lt.mpr h
        · omega
      exact iteF ⟨_, rfl, fin (.inl h1)⟩
theorem ok_readE {C fI : Addr} {fdI : FuncData} (T : NoV K mg C fI fdI) {f fC fF : Addr} {fd fdC fdF : FuncData} (F : FnP K "read" sRead f fd) (FC : FnP K "_close_tuples" sClose fC fdC) (gC : mg "_close_tuples" = some (.ref fC)) (GC : FnOk P w K mg base CX0 5 fC fdC ["text", "at", "lists"] spCloseE)
    (FF : FnP K "_read_flat" sReadFlat fF fdF) (gF : mg "_read_flat" = some (.ref fF)) (GF : FnOk P w K mg base (L2.CX P w) 5 fF fdF ["text", "at"] (spReadFlatE C)) (ml : mg "len" = none) : FnOk P w K mg base (L2.CX P w) 6 f fd ["text"] (spReadE C) := by
  have bC : Binds K fdC ["text", "at", "lists"] [] := FC.bindsN fun _ _ _ _ _ _ us hl => match us, hl with | [_, _, _], _ => rfl
  have bF : Binds K fdF ["text", "at"] [] := FF.bindsN fun _ _ _ _ _ _ us hl => match us, hl with | [_, _], _ => rfl
  refine F.ok scRead (fun vs H Q E h => ?_) (fun cdv A outer s H vs Q E hr h => ?_)
  · obtain ⟨t, rfl, _⟩ := h
    rfl
  · obtain ⟨t, rfl, hz, q, qe⟩ := h
    have hs := szl
    have hl := len_tl t
    have hr2 : Room 2 _ := hr.mono (by decide)
    have GI : FnOk P w K mg base CX0 1 fI fdI ["self", "at"] (spInit K C) := ok_init T
    have t40 : tl (Str.ofString "(") = [40] := by decide +kernel
    have t41 : tl (Str.ofString ")") = [41] := by decide +kernel
    have t32 : tl (Str.ofString " ") = [32] := by decide +kernel
    obtain ⟨o, hG, fin⟩ : ∃ o, GoR (tl t) 0 [[]] o ∧ Fin C Q E H o := by
      rcases go_total (tl t) with ⟨d, g⟩ | ⟨e, g⟩
      · exact ⟨.inl d, g, q d g⟩
      · exact ⟨.inr e, g, qe e g⟩
    refine ⟨_, pss_cons (ps_set (i := 1) scRead.nd rfl (.inl rfl) (pe_lst (pa_cons (pe_lst pa_nil) pa_nil)))
      (pss_cons (ps_set (i := 2) scRead.nd rfl (.inl rfl) (pe_int))
      (pss_cons (ps_while PassesOwn.leaving (pt_val pe_bl) (C8.pss_cut (ps_if (pt_cmpR op_eq (pe_slice sl_str (pv 0) (po_some (pv 2)) (po_some (pe_op op_add (pv 2) (pe_int)))) (pe_str) (nomark _)) (pss_cons (ps_expr (pe_bm PySem.F.plainAttrs_list PySem.F.slot_list_append PySem.F.type_list_append mt_append (pv 1) (pa_cons (pe_lst pa_nil) pa_nil)))
      (pss_cons (ps_aug (i := 2) scRead.nd rfl (.inl rfl) (pe_int) ip_add)
      (pss_one (ps_if (pt_cmpR op_ne (pe_slice sl_str (pv 0) (po_some (pv 2)) (po_some (pe_op op_add (pv 2) (pe_int)))) (pe_str) (nomark _)) (pss_one ps_continue) pss_nil)))) (pss_cons (ps_asg (pe_callS GF hr (by rfl) gF FF.kp bF (fun σ => passAt (takes_of rfl rfl rfl rfl) σ) (pa_cons (pv 0) (pa_cons (pv 2) pa_nil))) (pg_tup rfl (pgs_cons (pg_name (i := 3) scRead.nd rfl (.inl rfl)) (pgs_cons (pg_name (i := 2) scRead.nd rfl (.inl rfl)) pgs_nil))))
      (pss_one (ps_expr (pe_bm PySem.F.plainAttrs_list PySem.F.slot_list_append PySem.F.type_list_append mt_append (pe_ix ix_list (pv 1) (pe_un un_neg pe_int) (fun _ _ => rfl)) (pa_cons (pv 3) pa_nil))))))
      (pss_cons (ps_set (i := 2) scRead.nd rfl (.inl rfl) (pe_call GC hr (by rfl) gC FC.kp bC .nil pass0 (pa_cons (pv 0) (pa_cons (pv 2) (pa_cons (pv 1) pa_nil)))))
      (pss_cons (ps_if (pt_cmpR op_eq (pe_callB call_len_seq (by rfl) ml PySem.boot_len (pa_cons (pv 1) pa_nil)) (pe_int) (nomark _)) (pss_one ps_break) pss_nil)
      (pss_cons (ps_if (pt_cmpR op_ne (pe_slice sl_str (pv 0) (po_some (pv 2)) (po_some (pe_op op_add (pv 2) (pe_int)))) (pe_str) (nomark _)) (pss_one (ps_raise rfl (takes_of rfl rfl rfl rfl) (pmk_oex T.ox T.iC T.tI GI hr2 (bindI T) .nil pass0 (by rfl) T.g (pa_cons (pv 2) pa_nil)))) pss_nil)
      (pss_one (ps_aug (i := 2) scRead.nd rfl (.inl rfl) (pe_int) ip_add)))))))
      (pss_cons (ps_if (pt_cmpR op_lt (pv 2) (pe_callB call_len_str (by rfl) ml PySem.boot_len (pa_cons (pv 0) pa_nil)) (nomark _)) (pss_one (ps_raise rfl (takes_of rfl rfl rfl rfl) (pmk_oex T.ox T.iC T.tI GI hr2 (bindI T) .nil pass0 (by rfl) T.g (pa_cons (pv 2) pa_nil)))) pss_nil)
      (pss_one (ps_ret (pe_ix ix_list (pe_ix ix_list (pv 1) (pe_int) (fun _ _ => rfl)) (pe_int) (fun _ _ => rfl))))))), ?_⟩
    refine ⟨Nat.zero_le _, fun a na => ⟨by show 1 ≤ sizeLine; omega, fun L nL => ?_⟩⟩
    have sa := same_upd (o := HO.lst []) na
    have sL := same_upd (o := HO.lst [V.ref a]) nL
    have naL : L ≠ a := fun e => by rw [e, upd_same] at nL; cases nL
    have hL0 : LS H (upd (upd H a (.lst [])) L (.lst [.ref a])) L [a] [[]] :=
      ⟨upd_same, .cons (sL _ _ upd_same) .nil (by simp) .nil, by simpa using naL, sa.free nL, fun c hc => by rw [List.mem_singleton.mp hc]; exact na, sa.trans sL⟩
    refine ⟨fun m σ H' => ∃ (k : Nat) (as : List Addr) (st : List (List PyData)) (y3 : Option V), σ = [some (.str t), some (.ref L), some (.int (k : Int)), y3] ∧ LS H H' L as st ∧ Few k st ∧ k ≤ t.length ∧ GoR (tl t) k st o ∧ m = t.length - k,
      ⟨t.length - 0, 0, [a], [[]], none, rfl, hL0, ⟨by simp, by simp, by simp⟩, Nat.zero_le _, hG, rfl⟩, ?_⟩
    rintro m σ H' ⟨k, as, st, y3, rfl, hL, ⟨f1, f2, f3⟩, hk, hg, rfl⟩
    refine ⟨_, rfl, iteT ⟨fun σ' H2 => ∃ m', m' < t.length - k ∧ ∃ (k : Nat) (as : List Addr) (st : List (List PyData)) (y3 : Option V), σ' = [some (.str t), some (.ref L), some (.int (k : Int)), y3] ∧ LS H H2 L as st ∧ Few k st ∧ k ≤ t.length ∧ GoR (tl t) k st o ∧ m' = t.length - k, fun _ _ h => h, ?_⟩⟩
    refine ⟨fun σ' H2 => ∃ (k2 : Nat) (as : List Addr) (st : List (List PyData)) (y3 : Option V), σ' = [some (.str t), some (.ref L), some (.int (k2 : Int)), y3] ∧ LS H H2 L as st ∧ Few k2 st ∧ k2 ≤ t.length ∧ k < k2 ∧ ClR (tl t) k2 st o, ?_, ?_⟩
    · refine ⟨_, rfl, _, rfl, (k : Int), rfl, _, rfl, (k : Int), 1, rfl, rfl, (k : Int) + 1, rfl, t, rfl, by omega, rfl, _, rfl, ?_⟩
      show if decide (V.str (sg t k) = V.str (Str.ofString "(")) = true then _ else _
      rw [show decide (V.str (sg t k) = V.str (Str.ofString "(")) = decide ((tl t)[k]? = some 40) from decide_eq_decide.mpr (sg_eq t40)]
      rcases hg.cases with ⟨h40, h41, hg2⟩ | ⟨h40, h41, hc2⟩ | ⟨h40, n, top, st2, v, rfl, hf, hc2⟩ | ⟨h40, n, hfe, rfl⟩
      · have hkl : k < (tl t).length := (List.getElem?_eq_some_iff.mp h40).1
        rw [decide_eq_true h40]
        refine iteT ⟨_, rfl, .inl ⟨rfl, _, SqL.of hL.at_⟩, Nat.zero_le _, fun p np => ?_⟩
        have hLp := (hL.laid (o := HO.lst []) np).at_
        refine ⟨L, _, _, rfl, rfl, hLp, by rw [List.length_map, List.length_reverse, hL.sk.len]; omega, ?_⟩
        have hLo := hL.open np
        refine ⟨_, rfl, (k : Int), 1, rfl, rfl, ?_⟩
        refine ⟨_, rfl, _, rfl, ((k + 1 : Nat) : Int), rfl, _, rfl, ((k + 1 : Nat) : Int), 1, rfl, rfl, ((k + 1 : Nat) : Int) + 1, rfl, t, rfl, by omega, rfl, _, rfl, ?_⟩
        show if (!decide (V.str (sg t (k + 1)) = V.str (Str.ofString ")"))) = true then _ else _
        rw [decide_eq_false (fun h => h41 ((sg_eq t41).mp h))]
        refine iteT ?_
        refine ⟨t.length - (k + 1), by omega, k + 1, p :: as, [] :: st, _, rfl, hLo, ⟨by simp, ?_, ?_⟩, by omega, hg2, rfl⟩
        · show st.length + 1 ≤ k + 1 + 1
          omega
        · intro ds hds
          rcases List.mem_cons.mp hds with e | e
          · rw [e]; exact Nat.zero_le _
          · have := f3 ds e; omega
      · have hkl : k < (tl t).length := (List.getElem?_eq_some_iff.mp h40).1
        rw [decide_eq_true h40]
        refine iteT ⟨_, rfl, .inl ⟨rfl, _, SqL.of hL.at_⟩, Nat.zero_le _, fun p np => ?_⟩
        have hLp := (hL.laid (o := HO.lst []) np).at_
        refine ⟨L, _, _, rfl, rfl, hLp, by rw [List.length_map, List.length_reverse, hL.sk.len]; omega, ?_⟩
        have hLo := hL.open np
        refine ⟨_, rfl, (k : Int), 1, rfl, rfl, ?_⟩
        refine ⟨_, rfl, _, rfl, ((k + 1 : Nat) : Int), rfl, _, rfl, ((k + 1 : Nat) : Int), 1, rfl, rfl, ((k + 1 : Nat) : Int) + 1, rfl, t, rfl, by omega, rfl, _, rfl, iteNS ((sg_eq t41).mpr h41) ?_⟩
        refine ⟨k + 1, p :: as, [] :: st, _, rfl, hLo, ⟨by simp, ?_, ?_⟩, by omega, by omega, hc2⟩
        · show st.length + 1 ≤ k + 1 + 1
          omega
        · intro ds hds
          rcases List.mem_cons.mp hds with e | e
          · rw [e]; exact Nat.zero_le _
          · have := f3 ds e; omega
      · obtain ⟨hne, hn1, hn2⟩ := flat_ne hf
        rw [List.length_drop] at hn2
        rw [decide_eq_false h40]
        refine iteF ⟨_, rfl, _, rfl, t, k, rfl, hz, hk, fun v3 n3 hf3 H3 p x sm np hp hv => ?_, fun n3 hf3 => absurd hf3 (flat_not hf)⟩
        obtain ⟨rfl, rfl⟩ := flat_one hf hf3
        have hL3 := hL.mono sm
        obtain ⟨a3, as3, xs3, rfl, ha3, hx3⟩ := hL3.top
        have hat := hL3.at_
        rw [rev_ref] at hat
        have hf3 := f3 top (List.mem_cons_self ..)
        refine ⟨p, _, rfl, .inl (.inl hp), rfl, _, _, rfl, _, _, rfl, rfl, ?_⟩
        refine ⟨_, rfl, 1, rfl, L, _, -1, .ref a3, rfl, rfl, SqL.of hat, atI_last _ _, .inl ⟨rfl, _, SqL.of ha3⟩, _, rfl, a3, _, _, rfl, rfl, ha3, by rw [hx3.len]; omega, ?_⟩
        refine ⟨k + n, a3 :: as3, (top ++ [v]) :: st2, _, rfl, hL3.push ha3 hx3 hv, ⟨by simp, ?_, ?_⟩, by omega, by omega, hc2⟩
        · have e3 : (top :: st2).length = st2.length + 1 := rfl
          show st2.length + 1 ≤ k + n + 1
          omega
        · intro ds hds
          rcases List.mem_cons.mp hds with e | e
          · rw [e, List.length_append]
            show top.length + 1 ≤ k + n
            omega
          · have := f3 ds (List.mem_cons_of_mem _ e); omega
      · rw [decide_eq_false h40]
        refine iteF ⟨_, rfl, _, rfl, t, k, rfl, hz, hk, fun v3 n3 hf3 => absurd hfe (flat_not hf3), fun n3 hf3 => ?_⟩
        have e3 := flatE_one hfe hf3
        rw [← e3]
        exact Out.later fin hL.same
    · rintro σ' H2 ⟨k2, as2, st2, y4, rfl, hL2, ⟨g1, g2, g3⟩, hk2, hkk, hc⟩
      refine ⟨_, rfl, _, rfl, _, rfl, t, k2, L, H, as2, st2, o, rfl, hz, hL2, ⟨g1, g2, g3⟩, hk2, hc, fun H3 k3 as3 st3 hL3 hF3 hk3 hkk3 hc3 hor => ?_⟩
      have hlen := hL3.sk.len
      obtain ⟨p1, p2, p3⟩ := hF3
      refine ⟨_, rfl, L, _, rfl, .inl (SqL.of hL3.at_), rfl, _, rfl, ite2 (fun e => ?_) (fun e => ?_)⟩
      · have h1 : st3.length = 1 := by
          have e1 := V.int.inj (of_decide_eq_true e)
          rw [List.length_map, List.length_reverse, hlen] at e1
          omega
        rcases hc3.one h1 with ⟨d, rfl, rfl, hd⟩ | ⟨x9, rfl, rfl, hd⟩
        · skip
          refine ⟨_, rfl, _, rfl, t, rfl, by omega, _, _, rfl, rfl, _, rfl, ?_⟩
          rw [decide_eq_false (show ¬ ((k3 : Int) < (t.length : Int)) by omega)]
          refine iteF ?_
          obtain ⟨a3, as4, xs3, rfl, ha3, hx3⟩ := hL3.top
          have e4 : as4 = [] := List.length_eq_zero_iff.mp (by simpa using hlen)
          subst e4
          cases hx3 with
          | cons hv hr =>
          cases hr
          exact ⟨_, rfl, L, _, 0, .ref a3, rfl, rfl, SqL.of hL3.at_, atI_nat (j := 0) rfl, a3, _, 0, _, rfl, rfl, SqL.of ha3, atI_nat (j := 0) rfl, fin H3 _ hL3.same hv⟩
        · refine ⟨_, rfl, _, rfl, t, rfl, by omega, _, _, rfl, rfl, _, rfl, ?_⟩
          rw [decide_eq_true (show ((k3 : Int) < (t.length : Int)) by omega)]
          exact iteT ⟨_, rfl, out_of (Out.later fin hL3.same)⟩
      · have h1 : st3.length ≠ 1 := fun h => by
          refine e (decide_eq_true (congrArg V.int ?_))
          rw [List.length_map, List.length_reverse, hlen, h]
          rfl
        have h41 : (tl t)[k3]? ≠ some 41 := by
          rcases hor with h | h
          · exact absurd h h1
          · exact h
        rcases hc3.many h1 h41 with ⟨h32, hg2⟩ | ⟨h32, rfl⟩
        · skip
          have hkl : k3 < (tl t).length := (List.getElem?_eq_some_iff.mp h32).1
          refine ⟨_, rfl, _, rfl, (k3 : Int), rfl, _, rfl, (k3 : Int), 1, rfl, rfl, (k3 : Int) + 1, rfl, t, rfl, by omega, rfl, _, rfl, iteNS ((sg_eq t32).mpr h32) ?_⟩
          refine ⟨_, rfl, (k3 : Int), 1, rfl, rfl, t.length - (k3 + 1), by omega, k3 + 1, as3, _, _, rfl, hL3, ⟨p1, by omega, fun ds hds => by have := p3 ds hds; omega⟩, by omega, hg2, rfl⟩
        · refine ⟨_, rfl, _, rfl, (k3 : Int), rfl, _, rfl, (k3 : Int), 1, rfl, rfl, (k3 : Int) + 1, rfl, t, rfl, by omega, rfl, _, rfl, ?_⟩
          show if (!decide (V.str (sg t k3) = V.str (Str.ofString " "))) = true then _ else _
          rw [decide_eq_false (fun h => h32 ((sg_eq t32).mp h))]
          exact iteT ⟨_, rfl, out_of (Out.later fin hL3.same)⟩
end
end Vl

set_option autoImplicit false
set_option maxHeartbeats 2000000
namespace Vl
open PySem PySem.Spec PyProof.Rows L2 TL CwR PySem.StrLaws
/-! ### a text walked sign by sign -/
inductive WS where
  | value | first | inn | quote | minus | figures | behind
  deriving DecidableEq
def begW (c : Nat) (first : Bool) : Option WS :=
  if c = 43 ∨ c = 33 ∨ c = 48 then some .behind
  else if c = 41 then (if first = true then some .behind else none)
  else if 49 ≤ c ∧ c ≤ 57 then some .figures
  else if c = 45 then some .minus else if c = 34 then some .inn else if c = 40 then some .first else none
def outW (c dp : Nat) : Option WS := if 0 < dp ∧ c = 32 then some .value else if 0 < dp ∧ c = 41 then some .behind else none
def goW : WS → Nat → Nat → Nat → Option WS
  | .value, c, _, _ => begW c false
  | .first, c, _, _ => begW c true
  | .inn, c, _, _ => if 32 ≤ c ∧ c ≤ 126 ∧ c ≠ 37 then (if c = 34 then some .quote else some .inn) else none
  | .quote, c, dp, _ => if c = 34 then some .inn else outW c dp
  | .minus, c, dp, _ => if 49 ≤ c ∧ c ≤ 57 then some .figures else outW c dp
  | .figures, c, dp, mn => if (48 ≤ c ∧ c ≤ 57) ∧ mn < 40 then some .figures else outW c dp
  | .behind, c, dp, _ => outW c dp
def stepD (s : WS) (c dp : Nat) : Nat := if s = .inn then dp else if c = 40 then dp + 1 else if c = 41 then dp - 1 else dp
def WS.ends : WS → Bool
  | .behind | .minus | .figures | .quote => true
  | _ => false
/-- where the walk stops: none where a value's writing is done -/
def wkW : List Nat → Nat → WS → Nat → Nat → Option Nat
  | [], k, s, dp, _ => if dp = 0 ∧ s.ends = true then none else some k
  | c :: r, k, s, dp, mn => match goW s c dp mn with
    | none => some k
    | some t => wkW r (k + 1) t (stepD s c dp) (if t = .figures then mn + 1 else 0)
theorem wk_go {c : Nat} {r : List Nat} {k : Nat} {s t : WS} {dp mn : Nat} (h : goW s c dp mn = some t) : wkW (c :: r) k s dp mn = wkW r (k + 1) t (stepD s c dp) (if t = .figures then mn + 1 else 0) := by
  rw [wkW, h]
theorem wk_no {c : Nat} {r : List Nat} {k : Nat} {s : WS} {dp mn : Nat} (h : goW s c dp mn = none) : wkW (c :: r) k s dp mn = some k := by
  rw [wkW, h]
/-- a value may end here -/
def Rdy : WS → Nat → List Nat → Prop
  | .behind, _, _ => True
  | .quote, _, l => l.head? ≠ some 34
  | .minus, _, l => ∀ c, l.head? = some c → ¬(49 ≤ c ∧ c ≤ 57)
  | .figures, mn, l => 40 ≤ mn ∨ ∀ c, l.head? = some c → ¬(48 ≤ c ∧ c ≤ 57)
  | _, _, _ => False
theorem rdy_ends {s : WS} {mn : Nat} {l : List Nat} (h : Rdy s mn l) : s.ends = true := by
  cases s <;> first | rfl | exact h.elim
theorem rdy_inn {s : WS} {mn : Nat} {l : List Nat} (h : Rdy s mn l) : s ≠ .inn := fun e => by
  rw [e] at h
  exact h
theorem rdy_go {s : WS} {mn c dp : Nat} {r : List Nat} (h : Rdy s mn (c :: r)) : goW s c dp mn = outW c dp := by
  cases s with
  | value => exact h.elim
  | first => exact h.elim
  | inn => exact h.elim
  | quote => exact if_neg (fun e => h (by rw [e]; rfl))
  | minus => exact if_neg (h c rfl)
  | figures => exact if_neg (fun e => h.elim (fun z => by omega) (fun z => z c rfl e.1))
  | behind => rfl
theorem figs_walk : ∀ (m : Nat) (r : List Nat) (k dp mn : Nat), mn + m = 40 → wkW r k .figures dp mn = wkW (r.drop (cnt m r)) (k + cnt m r) .figures dp (mn + cnt m r) ∧ Rdy .figures (mn + cnt m r) (r.drop (cnt m r))
  | 0, r, k, dp, mn, h => ⟨rfl, .inl (by show 40 ≤ mn + 0; omega)⟩
  | m + 1, [], k, dp, mn, h => ⟨rfl, .inr fun c z => by cases z⟩
  | m + 1, c :: r, k, dp, mn, h => by
    by_cases hc : 48 ≤ c ∧ c ≤ 57
    · have e : cnt (m + 1) (c :: r) = cnt m r + 1 := by
        show (if 48 ≤ c ∧ c ≤ 57 then 1 + cnt m r else 0) = _
        rw [if_pos hc, Nat.add_comm]
      obtain ⟨h1, h2⟩ := figs_walk m r (k + 1) dp (mn + 1) (by omega)
      have g : goW .figures c dp mn = some .figures := if_pos ⟨hc, by omega⟩
      have sd : stepD .figures c dp = dp := by
        unfold stepD
        rw [if_neg (by decide), if_neg (by omega), if_neg (by omega)]
      rw [e, wk_go g, sd, if_pos rfl, h1]
      rw [show mn + (cnt m r + 1) = mn + 1 + cnt m r by omega, show k + (cnt m r + 1) = k + 1 + cnt m r by omega]
      exact ⟨rfl, h2⟩
    · have e : cnt (m + 1) (c :: r) = 0 := if_neg hc
      rw [e]
      exact ⟨rfl, .inr fun d z => by cases z; exact hc⟩
theorem plain_go {c : Nat} (h : plain c) (dp mn : Nat) : goW .inn c dp mn = some .inn := by
  obtain ⟨h1, h2, h3, h4⟩ := h
  show (if 32 ≤ c ∧ c ≤ 126 ∧ c ≠ 37 then (if c = 34 then some WS.quote else some .inn) else none) = _
  rw [if_pos ⟨h1, h2, h4⟩, if_neg h3]
theorem bad_go {c : Nat} (h : ¬ plain c) (h3 : c ≠ 34) (dp mn : Nat) : goW .inn c dp mn = none := by
  show (if 32 ≤ c ∧ c ≤ 126 ∧ c ≠ 37 then (if c = 34 then some WS.quote else some .inn) else none) = _
  rw [if_neg fun z => h ⟨z.1, z.2.1, h3, z.2.2⟩]
theorem quote_go (dp mn : Nat) : goW .inn 34 dp mn = some .quote := rfl
theorem inn_d (c dp : Nat) : stepD .inn c dp = dp := if_pos rfl
/-- what txtM tells, walked -/
theorem txt_walk : ∀ (r : List Nat) (k dp mn : Nat), match txtM r with
    | .ok _ n => wkW r k .inn dp mn = wkW (r.drop n) (k + n) .quote dp 0 ∧ (r.drop n).head? ≠ some 34
    | .err n => wkW r k .inn dp mn = some (k + n)
  | [], k, dp, mn => by
    show wkW [] k .inn dp mn = some (k + 0)
    rw [wkW, if_neg (fun z => by cases z.2)]
    rfl
  | [c], k, dp, mn => by
    by_cases h : c = 34
    · have e : txtM [c] = .ok [] 1 := if_pos h
      rw [e]
      refine ⟨?_, by show (none : Option Nat) ≠ _; simp⟩
      rw [h, wk_go (quote_go dp mn), inn_d]
      rfl
    · by_cases hp : plain c
      · have e : txtM [c] = .err 1 := by
          show (if c = 34 then TR.ok [] 1 else if plain c then .err 1 else .err 0) = _
          rw [if_neg h, if_pos hp]
        rw [e]
        show wkW [c] k .inn dp mn = some (k + 1)
        rw [wk_go (plain_go hp dp mn), inn_d, wkW, if_neg (fun z => by cases z.2)]
      · have e : txtM [c] = .err 0 := by
          show (if c = 34 then TR.ok [] 1 else if plain c then .err 1 else .err 0) = _
          rw [if_neg h, if_neg hp]
        rw [e]
        show wkW [c] k .inn dp mn = some (k + 0)
        rw [wk_no (bad_go hp h dp mn)]
        rfl
  | c :: e :: r, k, dp, mn => by
    by_cases h : c = 34
    · by_cases he : e = 34
      · have e1 : txtM (c :: e :: r) = (txtM r).up [34] 2 := by
          rw [txtM, if_pos h, if_pos he]
        have ih := txt_walk r (k + 2) dp 0
        have st : wkW (c :: e :: r) k .inn dp mn = wkW r (k + 2) .inn dp 0 := by
          rw [h, he, wk_go (quote_go dp mn), inn_d]
          have g : goW .quote 34 dp 0 = some .inn := rfl
          rw [if_neg (by decide), wk_go g]
          rfl
        rw [e1]
        cases q : txtM r with
        | ok v n =>
          rw [q] at ih
          show wkW (c :: e :: r) k .inn dp mn = wkW ((c :: e :: r).drop (n + 2)) (k + (n + 2)) .quote dp 0 ∧ ((c :: e :: r).drop (n + 2)).head? ≠ some 34
          rw [st, ih.1, show k + (n + 2) = k + 2 + n by omega]
          exact ⟨rfl, ih.2⟩
        | err n =>
          rw [q] at ih
          show wkW (c :: e :: r) k .inn dp mn = some (k + (n + 2))
          rw [st, ih, show k + (n + 2) = k + 2 + n by omega]
      · have e1 : txtM (c :: e :: r) = .ok [] 1 := by
          rw [txtM, if_pos h, if_neg he]
        rw [e1]
        refine ⟨?_, by show some e ≠ _; simpa using he⟩
        rw [h, wk_go (quote_go dp mn), inn_d]
        rfl
    · by_cases hp : plain c
      · have e1 : txtM (c :: e :: r) = (txtM (e :: r)).up [c] 1 := by
          rw [txtM, if_neg h, if_pos hp]
        have ih := txt_walk (e :: r) (k + 1) dp 0
        have st : wkW (c :: e :: r) k .inn dp mn = wkW (e :: r) (k + 1) .inn dp 0 := by
          rw [wk_go (plain_go hp dp mn), inn_d]
          rfl
        rw [e1]
        cases q : txtM (e :: r) with
        | ok v n =>
          rw [q] at ih
          show wkW (c :: e :: r) k .inn dp mn = wkW ((c :: e :: r).drop (n + 1)) (k + (n + 1)) .quote dp 0 ∧ ((c :: e :: r).drop (n + 1)).head? ≠ some 34
          rw [st, ih.1, show k + (n + 1) = k + 1 + n by omega]
          exact ⟨rfl, ih.2⟩
        | err n =>
          rw [q] at ih
          show wkW (c :: e :: r) k .inn dp mn = some (k + (n + 1))
          rw [st, ih, show k + (n + 1) = k + 1 + n by omega]
      · have e1 : txtM (c :: e :: r) = .err 0 := by
          rw [txtM, if_neg h, if_neg hp]
        rw [e1]
        show wkW (c :: e :: r) k .inn dp mn = some (k + 0)
        rw [wk_no (bad_go hp h dp mn)]
        rfl
/-- states in which a value begins -/
def Beg (s : WS) (l : List Nat) : Prop := s = .value ∨ (s = .first ∧ l.head? ≠ some 41)
theorem beg_go {s : WS} {c : Nat} {r : List Nat} (b : Beg s (c :: r)) (dp mn : Nat) : goW s c dp mn = begW c false := by
  rcases b with e | ⟨e, h⟩
  · rw [e]
    rfl
  · rw [e]
    show begW c true = begW c false
    have hc : c ≠ 41 := fun z => h (by rw [z]; rfl)
    unfold begW
    rw [if_neg hc, if_neg hc]
theorem beg_d {s : WS} {l : List Nat} (b : Beg s l) {c dp : Nat} (h4 : c ≠ 40) (h5 : c ≠ 41) : stepD s c dp = dp := by
  unfold stepD
  rw [if_neg (by rcases b with e | ⟨e, _⟩ <;> rw [e] <;> decide), if_neg h4, if_neg h5]
theorem begW_of {c : Nat} (h1 : c ≠ 34) (h2 : c ≠ 45) (h3 : c ≠ 43) (h4 : c ≠ 33) (h5 : c ≠ 48) (h6 : ¬(49 ≤ c ∧ c ≤ 57)) (h7 : c ≠ 40) (h8 : c ≠ 41) : begW c false = none := by
  unfold begW
  rw [if_neg (by rintro (h | h | h) <;> contradiction), if_neg h8, if_neg h6, if_neg h2, if_neg h1, if_neg h7]
theorem flat_walk {l : List Nat} {v : PyData} {n : Nat} (f : Flat l v n) {s : WS} (b : Beg s l) (k dp : Nat) : ∃ s' mn', wkW l k s dp 0 = wkW (l.drop n) (k + n) s' dp mn' ∧ Rdy s' mn' (l.drop n) := by
  cases f with
  | @txt r v n h =>
    have g : goW s 34 dp 0 = some .inn := by rw [beg_go b]; rfl
    have t := txt_walk r (k + 1) dp 0
    rw [h] at t
    refine ⟨.quote, 0, ?_, t.2⟩
    rw [wk_go g, beg_d b (by decide) (by decide), if_neg (by decide), t.1, show k + 1 + n = k + (n + 1) by omega]
    rfl
  | @minus r h =>
    have g : goW s 45 dp 0 = some .minus := by rw [beg_go b]; rfl
    refine ⟨.minus, 0, ?_, fun c hc z => ?_⟩
    · rw [wk_go g, beg_d b (by decide) (by decide), if_neg (by decide)]
      rfl
    · have e : figs r = 0 := by
        have h' : (if (45 : Nat) = 48 then 1 else if (45 : Nat) = 45 then (if figs r = 0 then 0 else 1 + figs r) else figs (45 :: r)) = 0 := h
        rw [if_neg (by decide), if_pos rfl] at h'
        by_cases q : figs r = 0
        · exact q
        · rw [if_neg q] at h'
          omega
      cases r with
      | nil => cases hc
      | cons x y =>
        cases hc
        have : figs (c :: y) = 1 + cnt 39 y := if_pos z
        omega
  | plus =>
    have g : goW s 43 dp 0 = some .behind := by rw [beg_go b]; rfl
    exact ⟨.behind, 0, by rw [wk_go g, beg_d b (by decide) (by decide), if_neg (by decide)]; rfl, trivial⟩
  | bang =>
    have g : goW s 33 dp 0 = some .behind := by rw [beg_go b]; rfl
    exact ⟨.behind, 0, by rw [wk_go g, beg_d b (by decide) (by decide), if_neg (by decide)]; rfl, trivial⟩
  | num h34 hn h0 h41 hi =>
    cases l with
    | nil =>
      have : numLen [] = 0 := rfl
      omega
    | cons c r =>
      have e : numLen (c :: r) = (if c = 48 then 1 else if c = 45 then (if figs r = 0 then 0 else 1 + figs r) else figs (c :: r)) := rfl
      have dig : ∀ (c' : Nat) (r' : List Nat) (k' : Nat) (s' : WS), goW s' c' dp 0 = some .figures → s' ≠ .inn → 49 ≤ c' ∧ c' ≤ 57 →
          ∃ mn', wkW (c' :: r') k' s' dp 0 = wkW (r'.drop (cnt 39 r')) (k' + 1 + cnt 39 r') .figures dp mn' ∧ Rdy .figures mn' (r'.drop (cnt 39 r')) := fun c' r' k' s' g hs hc => by
        obtain ⟨h1, h2⟩ := figs_walk 39 r' (k' + 1) dp 1 rfl
        refine ⟨1 + cnt 39 r', ?_, h2⟩
        have sd : stepD s' c' dp = dp := by
          unfold stepD
          rw [if_neg hs, if_neg (by omega), if_neg (by omega)]
        rw [wk_go g, sd, if_pos rfl, h1]
      by_cases a : c = 48
      · rw [if_pos a] at e
        have g : goW s c dp 0 = some .behind := by rw [beg_go b, a]; rfl
        refine ⟨.behind, 0, ?_, trivial⟩
        rw [wk_go g, beg_d b (by omega) (by omega), if_neg (by decide), ← hn, e]
        rfl
      · rw [if_neg a] at e
        by_cases a2 : c = 45
        · rw [if_pos a2] at e
          by_cases q : figs r = 0
          · rw [if_pos q] at e
            omega
          · rw [if_neg q] at e
            cases r with
            | nil => exact absurd rfl q
            | cons x y =>
              have hx : 49 ≤ x ∧ x ≤ 57 := by
                by_cases z : 49 ≤ x ∧ x ≤ 57
                · exact z
                · exact absurd (if_neg z) q
              have ef : figs (x :: y) = 1 + cnt 39 y := if_pos hx
              obtain ⟨mn', h1, h2⟩ := dig x y (k + 1) .minus (if_pos hx) (by decide) hx
              have g : goW s c dp 0 = some .minus := by rw [beg_go b, a2]; rfl
              refine ⟨.figures, mn', ?_, ?_⟩
              · rw [wk_go g, beg_d b (by omega) (by omega), if_neg (by decide), h1, ← hn, e, ef]
                rw [show k + (1 + (1 + cnt 39 y)) = k + 1 + 1 + cnt 39 y by omega, show 1 + (1 + cnt 39 y) = cnt 39 y + 1 + 1 by omega]
                rfl
              · rw [← hn, e, ef, show 1 + (1 + cnt 39 y) = cnt 39 y + 1 + 1 by omega]
                exact h2
        · rw [if_neg a2] at e
          have hx : 49 ≤ c ∧ c ≤ 57 := by
            by_cases z : 49 ≤ c ∧ c ≤ 57
            · exact z
            · have : figs (c :: r) = 0 := if_neg z
              omega
          have ef : figs (c :: r) = 1 + cnt 39 r := if_pos hx
          have g : goW s c dp 0 = some .figures := by
            rw [beg_go b]
            unfold begW
            rw [if_neg (by omega), if_neg (by omega), if_pos hx]
          obtain ⟨mn', h1, h2⟩ := dig c r k s g (by rcases b with z | ⟨z, _⟩ <;> rw [z] <;> decide) hx
          refine ⟨.figures, mn', ?_, ?_⟩
          · rw [h1, ← hn, e, ef, show k + (1 + cnt 39 r) = k + 1 + cnt 39 r by omega, show 1 + cnt 39 r = cnt 39 r + 1 by omega]
            rfl
          · rw [← hn, e, ef, show 1 + cnt 39 r = cnt 39 r + 1 by omega]
            exact h2
theorem flatE_walk {l : List Nat} {n : Nat} (f : FlatE l n) {s : WS} (b : Beg s l) (h4 : l.head? ≠ some 40) (k dp : Nat) : wkW l k s dp 0 = some (k + n) := by
  cases f with
  | @txt r n h =>
    have g : goW s 34 dp 0 = some .inn := by rw [beg_go b]; rfl
    have t := txt_walk r (k + 1) dp 0
    rw [h] at t
    rw [wk_go g, beg_d b (by decide) (by decide), if_neg (by decide), t, show k + 1 + n = k + (n + 1) by omega]
  | none h34 hn h45 h43 h33 =>
    cases l with
    | nil =>
      show wkW [] k s dp 0 = some k
      rw [wkW, if_neg (fun z => by rcases b with e | ⟨e, _⟩ <;> rw [e] at z <;> cases z.2)]
    | cons c r =>
      have c34 : c ≠ 34 := fun z => h34 (by rw [z]; rfl)
      have c45 : c ≠ 45 := fun z => h45 (by rw [z]; rfl)
      have c43 : c ≠ 43 := fun z => h43 (by rw [z]; rfl)
      have c33 : c ≠ 33 := fun z => h33 (by rw [z]; rfl)
      have c40 : c ≠ 40 := fun z => h4 (by rw [z]; rfl)
      have e : (if c = 48 then 1 else if c = 45 then (if figs r = 0 then 0 else 1 + figs r) else figs (c :: r)) = 0 := hn
      have c48 : c ≠ 48 := fun z => by
        rw [if_pos z] at e
        omega
      rw [if_neg c48, if_neg c45] at e
      have cd : ¬(49 ≤ c ∧ c ≤ 57) := fun z => by
        have : figs (c :: r) = 1 + cnt 39 r := if_pos z
        omega
      by_cases c41 : c = 41
      · rcases b with es | ⟨es, h⟩
        · rw [es]
          refine wk_no ?_
          rw [c41]
          rfl
        · exact absurd (by rw [c41]; rfl) h
      · exact wk_no (by rw [beg_go b]; exact begW_of c34 c45 c43 c33 c48 cd c40 c41)
theorem drop_cons {L : List Nat} {k c : Nat} (h : L[k]? = some c) : L.drop k = c :: L.drop (k + 1) := by
  obtain ⟨hk, e⟩ := List.getElem?_eq_some_iff.mp h
  rw [List.drop_eq_getElem_cons hk, e]
theorem drop_head {L : List Nat} {k : Nat} : (L.drop k).head? = L[k]? := by
  rw [List.head?_drop]
theorem open_go {s : WS} {l : List Nat} (b : Beg s l) (h : l.head? = some 40) (dp mn : Nat) : goW s 40 dp mn = some .first := by
  cases l with
  | nil => cases h
  | cons c r =>
    cases h
    rw [beg_go b]
    rfl
theorem open_d {s : WS} {l : List Nat} (b : Beg s l) (dp : Nat) : stepD s 40 dp = dp + 1 := by
  unfold stepD
  rw [if_neg (by rcases b with e | ⟨e, _⟩ <;> rw [e] <;> decide), if_pos rfl]
theorem rdy_d {s : WS} {mn : Nat} {l : List Nat} (h : Rdy s mn l) {c dp : Nat} : stepD s c dp = if c = 40 then dp + 1 else if c = 41 then dp - 1 else dp := if_neg (rdy_inn h)
theorem outW_close (dp : Nat) : outW 41 (dp + 1) = some .behind := by
  unfold outW
  rw [if_neg (by omega), if_pos ⟨by omega, rfl⟩]
theorem outW_sep (dp : Nat) : outW 32 (dp + 1) = some .value := by
  unfold outW
  rw [if_pos ⟨by omega, rfl⟩]
theorem outW_0 (c : Nat) : outW c 0 = none := by
  unfold outW
  rw [if_neg (by omega), if_neg (by omega)]
theorem outW_no {c dp : Nat} (h1 : c ≠ 41) (h2 : c ≠ 32) : outW c dp = none := by
  unfold outW
  rw [if_neg (fun z => h2 z.2), if_neg (fun z => h1 z.2)]
theorem len_of {L : List Nat} {k c : Nat} (h : L[k]? = some c) : k < L.length := (List.getElem?_eq_some_iff.mp h).1
/-- behind "(" with something in it -/
theorem beg_first {L : List Nat} {k : Nat} (h : L[k]? ≠ some 41) : Beg .first (L.drop k) := .inr ⟨rfl, by rw [drop_head]; exact h⟩
theorem first_close (dp mn : Nat) : goW .first 41 dp mn = some .behind := rfl
/-- a value may end here, or "(" may be closed at once -/
def Rd (s : WS) (mn : Nat) (l : List Nat) (n : Nat) : Prop := Rdy s mn l ∨ (s = .first ∧ l.head? = some 41 ∧ 2 ≤ n)
theorem rd_rdy {s : WS} {mn : Nat} {l : List Nat} {n : Nat} (b : Rd s mn l n) (h : l.head? ≠ some 41 ∨ n < 2) : Rdy s mn l := by
  rcases b with b | ⟨_, b, hn⟩
  · exact b
  · rcases h with h | h
    · exact absurd b h
    · omega
theorem rd_close {s : WS} {mn : Nat} {r : List Nat} {n : Nat} (b : Rd s mn (41 :: r) n) (dp : Nat) : goW s 41 (dp + 1) mn = some .behind := by
  rcases b with b | ⟨e, _⟩
  · exact (rdy_go b).trans (outW_close dp)
  · rw [e]
    rfl
theorem rd_d {s : WS} {mn : Nat} {l : List Nat} {n : Nat} (b : Rd s mn l n) {c dp : Nat} : stepD s c dp = if c = 40 then dp + 1 else if c = 41 then dp - 1 else dp := by
  rcases b with b | ⟨e, _⟩
  · exact rdy_d b
  · exact if_neg (by rw [e]; decide)
section
variable {L : List Nat}
mutual
theorem goE_walk : ∀ {k : Nat} {st : List (List PyData)} {e : Nat}, GoE L k st e → k ≤ L.length → st ≠ [] → ∀ {s : WS}, Beg s (L.drop k) → wkW (L.drop k) k s (st.length - 1) 0 = some e
  | k, st, e, .more h1 h2 g, hk, hst, s, b => by
    have hk1 := len_of h1
    have w := goE_walk g (by omega) (by simp) (beg_first h2)
    have hl := List.length_pos_iff.mpr hst
    have el : ([] :: st).length - 1 = st.length - 1 + 1 := by rw [List.length_cons]; omega
    rw [el] at w
    rw [drop_cons h1, wk_go (open_go b (by rw [drop_cons h1]; rfl) _ _), open_d b, if_neg (by decide)]
    exact w
  | k, st, e, .empty h1 h2 g, hk, hst, s, b => by
    have hk1 := len_of h1
    have hl := List.length_pos_iff.mpr hst
    have w := clE_walk g (by omega) (s := .first) (mn := 0) (.inr ⟨rfl, by rw [drop_head]; exact h2, by rw [List.length_cons]; omega⟩)
    have el : ([] :: st).length - 1 = st.length - 1 + 1 := by rw [List.length_cons]; omega
    rw [el] at w
    rw [drop_cons h1, wk_go (open_go b (by rw [drop_cons h1]; rfl) _ _), open_d b, if_neg (by decide)]
    exact w
  | k, _, e, .flat (n := n) (top := top) (st := st) (v := v) h1 h2 g, hk, hst, s, b => by
    obtain ⟨_, f1, f2⟩ := flat_ne h2
    rw [List.length_drop] at f2
    obtain ⟨s', mn', w1, w2⟩ := flat_walk h2 b k (((top :: st).length) - 1)
    rw [List.drop_drop] at w1 w2
    rw [w1]
    exact clE_walk g (by omega) (.inl w2)
  | k, st, _, .bad (n := n) h1 h2, hk, hst, s, b => by
    refine flatE_walk h2 b ?_ _ _
    rw [drop_head]
    exact h1
theorem clE_walk : ∀ {k : Nat} {st : List (List PyData)} {e : Nat}, ClE L k st e → k ≤ L.length → ∀ {s : WS} {mn : Nat}, Rd s mn (L.drop k) st.length → wkW (L.drop k) k s (st.length - 1) mn = some e
  | k, _, e, .close (top := top) (nx := nx) (st := st) h1 g, hk, s, mn, b => by
    have hk1 := len_of h1
    have e1 := drop_cons h1
    show wkW (L.drop k) k s (st.length + 1) mn = _
    rw [e1] at b
    rw [e1, wk_go (rd_close b st.length), rd_d b, if_neg (by decide), if_pos rfl, if_neg (by decide)]
    exact clE_walk g (by omega) (s := .behind) (mn := 0) (.inl trivial)
  | k, _, e, .sep (top := top) (nx := nx) (st := st) h1 g, hk, s, mn, b => by
    have hk1 := len_of h1
    have e1 := drop_cons h1
    show wkW (L.drop k) k s (st.length + 1) mn = _
    rw [e1] at b
    have b' := rd_rdy b (.inl (by show some 32 ≠ some 41; decide))
    rw [e1, wk_go ((rdy_go b').trans (outW_sep st.length)), rdy_d b', if_neg (by decide), if_neg (by decide), if_neg (by decide)]
    exact goE_walk g (by omega) (by simp) (s := .value) (.inl rfl)
  | k, _, _, .rest (x := x) h1, hk, s, mn, b => by
    have e1 : L.drop k = L[k] :: L.drop (k + 1) := List.drop_eq_getElem_cons h1
    rw [e1] at b
    have b' := rd_rdy b (.inr (by show 1 < 2; decide))
    rw [e1]
    exact wk_no ((rdy_go b').trans (outW_0 _))
  | k, _, _, .bad (top := top) (nx := nx) (st := st) h1 h2, hk, s, mn, b => by
    have b' : Rdy s mn (L.drop k) := by
      rcases b with b | ⟨_, b, _⟩
      · exact b
      · rw [drop_head] at b
        exact absurd b h1
    cases q : L.drop k with
    | nil =>
      have hl : k = L.length := by
        have := congrArg List.length q
        rw [List.length_drop, List.length_nil] at this
        omega
      show wkW [] k s _ mn = _
      rw [wkW, if_neg (fun z => by have := z.1; simp at this)]
    | cons c r =>
      have hc : L[k]? = some c := by
        rw [← drop_head, q]
        rfl
      rw [q] at b'
      exact wk_no ((rdy_go b').trans (outW_no (fun z => h1 (by rw [hc, z])) (fun z => h2 (by rw [hc, z]))))
end
mutual
theorem go_walk : ∀ {k : Nat} {st : List (List PyData)} {d : PyData}, Go L k st d → k ≤ L.length → st ≠ [] → ∀ {s : WS}, Beg s (L.drop k) → wkW (L.drop k) k s (st.length - 1) 0 = none
  | k, st, d, .more h1 h2 g, hk, hst, s, b => by
    have hk1 := len_of h1
    have w := go_walk g (by omega) (by simp) (beg_first h2)
    have hl := List.length_pos_iff.mpr hst
    have el : ([] :: st).length - 1 = st.length - 1 + 1 := by rw [List.length_cons]; omega
    rw [el] at w
    rw [drop_cons h1, wk_go (open_go b (by rw [drop_cons h1]; rfl) _ _), open_d b, if_neg (by decide)]
    exact w
  | k, st, d, .empty h1 h2 g, hk, hst, s, b => by
    have hk1 := len_of h1
    have hl := List.length_pos_iff.mpr hst
    have w := cl_walk g (by omega) (s := .first) (mn := 0) (.inr ⟨rfl, by rw [drop_head]; exact h2, by rw [List.length_cons]; omega⟩)
    have el : ([] :: st).length - 1 = st.length - 1 + 1 := by rw [List.length_cons]; omega
    rw [el] at w
    rw [drop_cons h1, wk_go (open_go b (by rw [drop_cons h1]; rfl) _ _), open_d b, if_neg (by decide)]
    exact w
  | k, _, d, .flat (n := n) (top := top) (st := st) (v := v) h1 h2 g, hk, hst, s, b => by
    obtain ⟨_, f1, f2⟩ := flat_ne h2
    rw [List.length_drop] at f2
    obtain ⟨s', mn', w1, w2⟩ := flat_walk h2 b k (((top :: st).length) - 1)
    rw [List.drop_drop] at w1 w2
    rw [w1]
    exact cl_walk g (by omega) (.inl w2)
theorem cl_walk : ∀ {k : Nat} {st : List (List PyData)} {d : PyData}, Cl L k st d → k ≤ L.length → ∀ {s : WS} {mn : Nat}, Rd s mn (L.drop k) st.length → wkW (L.drop k) k s (st.length - 1) mn = none
  | k, _, d, .close (top := top) (nx := nx) (st := st) h1 g, hk, s, mn, b => by
    have hk1 := len_of h1
    have e1 := drop_cons h1
    show wkW (L.drop k) k s (st.length + 1) mn = _
    rw [e1] at b
    rw [e1, wk_go (rd_close b st.length), rd_d b, if_neg (by decide), if_pos rfl, if_neg (by decide)]
    exact cl_walk g (by omega) (s := .behind) (mn := 0) (.inl trivial)
  | k, _, d, .sep (top := top) (nx := nx) (st := st) h1 g, hk, s, mn, b => by
    have hk1 := len_of h1
    have e1 := drop_cons h1
    show wkW (L.drop k) k s (st.length + 1) mn = _
    rw [e1] at b
    have b' := rd_rdy b (.inl (by show some 32 ≠ some 41; decide))
    rw [e1, wk_go ((rdy_go b').trans (outW_sep st.length)), rdy_d b', if_neg (by decide), if_neg (by decide), if_neg (by decide)]
    exact go_walk g (by omega) (by simp) (s := .value) (.inl rfl)
  | k, _, d, .done h1, hk, s, mn, b => by
    have b' := rd_rdy b (.inr (by show 1 < 2; decide))
    rw [h1, List.drop_length, wkW, if_pos ⟨rfl, rdy_ends b'⟩]
end
/-- the walk of a whole text finds what reading tells of it -/
theorem walk_go {d : PyData} (h : Go L 0 [[]] d) : wkW L 0 .value 0 0 = none := by
  exact go_walk h (Nat.zero_le _) (by simp) (s := .value) (.inl rfl)
theorem walk_goE {e : Nat} (h : GoE L 0 [[]] e) : wkW L 0 .value 0 0 = some e := by
  exact goE_walk h (Nat.zero_le _) (by simp) (s := .value) (.inl rfl)
end
end Vl

set_option autoImplicit false
set_option maxHeartbeats 2000000
namespace En
open PySem PySem.Spec PyProof.Rows L2
/-! ### enumerate(text) -/
/-- the signs of a text, each in a new pair -/
def Itx (x : Str) : It := ⟨fun i _ => i < x.cps.size, fun i H v H' => ∃ T c, v = .ref T ∧ H T = none ∧ x.cps[i]? = some c ∧ H' = upd H T (.tup [.int (i : Nat), .str ⟨#[c]⟩]), fun i _ => i = x.cps.size⟩
theorem turn_enumS {P : Program} {w : World} {K : PySem.W.Frag} {elts : List Expr} {kk : Nat} {tpos : Pos} (e it : Addr) (x : Str) (t : Tok) :
    Turn P w K (.Tuple elts kk tpos) (Itx x) [e, it] e (fun i h => (∃ old, IsEnum h e it ((i : Nat) : Int) old) ∧ h.IsStrIter it (strIterType x) x t i ∧ e ≠ it) where
  mem := by simp
  obj := fun i h st b hb => by
    obtain ⟨⟨old, he⟩, ⟨o, ho, hc, hd⟩, _⟩ := st
    have e' : b = e ∨ b = it := by simpa using hb
    rcases e' with z | z
    · rw [z]; exact ⟨_, he, fun v q => nomatch q⟩
    · rw [z]; exact ⟨o, ho, fun v q => by rw [hd] at q; cases q⟩
  keep := fun i h h' st k => by
    obtain ⟨⟨old, he⟩, ⟨o, ho, r⟩, hne⟩ := st
    exact ⟨⟨old, k e (by simp) _ he⟩, ⟨o, k it (by simp) _ ho, r⟩, hne⟩
  item := by
    intro X hP hw hK hc i pins s σ H E I hf st hg
    subst hP hw hK
    obtain ⟨⟨old, he⟩, hit, hne⟩ := st
    have hel : e < s.heap.objs.size := Heap.lt_size he
    have hil : it < s.heap.objs.size := by obtain ⟨_, q, _⟩ := hit; exact Heap.lt_size q
    refine wpAny_pyNext_enum_itemD (Draws.text (A := X.A.in1) (I.ok.hd hc) it x t) he hit hg hne (by simpa using hne) fun u h' tk hu ho hit' hT hsz hk => ?_
    obtain ⟨c, u0, hcx, rfl⟩ := hu
    refine ⟨_, rfl, wpAny_letOwnedTupleGo_enum (s := { s with heap := h', toks := tk + 1 }) ho fun h'' he' sb => ?_⟩
    have hT2 : h''.get? s.heap.objs.size = some { cls := .type "tuple", data := .seq #[.int i tk, .str ⟨#[c]⟩ u0] } := (sb.2 _ (Nat.ne_of_gt hel)).trans hT
    have new : ObjOk X.prog X.w (upd H s.heap.objs.size (.tup [.int (i : Nat), .str ⟨#[c]⟩])) h'' s.heap.objs.size (.tup [.int (i : Nat), .str ⟨#[c]⟩]) :=
      ⟨by show 2 ≤ sizeLine; decide, [.int i tk, .str ⟨#[c]⟩ u0], .cons ⟨_, rfl⟩ (.cons ⟨_, rfl⟩ .nil), ⟨_, hT2, rfl, _, rfl⟩⟩
    have I1 : Inv X pins σ (upd H s.heap.objs.size (.tup [.int (i : Nat), .str ⟨#[c]⟩])) { s with heap := h'', toks := tk + 1 } :=
      I.turnedNew (ch := [e, it]) (fun b ob hb q => (sb.2 b (fun z => hb (by simp [z]))).trans (hk b ob (fun z => hb (by simp [z])) (fun z => hb (by simp [z])) q)) hf (Nat.le_refl _) new
    refine ⟨.ref s.heap.objs.size, _, I1, rfl, ⟨_, c, rfl, I.hok.fresh (Nat.le_refl _), hcx, rfl⟩, ⟨⟨.str ⟨#[c]⟩ u0, ?_⟩, ?_, hne⟩, fun b hb => ?_⟩
    · have e1 : ((i + 1 : Nat) : Int) = (i : Int) + 1 := by omega
      rw [e1]; exact he'
    · obtain ⟨o, ho, r⟩ := hit'
      exact ⟨o, (sb.2 it (Ne.symm hne)).trans ho, r⟩
    · have hb' : b < s.heap.objs.size := by
        have e' : b = e ∨ b = it := by simpa using hb
        rcases e' with z | z
        · rw [z]; exact hel
        · rw [z]; exact hil
      rw [upd_ne (Nat.ne_of_lt hb')]
      exact (hf b hb).1
  done := by
    intro X hP hw hK hc i pins s σ H E I hf st hg
    subst hP hw hK
    obtain ⟨⟨old, he⟩, hit, hne⟩ := st
    obtain ⟨f0, f1, f2, f3, f4, f5⟩ := hf it (by simp)
    have hg' : i = x.cps.size := hg
    subst hg'
    exact wpAny_pyNext_enum_endD (Draws.text (A := X.A.in1) (I.ok.hd hc) it x t) he hit fun h' eb => ⟨rfl, I.turned (t' := s.toks) (fun b o hb q => eb b o hb q) f0 f1 f3 f4 f5⟩
  self := fun A i s Q E st h => let ⟨⟨_, he⟩, _⟩ := st; wpAny_pyIter_enum he h
def iEnumS (ta : TA) : TI := fun σ H R => ta σ H fun vs H1 => ∃ x, vs = [.str x] ∧ R (Itx x) H1
theorem pi_enumS {X : Cx} {e : Expr} {ta : TA} {p pos tpos : Pos} {elts : List Expr} {kk : Nat} (hg : Gl X "enumerate") (hm : X.mg "enumerate" = none) (ha : PA X [e] ta) (hs : starEach [e] X.env = [(false, eval e X.env)] := by rfl) :
    PI X (.Tuple elts kk tpos) (.Call (.Name "enumerate" p) [e] [] pos) (iEnumS ta) := by
  refine ⟨fun pins s σ H R I h => ?_⟩
  refine Call_ (ld_blt I hg hm boot_enumerate (PyProof.Rows.callWith_type1 (thn (ha.run pos pins s σ H _ I h) fun us s1 ⟨vs, H1, I1, r1, q1⟩ => ?_) hs rfl))
  obtain ⟨x, ex, q⟩ := q1
  subst ex
  cases r1 with
  | cons r rr =>
    cases rr
    obtain ⟨t, rfl⟩ := r
    refine call_enumerate_str fun h' he hit hsz hk => wpAny_pyIter_enum he ?_
    have I2 : L2.Inv X pins σ H1 { s1 with heap := h' } := I1.kept (t' := s1.toks) hk
    refine ⟨s1.heap.objs.size + 1, [s1.heap.objs.size + 1, s1.heap.objs.size], _, _, H1, rfl, I2, turn_enumS (s1.heap.objs.size + 1) s1.heap.objs.size x t, ⟨⟨.none, he⟩, hit, Nat.succ_ne_self _⟩, fun b hb => ?_, q⟩
    have e' : b = s1.heap.objs.size + 1 ∨ b = s1.heap.objs.size := by simpa using hb
    have hle : s1.heap.objs.size ≤ b := by
      rcases e' with z | z
      · rw [z]; exact Nat.le_add_right _ _
      · rw [z]; exact Nat.le_refl _
    exact I1.fpOk hle (I1.hok.fresh hle)
/-- the loop over enumerate(text), its pair taken apart by g -/
theorem for_enumS {x : Str} {g : TG} {tb : TS} {D : Ends} {σ : L2.St} {H : Hp} (Pv : Nat → L2.St → Hp → Prop) (h0 : Pv 0 σ H)
    (hs : ∀ i c T σ H, x.cps[i]? = some c → Pv i σ H → H T = none → g (.ref T) σ (upd H T (.tup [.int (i : Nat), .str ⟨#[c]⟩])) fun σ2 H2 => tb { D with nx := Pv (i + 1), ct := Pv (i + 1), bk := D.nx } σ2 H2)
    (hd : ∀ σ H, Pv x.cps.size σ H → D.nx σ H) :
    ∃ W : Nat → Nat → L2.St → Hp → Prop, (∃ m, W 0 m σ H) ∧ ∀ i m σ H, W i m σ H →
      ((Itx x).stop i H ∧ D.nx σ H) ∨ ((Itx x).go i H ∧ ∃ N : L2.St → Hp → Prop, (∀ σ' H', N σ' H' → ∃ m', m' < m ∧ W (i + 1) m' σ' H') ∧ ∀ v H', (Itx x).yld i H v H' → g v σ H' fun σ2 H2 => tb { D with nx := N, ct := N, bk := D.nx } σ2 H2) := by
  refine ⟨fun i m σ H => m = x.cps.size - i ∧ i ≤ x.cps.size ∧ Pv i σ H, ⟨x.cps.size, by simp, Nat.zero_le _, h0⟩, ?_⟩
  rintro i m σ H ⟨rfl, hi, p⟩
  by_cases hlt : i < x.cps.size
  · refine .inr ⟨hlt, Pv (i + 1), fun σ' H' p' => ⟨x.cps.size - (i + 1), by omega, rfl, hlt, p'⟩, fun v H' y => ?_⟩
    obtain ⟨T, c, rfl, hT, hc, rfl⟩ := y
    exact hs i c T σ H hc p hT
  · have e : i = x.cps.size := by omega
    exact .inl ⟨e, hd _ _ (by rw [← e]; exact p)⟩
end En

set_option autoImplicit false
set_option maxHeartbeats 4000000
namespace Vl
open PySem PySem.Spec PyProof.Rows L2 TL En
abbrev sBegins : Stmt := top 24
abbrev sGoes : Stmt := top 25
abbrev sWalk : Stmt := top 26
/-! ### states by their words -/
def ws : WS → Str
  | .value => "value" | .first => "first" | .inn => "in" | .quote => "quote" | .minus => "minus" | .figures => "figures" | .behind => "behind"
def wo : Option WS → Str
  | some s => ws s
  | none => ""
theorem ws_inj {s t : WS} (h : ws s = ws t) : s = t := by
  cases s <;> cases t <;> first | rfl | exact absurd h (by decide +kernel)
theorem ws_ne (s : WS) : ws s ≠ "" := by cases s <;> decide +kernel
def chr (c : Nat) : Str := ⟨#[c]⟩
theorem chr_eq {c : Nat} {z : Str} {d : Nat} (hz : z = chr d) : decide (V.str (chr c) = V.str z) = decide (c = d) := by
  subst hz
  by_cases h : c = d
  · rw [h]; simp
  · rw [decide_eq_false h]
    refine decide_eq_false fun e => h ?_
    have e1 : chr c = chr d := V.str.inj e
    have e2 := congrArg (fun z : Str => z.cps.toList) e1
    simpa [chr] using e2
theorem ws_eq (s t : WS) {z : Str} (hz : z = ws t) : decide (V.str (ws s) = V.str z) = decide (s = t) := by
  subst hz
  by_cases h : s = t
  · rw [h]; simp
  · rw [decide_eq_false h]
    exact decide_eq_false fun e => h (ws_inj (V.str.inj e))
theorem wo_empty (o : Option WS) : decide (V.str (wo o) = V.str "") = o.isNone := by
  cases o with
  | none => rfl
  | some s => exact decide_eq_false fun e => ws_ne s (V.str.inj e)
theorem alpha_in : ∀ c, c ∈ tl ((Str.ofString " !\"#$&'()*+,-./0123456789:;<=>?@ABCDEFGHIJKLMNOPQRSTUVWXYZ[\\]^_") ++ (Str.ofString "`abcdefghijklmnopqrstuvwxyz{|}~")) → 32 ≤ c ∧ c ≤ 126 ∧ c ≠ 37 := by
  have h : ∀ c ∈ tl ((Str.ofString " !\"#$&'()*+,-./0123456789:;<=>?@ABCDEFGHIJKLMNOPQRSTUVWXYZ[\\]^_") ++ (Str.ofString "`abcdefghijklmnopqrstuvwxyz{|}~")), 32 ≤ c ∧ c ≤ 126 ∧ c ≠ 37 := by decide +kernel
  exact h
theorem alpha_all : ∀ c, c < 127 → 32 ≤ c ∧ c ≤ 126 ∧ c ≠ 37 → c ∈ tl ((Str.ofString " !\"#$&'()*+,-./0123456789:;<=>?@ABCDEFGHIJKLMNOPQRSTUVWXYZ[\\]^_") ++ (Str.ofString "`abcdefghijklmnopqrstuvwxyz{|}~")) := by
  decide +kernel
def spAlphaX : Sp := fun vs H Q _ => vs = [] ∧ ∀ al : Str, (∀ c, c ∈ tl al ↔ (32 ≤ c ∧ c ≤ 126 ∧ c ≠ 37)) → Q (.str al) H
theorem dictW (c : Nat) : (valV (mergeK [] [((.inr "-" : Key), V.str "minus"), (.inr "\"", .str "in"), (.inr "(", .str "first")]) (.inr (chr c))).getD (.str "") = .str (wo (if c = 45 then some .minus else if c = 34 then some .inn else if c = 40 then some .first else none)) := by
  have e : mergeK [] [((.inr "-" : Key), V.str "minus"), (.inr "\"", .str "in"), (.inr "(", .str "first")] = [((.inr "-" : Key), V.str "minus"), (.inr "\"", .str "in"), (.inr "(", .str "first")] := by decide +kernel
  rw [e]
  have hk : ∀ (d : Nat) (z : Str), z = chr d → decide ((Sum.inr z : Key) = .inr (chr c)) = decide (c = d) := fun d z hz => by
    rw [← chr_eq (c := c) (d := d) hz]
    by_cases h : z = chr c
    · rw [h]; simp
    · rw [decide_eq_false (fun q => h (Sum.inr.inj q)), decide_eq_false (fun q => h (V.str.inj q).symm)]
  have k1 := hk 45 "-" (by decide +kernel)
  have k2 := hk 34 "\"" (by decide +kernel)
  have k3 := hk 40 "(" (by decide +kernel)
  unfold valV
  rw [List.find?_cons, k1]
  by_cases h1 : c = 45
  · rw [decide_eq_true h1, if_pos h1]
    rfl
  · rw [decide_eq_false h1, if_neg h1]
    show (Option.map _ (List.find? _ _)).getD _ = _
    rw [List.find?_cons, k2]
    by_cases h2 : c = 34
    · rw [decide_eq_true h2, if_pos h2]
      rfl
    · rw [decide_eq_false h2, if_neg h2]
      show (Option.map _ (List.find? _ _)).getD _ = _
      rw [List.find?_cons, k3]
      by_cases h3 : c = 40
      · rw [decide_eq_true h3, if_pos h3]
        rfl
      · rw [decide_eq_false h3, if_neg h3]
        rfl
theorem goW_out {st : WS} {c dp mn : Nat} (h1 : st ≠ .value) (h2 : st ≠ .first) (h3 : st ≠ .inn) (h4 : ¬(st = .quote ∧ c = 34)) (h5 : ¬(st = .minus ∧ 49 ≤ c ∧ c ≤ 57)) (h6 : ¬(st = .figures ∧ (48 ≤ c ∧ c ≤ 57) ∧ mn < 40)) : goW st c dp mn = outW c dp := by
  cases st with
  | value => exact absurd rfl h1
  | first => exact absurd rfl h2
  | inn => exact absurd rfl h3
  | quote => exact if_neg fun z => h4 ⟨rfl, z⟩
  | minus => exact if_neg fun z => h5 ⟨rfl, z⟩
  | figures => exact if_neg fun z => h6 ⟨rfl, z⟩
  | behind => rfl
theorem inV_vf (st : WS) : inV (V.str (ws st)) [.str "value", .str "first"] = decide (st = .value ∨ st = .first) := by cases st <;> decide +kernel
theorem mem_dig {c : Nat} : (c ∈ (Str.ofString "0123456789").cps.toList) ↔ (48 ≤ c ∧ c ≤ 57) := by
  constructor
  · have h : ∀ c ∈ (Str.ofString "0123456789").cps.toList, 48 ≤ c ∧ c ≤ 57 := by decide +kernel
    exact h c
  · intro h
    have h' : ∀ c, c < 58 → 48 ≤ c → c ∈ (Str.ofString "0123456789").cps.toList := by decide +kernel
    exact h' c (by omega) h.1
theorem mem_dig1 {c : Nat} : (c ∈ (Str.ofString "123456789").cps.toList) ↔ (49 ≤ c ∧ c ≤ 57) := by
  constructor
  · have h : ∀ c ∈ (Str.ofString "123456789").cps.toList, 49 ≤ c ∧ c ≤ 57 := by decide +kernel
    exact h c
  · intro h
    have h' : ∀ c, c < 58 → 49 ≤ c → c ∈ (Str.ofString "123456789").cps.toList := by decide +kernel
    exact h' c (by omega) h.1
theorem mem_end {c : Nat} : (c ∈ (Str.ofString " )").cps.toList) ↔ (c = 32 ∨ c = 41) := by
  have e : (Str.ofString " )").cps.toList = [32, 41] := by decide +kernel
  rw [e]
  simp
theorem scBegins : FnScope ["sign", "is_first"] ["sign", "is_first"] (defScope sBegins) := ⟨rfl, rfl, rfl, by decide +kernel, rfl, by decide +kernel, by decide +kernel⟩
theorem scGoes : FnScope ["state", "sign", "depth", "many"] ["state", "sign", "depth", "many"] (defScope sGoes) := ⟨rfl, rfl, rfl, by decide +kernel, rfl, by decide +kernel, by decide +kernel⟩
theorem scWalk : FnScope ["row", "state", "depth", "many", "at", "sign", "behind"] ["row"] (defScope sWalk) := ⟨rfl, rfl, rfl, by decide +kernel, rfl, by decide +kernel, by decide +kernel⟩
def spBegins : Sp := fun vs H Q _ => ∃ (c : Nat) (b : Bool), vs = [.str (chr c), .bl b] ∧ ∀ H', Same H H' → Q (.str (wo (begW c b))) H'
def spGoes : Sp := fun vs H Q _ => ∃ (s : WS) (c dp mn : Nat), vs = [.str (ws s), .str (chr c), .int (dp : Int), .int (mn : Int)] ∧ ∀ H', Same H H' → Q (.str (wo (goW s c dp mn))) H'
def wv : Option Nat → Int
  | none => -1
  | some k => (k : Int)
def spWalk : Sp := fun vs H Q _ => ∃ z : Str, vs = [.str z] ∧ z.length ≤ 10000000 ∧ ∀ H', Same H H' → Q (.int (wv (wkW (tl z) 0 .value 0 0))) H'
section
variable {P : Program} {w : World} {K : PySem.W.Frag} {mg : Str → Option Value} {base : Heap}
theorem ok_alphaX {f : Addr} {fd : FuncData} {k : Nat} (F : FnP K "_law_alphabet" sAlpha f fd) : FnOk P w K mg base CX0 (k + 1) f fd [] spAlphaX := by
  refine F.ok scAlpha (fun vs H Q E h => ?_) (fun cdv A outer s H vs Q E hr h => ?_)
  · obtain ⟨rfl, _⟩ := h
    rfl
  · obtain ⟨rfl, q⟩ := h
    refine ⟨_, PSs.nox (pss_cons (ps_set (i := 0) scAlpha.nd rfl (.inl rfl) pe_str) (pss_one (ps_ret (pe_op op_add_str (pv 0) pe_str)))), ?_⟩
    refine ⟨_, rfl, _, _, rfl, rfl, by decide +kernel, q _ fun c => ?_⟩
    exact ⟨fun h => alpha_in c h, fun h => alpha_all c (by omega) h⟩
theorem ok_begins {f : Addr} {fd : FuncData} {k : Nat} (F : FnP K "_law_begins" sBegins f fd) : FnOk P w K mg base CX0 (k + 1) f fd ["sign", "is_first"] spBegins := by
  refine F.ok scBegins (fun vs H Q E h => ?_) (fun cdv A outer s H vs Q E hr h => ?_)
  · obtain ⟨c, b, rfl, _⟩ := h
    rfl
  · obtain ⟨c, b, rfl, q⟩ := h
    refine ⟨_, PSs.nox (pss_cons (ps_if (pt_cmpR op_in_sign (pv 0) pe_str (by with_unfolding_all rfl)) (pss_one (ps_ret pe_str)) pss_nil)
      (pss_cons (ps_if (pt_cmpR op_eq (pv 0) pe_str (nomark _)) (pss_one (ps_ret (pe_ifExp (pt_val (pv 1)) pe_str pe_str))) pss_nil)
      (pss_cons (ps_if (pt_cmpR op_in_sign (pv 0) pe_str (by with_unfolding_all rfl)) (pss_one (ps_ret pe_str)) pss_nil)
      (pss_one (ps_ret (pe_dget2 (Nat.lt_of_le_of_lt (Nat.add_le_add_left (by decide) _) hr.units) (pe_disp (pps_cons pe_str pe_str (pps_cons pe_str pe_str (pps_cons pe_str pe_str pps_nil))) (by rfl) (by rfl) (fun z => by cases z) (by decide)) (pv 0) pe_str ⟨by rfl, by rfl, by rfl, by rfl⟩)))))), ?_⟩
    refine ⟨_, rfl, c, _, rfl, rfl, _, rfl, ite2 (fun e => ?_) (fun e => ?_)⟩
    · have e1 : c ∈ (Str.ofString "+!0").cps.toList := of_decide_eq_true e
      have e2 : c = 43 ∨ c = 33 ∨ c = 48 := by
        have h : ∀ c ∈ (Str.ofString "+!0").cps.toList, c = 43 ∨ c = 33 ∨ c = 48 := by decide +kernel
        exact h c e1
      have z := q H (fun _ _ e => e)
      unfold begW at z
      rw [if_pos e2] at z
      exact z
    · have n1 : ¬(c = 43 ∨ c = 33 ∨ c = 48) := fun h => e (decide_eq_true (by rcases h with h | h | h <;> rw [h] <;> decide +kernel))
      refine ⟨_, rfl, rfl, _, rfl, ?_⟩
      rw [chr_eq (d := 41) (by decide +kernel)]
      refine ite2 (fun e => ?_) (fun e => ?_)
      · have e2 : c = 41 := of_decide_eq_true e
        have z := q H (fun _ _ e => e)
        unfold begW at z
        rw [if_neg n1, if_pos e2] at z
        refine ⟨_, rfl, _, rfl, ?_⟩
        cases b with
        | true => exact iteT z
        | false => exact iteF z
      · have n2 : ¬c = 41 := fun h => e (decide_eq_true h)
        refine ⟨_, rfl, c, _, rfl, rfl, _, rfl, ite2 (fun e => ?_) (fun e => ?_)⟩
        · have e1 : c ∈ (Str.ofString "123456789").cps.toList := of_decide_eq_true e
          have e2 : 49 ≤ c ∧ c ≤ 57 := by
            have h : ∀ c ∈ (Str.ofString "123456789").cps.toList, 49 ≤ c ∧ c ≤ 57 := by decide +kernel
            exact h c e1
          have z := q H (fun _ _ e => e)
          unfold begW at z
          rw [if_neg n1, if_neg n2, if_pos e2] at z
          exact z
        · have n3 : ¬(49 ≤ c ∧ c ≤ 57) := fun h => e (decide_eq_true (by
            have h' : ∀ c, c < 58 → 49 ≤ c → c ∈ (Str.ofString "123456789").cps.toList := by decide +kernel
            exact h' c (by omega) h.1))
          intro p hp
          refine ⟨upd_same, [(.inr "-", .str "minus"), (.inr "\"", .str "in"), (.inr "(", .str "first")], rfl, by decide, ?_⟩
          have z := q (upd (upd H p (.dK [])) p (.dK (mergeK [] [((.inr "-" : Key), V.str "minus"), (.inr "\"", .str "in"), (.inr "(", .str "first")]))) (fun b o eb => by
            rw [upd_ne (ne_of_none eb hp), upd_ne (ne_of_none eb hp)]
            exact eb)
          refine ⟨p, rfl, .inl ⟨_, .inl upd_same⟩, _, rfl, _, .inl ⟨_, .inr (chr c), .inl upd_same, rfl, rfl⟩, ?_⟩
          rw [dictW]
          unfold begW at z
          rw [if_neg n1, if_neg n2, if_neg n3] at z
          exact z
theorem ok_goes {f fB fA : Addr} {fd fdB fdA : FuncData} (F : FnP K "_law_goes" sGoes f fd) (FB : FnP K "_law_begins" sBegins fB fdB) (gB : mg "_law_begins" = some (.ref fB)) (FA : FnP K "_law_alphabet" sAlpha fA fdA) (gA : mg "_law_alphabet" = some (.ref fA)) (mI : mg "int" = none) :
    FnOk P w K mg base CX0 2 f fd ["state", "sign", "depth", "many"] spGoes := by
  have bB : Binds K fdB ["sign", "is_first"] [] := FB.bindsN fun _ _ _ _ _ _ us hl => match us, hl with | [_, _], _ => rfl
  have bA : Binds K fdA [] [] := FA.bindsN fun _ _ _ _ _ _ us hl => match us, hl with | [], _ => rfl
  have GB : FnOk P w K mg base CX0 1 fB fdB ["sign", "is_first"] spBegins := ok_begins FB
  have GA : FnOk P w K mg base CX0 1 fA fdA [] spAlphaX := ok_alphaX FA
  refine F.ok scGoes (fun vs H Q E h => ?_) (fun cdv A outer s H vs Q E hr h => ?_)
  · obtain ⟨s, c, dp, mn, rfl, _⟩ := h
    rfl
  · obtain ⟨st, c, dp, mn, rfl, q⟩ := h
    have hs := szl
    refine ⟨_, PSs.nox (pss_cons (ps_if (pt_cmpR op_in_seq (pv 0) (pe_tup (pa_cons pe_str (pa_cons pe_str pa_nil))) (by with_unfolding_all rfl)) (pss_one (ps_ret (pe_call GB hr (by rfl) gB FB.kp bB .nil pass0 (pa_cons (pv 1) (pa_cons (pe_cmpR op_eq (pv 0) pe_str (nomark _)) pa_nil))))) pss_nil)
      (pss_cons (ps_if (pt_cmpR op_eq (pv 0) pe_str (nomark _)) (pss_one (ps_ret (pe_ifExp (pt_cmpR op_in_sign (pv 1) (pe_call0 GA hr (by rfl) gA FA.kp bA .nil pass0) (by with_unfolding_all rfl))
          (pe_ix ix_list (pe_lst (pa_cons pe_str (pa_cons pe_str pa_nil))) (pe_callTy call_int1 (by rfl) mI PyProof.Rows.boot_int (pa_cons (pe_cmpR op_eq (pv 1) pe_str (nomark _)) pa_nil)) (fun _ _ => rfl)) pe_str))) pss_nil)
      (C8.pss_cut (ps_if (PW.pt (pw_and (pt_cmpR op_eq (pv 0) pe_str (nomark _)) (pw_and1 (pt_cmpR op_eq (pv 1) pe_str (nomark _))))) (pss_one (ps_ret pe_str)) pss_nil)
      (C8.pss_cut (ps_if (PW.pt (pw_or (PW.pt (pw_and (pt_cmpR op_eq (pv 0) pe_str (nomark _)) (pw_and1 (pt_cmpR op_in_sign (pv 1) pe_str (by with_unfolding_all rfl)))))
          (pw_or1 (PW.pt (pw_and (pt_cmpR op_eq (pv 0) pe_str (nomark _)) (pw_and (pt_cmpR op_in_sign (pv 1) pe_str (by with_unfolding_all rfl)) (pw_and1 (pt_cmpR op_lt (pv 3) pe_int (nomark _))))))))) (pss_one (ps_ret pe_str)) pss_nil)
      (pss_cons (ps_if (PW.pt (pw_and (pt_cmpR op_gt (pv 2) pe_int (nomark _)) (pw_and1 (pt_cmpR op_in_sign (pv 1) pe_str (by with_unfolding_all rfl)))))
          (pss_one (ps_ret (pe_ix ix_list (pe_lst (pa_cons pe_str (pa_cons pe_str pa_nil))) (pe_callTy call_int1 (by rfl) mI PyProof.Rows.boot_int (pa_cons (pe_cmpR op_eq (pv 1) pe_str (nomark _)) pa_nil)) (fun _ _ => rfl)))) pss_nil)
      (pss_one (ps_ret pe_str))))))), ?_⟩
    have d34 : (Str.ofString "\"") = chr 34 := by decide +kernel
    have d41 : (Str.ofString ")") = chr 41 := by decide +kernel
    refine ⟨_, rfl, by show 2 ≤ sizeLine; omega, fun t nt => ⟨t, [.str "value", .str "first"], rfl, .inr (.inl (.inl upd_same)), rfl, by decide +kernel, _, rfl, ?_⟩⟩
    have s1 := same_upd (o := HO.tup [.str "value", .str "first"]) nt
    generalize (upd H t (.tup [.str "value", .str "first"])) = H1 at s1
    show if inV (V.str (ws st)) [.str "value", .str "first"] = true then _ else _
    rw [inV_vf]
    refine ite2 (fun e => ?_) (fun e => ?_)
    · refine ⟨_, rfl, _, rfl, rfl, ?_⟩
      refine ⟨c, decide (V.str (ws st) = V.str "first"), rfl, fun H' s' => ?_⟩
      rw [ws_eq st .first (z := "first") rfl]
      have z := q H' (s1.trans s')
      have ev : st = .value ∨ st = .first := of_decide_eq_true e
      have eg : goW st c dp mn = begW c (decide (st = .first)) := by
        rcases ev with e | e <;> rw [e] <;> rfl
      rw [eg] at z
      exact z
    · have nv : ¬(st = .value ∨ st = .first) := fun h => e (decide_eq_true h)
      refine ⟨_, rfl, rfl, _, rfl, ?_⟩
      show if decide (V.str (ws st) = V.str "in") = true then _ else _
      rw [ws_eq st .inn (z := "in") rfl]
      refine ite2 (fun e => ?_) (fun e => ?_)
      · have ei : st = .inn := of_decide_eq_true e
        refine ⟨_, rfl, rfl, fun al hal => ⟨c, al, rfl, rfl, _, rfl, ite2 (fun e => ?_) (fun e => ?_)⟩⟩
        · have ha := (hal c).mp (of_decide_eq_true e)
          refine ⟨by show 2 ≤ sizeLine; omega, fun t2 nt2 => ?_⟩
          have s2 := s1.trans (same_upd (o := HO.lst [.str "in", .str "quote"]) nt2)
          refine ⟨_, rfl, rfl, .inr ⟨_, rfl, ?_⟩⟩
          rw [chr_eq d34]
          have z := q _ s2
          rw [ei] at z
          have eg : goW .inn c dp mn = if c = 34 then some .quote else some .inn := if_pos ha
          rw [eg] at z
          by_cases h : c = 34
          · rw [if_pos h] at z
            rw [decide_eq_true h]
            exact ⟨t2, _, 1, _, rfl, rfl, SqL.of upd_same, rfl, z⟩
          · rw [if_neg h] at z
            rw [decide_eq_false h]
            exact ⟨t2, _, 0, _, rfl, rfl, SqL.of upd_same, rfl, z⟩
        · have ha : ¬(32 ≤ c ∧ c ≤ 126 ∧ c ≠ 37) := fun h => e (decide_eq_true ((hal c).mpr h))
          have z := q _ s1
          rw [ei] at z
          have eg : goW .inn c dp mn = none := if_neg ha
          rw [eg] at z
          exact z
      · have ni : st ≠ .inn := fun h => e (decide_eq_true h)
        refine ⟨fun σ' H' => σ' = [some (.str (ws st)), some (.str (chr c)), some (.int (dp : Int)), some (.int (mn : Int))] ∧ Same H H' ∧ ¬(st = .quote ∧ c = 34), ?_, ?_⟩
        · refine ⟨_, rfl, rfl, _, rfl, ?_⟩
          show if decide (V.str (ws st) = V.str "quote") = true then _ else _
          rw [ws_eq st .quote (z := "quote") rfl]
          refine ite2 (fun e => ?_) (fun e => ?_)
          · have eq : st = .quote := of_decide_eq_true e
            refine ⟨_, rfl, rfl, _, rfl, ?_⟩
            show if decide (V.str (chr c) = V.str "\"") = true then _ else _
            rw [chr_eq d34]
            refine ite2 (fun e => ?_) (fun e => ?_)
            · have z := q _ s1
              rw [eq, show goW .quote c dp mn = some .inn from if_pos (of_decide_eq_true e)] at z
              exact z
            · exact ⟨rfl, s1, fun h => e (decide_eq_true h.2)⟩
          · exact ⟨rfl, s1, fun h => e (decide_eq_true h.1)⟩
        · rintro σ' H2 ⟨rfl, s2, nq⟩
          refine ⟨fun σ' H' => σ' = [some (.str (ws st)), some (.str (chr c)), some (.int (dp : Int)), some (.int (mn : Int))] ∧ Same H H' ∧ ¬(st = .minus ∧ 49 ≤ c ∧ c ≤ 57) ∧ ¬(st = .figures ∧ (48 ≤ c ∧ c ≤ 57) ∧ mn < 40), ?_, ?_⟩
          · have figs_ : ∀ {nm : ¬(st = .minus ∧ 49 ≤ c ∧ c ≤ 57)}, True := fun {_} => trivial
            refine ⟨_, rfl, rfl, _, rfl, ?_⟩
            show if decide (V.str (ws st) = V.str "minus") = true then _ else _
            rw [ws_eq st .minus (z := "minus") rfl]
            refine ite2 (fun e => ?_) (fun e => ?_)
            · have em : st = .minus := of_decide_eq_true e
              refine ⟨_, rfl, c, _, rfl, rfl, _, rfl, ite2 (fun e => ?_) (fun e => ?_)⟩
              · have hd := mem_dig1.mp (of_decide_eq_true e)
                have z := q _ s2
                rw [em, show goW .minus c dp mn = some .figures from if_pos hd] at z
                exact z
              · have nd : ¬(49 ≤ c ∧ c ≤ 57) := fun h => e (decide_eq_true (mem_dig1.mpr h))
                refine ⟨_, rfl, rfl, _, rfl, ?_⟩
                show if decide (V.str (ws st) = V.str "figures") = true then _ else _
                rw [ws_eq st .figures (z := "figures") rfl, em]
                refine iteF ⟨rfl, s2, fun h => nd h.2, fun h => by cases h.1⟩
            · have nm : st ≠ .minus := fun h => e (decide_eq_true h)
              refine ⟨_, rfl, rfl, _, rfl, ?_⟩
              show if decide (V.str (ws st) = V.str "figures") = true then _ else _
              rw [ws_eq st .figures (z := "figures") rfl]
              refine ite2 (fun e => ?_) (fun e => ?_)
              · have ef : st = .figures := of_decide_eq_true e
                refine ⟨_, rfl, c, _, rfl, rfl, _, rfl, ite2 (fun e => ?_) (fun e => ?_)⟩
                · have hd := mem_dig.mp (of_decide_eq_true e)
                  refine ⟨_, rfl, _, _, rfl, rfl, _, rfl, ite2 (fun e => ?_) (fun e => ?_)⟩
                  · have hm : (mn : Int) < 40 := of_decide_eq_true e
                    have z := q _ s2
                    rw [ef, show goW .figures c dp mn = some .figures from if_pos ⟨hd, by omega⟩] at z
                    exact z
                  · have hm : ¬(mn : Int) < 40 := fun h => e (decide_eq_true h)
                    exact ⟨rfl, s2, fun h => nm h.1, fun h => hm (by have := h.2.2; omega)⟩
                · exact ⟨rfl, s2, fun h => nm h.1, fun h => e (decide_eq_true (mem_dig.mpr h.2.1))⟩
              · exact ⟨rfl, s2, fun h => nm h.1, fun h => e (decide_eq_true h.1)⟩
          · rintro σ' H3 ⟨rfl, s3, nm, nf⟩
            have eg : goW st c dp mn = outW c dp := goW_out (fun h => nv (.inl h)) (fun h => nv (.inr h)) ni nq nm nf
            rw [eg] at q
            refine ⟨_, rfl, _, _, rfl, rfl, _, rfl, ite2 (fun e => ?_) (fun e => ?_)⟩
            · have hdp : (0 : Int) < (dp : Int) := of_decide_eq_true e
              refine ⟨_, rfl, c, _, rfl, rfl, _, rfl, ite2 (fun e => ?_) (fun e => ?_)⟩
              · have hc := mem_end.mp (of_decide_eq_true e)
                refine ⟨by show 2 ≤ sizeLine; omega, fun t2 nt2 => ?_⟩
                have s4 := s3.trans (same_upd (o := HO.lst [.str "value", .str "behind"]) nt2)
                refine ⟨_, rfl, rfl, .inr ⟨_, rfl, ?_⟩⟩
                rw [chr_eq d41]
                have z := q _ s4
                rcases hc with h | h
                · rw [show outW c dp = some .value from if_pos ⟨by omega, h⟩] at z
                  rw [decide_eq_false (show ¬c = 41 by omega)]
                  exact ⟨t2, _, 0, _, rfl, rfl, SqL.of upd_same, rfl, z⟩
                · rw [show outW c dp = some .behind by
                    unfold outW
                    rw [if_neg (by omega), if_pos ⟨by omega, h⟩]] at z
                  rw [decide_eq_true h]
                  exact ⟨t2, _, 1, _, rfl, rfl, SqL.of upd_same, rfl, z⟩
              · have hc : ¬(c = 32 ∨ c = 41) := fun h => e (decide_eq_true (mem_end.mpr h))
                have z := q _ s3
                rw [outW_no (fun h => hc (.inr h)) (fun h => hc (.inl h))] at z
                exact z
            · have hdp : dp = 0 := by
                have : ¬(0 : Int) < (dp : Int) := fun h => e (decide_eq_true h)
                omega
              have z := q _ s3
              rw [hdp, outW_0] at z
              exact z
end
end Vl

set_option autoImplicit false
set_option maxHeartbeats 4000000
namespace Vl
open PySem PySem.Spec PyProof.Rows L2 TL En
theorem inV_ends (s : WS) : inV (V.str (ws s)) [.str "behind", .str "minus", .str "figures", .str "quote"] = s.ends := by cases s <;> decide +kernel
theorem outW_first {c dp : Nat} : outW c dp ≠ some .first := by
  unfold outW
  split
  · simp
  · split <;> simp
theorem first_of {s : WS} {c dp mn : Nat} (h : goW s c dp mn = some .first) : c = 40 ∧ s ≠ .inn := by
  have beg : ∀ b, begW c b = some .first → c = 40 := fun b h => by
    unfold begW at h
    repeat' split at h
    all_goals first | (cases h; done) | assumption
  cases s with
  | value => exact ⟨beg _ h, by decide⟩
  | first => exact ⟨beg _ h, by decide⟩
  | inn =>
    have h' : (if 32 ≤ c ∧ c ≤ 126 ∧ c ≠ 37 then (if c = 34 then some WS.quote else some .inn) else none) = some .first := h
    repeat' split at h'
    all_goals cases h'
  | quote =>
    have h' : (if c = 34 then some WS.inn else outW c dp) = some .first := h
    split at h'
    · cases h'
    · exact absurd h' outW_first
  | minus =>
    have h' : (if 49 ≤ c ∧ c ≤ 57 then some WS.figures else outW c dp) = some .first := h
    split at h'
    · cases h'
    · exact absurd h' outW_first
  | figures =>
    have h' : (if (48 ≤ c ∧ c ≤ 57) ∧ mn < 40 then some WS.figures else outW c dp) = some .first := h
    split at h'
    · cases h'
    · exact absurd h' outW_first
  | behind => exact absurd h outW_first
theorem outW_pos {dp : Nat} {t : WS} (h : outW 41 dp = some t) : 1 ≤ dp := by
  cases dp with
  | zero => rw [outW_0] at h; cases h
  | succ n => omega
theorem close_pos {s t : WS} {dp mn : Nat} (h : goW s 41 dp mn = some t) (hs : s ≠ .inn) (hf : s = .first → 1 ≤ dp) : 1 ≤ dp := by
  cases s with
  | value => cases h
  | first => exact hf rfl
  | inn => exact absurd rfl hs
  | quote => exact outW_pos h
  | minus => exact outW_pos h
  | figures => exact outW_pos (t := t) (by have h' : (if (48 ≤ 41 ∧ 41 ≤ 57) ∧ mn < 40 then some WS.figures else outW 41 dp) = some t := h; rwa [if_neg (by omega)] at h')
  | behind => exact outW_pos h
theorem depth_int {s t : WS} {c dp mn : Nat} (h : goW s c dp mn = some t) (hs : s ≠ .inn) (hf : s = .first → 1 ≤ dp) : ((dp : Int) + (if decide (c = 40) = true then 1 else 0)) - (if decide (c = 41) = true then 1 else 0) = ((stepD s c dp : Nat) : Int) := by
  unfold stepD
  rw [if_neg hs]
  by_cases h1 : c = 40
  · rw [if_pos h1, decide_eq_true h1, decide_eq_false (show ¬c = 41 by omega), if_pos rfl, if_neg Bool.false_ne_true]
    omega
  · rw [if_neg h1, decide_eq_false h1, if_neg Bool.false_ne_true]
    by_cases h2 : c = 41
    · rw [h2] at h
      have := close_pos h hs hf
      rw [if_pos h2, decide_eq_true h2, if_pos rfl]
      omega
    · rw [if_neg h2, decide_eq_false h2, if_neg Bool.false_ne_true]
      omega
section
variable {P : Program} {w : World} {K : PySem.W.Frag} {mg : Str → Option Value} {base : Heap}
theorem ok_walk {f fG fB fA : Addr} {fd fdG fdB fdA : FuncData} (F : FnP K "_law_walk" sWalk f fd) (FG : FnP K "_law_goes" sGoes fG fdG) (gG : mg "_law_goes" = some (.ref fG)) (FB : FnP K "_law_begins" sBegins fB fdB) (gB : mg "_law_begins" = some (.ref fB)) (FA : FnP K "_law_alphabet" sAlpha fA fdA) (gA : mg "_law_alphabet" = some (.ref fA))
    (mI : mg "int" = none) (me : mg "enumerate" = none) (ml : mg "len" = none) : FnOk P w K mg base CX0 3 f fd ["row"] spWalk := by
  have bG : Binds K fdG ["state", "sign", "depth", "many"] [] := FG.bindsN fun _ _ _ _ _ _ us hl => match us, hl with | [_, _, _, _], _ => rfl
  have GG : FnOk P w K mg base CX0 2 fG fdG ["state", "sign", "depth", "many"] spGoes := ok_goes FG FB gB FA gA mI
  refine F.ok scWalk (fun vs H Q E h => ?_) (fun cdv A outer s H vs Q E hr h => ?_)
  · obtain ⟨z, rfl, _⟩ := h
    rfl
  · obtain ⟨z, rfl, hz, q⟩ := h
    have hs := szl
    have d40 : (Str.ofString "(") = chr 40 := by decide +kernel
    have d41 : (Str.ofString ")") = chr 41 := by decide +kernel
    refine ⟨_, PSs.nox (pss_cons (ps_asg (pe_tup (pa_cons pe_str (pa_cons pe_int (pa_cons pe_int pa_nil)))) (pg_tup rfl (pgs_cons (pg_name (i := 1) scWalk.nd rfl (.inl rfl)) (pgs_cons (pg_name (i := 2) scWalk.nd rfl (.inl rfl)) (pgs_cons (pg_name (i := 3) scWalk.nd rfl (.inl rfl)) pgs_nil)))))
      (pss_cons (ps_for PassesOwn.never rfl (pi_enumS (by rfl) me (pa_cons (pv 0) pa_nil)) (pg_tup rfl (pgs_cons (pg_name (i := 4) scWalk.nd rfl (.inl rfl)) (pgs_cons (pg_name (i := 5) scWalk.nd rfl (.inl rfl)) pgs_nil)))
        (pss_cons (ps_set (i := 6) scWalk.nd rfl (.inl rfl) (pe_call GG hr (by rfl) gG FG.kp bG .nil pass0 (pa_cons (pv 1) (pa_cons (pv 5) (pa_cons (pv 2) (pa_cons (pv 3) pa_nil))))))
        (pss_cons (ps_if (pt_cmpR op_eq (pv 6) pe_str (nomark _)) (pss_one (ps_ret (pv 4))) pss_nil)
        (C8.pss_cut (ps_if (pt_cmpR op_ne (pv 1) pe_str (nomark _)) (pss_one (ps_set (i := 2) scWalk.nd rfl (.inl rfl) (pe_op op_sub (pe_op op_add (pv 2) (pe_callTy call_int1 (by rfl) mI PyProof.Rows.boot_int (pa_cons (pe_cmpR op_eq (pv 5) pe_str (nomark _)) pa_nil))) (pe_callTy call_int1 (by rfl) mI PyProof.Rows.boot_int (pa_cons (pe_cmpR op_eq (pv 5) pe_str (nomark _)) pa_nil))))) pss_nil)
        (pss_cons (ps_set (i := 3) scWalk.nd rfl (.inl rfl) (pe_op op_mul (pe_op op_add (pv 3) pe_int) (pe_callTy call_int1 (by rfl) mI PyProof.Rows.boot_int (pa_cons (pe_cmpR op_eq (pv 6) pe_str (nomark _)) pa_nil))))
        (pss_one (ps_set (i := 1) scWalk.nd rfl (.inl rfl) (pv 6))))))))
      (pss_cons (ps_if (PW.pt (pw_and (pt_cmpR op_eq (pv 2) pe_int (nomark _)) (pw_and1 (pt_cmpR op_in_seq (pv 1) (pe_tup (pa_cons pe_str (pa_cons pe_str (pa_cons pe_str (pa_cons pe_str pa_nil))))) (by with_unfolding_all rfl))))) (pss_one (ps_ret (pe_un un_neg pe_int))) pss_nil)
      (pss_one (ps_ret (pe_callB call_len_str (by rfl) ml PySem.boot_len (pa_cons (pv 0) pa_nil))))))), ?_⟩
    refine ⟨by show 3 ≤ sizeLine; omega, fun t nt => ⟨t, _, rfl, .inl (.inl upd_same), rfl, _, _, rfl, _, _, rfl, _, _, rfl, rfl, ?_⟩⟩
    have s0 := same_upd (o := HO.tup [.str "value", .int 0, .int 0]) nt
    generalize (upd H t (.tup [.str "value", .int 0, .int 0])) = H1 at s0
    refine ⟨_, rfl, z, rfl, ?_⟩
    refine for_enumS (fun i σ H' => ∃ (st : WS) (dp mn : Nat) (v4 v5 v6 : Option V), σ = [some (.str z), some (.str (ws st)), some (.int (dp : Int)), some (.int (mn : Int)), v4, v5, v6] ∧ Same H H' ∧ i ≤ 10000000 ∧ wkW ((tl z).drop i) i st dp mn = wkW (tl z) 0 .value 0 0 ∧ mn ≤ i ∧ (st = .first → 1 ≤ dp))
      ⟨.value, 0, 0, _, _, _, rfl, s0, Nat.zero_le _, rfl, Nat.zero_le _, fun h => by cases h⟩ ?_ ?_
    · rintro i c T σ H2 hc ⟨st, dp, mn, v4, v5, v6, rfl, s2, hi, hw, hmn, hf⟩ nT
      have hc' : (tl z)[i]? = some c := by
        have e : (z.cps.toList)[i]? = z.cps[i]? := Array.getElem?_toList
        exact e.trans hc
      have hil : i < (tl z).length := len_of hc'
      have hl : (tl z).length = z.length := len_tl z
      rw [drop_cons hc'] at hw
      refine ⟨T, _, rfl, .inl (.inl upd_same), rfl, _, _, rfl, _, _, rfl, rfl, ?_⟩
      have s3 := s2.trans (same_upd (o := HO.tup [.int (i : Nat), .str ⟨#[c]⟩]) nT)
      generalize (upd H2 T (.tup [.int (i : Nat), .str ⟨#[c]⟩])) = H3 at s3
      refine ⟨_, rfl, _, rfl, _, rfl, _, rfl, st, c, dp, mn, rfl, fun H4 s4 => ?_⟩
      refine ⟨_, rfl, rfl, _, rfl, ?_⟩
      show if decide (V.str (wo (goW st c dp mn)) = V.str "") = true then _ else _
      rw [wo_empty]
      cases hg : goW st c dp mn with
      | none =>
        rw [wk_no hg] at hw
        have zq := q H4 (s3.trans s4)
        rw [← hw] at zq
        exact iteT ⟨_, rfl, zq⟩
      | some t2 =>
        rw [wk_go hg] at hw
        refine iteF ⟨fun σ' H' => σ' = [some (.str z), some (.str (ws st)), some (.int ((stepD st c dp : Nat) : Int)), some (.int (mn : Int)), some (.int (i : Nat)), some (.str ⟨#[c]⟩), some (.str (ws t2))] ∧ Same H H', ?_, ?_⟩
        · refine ⟨_, rfl, rfl, _, rfl, ?_⟩
          show if (!decide (V.str (ws st) = V.str "in")) = true then _ else _
          rw [ws_eq st .inn (z := "in") rfl]
          refine ite2 (fun e => ?_) (fun e => ?_)
          · have ni : st ≠ .inn := fun h => by
              rw [decide_eq_true h] at e
              cases e
            refine ⟨_, rfl, _, rfl, rfl, .inr ⟨_, rfl, _, _, rfl, rfl, _, rfl, rfl, .inr ⟨_, rfl, _, _, rfl, rfl, ?_, s3.trans s4⟩⟩⟩
            have e1 := depth_int hg ni hf
            rw [← e1, show decide (V.str { cps := #[c] } = V.str (Str.ofString "(")) = decide (c = 40) from chr_eq d40, show decide (V.str { cps := #[c] } = V.str (Str.ofString ")")) = decide (c = 41) from chr_eq d41]
            rfl
          · have ei : st = .inn := by
              by_cases h : st = .inn
              · exact h
              · exact absurd (by rw [decide_eq_false h]; rfl) e
            refine ⟨?_, s3.trans s4⟩
            have e1 : stepD st c dp = dp := if_pos ei
            rw [e1]
            rfl
        · rintro σ' H5 ⟨rfl, s5⟩
          refine ⟨_, rfl, _, _, rfl, rfl, _, rfl, rfl, .inr ⟨_, rfl, _, _, rfl, rfl, .inl ⟨?_, ?_⟩, _, rfl, ?_⟩⟩
          · omega
          · omega
          · refine ⟨t2, stepD st c dp, if t2 = .figures then mn + 1 else 0, some (.int (i : Nat)), some (.str ⟨#[c]⟩), some (.str (ws t2)), ?_, s5, by omega, hw, ?_, fun h => ?_⟩
            · have e2 : ((mn : Int) + 1) * (if decide (V.str (ws t2) = V.str "figures") = true then 1 else 0) = ((if t2 = WS.figures then mn + 1 else 0 : Nat) : Int) := by
                rw [ws_eq t2 .figures (z := "figures") rfl]
                by_cases h : t2 = .figures
                · rw [if_pos h, decide_eq_true h, if_pos rfl]
                  omega
                · rw [if_neg h, decide_eq_false h, if_neg Bool.false_ne_true]
                  omega
              rw [← e2]
              rfl
            · split <;> omega
            · rw [h] at hg
              obtain ⟨h1, h2⟩ := first_of hg
              unfold stepD
              rw [if_neg h2, if_pos h1]
              omega
    · rintro σ H2 ⟨st, dp, mn, v4, v5, v6, rfl, s2, hi, hw, hmn, hf⟩
      have hl : z.cps.size = (tl z).length := (Array.length_toList ..).symm
      have ed : (tl z).drop z.cps.size = [] := by rw [hl, List.drop_length]
      rw [ed, wkW] at hw
      refine ⟨_, rfl, rfl, _, rfl, ite2 (fun e => ?_) (fun e => ?_)⟩
      · have e0 : dp = 0 := by
          have := V.int.inj (of_decide_eq_true e)
          omega
        refine ⟨_, rfl, by show 4 ≤ sizeLine; omega, fun t2 nt2 => ⟨t2, [.str "behind", .str "minus", .str "figures", .str "quote"], rfl, .inr (.inl (.inl upd_same)), rfl, by decide +kernel, _, rfl, ?_⟩⟩
        have s4 := s2.trans (same_upd (o := HO.tup [.str "behind", .str "minus", .str "figures", .str "quote"]) nt2)
        have zq := q _ s4
        rw [← hw] at zq
        show if inV (V.str (ws st)) [.str "behind", .str "minus", .str "figures", .str "quote"] = true then _ else _
        rw [inV_ends]
        cases he : st.ends with
        | true =>
          rw [if_pos ⟨e0, he⟩] at zq
          exact iteT ⟨_, rfl, zq⟩
        | false =>
          rw [if_neg (fun h => by rw [he] at h; cases h.2)] at zq
          exact iteF ⟨_, rfl, z, rfl, by omega, zq⟩
      · have ne0 : dp ≠ 0 := fun h => e (by rw [h]; rfl)
        have zq := q _ s2
        rw [← hw, if_neg (fun h => ne0 h.1)] at zq
        exact ⟨_, rfl, z, rfl, by omega, zq⟩
end
end Vl

set_option maxHeartbeats 4000000
namespace Vl
open PySem PySem.Spec PyProof.Rows L2 TL CwR PySem.StrLaws
/-! ### room counted by single calls -/
structure Rm (m : Nat) (A : Around) : Prop where
  hd : A.handled = none
  dp : A.depth + m + 10 < recursionLimit
  un : A.units + 3 * m + 300 < cLine
theorem Rm.deeper {m : Nat} {A : Around} (r : Rm (m + 1) A) (env : Env) : Rm m (A.deeper env) :=
  ⟨r.hd, by have := r.dp; show A.depth + 1 + m + 10 < _; omega, by have := r.un; show A.units + 3 + 3 * m + 300 < _; omega⟩
theorem Rm.units {m : Nat} {A : Around} (r : Rm m A) : A.units + 64 < cLine := by have := r.un; omega
theorem Rm.of {A : Around} (r : Room 110 A) : Rm 291 A := ⟨r.hd, by have := r.dp; omega, by have := r.un; omega⟩
structure FnA (P : Program) (w : World) (K : PySem.W.Frag) (mg : Str → Option Value) (base : Heap) (CX : CXT) (m : Nat) (f : Addr) (fd : FuncData) (ps : List Str) (sp : Sp) : Prop where
  len : ∀ vs H Q E, sp vs H Q E → vs.length = ps.length
  run : ∀ (A : Around) (outer : List Env) (s : Shared) (H : Hp) (args : Args) (us : List Value) (vs : List V) (Q : VK) (E : XK), Rm m A → Env0 P w K mg base A outer s H → BindsTo s fd args (ps.zip us) → Vals vs us → sp vs H Q E →
    codeAny (model P w) A (.call (.ref f) args) (CR CX outer P w H s Q E) s
theorem fnA_none {P : Program} {w : World} {K : PySem.W.Frag} {mg : Str → Option Value} {base : Heap} {CX : CXT} {m : Nat} {f : Addr} {fd : FuncData} {ps : List Str} : FnA P w K mg base CX m f fd ps (fun _ _ _ _ => False) :=
  ⟨fun _ _ _ _ h => h.elim, fun _ _ _ _ _ _ _ _ _ _ _ _ _ h => h.elim⟩
theorem funD_okA {P : Program} {w : World} {K : PySem.W.Frag} {mg : Str → Option Value} {base : Heap} {CX : CXT} {x qual : Str} {params : Arguments} {body : List Stmt} {scope : Scope} {dvs : List V} {kws : List (Str × V)} {f : Addr} {fd : FuncData} {N ps : List Str} {m : Nat} {sp : Sp}
    (F : FunD K x qual params body scope dvs kws f fd) (S : FnScope N ps scope) (len : ∀ vs H Q E, sp vs H Q E → vs.length = ps.length)
    (hbody : ∀ (cdv : Value) (A : Around) (outer : List Env) (s : Shared) (H : Hp) (vs : List V) (Q : VK) (E : XK), Rm m (A.deeper (envOfC qual scope s.heap.objs.size f cdv)) → sp vs H Q E →
      ∃ t, PSs (cxOf CX P w K mg base N qual scope f cdv A outer s H E) body t ∧ t { nx := fun _ H' => Q .non H', rt := Q } (start N vs) H) : FnA P w K mg base CX (m + 1) f fd ps sp := by
  obtain ⟨oc, od, dV, kV, doc, pm, an, cdv, ct, osl, rfl, lk, hcd, _, _⟩ := F.ex
  refine ⟨len, fun A outer s H args us vs Q E hr e0 hb r hsp => ?_⟩
  have hl := len _ _ _ _ hsp
  have KX : K.In s.heap := e0.mod.kin.keeps fun b o e => (e0.bs b o e).1
  have lim : s.heap.NoLimit := e0.mod.nolimit.keeps fun b o e => (e0.bs b o e).1
  have hkind : ∀ y ∈ ps.zip us, scope.names.lookup y.1 = some .local ∨ (scope.names.lookup y.1 = some .cell ∧ ((cellsFrom (s.heap.objs.size + 1) scope.names []).lookup y.1).isSome = true) := fun ⟨n, v⟩ hy => by
    rcases S.par n (List.of_mem_zip hy).1 with q | q
    · exact .inl q
    · exact .inr ⟨q, PySem.W.cellsFrom_some _ _ _ (.inl q)⟩
  refine codeAny_call_function (by have := hr.dp; omega) (KX _ _ lk) rfl S.co S.gen rfl (PySem.W.codeRec_of KX hcd) (hb _ _ _ _ ?_)
  refine wpAny_newFunctionEnv_cells S.kind hkind fun env he s1 x => ?_
  subst he
  refine ⟨lim.keeps x.toInCall.keep, codeAny_func ?_⟩
  obtain ⟨t, ht, hq⟩ := hbody cdv A outer s H vs Q E (hr.deeper _) hsp
  have I : Inv (cxOf CX P w K mg base N qual scope f cdv A outer s H E) [] (start N vs) H s1 := inv_start S hr.hd e0 hl r x
  refine wpAny_mono (ht.run [] s1 (start N vs) H _ I hq) (fun fl s' hs => ?_) fun e s' hs => hs
  have fin : ∀ {σ' : L2.St} {H' : Hp} {v : V} {u : Value}, Inv (cxOf CX P w K mg base N qual scope f cdv A outer s H E) [] σ' H' s' → RelV v u → Q v H' → CE outer P w H s Q u s' :=
    fun {σ' H' v u} J rv q => ⟨v, H', J.os, J.bare, J.base, J.hok, rv, q⟩
  cases fl with
  | ret u =>
    obtain ⟨v, σ', H', J, rv, q⟩ := hs
    exact fin J rv q
  | next =>
    obtain ⟨σ', H', J, q⟩ := hs
    exact fin (v := V.non) (u := Value.none) J rfl q
  | brk =>
    obtain ⟨_, _, _, q⟩ := hs
    exact False.elim q
  | cont =>
    obtain ⟨_, _, _, q⟩ := hs
    exact False.elim q
theorem _root_.L2.FunD.okA {P : Program} {w : World} {K : PySem.W.Frag} {mg : Str → Option Value} {base : Heap} {CX : CXT} {x qual : Str} {params : Arguments} {body : List Stmt} {scope : Scope} {dvs : List V} {kws : List (Str × V)} {f : Addr} {fd : FuncData} {N ps : List Str} {m : Nat} {sp : Sp}
    (F : L2.FunD K x qual params body scope dvs kws f fd) (S : FnScope N ps scope) (len : ∀ vs H Q E, sp vs H Q E → vs.length = ps.length)
    (hbody : ∀ (cdv : Value) (A : Around) (outer : List Env) (s : Shared) (H : Hp) (vs : List V) (Q : VK) (E : XK), Rm m (A.deeper (envOfC qual scope s.heap.objs.size f cdv)) → sp vs H Q E →
      ∃ t, PSs (cxOf CX P w K mg base N qual scope f cdv A outer s H E) body t ∧ t { nx := fun _ H' => Q .non H', rt := Q } (start N vs) H) : FnA P w K mg base CX (m + 1) f fd ps sp := funD_okA F S len hbody
theorem pe_callA {X : Cx} {CX : CXT} {k : Nat} {f : Addr} {fd : FuncData} {ps : List Str} {sp : Sp} {ds : List Value} {dvs : List V} {E : XK} {x : Str} {p pos : Pos} {e : Expr} {es : List Expr} {t : TA}
    (F : FnA X.prog X.w X.K X.mg X.base CX k f fd ps sp) (hr : Rm k X.A) (hg : Gl X x) (hm : X.mg x = some (.ref f)) (hk : PySem.W.keepIn X.K (.ref f) = true) (hb : Binds X.K fd ps ds) (hd : Vals dvs ds) (hx : Passes CX X E)
    (ha : PA X (e :: es) t) (hdb : (x == ("__debug__" : Str)) = false := by decide) (he : starEach (e :: es) X.env = (false, eval e X.env) :: starEach es X.env := by rfl) (hpl : (backTo pos (starEach es X.env)).any (·.1) = false := by rfl) :
    PE X (.Call (.Name x p) (e :: es) [] pos) (tCall sp dvs E t) := by
  refine ⟨fun pins s σ H Q I h => ?_⟩
  refine wpAny_Call_Name_kw (ld_glob I hg hm ?_ hdb)
  refine PySem.W.callWith_K (h₀ := X.base) I.ok.mod.kin hk (thn (ha.run pos pins s σ H _ I h) fun us s1 ⟨vs, H1, I1, r, q⟩ => ⟨I1.kIn, ?_⟩) he hpl
  have r2 : Vals (vs ++ dvs) (us ++ ds) := r.append hd
  have hl : (us ++ ds).length = ps.length := by rw [← r2.length]; exact F.len _ _ _ _ q
  refine wpAny_call (codeAny_mono (F.run X.A X.stack s1 H1 ⟨us, []⟩ (us ++ ds) (vs ++ dvs) Q E hr I1.env0 (hb s1 us I1.kIn hl) r2 q) fun rr s' hq => ?_)
  cases rr with
  | error e => exact hx pins σ H1 s1 e s' I1 hq
  | ok fl =>
    cases fl with
    | ret u => exact I1.after hq
    | next => exact False.elim hq
    | brk => exact False.elim hq
    | cont => exact False.elim hq
section
variable {P : Program} {w : World} {K : PySem.W.Frag} {mg : Str → Option Value} {base : Heap}
theorem ok_writingAS {f : Addr} {fd : FuncData} (D k : Nat) (F : FnP K "_law_writing" sWriting f fd) (gW : mg "_law_writing" = some (.ref f)) (GW : FnA P w K mg base CX0 k f fd ["value"] (spW D))
    (mi : mg "isinstance" = none) (mb : mg "bool" = none) (mn : mg "int" = none) (ms : mg "str" = none) : FnA P w K mg base CX0 (k + 1) f fd ["value"] (spWr D) := by
  have bW : Binds K fd ["value"] [] := F.bindsN fun _ _ _ _ _ _ us hl => match us, hl with | [_], _ => rfl
  refine F.okA scWr (fun vs H Q E h => ?_) (fun cdv A outer s H vs Q E hr h => ?_)
  · obtain ⟨x, d, rfl, _⟩ := h
    rfl
  · obtain ⟨x, d, rfl, hv, hs, hw, hD, q⟩ := h
    have hz := szl
    refine ⟨_, PSs.nox (pss_cons (ps_if (pt_cmpR op_isN (pv 0) pe_non (nomark _)) (pss_one (ps_ret pe_str)) pss_nil)
      (pss_cons (ps_if (pt_val (pe_callB call_isi (by rfl) mi (by decide +kernel) (pa_cons (pv 0) (pa_cons (pe_bltn (v := .ty "bool") (by rfl) mb boot_bool rfl) pa_nil)))) (pss_one (ps_ret (pe_ix ix_list (pe_lst (pa_cons (pe_str) (pa_cons (pe_str) pa_nil))) (pe_callTy call_int1 (by rfl) mn boot_int (pa_cons (pv 0) pa_nil)) (fun _ _ => rfl)))) pss_nil)
      (pss_cons (ps_if (pt_val (pe_callB call_isi (by rfl) mi (by decide +kernel) (pa_cons (pv 0) (pa_cons (pe_bltn (v := .ty "int") (by rfl) mn boot_int rfl) pa_nil)))) (pss_one (ps_ret (pe_callTy call_str_int (by rfl) ms boot_str (pa_cons (pv 0) pa_nil)))) pss_nil)
      (pss_cons (ps_if (pt_val (pe_callB call_isi (by rfl) mi (by decide +kernel) (pa_cons (pv 0) (pa_cons (pe_bltn (v := .ty "str") (by rfl) ms boot_str rfl) pa_nil)))) (pss_one (ps_ret (pe_op op_add_str (pe_op op_add_str (pe_str) (pe_join pe_str (pe_split (pv 0) pe_str))) (pe_str)))) pss_nil)
      (pss_one (ps_ret (pe_op op_add_str (pe_op op_add_str (pe_str) (pe_join pe_str (pe_lc (own := [("part", 1)]) (g := gName 1) (tt := tYes) rfl scWr.nd (pi_tup (pv 0)) (blkOk_by (own := [("part", 1)]) (N := ["value", "part"]) (sc := defScope sWriting) (by decide +kernel)) (fun _ _ _ _ _ => pg_name (i := 1) scWr.nd rfl (Or.inl rfl)) (fun _ _ _ _ _ => pts_nil) (fun _ _ _ _ _ => pe_callA GW hr (by rfl) gW F.kp bW .nil pass0 (pa_cons (pv 1) pa_nil))))) (pe_str)))))))), ?_⟩
    have l1 : (Str.ofString "\"").length = 1 := by decide +kernel
    have l2 : (Str.ofString "\"\"").length = 2 := by decide +kernel
    have t1 : tl (Str.ofString "\"") = [34] := by decide +kernel
    have t2 : tl (Str.ofString "\"\"") = [34, 34] := by decide +kernel
    have sr : Same H H := fun _ _ e => e
    cases hv with
    | non => exact ⟨_, rfl, rfl, _, rfl, iteT (q _ _ sr (by decide +kernel))⟩
    | bl b =>
      refine ⟨_, rfl, rfl, _, rfl, iteF ?_⟩
      refine ⟨_, rfl, .bl b, .ty "bool", .type "bool", .type "bool", true, rfl, .ty _, .base (.bl b), kit_ty (by decide +kernel), _, rfl, iteT ?_⟩
      refine ⟨by show 2 ≤ sizeLine; omega, fun p np => ⟨_, rfl, .inr ⟨b, rfl, ?_⟩⟩⟩
      cases b with
      | true => exact ⟨p, _, 1, _, rfl, rfl, SqL.of upd_same, rfl, q _ _ (same_upd np) (by decide +kernel)⟩
      | false => exact ⟨p, _, 0, _, rfl, rfl, SqL.of upd_same, rfl, q _ _ (same_upd np) (by decide +kernel)⟩
    | int i =>
      refine ⟨_, rfl, rfl, _, rfl, iteF ?_⟩
      refine ⟨_, rfl, .int i, .ty "bool", .type "int", .type "bool", false, rfl, .ty _, .base (.int i), kit_ty (by decide +kernel), _, rfl, iteF ?_⟩
      refine ⟨_, rfl, .int i, .ty "int", .type "int", .type "int", true, rfl, .ty _, .base (.int i), kit_ty (by decide +kernel), _, rfl, iteT ?_⟩
      exact ⟨_, rfl, i, rfl, hs.sm (fun _ e => by cases e), q _ _ sr rfl⟩
    | str z =>
      refine ⟨_, rfl, rfl, _, rfl, iteF ?_⟩
      refine ⟨_, rfl, .str z, .ty "bool", .type "str", .type "bool", false, rfl, .ty _, .base (.str z), kit_ty (by decide +kernel), _, rfl, iteF ?_⟩
      refine ⟨_, rfl, .str z, .ty "int", .type "str", .type "int", false, rfl, .ty _, .base (.str z), kit_ty (by decide +kernel), _, rfl, iteF ?_⟩
      refine ⟨_, rfl, .str z, .ty "str", .type "str", .type "str", true, rfl, .ty _, .base (.str z), kit_ty (by decide +kernel), _, rfl, iteT ?_⟩
      have hs' : z.length ≤ 1000000 := hs.sm (fun _ e => by cases e)
      have rl : tl (Txt.replace z (Str.ofString "\"") (Str.ofString "\"\"")) = dbl (tl z) := by
        have e := replace_list (x := z) (y := Str.ofString "\"") (z := Str.ofString "\"\"") (by rw [l1]; exact Nat.le_refl 1)
        have e2 : tl (Txt.replace z (Str.ofString "\"") (Str.ofString "\"\"")) = replL (tl (Str.ofString "\"")) (tl (Str.ofString "\"\"")) (tl z) := e
        rw [e2, t1, t2, dbl_repl]
      have e34 : Str.ofString "\"" = ⟨#[34]⟩ := by decide +kernel
      have jl : tl (Txt.join (Str.ofString "\"\"") (Txt.split z (Str.ofString "\""))) = dbl (tl z) := by
        rw [join_eq, ← rl, e34, replace_one]
      have jn : (Txt.join (Str.ofString "\"\"") (Txt.split z (Str.ofString "\""))).length ≤ 2000000 := by
        rw [len_tl, jl]
        have := dbl_len (tl z)
        have := len_tl z
        omega
      have sw := split_weight z (Str.ofString "\"") (by rw [l1]; exact Nat.le_refl 1)
      refine ⟨⟨_, rfl⟩, _, rfl, ⟨_, rfl⟩, z, _, rfl, rfl, ?_, by omega, fun p np => ⟨_, p, _, rfl, rfl, .inl (SqL.of upd_same), ?_, ?_⟩⟩
      · rw [l1]; rfl
      · rw [l2]
        omega
      refine ⟨_, _, rfl, rfl, ?_, _, _, rfl, rfl, ?_, q _ _ (same_upd np) ?_⟩
      · rw [l1]; omega
      · rw [app_len, l1]; omega
      · rw [tl_append, tl_append, t1, jl]
        show [34] ++ dbl (tl z) ++ [34] = 34 :: (dbl (tl z) ++ [34])
        simp
    | tup ha hys =>
      rename_i a ys ds
      refine ⟨_, rfl, rfl, _, rfl, iteF ?_⟩
      refine ⟨_, rfl, .ref a, .ty "bool", .type "tuple", .type "bool", false, rfl, .ty _, .base (.tup ha), kit_ty (by decide +kernel), _, rfl, iteF ?_⟩
      refine ⟨_, rfl, .ref a, .ty "int", .type "tuple", .type "int", false, rfl, .ty _, .base (.tup ha), kit_ty (by decide +kernel), _, rfl, iteF ?_⟩
      refine ⟨_, rfl, .ref a, .ty "str", .type "tuple", .type "str", false, rfl, .ty _, .base (.tup ha), kit_ty (by decide +kernel), _, rfl, iteF ?_⟩
      have hyl := hys.len
      have hwF : (wrF ds).length + 1 ≤ 4000000 := hw
      have hla := wr_len_all ds
      have hTF := wrT_wrF ds
      refine ⟨⟨_, rfl⟩, _, rfl, a, rfl, ⟨_, SqT.of ha⟩, fun L nL => ?_⟩
      refine lc_tup (xs := ys) (fun i H' => ∃ zs : List Str, H' L = some (.lst (zs.map V.str)) ∧ zs.map tl = (ds.take i).map wr ∧ Same H H') ⟨[], upd_same, rfl, same_upd nL⟩ (fun i H' hi h => ?_) ?_ ?_
      · obtain ⟨zs, _, _, sm⟩ := h
        exact SqT.of (sm _ _ ha)
      · rintro i x H' hx ⟨zs, hL, hzs, sm⟩
        obtain ⟨d5, hd5, vd5⟩ := hys.get _ hx
        have hmem := List.mem_of_getElem? hd5
        have hid : i < ds.length := (List.getElem?_eq_some_iff.mp hd5).1
        have hzl : zs.length = i := by
          have := congrArg List.length hzs
          simp at this
          omega
        cases D with
        | zero =>
          have : PyData.depthAll ds + 1 ≤ 0 := hD
          omega
        | succ D =>
          have hdp : PyData.depthAll ds + 1 ≤ D + 1 := hD
          have hdm := depth_mem ds hmem
          have hwm := wr_mem_T ds hmem
          refine ⟨rfl, _, rfl, x, d5, rfl, vd5.keep (Same.keepT sm), hs.get d5 hmem, by omega, by omega, fun H2 r s2 hr => ?_⟩
          refine ⟨_, s2 _ _ hL, by rw [List.length_map]; omega, zs ++ [r], ?_, ?_, ?_⟩
          · rw [upd_same, List.map_append]; rfl
          · rw [List.map_append, hzs, List.take_add_one, List.map_append, hd5]
            show _ ++ [tl r] = _ ++ [wr d5]
            rw [hr]
          · exact same_put (sm.trans s2) nL
      · rintro H' ⟨zs, hL, hzs, sm⟩
        rw [hyl, List.take_length] at hzs
        have hzl : zs.length = ds.length := by
          have := congrArg List.length hzs
          simpa using this
        have t32 : tl (Str.ofString " ") = [32] := by decide +kernel
        have l32 : (Str.ofString " ").length = 1 := by decide +kernel
        have t40 : tl (Str.ofString "(") = [40] := by decide +kernel
        have l40 : (Str.ofString "(").length = 1 := by decide +kernel
        have t41 : tl (Str.ofString ")") = [41] := by decide +kernel
        have l41 : (Str.ofString ")").length = 1 := by decide +kernel
        have hsum : (zs.map Str.length).sum = ((ds.map wr).map List.length).sum := by
          rw [← hzs, List.map_map]
          exact congrArg List.sum (List.map_congr_left fun p _ => len_tl p)
        have jt : tl (Txt.join (Str.ofString " ") zs) ++ [41] = wrF ds := by
          rw [join_eq, tl_join, t32, hzs]
          exact joinL_wrF ds
        have jn : (Txt.join (Str.ofString " ") zs).length + 1 = (wrF ds).length := by
          rw [len_tl, ← jt, List.length_append]
          rfl
        refine ⟨Str.ofString " ", L, zs, rfl, rfl, .inl (SqL.of hL), ?_, ?_⟩
        · rw [l32, hsum]
          omega
        refine ⟨_, _, rfl, rfl, ?_, _, _, rfl, rfl, ?_, q _ _ sm ?_⟩
        · rw [l40]; omega
        · rw [app_len, l40, l41]; omega
        · rw [tl_append, tl_append, t40, t41, List.append_assoc, jt]
          rfl
theorem ok_writingA {f : Addr} {fd : FuncData} (F : FnP K "_law_writing" sWriting f fd) (gW : mg "_law_writing" = some (.ref f))
    (mi : mg "isinstance" = none) (mb : mg "bool" = none) (mn : mg "int" = none) (ms : mg "str" = none) : ∀ D, FnA P w K mg base CX0 D f fd ["value"] (spW D)
  | 0 => fnA_none
  | D + 1 => ok_writingAS D D F gW (ok_writingA F gW mi mb mn ms D) mi mb mn ms
end
end Vl

set_option maxHeartbeats 2000000
namespace Ev
open PySem PySem.Spec PyProof.Rows L2
open Sem (wp)
section
variable {M : Model} {A : Around} {E : Value → Shared → Prop} {s : Shared} {env : Env}
theorem callWith_type_kwB {pos : Pos} {T : String} {first : List Value} {args : List (Bool × Sem Value)} {keywords : List (Option Str × Sem Value)} {Q : Value → Shared → Prop}
    (hplain : args.any (·.1) = false) (hkw : keywords.any (·.1.isNone) = false)
    (h : wpAny M A (evalArgs (.type T) true args keywords) (fun a s1 => wpAny M A (call (.type T) (first ++ a.pos) a.kw) Q E s1) E s) :
    wpAny M A (callWith pos (.type T) first args keywords) Q E s := by
  unfold callWith
  refine wpAny_bind (wpAny_holding (wpAny_mono h (fun a s1 h1 => wpAny_bind (wpAny_standAt ?_)) fun _ _ x => x))
  simp only [hplain, hkw, Bool.or_false]
  refine wpAny_bind (wpAny_pure ?_)
  exact wpAny_bind (wpAny_mono h1 (fun r s2 hr => wpAny_bind (wpAny_holding (wpAny_point (wpAny_pure hr)))) fun _ _ x => x)
theorem callWith_type_kw {pos : Pos} {T : String} {e : Expr} {rest : List Expr} {kws : List Keyword} {Q : Value → Shared → Prop}
    (h : wpAny M A (spliced (backTo pos (starEach (e :: rest) env))) (fun vs s1 => wpAny M A (evalAll ((backToKw pos (keywordEach kws env)).map (·.2)))
      (fun kvs s2 => wpAny M A (call (.type T) vs (((backToKw pos (keywordEach kws env)).filterMap (·.1)).zip kvs)) Q E s2) E s1) E s)
    (he : starEach (e :: rest) env = (false, eval e env) :: starEach rest env := by rfl)
    (hplain : (backTo pos (starEach (e :: rest) env)).any (·.1) = false := by rfl)
    (hall : (backToKw pos (keywordEach kws env)).all (·.1.isSome) = true := by rfl)
    (hkw : (backToKw pos (keywordEach kws env)).any (·.1.isNone) = false := by rfl) :
    wpAny M A (callWith pos (.type T) [] (backTo pos (starEach (e :: rest) env)) (backToKw pos (keywordEach kws env))) Q E s := by
  refine callWith_type_kwB hplain hkw ?_
  rw [he] at h ⊢
  exact PyProof.Rows.evalArgs_kwB hall h
end
/-- enumerate(text, start=k): each sign in a new pair -/
def ItEs (x : Str) (k : Int) : It := ⟨fun i _ => i < x.cps.size, fun i H v H' => ∃ T c, x.cps[i]? = some c ∧ v = .ref T ∧ H T = none ∧ H' = upd H T (.tup [.int (k + (i : Int)), .str ⟨#[c]⟩]), fun i _ => x.cps.size ≤ i⟩
abbrev SignP (x : Str) : Nat → Value → Prop := fun i v => ∃ c u, x.cps[i]? = some c ∧ v = .str ⟨#[c]⟩ u
theorem drawsOf {prog : Program} {w : World} {A : Around} (hh : A.handled = none) (it : Addr) (x : Str) (t : Tok) : ∃ n, Draws prog w A it [it] n (SignP x) (fun i h => h.IsStrIter it (strIterType x) x t i) ∧ n = x.cps.size := by
  refine ⟨_, ?_, rfl⟩
  unfold strIterType
  cases ha : x.cps.all (· < 128)
  · first | exact Draws.strWide hh it x t | (simp only [ha]; exact Draws.strWide hh it x t)
  · first | exact Draws.strAscii hh it x t | (simp only [ha]; exact Draws.strAscii hh it x t)
theorem turn_enumS {P : Program} {w : World} {K : PySem.W.Frag} {elts : List Expr} {kk : Nat} {tpos : Pos} (x : Str) (t : Tok) (k : Int) (e it : Addr) (hne : e ≠ it) :
    Turn P w K (.Tuple elts kk tpos) (ItEs x k) [e, it] e (fun i h => i ≤ x.cps.size ∧ (∃ old, IsEnum h e it (k + (i : Int)) old) ∧ h.IsStrIter it (strIterType x) x t i) where
  mem := by simp
  obj := fun i h st b hb => by
    obtain ⟨_, ⟨old, he⟩, ⟨o, ho, hc, hd⟩⟩ := st
    have e' : b = e ∨ b = it := by simpa using hb
    rcases e' with z | z
    · rw [z]; exact ⟨_, he, fun v q => nomatch q⟩
    · rw [z]; exact ⟨o, ho, fun v q => by rw [hd] at q; cases q⟩
  keep := fun i h h' st kk => by
    obtain ⟨hi, ⟨old, he⟩, ⟨o, ho, r⟩⟩ := st
    exact ⟨hi, ⟨old, kk e (by simp) _ he⟩, ⟨o, kk it (by simp) o ho, r⟩⟩
  item := by
    intro X hP hw hK hc i pins s σ H E I hf st hg
    subst hP hw hK
    obtain ⟨hi, st1, st2⟩ := st
    have hh : X.A.in1.handled = none := I.ok.hd hc
    obtain ⟨n, D, hn⟩ := drawsOf (prog := X.prog) (w := X.w) hh it x t
    have W := GoesN.enumFrom (elts := elts) (x1 := kk) (pos := tpos) k D e hne (by simpa using hne) (by simp)
    have hel : e < s.heap.objs.size := by obtain ⟨_, he⟩ := st1; exact Heap.lt_size he
    have hil : it < s.heap.objs.size := by obtain ⟨_, q, _⟩ := st2; exact Heap.lt_size q
    refine wpAny_mono (W.goes i s (fun v s2 => ∃ y H', Inv X pins σ H' s2 ∧ RelV y v ∧ (ItEs x k).yld i H y H' ∧ (i + 1 ≤ x.cps.size ∧ (∃ old, IsEnum s2.heap e it (k + ((i + 1 : Nat) : Int)) old) ∧ s2.heap.IsStrIter it (strIterType x) x t (i + 1)) ∧ ∀ b ∈ [e, it], H' b = none) E (by rw [hn]; exact hg) ⟨st1, st2⟩ ?_) (fun r s1 q => q) fun _ _ q => q
    rintro v h' tk ⟨T, t1, y, rfl, hT0, ⟨c, u, hcx, rfl⟩, hT⟩ ⟨he', hit'⟩ hk htk
    obtain ⟨oT, hoT, hcT, nT, hdT⟩ := hT
    have hsm : H T = none := I.hok.fresh hT0
    have new : ObjOk X.prog X.w (upd H T (.tup [.int (k + (i : Int)), .str ⟨#[c]⟩])) h' T (.tup [.int (k + (i : Int)), .str ⟨#[c]⟩]) :=
      ⟨by show 2 ≤ sizeLine; decide, [.int (k + (i : Int)) t1, .str ⟨#[c]⟩ u], .cons ⟨_, rfl⟩ (.cons ⟨_, rfl⟩ .nil), ⟨oT, hoT, hcT, nT, hdT⟩⟩
    have I1 : Inv X pins σ (upd H T (.tup [.int (k + (i : Int)), .str ⟨#[c]⟩])) { s with heap := h', toks := tk } :=
      I.turnedNew (ch := [e, it]) (fun b ob hb q => hk b ob hb q) hf hT0 new
    refine ⟨.ref T, _, I1, rfl, ⟨T, c, hcx, rfl, hsm, rfl⟩, ⟨hg, he', hit'⟩, fun b hb => ?_⟩
    have hb' : b < s.heap.objs.size := by
      have e' : b = e ∨ b = it := by simpa using hb
      rcases e' with z | z
      · rw [z]; exact hel
      · rw [z]; exact hil
    rw [upd_ne (Nat.ne_of_lt (Nat.lt_of_lt_of_le hb' hT0))]
    exact (hf b hb).1
  done := by
    intro X hP hw hK hc i pins s σ H E I hf st hg
    subst hP hw hK
    obtain ⟨hi, st1, st2⟩ := st
    have hh : X.A.in1.handled = none := I.ok.hd hc
    obtain ⟨n, D, hn⟩ := drawsOf (prog := X.prog) (w := X.w) hh it x t
    have W := GoesN.enumFrom (elts := elts) (x1 := kk) (pos := tpos) k D e hne (by simpa using hne) (by simp)
    have hin : i = n := by rw [hn]; exact Nat.le_antisymm hi hg
    subst hin
    obtain ⟨f0, f1, f2, f3, f4, f5⟩ := hf it (by simp)
    refine wpAny_mono (W.stops s (fun s1 => Inv X pins σ H s1) E ⟨st1, st2⟩ fun h' tk hk htk => ?_) (fun r s1 q => q) fun _ _ q => q
    exact I.turnedL (ch := [e, it]) hk hf
  self := fun A i s Q E st h => let ⟨_, ⟨_, he⟩, _⟩ := st; wpAny_pyIter_enum he h

def iEnumS (ta tk : TA) : TI := fun σ H R => ta σ H fun vs H1 => tk σ H1 fun zs H2 => ∃ x k, vs = [.str x] ∧ zs = [.int k] ∧ -(2 ^ 63) ≤ k ∧ k < 2 ^ 63 ∧ R (ItEs x k) H2
theorem pi_enumS {X : Cx} {e : Expr} {ta tk : TA} {p pos tpos : Pos} {elts : List Expr} {kk : Nat} {kws : List Keyword} (hg : Gl X "enumerate") (hm : X.mg "enumerate" = none) (ha : PA X [e] ta) (hk : PK X kws tk)
    (hs : starEach [e] X.env = (false, eval e X.env) :: starEach [] X.env := by rfl) (hpl : (backTo pos (starEach [e] X.env)).any (·.1) = false := by rfl)
    (hall : (backToKw pos (keywordEach kws X.env)).all (·.1.isSome) = true := by rfl) (hnone : (backToKw pos (keywordEach kws X.env)).any (·.1.isNone) = false := by rfl)
    (hks : (backToKw pos (keywordEach kws X.env)).filterMap (·.1) = [Str.ofString "start"] := by rfl) :
    PI X (.Tuple elts kk tpos) (.Call (.Name "enumerate" p) [e] kws pos) (iEnumS ta tk) := by
  refine ⟨fun pins s σ H R I h => ?_⟩
  refine wpAny_Call_Name_kw (ld_blt I hg hm boot_enumerate ?_)
  refine callWith_type_kw (thn (ha.run pos pins s σ H _ I h) fun us s1 ⟨vs, H1, I1, r1, q1⟩ => thn (hk.run pos pins s1 σ H1 _ I1 q1) fun ws s2 ⟨zs, H2, I2, r2, q2⟩ => ?_) hs hpl hall hnone
  rw [hks]
  obtain ⟨x, k, rfl, rfl, k0, k1, q⟩ := q2
  cases r1 with
  | cons ra rr =>
  cases rr
  cases r2 with
  | cons rb rr =>
  cases rr
  obtain ⟨t, rfl⟩ := ra
  obtain ⟨t2, rfl⟩ := rb
  show wpAny _ _ (call (.type "enumerate") [.str x t] [(Str.ofString "start", .int k t2)]) _ _ _
  refine enum_begins_start (begins_text x t) trivial k0 k1 fun h' he hit hsz hkeep => wpAny_pyIter_enum he ?_
  have I3 : Inv X pins σ H2 { s2 with heap := h' } := I2.kept (t' := s2.toks) hkeep
  refine ⟨s2.heap.objs.size + 1, [s2.heap.objs.size + 1, s2.heap.objs.size], _, _, H2, rfl, I3, turn_enumS x t k (s2.heap.objs.size + 1) s2.heap.objs.size (Nat.succ_ne_self _), ⟨Nat.zero_le _, ⟨.none, ?_⟩, ⟨_, hit, rfl, ?_⟩⟩, fun b hb => ?_, q⟩
  · simpa using he
  · rfl
  · have e' : b = s2.heap.objs.size + 1 ∨ b = s2.heap.objs.size := by simpa using hb
    have hle : s2.heap.objs.size ≤ b := by
      rcases e' with z | z
      · rw [z]; exact Nat.le_add_right _ _
      · rw [z]; exact Nat.le_refl _
    exact I2.fpOk hle (I2.hok.fresh hle)
/-! ### text * int -/
theorem mul_len {x : Str} {n : Int} (h0 : 0 ≤ n) : (Txt.mul x n).length ≤ x.length * n.toNat := by
  unfold Txt.mul
  by_cases h1 : n < 1
  · rw [if_pos h1]; exact Nat.zero_le _
  · rw [if_neg h1]
    by_cases h2 : (n == 1 || x.length == 0) = true
    · rw [if_pos h2]
      have : 1 ≤ n.toNat := by omega
      exact Nat.le_mul_of_pos_right _ this
    · rw [if_neg h2]
      show ((List.replicate n.toNat x.cps).foldl (· ++ ·) #[]).size ≤ x.length * n.toNat
      rw [size_reps]
      show 0 + n.toNat * x.cps.size ≤ x.cps.size * n.toNat
      rw [Nat.mul_comm]
      omega
theorem op_mulS {X : Cx} : OpR X (binaryOp .Mult) (fun x y H Q => ∃ z k, x = .str z ∧ y = .int k ∧ 0 ≤ k ∧ k ≤ 16777216 ∧ z.length * k.toNat ≤ sizeLine ∧ Q (.str (Txt.mul z k)) H) := by
  intro pins s σ H x y v u Q I rx ry h
  obtain ⟨z, k, rfl, rfl, k0, k1, hz, q⟩ := h
  obtain ⟨t, rfl⟩ := rx
  obtain ⟨t', rfl⟩ := ry
  refine SB.mul ⟨?_, fun h1 h2 h3 => ?_, fun _ _ => ?_⟩ fun t2 tk => ⟨.str (Txt.mul z k), H, I.tok _, ⟨_, rfl⟩, q⟩
  · rw [decide_eq_false (by omega), decide_eq_false (by omega)]; rfl
  · have hk1 : 1 ≤ k.toNat := by omega
    have h4 : z.length ≤ z.length * k.toNat := Nat.le_mul_of_pos_right _ hk1
    have h5 : sizeLine = 16777216 := by decide
    have e : ((z.length * k.toNat : Nat) : Int) = (z.length : Int) * k := by rw [Int.natCast_mul, Int.toNat_of_nonneg k0]
    have h6 : (z.length : Int) ≤ (2 ^ 63 - 1) / k := Int.le_ediv_of_mul_le (by omega) (by omega)
    omega
  · unfold Builtin.Str.tooLong
    exact decide_eq_false (by omega)
/-! ### text[::-1] -/
def revS (x : Str) : Str := ⟨x.cps.toList.reverse.toArray⟩
theorem revS_len (x : Str) : (revS x).length = x.length := by
  show x.cps.toList.reverse.toArray.size = x.cps.size
  simp
theorem sliceBy_rev (x : Str) (u : Tok) : Txt.sliceBy x none none (-1, u) = revS x := by
  refine TL.ext_tl ?_
  show (Txt.sliceBy x none none (-1, u)).cps.toList = x.cps.toList.reverse
  rw [step_rev_list]
  refine List.ext_getElem (by simp [Str.length]) fun i h1 h2 => ?_
  have hi : i < x.cps.size := by simpa [Str.length] using h1
  have hj : x.length - 1 - i < x.cps.size := by
    show x.cps.size - 1 - i < x.cps.size
    omega
  simp only [List.getElem_map, List.getElem_range, List.getElem_reverse, Array.getElem_toList]
  show x.cps.getD (x.length - 1 - i) 0 = _
  unfold Array.getD
  rw [dif_pos hj]
  rfl
def tRevS (te : TE) : TE := fun σ H Q => te σ H fun x H1 => ∃ z, x = .str z ∧ z.length ≤ sizeLine ∧ Q (.str (revS z)) H1
theorem pe_revS {X : Cx} {e : Expr} {te : TE} {k : Nat} {p1 p2 p3 pos : Pos} (he : PE X e te) : PE X (.Subscript e (.Slice none none (some (.UnaryOp .USub (.Constant (.int 1) k p1) p2)) p3) pos) (tRevS te) := by
  refine ⟨fun pins s σ H Q I h => ?_⟩
  refine Subscript_ (thn (he.run pins s σ H _ I h) fun v s1 ⟨x, H1, I1, r1, q1⟩ => ?_)
  obtain ⟨z, rfl, hz, q⟩ := q1
  obtain ⟨t, rfl⟩ := r1
  have hst : PO X (some (.UnaryOp .USub (.Constant (.int 1) k p1) p2)) (tPart (tUn (rU fun i => .int (-i)) (tC (.int 1)))) := po_some (pe_un un_neg pe_int)
  refine wpAny_Slice (thn (po_none.run pins s1 σ H1 (fun o H2 => o = none ∧ H2 = H1) I1 ⟨rfl, rfl⟩) fun vl s2 ⟨l, H2, I2, pl, el, e2⟩ => ?_)
  subst el e2
  refine thn (po_none.run pins s2 σ H2 (fun o H3 => o = none ∧ H3 = H2) I2 ⟨rfl, rfl⟩) fun vu s3 ⟨u, H3, I3, pu, eu, e3⟩ => ?_
  subst eu e3
  refine thn (hst.run pins s3 σ H3 (fun o H4 => o = some (-1) ∧ H4 = H3) I3 ⟨1, rfl, -1, rfl, rfl, rfl⟩) fun vs s4 ⟨o, H4, I4, ps, eo, e4⟩ => ?_
  subst eo e4
  have I5 : Inv X pins σ H4 { s4 with heap := s4.heap.push { cls := .type "slice", data := .fields #[vl, vu, vs] } } := I4.kept (t' := s4.toks) fun b ob q => Heap.get?_push_of_some _ q
  obtain ⟨l, rfl, hl⟩ := IsPart.raw pl
  obtain ⟨w, rfl, hw⟩ := IsPart.raw pu
  obtain ⟨st, rfl, hst2⟩ := IsPart.raw ps
  have el : l = none := by cases l with | none => rfl | some _ => cases hl
  have ew : w = none := by cases w with | none => rfl | some _ => cases hw
  obtain ⟨tk, est⟩ : ∃ tk, st = some (-1, tk) := by
    cases st with
    | none => cases hst2
    | some p =>
      obtain ⟨a, b⟩ := p
      have : a = -1 := Option.some.inj hst2
      exact ⟨b, by rw [this]⟩
  subst el ew est
  show wpAny (model X.prog X.w) X.A (subscriptTail e (.Slice none none (some (.UnaryOp .USub (.Constant (.int 1) k p1) p2)) p3) (.str z t) (.ref s4.heap.objs.size)) (EP X pins σ Q) X.xe { s4 with heap := s4.heap.push { cls := .type "slice", data := .fields #[partValue none, partValue none, partValue (some (-1, tk))] } }
  refine tail_any (ops := [.ref s4.heap.objs.size, .str z t]) (typeIs_str _ _ _) F.slot_str_getitem.lookup ?_ (by with_unfolding_all rfl)
  refine wpAny_getItem_str_slice (l := none) (u := none) (st := some (-1, tk)) ⟨_, Heap.get?_push_size _ rfl, rfl, rfl⟩ rfl ?_
  have hlen : (Txt.sliceBy z none none (-1, tk)).length ≤ sizeLine := by rw [sliceBy_rev, revS_len]; exact hz
  have hr := sliceBy_rev z tk
  unfold Txt.sliceBy at hr hlen
  unfold sliceMade
  have hc : ¬ ((((some ((-1 : Int), tk)).map (·.1)).getD 1 == 1 && (slicePicked z none none (some (-1, tk))).length == z.length) = true) := by
    have : ((((some ((-1 : Int), tk)).map (·.1)).getD 1 == 1)) = false := rfl
    rw [this]; simp
  rw [if_neg hc] at hr hlen ⊢
  exact ⟨hlen, .str _, H4, I5.tok _, ⟨_, rfl⟩, by rw [hr]; exact q⟩
/-! ### great powers -/
def CPowB (i j : Int) : Prop := 0 ≤ j ∧ (Builtin.Int.intBits i : Int) * j ≤ 2 ^ 27
theorem op_powB {X : Cx} : OpR X (binaryOp .Pow) (rI CPowB fun i j => .int (i ^ j.toNat)) := opI fun _ _ _ _ _ _ _ hc q => pow_int hc.1 hc.2 q
/-! ### a list's items behind a written text's sum: a token is out -/
theorem pa_litAdd {X : Cx} {b : Expr} {es : List Expr} {tb : TE} {ta : TA} {x : Str} {j : Nat} {cp bp : Pos} (hb : PE X b tb) (hr : PAT X es ta)
    (hs : starEach (.BinOp (.Constant (.str x) j cp) .Add b bp :: es) X.env = (false, eval (.BinOp (.Constant (.str x) j cp) .Add b bp) X.env) :: starEach es X.env := by rfl) :
    PA X (.BinOp (.Constant (.str x) j cp) .Add b bp :: es) (tCons (tOp (fun u v H Q => ∃ i k, u = .str i ∧ v = .str k ∧ i.length + k.length ≤ sizeLine ∧ Q (.str (i ++ k)) H) (tC (.str x)) tb) ta) := by
  refine ⟨fun pos pins s σ H Q I h => ?_⟩
  rw [hs]
  show wpAny _ _ (spliced ((false, eval (.BinOp (.Constant (.str x) j cp) .Add b bp) X.env) :: backTo pos (starEach es X.env))) _ _ s
  refine Calls.spliced_cons (wpAny_BinOp (Calls.Constant_str ?_))
  have I1 : Inv X pins σ H { s with toks := s.toks + 1 } := I.tok _
  refine wpAny_mono (PySem.wpAny_toks (hb.run pins { s with toks := s.toks + 1 } σ H _ I1 h)) (fun u s2 q => ?_) fun _ _ z => z.2
  obtain ⟨hk, y, H2, I2, r2, q2⟩ := q
  refine wpAny_mono (PySem.wpAny_toks (op_add_str pins s2 σ H2 (.str x) y (.str x s.toks) u (fun w H3 => ta σ H3 fun xs H4 => Q (w :: xs) H4) I2 ⟨_, rfl⟩ r2 q2)) (fun v s3 q => ?_) fun _ _ z => z.2
  obtain ⟨hk3, w, H3, I3, r3, q3⟩ := q
  have h1 : 1 ≤ s3.toks := by
    have : s.toks + 1 ≤ s2.toks := hk
    omega
  exact thn (hr pos pins s3 σ H3 _ h1 I3 q3) fun us s4 ⟨xs, H4, I4, r4, q4⟩ => ⟨w :: xs, H4, I4, .cons r3 r4, q4⟩
end Ev

set_option maxHeartbeats 2000000
namespace Vl
open PySem PySem.Spec PyProof.Rows L2 TL
open Ev (pe_revS revS revS_len)
abbrev sSpoilt : Stmt := top 27
theorem scSpoilt : FnScope ["hand", "written", "signs", "at", "way", "sign"] ["hand", "written"] (defScope sSpoilt) := ⟨rfl, rfl, rfl, by decide +kernel, rfl, by decide +kernel, by decide +kernel⟩
theorem cu1 (t : Str) (k : Nat) : tl (cutS t none (some (k : Int))) = (tl t).take k := by
  show ((t.cps.toList.drop (HT.sIx t.length 0 none)).take (HT.sIx t.length t.length (some (k : Int)) - HT.sIx t.length 0 none)).toArray.toList = _
  rw [HT.sIx_none, HT.sIx_nat, List.drop_zero, Nat.sub_zero]
  show t.cps.toList.take (min k t.length) = t.cps.toList.take k
  have hl : t.length = t.cps.toList.length := len_tl t
  rw [hl]
  by_cases h : k ≤ t.cps.toList.length
  · rw [Nat.min_eq_left h]
  · rw [Nat.min_eq_right (by omega), List.take_length, List.take_of_length_le (by omega)]
theorem cu2 (t : Str) (k : Nat) : tl (cutS t (some (k : Int)) none) = (tl t).drop k := by
  show ((t.cps.toList.drop (HT.sIx t.length 0 (some (k : Int)))).take (HT.sIx t.length t.length none - HT.sIx t.length 0 (some (k : Int)))).toArray.toList = _
  rw [HT.sIx_none, HT.sIx_nat]
  show (t.cps.toList.drop (min k t.length)).take (t.length - min k t.length) = t.cps.toList.drop k
  have hl : t.length = t.cps.toList.length := len_tl t
  rw [hl, List.take_of_length_le (by rw [List.length_drop]; omega)]
  by_cases h : k ≤ t.cps.toList.length
  · rw [Nat.min_eq_left h]
  · rw [Nat.min_eq_right (by omega), List.drop_length, List.drop_eq_nil_of_le (by omega)]
theorem cu3 (t : Str) (k j : Nat) : tl (cutS t (some (k : Int)) (some ((k + j : Nat) : Int))) = ((tl t).drop k).take j := by
  show ((t.cps.toList.drop (HT.sIx t.length 0 (some (k : Int)))).take (HT.sIx t.length t.length (some ((k + j : Nat) : Int)) - HT.sIx t.length 0 (some (k : Int)))).toArray.toList = _
  rw [HT.sIx_nat, HT.sIx_nat]
  show (t.cps.toList.drop (min k t.length)).take (min (k + j) t.length - min k t.length) = (t.cps.toList.drop k).take j
  have hl : t.length = t.cps.toList.length := len_tl t
  rw [hl]
  by_cases h : k ≤ t.cps.toList.length
  · rw [Nat.min_eq_left h]
    by_cases h2 : k + j ≤ t.cps.toList.length
    · rw [Nat.min_eq_left h2, show k + j - k = j by omega]
    · rw [Nat.min_eq_right (by omega), List.take_of_length_le (l := t.cps.toList.drop k) (i := j) (by rw [List.length_drop]; omega), List.take_of_length_le (by rw [List.length_drop]; omega)]
  · rw [Nat.min_eq_right (by omega), Nat.min_eq_right (by omega), List.drop_length, List.drop_eq_nil_of_le (as := t.cps.toList) (i := k) (by omega)]
    simp
theorem nb_split (l : List Nat) (k : Nat) : nb (l.take k) + nb (l.drop k) = nb l := by
  rw [← nb_app, List.take_append_drop]
theorem nb_sub (l : List Nat) (k j : Nat) : nb (l.drop (k + j)) ≤ nb (l.drop k) := by
  have := nb_split (l.drop k) j
  rw [List.drop_drop] at this
  omega
theorem nb_rev (x : Str) : nb (tl (revS x)) = nb (tl x) := by
  show nb (x.cps.toList.reverse.toArray.toList) = _
  show (x.cps.toList.reverse).countP _ = _
  rw [List.countP_reverse]
  rfl
def spSpoilt : Sp := fun vs H Q _ => ∃ (h : Addr) (t : Str) (n : Nat), vs = [.ref h, .str t] ∧ HandAt H h n ∧ t.length ≤ 1000000 ∧ n + 3 ≤ 900000 ∧ ∀ H' z, But h H H' → HandAt H' h (n + 3) → z.length ≤ 3 * t.length + 2 → nb (tl z) ≤ nb (tl t) + 2 → Q (.str z) H'
section
variable {P : Program} {w : World} {K : PySem.W.Frag} {mg : Str → Option Value} {base : Heap}
theorem ok_spoilt {f fA fP : Addr} {fd fdA fdP : FuncData} {k : Nat} (F : FnP K "_law_spoilt" sSpoilt f fd) (FA : FnP K "_law_alphabet" sAlpha fA fdA) (gA : mg "_law_alphabet" = some (.ref fA)) (GA : FnOk P w K mg base CX0 k fA fdA [] spAlpha)
    (FP : FnP K "_law_pick" sPick fP fdP) (gP : mg "_law_pick" = some (.ref fP)) (GP : FnOk P w K mg base CX0 k fP fdP ["hand", "many"] spPick) (ml : mg "len" = none) :
    FnOk P w K mg base CX0 (k + 1) f fd ["hand", "written"] spSpoilt := by
  have bA : Binds K fdA [] [] := FA.bindsN fun _ _ _ _ _ _ us hl => match us, hl with | [], _ => rfl
  have bP : Binds K fdP ["hand", "many"] [] := FP.bindsN fun _ _ _ _ _ _ us hl => match us, hl with | [_, _], _ => rfl
  refine F.ok scSpoilt (fun vs H Q E h => ?_) (fun cdv A outer s H vs Q E hr h => ?_)
  · obtain ⟨h, t, n, rfl, _⟩ := h
    rfl
  · obtain ⟨h, t, n, rfl, hA, ht, hn, q⟩ := h
    have hs := szl
    refine ⟨_, PSs.nox (pss_cons (ps_set (i := 2) scSpoilt.nd rfl (.inl rfl) (pe_op op_add_str (pe_call0 GA hr (by rfl) gA FA.kp bA .nil pass0) pe_str))
      (pss_cons (ps_par (i := 3) (j := 4) rfl scSpoilt.nd rfl rfl (by decide) rfl rfl (pa_cons (pe_call GP hr (by rfl) gP FP.kp bP .nil pass0 (pa_cons (pv 0) (pa_cons (pe_op op_add (pe_callB call_len_str (by rfl) ml PySem.boot_len (pa_cons (pv 1) pa_nil)) pe_int) pa_nil)))
          (pa_cons (pe_call GP hr (by rfl) gP FP.kp bP .nil pass0 (pa_cons (pv 0) (pa_cons pe_int pa_nil))) pa_nil)) (by rfl))
      (pss_cons (ps_set (i := 5) scSpoilt.nd rfl (.inl rfl) (pe_ix ix_str (pv 2) (pe_call GP hr (by rfl) gP FP.kp bP .nil pass0 (pa_cons (pv 0) (pa_cons (pe_callB call_len_str (by rfl) ml PySem.boot_len (pa_cons (pv 2) pa_nil)) pa_nil))) (fun _ _ => rfl)))
      (pss_cons (ps_if (pt_cmpR op_eq (pv 4) pe_int (nomark _)) (pss_one (ps_ret (pe_op op_add_str (pe_op op_add_str (pe_slice sl_str (pv 1) po_none (po_some (pv 3))) (pv 5)) (pe_slice sl_str (pv 1) (po_some (pv 3)) po_none)))) pss_nil)
      (pss_cons (ps_if (pt_cmpR op_eq (pv 4) pe_int (nomark _)) (pss_one (ps_ret (pe_op op_add_str (pe_slice sl_str (pv 1) po_none (po_some (pv 3))) (pe_slice sl_str (pv 1) (po_some (pe_op op_add (pv 3) pe_int)) po_none)))) pss_nil)
      (pss_cons (ps_if (pt_cmpR op_eq (pv 4) pe_int (nomark _)) (pss_one (ps_ret (pe_op op_add_str (pe_op op_add_str (pe_slice sl_str (pv 1) po_none (po_some (pv 3))) (pv 5)) (pe_slice sl_str (pv 1) (po_some (pe_op op_add (pv 3) pe_int)) po_none)))) pss_nil)
      (pss_cons (ps_if (pt_cmpR op_eq (pv 4) pe_int (nomark _)) (pss_one (ps_ret (pe_op op_add_str (pe_op op_add_str (pe_slice sl_str (pv 1) po_none (po_some (pv 3))) (pe_slice sl_str (pv 1) (po_some (pv 3)) (po_some (pe_op op_add (pv 3) pe_int)))) (pe_slice sl_str (pv 1) (po_some (pv 3)) po_none)))) pss_nil)
      (pss_cons (ps_if (pt_cmpR op_eq (pv 4) pe_int (nomark _)) (pss_one (ps_ret (pe_op op_add_str (pe_op op_add_str (pe_slice sl_str (pv 1) po_none (po_some (pv 3))) (pe_revS (pe_slice sl_str (pv 1) (po_some (pv 3)) (po_some (pe_op op_add (pv 3) pe_int))))) (pe_slice sl_str (pv 1) (po_some (pe_op op_add (pv 3) pe_int)) po_none)))) pss_nil)
      (pss_one (ps_ret (pe_slice sl_str (pv 1) po_none (po_some (pv 3))))))))))))), ?_⟩
    refine ⟨rfl, fun al hal _ => ⟨al, _, rfl, rfl, by rw [hal]; decide +kernel, ?_⟩⟩
    have cl : ∀ lo hi, (cutS t lo hi).length ≤ t.length := cutS_length t
    refine ⟨_, rfl, _, rfl, t, rfl, by omega, (t.length : Int), 1, rfl, rfl, h, (t.length : Int) + 1, n, rfl, hA, by omega, by omega, by omega, fun H1 d1 b1 A1 d10 d11 => ?_⟩
    refine ⟨_, rfl, h, 6, n + 1, rfl, A1, by omega, by omega, by omega, fun H2 d2 b2 A2 d20 d21 => ⟨_, _, rfl, ?_⟩⟩
    refine ⟨_, rfl, _, rfl, _, rfl, _, rfl, by rw [app_len, hal]; decide +kernel, h, _, n + 1 + 1, rfl, A2, by omega, by rw [app_len, hal]; decide +kernel, by rw [app_len, hal]; decide +kernel, fun H3 d3 b3 A3 d30 d31 => ?_⟩
    obtain ⟨kk, rfl⟩ := Int.eq_ofNat_of_zero_le d10
    obtain ⟨c, xc, _⟩ := atI_in d30 (show d3 < (((al ++ _ : Str).cps.toList).length : Int) by rw [Array.length_toList]; exact d31)
    have bb : But h H H3 := (b1.trans b2).trans b3
    have fin : ∀ z : Str, z.length ≤ 3 * t.length + 2 → nb (tl z) ≤ nb (tl t) + 2 → Q (.str z) H3 := fun z hz hb => q H3 z bb A3 hz hb
    have sp := nb_split (tl t) kk
    have sp2 := nb_split ((tl t).drop kk) 2
    rw [List.drop_drop] at sp2
    have sb1 := nb_sub (tl t) kk 1
    have nc : nb (tl (⟨#[c]⟩ : Str)) ≤ 1 := nb_le [c]
    have k1 : ((kk : Int) + 1) = ((kk + 1 : Nat) : Int) := rfl
    have k2 : ((kk : Int) + 2) = ((kk + 2 : Nat) : Int) := rfl
    have t1 : nb (((tl t).drop kk).take 1) ≤ 1 := Nat.le_trans (nb_le _) (by rw [List.length_take]; omega)
    have l1 : (⟨#[c]⟩ : Str).length = 1 := rfl
    refine ⟨_, d3, c, rfl, rfl, by rw [app_len, hal]; decide +kernel, xc, ?_⟩
    have tz : t.length ≤ sizeLine := by omega
    have z1 : ∀ {x y : Str} {a b : Nat}, x.length ≤ a → y.length ≤ b → a + b ≤ 16777216 → x.length + y.length ≤ sizeLine := fun h1 h2 h3 => by omega
    have c1 : (⟨#[c]⟩ : Str).length ≤ 1 := by omega
    have a1 : ∀ {x y : Str} {a b : Nat}, x.length ≤ a → y.length ≤ b → (x ++ y).length ≤ a + b := fun {x y a b} h1 h2 => by
      rw [app_len]
      omega
    -- a sign put in
    refine ⟨_, rfl, rfl, _, rfl, ite2 (fun _ => ?_) (fun _ => ?_)⟩
    · exact ⟨_, rfl, _, rfl, _, rfl, t, rfl, tz, _, rfl, _, _, rfl, rfl, z1 (cl _ _) c1 (by omega), _, rfl, _, rfl, _, rfl, t, rfl, tz, _, _, rfl, rfl, z1 (a1 (cl _ _) c1) (cl _ _) (by omega), fin _ (Nat.le_trans (a1 (a1 (cl _ _) c1) (cl _ _)) (by omega)) (by rw [tl_append, tl_append, nb_app, nb_app, cu1, cu2]; omega)⟩
    -- left out
    refine ⟨_, rfl, rfl, _, rfl, ite2 (fun _ => ?_) (fun _ => ?_)⟩
    · exact ⟨_, rfl, _, rfl, _, rfl, t, rfl, tz, _, rfl, _, rfl, _, 1, rfl, rfl, _, rfl, t, rfl, tz, _, _, rfl, rfl, z1 (cl _ _) (cl _ _) (by omega), fin _ (Nat.le_trans (a1 (cl _ _) (cl _ _)) (by omega)) (by rw [tl_append, nb_app, k1, cu1, cu2]; omega)⟩
    -- over
    refine ⟨_, rfl, rfl, _, rfl, ite2 (fun _ => ?_) (fun _ => ?_)⟩
    · exact ⟨_, rfl, _, rfl, _, rfl, t, rfl, tz, _, rfl, _, _, rfl, rfl, z1 (cl _ _) c1 (by omega), _, rfl, _, rfl, _, 1, rfl, rfl, _, rfl, t, rfl, tz, _, _, rfl, rfl, z1 (a1 (cl _ _) c1) (cl _ _) (by omega), fin _ (Nat.le_trans (a1 (a1 (cl _ _) c1) (cl _ _)) (by omega)) (by rw [tl_append, tl_append, nb_app, nb_app, k1, cu1, cu2]; omega)⟩
    -- twice
    refine ⟨_, rfl, rfl, _, rfl, ite2 (fun _ => ?_) (fun _ => ?_)⟩
    · exact ⟨_, rfl, _, rfl, _, rfl, t, rfl, tz, _, rfl, _, rfl, _, rfl, _, rfl, _, 1, rfl, rfl, _, rfl, t, rfl, tz, _, _, rfl, rfl, z1 (cl _ _) (cl _ _) (by omega), _, rfl, _, rfl, _, rfl, t, rfl, tz, _, _, rfl, rfl, z1 (a1 (cl _ _) (cl _ _)) (cl _ _) (by omega), fin _ (Nat.le_trans (a1 (a1 (cl _ _) (cl _ _)) (cl _ _)) (by omega)) (by rw [tl_append, tl_append, nb_app, nb_app, k1, cu1, cu2, cu3]; omega)⟩
    -- exchanged
    refine ⟨_, rfl, rfl, _, rfl, ite2 (fun _ => ?_) (fun _ => ?_)⟩
    · have rl : ∀ lo hi, (revS (cutS t lo hi)).length ≤ t.length := fun lo hi => by
        rw [revS_len]
        exact cl lo hi
      exact ⟨_, rfl, _, rfl, _, rfl, t, rfl, tz, _, rfl, _, rfl, _, rfl, _, rfl, _, 2, rfl, rfl, _, rfl, t, rfl, tz, _, rfl, Nat.le_trans (cl _ _) tz, _, _, rfl, rfl, z1 (cl _ _) (rl _ _) (by omega), _, rfl, _, rfl, _, 2, rfl, rfl, _, rfl, t, rfl, tz, _, _, rfl, rfl, z1 (a1 (cl _ _) (rl _ _)) (cl _ _) (by omega), fin _ (Nat.le_trans (a1 (a1 (cl _ _) (rl _ _)) (cl _ _)) (by omega)) (by rw [tl_append, tl_append, nb_app, nb_app, nb_rev, k2, cu1, cu2, cu3]; omega)⟩
    -- the rest cut off
    · exact ⟨_, rfl, _, rfl, _, rfl, t, rfl, tz, fin _ (Nat.le_trans (cl _ _) (by omega)) (by rw [cu1]; omega)⟩
end
end Vl

set_option autoImplicit false
set_option maxHeartbeats 4000000
namespace Kx
open PySem PySem.Spec PyProof.Rows L2
abbrev reB : List Value := [.type "RuntimeError", .type "Exception", .type "BaseException", .type "object"]
/-- what the written part says of a class over RuntimeError with an __init__ of its own -/
structure RexC (K : PySem.W.Frag) (C : Addr) : Prop where
  ini : PySem.W.excInitIn K C reB "RuntimeError.__new__" = true
  ovr : PySem.W.excOver K C reB = true
  hd : PySem.W.hasDictIn K C = true
  sa : PySem.W.findIn K (.ref C) "__setattr__" = some (some (.builtin "object.__setattr__"))
  exC : PySem.W.subIn K (.ref C) (.type "BaseException") = some true
  tyC : PySem.W.typeIn K (.ref C) = some (.type "type")
  kC : PySem.W.keepIn K (.ref C) = true
section
open Builtin Builtin.ObjectAttr PySem.W
variable {prog : Program} {w : World} {A : Around} {R : Result → Shared → Prop} {hp : Heap} {g : Array GenState} {d : Drawn} {t : Nat} {os : OsState}
/-- the first field of an exception, whatever its built-in base -/
theorem first_field {B : String} {bmB : List Value} (SF : StoreFacts B bmB "object.__setattr__" "object") {K : PySem.W.Frag} {name : Str} {tk : Tok} {v : Value} {x C : Addr} {fv : Array Value} (X : K.In hp) (hx : hp.get? x = some { cls := .ref C, data := .fields fv })
    (ov : PySem.W.excOver K C bmB = true) (hd : PySem.W.hasDictIn K C = true) (ht : PySem.W.takerIn K C name = some none)
    (hq : ∀ h' tk' dx, (∀ b o, b ≠ x → hp.get? b = some o → h'.get? b = some o) → hp.objs.size ≤ dx → dx ≠ x → h'.get? x = some { cls := .ref C, dict := some dx, data := .fields fv } →
      h'.Ns1 dx (fun y => if y = name then some v else none) → R (.ok (.ret .none)) ⟨h', g, d, tk', os⟩) :
    codeAny (model prog w) A (.call (.builtin "object.__setattr__") ⟨[.ref x, .str name tk, v], []⟩) R ⟨hp, g, d, t, os⟩ := by
  have I : PySem.W.InstAt hp x { cls := .ref C, data := .fields fv } C none := ⟨hx, rfl, rfl, trivial⟩
  have hxs : x ≠ hp.objs.size := Nat.ne_of_lt (Heap.lt_size hx)
  refine PySem.W.osa_openX (s := ⟨hp, g, d, t, os⟩) SF X I ov ht fun b => ?_
  obtain ⟨cd, hc, hh⟩ := PySem.W.any_some hd
  have hcls : PySem.W.Looks (model prog w) hp (classData C) cd := PySem.W.looks_clsIn X hc
  obtain ⟨nm, bs, mro, ns, qn, hd1, sn, sb, ab, col, del⟩ := cd
  dsimp only at hh
  subst hh
  unfold storeInOwnDict ownDictForStores
  repeat (first | with_reducible refine PySem.HandSPX.store_in_new ?_ ?_ | with_reducible refine wpAny_loadPart_at hx ?_ | with_reducible refine hcls.at ?_ | wp_step)
  · exact ⟨_, #[], _, (Heap.get?_update_ne _ _ _ _ hxs.symm).trans (Heap.get?_push_at rfl rfl), rfl, fun e he => absurd he (by simp), fun _ => rfl⟩
  · intro h' tk' hn' hs
    have hx₁ : (hp.push { cls := .type "dict", data := .dict #[] }).get? x = some { cls := .ref C, data := .fields fv } := Heap.get?_push_of_some _ hx
    refine hq h' tk' hp.objs.size (fun b o hb ho => ?_) (Nat.le_refl _) hxs.symm ?_ hn'
    · exact (hs.2 b (Nat.ne_of_lt (Heap.lt_size ho))).trans ((Heap.get?_update_ne _ _ _ _ hb).trans (Heap.get?_push_of_some _ ho))
    · exact (hs.2 x hxs).trans (Heap.get?_update_self _ hx₁ rfl)
end
section
variable {X : Cx} {pins : List (Addr × Obj)} {σ : L2.St} {H : Hp} {s : Shared} {a C dx : Addr} {f : Str} {y : V} {u : Value} {Q : Unit → Shared → Prop} {E : Value → Shared → Prop} {A : Around}
theorem osr_new (T : RexC X.K C) (I : Inv X pins σ H s) (e : H a = some (exo a C none)) (hno : PySem.W.takerIn X.K C f = some none) (ry : RelV y u)
    (h : ∀ dx s', H dx = none → dx ≠ a → Inv X pins σ (upd (upd H dx (exd dx [(f, y)])) a (exo a C (some dx))) s' → Q () s') : wpAny (model X.prog X.w) A (setAttr (.ref a) f u) Q E s := by
  obtain ⟨t1, ho⟩ := exo_at I.hok e
  obtain ⟨hp, g, d, t, os⟩ := s
  refine PySem.W.set_plain I.kIn (ox := { cls := .ref C, dict := none, data := .fields #[.ref t1, .none, .none, .none, .bool false, .none] }) (od := none) ⟨ho, rfl, rfl, trivial⟩ T.sa ?_
  refine first_field PySem.F.store_RuntimeError I.kIn ho T.ovr T.hd hno (fun h' tk' dx k dn dne hx hn => ?_)
  have hnd : H dx = none := I.hok.fresh dn
  have nd : ∀ {b : Addr} {o : Obj}, hp.get? b = some o → b ≠ dx := fun {b o} q => Nat.ne_of_lt (Nat.lt_of_lt_of_le (Heap.lt_size q) dn)
  have na : ∀ {b : Addr}, H b = none → b ≠ a := fun {b} n z => by
    rw [z, e] at n
    cases n
  refine h dx _ hnd dne (I.un (t' := tk') {
    keep := fun b o q n _ _ => k b o (na n) q
    slot := fun b o q n _ _ => ⟨o.slots, k b o (na n) q⟩
    free := fun b o q n _ => by rw [upd_ne (na n), upd_ne (nd q)]; exact n
    there := fun b o q _ => by
      by_cases hb : b = a
      · exact ⟨_, by rw [hb]; exact hx⟩
      · exact ⟨o, k b o hb q⟩
    tups := fun b xs q => by rw [upd_ne (at_ne e q exo_tup), upd_ne (ne_of_none q hnd)]; exact q
    frzs := fun b o v q => by rw [upd_ne (at_ne e q exo_frz), upd_ne (ne_of_none q hnd)]; exact q
    tbls := fun b ps q => ⟨#[], by rw [upd_ne (at_ne e q exo_tbl), upd_ne (ne_of_none q hnd), q]; simp⟩ } fun b o q => ?_)
  by_cases hb : b = a
  · subst hb
    rw [upd_same] at q
    cases q
    exact exo_ok hx
  · rw [upd_ne hb] at q
    by_cases hd : b = dx
    · subst hd
      rw [upd_same] at q
      cases q
      exact exd_ok hn (relO_put (fs := []) ry fun g => True.intro)
    · rw [upd_ne hd] at q
      exact (I.hok b o q).stay (fun c v hc z => k c v (by
          rcases hc with hc | hc
          · rw [hc]
            exact hb
          · exact at_ne e hc exo_own) z)
        (fun c hc => by rw [upd_ne (at_ne e hc exo_own), upd_ne (ne_of_none hc hnd)]; exact hc) (fun c xs hc => by rw [upd_ne (at_ne e hc exo_tup), upd_ne (ne_of_none hc hnd)]; exact hc)
end
def tOsr (K : PySem.W.Frag) (f : Str) (to te : TE) : TS := fun D σ H => te σ H fun y H1 => to σ H1 fun x H2 => ∃ a C : Addr, x = .ref a ∧ RexC K C ∧ PySem.W.takerIn K C f = some none ∧
  H2 a = some (exo a C none) ∧ ∀ dx, H2 dx = none → dx ≠ a → D.nx σ (upd (upd H2 dx (exd dx [(f, y)])) a (exo a C (some dx)))
section
variable {X : Cx} {o e : Expr} {es : List Expr} {to te : TE} {ta : TA} {f : Str} {p p' p1 p2 pos : Pos}
/-- self.f = e in the __init__ of such a class -/
theorem ps_osr (ho : PE X o to) (he : PE X e te) (hs : swapsWith e (some (.Attribute o f p')) pos.line X.env = pure false := by rfl) : PS X (.Assign [.Attribute o f p'] e pos) (tOsr X.K f to te) := by
  refine ⟨fun pins s σ H D I h => ?_⟩
  refine plainObj_wpAny_Assign_Attribute (thn (he.run pins s σ H _ I h) fun v s1 ⟨y, H1, I1, r1, q1⟩ => thn (ho.run pins s1 σ H1 _ I1 q1) fun u s2 ⟨x, H2, I2, r2, a, C, ex, T, hno, ea, q⟩ => ?_) hs
  subst ex
  obtain rfl : u = Value.ref a := r2
  exact osr_new T I2 ea hno r1 fun dx s' n ne J => ⟨σ, _, J, q dx n ne⟩
/-- such a class, called -/
theorem pmk_rex {CX : CXT} {x : Str} {C fI : Addr} {k : Nat} {fd : FuncData} {ps : List Str} {sp : Sp} {ds : List Value} {dvs : List V} (T : RexC X.K C) (iC : PySem.W.findIn X.K (.ref C) "__init__" = some (some (.ref fI))) (tI : PySem.W.typeIn X.K (.ref fI) = some (.type "function"))
    (F1 : FnOk X.prog X.w X.K X.mg X.base CX k fI fd ps sp) (hr : Room (k + 1) X.A) (hb : Binds X.K fd ps ds) (hd : Vals dvs ds) (hx : Passes CX X (fun _ _ _ => False)) (hg : Gl X x) (hm : X.mg x = some (.ref C)) (ha : PA X (e :: es) ta)
    (hdb : (x == ("__debug__" : Str)) = false := by decide) (he : starEach (e :: es) X.env = (false, eval e X.env) :: starEach es X.env := by rfl) (hpl : (backTo pos (starEach es X.env)).any (·.1) = false := by rfl) :
    PMk X (.Call (.Name x p) (e :: es) [] pos) (tMkO C sp dvs ta) := by
  intro pins s σ H Q I h
  refine wpAny_Call_Name_kw (ld_glob I hg hm ?_ hdb)
  refine PySem.W.callWith_K (h₀ := X.base) I.ok.mod.kin T.kC (thn (ha.run pos pins s σ H _ I h) fun us s1 ⟨vs, H1, I1, r1, hz, q1⟩ => ⟨I1.kIn, ?_⟩) he hpl
  show wpAny _ _ (call (.ref C) us) _ _ _
  obtain ⟨hp, g, dr, tk, os⟩ := s1
  obtain ⟨nm, N, qn, bs, bm, hdct, sn, sub, ab, col, dd, k0, k1, k2, k3, k5, hC, hT⟩ := PySem.W.excInit_of I1.kIn T.ini
  have hsz : hp.objs.size ≤ hp.objs.size + 1 := Nat.le_succ _
  have hn : H1 (hp.objs.size + 1) = none := I1.hok.fresh hsz
  have hq := q1 (hp.objs.size + 1) hn
  have kk : ∀ b o, hp.get? b = some o → ((hp.push (PySem.W.kdv_tup us)).push (PySem.HandSPX.excO C hp.objs.size)).get? b = some o := fun b o e => Heap.get?_push_of_some _ (Heap.get?_push_of_some _ e)
  have hget : ((hp.push (PySem.W.kdv_tup us)).push (PySem.HandSPX.excO C hp.objs.size)).get? (hp.objs.size + 1) = some (PySem.HandSPX.excO C hp.objs.size) := by heap_get
  have I2 : Inv X pins σ (upd H1 (hp.objs.size + 1) (exo (hp.objs.size + 1) C none)) ⟨(hp.push (PySem.W.kdv_tup us)).push (PySem.HandSPX.excO C hp.objs.size), g, dr, tk, os⟩ :=
    I1.laid (t' := tk) (a := hp.objs.size + 1) (o := exo (hp.objs.size + 1) C none) (h' := (hp.push (PySem.W.kdv_tup us)).push (PySem.HandSPX.excO C hp.objs.size)) kk hsz (exo_ok hget)
  have r2 : Vals (V.ref (hp.objs.size + 1) :: (vs ++ dvs)) (Value.ref (hp.objs.size + 1) :: (us ++ ds)) := .cons rfl (r1.append hd)
  have hl : (Value.ref (hp.objs.size + 1) :: us ++ ds).length = ps.length := by
    have e := r2.length
    rw [F1.len _ _ _ _ hq] at e
    exact e.symm
  have hus : us.length ≤ sizeLine := by
    rw [← Paired.length r1, sizeLine_eq]
    omega
  refine wpAny_call (PySem.HandSPX.call_own F.excBase_RuntimeError hT hC (PySem.W.looks_findIn I1.kIn iC) (fun self => PySem.W.bind_fn I1.kIn self tI) hus
    (codeAny_mono (F1.run _ X.stack _ _ ⟨Value.ref (hp.objs.size + 1) :: us, []⟩ (Value.ref (hp.objs.size + 1) :: (us ++ ds)) _ _ (fun _ _ _ => False) (hr.make C us []) (I2.env0.make C us []) (hb _ (Value.ref (hp.objs.size + 1) :: us) I2.kIn hl) r2 hq) fun r s' hq' => ?_))
  cases r with
  | error er => exact hx pins σ _ _ er s' I2 hq'
  | ok fl =>
    cases fl with
    | ret u =>
      obtain ⟨v, H2, os2, bare2, un2, hok2, rv, ev, d, fs, ea, ed, hd1, q2⟩ := hq'
      subst ev
      obtain ⟨h2, g2, d2, t2, os'⟩ := s'
      exact ⟨rv, mk_end (raises_own T.exC T.tyC) I1 hsz kk un2 hok2 os2 bare2 ea ed hd1 q2⟩
    | next => exact False.elim hq'
    | brk => exact False.elim hq'
    | cont => exact False.elim hq'
end
/-! ### a caught exception, kept behind its handler -/
def Exh (cls : Value) (d : Option Addr) (a : Addr) : HO := .ext fun h => ∃ (oe : Obj) (vs : Array Value), h.get? a = some oe ∧ Zc cls d oe ∧ oe.data = .fields vs
theorem exh_ok {P : Program} {w : World} {H : Hp} {h : Heap} {a : Addr} {cls : Value} {d : Option Addr} {oe : Obj} {vs : Array Value} (e : h.get? a = some oe) (z : Zc cls d oe) (dd : oe.data = .fields vs) : ObjOk P w H h a (Exh cls d a) :=
  ⟨⟨oe, vs, e, z, dd⟩, ⟨oe, e⟩, fun _ _ ⟨o, v, q, r⟩ k => ⟨o, v, k o q, r⟩⟩
theorem exh_at {P : Program} {w : World} {H : Hp} {h : Heap} {a : Addr} {cls : Value} {d : Option Addr} (hok : HOk P w H h) (e : H a = some (Exh cls d a)) : ∃ (oe : Obj) (vs : Array Value), h.get? a = some oe ∧ Zc cls d oe ∧ oe.data = .fields vs := by
  have x : ObjOk P w H h a (Exh cls d a) := hok a _ e
  exact x.1
section
variable {X : Cx} {pins : List (Addr × Obj)} {σ : L2.St} {H : Hp} {s : Shared}
theorem Inv.track (I : L2.Inv X pins σ H s) {a : Addr} {cls : Value} {d : Option Addr} {oe : Obj} {vs : Array Value} (na : H a = none) (n0 : X.s_0.heap.get? a = none) (he : s.heap.get? a = some oe) (hz : Zc cls d oe) (hd : oe.data = .fields vs)
    (nL : a ≠ X.env.locals) (np : ∀ p ∈ X.pn ++ pins, p.1 ≠ a) : L2.Inv X pins σ (upd H a (Exh cls d a)) s := by
  have U := I.base
  refine ⟨I.ok, I.os, I.bare, ⟨U.keep, U.slot, fun b o q n hx => ?_, U.there, fun b xs q => ?_, fun b o v q => ?_, fun b ps q => ?_⟩, I.loc, I.cell, ?_, fun x c e => ?_, fun p hp => ?_, HOk.laidN I.hok (fun _ _ e => e) na (exh_ok he hz hd), I.len⟩
  · rw [upd_ne (fun z => by rw [z, n0] at q; cases q)]
    exact U.free b o q n hx
  · have z := U.tups b xs q
    rw [upd_ne (ne_of_none z na)]
    exact z
  · have z := U.frzs b o v q
    rw [upd_ne (ne_of_none z na)]
    exact z
  · obtain ⟨m, z⟩ := U.tbls b ps q
    exact ⟨m, by rw [upd_ne (ne_of_none z na)]; exact z⟩
  · rw [upd_ne (Ne.symm nL)]
    exact I.free
  · have nc : c ≠ a := fun z => by
      obtain ⟨v, o, ho, hc⟩ := I.cell x c e
      rw [z, he] at ho
      cases ho
      rw [hd] at hc
      cases hc
    rw [upd_ne nc]
    exact I.freeC x c e
  · obtain ⟨e1, n1, n2, n3, n4⟩ := I.pin p hp
    exact ⟨e1, by rw [upd_ne (np p hp)]; exact n1, n2, n3, n4⟩
end
/-- as wAs, but what was caught stays told of behind the suite -/
def wKeep (K : PySem.W.Frag) (c : Value) (i : Nat) (ts : Addr → Value → Option Addr → TS) (Wout : WX) (D : Ends) : WX := fun cls d σ H =>
  ∃ b, PySem.W.exmOne K cls c = some b ∧ (b = true → ∀ a, H a = none → ts a cls d { nx := fun σ' H' => D.nx (σ'.set i none) (upd H' a (Exh cls d a)), rt := D.rt, bk := fun σ' H' => D.bk (σ'.set i none) H', ct := fun σ' H' => D.ct (σ'.set i none) H' } (σ.set i (some (.ref a))) H) ∧
    (b = false → Wout cls d σ H)
section
variable {X : Cx} {x n : Str} {c : Value} {i : Nat} {body suite : List Stmt} {b₀ : Stmt} {np pos pos' : Pos} {tb : WX → TS} {ts : Addr → Value → Option Addr → TS} {Wout : WX}
theorem ps_try_keep (hs : X.stack = X.env :: X.outer) (hf : X.env.frame = some X.env.locals) (hex : X.ex = []) (hN : X.N.Nodup) (hi : X.N[i]? = some n) (hln : X.env.kindOf n = some .local) (hc : Names X x c) (tk : Takes X Wout)
    (hb : ∀ (W : WX) (pn : List (Addr × Obj)) (xe : Value → Shared → Prop), Takes (X.tr pn xe) W → PassesOwn (model X.prog X.w) X.A X.env xe → PSs (X.tr pn xe) body (tb W))
    (hsu : ∀ (a : Addr) (oe : Obj) (cls : Value) (d : Option Addr) (pn : List (Addr × Obj)), Zc cls d oe → (∃ vs, oe.data = .fields vs) → PSs (X.suite a ((a, oe) :: pn)) (b₀ :: suite) (ts a cls d)) :
    PS X (.Try body [.ExceptHandler (some (.Name x np)) (some n) (b₀ :: suite) pos'] [] [] pos) (fun D σ H => tb (wKeep X.K c i ts Wout D) D σ H) := by
  refine ⟨fun pins s σ H D I h => ?_⟩
  have ok := I.ok
  have hfr : X.A.frames = some (X.env :: X.outer) := by rw [ok.frames, hs]
  have hloc : Loc X.env.scope n := .inl hln
  refine wpAny_Try_except ?_
  refine wpAny_mono ((hb (wKeep X.K c i ts Wout D) (X.pn ++ pins) (fun e s₁ => wpAny (model X.prog X.w) X.A (noteFrame e X.env) (fun _ s₂ => wpAny (model X.prog X.w) X.A (setFlight e none) (fun _ s₃ =>
    wpAny (model X.prog X.w) X.A (handleBy e X.env [.ExceptHandler (some (.Name x np)) (some n) (b₀ :: suite) pos']) (SP X pins D) X.xe s₃) X.xe s₂) X.xe s₁) (fun u s' xx => ?_) PassesOwn.looking).run [] s σ H D (I.toTry _) h) (fun f s1 hsp => ?_) (fun e s1 he => he)
  · obtain ⟨a, B, sI, pins', σ', H', cls, d, rfl, J', nb, up, sky, na, os, ag, b, hb1, hyes, hno⟩ := xx
    have J : L2.Inv X pins σ' H' sI := J'.ofTry ok
    have sky' : Sky B (X.env :: X.outer) a (Zc cls d) X.env.locals s'.heap := by rw [← hs]; exact sky
    show wpAny (model X.prog X.w) X.A (noteFrame (.ref a) X.env) _ _ _
    refine Sky.land Zc.steady hfr hf sky' fun h3 fl3 up3 => ?_
    have J3 : L2.Inv X pins σ' H' { s' with heap := h3 } := J.landed nb fl3.1 (up.trans up3) os ag
    obtain ⟨oe3, vs3, he3, hz3, hd3⟩ := fl3.there
    have nfr : a ∉ frs (X.env :: X.outer) := fun hm => by
      obtain ⟨_, o', e', hnf⟩ := fl3.2.2.1.mem hm
      rw [he3] at e'; cases e'
      exact hnf _ hd3
    have nI : sI.heap.get? a = none := by
      cases q : sI.heap.get? a with
      | none => rfl
      | some o =>
        have z := nb a o q (by rw [hs]; exact nfr)
        rw [fl3.2.1] at z
        cases z
    have n0 : X.s_0.heap.get? a = none := by
      cases q : X.s_0.heap.get? a with
      | none => rfl
      | some o =>
        obtain ⟨o', z⟩ := J.base.there a o q (by rw [hex]; exact fun z => nomatch z)
        rw [nI] at z
        cases z
    have nP : ∀ p ∈ X.pn ++ pins, p.1 ≠ a := fun p hp z => by
      obtain ⟨e1, _⟩ := J.pin p hp
      rw [z, nI] at e1
      cases e1
    have nL : a ≠ X.env.locals := fun z => nfr (List.mem_filterMap.mpr ⟨X.env, List.mem_cons_self, by rw [hf, z]⟩)
    have nF : a ∉ X.fs := fun hm => by
      obtain ⟨e, he, q⟩ := List.mem_filterMap.mp hm
      exact nfr (List.mem_filterMap.mpr ⟨e, List.mem_cons_of_mem _ he, q⟩)
    have S3 := J3.suite he3 hd3 na nL nF
    refine wpAny_handleBy_cons (codeAny_handlers_test ?_) (by intro q; cases q)
    have LT : PySem.W.Looks (model X.prog X.w) h3 (typeOf (.ref a)) cls := fun A Q E s k q => wpAny_typeOf_ref (k _ _ he3) (by rw [hz3.1]; exact q)
    have LM := PySem.W.exm_one (M := model X.prog X.w) (J3.kIn) LT hb1
    have test : ∀ {Q : Value → Shared → Prop} {E : Value → Shared → Prop}, Q c { s' with heap := h3 } → wpAny (model X.prog X.w) (X.A.mark (some (.ref a))) (eval (.Name x np) X.env) Q E { s' with heap := h3 } := fun {Q E} q => by
      obtain ⟨hg, hdbg, hm | ⟨hm, hv, hnn⟩⟩ := hc
      · exact ld_glob (X := X.suite a ((a, oe3) :: (X.pn ++ pins))) S3 hg hm q hdbg
      · exact ld_blt (X := X.suite a ((a, oe3) :: (X.pn ++ pins))) S3 hg hm hv q hnn hdbg
    refine test (LM.here ?_)
    cases b with
    | true =>
      refine codeAny_handlers_suite_as ?_
      refine HandSPX.lands_againZ fl3 fun h4 fl4 up4 => ?_
      have J4 : L2.Inv X pins σ' H' { s' with heap := h4 } := J.landed nb fl4.1 ((up.trans up3).trans up4) os ag
      obtain ⟨oe4, vs4, he4, hz4, hd4⟩ := fl4.there
      have S4 := J4.suite he4 hd4 na nL nF
      refine store_ok (X := X.suite a ((a, oe4) :: (X.pn ++ pins))) (v := .ref a) S4 hN hi hloc rfl (fun s5 S5 => ?_) (.inr hln)
      refine wpAny_mono ((hsu a oe4 cls d (X.pn ++ pins) hz4 ⟨_, hd4⟩).run [] s5 _ H' _ S5 (hyes rfl a na)) (fun f s6 hsp => ?_) (fun _ _ z => False.elim z)
      have end_ : ∀ {σ6 : L2.St} {H6 : Hp} {Q : Shared → Prop}, L2.Inv (X.suite a ((a, oe4) :: (X.pn ++ pins))) [] σ6 H6 s6 → (∀ s7, L2.Inv X pins (σ6.set i none) H6 s7 → Q s7) →
          wpAny (model X.prog X.w) X.A (do bindName X.env n .none; unbindBehindTheSuite X.env n pos') (fun _ s7 => Q s7) X.xe s6 := fun {σ6 H6 Q} S6 hq => gone_ok (S6.unsuite ok) hN hi hln hq
      cases f with
      | next =>
        obtain ⟨σ6, H6, S6, q6⟩ := hsp
        obtain ⟨p1, p2, _⟩ := S6.pin (a, oe4) (List.mem_append_left _ List.mem_cons_self)
        have T6 : L2.Inv X pins σ6 (upd H6 a (Exh cls d a)) s6 := Inv.track (S6.unsuite ok) p2 n0 p1 hz4 hd4 nL nP
        exact gone_ok T6 hN hi hln fun s7 J7 => ⟨_, _, J7, q6⟩
      | brk =>
        obtain ⟨σ6, H6, S6, q6⟩ := hsp
        exact end_ S6 fun s7 J7 => ⟨_, _, J7, q6⟩
      | cont =>
        obtain ⟨σ6, H6, S6, q6⟩ := hsp
        exact end_ S6 fun s7 J7 => ⟨_, _, J7, q6⟩
      | ret u =>
        obtain ⟨v6, σ6, H6, S6, r6, q6⟩ := hsp
        exact end_ S6 fun s7 J7 => ⟨_, _, _, J7, r6, q6⟩
    | false =>
      show wpAny _ X.A (handleBy (.ref a) X.env []) _ _ _
      refine wpAny_handleBy_nil ?_
      obtain ⟨k1, k2, k3, oe, vs, T, oT, ts', he, hz, hd, h1, hr⟩ := id fl3
      unfold PySem.passOn
      refine wpAny_bind (wpAny_field he hd h1 ?_)
      rw [if_neg (show ¬ ((Value.ref T == Value.none) = true) from by simp)]
      have fin : wpAny (model X.prog X.w) X.A (setFlight (.ref a) X.env.frame) (fun _ s4 => wpAny (model X.prog X.w) X.A (throw (.ref a) : Sem Flow) (SP X pins D) X.xe s4) X.xe { s' with heap := h3 } := by
        rw [hf]
        refine HandSPX.setFlight_upZ fl3 fun h4 hh4 up4 => wpAny_throw (tk _ _ ?_)
        exact ⟨a, B, sI, pins, σ', H', cls, d, rfl, J, nb, (up.trans up3).trans up4, .inr (.inr (by rw [hs]; exact hh4)), na, os, ag, hno rfl⟩
      first
        | exact wpAny_bind (wpAny_pure (wpAny_bind fin))
        | exact wpAny_bind fin
  · cases f with
    | next =>
      obtain ⟨σ', H', J', q⟩ := hsp
      exact wpAny_execs_nil ⟨σ', H', J'.ofTry ok, q⟩
    | brk =>
      obtain ⟨σ', H', J', q⟩ := hsp
      exact ⟨σ', H', J'.ofTry ok, q⟩
    | cont =>
      obtain ⟨σ', H', J', q⟩ := hsp
      exact ⟨σ', H', J'.ofTry ok, q⟩
    | ret u =>
      obtain ⟨v, σ', H', J', r, q⟩ := hsp
      exact ⟨v, σ', H', J'.ofTry ok, r, q⟩
end
/-- e.f, e a kept exception of an own class -/
def tXh (K : PySem.W.Frag) (f : Str) (te : TE) : TE := fun σ H Q => te σ H fun x H1 => ∃ (a C dd : Addr) (fs : List (Str × V)) (v : V), x = .ref a ∧ H1 a = some (Exh (.ref C) (some dd) a) ∧ XfC K C ∧ PySem.W.findIn K (.ref C) f = some none ∧ H1 dd = some (.xd fs) ∧ fs.lookup f = some v ∧ Q v H1
/-- isinstance(e, c), e a kept exception of an own class -/
def rIsH (K : PySem.W.Frag) : List V → Hp → VK → Prop := fun xs H Q => ∃ (a D dd : Addr) (fs : List (Str × V)) (c : V) (cv : Value) (b : Bool), xs = [.ref a, c] ∧ H a = some (Exh (.ref D) (some dd) a) ∧ H dd = some (.xd fs) ∧ ExcC K D ∧ (PySem.W.clsIn K D).isSome = true ∧ (∀ u, RelV c u → u = cv) ∧ PySem.W.kitOne K (.ref D) cv = some b ∧ Q (.bl b) H
section
variable {X : Cx}
theorem pe_xh {e : Expr} {te : TE} {pos : Pos} {n : Str} (he : PE X e te) (hb : attributeBase e n X.env (eval e X.env) = eval e X.env := by rfl) : PE X (.Attribute e n pos) (tXh X.K n te) := by
  refine ⟨fun pins s σ H Q I h => ?_⟩
  refine attr_of hb (thn (he.run pins s σ H _ I h) fun u s1 hh => ?_)
  obtain ⟨x, H1, I1, rx, a, C, dd, fs, v, ex, eh, T, hno, ea, l, q⟩ := hh
  subst ex
  obtain rfl : u = Value.ref a := rx
  obtain ⟨oe, vs, ha, hz, hd⟩ := exh_at I1.hok eh
  have hx : ObjOk X.prog X.w H1 s1.heap dd (.xd fs) := I1.hok dd _ ea
  obtain ⟨mA, hns, hr⟩ := hx
  obtain ⟨od, ho, hl⟩ := lookIn_ns hns
  obtain ⟨u, hu, ru⟩ := RelO.some_of (v := v) (o := mA n) (by rw [← l]; exact hr n)
  have J : PySem.W.InstAt s1.heap a oe C (some od) := ⟨ha, hz.1, by unfold PySem.W.notCls; rw [hd] <;> rfl, by rw [hz.2]; exact ho⟩
  exact HandSPX.exc_get I1.kIn J T.ga T.gg T.exC (PySem.W.findObj_own T.hdC hno rfl (by rw [hl, hu])) (handed_of ru) ⟨v, H1, I1.tok _, ru, q⟩
theorem call_isH : CallR X (.builtin "isinstance") (rIsH X.K) := by
  intro pins s σ H xs us Q I r h
  obtain ⟨a, D, dd, fs, c, cv, b, rfl, eh, ed, C, cl, hcv, e, q⟩ := h
  cases r with
  | cons rx rr =>
    cases rr with
    | cons rt rr =>
      cases rr
      cases rx
      have ec := hcv _ rt
      subst ec
      obtain ⟨oe, vs, ha, hz, hd⟩ := exh_at I.hok eh
      have hx : ObjOk X.prog X.w H s.heap dd (.xd fs) := I.hok dd _ ed
      obtain ⟨mA, hns, hr⟩ := hx
      obtain ⟨od, ho, hl⟩ := lookIn_ns hns
      have J : PySem.W.InstAt s.heap a oe D (some od) := ⟨ha, hz.1, by unfold PySem.W.notCls; rw [hd] <;> rfl, by rw [hz.2]; exact ho⟩
      exact PySem.W.kia_one (PySem.W.kitx_exc cl C.hg C.hk C.hs C.ha C.hn C.ht C.hm) I.kIn J e (fun z => nomatch z) fun tk => ⟨.bl b, H, I.kept (t' := tk) fun _ _ z => z, rfl, q⟩
end
end Kx

set_option autoImplicit false
set_option maxHeartbeats 2000000
namespace Kx
open PySem PySem.Spec PyProof.Rows L2
/-- isinstance(e, (C, ..)), e a kept exception of an own class -/
def rIsHT (K : PySem.W.Frag) : List V → Hp → VK → Prop := fun xs H Q => ∃ (a D dd t : Addr) (fs : List (Str × V)) (cs : List V) (cvs : List Value) (b : Bool), xs = [.ref a, .ref t] ∧ H a = some (Exh (.ref D) (some dd) a) ∧ H dd = some (.xd fs) ∧ ExcC K D ∧ (PySem.W.clsIn K D).isSome = true ∧
  H t = some (.tup cs) ∧ (∀ us, Vals cs us → us = cvs) ∧ PySem.W.kitAny K (.ref D) cvs = some b ∧ Q (.bl b) H
theorem call_isHT {X : Cx} : CallR X (.builtin "isinstance") (rIsHT X.K) := by
  intro pins s σ H xs us Q I r h
  obtain ⟨a, D, dd, t, fs, cs, cvs, b, rfl, eh, ed, C, cl, et, hcv, e, q⟩ := h
  cases r with
  | cons rx rr =>
    cases rr with
    | cons rt rr =>
      cases rr
      cases rx
      cases rt
      obtain ⟨oe, vs, ha, hz, hd⟩ := exh_at I.hok eh
      have hx : ObjOk X.prog X.w H s.heap dd (.xd fs) := I.hok dd _ ed
      obtain ⟨mA, hns, hr⟩ := hx
      obtain ⟨od, ho, hl⟩ := lookIn_ns hns
      have ht : ObjOk X.prog X.w H s.heap t (.tup cs) := I.hok t _ et
      obtain ⟨_, its, rv, o, h1, h2, n, h3⟩ := ht
      have ei := hcv _ rv
      subst ei
      obtain ⟨oc, odd, odt, osl⟩ := o
      dsimp only at h2 h3
      subst h2 h3
      have J : PySem.W.InstAt s.heap a oe D (some od) := ⟨ha, hz.1, by unfold PySem.W.notCls; rw [hd] <;> rfl, by rw [hz.2]; exact ho⟩
      exact PySem.W.kia_tup (PySem.W.kitx_exc cl C.hg C.hk C.hs C.ha C.hn C.ht C.hm) I.kIn J h1 e (fun z => nomatch z) fun tk => ⟨.bl b, H, I.kept (t' := tk) fun _ _ z => z, rfl, q⟩
end Kx

set_option autoImplicit false
set_option maxHeartbeats 4000000
namespace Vl
open PySem PySem.Spec PyProof.Rows L2 TL CwR PySem.StrLaws Kx
theorem dbl_ge' : ∀ l : List Nat, l.length ≤ (dbl l).length
  | [] => Nat.le_refl _
  | c :: r => by
    have ih := dbl_ge' r
    show r.length + 1 ≤ (if c = 34 then 34 :: 34 :: dbl r else c :: dbl r).length
    by_cases h : c = 34
    · rw [if_pos h]
      show _ ≤ (dbl r).length + 1 + 1
      omega
    · rw [if_neg h]
      show _ ≤ (dbl r).length + 1
      omega
theorem sm_of : ∀ {d : PyData}, Ok d → (wr d).length ≤ 1000000 → SmA d := by
  intro d h
  induction h with
  | non => intro _; exact good_non.sm
  | bl b => intro _; exact (good_bl b).sm
  | int i hi => intro _; exact (good_int hi).sm
  | str z hz =>
    intro hl
    refine .flat ?_ (fun _ e => by cases e)
    have h1 := dbl_ge' (tl z)
    have h2 := len_tl z
    have h3 : (wr (.str z)).length = (dbl (tl z)).length + 2 := by
      show (34 :: (dbl (tl z) ++ [34])).length = _
      rw [List.length_cons, List.length_append]
      rfl
    show z.length ≤ 1000000
    omega
  | tup h ih =>
    rename_i ds
    intro hl
    refine .tup fun d hd => ih d hd ?_
    have h1 := wr_mem_T ds hd
    have h2 := wrT_wrF ds
    have h3 : (wr (.tuple ds)).length = (wrF ds).length + 1 := rfl
    omega

/-! ### depth and brackets -/
def n40 (l : List Nat) : Nat := l.countP fun c => decide (c = 40)
theorem n40_app (a b : List Nat) : n40 (a ++ b) = n40 a + n40 b := List.countP_append ..
theorem n41_app (a b : List Nat) : n41 (a ++ b) = n41 a + n41 b := List.countP_append ..
theorem n40_cons (c : Nat) (l : List Nat) : n40 (c :: l) = n40 l + (if c = 40 then 1 else 0) := by
  unfold n40
  rw [List.countP_cons]
  simp
theorem n41_cons (c : Nat) (l : List Nat) : n41 (c :: l) = n41 l + (if c = 41 then 1 else 0) := by
  unfold n41
  rw [List.countP_cons]
  simp
theorem nb_two : ∀ l : List Nat, n40 l + n41 l = nb l
  | [] => rfl
  | c :: r => by
    have ih := nb_two r
    rw [n40_cons, n41_cons, nb_cons]
    by_cases h1 : c = 40
    · rw [if_pos h1, if_neg (show ¬c = 41 by omega), if_pos (.inl h1)]
      omega
    · by_cases h2 : c = 41
      · rw [if_neg h1, if_pos h2, if_pos (.inr h2)]
        omega
      · rw [if_neg h1, if_neg h2, if_neg (by omega)]
        omega
mutual
theorem deep_n : ∀ d : PyData, Ok d → d.depth ≤ n40 (wr d) ∧ d.depth ≤ n41 (wr d)
  | .none, _ => ⟨Nat.zero_le _, Nat.zero_le _⟩
  | .bool _, _ => ⟨Nat.zero_le _, Nat.zero_le _⟩
  | .int _, _ => ⟨Nat.zero_le _, Nat.zero_le _⟩
  | .str _, _ => ⟨Nat.zero_le _, Nat.zero_le _⟩
  | .tuple ds, h => by
    have hk : ∀ d ∈ ds, Ok d := by cases h with | tup h => exact h
    obtain ⟨h1, h2⟩ := deep_T ds hk
    have e0 : n40 (wrT ds) ≤ n40 (wrF ds) ∧ n41 (wrT ds) = n41 (wrF ds) := by
      cases ds with
      | nil => exact ⟨Nat.le_refl _, rfl⟩
      | cons d r =>
        constructor
        · show n40 (32 :: (wr d ++ wrT r)) ≤ n40 (wr d ++ wrT r)
          rw [n40_cons, if_neg (by decide)]
          exact Nat.le_refl _
        · show n41 (32 :: (wr d ++ wrT r)) = n41 (wr d ++ wrT r)
          rw [n41_cons, if_neg (by decide)]
          rfl
    constructor
    · show PyData.depthAll ds + 1 ≤ n40 (40 :: wrF ds)
      rw [n40_cons, if_pos rfl]
      omega
    · show PyData.depthAll ds + 1 ≤ n41 (40 :: wrF ds)
      rw [n41_cons, if_neg (by decide)]
      omega
  | .list _, h => by cases h
  | .dict _, h => by cases h
theorem deep_T : ∀ ds : List PyData, (∀ d ∈ ds, Ok d) → PyData.depthAll ds ≤ n40 (wrT ds) ∧ PyData.depthAll ds + 1 ≤ n41 (wrT ds)
  | [], _ => ⟨Nat.zero_le _, by show 1 ≤ 1; omega⟩
  | d :: r, h => by
    obtain ⟨h1, h2⟩ := deep_n d (h d (List.mem_cons_self ..))
    obtain ⟨h3, h4⟩ := deep_T r fun x hx => h x (List.mem_cons_of_mem _ hx)
    constructor
    · show max d.depth (PyData.depthAll r) ≤ n40 (32 :: (wr d ++ wrT r))
      rw [n40_cons, if_neg (by decide), n40_app]
      omega
    · show max d.depth (PyData.depthAll r) + 1 ≤ n41 (32 :: (wr d ++ wrT r))
      rw [n41_cons, if_neg (by decide), n41_app]
      omega
end
theorem deep_nb {d : PyData} (h : Ok d) : 2 * d.depth ≤ nb (wr d) := by
  obtain ⟨h1, h2⟩ := deep_n d h
  have := nb_two (wr d)
  omega
abbrev sTold : Stmt := top 28
theorem scTold : FnScope ["written", "kept", "found", "e"] ["written"] (defScope sTold) := ⟨rfl, rfl, rfl, by decide +kernel, rfl, by decide +kernel, by decide +kernel⟩
def DD : Nat := 290
def spTold : Sp := fun vs H Q _ => ∃ t : Str, vs = [.str t] ∧ t.length ≤ 1000000 ∧ (∀ d, Go (tl t) 0 [[]] d → d.depth ≤ DD) ∧
  (∀ d, Go (tl t) 0 [[]] d → ∀ H' p, Same H H' → H p = none → H' p = some (.tup [.str "told", .str t]) → Q (.ref p) H') ∧
  (∀ n : Nat, GoE (tl t) 0 [[]] n → ∀ H' p, Same H H' → H p = none → H' p = some (.tup [.str "refused", .int (n : Int), .bl true]) → Q (.ref p) H')
/-- what the classes of refusals are asked for -/
structure NoVX (K : PySem.W.Frag) (mg : Str → Option Value) (C B S : Addr) : Prop where
  xf : XfC K C
  ec : ExcC K C
  cl : (PySem.W.clsIn K C).isSome = true
  kit : PySem.W.kitOne K (.ref C) (.type "ValueError") = some true
  two : PySem.W.kitAny K (.ref C) [.ref B, .ref S] = some false
  exm : PySem.W.exmOne K (.ref C) (.ref C) = some true
  gB : mg "BadStep" = some (.ref B)
  gS : mg "Strange" = some (.ref S)
section
variable {P : Program} {w : World} {K : PySem.W.Frag} {mg : Str → Option Value} {base : Heap}
theorem ok_told {C fI B S : Addr} {fdI : FuncData} (T : NoV K mg C fI fdI) (TX : NoVX K mg C B S) {f fR fW : Addr} {fd fdR fdW : FuncData} (F : FnP K "_law_told" sTold f fd) (FR : FnP K "read" sRead fR fdR) (gR : mg "read" = some (.ref fR)) (GR : FnOk P w K mg base (L2.CX P w) 6 fR fdR ["text"] (spReadE C))
    (FW : FnP K "_law_writing" sWriting fW fdW) (gW : mg "_law_writing" = some (.ref fW)) (GW : FnA P w K mg base CX0 (DD + 1) fW fdW ["value"] (spWr DD)) (mi : mg "isinstance" = none) (mV : mg "ValueError" = none) :
    FnOk P w K mg base CX0 111 f fd ["written"] spTold := by
  have bR : Binds K fdR ["text"] [] := FR.bindsN fun _ _ _ _ _ _ us hl => match us, hl with | [_], _ => rfl
  have bW : Binds K fdW ["value"] [] := FW.bindsN fun _ _ _ _ _ _ us hl => match us, hl with | [_], _ => rfl
  refine F.ok scTold (fun vs H Q E h => ?_) (fun cdv A outer s H vs Q E hr h => ?_)
  · obtain ⟨t, rfl, _⟩ := h
    rfl
  · obtain ⟨t, rfl, hz, hd, q, qe⟩ := h
    have hs := szl
    have hr6 : Room 6 _ := hr.mono (by decide)
    refine ⟨_, pss_cons (ps_asg (pe_tup (pa_cons pe_non (pa_cons pe_non pa_nil))) (pg_tup rfl (pgs_cons (pg_name (i := 1) scTold.nd rfl (.inl rfl)) (pgs_cons (pg_name (i := 2) scTold.nd rfl (.inl rfl)) pgs_nil))))
      (pss_cons (ps_try_keep (i := 3) (Wout := fun _ _ _ _ => False) rfl rfl rfl scTold.nd rfl rfl ⟨rfl, by decide, .inl T.g⟩ takes0
        (fun W pn xe tk _ => pss_one (ps_set (i := 2) scTold.nd rfl (.inl rfl) (pe_callS GR hr6 (by rfl) gR FR.kp bR (fun σ => passAt tk σ) (pa_cons (pv 0) pa_nil))))
        (fun a oe cls d pn hz hf => pss_one (ps_set (i := 1) scTold.nd rfl (.inl rfl) (pv 3))))
      (pss_cons (ps_if (pt_cmpR op_isN (pv 1) pe_non (nomark _)) (pss_one (ps_ret (pe_tup (pa_cons pe_str (pa_cons (pe_callA GW (Rm.of hr) (by rfl) gW FW.kp bW .nil pass0 (pa_cons (pv 2) pa_nil)) pa_nil))))) pss_nil)
      (pss_one (ps_ret (pe_tup (pa_cons pe_str (pa_cons (pe_xh (pv 1)) (pa_cons (pe_and (pe_callB call_isH (by rfl) mi PyProof.Rows.boot_isinstance (pa_cons (pv 1) (pa_cons (pe_bltn (v := .ty "ValueError") (u := .type "ValueError") (by rfl) mV (by decide +kernel) rfl) pa_nil)))
          (pe_one (pe_not (pe_callB call_isHT (by rfl) mi PyProof.Rows.boot_isinstance (pa_cons (pv 1) (pa_cons (pe_tup (pa_cons (pe_glob (v := .ref B) (by rfl) TX.gB rfl) (pa_cons (pe_glob (v := .ref S) (by rfl) TX.gS rfl) pa_nil))) pa_nil)))))) pa_nil)))))))), ?_⟩
    refine ⟨by show 2 ≤ sizeLine; omega, fun p0 np0 => ⟨p0, _, rfl, .inl (.inl upd_same), rfl, _, _, rfl, _, _, rfl, rfl, ?_⟩⟩
    have s0 := same_upd (o := HO.tup [.non, .non]) np0
    generalize (upd H p0 (.tup [.non, .non])) = H1 at s0
    refine ⟨_, rfl, t, rfl, by omega, fun d g H' x sm vd => ?_, fun n g H' dd sm nd hat => ?_⟩
    · obtain ⟨el, ok⟩ := go_is g
      refine ⟨_, rfl, rfl, _, rfl, iteT ⟨_, rfl, x, d, rfl, vd, ?_, ?_, hd d g, fun H2 r s2 er => ?_⟩⟩
      · have hl := len_tl t
        exact sm_of ok (by rw [← el]; omega)
      · have hl := len_tl t
        rw [← el]
        omega
      · have et : r = t := ext_tl (er.trans el.symm)
        subst et
        refine ⟨by show 2 ≤ sizeLine; omega, fun p np => ?_⟩
        have s3 := same_upd (o := HO.tup [.str "told", .str r]) np
        exact q d g _ p (s0.trans (sm.trans (s2.trans s3))) (s0.free (sm.free (s2.free np))) upd_same
    · refine ⟨true, TX.exm, fun _ a na => ?_, fun y => Bool.noConfusion y⟩
      have sa := same_upd (o := Exh (.ref C) (some dd) a) na
      have ha : (upd H' a (Exh (.ref C) (some dd) a)) a = some (Exh (.ref C) (some dd) a) := upd_same
      have hat2 := sa _ _ hat
      have sH := s0.trans (sm.trans sa)
      refine ⟨_, rfl, _, rfl, rfl, _, rfl, iteF ?_⟩
      show _
      generalize (upd H' a (Exh (.ref C) (some dd) a)) = H2 at ha hat2 sH
      refine ⟨_, rfl, a, C, dd, _, .int (n : Int), rfl, ha, TX.xf, T.noAt, hat2, rfl, ?_⟩
      refine ⟨_, rfl, a, C, dd, _, .ty "ValueError", .type "ValueError", true, rfl, ha, hat2, TX.ec, TX.cl, fun u r => r, TX.kit, _, rfl, iteT ?_⟩
      refine ⟨_, rfl, by show 2 ≤ sizeLine; omega, fun t2 nt2 => ?_⟩
      have s4 := same_upd (o := HO.tup [.ref B, .ref S]) nt2
      refine ⟨a, C, dd, t2, _, [.ref B, .ref S], [.ref B, .ref S], false, rfl, s4 _ _ ha, s4 _ _ hat2, TX.ec, TX.cl, upd_same, fun us r => ?_, TX.two, _, rfl, ?_⟩
      · cases r with
        | cons r1 r2 =>
          cases r2 with
          | cons r3 r4 =>
            cases r4
            cases r1
            cases r3
            rfl
      · refine ⟨by show 3 ≤ sizeLine; omega, fun p np => ?_⟩
        have s5 := same_upd (o := HO.tup [.str "refused", .int (n : Int), .bl true]) np
        exact qe n g _ p (sH.trans (s4.trans s5)) (sH.free (s4.free np)) upd_same
end
end Vl

set_option autoImplicit false
set_option maxHeartbeats 4000000
namespace Vl
open PySem PySem.Spec PyProof.Rows L2 TL CwR PySem.StrLaws Kx
open Ev (op_mulS mul_len)
abbrev sFew : Stmt := top 29
def fewA : List Str := [("" : Str), (" " : Str), ("-" : Str), ("--" : Str), ("-0" : Str), ("-1" : Str), ("+" : Str), ("++" : Str), ("!" : Str), ("0" : Str), ("00" : Str), ("01" : Str), ("10" : Str), ("1 " : Str), (" 1" : Str), ("(" : Str), ("()" : Str), ("( )" : Str), ("()()" : Str)]
def fewB : List Str := [("(1)" : Str), ("(1 )" : Str), ("( 1)" : Str), ("(1  2)" : Str), ("(1 2" : Str), ("(1))" : Str), ("(- 5)" : Str), ("(-5)" : Str), ("(-0)" : Str), ("\"" : Str), ("\"\"" : Str), ("\"\"\"" : Str)]
def fewC : List Str := [("\"\"\"\"" : Str), ("\"a\"b" : Str), ("\"a\"\"b\"" : Str), ("(\")\")" : Str), Txt.mul ("1" : Str) 40, Txt.mul ("1" : Str) 41, ("-" : Str) ++ Txt.mul ("9" : Str) 40, ("-" : Str) ++ Txt.mul ("9" : Str) 41]
def fewD : List Str := [Txt.mul ("(" : Str) 4000, Txt.mul ("\"" : Str) 3999, Txt.mul ("\"" : Str) 4000, Txt.mul ("7" : Str) 4000, ("(" : Str) ++ Txt.mul ("0 " : Str) 1999]
def FEW : List Str := ((fewA ++ fewB) ++ fewC) ++ fewD
def smallT (t : Str) : Bool := decide (t.length ≤ 10000) && (decide (nb (tl t) ≤ 580) || decide (n41 (tl t) = 0))
theorem fold_toList : ∀ (L : List (Array Nat)) (acc : Array Nat), (L.foldl (· ++ ·) acc).toList = acc.toList ++ (L.map Array.toList).flatten
  | [], acc => by simp
  | x :: r, acc => by
    rw [List.foldl_cons, fold_toList r, Array.toList_append]
    simp
theorem tl_mul {x : Str} {n : Int} (h0 : 0 ≤ n) : tl (Txt.mul x n) = (List.replicate n.toNat (tl x)).flatten := by
  unfold Txt.mul
  by_cases h1 : n < 1
  · rw [if_pos h1, show n.toNat = 0 by omega]
    rfl
  · rw [if_neg h1]
    by_cases h2 : (n == 1 || x.length == 0) = true
    · rw [if_pos h2]
      rcases Bool.or_eq_true_iff.mp h2 with h | h
      · have e : n = 1 := by simpa using h
        subst e
        show tl x = [tl x].flatten
        simp
      · have e : x.length = 0 := by simpa using h
        have e2 : tl x = [] := List.length_eq_zero_iff.mp (by rw [← len_tl]; exact e)
        rw [e2]
        simp
    · rw [if_neg h2]
      show ((List.replicate n.toNat x.cps).foldl (· ++ ·) #[]).toList = _
      rw [fold_toList, List.map_replicate]
      rfl
theorem mem_mul {x : Str} {n : Int} (h0 : 0 ≤ n) {c : Nat} (h : c ∈ tl (Txt.mul x n)) : c ∈ tl x := by
  rw [tl_mul h0] at h
  obtain ⟨l, hl, hc⟩ := List.mem_flatten.mp h
  rw [List.eq_of_mem_replicate hl] at hc
  exact hc
theorem n41_zero {l : List Nat} (h : ∀ c ∈ l, c ≠ 41) : n41 l = 0 := List.countP_eq_zero.mpr fun c hc => by
  have := h c hc
  simpa using this
theorem small_mul {x : Str} {n : Int} (h0 : 0 ≤ n) (hl : x.length * n.toNat ≤ 10000) (hx : ∀ c ∈ tl x, c ≠ 41) : smallT (Txt.mul x n) = true := by
  have h1 := mul_len (x := x) h0
  have h2 : n41 (tl (Txt.mul x n)) = 0 := n41_zero fun c hc => hx c (mem_mul h0 hc)
  unfold smallT
  rw [decide_eq_true (show (Txt.mul x n).length ≤ 10000 by omega), decide_eq_true h2]
  simp
theorem small_add {y x : Str} {n : Int} (h0 : 0 ≤ n) (hl : y.length + x.length * n.toNat ≤ 10000) (hy : ∀ c ∈ tl y, c ≠ 41) (hx : ∀ c ∈ tl x, c ≠ 41) : smallT (y ++ Txt.mul x n) = true := by
  have h1 := mul_len (x := x) h0
  have h2 : n41 (tl (y ++ Txt.mul x n)) = 0 := n41_zero fun c hc => by
    rw [tl_append] at hc
    rcases List.mem_append.mp hc with h | h
    · exact hy c h
    · exact hx c (mem_mul h0 h)
  unfold smallT
  rw [decide_eq_true (show (y ++ Txt.mul x n).length ≤ 10000 by rw [app_len]; omega), decide_eq_true h2]
  simp
theorem few_all : FEW.all smallT = true := by
  have a : fewA.all smallT = true := by decide +kernel
  have b : fewB.all smallT = true := by decide +kernel
  have c : fewC.all smallT = true := by
    unfold fewC
    simp only [List.all_cons, List.all_nil, Bool.and_true, Bool.and_eq_true]
    refine ⟨by decide +kernel, by decide +kernel, by decide +kernel, by decide +kernel, small_mul (by decide) (by decide +kernel) (by decide +kernel), small_mul (by decide) (by decide +kernel) (by decide +kernel), small_add (by decide) (by decide +kernel) (by decide +kernel) (by decide +kernel), small_add (by decide) (by decide +kernel) (by decide +kernel) (by decide +kernel)⟩
  have d : fewD.all smallT = true := by
    unfold fewD
    simp only [List.all_cons, List.all_nil, Bool.and_true, Bool.and_eq_true]
    refine ⟨small_mul (by decide) (by decide +kernel) (by decide +kernel), small_mul (by decide) (by decide +kernel) (by decide +kernel), small_mul (by decide) (by decide +kernel) (by decide +kernel), small_mul (by decide) (by decide +kernel) (by decide +kernel), small_add (by decide) (by decide +kernel) (by decide +kernel) (by decide +kernel)⟩
  unfold FEW
  rw [List.all_append, List.all_append, List.all_append, a, b, c, d]
  rfl
theorem depth_go {t : Str} {d : PyData} (h : Go (tl t) 0 [[]] d) (hb : nb (tl t) ≤ 580 ∨ n41 (tl t) = 0) : d.depth ≤ DD := by
  obtain ⟨el, ok⟩ := go_is h
  rw [el] at hb
  rcases hb with hb | hb
  · have := deep_nb ok
    show d.depth ≤ 290
    omega
  · have := (deep_n d ok).2
    show d.depth ≤ 290
    omega
theorem small_depth {t : Str} (h : smallT t = true) : t.length ≤ 10000 ∧ ∀ d, Go (tl t) 0 [[]] d → d.depth ≤ DD := by
  unfold smallT at h
  obtain ⟨h1, h2⟩ := Bool.and_eq_true_iff.mp h
  refine ⟨of_decide_eq_true h1, fun d g => depth_go g ?_⟩
  rcases Bool.or_eq_true_iff.mp h2 with h | h
  · exact .inl (of_decide_eq_true h)
  · exact .inr (of_decide_eq_true h)
theorem add_sz {y x : Str} {n : Int} (h0 : 0 ≤ n) (hl : y.length + x.length * n.toNat ≤ 10000) : y.length + (Txt.mul x n).length ≤ sizeLine := by
  have h1 := mul_len (x := x) h0
  have hs := szl
  omega
theorem scFew : FnScope ["some"] [] (defScope sFew) := ⟨rfl, rfl, rfl, by decide +kernel, rfl, by decide +kernel, by decide +kernel⟩
def spFew : Sp := fun vs H Q _ => vs = [] ∧ ∀ H' l, Same H H' → H l = none → H' l = some (.lst (FEW.map V.str)) → Q (.ref l) H'
section
variable {P : Program} {w : World} {K : PySem.W.Frag} {mg : Str → Option Value} {base : Heap}
theorem ok_few {f : Addr} {fd : FuncData} {k : Nat} (F : FnP K "_law_few" sFew f fd) : FnOk P w K mg base CX0 (k + 1) f fd [] spFew := by
  refine F.ok scFew (fun vs H Q E h => ?_) (fun cdv A outer s H vs Q E hr h => ?_)
  · obtain ⟨rfl, _⟩ := h
    rfl
  · obtain ⟨rfl, q⟩ := h
    have hs := szl
    refine ⟨_, PSs.nox (pss_cons (ps_set (i := 0) scFew.nd rfl (.inl rfl) (pe_lst (pa_cons (pe_str) (pa_cons (pe_str) (pa_cons (pe_str) (pa_cons (pe_str) (pa_cons (pe_str) (pa_cons (pe_str) (pa_cons (pe_str) (pa_cons (pe_str) (pa_cons (pe_str) (pa_cons (pe_str) (pa_cons (pe_str) (pa_cons (pe_str) (pa_cons (pe_str) (pa_cons (pe_str) (pa_cons (pe_str) (pa_cons (pe_str) (pa_cons (pe_str) (pa_cons (pe_str) (pa_cons (pe_str) pa_nil)))))))))))))))))))))
      (pss_cons (ps_set (i := 0) scFew.nd rfl (.inl rfl) (pe_op op_cat (pv 0) (pe_lst (pa_cons (pe_str) (pa_cons (pe_str) (pa_cons (pe_str) (pa_cons (pe_str) (pa_cons (pe_str) (pa_cons (pe_str) (pa_cons (pe_str) (pa_cons (pe_str) (pa_cons (pe_str) (pa_cons (pe_str) (pa_cons (pe_str) (pa_cons (pe_str) pa_nil)))))))))))))))
      (pss_cons (ps_set (i := 0) scFew.nd rfl (.inl rfl) (pe_op op_cat (pv 0) (pe_lst (pa_cons (pe_str) (pa_cons (pe_str) (pa_cons (pe_str) (pa_cons (pe_str) (pa_cons (pe_op op_mulS pe_str pe_int) (pa_cons (pe_op op_mulS pe_str pe_int) (pa_cons (pe_op op_add_str pe_str (pe_op op_mulS pe_str pe_int)) (pa_cons (pe_op op_add_str pe_str (pe_op op_mulS pe_str pe_int)) pa_nil)))))))))))
      (pss_one (ps_ret (pe_op op_cat (pv 0) (pe_lst (pa_cons (pe_op op_mulS pe_str pe_int) (pa_cons (pe_op op_mulS pe_str pe_int) (pa_cons (pe_op op_mulS pe_str pe_int) (pa_cons (pe_op op_mulS pe_str pe_int) (pa_cons (pe_op op_add_str pe_str (pe_op op_mulS pe_str pe_int)) pa_nil)))))))))))), ?_⟩
    refine ⟨by show 19 ≤ sizeLine; omega, fun a na => ?_⟩
    have sa := same_upd (o := HO.lst (fewA.map V.str)) na
    refine ⟨_, rfl, by show 12 ≤ sizeLine; omega, fun b nb_ => ?_⟩
    have sb := same_upd (o := HO.lst (fewB.map V.str)) nb_
    refine ⟨a, b, fewA.map V.str, fewB.map V.str, rfl, rfl, sb _ _ upd_same, upd_same, by show 19 + 12 ≤ sizeLine; omega, fun c nc => ?_⟩
    have sc := same_upd (o := HO.lst (fewA.map V.str ++ fewB.map V.str)) nc
    refine ⟨_, rfl, _, _, rfl, rfl, by decide, by decide, by decide +kernel, _, _, rfl, rfl, by decide, by decide, by decide +kernel, _, _, rfl, rfl, by decide, by decide, by decide +kernel, _, _, rfl, rfl, add_sz (by decide) (by decide +kernel), _, _, rfl, rfl, by decide, by decide, by decide +kernel, _, _, rfl, rfl, add_sz (by decide) (by decide +kernel), by show 8 ≤ sizeLine; omega, fun e ne => ?_⟩
    have se := same_upd (o := HO.lst (fewC.map V.str)) ne
    refine ⟨c, e, fewA.map V.str ++ fewB.map V.str, fewC.map V.str, rfl, rfl, se _ _ upd_same, upd_same, by show 19 + 12 + 8 ≤ sizeLine; omega, fun g ng => ?_⟩
    have sg := same_upd (o := HO.lst ((fewA.map V.str ++ fewB.map V.str) ++ fewC.map V.str)) ng
    refine ⟨_, rfl, _, _, rfl, rfl, by decide, by decide, by decide +kernel, _, _, rfl, rfl, by decide, by decide, by decide +kernel, _, _, rfl, rfl, by decide, by decide, by decide +kernel, _, _, rfl, rfl, by decide, by decide, by decide +kernel, _, _, rfl, rfl, by decide, by decide, by decide +kernel, _, _, rfl, rfl, add_sz (by decide) (by decide +kernel), by show 5 ≤ sizeLine; omega, fun i ni => ?_⟩
    have si := same_upd (o := HO.lst (fewD.map V.str)) ni
    refine ⟨g, i, (fewA.map V.str ++ fewB.map V.str) ++ fewC.map V.str, fewD.map V.str, rfl, rfl, si _ _ upd_same, upd_same, by show 19 + 12 + 8 + 5 ≤ sizeLine; omega, fun l nl => ?_⟩
    have sl := same_upd (o := HO.lst (((fewA.map V.str ++ fewB.map V.str) ++ fewC.map V.str) ++ fewD.map V.str)) nl
    have sH := sa.trans (sb.trans (sc.trans (se.trans (sg.trans (si.trans sl)))))
    exact q _ l sH (sa.free (sb.free (sc.free (se.free (sg.free (si.free nl)))))) upd_same
end
end Vl

set_option autoImplicit false
set_option maxHeartbeats 2000000
namespace Vl
open PySem PySem.Spec PyProof.Rows L2 TL CwR PySem.StrLaws
mutual
theorem go_once {L : List Nat} : ∀ {k : Nat} {st : List (List PyData)} {d d' : PyData}, Go L k st d → Go L k st d' → d = d'
  | _, _, _, _, .more a b c, h => by
    cases h with
    | more _ _ c' => exact go_once c c'
    | empty _ b' _ => exact absurd b' b
    | flat a' _ _ => exact absurd a a'
  | _, _, _, _, .empty a b c, h => by
    cases h with
    | more _ b' _ => exact absurd b b'
    | empty _ _ c' => exact cl_once c c'
    | flat a' _ _ => exact absurd a a'
  | _, _, _, _, .flat a b c, h => by
    cases h with
    | more a' _ _ => exact absurd a' a
    | empty a' _ _ => exact absurd a' a
    | flat _ b' c' =>
      obtain ⟨rfl, rfl⟩ := flat_one b b'
      exact cl_once c c'
theorem cl_once {L : List Nat} : ∀ {k : Nat} {st : List (List PyData)} {d d' : PyData}, Cl L k st d → Cl L k st d' → d = d'
  | _, _, _, _, .close a b, h => by
    cases h with
    | close _ b' => exact cl_once b b'
    | sep a' _ => rw [a] at a'; cases a'
  | _, _, _, _, .done _, h => by
    cases h with
    | done _ => rfl
  | _, _, _, _, .sep a b, h => by
    cases h with
    | close a' _ => rw [a] at a'; cases a'
    | sep _ b' => exact go_once b b'
end
theorem wr_one {d d' : PyData} (h : Ok d) (h' : Ok d') (e : wr d = wr d') : d = d' := by
  have g := go_all h
  rw [e] at g
  exact go_once g (go_all h')
mutual
theorem go_or {L : List Nat} : ∀ {k : Nat} {st : List (List PyData)} {d : PyData} {e : Nat}, Go L k st d → ¬ GoE L k st e
  | _, _, _, _, .more a b c, h => by
    cases h with
    | more _ _ c' => exact go_or c c'
    | empty _ b' _ => exact absurd b' b
    | flat a' _ _ => exact absurd a a'
    | bad a' _ => exact absurd a a'
  | _, _, _, _, .empty a b c, h => by
    cases h with
    | more _ b' _ => exact absurd b b'
    | empty _ _ c' => exact cl_or c c'
    | flat a' _ _ => exact absurd a a'
    | bad a' _ => exact absurd a a'
  | _, _, _, _, .flat a b c, h => by
    cases h with
    | more a' _ _ => exact absurd a' a
    | empty a' _ _ => exact absurd a' a
    | flat _ b' c' =>
      obtain ⟨rfl, rfl⟩ := flat_one b b'
      exact cl_or c c'
    | bad _ b' => exact flat_not b b'
theorem cl_or {L : List Nat} : ∀ {k : Nat} {st : List (List PyData)} {d : PyData} {e : Nat}, Cl L k st d → ¬ ClE L k st e
  | _, _, _, _, .close a b, h => by
    cases h with
    | close _ b' => exact cl_or b b'
    | sep a' _ => rw [a] at a'; cases a'
    | bad a' _ => exact absurd a a'
  | _, _, _, _, .done a, h => by
    cases h with
    | rest b => omega
  | _, _, _, _, .sep a b, h => by
    cases h with
    | close a' _ => rw [a] at a'; cases a'
    | sep _ b' => exact go_or b b'
    | bad _ a' => exact absurd a a'
end
end Vl

set_option autoImplicit false
set_option maxHeartbeats 2000000
namespace Vl
open PySem PySem.Spec PyProof.Rows L2 TL CwR
/-- nothing is in a written table but its keys -/
theorem tab_out {fa : List He.Fa} {fn : List He.DefD} {ts : List He.Tab} {w : World} {K : PySem.W.Frag} (c : He.SaysT fa fn ts w K) {i : Nat} {t : He.Tab} (h : ts[i]? = some t) {z : Str} (hz : z ∉ t.2) : PySem.W.nsIn K (t.1 K) z = some none := by
  have e := congrArg (fun p => p.2[i]?) c
  have e1 : (He.obsT fa fn ts K).2[i]? = some (He.dicW K (t.1 K)) := by
    show (ts.map fun t => He.dicW K (t.1 K))[i]? = _
    rw [List.getElem?_map, h]
    rfl
  have e2 : (He.valT fn ts w).2[i]? = some (some (He.keysIn w.params t.2)) := by
    show (ts.map fun t => some (He.keysIn w.params t.2))[i]? = _
    rw [List.getElem?_map, h]
    rfl
  have e3 : He.dicW K (t.1 K) = some (He.keysIn w.params t.2) := by
    have e' : (He.obsT fa fn ts K).2[i]? = (He.valT fn ts w).2[i]? := e
    rw [e1, e2] at e'
    exact Option.some.inj e'
  unfold He.dicW at e3
  unfold PySem.W.nsIn
  split at e3
  · rename_i c es ep sl hl
    rw [hl]
    split at e3
    · have em : es.toList.map He.keyOf = He.keysIn w.params t.2 := Option.some.inj e3
      have key : ∀ e ∈ es.toList, ∃ x tok, e.key = .str x tok ∧ x ∈ t.2 := by
        intro e he
        have m : He.keyOf e ∈ He.keysIn w.params t.2 := by rw [← em]; exact List.mem_map_of_mem he
        obtain ⟨k, hk, ek⟩ := List.mem_map.mp m
        cases q : e.key with
        | str x tok =>
          have : He.keyOf e = some (x, e.hash) := by unfold He.keyOf; rw [q]
          rw [this] at ek
          have e9 : k = x := congrArg Prod.fst (Option.some.inj ek)
          exact ⟨_, _, rfl, e9 ▸ hk⟩
        | _ =>
          exfalso
          have : He.keyOf e = none := by unfold He.keyOf; rw [q]
          rw [this] at ek
          cases ek
      have f1 : es.toList.find? (fun x => x.key.isStr z) = none := by
        rw [List.find?_eq_none]
        intro e he
        obtain ⟨x, tok, q, hx⟩ := key e he
        rw [q]
        intro y
        have : x = z := by
          simpa [Value.isStr] using y
        exact hz (this ▸ hx)
      have f2 : (es.toList.any fun x => x.refKey) = false := by
        rw [List.any_eq_false]
        intro e he
        obtain ⟨x, tok, q, hx⟩ := key e he
        simp [DictEntry.refKey, q]
      simp only [f1, f2]
      rfl
    · cases e3
  · cases e3
end Vl

set_option autoImplicit false
set_option maxHeartbeats 4000000
namespace Vl
open PySem PySem.Spec PyProof.Rows L2 TL CwR PySem.StrLaws Kx
open Ev (op_mulS mul_len)
abbrev sLaw : Stmt := top 30
theorem mem_dbl : ∀ {l : List Nat} {c : Nat}, c ∈ dbl l → c ∈ l ∨ c = 34
  | [], c, h => by cases h
  | x :: r, c, h => by
    by_cases hx : x = 34
    · have e : dbl (x :: r) = 34 :: 34 :: dbl r := if_pos hx
      rw [e] at h
      rcases List.mem_cons.mp h with z | h
      · exact .inr z
      rcases List.mem_cons.mp h with z | h
      · exact .inr z
      rcases mem_dbl h with z | z
      · exact .inl (List.mem_cons_of_mem _ z)
      · exact .inr z
    · have e : dbl (x :: r) = x :: dbl r := if_neg hx
      rw [e] at h
      rcases List.mem_cons.mp h with z | h
      · exact .inl (by rw [z]; exact List.mem_cons_self ..)
      rcases mem_dbl h with z | z
      · exact .inl (List.mem_cons_of_mem _ z)
      · exact .inr z
mutual
theorem wr_sm : ∀ d : PyData, Ok d → ∀ c ∈ wr d, c < 1114112
  | .none, _, c, h => by
    have : c = 45 := List.mem_singleton.mp h
    omega
  | .bool b, _, c, h => by
    have : c = (if b = true then 43 else 33) := List.mem_singleton.mp h
    rw [this]
    cases b <;> decide
  | .int i, _, c, hc => by
    by_cases h0 : 0 ≤ i
    · obtain ⟨n, rfl⟩ := Int.eq_ofNat_of_zero_le h0
      have hc' : c ∈ sgn (n : Int) := hc
      rw [sgn_pos] at hc'
      have := numL_digits n c hc'
      omega
    · obtain ⟨n, hn0, rfl⟩ : ∃ n : Nat, 0 < n ∧ i = -(n : Int) := ⟨i.natAbs, by omega, by omega⟩
      have hc' : c ∈ sgn (-(n : Int)) := hc
      rw [sgn_neg hn0] at hc'
      rcases List.mem_cons.mp hc' with e | h
      · omega
      · have := numL_digits n c h
        omega
  | .str z, ok, c, hc => by
    have hz : ∀ c ∈ tl z, 32 ≤ c ∧ c ≤ 126 ∧ c ≠ 37 := by cases ok with | str _ h => exact h
    have hc' : c ∈ 34 :: (dbl (tl z) ++ [34]) := hc
    rcases List.mem_cons.mp hc' with e | h
    · omega
    rcases List.mem_append.mp h with h | h
    · rcases mem_dbl h with h | h
      · have := (hz c h).2.1
        omega
      · omega
    · have := List.mem_singleton.mp h
      omega
  | .tuple ds, ok, c, hc => by
    have hk : ∀ d ∈ ds, Ok d := by cases ok with | tup h => exact h
    have ih := wrT_sm ds hk
    have hc' : c ∈ 40 :: wrF ds := hc
    rcases List.mem_cons.mp hc' with e | h
    · omega
    · cases ds with
      | nil =>
        have : c = 41 := List.mem_singleton.mp h
        omega
      | cons d r => exact ih c (List.mem_cons_of_mem _ h)
  | .list _, h, _, _ => by cases h
  | .dict _, h, _, _ => by cases h
theorem wrT_sm : ∀ ds : List PyData, (∀ d ∈ ds, Ok d) → ∀ c ∈ wrT ds, c < 1114112
  | [], _, c, h => by
    have : c = 41 := List.mem_singleton.mp h
    omega
  | d :: r, hk, c, hc => by
    have hc' : c ∈ 32 :: (wr d ++ wrT r) := hc
    rcases List.mem_cons.mp hc' with e | h
    · omega
    rcases List.mem_append.mp h with h | h
    · exact wr_sm d (hk d (List.mem_cons_self ..)) c h
    · exact wrT_sm r (fun x hx => hk x (List.mem_cons_of_mem _ hx)) c h
end
theorem strOk_go {t : Str} {d : PyData} (g : Go (tl t) 0 [[]] d) : PyData.strOk t = true := by
  obtain ⟨el, ok⟩ := go_is g
  show t.cps.all (· < 0x110000) = true
  rw [← Array.all_toList, List.all_eq_true]
  intro e he
  have he' : e ∈ tl t := he
  rw [el] at he'
  exact decide_eq_true (wr_sm d ok e he')
theorem sh_told {t : Str} (h : PyData.strOk t = true) : SeqAt.shaped (.tuple [.str "told", .str t]) = true := by
  have e : PyData.strOk "told" = true := by decide +kernel
  simp [SeqAt.shaped, PyData.canLay0, PyData.canLayAll0, PyData.depth, PyData.depthAll, h, e]
theorem sh_ref (n : Int) : SeqAt.shaped (.tuple [.str "refused", .int n, .bool true]) = true := by
  have e : PyData.strOk "refused" = true := by decide +kernel
  simp [SeqAt.shaped, PyData.canLay0, PyData.canLayAll0, PyData.depth, PyData.depthAll, e]
/-- tuples within one another -/
def nest : Nat → PyData
  | 0 => .tuple []
  | n + 1 => .tuple [nest n]
theorem nest_ok : ∀ n, Ok (nest n)
  | 0 => .tup (fun _ h => by cases h)
  | n + 1 => .tup (fun d h => by rw [List.mem_singleton.mp h]; exact nest_ok n)
theorem nest_wr : ∀ n, wr (nest n) = List.replicate (n + 1) 40 ++ List.replicate (n + 1) 41
  | 0 => rfl
  | n + 1 => by
    show 40 :: (wr (nest n) ++ [41]) = _
    rw [nest_wr n, List.replicate_succ (n := n + 1) (a := 40), List.replicate_succ' (n := n + 1) (a := 41), List.append_assoc, List.cons_append]
theorem flat_rep (n c : Nat) : (List.replicate n [c]).flatten = List.replicate n c := by
  induction n with
  | zero => rfl
  | succ n ih => rw [List.replicate_succ, List.flatten_cons, ih, List.replicate_succ]; rfl
theorem nest_text {n : Nat} {x y : Str} (hx : tl x = [40]) (hy : tl y = [41]) : tl (Txt.mul x ((n + 1 : Nat) : Int) ++ Txt.mul y ((n + 1 : Nat) : Int)) = wr (nest n) := by
  rw [tl_append, tl_mul (by omega), tl_mul (by omega), hx, hy, nest_wr, Int.toNat_natCast, flat_rep, flat_rep]
theorem not_both {L : List Nat} {d : PyData} {e : Nat} (h : Go L 0 [[]] d) (h2 : GoE L 0 [[]] e) : False := by
  have a := walk_go h
  have b := walk_goE h2
  rw [a] at b
  cases b
theorem HandAt.upT {H : Hp} {h T : Addr} {n : Nat} {z : Str} {xs : List V} {o : HO} (a : HandAt H h n) (hT : H T = some (.lst (.str z :: xs))) : HandAt (upd H T o) h n := by
  obtain ⟨l, ns, t, c, h1, h2, r⟩ := a
  have nh : h ≠ T := fun e => by
    rw [e, hT] at h1
    cases h1
  have nl : l ≠ T := fun e => by
    rw [e, hT] at h2
    cases ns with
    | nil => cases h2
    | cons _ _ => cases h2
  exact ⟨l, ns, t, c, by rw [upd_ne nh]; exact h1, by rw [upd_ne nl]; exact h2, r⟩
def tOK (t : Str) : Prop := t.length ≤ 1000000 ∧ ∀ d, Go (tl t) 0 [[]] d → d.depth ≤ DD
theorem few_ok : ∀ t ∈ FEW, tOK t := fun t ht => by
  obtain ⟨h1, h2⟩ := small_depth (List.all_eq_true.mp few_all t ht)
  exact ⟨by omega, h2⟩
theorem scLaw : FnScope ["script", "hand", "texts", "turn", "written", "at", "due", "deep", "found"] ["script"] (defScope sLaw) := ⟨rfl, rfl, rfl, by decide +kernel, rfl, by decide +kernel, by decide +kernel⟩
def spLaw (K : PySem.W.Frag) : Sp := fun vs H Q _ => ∃ (a : Addr) (ns : List Int), vs = [.ref a] ∧ SqL K H a (ns.map V.int) ∧ ns.length ≤ 63 ∧ ∀ H', Q (.bl true) H'
section
variable {P : Program} {w : World} {K : PySem.W.Frag} {mg : Str → Option Value} {base : Heap}
theorem ok_law {C : Addr} {f fD fF fX fW fV fK fT fP fR : Addr} {fd fdD fdF fdX fdW fdV fdK fdT fdP fdR : FuncData} (F : FnP K "law" sLaw f fd)
    (FD : FnP K "_law_dealt" sDealt fD fdD) (gD : mg "_law_dealt" = some (.ref fD)) (GD : FnOk P w K mg base CX0 1 fD fdD ["script"] (spDealt K)) (FF : FnP K "_law_few" sFew fF fdF) (gF : mg "_law_few" = some (.ref fF)) (GF : FnOk P w K mg base CX0 1 fF fdF [] spFew)
    (FX : FnP K "_law_spoilt" sSpoilt fX fdX) (gX : mg "_law_spoilt" = some (.ref fX)) (GX : FnOk P w K mg base CX0 2 fX fdX ["hand", "written"] spSpoilt) (FW : FnP K "_law_writing" sWriting fW fdW) (gW : mg "_law_writing" = some (.ref fW)) (GW : FnA P w K mg base CX0 (DD + 1) fW fdW ["value"] (spWr DD))
    (FV : FnP K "_law_any_value" sValue fV fdV) (gV : mg "_law_any_value" = some (.ref fV)) (GV : FnOk P w K mg base CX0 6 fV fdV ["hand", "deep"] (spValue 3)) (FK : FnP K "_law_walk" sWalk fK fdK) (gK : mg "_law_walk" = some (.ref fK)) (GK : FnOk P w K mg base CX0 3 fK fdK ["row"] spWalk)
    (FT : FnP K "_law_told" sTold fT fdT) (gT : mg "_law_told" = some (.ref fT)) (GT : FnOk P w K mg base CX0 111 fT fdT ["written"] spTold) (FP : FnP K "_law_pick" sPick fP fdP) (gP : mg "_law_pick" = some (.ref fP)) (GP : FnOk P w K mg base CX0 1 fP fdP ["hand", "many"] spPick)
    (FR : FnP K "read" sRead fR fdR) (gR : mg "read" = some (.ref fR)) (GR : FnOk P w K mg base (L2.CX P w) 6 fR fdR ["text"] (spReadE C)) (mr : mg "range" = none) (mi : mg "isinstance" = none) (mt : mg "tuple" = none) (ml : mg "len" = none) :
    FnOk P w K mg base CX0 112 f fd ["script"] (spLaw K) := by
  have bD : Binds K fdD ["script"] [] := FD.bindsN fun _ _ _ _ _ _ us hl => match us, hl with | [_], _ => rfl
  have bF : Binds K fdF [] [] := FF.bindsN fun _ _ _ _ _ _ us hl => match us, hl with | [], _ => rfl
  have bX : Binds K fdX ["hand", "written"] [] := FX.bindsN fun _ _ _ _ _ _ us hl => match us, hl with | [_, _], _ => rfl
  have bW : Binds K fdW ["value"] [] := FW.bindsN fun _ _ _ _ _ _ us hl => match us, hl with | [_], _ => rfl
  have bV : Binds K fdV ["hand", "deep"] [] := FV.bindsN fun _ _ _ _ _ _ us hl => match us, hl with | [_, _], _ => rfl
  have bK : Binds K fdK ["row"] [] := FK.bindsN fun _ _ _ _ _ _ us hl => match us, hl with | [_], _ => rfl
  have bT : Binds K fdT ["written"] [] := FT.bindsN fun _ _ _ _ _ _ us hl => match us, hl with | [_], _ => rfl
  have bP : Binds K fdP ["hand", "many"] [] := FP.bindsN fun _ _ _ _ _ _ us hl => match us, hl with | [_, _], _ => rfl
  have bR : Binds K fdR ["text"] [] := FR.bindsN fun _ _ _ _ _ _ us hl => match us, hl with | [_], _ => rfl
  refine F.ok scLaw (fun vs H Q E h => ?_) (fun cdv A outer s H vs Q E hr h => ?_)
  · obtain ⟨a, ns, rfl, _⟩ := h
    rfl
  · obtain ⟨a, ns, rfl, hS, hlen, q⟩ := h
    have hs := szl
    have hr1 : Room 1 _ := hr.mono (by decide)
    have hr2 : Room 2 _ := hr.mono (by decide)
    have hr3 : Room 3 _ := hr.mono (by decide)
    have hr6 : Room 6 _ := hr.mono (by decide)
    have hrW : Rm (DD + 1) _ := Rm.of (hr.mono (by decide))
    refine ⟨_, PSs.nox (pss_cons (ps_set (i := 1) scLaw.nd rfl (.inl rfl) (pe_call GD hr1 (by rfl) gD FD.kp bD .nil pass0 (pa_cons (pv 0) pa_nil)))
      (pss_cons (ps_set (i := 2) scLaw.nd rfl (.inl rfl) (pe_call0 GF hr1 (by rfl) gF FF.kp bF .nil pass0))
      (C8.pss_cut (ps_for PassesOwn.never rfl (pi_range1 (by rfl) mr (pa_cons (pe_int) pa_nil)) (pg_name (i := 3) scLaw.nd rfl (.inl rfl)) (pss_cons (ps_set (i := 4) scLaw.nd rfl (.inl rfl) (pe_call GX hr2 (by rfl) gX FX.kp bX .nil pass0 (pa_cons (pv 1) (pa_cons (pe_callA GW hrW (by rfl) gW FW.kp bW .nil pass0 (pa_cons (pe_call GV hr6 (by rfl) gV FV.kp bV .nil pass0 (pa_cons (pv 1) (pa_cons (pe_int) pa_nil))) pa_nil)) pa_nil))))
      (pss_cons (ps_expr (pe_bm PySem.F.plainAttrs_list PySem.F.slot_list_append PySem.F.type_list_append mt_append (pv 2) (pa_cons (pv 4) pa_nil)))
      (pss_one (ps_expr (pe_bm PySem.F.plainAttrs_list PySem.F.slot_list_append PySem.F.type_list_append mt_append (pv 2) (pa_cons (pe_call GX hr2 (by rfl) gX FX.kp bX .nil pass0 (pa_cons (pv 1) (pa_cons (pv 4) pa_nil))) pa_nil)))))))
      (pss_cons (ps_for PassesOwn.never rfl (pi_list (pv 2)) (pg_name (i := 4) scLaw.nd rfl (.inl rfl)) (pss_cons (ps_set (i := 5) scLaw.nd rfl (.inl rfl) (pe_call GK hr3 (by rfl) gK FK.kp bK .nil pass0 (pa_cons (pv 4) pa_nil)))
      (C8.pss_cut (ps_set (i := 6) scLaw.nd rfl (.inl rfl) (pe_ifExp (pt_cmpR op_eq (pv 5) (pe_un un_neg pe_int) (nomark _)) (pe_tup (pa_cons (pe_str) (pa_cons (pv 4) pa_nil))) (pe_tup (pa_cons (pe_str) (pa_cons (pv 5) (pa_cons (pe_bl) pa_nil))))))
      (pss_one (ps_if (pt_cmpR (op_neD hr.units) (pe_call GT hr (by rfl) gT FT.kp bT .nil pass0 (pa_cons (pv 4) pa_nil)) (pv 6) (nomark _)) (pss_one (ps_ret pe_bl)) pss_nil)))))
      (pss_cons (ps_set (i := 7) scLaw.nd rfl (.inl rfl) (pe_op op_add (pe_int) (pe_call GP hr1 (by rfl) gP FP.kp bP .nil pass0 (pa_cons (pv 1) (pa_cons (pe_int) pa_nil)))))
      (pss_cons (ps_set (i := 8) scLaw.nd rfl (.inl rfl) (pe_call GR hr6 (by rfl) gR FR.kp bR .nil passL (pa_cons (pe_op op_add_str (pe_op op_mulS (pe_str) (pv 7)) (pe_op op_mulS (pe_str) (pv 7))) pa_nil)))
      (pss_cons (ps_for PassesOwn.never rfl (pi_range1 (by rfl) mr (pa_cons (pe_op op_sub (pv 7) (pe_int)) pa_nil)) (pg_name (i := 3) scLaw.nd rfl (.inl rfl)) (pss_cons (ps_if (PW.pt (pw_or (pt_not (pt_val (pe_callB call_isi (by rfl) mi (by decide +kernel) (pa_cons (pv 8) (pa_cons (pe_bltn (v := .ty "tuple") (by rfl) mt PyProof.Rows.boot_tuple rfl) pa_nil))))) (pw_or1 (pt_cmpR op_ne (pe_callB call_len_seq (by rfl) ml PySem.boot_len (pa_cons (pv 8) pa_nil)) (pe_int) (nomark _))))) (pss_one (ps_ret pe_bl)) pss_nil)
      (pss_one (ps_set (i := 8) scLaw.nd rfl (.inl rfl) (pe_ix ix_tup (pv 8) (pe_int) (fun _ _ => rfl))))))
      (pss_one (ps_ret (pe_cmpR (op_eqD hr.units) (pv 8) (pe_tup pa_nil) (nomark _))))))))))), ?_⟩
    refine ⟨_, rfl, a, ns, rfl, hS, hlen, fun H1 h s1 nh A1 => ?_⟩
    refine ⟨rfl, fun H2 T s2 nT hT => ?_⟩
    have A2 := A1.same s2
    refine ⟨fun σ' H' => ∃ (ts : List Str) (v3 v4 : Option V), σ' = [some (.ref a), some (.ref h), some (.ref T), v3, v4, none, none, none, none] ∧ HandAt H' h 46000 ∧ H' T = some (.lst (ts.map V.str)) ∧ ∀ t ∈ ts, tOK t, ?_, ?_⟩
    · refine ⟨10, rfl, by decide, by decide, ?_⟩
      refine for_range (lo := 0) (n := (10 : Int).toNat) (fun i σ' H' => ∃ (ts : List Str) (v3 v4 : Option V), σ' = [some (.ref a), some (.ref h), some (.ref T), v3, v4, none, none, none, none] ∧ HandAt H' h (i * 4600) ∧ H' T = some (.lst ((Str.ofString "" :: ts).map V.str)) ∧ (∀ t ∈ (Str.ofString "" :: ts), tOK t) ∧ ts.length ≤ 100 + 2 * i)
        ⟨FEW.tail, _, _, rfl, A2.mono (Nat.zero_le _), hT, few_ok, by decide +kernel⟩ ?_ ?_
      · rintro i σ' H3 hi ⟨ts, v3, v4, rfl, A3, hT3, ok3, hl3⟩
        have hi10 : i < 10 := hi
        have p3 : pB 3 = 4590 := rfl
        refine ⟨_, rfl, _, rfl, h, i * 4600, rfl, A3, by omega, fun H4 x d b4 A4 vd gd => ?_⟩
        have neT : ∀ {H' : Hp} {n : Nat} {xs : List V} {z : Str}, HandAt H' h n → H' T = some (.lst (.str z :: xs)) → T ≠ h := fun {H' n xs z} a e z' => by
          obtain ⟨l, ns, t, c, h1, _⟩ := a
          rw [z', h1] at e
          cases e
        have nTh := neT A3 hT3
        have hT4 := but_at b4 hT3 nTh
        have el : bB 3 = 566 := rfl
        have wl : wB 3 = 1799 := rfl
        have hg := gd.w_
        have hgb := gd.b_
        rw [wl] at hg
        rw [el] at hgb
        refine ⟨x, d, rfl, vd, gd.sm, by omega, Nat.le_trans gd.dp (by decide), fun H5 t0 s5 e0 => ?_⟩
        have A5 := A4.same s5
        have hT5 := s5 _ _ hT4
        have l0 := len_tl t0
        rw [e0] at l0
        refine ⟨h, t0, _, rfl, A5, by omega, by omega, fun H6 t1 b6 A6 l1 n1 => ?_⟩
        rw [e0] at n1
        have hT6 := but_at b6 hT5 nTh
        have ok1 : tOK t1 := ⟨by omega, fun d g => depth_go g (.inl (by omega))⟩
        refine ⟨_, rfl, .inl ⟨rfl, _, SqL.of hT6⟩, _, rfl, T, _, _, rfl, rfl, hT6, by rw [List.length_map, List.length_cons]; omega, ?_⟩
        have A7 := A6.upT (o := .lst ((Str.ofString "" :: ts).map V.str ++ [.str t1])) hT6
        have hT7 : (upd H6 T (.lst ((Str.ofString "" :: ts).map V.str ++ [.str t1]))) T = some (.lst ((Str.ofString "" :: (ts ++ [t1])).map V.str)) := by
          rw [upd_same]
          simp
        generalize (upd H6 T (.lst ((Str.ofString "" :: ts).map V.str ++ [.str t1]))) = H7 at A7 hT7
        refine ⟨_, rfl, .inl ⟨rfl, _, SqL.of hT7⟩, _, rfl, _, rfl, h, t1, _, rfl, A7, by omega, by omega, fun H8 t2 b8 A8 l2 n2 => ?_⟩
        have hT8 := but_at b8 hT7 nTh
        have ok2 : tOK t2 := ⟨by omega, fun d g => depth_go g (.inl (by omega))⟩
        refine ⟨T, _, _, rfl, rfl, hT8, by rw [List.length_map, List.length_cons, List.length_append, List.length_singleton]; omega, ?_⟩
        have A9 := A8.upT (o := .lst ((Str.ofString "" :: (ts ++ [t1])).map V.str ++ [.str t2])) hT8
        refine ⟨ts ++ [t1] ++ [t2], _, _, rfl, A9.mono (by omega), by rw [upd_same]; simp, fun t ht => ?_, by simp; omega⟩
        rcases List.mem_cons.mp ht with e | ht
        · exact ok3 t (by rw [e]; exact List.mem_cons_self ..)
        rcases List.mem_append.mp ht with ht | ht
        · rcases List.mem_append.mp ht with ht | ht
          · exact ok3 t (List.mem_cons_of_mem _ ht)
          · rw [List.mem_singleton.mp ht]
            exact ok1
        · rw [List.mem_singleton.mp ht]
          exact ok2
      · rintro σ' H3 ⟨ts, v3, v4, rfl, A3, hT3, ok3, hl3⟩
        exact ⟨_, _, _, rfl, A3, hT3, ok3⟩
    · rintro σ' H3 ⟨ts, v3, v4, rfl, A3, hT3, ok3⟩
      refine ⟨_, rfl, T, rfl, ⟨_, SqL.of hT3⟩, for_list (K := K) (a := T) (xs := ts.map V.str) (fun i σ H' => ∃ (v4 v5 v6 : Option V), σ = [some (.ref a), some (.ref h), some (.ref T), v3, v4, v5, v6, none, none] ∧ Same H3 H')
        ⟨_, _, _, rfl, fun _ _ e => e⟩ (fun i σ H' _ ⟨_, _, _, _, sm⟩ => SqL.of (sm _ _ hT3)) ?_ ?_⟩
      · rintro i x σ H4 hx ⟨v4, v5, v6, rfl, s4⟩
        obtain ⟨t, ht, rfl⟩ : ∃ t, ts[i]? = some t ∧ V.str t = x := by
          rw [List.getElem?_map] at hx
          exact Option.map_eq_some_iff.mp hx
        have tk := ok3 t (List.mem_of_getElem? ht)
        refine ⟨_, rfl, t, rfl, by have := tk.1; omega, fun H5 s5 => ?_⟩
        rcases go_total (tl t) with ⟨d, g⟩ | ⟨e, g⟩
        · rw [walk_go g]
          refine ⟨fun σ' H' => ∃ p, σ' = [some (.ref a), some (.ref h), some (.ref T), v3, some (.str t), some (.int (-1)), some (.ref p), none, none] ∧ Same H3 H' ∧ H' p = some (.tup [.str "told", .str t]), ?_, ?_⟩
          · refine ⟨_, rfl, _, rfl, rfl, _, rfl, iteT ⟨_, rfl, by show 2 ≤ sizeLine; omega, fun p np => ?_⟩⟩
            exact ⟨p, rfl, s4.trans (s5.trans (same_upd np)), upd_same⟩
          · rintro σ' H6 ⟨p, rfl, s6, hp⟩
            refine ⟨_, rfl, t, rfl, tk.1, tk.2, fun d g H7 p2 s7 n2 h2 => ?_, fun n g2 => (not_both g g2).elim⟩
            have so := strOk_go g
            refine ⟨_, rfl, .tuple [.str "told", .str t], .tuple [.str "told", .str t], .tup (.inl (.inl h2)) (.cons (.str _) (.cons (.str _) .nil)), .tup (.inl (.inl (s7 _ _ hp))) (.cons (.str _) (.cons (.str _) .nil)), sh_told so, sh_told so, _, rfl, ?_⟩
            have ee : (!PyData.eqv (.tuple [.str "told", .str t]) (.tuple [.str "told", .str t])) = false := by simp [PyData.eqv, PyData.eqvAll]
            show if (!PyData.eqv (.tuple [.str "told", .str t]) (.tuple [.str "told", .str t])) = true then _ else _
            rw [ee]
            exact iteF ⟨_, _, _, rfl, s6.trans s7⟩
        · rw [walk_goE g]
          refine ⟨fun σ' H' => ∃ p, σ' = [some (.ref a), some (.ref h), some (.ref T), v3, some (.str t), some (.int (e : Int)), some (.ref p), none, none] ∧ Same H3 H' ∧ H' p = some (.tup [.str "refused", .int (e : Int), .bl true]), ?_, ?_⟩
          · refine ⟨_, rfl, _, rfl, rfl, _, rfl, ?_⟩
            have en : decide (V.int (wv (some e)) = V.int (-1)) = false := decide_eq_false fun z => by
              have z' : (e : Int) = -1 := V.int.inj z
              omega
            show if decide (V.int (wv (some e)) = V.int (-1)) = true then _ else _
            rw [en]
            refine iteF ⟨_, rfl, by show 3 ≤ sizeLine; omega, fun p np => ?_⟩
            exact ⟨p, rfl, s4.trans (s5.trans (same_upd np)), upd_same⟩
          · rintro σ' H6 ⟨p, rfl, s6, hp⟩
            refine ⟨_, rfl, t, rfl, tk.1, tk.2, fun d g2 => (not_both g2 g).elim, fun n g2 H7 p2 s7 n2 h2 => ?_⟩
            have en : n = e := by
              have z1 := walk_goE g
              have z2 := walk_goE g2
              rw [z1] at z2
              exact (Option.some.inj z2).symm
            subst en
            refine ⟨_, rfl, .tuple [.str "refused", .int (n : Int), .bool true], .tuple [.str "refused", .int (n : Int), .bool true], .tup (.inl (.inl h2)) (.cons (.str _) (.cons (.int _) (.cons (.bl _) .nil))), .tup (.inl (.inl (s7 _ _ hp))) (.cons (.str _) (.cons (.int _) (.cons (.bl _) .nil))), sh_ref _, sh_ref _, _, rfl, ?_⟩
            have ee : (!PyData.eqv (.tuple [.str "refused", .int (n : Int), .bool true]) (.tuple [.str "refused", .int (n : Int), .bool true])) = false := by simp [PyData.eqv, PyData.eqvAll]
            show if (!PyData.eqv (.tuple [.str "refused", .int (n : Int), .bool true]) (.tuple [.str "refused", .int (n : Int), .bool true])) = true then _ else _
            rw [ee]
            exact iteF ⟨_, _, _, rfl, s6.trans s7⟩
      · rintro σ H4 ⟨v4, v5, v6, rfl, s4⟩
        have A4 := A3.same s4
        refine ⟨_, rfl, h, 900, _, rfl, A4, by omega, by decide, by decide, fun H5 k5 b5 A5 k50 k51 => ?_⟩
        obtain ⟨k, rfl⟩ := Int.eq_ofNat_of_zero_le k50
        have hk : k < 900 := by omega
        have hx : tl (Str.ofString "(") = [40] := by decide +kernel
        have hy : tl (Str.ofString ")") = [41] := by decide +kernel
        have edeep : (1000 : Int) + (k : Int) = ((999 + k + 1 : Nat) : Int) := by omega
        have tt := nest_text (n := 999 + k) hx hy
        rw [← edeep] at tt
        have one1 : (Str.ofString "(").length = 1 := by decide +kernel
        have one2 : (Str.ofString ")").length = 1 := by decide +kernel
        have lx : (Txt.mul (Str.ofString "(") ((1000 : Int) + (k : Int))).length ≤ 2000 := by
          refine Nat.le_trans (mul_len (by omega)) ?_
          rw [one1]
          omega
        have ly : (Txt.mul (Str.ofString ")") ((1000 : Int) + (k : Int))).length ≤ 2000 := by
          refine Nat.le_trans (mul_len (by omega)) ?_
          rw [one2]
          omega
        refine ⟨_, _, rfl, rfl, ?_⟩
        refine ⟨_, rfl, _, _, rfl, rfl, by omega, by omega, by rw [one1]; omega, _, rfl, _, _, rfl, rfl, by omega, by omega, by rw [one2]; omega, _, _, rfl, rfl, by omega, ?_⟩
        have gn : Go (tl (Txt.mul (Str.ofString "(") ((1000 : Int) + (k : Int)) ++ Txt.mul (Str.ofString ")") ((1000 : Int) + (k : Int)))) 0 [[]] (nest (999 + k)) := by
          rw [tt]
          exact go_all (nest_ok _)
        refine ⟨_, rfl, by rw [app_len]; omega, fun d g H6 x s6 vd => ?_, fun e g => (not_both gn g).elim⟩
        have ed : d = nest (999 + k) := wr_one (go_is g).2 (nest_ok _) ((go_is g).1.symm.trans (go_is gn).1)
        subst ed
        refine ⟨_, rfl, _, 1, rfl, rfl, ((999 + k : Nat) : Int), congrArg (fun z => [V.int z]) (by omega), by omega, by omega, ?_⟩
        refine for_range (lo := 0) (n := (((999 + k : Nat) : Int)).toNat) (fun i σ H' => ∃ (v3 : Option V) (x : V), σ = [some (.ref a), some (.ref h), some (.ref T), v3, v4, v5, v6, some (.int ((1000 : Int) + (k : Int))), some x] ∧ Vd H' x (nest (999 + k - i)))
          ⟨_, x, rfl, vd⟩ ?_ ?_
        · rintro i σ H7 hi ⟨v3', x7, rfl, vd7⟩
          have hi' : i < 999 + k := by rw [Int.toNat_natCast] at hi; exact hi
          obtain ⟨m, em⟩ : ∃ m, 999 + k - i = m + 1 := ⟨999 + k - i - 1, by omega⟩
          rw [em] at vd7
          cases vd7 with
          | @tup b ys _ hb va =>
            cases va with
            | @cons y ys d ds vy vr =>
              cases vr
              refine ⟨_, rfl, .ref b, .ty "tuple", .type "tuple", .type "tuple", true, rfl, .ty _, .base (.tup hb), kit_ty (by decide +kernel), _, rfl, ?_⟩
              refine ⟨_, rfl, b, _, rfl, .inr (.inl (.inl hb)), rfl, _, rfl, ?_⟩
              refine ⟨_, rfl, b, _, 0, y, rfl, rfl, .inl (.inl hb), rfl, _, y, rfl, ?_⟩
              rw [show 999 + k - (i + 1) = m by omega]
              exact vy
        · rintro σ H7 ⟨v3', x7, rfl, vd7⟩
          rw [Int.toNat_natCast, Nat.sub_self] at vd7
          cases vd7 with
          | @tup b ys _ hb va =>
            cases va
            refine ⟨_, rfl, Nat.zero_le _, fun p np => ⟨.tuple [], .tuple [], .tup (.inl (.inl (same_upd np _ _ hb))) .nil, .tup (.inl (.inl upd_same)) .nil, by decide +kernel, by decide +kernel, ?_⟩⟩
            exact q _

end
end Vl

set_option maxHeartbeats 0
namespace Vl
open PySem PySem.Spec PyProof.Rows L2 Kx
def mkD (x : Str) (i : Nat) : He.DefD := ⟨(x, none), x, x, defArgs (top i), defBody (top i), defScope (top i), [], []⟩
def dNoV : He.DefD := ⟨("NoValue", some "__init__"), "__init__", "NoValue.__init__", defArgs sInit, defBody sInit, defScope sInit, [], []⟩
def fn : List He.DefD := [mkD "read" 8, mkD "_close_tuples" 9, mkD "_read_flat" 10, mkD "_behind_number" 11, mkD "_read_text" 12, mkD "_behind_plain_signs" 13, mkD "_is_plain" 14, mkD "is_sign" 15, mkD "_law_dealt" 17, mkD "_law_pick" 18, mkD "_law_alphabet" 19, mkD "_law_long_number" 20, mkD "_law_any_text" 21, mkD "_law_any_value" 22, mkD "_law_writing" 23, mkD "_law_begins" 24, mkD "_law_goes" 25, mkD "_law_walk" 26, mkD "_law_spoilt" 27, mkD "_law_told" 28, mkD "_law_few" 29, mkD "law" 30, dNoV]
def fa : List He.Fa := [.glo "read", .glo "_close_tuples", .glo "_read_flat", .glo "_behind_number", .glo "_read_text", .glo "_behind_plain_signs", .glo "_is_plain", .glo "is_sign", .glo "_law_dealt", .glo "_law_pick", .glo "_law_alphabet", .glo "_law_long_number", .glo "_law_any_text", .glo "_law_any_value", .glo "_law_writing", .glo "_law_begins", .glo "_law_goes", .glo "_law_walk", .glo "_law_spoilt", .glo "_law_told", .glo "_law_few", .glo "law", .int "MOST_FIGURES" 40, .int "PERCENT" 37, .glo "SIGNS", .glo "NoValue", .noat "NoValue" "at", .meth "NoValue" "__init__", .glo "BadStep", .glo "Strange", .free "len", .free "isinstance", .free "tuple", .free "range", .free "str", .free "int", .free "bool", .free "ord", .free "list", .free "abs", .free "enumerate", .free "ValueError"]
def ts : List He.Tab := [(fun K => He.ga K "SIGNS", ["-", "+", "!"])]
def kvs : List (Str × He.Dv) := [("-", .non), ("+", .bl true), ("!", .bl false)]
/-- the class of a refusal: what the rules ask of it -/
def oexB (K : PySem.W.Frag) (C : Addr) : Bool := match K.lookup C with
  | some ⟨.type t, _, .cls cd, sl⟩ => (match cd.mro, sl.toList with
    | .ref C' :: bm, [_, _, _, _, some (.builtin n), _] => decide (t = "type") && (decide (C' = C) && (decide (n = "ValueError.__new__") && (!cd.hasDel && (cd.hasDict && PySem.HandSPX.refsVE bm))))
    | _, _ => false)
  | _ => false
theorem oexB_ok {K : PySem.W.Frag} {C : Addr} (h : oexB K C = true) : ∃ nm q N bs bm sn sub ab col dd k0 k1 k2 k3 k5, K.lookup C = some (excClassObj nm q C N bs bm true sn sub ab col dd k0 k1 k2 k3 k5 "ValueError.__new__") ∧ PySem.HandSPX.refsVE bm = true := by
  unfold oexB at h
  split at h
  · rename_i t od cd sl e
    split at h
    · rename_i C' bm k0 k1 k2 k3 n k5 em es
      obtain ⟨h1, h⟩ := He.ba h
      obtain ⟨h2, h⟩ := He.ba h
      obtain ⟨h3, h⟩ := He.ba h
      obtain ⟨h4, h⟩ := He.ba h
      obtain ⟨h5, h6⟩ := He.ba h
      have e1 := of_decide_eq_true h1
      have e2 := of_decide_eq_true h2
      have e3 := of_decide_eq_true h3
      subst e1 e2 e3
      obtain ⟨nm, bs, mro, ns, qn, hd, sn, sub, ab, col, del⟩ := cd
      have e4 : del = false := by simpa using h4
      have e5 : hd = true := h5
      have e6 : mro = .ref C' :: bm := em
      subst e4 e5 e6
      have e7 : sl = #[k0, k1, k2, k3, some (.builtin "ValueError.__new__"), k5] := by
        rw [← es]
      subst e7
      exact ⟨_, _, _, _, bm, _, _, _, _, _, _, _, _, _, _, e, h6⟩
    · cases h
  · cases h
def excB (K : PySem.W.Frag) (D : Addr) : Bool := decide (PySem.W.findIn K (.ref D) "__class__" = some (some (.builtin "object.__class__"))) && (decide (PySem.W.specialIn K (.builtin "object.__class__") "__get__" = some (some (.builtin "getset_descriptor.__get__"))) &&
  (decide (PySem.W.takesIn K (.builtin "object.__class__") = some true) && (decide (PySem.W.mroIn K D (.type "object") = some true) && (PySem.W.clsIn K D).isSome)))
theorem excB_ok {K : PySem.W.Frag} {D : Addr} (x : XfC K D) (h : excB K D = true) : ExcC K D ∧ (PySem.W.clsIn K D).isSome = true := by
  obtain ⟨h1, h⟩ := He.ba h
  obtain ⟨h2, h⟩ := He.ba h
  obtain ⟨h3, h⟩ := He.ba h
  obtain ⟨h4, h5⟩ := He.ba h
  exact ⟨⟨x.ga, x.gg, x.exC, x.hdC, of_decide_eq_true h1, of_decide_eq_true h2, of_decide_eq_true h3, of_decide_eq_true h4⟩, h5⟩

def ex (K : PySem.W.Frag) : Bool := He.valsB K (He.ga K "SIGNS") kvs && (oexB K (He.ga K "NoValue") && (decide (PySem.W.findIn K (.ref (He.ga K "NoValue")) "__setattr__" = some (some (.builtin "object.__setattr__"))) && (decide (PySem.W.subIn K (.ref (He.ga K "NoValue")) (.type "BaseException") = some true) &&
  (decide (PySem.W.typeIn K (.ref (He.ga K "NoValue")) = some (.type "type")) && (PySem.W.keepIn K (.ref (He.ga K "NoValue")) && (xfB K (He.ga K "NoValue") && (excB K (He.ga K "NoValue") && (decide (PySem.W.kitOne K (.ref (He.ga K "NoValue")) (.type "ValueError") = some true) &&
  (decide (PySem.W.kitAny K (.ref (He.ga K "NoValue")) [.ref (He.ga K "BadStep"), .ref (He.ga K "Strange")] = some false) && decide (PySem.W.exmOne K (.ref (He.ga K "NoValue")) (.ref (He.ga K "NoValue")) = some true))))))))))
abbrev R : PySem.W.OpenRow := PySem.W.OpenLaw.row PySem.Challenge.rw_eventledger_k02_texts_that_write_no_valu
abbrev hk : PySem.W.Hook := He.hookX 5 fa fn ts [] ex
def ob (s : PySem.W.SharedT) : He.AlX := He.obsX 5 fa fn ts [] ex (HandSHeadRun.getT s)
theorem ob_eq (s : PySem.W.SharedT) : ob s = hk.obs s.abs := He.obsX_eq (HandSHeadRun.getT_eq s)
abbrev loose : List Str := ["NoValue", "BadStep", "Strange", "MOST_FIGURES", "PERCENT", "SIGNS", "read", "_close_tuples", "_read_flat", "_behind_number", "_read_text", "_behind_plain_signs", "_is_plain", "is_sign", "_law_dealt", "_law_pick", "_law_alphabet", "_law_long_number", "_law_any_text", "_law_any_value", "_law_writing", "_law_begins", "_law_goes", "_law_walk", "_law_spoilt", "_law_told", "_law_few"]
theorem run_no (w : World) : HandSHeadRun.RunEq R (PySem.W.view R.prog [30]) hk ob 3000 loose (w.withFollow "special-get-raises" false) := by
  intro os
  kernel_rfl
theorem run_yes (w : World) : HandSHeadRun.RunEq R (PySem.W.view R.prog [30]) hk ob 3000 loose (w.withFollow "special-get-raises" true) := by
  intro os
  kernel_rfl
theorem run (w : World) : HandSHeadRun.RunEq R (PySem.W.view R.prog [30]) hk ob 3000 loose w :=
  PySem.W.byRow2 "special-get-raises" (P := fun w => HandSHeadRun.RunEq R (PySem.W.view R.prog [30]) hk ob 3000 loose w) run_no run_yes w
theorem facts {P : Program} {w : World} {K : PySem.W.Frag} {h : Heap} {mg : Str → Option Value} {f : Addr} (X : K.In h) (G : h.Ns mainGlobals mg) (hfa : mg ("law" : Str) = some (.ref f)) (cx : He.SaysX fa fn ts [] ex w h K) :
    ∃ fd : FuncData, (∀ (s : Shared) (v : Value), BindsTo s fd ⟨[v], []⟩ [("script", v)]) ∧ ∀ base : Heap, K.In base → base.Ns mainGlobals mg → FnOk P w K mg base CX0 112 f fd ["script"] (spLaw K) := by
  have c := cx.t.d
  obtain ⟨fd8, F8⟩ := c.def_ 0 (d := mkD "read" 8) rfl
  obtain ⟨fd9, F9⟩ := c.def_ 1 (d := mkD "_close_tuples" 9) rfl
  obtain ⟨fd10, F10⟩ := c.def_ 2 (d := mkD "_read_flat" 10) rfl
  obtain ⟨fd11, F11⟩ := c.def_ 3 (d := mkD "_behind_number" 11) rfl
  obtain ⟨fd12, F12⟩ := c.def_ 4 (d := mkD "_read_text" 12) rfl
  obtain ⟨fd13, F13⟩ := c.def_ 5 (d := mkD "_behind_plain_signs" 13) rfl
  obtain ⟨fd14, F14⟩ := c.def_ 6 (d := mkD "_is_plain" 14) rfl
  obtain ⟨fd15, F15⟩ := c.def_ 7 (d := mkD "is_sign" 15) rfl
  obtain ⟨fd17, F17⟩ := c.def_ 8 (d := mkD "_law_dealt" 17) rfl
  obtain ⟨fd18, F18⟩ := c.def_ 9 (d := mkD "_law_pick" 18) rfl
  obtain ⟨fd19, F19⟩ := c.def_ 10 (d := mkD "_law_alphabet" 19) rfl
  obtain ⟨fd20, F20⟩ := c.def_ 11 (d := mkD "_law_long_number" 20) rfl
  obtain ⟨fd21, F21⟩ := c.def_ 12 (d := mkD "_law_any_text" 21) rfl
  obtain ⟨fd22, F22⟩ := c.def_ 13 (d := mkD "_law_any_value" 22) rfl
  obtain ⟨fd23, F23⟩ := c.def_ 14 (d := mkD "_law_writing" 23) rfl
  obtain ⟨fd24, F24⟩ := c.def_ 15 (d := mkD "_law_begins" 24) rfl
  obtain ⟨fd25, F25⟩ := c.def_ 16 (d := mkD "_law_goes" 25) rfl
  obtain ⟨fd26, F26⟩ := c.def_ 17 (d := mkD "_law_walk" 26) rfl
  obtain ⟨fd27, F27⟩ := c.def_ 18 (d := mkD "_law_spoilt" 27) rfl
  obtain ⟨fd28, F28⟩ := c.def_ 19 (d := mkD "_law_told" 28) rfl
  obtain ⟨fd29, F29⟩ := c.def_ 20 (d := mkD "_law_few" 29) rfl
  obtain ⟨fd30, F30⟩ := c.def_ 21 (d := mkD "law" 30) rfl
  obtain ⟨fdI, FI⟩ := c.def_ 22 (d := dNoV) rfl
  have e := hfa.symm.trans (He.glo_ok X G (c.fact 21 (f := .glo "law") rfl))
  cases e
  have b := FunD.bindsA (ps := ["script"]) F30 fun _ _ _ _ _ _ us hl => match us, hl with | [_], _ => rfl
  have g8 := He.glo_ok X G (c.fact 0 (f := .glo "read") rfl)
  have g9 := He.glo_ok X G (c.fact 1 (f := .glo "_close_tuples") rfl)
  have g10 := He.glo_ok X G (c.fact 2 (f := .glo "_read_flat") rfl)
  have g11 := He.glo_ok X G (c.fact 3 (f := .glo "_behind_number") rfl)
  have g12 := He.glo_ok X G (c.fact 4 (f := .glo "_read_text") rfl)
  have g13 := He.glo_ok X G (c.fact 5 (f := .glo "_behind_plain_signs") rfl)
  have g14 := He.glo_ok X G (c.fact 6 (f := .glo "_is_plain") rfl)
  have g15 := He.glo_ok X G (c.fact 7 (f := .glo "is_sign") rfl)
  have g17 := He.glo_ok X G (c.fact 8 (f := .glo "_law_dealt") rfl)
  have g18 := He.glo_ok X G (c.fact 9 (f := .glo "_law_pick") rfl)
  have g19 := He.glo_ok X G (c.fact 10 (f := .glo "_law_alphabet") rfl)
  have g20 := He.glo_ok X G (c.fact 11 (f := .glo "_law_long_number") rfl)
  have g21 := He.glo_ok X G (c.fact 12 (f := .glo "_law_any_text") rfl)
  have g22 := He.glo_ok X G (c.fact 13 (f := .glo "_law_any_value") rfl)
  have g23 := He.glo_ok X G (c.fact 14 (f := .glo "_law_writing") rfl)
  have g24 := He.glo_ok X G (c.fact 15 (f := .glo "_law_begins") rfl)
  have g25 := He.glo_ok X G (c.fact 16 (f := .glo "_law_goes") rfl)
  have g26 := He.glo_ok X G (c.fact 17 (f := .glo "_law_walk") rfl)
  have g27 := He.glo_ok X G (c.fact 18 (f := .glo "_law_spoilt") rfl)
  have g28 := He.glo_ok X G (c.fact 19 (f := .glo "_law_told") rfl)
  have g29 := He.glo_ok X G (c.fact 20 (f := .glo "_law_few") rfl)
  have mMost := He.int_ok X G (c.fact 22 (f := .int "MOST_FIGURES" 40) rfl)
  have mPerc := He.int_ok X G (c.fact 23 (f := .int "PERCENT" 37) rfl)
  have mSign := He.glo_ok X G (c.fact 24 (f := .glo "SIGNS") rfl)
  have m_len := He.free_ok X G (c.fact 30 (f := .free "len") rfl)
  have m_isinstance := He.free_ok X G (c.fact 31 (f := .free "isinstance") rfl)
  have m_tuple := He.free_ok X G (c.fact 32 (f := .free "tuple") rfl)
  have m_range := He.free_ok X G (c.fact 33 (f := .free "range") rfl)
  have m_str := He.free_ok X G (c.fact 34 (f := .free "str") rfl)
  have m_int := He.free_ok X G (c.fact 35 (f := .free "int") rfl)
  have m_bool := He.free_ok X G (c.fact 36 (f := .free "bool") rfl)
  have m_ord := He.free_ok X G (c.fact 37 (f := .free "ord") rfl)
  have m_list := He.free_ok X G (c.fact 38 (f := .free "list") rfl)
  have m_abs := He.free_ok X G (c.fact 39 (f := .free "abs") rfl)
  have m_enumerate := He.free_ok X G (c.fact 40 (f := .free "enumerate") rfl)
  have m_ValueError := He.free_ok X G (c.fact 41 (f := .free "ValueError") rfl)
  obtain ⟨es, n, kd⟩ := cx.t.tab 0 (t := (fun K => He.ga K "SIGNS", ["-", "+", "!"])) rfl
  obtain ⟨vb, y1⟩ := He.ba cx.more
  obtain ⟨yo, y1⟩ := He.ba y1
  obtain ⟨ys, y1⟩ := He.ba y1
  obtain ⟨yb, y1⟩ := He.ba y1
  obtain ⟨yt, y1⟩ := He.ba y1
  obtain ⟨yk, y1⟩ := He.ba y1
  obtain ⟨yx, y1⟩ := He.ba y1
  obtain ⟨yc, y1⟩ := He.ba y1
  obtain ⟨yv, y1⟩ := He.ba y1
  obtain ⟨y2, ym⟩ := He.ba y1
  have sg : SignsE K w mg := ⟨⟨_, es, n, kd, mSign, He.valsB_ok vb (q := ("-", .non)) (List.mem_cons_self ..), He.valsB_ok vb (q := ("+", .bl true)) (List.mem_cons_of_mem _ (List.mem_cons_self ..)), He.valsB_ok vb (q := ("!", .bl false)) (List.mem_cons_of_mem _ (List.mem_cons_of_mem _ (List.mem_cons_self ..))),
    fun z h1 h2 h3 => tab_out cx.t (i := 0) (t := (fun K => He.ga K "SIGNS", ["-", "+", "!"])) rfl (by simp [h1, h2, h3])⟩⟩
  have mI := He.meth_ok (c.fact 27 (f := .meth "NoValue" "__init__") rfl)
  have T : NoV K mg (He.ga K "NoValue") (He.ma K (He.ga K "NoValue") "__init__") fdI := ⟨⟨oexB_ok yo, of_decide_eq_true ys, of_decide_eq_true yb, of_decide_eq_true yt, yk⟩, He.glo_ok X G (c.fact 25 (f := .glo "NoValue") rfl), He.noat_ok (c.fact 26 (f := .noat "NoValue" "at") rfl), mI.at_, beq_iff_eq.mp mI.fn, FI⟩
  have XC : XfC K (He.ga K "NoValue") := xfB_ok yx
  obtain ⟨EC, cl⟩ := excB_ok XC yc
  have TX : NoVX K mg (He.ga K "NoValue") (He.ga K "BadStep") (He.ga K "Strange") := ⟨XC, EC, cl, of_decide_eq_true yv, of_decide_eq_true y2, of_decide_eq_true ym, He.glo_ok X G (c.fact 28 (f := .glo "BadStep") rfl), He.glo_ok X G (c.fact 29 (f := .glo "Strange") rfl)⟩
  refine ⟨fd30, fun s v => b s [v] rfl, fun base _ _ => ?_⟩
  have GS : FnOk P w K mg base CX0 1 _ fd15 ["sign"] spSign := ok_sign F15 m_ord mPerc
  have G14 : FnOk P w K mg base CX0 2 _ fd14 ["sign"] spPlain := ok_plain F14 F15 g15 GS
  have G13 : FnOk P w K mg base CX0 3 _ fd13 ["text", "at"] spBehind := ok_behind F13 F14 g14 G14
  have G12 := ok_textE (P := P) (w := w) (base := base) (k := 0) T F12 F13 g13 G13
  have G11 : FnOk P w K mg base CX0 1 _ fd11 ["text", "at"] spNumber := ok_number F11 mMost
  have G10 := ok_readflatE (P := P) (w := w) (base := base) T F10 F12 g12 G12 F11 g11 (G11.mono (by decide)) sg m_int
  have G9 : FnOk P w K mg base CX0 1 _ fd9 ["text", "at", "lists"] spCloseE := ok_closeE F9 m_len m_tuple
  have G8 := ok_readE (P := P) (w := w) (base := base) T F8 F9 g9 (G9.mono (by decide)) F10 g10 G10 m_len
  have G17 : FnOk P w K mg base CX0 1 _ fd17 ["script"] (spDealt K) := ok_dealt F17 m_list
  have G18 : FnOk P w K mg base CX0 1 _ fd18 ["hand", "many"] spPick := ok_pick F18 m_len m_abs
  have G19 : FnOk P w K mg base CX0 1 _ fd19 [] spAlpha := ok_alpha F19
  have G20 : FnOk P w K mg base CX0 2 _ fd20 ["hand"] spLong := ok_long F20 F18 g18 G18 m_range
  have G21 : FnOk P w K mg base CX0 2 _ fd21 ["hand", "most"] spAText := ok_atext F21 F19 g19 G19 F18 g18 G18 m_range
  have G22 := ok_value (P := P) (w := w) (base := base) F22 g22 F18 g18 G18 F20 g20 G20 F21 g21 G21 m_int m_tuple m_range
  have G23 := ok_writingA (P := P) (w := w) (base := base) F23 g23 m_isinstance m_bool m_int m_str
  have G26 := ok_walk (P := P) (w := w) (base := base) F26 F25 g25 F24 g24 F19 g19 m_int m_enumerate m_len
  have G27 : FnOk P w K mg base CX0 2 _ fd27 ["hand", "written"] spSpoilt := ok_spoilt F27 F19 g19 G19 F18 g18 G18 m_len
  have G28 := ok_told (P := P) (w := w) (base := base) T TX F28 F8 g8 G8 F23 g23 (G23 (DD + 1)) m_isinstance m_ValueError
  have G29 : FnOk P w K mg base CX0 1 _ fd29 [] spFew := ok_few F29
  exact ok_law F30 F17 g17 G17 F29 g29 G29 F27 g27 G27 F23 g23 (G23 (DD + 1)) F22 g22 (G22 4) F26 g26 G26 F28 g28 G28 F18 g18 G18 F8 g8 G8 m_range m_isinstance m_tuple m_len
end Vl
open PySem PySem.W PySem.Calls PyProof.Rows
theorem PySem.Challenge.cw_eventledger_k02_texts_that_write_no_valu_holds : PySem.Challenge.rw_eventledger_k02_texts_that_write_no_valu.Holds := by
  w_on; o_law
  refine HandSHeadRun.head_any (r := OpenLaw.row PySem.Challenge.rw_eventledger_k02_texts_that_write_no_valu) (q := view (OpenLaw.row PySem.Challenge.rw_eventledger_k02_texts_that_write_no_valu).prog [30]) (H := Vl.hk) (ob := Vl.ob) (M := 3000) (loose := Vl.loose) (d := HandSHeadRun.topDef (OpenLaw.row PySem.Challenge.rw_eventledger_k02_texts_that_write_no_valu).prog 30) (kwd := []) Vl.ob_eq
    (by kernel_rfl) (fun s => by kernel_rfl) Vl.run (by kernel_rfl) (by kernel_rfl) (by kernel_rfl) (by rfl) (by first | assumption | decide +kernel) (by decide +kernel) ⟨rfl, rfl, rfl, rfl, rfl, by decide +kernel⟩ ?hw ?hc
  case hw => w_witness2
  case hc =>
    refine L2.walk_ofE (l := PySem.Challenge.rw_eventledger_k02_texts_that_write_no_valu) (n := 63) (k := 112) (x := "script") (CX := L2.CX0) rfl (by decide) (by kernel_rfl) ⟨rfl, by decide +kernel, by decide +kernel⟩ ?F (fun _ _ _ _ z => z)
    intro w mg fa h Y G hmg0
    obtain ⟨K, KX, c⟩ := Y
    have hmg : mg ("law" : PySem.Str) = some (.ref fa) := by
      have e : (HandSHeadRun.topDef (OpenLaw.row PySem.Challenge.rw_eventledger_k02_texts_that_write_no_valu).prog 30).name = ("law" : PySem.Str) := by kernel_rfl
      rw [← e]
      exact hmg0
    obtain ⟨fd, hb, hF⟩ := Vl.facts (P := (PySem.Challenge.rw_eventledger_k02_texts_that_write_no_valu).prog) (w := w) KX G hmg c
    exact ⟨K, fd, Vl.spLaw K, KX, hb, fun H a ns hl _ hS => ⟨a, ns, rfl, hS, hl, fun _ => rfl⟩, hF⟩
