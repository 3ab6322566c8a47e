import PyProof.Rows.All
import Wide.All
import OpenK.AllK
import Wide.FinOn
import HandS.ForMost
import KE.IntTextLaws
import PyProof.Rows.StrDigitsNeg
import HandS.More
import HandS.Replace
import HandS.ReplaceLit
import HandS.Codes
import HandS.IsInst
import HandS.RevRange
import HandS.Conv
import HandS.Defaults
import HandS.Style
import PyProof.IsRules
import HandS.ReplaceList
import KE.KEqSeq
import HandS.Text
import HandS.ExcInit
import HandS.ExcField
import HandS.TryOnly
import HandS.WordsExc
import HandS.HeadHook3
import PyProof.ReprRoads
import HandS.Base
import HandS.Call
import HandS.Head0
import HandS.Ends
import HandS.HeadEnd
import HandS.ForExc
import HandS.StrMore
import HandS.FStr
import KE.GoesNew
import PyProof.Rows.StrRev
import KE.GoesEnumKw
import PyProof.Rows.CallKwBuiltin
import HandS.TupAny
import KE.KStateDown
import HandS.Words
import HandS.Head1
import HandS.Head2
import HandS.HeadHook1
import HandS.HeadHook2
import HandS.HeadHook4
import Lean
import PySem.Challenge.RW_eventledger_k03_whole_writings_begin_and
set_option Elab.async false
set_option linter.all false
set_option maxRecDepth 100000
namespace Vl
open PySem PySem.Spec PyProof.Rows L2 TL
/-! ### values in a heap -/
mutual
inductive Vd (H : Hp) : V → PyData → Prop
  | non : Vd H .non .none
  | bl (b : Bool) : Vd H (.bl b) (.bool b)
  | int (i : Int) : Vd H (.int i) (.int i)
  | str (x : Str) : Vd H (.str x) (.str x)
  | tup {a : Addr} {xs : List V} {ds : List PyData} : H a = some (.tup xs) → VdAll H xs ds → Vd H (.ref a) (.tuple ds)
inductive VdAll (H : Hp) : List V → List PyData → Prop
  | nil : VdAll H [] []
  | cons {v : V} {vs : List V} {d : PyData} {ds : List PyData} : Vd H v d → VdAll H vs ds → VdAll H (v :: vs) (d :: ds)
end
def KeepT (H H' : Hp) : Prop := ∀ b xs, H b = some (.tup xs) → H' b = some (.tup xs)
theorem KeepT.refl (H : Hp) : KeepT H H := fun _ _ e => e
theorem KeepT.trans {H H1 H2 : Hp} (a : KeepT H H1) (b : KeepT H1 H2) : KeepT H H2 := fun c x e => b c x (a c x e)
theorem Same.keepT {H H' : Hp} (s : Same H H') : KeepT H H' := fun b xs e => s b _ e
mutual
theorem Vd.keep {H H' : Hp} (k : KeepT H H') : ∀ {v : V} {d : PyData}, Vd H v d → Vd H' v d
  | _, _, .non => .non
  | _, _, .bl b => .bl b
  | _, _, .int i => .int i
  | _, _, .str x => .str x
  | _, _, .tup h r => .tup (k _ _ h) (VdAll.keep k r)
theorem VdAll.keep {H H' : Hp} (k : KeepT H H') : ∀ {vs : List V} {ds : List PyData}, VdAll H vs ds → VdAll H' vs ds
  | _, _, .nil => .nil
  | _, _, .cons h r => .cons (Vd.keep k h) (VdAll.keep k r)
end
theorem VdAll.len {H : Hp} : ∀ {vs : List V} {ds : List PyData}, VdAll H vs ds → vs.length = ds.length
  | _, _, .nil => rfl
  | _, _, .cons _ r => congrArg Nat.succ r.len
theorem VdAll.snoc {H : Hp} {v : V} {d : PyData} (h : Vd H v d) : ∀ {vs : List V} {ds : List PyData}, VdAll H vs ds → VdAll H (vs ++ [v]) (ds ++ [d])
  | _, _, .nil => .cons h .nil
  | _, _, .cons a r => .cons a (VdAll.snoc h r)
theorem VdAll.get {H : Hp} : ∀ {vs : List V} {ds : List PyData} (i : Nat) {v : V}, VdAll H vs ds → vs[i]? = some v → ∃ d, ds[i]? = some d ∧ Vd H v d
  | _, _, _, _, .nil, e => by simp at e
  | _, _, 0, _, .cons a r, e => ⟨_, rfl, by cases e; exact a⟩
  | _, _, i + 1, _, .cons a r, e => r.get i e
/-! ### the writing -/
abbrev num (n : Int) : Str := Str.ofString (toString n)
def sgn (i : Int) : List Nat := tl (num i)
def dbl : List Nat → List Nat
  | [] => []
  | c :: r => if c = 34 then 34 :: 34 :: dbl r else c :: dbl r
mutual
def wr : PyData → List Nat
  | .none => [45]
  | .bool b => [if b then 43 else 33]
  | .int i => sgn i
  | .str z => 34 :: (dbl (tl z) ++ [34])
  | .tuple ds => 40 :: wrF ds
  | .list _ => []
  | .dict _ => []
def wrF : List PyData → List Nat
  | [] => [41]
  | d :: r => wr d ++ wrT r
def wrT : List PyData → List Nat
  | [] => [41]
  | d :: r => 32 :: (wr d ++ wrT r)
end
mutual
def sz : PyData → Nat
  | .tuple ds => 2 + szAll ds
  | .none => 1
  | .bool _ => 1
  | .int _ => 1
  | .str _ => 1
  | .list _ => 1
  | .dict _ => 1
def szAll : List PyData → Nat
  | [] => 0
  | d :: r => sz d + 1 + szAll r
end
/-- values that are written -/
inductive Ok : PyData → Prop
  | non : Ok .none
  | bl (b : Bool) : Ok (.bool b)
  | int (i : Int) (h : i.natAbs < 10 ^ 40) : Ok (.int i)
  | str (z : Str) (h : ∀ c ∈ tl z, 32 ≤ c ∧ c ≤ 126 ∧ c ≠ 37) : Ok (.str z)
  | tup {ds : List PyData} (h : ∀ d ∈ ds, Ok d) : Ok (.tuple ds)
/-! ### reading, sign by sign -/
def cnt : Nat → List Nat → Nat
  | 0, _ => 0
  | _ + 1, [] => 0
  | m + 1, c :: r => if 48 ≤ c ∧ c ≤ 57 then 1 + cnt m r else 0
def figs : List Nat → Nat
  | [] => 0
  | c :: r => if 49 ≤ c ∧ c ≤ 57 then 1 + cnt 39 r else 0
def numLen : List Nat → Nat
  | [] => 0
  | c :: r => if c = 48 then 1 else if c = 45 then (if figs r = 0 then 0 else 1 + figs r) else figs (c :: r)
def plain (c : Nat) : Prop := 32 ≤ c ∧ c ≤ 126 ∧ c ≠ 34 ∧ c ≠ 37
instance (c : Nat) : Decidable (plain c) := inferInstanceAs (Decidable (_ ∧ _))
inductive TR where
  | ok (v : List Nat) (n : Nat)
  | err (n : Nat)
def TR.up (p : List Nat) (k : Nat) : TR → TR
  | .ok v n => .ok (p ++ v) (n + k)
  | .err n => .err (n + k)
def txtM : List Nat → TR
  | [] => .err 0
  | [c] => if c = 34 then .ok [] 1 else if plain c then .err 1 else .err 0
  | c :: e :: r => if c = 34 then (if e = 34 then (txtM r).up [34] 2 else .ok [] 1) else if plain c then (txtM (e :: r)).up [c] 1 else .err 0
inductive Flat : List Nat → PyData → Nat → Prop
  | txt {r v : List Nat} {n : Nat} : txtM r = .ok v n → Flat (34 :: r) (.str ⟨v.toArray⟩) (n + 1)
  | num {l : List Nat} {n : Nat} {i : Int} : l.head? ≠ some 34 → numLen l = n → 0 < n → n ≤ 41 → intText? ⟨(l.take n).toArray⟩ = some i → Flat l (.int i) n
  | minus {r : List Nat} : numLen (45 :: r) = 0 → Flat (45 :: r) .none 1
  | plus {r : List Nat} : Flat (43 :: r) (.bool true) 1
  | bang {r : List Nat} : Flat (33 :: r) (.bool false) 1
mutual
inductive Go (L : List Nat) : Nat → List (List PyData) → PyData → Prop
  | more {at_ : Nat} {st : List (List PyData)} {d : PyData} : L[at_]? = some 40 → L[at_ + 1]? ≠ some 41 → Go L (at_ + 1) ([] :: st) d → Go L at_ st d
  | empty {at_ : Nat} {st : List (List PyData)} {d : PyData} : L[at_]? = some 40 → L[at_ + 1]? = some 41 → Cl L (at_ + 1) ([] :: st) d → Go L at_ st d
  | flat {at_ n : Nat} {top : List PyData} {st : List (List PyData)} {v d : PyData} : L[at_]? ≠ some 40 → Flat (L.drop at_) v n → Cl L (at_ + n) ((top ++ [v]) :: st) d → Go L at_ (top :: st) d
inductive Cl (L : List Nat) : Nat → List (List PyData) → PyData → Prop
  | close {at_ : Nat} {top nx : List PyData} {st : List (List PyData)} {d : PyData} : L[at_]? = some 41 → Cl L (at_ + 1) ((nx ++ [.tuple top]) :: st) d → Cl L at_ (top :: nx :: st) d
  | done {at_ : Nat} {d : PyData} : at_ = L.length → Cl L at_ [[d]] d
  | sep {at_ : Nat} {top nx : List PyData} {st : List (List PyData)} {d : PyData} : L[at_]? = some 32 → Go L (at_ + 1) (top :: nx :: st) d → Cl L at_ (top :: nx :: st) d
end
/-! ### what is written is read -/
def Aft (l : List Nat) : Prop := l.head? = none ∨ l.head? = some 32 ∨ l.head? = some 41
theorem drop_at {L r : List Nat} {k c : Nat} (h : L.drop k = c :: r) : L[k]? = some c := by
  have e := List.getElem?_drop (xs := L) (i := k) (j := 0)
  rw [h] at e
  exact e.symm
theorem drop_next {L p r : List Nat} {k : Nat} (h : L.drop k = p ++ r) : L.drop (k + p.length) = r := by
  rw [← List.drop_drop, h, List.drop_left]
theorem cnt_digits : ∀ (ds rest : List Nat) (m : Nat), (∀ c ∈ ds, 48 ≤ c ∧ c ≤ 57) → ds.length ≤ m → (∀ c, rest.head? = some c → ¬ (48 ≤ c ∧ c ≤ 57)) → cnt m (ds ++ rest) = ds.length
  | [], rest, m, _, _, hr => by
    cases m with
    | zero => rfl
    | succ m =>
      cases rest with
      | nil => rfl
      | cons c r =>
        show (if 48 ≤ c ∧ c ≤ 57 then 1 + cnt m r else 0) = 0
        rw [if_neg (hr c rfl)]
  | c :: ds, rest, 0, _, hl, _ => by simp at hl
  | c :: ds, rest, m + 1, hd, hl, hr => by
    show (if 48 ≤ c ∧ c ≤ 57 then 1 + cnt m (ds ++ rest) else 0) = ds.length + 1
    rw [if_pos (hd c (List.mem_cons_self ..)), cnt_digits ds rest m (fun x hx => hd x (List.mem_cons_of_mem _ hx)) (by simpa using hl) hr]
    omega
theorem Aft.noDigit {l : List Nat} (h : Aft l) : ∀ c, l.head? = some c → ¬ (48 ≤ c ∧ c ≤ 57) := fun c e => by
  rcases h with h | h | h
  · rw [h] at e; cases e
  · rw [h] at e; cases e; omega
  · rw [h] at e; cases e; omega
theorem numL_head : ∀ n : Nat, 0 < n → ∃ c r, numL n = c :: r ∧ 49 ≤ c ∧ c ≤ 57 := by
  intro n
  induction n using Nat.strongRecOn with
  | _ n ih =>
    intro h0
    by_cases h : n < 10
    · exact ⟨48 + n, [], numL_lt h, by omega, by omega⟩
    · obtain ⟨c, r, e, h1, h2⟩ := ih (n / 10) (by omega) (by omega)
      exact ⟨c, r ++ [48 + n % 10], by rw [numL_step (by omega), e]; rfl, h1, h2⟩
theorem figs_num {n : Nat} {rest : List Nat} (h0 : 0 < n) (h : n < 10 ^ 40) (ha : Aft rest) : figs (numL n ++ rest) = (numL n).length := by
  obtain ⟨c, r, e, h1, h2⟩ := numL_head n h0
  have hl := numL_len (n := n) (k := 40) (by decide) h
  have hd := numL_digits n
  rw [e] at hl hd ⊢
  show (if 49 ≤ c ∧ c ≤ 57 then 1 + cnt 39 (r ++ rest) else 0) = r.length + 1
  rw [if_pos ⟨h1, h2⟩, cnt_digits r rest 39 (fun x hx => hd x (List.mem_cons_of_mem _ hx)) (by simpa using hl) ha.noDigit]
  omega
theorem sgn_pos (n : Nat) : sgn (n : Int) = numL n := tl_num n
theorem sgn_neg {n : Nat} (h : 0 < n) : sgn (-(n : Int)) = 45 :: numL n := by
  show tl (Str.ofString (toString (-(n : Int)))) = _
  rw [toString_neg (by omega), show (0 - -(n : Int)) = (n : Int) by omega, tl_ofString, String.toList_append, List.map_append, ← tl_ofString (toString (n : Int)), tl_num]
  rfl
theorem flat_int {i : Int} {rest : List Nat} (h : i.natAbs < 10 ^ 40) (ha : Aft rest) : Flat (sgn i ++ rest) (.int i) (sgn i).length ∧ ∃ c r, sgn i = c :: r ∧ c ≠ 40 ∧ c ≠ 41 := by
  by_cases h0 : 0 ≤ i
  · obtain ⟨n, rfl⟩ := Int.eq_ofNat_of_zero_le h0
    have hn : n < 10 ^ 40 := h
    have hl := numL_len (n := n) (k := 40) (by decide) hn
    have e : sgn (n : Int) = numL n := sgn_pos n
    have hv : intText? ⟨((numL n ++ rest).take (numL n).length).toArray⟩ = some (n : Int) := by
      rw [List.take_left, ← tl_num n]
      exact int_num (by omega)
    rcases Nat.eq_zero_or_pos n with z | z
    · subst z
      have e0 : numL 0 = [48] := numL_lt (by decide)
      rw [e]
      rw [e0] at hv ⊢
      exact ⟨.num (by simp) rfl (by decide) (by decide) hv, 48, [], rfl, by decide, by decide⟩
    · have hf := figs_num z hn ha
      obtain ⟨c, r, ec, h1, h2⟩ := numL_head n z
      rw [e]
      refine ⟨.num ?_ ?_ (by rw [ec]; exact Nat.succ_pos _) (by omega) hv, c, r, ec, by omega, by omega⟩
      · rw [ec]
        intro q
        have : c = 34 := Option.some.inj q
        omega
      · rw [ec] at hf ⊢
        show (if c = 48 then 1 else if c = 45 then _ else figs (c :: (r ++ rest))) = _
        rw [if_neg (by omega), if_neg (by omega)]
        exact hf
  · obtain ⟨n, hn0, rfl⟩ : ∃ n : Nat, 0 < n ∧ i = -(n : Int) := ⟨i.natAbs, by omega, by omega⟩
    have hn : n < 10 ^ 40 := by simpa using h
    have hl := numL_len (n := n) (k := 40) (by decide) hn
    have e := sgn_neg hn0
    have hf := figs_num hn0 hn ha
    rw [e]
    refine ⟨.num (by simp) ?_ (Nat.succ_pos _) (by rw [List.length_cons]; omega) ?_, 45, _, rfl, by decide, by decide⟩
    · show (if (45 : Nat) = 48 then 1 else if (45 : Nat) = 45 then (if figs (numL n ++ rest) = 0 then 0 else 1 + figs (numL n ++ rest)) else figs (45 :: (numL n ++ rest))) = (numL n).length + 1
      rw [if_neg (by decide), if_pos rfl, hf, if_neg (by have := List.length_pos_iff.mpr (numL_ne n); omega)]
      omega
    · rw [List.take_left]
      have q := intText_neg (x := ⟨(45 :: numL n).toArray⟩) (cs := numL n) rfl (numL_digits n) (numL_ne n) (by show (45 :: numL n).toArray.size ≤ 4300; simp; omega)
      rw [q, show NumText.digitsVal (numL n) = n from numL_val n]
theorem txtM_dbl : ∀ (s rest : List Nat), (∀ c ∈ s, 32 ≤ c ∧ c ≤ 126 ∧ c ≠ 37) → rest.head? ≠ some 34 → txtM (dbl s ++ 34 :: rest) = .ok s ((dbl s).length + 1)
  | [], rest, _, hr => by
    show txtM (34 :: rest) = _
    cases rest with
    | nil => rfl
    | cons e r =>
      have he : e ≠ 34 := fun z => hr (by rw [z]; rfl)
      show (if (34 : Nat) = 34 then (if e = 34 then _ else TR.ok [] 1) else _) = _
      rw [if_pos rfl, if_neg he]
      rfl
  | c :: s, rest, hs, hr => by
    have ih := txtM_dbl s rest (fun x hx => hs x (List.mem_cons_of_mem _ hx)) hr
    have hc := hs c (List.mem_cons_self ..)
    by_cases h : c = 34
    · have e : dbl (c :: s) = 34 :: 34 :: dbl s := if_pos h
      rw [e]
      show (if (34 : Nat) = 34 then (if (34 : Nat) = 34 then (txtM (dbl s ++ 34 :: rest)).up [34] 2 else _) else _) = _
      rw [if_pos rfl, if_pos rfl, ih, h]
      rfl
    · have e : dbl (c :: s) = c :: dbl s := if_neg h
      rw [e]
      have hp : plain c := ⟨hc.1, hc.2.1, h, hc.2.2⟩
      have key : ∀ (x : Nat) (r : List Nat), txtM (c :: x :: r) = (txtM (x :: r)).up [c] 1 := fun x r => by
        show (if c = 34 then _ else if plain c then (txtM (x :: r)).up [c] 1 else _) = _
        rw [if_neg h, if_pos hp]
      have step : txtM (c :: dbl s ++ 34 :: rest) = (txtM (dbl s ++ 34 :: rest)).up [c] 1 := by
        cases hd : dbl s with
        | nil => exact key 34 rest
        | cons x r => exact key x (r ++ 34 :: rest)
      rw [step, ih]
      rfl
theorem flat_of {d : PyData} (h : Ok d) (hf : ∀ ds, d ≠ .tuple ds) {rest : List Nat} (ha : Aft rest) : Flat (wr d ++ rest) d (wr d).length ∧ ∃ c r, wr d = c :: r ∧ c ≠ 40 ∧ c ≠ 41 := by
  cases h with
  | non =>
    refine ⟨.minus ?_, 45, [], rfl, by decide, by decide⟩
    show (if (45 : Nat) = 48 then 1 else if (45 : Nat) = 45 then (if figs rest = 0 then 0 else 1 + figs rest) else figs (45 :: rest)) = 0
    have e : figs rest = 0 := by
      cases rest with
      | nil => rfl
      | cons c r =>
        have := ha.noDigit c rfl
        show (if 49 ≤ c ∧ c ≤ 57 then _ else 0) = 0
        rw [if_neg (by omega)]
    rw [if_neg (by decide), if_pos rfl, if_pos e]
  | bl b =>
    cases b with
    | true => exact ⟨.plus, 43, [], rfl, by decide, by decide⟩
    | false => exact ⟨.bang, 33, [], rfl, by decide, by decide⟩
  | int i h => exact flat_int h ha
  | str z h =>
    have hr : rest.head? ≠ some 34 := fun e => by
      rcases ha with q | q | q
      · rw [q] at e; cases e
      · rw [q] at e; cases e
      · rw [q] at e; cases e
    have t := txtM_dbl (tl z) rest h hr
    have f := Flat.txt t
    have e1 : (⟨(tl z).toArray⟩ : Str) = z := mk_tl z
    rw [e1] at f
    refine ⟨?_, 34, _, rfl, by decide, by decide⟩
    have e2 : wr (.str z) ++ rest = 34 :: (dbl (tl z) ++ 34 :: rest) := by
      show 34 :: (dbl (tl z) ++ [34]) ++ rest = _
      simp
    have e3 : (wr (.str z)).length = (dbl (tl z)).length + 1 + 1 := by
      show (34 :: (dbl (tl z) ++ [34])).length = _
      simp
    rw [e2, e3]
    exact f
  | tup h => exact absurd rfl (hf _)
theorem wr_head {d : PyData} (h : Ok d) : ∃ c r, wr d = c :: r ∧ c ≠ 41 := by
  by_cases hf : ∃ ds, d = .tuple ds
  · obtain ⟨ds, rfl⟩ := hf
    exact ⟨40, wrF ds, rfl, by decide⟩
  · obtain ⟨_, c, r, e, _, h2⟩ := flat_of h (fun ds e => hf ⟨ds, e⟩) (rest := []) (.inl rfl)
    exact ⟨c, r, e, h2⟩
theorem aft_T (r : List PyData) (rest : List Nat) : Aft (wrT r ++ rest) := by
  cases r with
  | nil => exact .inr (.inr rfl)
  | cons d r => exact .inr (.inl rfl)
theorem go_wr {L : List Nat} {d : PyData} (h : Ok d) : ∀ (k : Nat) (rest : List Nat) (top : List PyData) (st : List (List PyData)) (r : PyData), L.drop k = wr d ++ rest → Aft rest → Cl L (k + (wr d).length) ((top ++ [d]) :: st) r → Go L k (top :: st) r := by
  have flatc : ∀ {d : PyData}, Ok d → (∀ ds, d ≠ .tuple ds) → ∀ (k : Nat) (rest : List Nat) (top : List PyData) (st : List (List PyData)) (r : PyData), L.drop k = wr d ++ rest → Aft rest → Cl L (k + (wr d).length) ((top ++ [d]) :: st) r → Go L k (top :: st) r := by
    intro d h hf k rest top st r e ha q
    obtain ⟨f, c, t, ec, h1, _⟩ := flat_of h hf ha
    refine .flat ?_ (by rw [e]; exact f) q
    have e2 : L.drop k = c :: (t ++ rest) := by rw [e, ec]; rfl
    rw [drop_at e2]
    exact fun z => h1 (Option.some.inj z)
  induction h with
  | non => exact flatc .non (fun _ e => by cases e)
  | bl b => exact flatc (.bl b) (fun _ e => by cases e)
  | int i h => exact flatc (.int i h) (fun _ e => by cases e)
  | str z h => exact flatc (.str z h) (fun _ e => by cases e)
  | @tup ds hd ih =>
    intro k rest top st r e ha q
    have tail : ∀ (rs : List PyData), (∀ d ∈ rs, d ∈ ds) → ∀ (k' : Nat) (acc : List PyData), L.drop k' = wrT rs ++ rest → Cl L (k' + (wrT rs).length) ((top ++ [.tuple (acc ++ rs)]) :: st) r → Cl L k' (acc :: top :: st) r := by
      intro rs
      induction rs with
      | nil =>
        intro _ k' acc e q
        rw [List.append_nil] at q
        exact .close (drop_at (show L.drop k' = 41 :: rest from e)) q
      | cons d rs ih2 =>
        intro hm k' acc e q
        have e0 : L.drop k' = 32 :: (wr d ++ (wrT rs ++ rest)) := by
          rw [e]
          show 32 :: (wr d ++ wrT rs) ++ rest = _
          simp
        have e1 : L.drop (k' + 1) = wr d ++ (wrT rs ++ rest) := drop_next (p := [32]) e0
        have e2 : L.drop (k' + 1 + (wr d).length) = wrT rs ++ rest := drop_next e1
        refine .sep (drop_at e0) (ih d (hm d (List.mem_cons_self ..)) _ _ _ _ _ e1 (aft_T rs rest) (ih2 (fun x hx => hm x (List.mem_cons_of_mem _ hx)) _ _ e2 ?_))
        have e3 : k' + 1 + (wr d).length + (wrT rs).length = k' + (wrT (d :: rs)).length := by
          show _ = k' + (32 :: (wr d ++ wrT rs)).length
          rw [List.length_cons, List.length_append]
          omega
        rw [e3, List.append_assoc]
        exact q
    cases ds with
    | nil =>
      have e0 : L.drop k = 40 :: (41 :: rest) := e
      have e1 : L.drop (k + 1) = 41 :: rest := drop_next (p := [40]) e0
      exact .empty (drop_at e0) (drop_at e1) (.close (drop_at e1) q)
    | cons d rs =>
      have e0 : L.drop k = 40 :: (wr d ++ (wrT rs ++ rest)) := by
        rw [e]
        show 40 :: (wr d ++ wrT rs) ++ rest = _
        simp
      have e1 : L.drop (k + 1) = wr d ++ (wrT rs ++ rest) := drop_next (p := [40]) e0
      have e2 : L.drop (k + 1 + (wr d).length) = wrT rs ++ rest := drop_next e1
      obtain ⟨c, t, ec, hc⟩ := wr_head (hd d (List.mem_cons_self ..))
      have e1' : L.drop (k + 1) = c :: (t ++ (wrT rs ++ rest)) := by rw [e1, ec]; rfl
      refine .more (drop_at e0) (by rw [drop_at e1']; exact fun z => hc (Option.some.inj z)) (ih d (List.mem_cons_self ..) _ _ _ _ _ e1 (aft_T rs rest) (tail rs (fun x hx => List.mem_cons_of_mem _ hx) _ _ e2 ?_))
      have e3 : k + 1 + (wr d).length + (wrT rs).length = k + (wr (.tuple (d :: rs))).length := by
        show _ = k + (40 :: (wr d ++ wrT rs)).length
        rw [List.length_cons, List.length_append]
        omega
      rw [e3]
      exact q
theorem go_all {d : PyData} (h : Ok d) : Go (wr d) 0 [[]] d :=
  go_wr h 0 [] [] [] d (by simp) (.inl rfl) (.done (by simp))
end Vl

set_option maxHeartbeats 2000000
namespace Vl
open PySem PySem.Spec PyProof.Rows L2 TL CwR
/-- x is b, of a truth, a number, a text -/
def flatP : V → Bool
  | .non => true | .bl _ => true | .int _ => true | .str _ => true | _ => false
theorem op_isT {X : Cx} : OpR X (compareOp .Is) (fun x y H Q => ∃ b : Bool, y = .bl b ∧ flatP x = true ∧ Q (.bl (decide (x = .bl b))) H) := by
  intro pins s σ H x y v u Q I rx ry h
  obtain ⟨b, rfl, hf, q⟩ := h
  cases (show u = Value.bool b from ry)
  cases x with
  | non =>
    cases (show v = Value.none from rx)
    exact wpAny_is_other (by cases b <;> rfl) (fun z => by cases z) ⟨.bl false, H, I, rfl, by simpa using q⟩
  | bl a =>
    cases (show v = Value.bool a from rx)
    by_cases e : a = b
    · subst e
      exact wpAny_is_self rfl ⟨.bl true, H, I, rfl, by simpa using q⟩
    · exact wpAny_is_other rfl (fun z => e (Value.bool.inj z)) ⟨.bl false, H, I, rfl, by simpa [e] using q⟩
  | int i =>
    obtain ⟨t, rfl⟩ := rx
    exact wpAny_is_other (by cases b <;> rfl) (fun z => by cases z) ⟨.bl false, H, I, rfl, by simpa using q⟩
  | str z =>
    obtain ⟨t, rfl⟩ := rx
    exact wpAny_is_other (by cases b <;> rfl) (fun z => by cases z) ⟨.bl false, H, I, rfl, by simpa using q⟩
  | _ => cases hf
/-- a written dict, asked by a text that is there -/
theorem ix_kd {X : Cx} {d : Addr} {es : Array DictEntry} {n : Nat} (D : KDict X.K X.w d es n) : IxR X (fun x y H Q => ∃ (z : Str) (u0 : Value) (v0 : V), x = .ref d ∧ y = .str z ∧ PySem.W.nsIn X.K d z = some (some u0) ∧ RelV v0 u0 ∧ Q v0 H) := by
  intro value slice pins s σ H x y v u Q I rx ry h hs
  have hx : x = .ref d := by obtain ⟨_, _, _, e, _⟩ := h; exact e
  have hg := op_item_kd D pins s σ H x y v u Q I rx ry h
  subst hx
  cases rx
  exact tail_any (kd_type D I) PySem.slot_dict_getitem.lookup hg hs
/-- 'x' + e, behind the text a token is out -/
theorem pe_litAdd {X : Cx} {b : Expr} {tb : TE} {x : Str} {j : Nat} {cp bp : Pos} (hb : PET X b tb) :
    PE X (.BinOp (.Constant (.str x) j cp) .Add b bp) (tOp (fun u v H Q => ∃ i k, u = .str i ∧ v = .str k ∧ i.length + k.length ≤ sizeLine ∧ Q (.str (i ++ k)) H) (tC (.str x)) tb) := by
  refine ⟨fun pins s σ H Q I h => wpAny_BinOp (Calls.Constant_str ?_)⟩
  have I1 : Inv X pins σ H { s with toks := s.toks + 1 } := I.tok _
  refine thn (hb pins { s with toks := s.toks + 1 } σ H _ (Nat.succ_le_succ (Nat.zero_le _)) I1 h) fun u s2 q => ?_
  obtain ⟨y, H2, I2, r2, q2⟩ := q
  exact op_add_str pins s2 σ H2 (.str x) y (.str x s.toks) u Q I2 ⟨_, rfl⟩ r2 q2
end Vl

set_option maxHeartbeats 2000000
namespace Vl
open PySem PySem.Spec PyProof.Rows L2 TL CwR PySem.StrLaws
def top (i : Nat) : Stmt := PySem.Challenge.pw_eventledger_k03_whole_writings_begin_and.main.body.getD i (.Pass ⟨0, 0, 0, 0⟩)
abbrev FnP (K : PySem.W.Frag) (x : Str) (st : Stmt) (f : Addr) (fd : FuncData) : Prop := FunD K x x (defArgs st) (defBody st) (defScope st) [] [] f fd
abbrev sShown : Stmt := top 6
abbrev sFlat : Stmt := top 7
theorem same_upd {H : Hp} {p : Addr} {o : HO} (h : H p = none) : Same H (upd H p o) := fun b x e => by
  rw [upd_ne (ne_of_none e h)]
  exact e
theorem szl : sizeLine = 16777216 := by decide
theorem app_len (x y : Str) : (x ++ y).length = x.length + y.length := by
  rw [len_tl, tl_append, List.length_append, ← len_tl, ← len_tl]
theorem dbl_repl : ∀ l : List Nat, replL [34] [34, 34] l = dbl l
  | [] => replL_nil
  | c :: r => by
    by_cases h : c = 34
    · have e : dbl (c :: r) = 34 :: 34 :: dbl r := if_pos h
      rw [e, replL_hit (by simp) (by rw [h]; rfl)]
      show [34, 34] ++ replL [34] [34, 34] r = _
      rw [dbl_repl r]
      rfl
    · have e : dbl (c :: r) = c :: dbl r := if_neg h
      rw [e, replL_miss (by intro q; exact h (List.cons.inj q).1), dbl_repl r]
theorem dbl_len : ∀ l : List Nat, (dbl l).length ≤ 2 * l.length
  | [] => Nat.le_refl _
  | c :: r => by
    have ih := dbl_len r
    show (if c = 34 then 34 :: 34 :: dbl r else c :: dbl r).length ≤ 2 * (r.length + 1)
    by_cases h : c = 34
    · rw [if_pos h]
      show (dbl r).length + 1 + 1 ≤ _
      omega
    · rw [if_neg h]
      show (dbl r).length + 1 ≤ _
      omega
/-- the sizes that a value may have -/
def Sm : PyData → Prop
  | .int i => i.natAbs.log2 < 1920
  | .str z => z.length ≤ 1000000
  | _ => True
def spFlat : Sp := fun vs H Q _ => ∃ (x : V) (d : PyData), vs = [x] ∧ Vd H x d ∧ Sm d ∧ (∀ ds, d ≠ .tuple ds) ∧ ∀ r : Str, tl r = wr d → Q (.str r) H
theorem scFlat : FnScope ["value"] ["value"] (defScope sFlat) := ⟨rfl, rfl, rfl, by decide +kernel, rfl, by decide +kernel, by decide +kernel⟩
section
variable {P : Program} {w : World} {K : PySem.W.Frag} {mg : Str → Option Value} {base : Heap}
theorem ok_flat {f : Addr} {fd : FuncData} {k : Nat} (F : FnP K "_shown_flat" sFlat f fd) (ms : mg "str" = none) (mi : mg "isinstance" = none) : FnOk P w K mg base CX0 (k + 1) f fd ["value"] spFlat := by
  refine F.ok scFlat (fun vs H Q E h => ?_) (fun cdv A outer s H vs Q E hr h => ?_)
  · obtain ⟨x, d, rfl, _⟩ := h
    rfl
  · obtain ⟨x, d, rfl, hv, hs, ht, q⟩ := h
    refine ⟨_, PSs.nox (pss_cons (ps_if (pt_cmpR op_isN (pv 0) pe_non (nomark _)) (pss_one (ps_ret pe_str)) pss_nil)
      (pss_cons (ps_if (pt_cmpR op_isT (pv 0) pe_bl (nomark _)) (pss_one (ps_ret pe_str)) pss_nil)
      (pss_cons (ps_if (pt_cmpR op_isT (pv 0) pe_bl (nomark _)) (pss_one (ps_ret pe_str)) pss_nil)
      (pss_cons (ps_if (pt_val (pe_callB call_isi (by rfl) mi (by decide +kernel) (pa_cons (pv 0) (pa_cons (pe_bltn (v := .ty "str") (by rfl) ms boot_str rfl) pa_nil))))
          (pss_one (ps_ret (pe_op op_add_str (pe_litAdd (pet_replC (pv 0) (by decide +kernel))) pe_str))) pss_nil)
      (pss_one (ps_ret (pe_callTy call_str_int (by rfl) ms boot_str (pa_cons (pv 0) pa_nil)))))))), ?_⟩
    have hz := szl
    have l1 : (Str.ofString "\"").length = 1 := by decide +kernel
    have l2 : (Str.ofString "\"\"").length = 2 := by decide +kernel
    have t1 : tl (Str.ofString "\"") = [34] := by decide +kernel
    have t2 : tl (Str.ofString "\"\"") = [34, 34] := by decide +kernel
    cases hv with
    | non => exact ⟨_, rfl, rfl, _, rfl, iteT (q _ (by decide +kernel))⟩
    | bl b =>
      cases b with
      | true => exact ⟨_, rfl, rfl, _, rfl, iteF ⟨_, rfl, true, rfl, rfl, _, rfl, iteT (q _ (by decide +kernel))⟩⟩
      | false => exact ⟨_, rfl, rfl, _, rfl, iteF ⟨_, rfl, true, rfl, rfl, _, rfl, iteF ⟨_, rfl, false, rfl, rfl, _, rfl, iteT (q _ (by decide +kernel))⟩⟩⟩
    | int i =>
      refine ⟨_, rfl, rfl, _, rfl, iteF ⟨_, rfl, true, rfl, rfl, _, rfl, iteF ⟨_, rfl, false, rfl, rfl, _, rfl, iteF ?_⟩⟩⟩
      refine ⟨_, rfl, .int i, .ty "str", .type "int", .type "str", false, rfl, .ty _, .base (.int i), kit_ty (by decide +kernel), _, rfl, iteF ?_⟩
      exact ⟨_, rfl, i, rfl, hs, q _ rfl⟩
    | str z =>
      refine ⟨_, rfl, rfl, _, rfl, iteF ⟨_, rfl, true, rfl, rfl, _, rfl, iteF ⟨_, rfl, false, rfl, rfl, _, rfl, iteF ?_⟩⟩⟩
      refine ⟨_, rfl, .str z, .ty "str", .type "str", .type "str", true, rfl, .ty _, .base (.str z), kit_ty (by decide +kernel), _, rfl, iteT ?_⟩
      have hs' : z.length ≤ 1000000 := hs
      have rl : tl (Txt.replace z (Str.ofString "\"") (Str.ofString "\"\"")) = dbl (tl z) := by
        have e := replace_list (x := z) (y := Str.ofString "\"") (z := Str.ofString "\"\"") (by rw [l1]; exact Nat.le_refl 1)
        have e2 : tl (Txt.replace z (Str.ofString "\"") (Str.ofString "\"\"")) = replL (tl (Str.ofString "\"")) (tl (Str.ofString "\"\"")) (tl z) := e
        rw [e2, t1, t2, dbl_repl]
      have rn : (Txt.replace z (Str.ofString "\"") (Str.ofString "\"\"")).length ≤ 2000000 := by
        rw [len_tl, rl]
        have := dbl_len (tl z)
        have := len_tl z
        omega
      refine ⟨_, rfl, z, rfl, ?_, _, _, rfl, rfl, ?_, _, _, rfl, rfl, ?_, q _ ?_⟩
      · rw [l2]; omega
      · rw [l1]; omega
      · rw [app_len, l1]; omega
      · rw [tl_append, tl_append, t1, rl]
        show [34] ++ dbl (tl z) ++ [34] = 34 :: (dbl (tl z) ++ [34])
        simp
    | tup h r => exact absurd rfl (ht _)
end
end Vl

set_option maxHeartbeats 4000000
namespace Vl
open PySem PySem.Spec PyProof.Rows L2 TL CwR PySem.StrLaws
/-! ### what waits -/
inductive It where
  | txt (t : Str)
  | val (d : PyData)
def It.w : It → List Nat
  | .txt t => tl t
  | .val d => wr d
def It.m : It → Nat
  | .txt _ => 1
  | .val d => sz d
inductive Itm (H : Hp) : V → It → Prop
  | txt {p : Addr} {t : Str} : H p = some (.tup [.str t, .bl true]) → t.length ≤ 1 → Itm H (.ref p) (.txt t)
  | val {p : Addr} {v : V} {d : PyData} : H p = some (.tup [v, .bl false]) → Vd H v d → Itm H (.ref p) (.val d)
inductive Stk (H : Hp) : List V → List It → Prop
  | nil : Stk H [] []
  | snoc {xs : List V} {its : List It} {x : V} {it : It} : Stk H xs its → Itm H x it → Stk H (xs ++ [x]) (its ++ [it])
theorem Itm.keep {H H' : Hp} (k : KeepT H H') {x : V} {it : It} (h : Itm H x it) : Itm H' x it := by
  cases h with
  | txt a b => exact .txt (k _ _ a) b
  | val a b => exact .val (k _ _ a) (b.keep k)
theorem Stk.keep {H H' : Hp} (k : KeepT H H') {xs : List V} {its : List It} (h : Stk H xs its) : Stk H' xs its := by
  induction h with
  | nil => exact .nil
  | snoc _ i ih => exact .snoc ih (i.keep k)
theorem Stk.last {H : Hp} {xs : List V} {its : List It} (h : Stk H xs its) (ne : xs ≠ []) : ∃ xs0 x its0 it, xs = xs0 ++ [x] ∧ its = its0 ++ [it] ∧ Stk H xs0 its0 ∧ Itm H x it := by
  cases h with
  | nil => exact absurd rfl ne
  | snoc a b => exact ⟨_, _, _, _, rfl, rfl, a, b⟩
theorem Stk.len {H : Hp} {xs : List V} {its : List It} (h : Stk H xs its) : xs.length = its.length := by
  induction h with
  | nil => rfl
  | snoc _ _ ih => rw [List.length_append, List.length_append, ih]; rfl
def wAll (its : List It) : List Nat := its.reverse.flatMap It.w
def mAll (its : List It) : Nat := (its.map It.m).sum
theorem wAll_snoc (its : List It) (it : It) : wAll (its ++ [it]) = it.w ++ wAll its := by
  unfold wAll
  rw [List.reverse_append]
  rfl
theorem mAll_snoc (its : List It) (it : It) : mAll (its ++ [it]) = mAll its + it.m := by
  unfold mAll
  rw [List.map_append, List.sum_append]
  show _ + (it.m + 0) = _
  omega
theorem sz_pos (d : PyData) : 1 ≤ sz d := by
  cases d <;> (first | exact Nat.le_refl 1 | (show 1 ≤ 2 + _; omega))
theorem mAll_len : ∀ its : List It, its.length ≤ mAll its
  | [] => Nat.le_refl 0
  | it :: r => by
    have ih := mAll_len r
    have h : 1 ≤ it.m := by
      cases it with
      | txt _ => exact Nat.le_refl 1
      | val d => exact sz_pos d
    unfold mAll at ih ⊢
    rw [List.map_cons, List.sum_cons, List.length_cons]
    omega
theorem szAll_drop (ds : List PyData) {i : Nat} {d : PyData} (h : ds[i]? = some d) : szAll (ds.drop i) = sz d + 1 + szAll (ds.drop (i + 1)) := by
  have hi : i < ds.length := (List.getElem?_eq_some_iff.mp h).1
  have e : ds.drop i = d :: ds.drop (i + 1) := by
    rw [List.drop_eq_getElem_cons hi]
    congr 1
    exact (List.getElem?_eq_some_iff.mp h).2
  rw [e]
  rfl
theorem wrT_drop (ds : List PyData) {i : Nat} {d : PyData} (h : ds[i]? = some d) : wrT (ds.drop i) = 32 :: (wr d ++ wrT (ds.drop (i + 1))) := by
  have hi : i < ds.length := (List.getElem?_eq_some_iff.mp h).1
  have e : ds.drop i = d :: ds.drop (i + 1) := by
    rw [List.drop_eq_getElem_cons hi]
    congr 1
    exact (List.getElem?_eq_some_iff.mp h).2
  rw [e]
  rfl
theorem wrF_zero (ds : List PyData) {d : PyData} (h : ds[0]? = some d) : wrF ds = wr d ++ wrT (ds.drop 1) := by
  cases ds with
  | nil => cases h
  | cons x r =>
    have e : x = d := Option.some.inj h
    rw [e]
    rfl
def flat (ps : List Str) : List Nat := (ps.map tl).flatten
theorem flat_snoc (ps : List Str) (p : Str) : flat (ps ++ [p]) = flat ps ++ tl p := by
  unfold flat
  rw [List.map_append, List.flatten_append]
  simp
theorem flat_len (ps : List Str) : (ps.map Str.length).sum = (flat ps).length := by
  unfold flat
  rw [List.length_flatten, List.map_map]
  exact congrArg List.sum (List.map_congr_left fun p _ => len_tl p)
theorem joinL_nil : ∀ l : List (List Nat), joinL [] l = l.flatten
  | [] => rfl
  | [p] => by simp [joinL]
  | p :: q :: r => by
    show p ++ ([] ++ joinL [] (q :: r)) = _
    rw [joinL_nil (q :: r)]
    simp
/-- all that the value holds is small -/
inductive SmA : PyData → Prop
  | flat {d : PyData} (h : Sm d) (n : ∀ ds, d ≠ .tuple ds) : SmA d
  | tup {ds : List PyData} (h : ∀ d ∈ ds, SmA d) : SmA (.tuple ds)
def It.ok : It → Prop
  | .txt _ => True
  | .val d => SmA d
def spShown : Sp := fun vs H Q _ => ∃ (x : V) (d : PyData), vs = [x] ∧ Vd H x d ∧ SmA d ∧ sz d ≤ 1000000 ∧ (wr d).length ≤ 4000000 ∧ ∀ H' r, Same H H' → tl r = wr d → Q (.str r) H'
theorem scShown : FnScope ["value", "pieces", "waiting", "thing", "is_written", "at"] ["value"] (defScope sShown) := ⟨rfl, rfl, rfl, by decide +kernel, rfl, by decide +kernel, by decide +kernel⟩
theorem keep_lst {H : Hp} {a : Addr} {xs ys : List V} (h : H a = some (.lst xs)) : KeepT H (upd H a (.lst ys)) := fun b zs e => by
  have n : b ≠ a := fun q => by rw [q, h] at e; cases e
  rw [upd_ne n]
  exact e
theorem same_put {H0 H : Hp} {a : Addr} {o : HO} (s : Same H0 H) (n : H0 a = none) : Same H0 (upd H a o) := fun b x e => by
  rw [upd_ne (ne_of_none e n)]
  exact s b x e
theorem szAll_le (ds : List PyData) : ∀ k, szAll (ds.drop k) ≤ szAll ds := by
  induction ds with
  | nil => intro k; rw [List.drop_nil]; exact Nat.le_refl _
  | cons d r ih =>
    intro k
    cases k with
    | zero => exact Nat.le_refl _
    | succ k =>
      show szAll (r.drop k) ≤ sz d + 1 + szAll r
      have := ih k
      omega
theorem Vd.kind {K : PySem.W.Frag} {H : Hp} {v : V} {d : PyData} (h : Vd H v d) : (∃ a ys ds, v = .ref a ∧ d = .tuple ds ∧ H a = some (.tup ys) ∧ VdAll H ys ds) ∨
    ((∀ ds, d ≠ .tuple ds) ∧ ∃ tv, TyX K H v tv ∧ PySem.W.kitOne K tv (.type "tuple") = some false) := by
  cases h with
  | non => exact .inr ⟨(fun _ e => by cases e), .type "NoneType", .base .non, kit_ty (by decide +kernel)⟩
  | bl b => exact .inr ⟨(fun _ e => by cases e), .type "bool", .base (.bl b), kit_ty (by decide +kernel)⟩
  | int i => exact .inr ⟨(fun _ e => by cases e), .type "int", .base (.int i), kit_ty (by decide +kernel)⟩
  | str z => exact .inr ⟨(fun _ e => by cases e), .type "str", .base (.str z), kit_ty (by decide +kernel)⟩
  | tup a r => exact .inl ⟨_, _, _, rfl, rfl, a, r⟩
theorem SmA.sm {d : PyData} (h : SmA d) (n : ∀ ds, d ≠ .tuple ds) : Sm d := by
  cases h with
  | flat h _ => exact h
  | tup h => exact absurd rfl (n _)
theorem SmA.get {ds : List PyData} (h : SmA (.tuple ds)) : ∀ d ∈ ds, SmA d := by
  cases h with
  | flat _ n => exact absurd rfl (n _)
  | tup h => exact h
theorem szAll_len : ∀ ds : List PyData, ds.length ≤ szAll ds
  | [] => Nat.le_refl 0
  | d :: r => by
    have := szAll_len r
    show r.length + 1 ≤ sz d + 1 + szAll r
    omega
theorem wrF_end {ds : List PyData} {n : Nat} (h : ds.length = n) : (if n = n ∧ 0 < n then wrF ds else wrT (ds.drop (n - n))) = wrF ds := by
  by_cases h0 : 0 < n
  · rw [if_pos ⟨rfl, h0⟩]
  · have e : ds = [] := List.length_eq_zero_iff.mp (by omega)
    rw [if_neg (fun q => h0 q.2), e, List.drop_nil]
    rfl
/-- between two turns of the loop over what waits -/
def ShW (x : V) (pa wa : Addr) (d : PyData) (H : Hp) (m : Nat) (σ : L2.St) (H' : Hp) : Prop :=
  ∃ (ps : List Str) (xs : List V) (its : List It) (y3 y4 y5 : Option V), σ = [some x, some (.ref pa), some (.ref wa), y3, y4, y5] ∧ H' pa = some (.lst (ps.map V.str)) ∧ H' wa = some (.lst xs) ∧ Stk H' xs its ∧ flat ps ++ wAll its = wr d ∧
    (∀ it ∈ its, it.ok) ∧ Same H H' ∧ ps.length + mAll its ≤ sz d ∧ m = mAll its
def TuW (x : V) (pa wa a : Addr) (ps : List Str) (its0 : List It) (ds : List PyData) (n : Nat) (H H1 : Hp) (i : Nat) (σ : L2.St) (H' : Hp) : Prop :=
  ∃ (xs : List V) (its : List It) (y5 : Option V), σ = [some x, some (.ref pa), some (.ref wa), some (.ref a), some (.bl false), y5] ∧ H' pa = some (.lst (ps.map V.str)) ∧ H' wa = some (.lst xs) ∧ Stk H' xs its ∧
    wAll its = (if i = n ∧ 0 < n then wrF ds else wrT (ds.drop (n - i))) ++ wAll its0 ∧ (∀ it ∈ its, it.ok) ∧ Same H H' ∧ KeepT H1 H' ∧ mAll its ≤ mAll its0 + 1 + szAll (ds.drop (n - i))
section
variable {P : Program} {w : World} {K : PySem.W.Frag} {mg : Str → Option Value} {base : Heap}
theorem ok_shown {f fF : Addr} {fd fdF : FuncData} {k : Nat} (F : FnP K "shown" sShown f fd) (FF : FnP K "_shown_flat" sFlat fF fdF) (gF : mg "_shown_flat" = some (.ref fF)) (GF : FnOk P w K mg base CX0 k fF fdF ["value"] spFlat)
    (mi : mg "isinstance" = none) (mt : mg "tuple" = none) (mv : mg "reversed" = none) (mr : mg "range" = none) (ml : mg "len" = none) : FnOk P w K mg base CX0 (k + 1) f fd ["value"] spShown := by
  have bF : Binds K fdF ["value"] [] := FF.bindsN fun _ _ _ _ _ _ us hl => match us, hl with | [_], _ => rfl
  refine F.ok scShown (fun vs H Q E h => ?_) (fun cdv A outer s H vs Q E hr h => ?_)
  · obtain ⟨x, d, rfl, _⟩ := h
    rfl
  · obtain ⟨x, d, rfl, hv, hs, hn, hw, q⟩ := h
    have hz := szl
    refine ⟨_, PSs.nox (pss_cons (ps_set (i := 1) scShown.nd rfl (.inl rfl) (pe_lst pa_nil))
      (pss_cons (ps_set (i := 2) scShown.nd rfl (.inl rfl) (pe_lst (pa_cons (pe_tup (pa_cons (pv 0) (pa_cons (pe_bl) pa_nil))) pa_nil)))
      (pss_cons (ps_while PassesOwn.never (pt_truth (pv 2) (by intro _; rfl)) (pss_cons (ps_asg (pe_bm0 PySem.F.plainAttrs_list PySem.F.slot_list_pop PySem.F.type_list_pop mt_pop (pv 2)) (pg_tup rfl (pgs_cons (pg_name (i := 3) scShown.nd rfl (.inl rfl)) (pgs_cons (pg_name (i := 4) scShown.nd rfl (.inl rfl)) pgs_nil))))
      (pss_one (ps_if (pt_val (pv 4)) (pss_one (ps_expr (pe_bm PySem.F.plainAttrs_list PySem.F.slot_list_append PySem.F.type_list_append mt_append (pv 1) (pa_cons (pv 3) pa_nil)))) (pss_one (ps_if (pt_val (pe_callB call_isi (by rfl) mi (by decide +kernel) (pa_cons (pv 3) (pa_cons (pe_bltn (v := .ty "tuple") (by rfl) mt PyProof.Rows.boot_tuple rfl) pa_nil)))) (pss_cons (ps_expr (pe_bm PySem.F.plainAttrs_list PySem.F.slot_list_append PySem.F.type_list_append mt_append (pv 1) (pa_cons (pe_str) pa_nil)))
      (pss_cons (ps_expr (pe_bm PySem.F.plainAttrs_list PySem.F.slot_list_append PySem.F.type_list_append mt_append (pv 2) (pa_cons (pe_tup (pa_cons (pe_str) (pa_cons (pe_bl) pa_nil))) pa_nil)))
      (pss_one (ps_for PassesOwn.never rfl (pi_revR (by rfl) mv (prg_1 (by rfl) mr (pe_callB call_len_seq (by rfl) ml PySem.boot_len (pa_cons (pv 3) pa_nil)))) (pg_name (i := 5) scShown.nd rfl (.inl rfl)) (pss_cons (ps_expr (pe_bm PySem.F.plainAttrs_list PySem.F.slot_list_append PySem.F.type_list_append mt_append (pv 2) (pa_cons (pe_tup (pa_cons (pe_ix ix_tup (pv 3) (pv 5) (fun _ _ => rfl)) (pa_cons (pe_bl) pa_nil))) pa_nil)))
      (pss_one (ps_if (pt_cmpR op_gt (pv 5) (pe_int) (nomark _)) (pss_one (ps_expr (pe_bm PySem.F.plainAttrs_list PySem.F.slot_list_append PySem.F.type_list_append mt_append (pv 2) (pa_cons (pe_tup (pa_cons (pe_str) (pa_cons (pe_bl) pa_nil))) pa_nil)))) pss_nil))))))) (pss_one (ps_expr (pe_bm PySem.F.plainAttrs_list PySem.F.slot_list_append PySem.F.type_list_append mt_append (pv 1) (pa_cons (pe_call GF hr (by rfl) gF FF.kp bF .nil pass0 (pa_cons (pv 3) pa_nil)) pa_nil))))))))))
      (pss_one (ps_ret (pe_join pe_str (pv 1))))))), ?_⟩
    refine ⟨Nat.zero_le _, fun pa npa => ?_⟩
    refine ⟨_, rfl, by show 2 ≤ sizeLine; omega, fun p np => ⟨by show 1 ≤ sizeLine; omega, fun wa nwa => ?_⟩⟩
    have s0 : Same H (upd (upd (upd H pa (.lst [])) p (.tup [x, .bl false])) wa (.lst [.ref p])) := ((same_upd npa).trans (same_upd np)).trans (same_upd nwa)
    have hpa0 : upd (upd (upd H pa (.lst [])) p (.tup [x, .bl false])) wa (.lst [.ref p]) pa = some (.lst []) := by
      have e1 : (upd H pa (.lst [])) pa = some (.lst []) := upd_same
      exact same_upd nwa _ _ (same_upd np _ _ e1)
    have hp0 : upd (upd (upd H pa (.lst [])) p (.tup [x, .bl false])) wa (.lst [.ref p]) p = some (.tup [x, .bl false]) := same_upd nwa _ _ upd_same
    have nwa0 : H wa = none := ((same_upd npa).trans (same_upd np)).free nwa
    have npw : pa ≠ wa := fun e => by
      have e1 : (upd H pa (.lst [])) pa = some (.lst []) := upd_same
      have e2 := same_upd (o := HO.tup [x, .bl false]) np _ _ e1
      rw [e] at e2
      rw [e, e2] at nwa
      cases nwa
    refine ⟨ShW x pa wa d H, ⟨mAll [.val d], [], [.ref p], [.val d], none, none, none, rfl, hpa0, upd_same, .snoc (xs := []) (its := []) .nil (.val hp0 (hv.keep (Same.keepT s0))), ?_, ?_, s0, ?_, rfl⟩, ?_⟩
    · show [] ++ (wr d ++ []) = wr d
      simp
    · intro it hit
      rw [List.mem_singleton.mp hit]
      exact hs
    · show 0 + (sz d + 0) ≤ sz d
      omega
    rintro m σ H' ⟨ps, xs, its, y3, y4, y5, rfl, hp, hwt, stk, hfl, hok, sm, hlen, rfl⟩
    refine ⟨_, rfl, _, .inl ⟨xs, SqL.of hwt, rfl⟩, ?_⟩
    by_cases ne : xs = []
    · subst ne
      have hi : its = [] := by
        have := stk.len
        exact List.length_eq_zero_iff.mp this.symm
      subst hi
      refine iteF ?_
      have hfl' : flat ps = wr d := by
        have e0 : wAll [] = [] := rfl
        rw [e0, List.append_nil] at hfl
        exact hfl
      refine ⟨⟨_, rfl⟩, _, rfl, Str.ofString "", pa, ps, rfl, rfl, .inl (SqL.of hp), ?_, q _ _ sm ?_⟩
      · have l0 : (Str.ofString "").length = 0 := by decide +kernel
        rw [l0, flat_len, hfl']
        omega
      · have t0 : tl (Str.ofString "") = [] := by decide +kernel
        rw [join_eq, tl_join, t0, joinL_nil]
        exact hfl'
    · obtain ⟨xs0, x1, its0, it, rfl, rfl, st0, im⟩ := stk.last ne
      have e1 : (!(xs0 ++ [x1]).isEmpty) = true := by simp
      rw [e1]
      refine iteT ⟨fun σ' H' => ∃ m', m' < mAll (its0 ++ [it]) ∧ ShW x pa wa d H m' σ' H', fun _ _ h => h, ?_⟩
      have hm := mAll_snoc its0 it
      have hwf := wAll_snoc its0 it
      have ml0 := mAll_len its0
      have lx := st0.len
      have nwp : wa ≠ pa := npw.symm
      have hdl : (xs0 ++ [x1]).dropLast = xs0 := List.dropLast_concat
      have hlast : (xs0 ++ [x1])[(xs0 ++ [x1]).length - 1]? = some x1 := by simp
      have kt : KeepT H' (upd H' wa (.lst (xs0 ++ [x1]).dropLast)) := keep_lst hwt
      have hp1 : upd H' wa (.lst (xs0 ++ [x1]).dropLast) pa = some (.lst (ps.map V.str)) := by rw [upd_ne npw]; exact hp
      have hw1 : upd H' wa (.lst (xs0 ++ [x1]).dropLast) wa = some (.lst xs0) := by rw [upd_same, hdl]
      have sm1 : Same H (upd H' wa (.lst (xs0 ++ [x1]).dropLast)) := same_put sm nwa0
      have st1 := st0.keep kt
      have im1 := im.keep kt
      refine ⟨_, rfl, .inl ⟨rfl, _, SqL.of hwt⟩, wa, _, x1, rfl, rfl, hwt, hlast, ?_⟩
      generalize upd H' wa (.lst (xs0 ++ [x1]).dropLast) = H1 at kt hp1 hw1 sm1 st1 im1
      cases im1 with
      | txt ht hl =>
        rename_i p1 t
        refine ⟨p1, _, rfl, .inl (.inl ht), rfl, _, _, rfl, _, _, rfl, rfl, ?_⟩
        refine ⟨_, rfl, _, rfl, iteT ⟨_, rfl, .inl ⟨rfl, _, SqL.of hp1⟩, _, rfl, pa, _, _, rfl, rfl, hp1, ?_, ?_⟩⟩
        · rw [List.length_map]
          omega
        · have hm1 : It.m (.txt t) = 1 := rfl
          refine ⟨mAll its0, by omega, ps ++ [t], xs0, its0, _, _, _, rfl, ?_, ?_, st1.keep (keep_lst hp1), ?_, fun u hu => hok u (List.mem_append_left _ hu), same_put sm1 npa, ?_, rfl⟩
          · rw [upd_same, List.map_append]; rfl
          · rw [upd_ne nwp]; exact hw1
          · rw [flat_snoc, List.append_assoc, ← hfl, hwf]
            rfl
          · rw [List.length_append]
            show ps.length + 1 + mAll its0 ≤ sz d
            omega
      | val ht hv1 =>
        rename_i p1 v1 d1
        have hd1 : SmA d1 := hok _ (List.mem_append_right _ (List.mem_singleton.mpr rfl))
        have hm1 : It.m (.val d1) = sz d1 := rfl
        have hw1' : It.w (.val d1) = wr d1 := rfl
        have sp1 := sz_pos d1
        refine ⟨p1, _, rfl, .inl (.inl ht), rfl, _, _, rfl, _, _, rfl, rfl, ?_⟩
        refine ⟨_, rfl, _, rfl, iteF ?_⟩
        have l40 : tl (Str.ofString "(") = [40] := by decide +kernel
        have l41 : tl (Str.ofString ")") = [41] := by decide +kernel
        have l32 : tl (Str.ofString " ") = [32] := by decide +kernel
        rcases hv1.kind (K := K) with ⟨a, ys, ds, rfl, rfl, ha, hys⟩ | ⟨hnt, tv, hty, hkit⟩
        · refine ⟨_, rfl, .ref a, .ty "tuple", .type "tuple", .type "tuple", true, rfl, .ty _, .base (.tup ha), kit_ty (by decide +kernel), _, rfl, iteT ?_⟩
          have hsz : sz (.tuple ds) = 2 + szAll ds := rfl
          have hyl := hys.len
          -- the bracket
          refine ⟨_, rfl, .inl ⟨rfl, _, SqL.of hp1⟩, pa, _, _, rfl, rfl, hp1, by rw [List.length_map]; omega, ?_⟩
          have kt2 : KeepT H1 (upd H1 pa (.lst (ps.map V.str ++ [V.str (Str.ofString "(")]))) := keep_lst hp1
          have hp2 : upd H1 pa (.lst (ps.map V.str ++ [V.str (Str.ofString "(")])) pa = some (.lst ((ps ++ [Str.ofString "("]).map V.str)) := by rw [upd_same, List.map_append]; rfl
          have hw2 : upd H1 pa (.lst (ps.map V.str ++ [V.str (Str.ofString "(")])) wa = some (.lst xs0) := by rw [upd_ne nwp]; exact hw1
          have sm2 : Same H (upd H1 pa (.lst (ps.map V.str ++ [V.str (Str.ofString "(")]))) := same_put sm1 npa
          have st2 := st1.keep kt2
          generalize upd H1 pa (.lst (ps.map V.str ++ [V.str (Str.ofString "(")])) = H2 at kt2 hp2 hw2 sm2 st2
          -- its end
          refine ⟨_, rfl, .inl ⟨rfl, _, SqL.of hw2⟩, by show 2 ≤ sizeLine; omega, fun p3 np3 => ?_⟩
          have e3 := same_upd (o := HO.tup [.str (Str.ofString ")"), .bl true]) np3
          have hw3 := e3 _ _ hw2
          have hp3 := e3 _ _ hp2
          refine ⟨wa, _, _, rfl, rfl, hw3, by omega, ?_⟩
          have kt4 := kt2.trans ((Same.keepT e3).trans (keep_lst (ys := xs0 ++ [.ref p3]) hw3))
          have hp4 : upd (upd H2 p3 (.tup [.str (Str.ofString ")"), .bl true])) wa (.lst (xs0 ++ [.ref p3])) pa = some (.lst ((ps ++ [Str.ofString "("]).map V.str)) := by rw [upd_ne npw]; exact hp3
          have sm4 : Same H (upd (upd H2 p3 (.tup [.str (Str.ofString ")"), .bl true])) wa (.lst (xs0 ++ [.ref p3]))) := same_put (sm2.trans e3) nwa0
          have st4 : Stk (upd (upd H2 p3 (.tup [.str (Str.ofString ")"), .bl true])) wa (.lst (xs0 ++ [.ref p3]))) (xs0 ++ [.ref p3]) (its0 ++ [.txt (Str.ofString ")")]) :=
            .snoc (st2.keep ((Same.keepT e3).trans (keep_lst hw3))) (.txt (keep_lst hw3 _ _ upd_same) (by decide +kernel))
          have hw4 : upd (upd H2 p3 (.tup [.str (Str.ofString ")"), .bl true])) wa (.lst (xs0 ++ [.ref p3])) wa = some (.lst (xs0 ++ [.ref p3])) := upd_same
          generalize upd (upd H2 p3 (.tup [.str (Str.ofString ")"), .bl true])) wa (.lst (xs0 ++ [.ref p3])) = H4 at kt4 hp4 sm4 st4 hw4
          have ha4 := kt4 _ _ ha
          have hys4 := hys.keep kt4
          have w41 : It.w (.txt (Str.ofString ")")) = [41] := l41
          have m41 : It.m (.txt (Str.ofString ")")) = 1 := rfl
          have szA := szAll_le ds
          refine ⟨_, rfl, a, ys, rfl, .inr (SqT.of ha4), (ys.length : Int), rfl, by omega, by omega, by omega, ?_, ?_⟩
          · have := szAll_len ds
            omega
          refine for_rangeC (lo := 0 + (((ys.length : Int) - 0).toNat : Int) - 1) (c := -1) (n := ((ys.length : Int) - 0).toNat) (fun i σ H' => TuW x pa wa a (ps ++ [Str.ofString "("]) its0 ds ys.length H H4 i σ H') ⟨_, _, _, rfl, hp4, hw4, st4, ?_, ?_, sm4, KeepT.refl _, ?_⟩ ?_ ?_
          · rw [wAll_snoc, w41, if_neg (by omega), Nat.sub_zero, hyl, List.drop_length]
            rfl
          · intro u hu
            rcases List.mem_append.mp hu with q | q
            · exact hok u (List.mem_append_left _ q)
            · rw [List.mem_singleton.mp q]
              exact True.intro
          · rw [mAll_snoc, m41]
            omega
          · rintro i σ H5 hi ⟨xs5, its5, y5, rfl, hp5, hw5, st5, hwa5, hok5, sm5, kt5, hm5⟩
            have hi' : i < ys.length := by omega
            have hkl : ys.length - 1 - i < ys.length := by omega
            have ek : (0 + (((ys.length : Int) - 0).toNat : Int) - 1) + ((i : Nat) : Int) * (-1) = ((ys.length - 1 - i : Nat) : Int) := by omega
            have hv5 : ys[ys.length - 1 - i]? = some ys[ys.length - 1 - i] := List.getElem?_eq_getElem hkl
            obtain ⟨d5, hd5, vd5⟩ := hys4.get _ hv5
            have ha5 := kt5 _ _ ha4
            have hs5 := hd1.get d5 (List.mem_of_getElem? hd5)
            have szd := szAll_drop ds hd5
            have szl := szAll_le ds (ys.length - i)
            have e1 : ys.length - 1 - i + 1 = ys.length - i := by omega
            rw [e1] at szd
            have lx5 := st5.len
            have ml5 := mAll_len its5
            rw [if_neg (by omega)] at hwa5
            refine ⟨_, rfl, .inl ⟨rfl, _, SqL.of hw5⟩, _, rfl, _, rfl, a, ys, ((ys.length - 1 - i : Nat) : Int), _, rfl, congrArg V.int ek, SqT.of ha5, atI_nat hv5, by show 2 ≤ sizeLine; omega, fun p6 np6 => ?_⟩
            have e6 := same_upd (o := HO.tup [ys[ys.length - 1 - i], .bl false]) np6
            have hw6 := e6 _ _ hw5
            refine ⟨wa, _, _, rfl, rfl, hw6, by omega, ?_⟩
            have k7 : KeepT H5 (upd (upd H5 p6 (.tup [ys[ys.length - 1 - i], .bl false])) wa (.lst (xs5 ++ [.ref p6]))) := (Same.keepT e6).trans (keep_lst hw6)
            have hp7 : upd (upd H5 p6 (.tup [ys[ys.length - 1 - i], .bl false])) wa (.lst (xs5 ++ [.ref p6])) pa = some (.lst ((ps ++ [Str.ofString "("]).map V.str)) := by rw [upd_ne npw]; exact e6 _ _ hp5
            have hw7 : upd (upd H5 p6 (.tup [ys[ys.length - 1 - i], .bl false])) wa (.lst (xs5 ++ [.ref p6])) wa = some (.lst (xs5 ++ [.ref p6])) := upd_same
            have sm7 : Same H (upd (upd H5 p6 (.tup [ys[ys.length - 1 - i], .bl false])) wa (.lst (xs5 ++ [.ref p6]))) := same_put (sm5.trans e6) nwa0
            have st7 : Stk (upd (upd H5 p6 (.tup [ys[ys.length - 1 - i], .bl false])) wa (.lst (xs5 ++ [.ref p6]))) (xs5 ++ [.ref p6]) (its5 ++ [.val d5]) :=
              .snoc (st5.keep k7) (.val (keep_lst hw6 _ _ upd_same) (vd5.keep (kt5.trans k7)))
            generalize upd (upd H5 p6 (.tup [ys[ys.length - 1 - i], .bl false])) wa (.lst (xs5 ++ [.ref p6])) = H7 at k7 hp7 hw7 sm7 st7
            have hok7 : ∀ it ∈ its5 ++ [It.val d5], it.ok := fun u hu => by
              rcases List.mem_append.mp hu with q | q
              · exact hok5 u q
              · rw [List.mem_singleton.mp q]
                exact hs5
            have hmv : It.m (.val d5) = sz d5 := rfl
            have hwv : It.w (.val d5) = wr d5 := rfl
            refine ⟨_, rfl, _, 0, rfl, rfl, _, rfl, ite2 (fun e => ?_) (fun e => ?_)⟩
            · have e0 : (0 : Int) < (0 + (((ys.length : Int) - 0).toNat : Int) - 1) + ((i : Nat) : Int) * (-1) := of_decide_eq_true e
              rw [ek] at e0
              refine ⟨_, rfl, .inl ⟨rfl, _, SqL.of hw7⟩, by show 2 ≤ sizeLine; omega, fun p8 np8 => ?_⟩
              have e8 := same_upd (o := HO.tup [.str (Str.ofString " "), .bl true]) np8
              have hw8 := e8 _ _ hw7
              refine ⟨wa, _, _, rfl, rfl, hw8, ?_, ?_⟩
              · rw [List.length_append]
                show xs5.length + 1 < sizeLine
                omega
              have k9 : KeepT H7 (upd (upd H7 p8 (.tup [.str (Str.ofString " "), .bl true])) wa (.lst (xs5 ++ [.ref p6] ++ [.ref p8]))) := (Same.keepT e8).trans (keep_lst hw8)
              refine ⟨_, its5 ++ [.val d5] ++ [.txt (Str.ofString " ")], _, rfl, by rw [upd_ne npw]; exact e8 _ _ hp7, upd_same, .snoc (st7.keep k9) (.txt (keep_lst hw8 _ _ upd_same) (by decide +kernel)), ?_, ?_, same_put (sm7.trans e8) nwa0, (kt5.trans k7).trans k9, ?_⟩
              · have w32 : It.w (.txt (Str.ofString " ")) = [32] := l32
                rw [wAll_snoc, wAll_snoc, hwa5, w32, hwv, if_neg (by omega), show ys.length - (i + 1) = ys.length - 1 - i by omega, wrT_drop ds hd5, e1]
                simp
              · intro u hu
                rcases List.mem_append.mp hu with q | q
                · exact hok7 u q
                · rw [List.mem_singleton.mp q]
                  exact True.intro
              · have m32 : It.m (.txt (Str.ofString " ")) = 1 := rfl
                rw [mAll_snoc, mAll_snoc, m32, hmv, show ys.length - (i + 1) = ys.length - 1 - i by omega, szd]
                omega
            · have e0 : ¬ (0 : Int) < (0 + (((ys.length : Int) - 0).toNat : Int) - 1) + ((i : Nat) : Int) * (-1) := fun h => e (decide_eq_true h)
              rw [ek] at e0
              have ei : ys.length - 1 - i = 0 := by omega
              refine ⟨_, its5 ++ [.val d5], _, rfl, hp7, hw7, st7, ?_, hok7, sm7, kt5.trans k7, ?_⟩
              · rw [ei] at hd5
                rw [wAll_snoc, hwa5, hwv, if_pos (by omega), wrF_zero ds hd5, show ys.length - i = 1 by omega]
                simp
              · rw [mAll_snoc, hmv, show ys.length - (i + 1) = ys.length - 1 - i by omega, szd]
                omega
          · rintro σ H5 ⟨xs5, its5, y5, rfl, hp5, hw5, st5, hwa5, hok5, sm5, kt5, hm5⟩
            rw [show ((ys.length : Int) - 0).toNat = ys.length by omega] at hwa5 hm5
            rw [wrF_end hyl.symm] at hwa5
            have szl := szAll_le ds (ys.length - ys.length)
            refine ⟨mAll its5, by omega, ps ++ [Str.ofString "("], xs5, its5, _, _, _, rfl, hp5, hw5, st5, ?_, hok5, sm5, ?_, rfl⟩
            · rw [flat_snoc, l40, hwa5, ← hfl, hwf, hw1']
              show _ = flat ps ++ (40 :: wrF ds ++ wAll its0)
              simp
            · rw [List.length_append]
              show ps.length + 1 + mAll its5 ≤ sz d
              omega
        · refine ⟨_, rfl, v1, .ty "tuple", tv, .type "tuple", false, rfl, .ty _, hty, hkit, _, rfl, iteF ?_⟩
          refine ⟨_, rfl, .inl ⟨rfl, _, SqL.of hp1⟩, _, rfl, v1, d1, rfl, hv1, hd1.sm hnt, hnt, fun r hr => ?_⟩
          refine ⟨pa, _, _, rfl, rfl, hp1, by rw [List.length_map]; omega, ?_⟩
          refine ⟨mAll its0, by omega, ps ++ [r], xs0, its0, _, _, _, rfl, ?_, ?_, st1.keep (keep_lst hp1), ?_, fun u hu => hok u (List.mem_append_left _ hu), same_put sm1 npa, ?_, rfl⟩
          · rw [upd_same, List.map_append]; rfl
          · rw [upd_ne nwp]; exact hw1
          · rw [flat_snoc, List.append_assoc, ← hfl, hwf, hr]
            rfl
          · rw [List.length_append]
            show ps.length + 1 + mAll its0 ≤ sz d
            omega
end
end Vl

set_option maxHeartbeats 4000000
namespace Vl
open PySem PySem.Spec PyProof.Rows L2 TL CwR PySem.StrLaws
/-! ### one sign of a text -/
def sg (t : Str) (k : Nat) : Str := cutS t (some (k : Int)) (some ((k : Int) + 1))
theorem tl_cut (t : Str) (a b : Nat) : tl (cutS t (some (a : Int)) (some (b : Int))) = ((tl t).drop a).take (b - a) := by
  show ((tl t).drop (HT.sIx t.length 0 (some (a : Int)))).take (HT.sIx t.length t.length (some (b : Int)) - HT.sIx t.length 0 (some (a : Int))) = _
  rw [HT.sIx_nat, HT.sIx_nat]
  have hl := len_tl t
  by_cases h : a ≤ t.length
  · rw [Nat.min_eq_left h]
    by_cases h2 : b ≤ t.length
    · rw [Nat.min_eq_left h2]
    · rw [Nat.min_eq_right (show t.length ≤ b by omega), List.take_of_length_le (i := t.length - a) (by rw [List.length_drop]; omega), List.take_of_length_le (i := b - a) (by rw [List.length_drop]; omega)]
  · rw [Nat.min_eq_right (show t.length ≤ a by omega), List.drop_eq_nil_of_le (show (tl t).length ≤ t.length by omega), List.drop_eq_nil_of_le (show (tl t).length ≤ a by omega), List.take_nil, List.take_nil]
theorem tl_sg (t : Str) (k : Nat) : tl (sg t k) = ((tl t).drop k).take 1 := by
  have e := tl_cut t k (k + 1)
  rw [show k + 1 - k = 1 by omega] at e
  exact e
theorem take1 (l : List Nat) (k : Nat) : (l.drop k).take 1 = (match l[k]? with | some c => [c] | none => []) := by
  cases h : l[k]? with
  | none =>
    rw [List.drop_eq_nil_of_le (List.getElem?_eq_none_iff.mp h)]
    rfl
  | some c =>
    have hk : k < l.length := (List.getElem?_eq_some_iff.mp h).1
    rw [List.drop_eq_getElem_cons hk]
    show [l[k]] = [c]
    rw [(List.getElem?_eq_some_iff.mp h).2]
theorem tl_sg' (t : Str) (k : Nat) : tl (sg t k) = (match (tl t)[k]? with | some c => [c] | none => []) := (tl_sg t k).trans (take1 _ k)
theorem sg_eq {t c1 : Str} {k c : Nat} (h : tl c1 = [c]) : (V.str (sg t k) = V.str c1) ↔ (tl t)[k]? = some c := by
  constructor
  · intro e
    have e2 := congrArg tl (V.str.inj e)
    rw [tl_sg', h] at e2
    cases hk : (tl t)[k]? with
    | none => rw [hk] at e2; cases e2
    | some d =>
      rw [hk] at e2
      rw [(List.cons.inj e2).1]
  · intro e
    refine congrArg V.str (ext_tl ?_)
    rw [tl_sg', e, h]
theorem sg_len (t : Str) (k : Nat) : (sg t k).length ≤ 1 := by
  rw [len_tl, tl_sg, List.length_take]
  omega
def plainLen : List Nat → Nat
  | [] => 0
  | c :: r => if plain c then 1 + plainLen r else 0
def plainB (z : Str) : Bool := match tl z with
  | [c] => decide (plain c)
  | _ => false
theorem plainLen_le : ∀ l : List Nat, plainLen l ≤ l.length
  | [] => Nat.le_refl 0
  | c :: r => by
    have := plainLen_le r
    show (if plain c then 1 + plainLen r else 0) ≤ r.length + 1
    by_cases h : plain c
    · rw [if_pos h]; omega
    · rw [if_neg h]; omega
theorem plainLen_at (l : List Nat) (k : Nat) : plainLen (l.drop k) = (match l[k]? with | some c => (if plain c then 1 + plainLen (l.drop (k + 1)) else 0) | none => 0) := by
  cases h : l[k]? with
  | none =>
    rw [List.drop_eq_nil_of_le (List.getElem?_eq_none_iff.mp h)]
    rfl
  | some c =>
    have hk : k < l.length := (List.getElem?_eq_some_iff.mp h).1
    rw [List.drop_eq_getElem_cons hk, (List.getElem?_eq_some_iff.mp h).2]
    rfl
theorem lt1 (a c : Nat) : decide ([a] < [c]) = decide (a < c) := by
  rw [Bool.eq_iff_iff, decide_eq_true_iff, decide_eq_true_iff]
  constructor
  · intro h
    cases h with
    | rel r => exact r
    | cons r => cases r
  · intro h
    exact List.Lex.rel h
abbrev sPlain : Stmt := top 14
abbrev sBehind : Stmt := top 13
theorem scPlain : FnScope ["sign"] ["sign"] (defScope sPlain) := ⟨rfl, rfl, rfl, by decide +kernel, rfl, by decide +kernel, by decide +kernel⟩
theorem scBehind : FnScope ["text", "at"] ["text", "at"] (defScope sBehind) := ⟨rfl, rfl, rfl, by decide +kernel, rfl, by decide +kernel, by decide +kernel⟩
def spPlain : Sp := fun vs H Q _ => ∃ z : Str, vs = [.str z] ∧ z.length ≤ 1 ∧ Q (.bl (plainB z)) H
def spBehind : Sp := fun vs H Q _ => ∃ (t : Str) (k : Nat), vs = [.str t, .int (k : Int)] ∧ t.length ≤ sizeLine ∧ Q (.int ((k + plainLen ((tl t).drop k) : Nat) : Int)) H
abbrev sSign : Stmt := top 15
theorem scSign : FnScope ["sign"] ["sign"] (defScope sSign) := ⟨rfl, rfl, rfl, by decide +kernel, rfl, by decide +kernel, by decide +kernel⟩
/-- one of the signs that texts have -/
def signB (z : Str) : Bool := match tl z with
  | [c] => decide (32 ≤ c ∧ c ≤ 126 ∧ c ≠ 37)
  | _ => false
def spSign : Sp := fun vs H Q _ => ∃ z : Str, vs = [.str z] ∧ z.length ≤ 1 ∧ Q (.bl (signB z)) H
theorem one_or {z : Str} (hl : z.length ≤ 1) : tl z = [] ∨ ∃ c, tl z = [c] := by
  have := len_tl z
  cases h : tl z with
  | nil => exact .inl rfl
  | cons c r =>
    rw [h, List.length_cons] at this
    exact .inr ⟨c, by rw [List.length_eq_zero_iff.mp (show r.length = 0 by omega)]⟩
section
variable {P : Program} {w : World} {K : PySem.W.Frag} {mg : Str → Option Value} {base : Heap}
theorem ok_sign {f : Addr} {fd : FuncData} {k : Nat} (F : FnP K "is_sign" sSign f fd) (mo : mg "ord" = none) (gP : ∃ t, mg "PERCENT" = some (.int 37 t)) : FnOk P w K mg base CX0 (k + 1) f fd ["sign"] spSign := by
  obtain ⟨tm, gP⟩ := gP
  refine F.ok scSign (fun vs H Q E h => ?_) (fun cdv A outer s H vs Q E hr h => ?_)
  · obtain ⟨x, rfl, _⟩ := h
    rfl
  · obtain ⟨z, rfl, hl, q⟩ := h
    refine ⟨_, PSs.nox (pss_one (ps_ret (pe_and (pe_chain op_le_str op_le_str pe_str (pv 0) pe_str) (pe_one (pe_cmpR op_ne (pe_callB call_ord (by rfl) mo (by decide +kernel) (pa_cons (pv 0) pa_nil)) (pe_glob (v := .int 37) (by rfl) gP ⟨_, rfl⟩) (nomark _)))))), ?_⟩
    have t32 : (Str.ofString " ").cps.toList = [32] := by decide +kernel
    have t126 : (Str.ofString "~").cps.toList = [126] := by decide +kernel
    refine ⟨_, rfl, _, z, rfl, rfl, _, rfl, ?_⟩
    rcases one_or hl with e | ⟨c, e⟩
    · have e' : z.cps.toList = [] := e
      have d1 : decide (z.cps.toList < (Str.ofString " ").cps.toList) = true := by rw [e', t32]; decide
      have ep : signB z = false := by unfold signB; rw [e]
      rw [d1]
      refine iteF ⟨false, rfl, iteF ?_⟩
      rw [ep] at q
      exact q
    · have e' : z.cps.toList = [c] := e
      have ep : signB z = decide (32 ≤ c ∧ c ≤ 126 ∧ c ≠ 37) := by unfold signB; rw [e]
      rw [ep] at q
      have d1 : decide (z.cps.toList < (Str.ofString " ").cps.toList) = decide (c < 32) := by rw [e', t32]; exact lt1 c 32
      have d2 : decide ((Str.ofString "~").cps.toList < z.cps.toList) = decide (126 < c) := by rw [e', t126]; exact lt1 126 c
      rw [d1]
      by_cases h1 : c < 32
      · rw [decide_eq_true h1]
        refine iteF ⟨false, rfl, iteF ?_⟩
        rw [decide_eq_false (fun h : 32 ≤ c ∧ c ≤ 126 ∧ c ≠ 37 => by have := h.1; omega)] at q
        exact q
      · rw [decide_eq_false h1]
        refine iteT ⟨z, _, rfl, rfl, _, rfl, ?_⟩
        rw [d2]
        by_cases h2 : 126 < c
        · rw [decide_eq_true h2]
          refine iteF ?_
          rw [decide_eq_false (fun h : 32 ≤ c ∧ c ≤ 126 ∧ c ≠ 37 => by have := h.2.1; omega)] at q
          exact q
        · rw [decide_eq_false h2]
          refine iteT ⟨_, rfl, z, rfl, ?_, rfl, ?_⟩
          · rw [len_tl, e]; rfl
          · have g : (z.cps.getD 0 0) = c := by
              have : z = ⟨#[c]⟩ := ext_tl e
              rw [this]
              rfl
            rw [g]
            by_cases h4 : c = 37
            · rw [decide_eq_false (fun h : 32 ≤ c ∧ c ≤ 126 ∧ c ≠ 37 => h.2.2 h4)] at q
              have d4 : decide (V.int (c : Int) = V.int 37) = true := decide_eq_true (by rw [h4]; rfl)
              rw [d4]
              exact q
            · rw [decide_eq_true (show 32 ≤ c ∧ c ≤ 126 ∧ c ≠ 37 from ⟨by omega, by omega, h4⟩)] at q
              have d4 : decide (V.int (c : Int) = V.int 37) = false := decide_eq_false (fun h => h4 (by have := V.int.inj h; omega))
              rw [d4]
              exact q
theorem ok_plain {f fS : Addr} {fd fdS : FuncData} {k : Nat} (F : FnP K "_is_plain" sPlain f fd) (FS : FnP K "is_sign" sSign fS fdS) (gS : mg "is_sign" = some (.ref fS)) (GS : FnOk P w K mg base CX0 k fS fdS ["sign"] spSign) : FnOk P w K mg base CX0 (k + 1) f fd ["sign"] spPlain := by
  have bS : Binds K fdS ["sign"] [] := FS.bindsN fun _ _ _ _ _ _ us hl => match us, hl with | [_], _ => rfl
  refine F.ok scPlain (fun vs H Q E h => ?_) (fun cdv A outer s H vs Q E hr h => ?_)
  · obtain ⟨x, rfl, _⟩ := h
    rfl
  · obtain ⟨z, rfl, hl, q⟩ := h
    refine ⟨_, PSs.nox (pss_one (ps_ret (pe_and (pe_call GS hr (by rfl) gS FS.kp bS .nil pass0 (pa_cons (pv 0) pa_nil)) (pe_one (pe_cmpR op_ne (pv 0) pe_str (nomark _)))))), ?_⟩
    have t34 : tl (Str.ofString "\"") = [34] := by decide +kernel
    refine ⟨_, rfl, z, rfl, hl, _, rfl, ?_⟩
    rcases one_or hl with e | ⟨c, e⟩
    · have es : signB z = false := by unfold signB; rw [e]
      have ep : plainB z = false := by unfold plainB; rw [e]
      rw [ep] at q
      rw [es]
      exact iteF q
    · have es : signB z = decide (32 ≤ c ∧ c ≤ 126 ∧ c ≠ 37) := by unfold signB; rw [e]
      have ep : plainB z = decide (plain c) := by unfold plainB; rw [e]
      rw [ep] at q
      rw [es]
      by_cases h0 : 32 ≤ c ∧ c ≤ 126 ∧ c ≠ 37
      · rw [decide_eq_true h0]
        refine iteT ⟨_, rfl, rfl, ?_⟩
        have d3 : (!decide (V.str z = V.str (Str.ofString "\""))) = decide (plain c) := by
          have d4 : decide (V.str z = V.str (Str.ofString "\"")) = decide (c = 34) := decide_eq_decide.mpr ⟨fun h => by
            have h' := congrArg tl (V.str.inj h)
            rw [e, t34] at h'
            exact (List.cons.inj h').1, fun h => congrArg V.str (ext_tl (by rw [e, t34, h]))⟩
          rw [d4]
          by_cases h3 : c = 34
          · rw [decide_eq_true h3, decide_eq_false (fun h : plain c => h.2.2.1 h3)]
            rfl
          · rw [decide_eq_false h3, decide_eq_true (show plain c from ⟨h0.1, h0.2.1, h3, h0.2.2⟩)]
            rfl
        show Q (.bl (!decide (V.str z = V.str (Str.ofString "\"")))) H
        rw [d3]
        exact q
      · rw [decide_eq_false h0]
        rw [decide_eq_false (fun h : plain c => h0 ⟨h.1, h.2.1, h.2.2.2⟩)] at q
        exact iteF q
theorem ok_behind {f fP : Addr} {fd fdP : FuncData} {k : Nat} (F : FnP K "_behind_plain_signs" sBehind f fd) (FP : FnP K "_is_plain" sPlain fP fdP) (gP : mg "_is_plain" = some (.ref fP)) (GP : FnOk P w K mg base CX0 k fP fdP ["sign"] spPlain) : FnOk P w K mg base CX0 (k + 1) f fd ["text", "at"] spBehind := by
  have bP : Binds K fdP ["sign"] [] := FP.bindsN fun _ _ _ _ _ _ us hl => match us, hl with | [_], _ => rfl
  refine F.ok scBehind (fun vs H Q E h => ?_) (fun cdv A outer s H vs Q E hr h => ?_)
  · obtain ⟨t, n, rfl, _⟩ := h
    rfl
  · obtain ⟨t, n, rfl, hz, q⟩ := h
    have hl := len_tl t
    refine ⟨_, PSs.nox (pss_cons (ps_while PassesOwn.never (pt_val (pe_call GP hr (by rfl) gP FP.kp bP .nil pass0 (pa_cons (pe_slice sl_str (pv 0) (po_some (pv 1)) (po_some (pe_op op_add (pv 1) pe_int))) pa_nil)))
        (pss_one (ps_aug (i := 1) scBehind.nd rfl (.inl rfl) pe_int ip_add))) (pss_one (ps_ret (pv 1)))), ?_⟩
    refine ⟨fun m σ H' => H' = H ∧ ∃ j : Nat, σ = [some (.str t), some (.int (j : Int))] ∧ j + plainLen ((tl t).drop j) = n + plainLen ((tl t).drop n) ∧ m = (tl t).length - j, ⟨_, rfl, n, rfl, rfl, rfl⟩, ?_⟩
    rintro m σ H' ⟨rfl, j, rfl, ej, rfl⟩
    have sl : (sg t j).length ≤ 1 := sg_len t j
    have pa := plainLen_at (tl t) j
    refine ⟨_, rfl, _, rfl, (j : Int), rfl, _, rfl, (j : Int), 1, rfl, rfl, (j : Int) + 1, rfl, t, rfl, hz, sg t j, rfl, sl, _, rfl, ?_⟩
    have et := tl_sg' t j
    cases hj : (tl t)[j]? with
    | none =>
      rw [hj] at et pa
      have eb : plainB (sg t j) = false := by unfold plainB; rw [et]
      rw [eb]
      refine iteF ⟨_, rfl, ?_⟩
      rw [← ej, pa] at q
      exact q
    | some c =>
      rw [hj] at et pa
      have eb : plainB (sg t j) = decide (plain c) := by unfold plainB; rw [et]
      rw [eb]
      have hjl : j < (tl t).length := (List.getElem?_eq_some_iff.mp hj).1
      by_cases hp : plain c
      · rw [decide_eq_true hp]
        have pa' : plainLen ((tl t).drop j) = 1 + plainLen ((tl t).drop (j + 1)) := by
          rw [pa]
          exact if_pos hp
        refine iteT ⟨fun σ' H2 => ∃ m', m' < (tl t).length - j ∧ H2 = H' ∧ ∃ j : Nat, σ' = [some (.str t), some (.int (j : Int))] ∧ j + plainLen ((tl t).drop j) = n + plainLen ((tl t).drop n) ∧ m' = (tl t).length - j, fun _ _ h => h, ?_⟩
        refine ⟨_, rfl, (j : Int), 1, rfl, rfl, _, ?_, rfl, j + 1, rfl, by omega, rfl⟩
        omega
      · rw [decide_eq_false hp]
        have pa' : plainLen ((tl t).drop j) = 0 := by
          rw [pa]
          exact if_neg hp
        refine iteF ⟨_, rfl, ?_⟩
        rw [← ej, pa'] at q
        exact q
end
end Vl

set_option maxHeartbeats 4000000
namespace Vl
open PySem PySem.Spec PyProof.Rows L2 TL CwR PySem.StrLaws
abbrev sNumber : Stmt := top 11
abbrev sText : Stmt := top 12
theorem scNumber : FnScope ["text", "at", "first", "behind"] ["text", "at"] (defScope sNumber) := ⟨rfl, rfl, rfl, by decide +kernel, rfl, by decide +kernel, by decide +kernel⟩
theorem scText : FnScope ["text", "at", "pieces", "end"] ["text", "at"] (defScope sText) := ⟨rfl, rfl, rfl, by decide +kernel, rfl, by decide +kernel, by decide +kernel⟩
def spNumber : Sp := fun vs H Q _ => ∃ (t : Str) (k : Nat), vs = [.str t, .int (k : Int)] ∧ t.length ≤ sizeLine ∧ k ≤ 2 * sizeLine ∧ Q (.int ((k + numLen ((tl t).drop k) : Nat) : Int)) H
def spText : Sp := fun vs H Q _ => ∃ (t : Str) (k : Nat) (v : List Nat) (n : Nat), vs = [.str t, .int (k : Int)] ∧ t.length ≤ sizeLine ∧ txtM ((tl t).drop k) = .ok v n ∧
  ∀ H' p r, Same H H' → H p = none → tl r = v → H' p = some (.tup [.str r, .int ((k + n : Nat) : Int)]) → Q (.ref p) H'
/-- a figure between two -/
theorem fig_at {t lo hi : Str} {a b : Nat} (hlo : lo.cps.toList = [a]) (hhi : hi.cps.toList = [b]) (k : Nat) :
    (!decide ((sg t k).cps.toList < lo.cps.toList)) = (match (tl t)[k]? with | some c => decide (a ≤ c) | none => false) ∧ (!decide (hi.cps.toList < (sg t k).cps.toList)) = (match (tl t)[k]? with | some c => decide (c ≤ b) | none => true) := by
  have e : (sg t k).cps.toList = _ := tl_sg' t k
  rw [e, hlo, hhi]
  cases (tl t)[k]? with
  | none =>
    refine ⟨?_, ?_⟩
    · show (!decide (([] : List Nat) < [a])) = false
      have h : ([] : List Nat) < [a] := List.Lex.nil
      rw [decide_eq_true h]
      rfl
    · show (!decide ([b] < ([] : List Nat))) = true
      rw [decide_eq_false (by intro h; cases h)]
      rfl
  | some c =>
    refine ⟨?_, ?_⟩
    · show (!decide ([c] < [a])) = decide (a ≤ c)
      rw [lt1, ← decide_not]
      exact decide_eq_decide.mpr (by omega)
    · show (!decide ([b] < [c])) = decide (c ≤ b)
      rw [lt1, ← decide_not]
      exact decide_eq_decide.mpr (by omega)
theorem cnt_at (m : Nat) (l : List Nat) (k : Nat) : cnt (m + 1) (l.drop k) = (match l[k]? with | some c => (if 48 ≤ c ∧ c ≤ 57 then 1 + cnt m (l.drop (k + 1)) else 0) | none => 0) := by
  cases h : l[k]? with
  | none =>
    rw [List.drop_eq_nil_of_le (List.getElem?_eq_none_iff.mp h)]
    rfl
  | some c =>
    have hk : k < l.length := (List.getElem?_eq_some_iff.mp h).1
    rw [List.drop_eq_getElem_cons hk, (List.getElem?_eq_some_iff.mp h).2]
    rfl
theorem figs_at (l : List Nat) (k : Nat) : figs (l.drop k) = (match l[k]? with | some c => (if 49 ≤ c ∧ c ≤ 57 then 1 + cnt 39 (l.drop (k + 1)) else 0) | none => 0) := by
  cases h : l[k]? with
  | none =>
    rw [List.drop_eq_nil_of_le (List.getElem?_eq_none_iff.mp h)]
    rfl
  | some c =>
    have hk : k < l.length := (List.getElem?_eq_some_iff.mp h).1
    rw [List.drop_eq_getElem_cons hk, (List.getElem?_eq_some_iff.mp h).2]
    rfl
/-- a number's length from its first figure's place -/
theorem numLen_at (l : List Nat) (k : Nat) (h0 : l[k]? ≠ some 48) : numLen (l.drop k) = (if l[k]? = some 45 then (if figs (l.drop (k + 1)) = 0 then 0 else 1 + figs (l.drop (k + 1))) else figs (l.drop k)) := by
  cases h : l[k]? with
  | none =>
    rw [List.drop_eq_nil_of_le (List.getElem?_eq_none_iff.mp h), if_neg (by simp)]
    rfl
  | some c =>
    have hk : k < l.length := (List.getElem?_eq_some_iff.mp h).1
    have e : l.drop k = c :: l.drop (k + 1) := by rw [List.drop_eq_getElem_cons hk, (List.getElem?_eq_some_iff.mp h).2]
    rw [e]
    have hc : c ≠ 48 := fun z => h0 (by rw [h, z])
    show (if c = 48 then 1 else if c = 45 then (if figs (l.drop (k + 1)) = 0 then 0 else 1 + figs (l.drop (k + 1))) else figs (c :: l.drop (k + 1))) = _
    rw [if_neg hc]
    by_cases h5 : c = 45
    · subst h5
      rw [if_pos rfl, if_pos rfl]
    · rw [if_neg h5, if_neg (fun z => h5 (Option.some.inj z))]
section
variable {P : Program} {w : World} {K : PySem.W.Frag} {mg : Str → Option Value} {base : Heap}
theorem ok_number {f : Addr} {fd : FuncData} {k : Nat} (F : FnP K "_behind_number" sNumber f fd) (gM : ∃ t, mg "MOST_FIGURES" = some (.int 40 t)) : FnOk P w K mg base CX0 (k + 1) f fd ["text", "at"] spNumber := by
  obtain ⟨tm, gM⟩ := gM
  refine F.ok scNumber (fun vs H Q E h => ?_) (fun cdv A outer s H vs Q E hr h => ?_)
  · obtain ⟨t, n, rfl, _⟩ := h
    rfl
  · obtain ⟨t, n, rfl, hz, hn, q⟩ := h
    have hs := szl
    refine ⟨_, PSs.nox (pss_cons (ps_if (pt_cmpR op_eq (pe_slice sl_str (pv 0) (po_some (pv 1)) (po_some (pe_op op_add (pv 1) pe_int))) pe_str (nomark _)) (pss_one (ps_ret (pe_op op_add (pv 1) pe_int))) pss_nil)
      (C8.pss_cut (ps_set (i := 2) scNumber.nd rfl (.inl rfl) (pe_ifExp (pt_cmpR op_eq (pe_slice sl_str (pv 0) (po_some (pv 1)) (po_some (pe_op op_add (pv 1) pe_int))) pe_str (nomark _)) (pe_op op_add (pv 1) pe_int) (pv 1)))
      (pss_cons (ps_if (pt_not (pt_chain op_le_str op_le_str pe_str (pe_slice sl_str (pv 0) (po_some (pv 2)) (po_some (pe_op op_add (pv 2) pe_int))) pe_str)) (pss_one (ps_ret (pv 1))) pss_nil)
      (pss_cons (ps_set (i := 3) scNumber.nd rfl (.inl rfl) (pe_op op_add (pv 2) pe_int))
      (pss_cons (ps_while PassesOwn.never (PW.pt (pw_and (pt_cmpR op_lt (pv 3) (pe_op op_add (pv 2) (pe_glob (v := .int 40) (by rfl) gM ⟨_, rfl⟩)) (nomark _)) (pw_and1 (pt_chain op_le_str op_le_str pe_str (pe_slice sl_str (pv 0) (po_some (pv 3)) (po_some (pe_op op_add (pv 3) pe_int))) pe_str))))
        (pss_one (ps_aug (i := 3) scNumber.nd rfl (.inl rfl) pe_int ip_add)))
      (pss_one (ps_ret (pv 3)))))))), ?_⟩
    have t48 : tl (Str.ofString "0") = [48] := by decide +kernel
    have t45 : tl (Str.ofString "-") = [45] := by decide +kernel
    have c49 : (Str.ofString "1").cps.toList = [49] := by decide +kernel
    have c57 : (Str.ofString "9").cps.toList = [57] := by decide +kernel
    have c48 : (Str.ofString "0").cps.toList = [48] := by decide +kernel
    refine ⟨_, rfl, _, rfl, (n : Int), rfl, _, rfl, (n : Int), 1, rfl, rfl, (n : Int) + 1, rfl, t, rfl, hz, rfl, _, rfl, ite2 (fun e => ?_) (fun e => ?_)⟩
    · have e0 : (tl t)[n]? = some 48 := (sg_eq t48).mp (of_decide_eq_true e)
      have en : numLen ((tl t).drop n) = 1 := by
        have hk : n < (tl t).length := (List.getElem?_eq_some_iff.mp e0).1
        rw [List.drop_eq_getElem_cons hk, (List.getElem?_eq_some_iff.mp e0).2]
        rfl
      rw [en] at q
      exact ⟨_, rfl, (n : Int), 1, rfl, rfl, q⟩
    · have e0 : (tl t)[n]? ≠ some 48 := fun h => e (decide_eq_true ((sg_eq t48).mpr h))
      have en := numLen_at (tl t) n e0
      refine ⟨fun σ' H' => H' = H ∧ ∃ fst : Nat, σ' = [some (.str t), some (.int (n : Int)), some (.int (fst : Int)), none] ∧ fst ≤ n + 1 ∧ n ≤ fst ∧ numLen ((tl t).drop n) = (if figs ((tl t).drop fst) = 0 then 0 else fst - n + figs ((tl t).drop fst)), ?_, ?_⟩
      · refine ⟨_, rfl, _, rfl, (n : Int), rfl, _, rfl, (n : Int), 1, rfl, rfl, (n : Int) + 1, rfl, t, rfl, hz, rfl, _, rfl, ite2 (fun e => ?_) (fun e => ?_)⟩
        · have e1 : (tl t)[n]? = some 45 := (sg_eq t45).mp (of_decide_eq_true e)
          refine ⟨_, rfl, (n : Int), 1, rfl, rfl, rfl, n + 1, rfl, Nat.le_refl _, by omega, ?_⟩
          rw [en, if_pos e1, show n + 1 - n = 1 by omega]
        · have e1 : (tl t)[n]? ≠ some 45 := fun h => e (decide_eq_true ((sg_eq t45).mpr h))
          refine ⟨_, rfl, rfl, n, rfl, by omega, Nat.le_refl _, ?_⟩
          rw [en, if_neg e1, Nat.sub_self]
          by_cases hf : figs ((tl t).drop n) = 0
          · rw [if_pos hf, hf]
          · rw [if_neg hf, Nat.zero_add]
      · rintro σ' H' ⟨rfl, fst, rfl, f1, f0, ef⟩
        obtain ⟨g1, g2⟩ := fig_at (t := t) c49 c57 fst
        have fa := figs_at (tl t) fst
        refine ⟨_, rfl, _, rfl, (fst : Int), rfl, _, rfl, (fst : Int), 1, rfl, rfl, (fst : Int) + 1, rfl, t, rfl, hz, _, sg t fst, rfl, rfl, _, rfl, ?_⟩
        have back : figs ((tl t).drop fst) = 0 → Q (.int (n : Int)) H' := fun h => by
          rw [ef, if_pos h] at q
          exact q
        rw [g1]
        cases hc : (tl t)[fst]? with
        | none =>
          rw [hc] at fa
          refine iteF ⟨_, rfl, iteT ⟨_, rfl, back fa⟩⟩
        | some c =>
          rw [hc] at fa g2
          have fa' : figs ((tl t).drop fst) = (if 49 ≤ c ∧ c ≤ 57 then 1 + cnt 39 ((tl t).drop (fst + 1)) else 0) := fa
          show if decide (49 ≤ c) = true then _ else _
          by_cases h1 : 49 ≤ c
          · rw [decide_eq_true h1]
            refine iteT ⟨sg t fst, _, rfl, rfl, _, rfl, ?_⟩
            rw [g2]
            show if (!decide (c ≤ 57)) = true then _ else _
            by_cases h2 : c ≤ 57
            · refine iteNS h2 ?_
              rw [if_pos ⟨h1, h2⟩] at fa'
              rw [fa', if_neg (by omega)] at ef
              refine ⟨_, rfl, (fst : Int), 1, rfl, rfl, ?_⟩
              refine ⟨fun m σ H2 => H2 = H' ∧ ∃ j : Nat, σ = [some (.str t), some (.int (n : Int)), some (.int (fst : Int)), some (.int ((fst + 1 + j : Nat) : Int))] ∧ j ≤ 39 ∧ j + cnt (39 - j) ((tl t).drop (fst + 1 + j)) = cnt 39 ((tl t).drop (fst + 1)) ∧ m = 39 - j, ⟨39, rfl, 0, rfl, by omega, by simp, rfl⟩, ?_⟩
              rintro m σ H2 ⟨rfl, j, rfl, j39, ej, rfl⟩
              have fin : cnt (39 - j) ((tl t).drop (fst + 1 + j)) = 0 → Q (.int ((fst + 1 + j : Nat) : Int)) H2 := fun h => by
                have e1 : n + numLen ((tl t).drop n) = fst + 1 + j := by omega
                rw [e1] at q
                exact q
              refine ⟨_, rfl, _, rfl, (fst : Int), 40, rfl, rfl, _, _, rfl, rfl, _, rfl, ite2 (fun e => ?_) (fun e => ?_)⟩
              · have hj : j < 39 := by
                  have := of_decide_eq_true e
                  omega
                obtain ⟨k1, k2⟩ := fig_at (t := t) c48 c57 (fst + 1 + j)
                have ca := cnt_at (38 - j) (tl t) (fst + 1 + j)
                rw [show 38 - j + 1 = 39 - j by omega] at ca
                refine ⟨_, rfl, _, rfl, ((fst + 1 + j : Nat) : Int), rfl, _, rfl, ((fst + 1 + j : Nat) : Int), 1, rfl, rfl, ((fst + 1 + j : Nat) : Int) + 1, rfl, t, rfl, hz, _, sg t (fst + 1 + j), rfl, rfl, _, rfl, ?_⟩
                rw [k1]
                cases hd : (tl t)[fst + 1 + j]? with
                | none =>
                  rw [hd] at ca
                  exact iteF ⟨_, rfl, iteF ⟨_, rfl, fin ca⟩⟩
                | some c2 =>
                  rw [hd] at ca k2
                  have ca' : cnt (39 - j) ((tl t).drop (fst + 1 + j)) = (if 48 ≤ c2 ∧ c2 ≤ 57 then 1 + cnt (38 - j) ((tl t).drop (fst + 1 + j + 1)) else 0) := ca
                  show if decide (48 ≤ c2) = true then _ else _
                  by_cases q1 : 48 ≤ c2
                  · rw [decide_eq_true q1]
                    refine iteT ⟨sg t (fst + 1 + j), _, rfl, rfl, _, rfl, ?_⟩
                    rw [k2]
                    show if decide (c2 ≤ 57) = true then _ else _
                    by_cases q2 : c2 ≤ 57
                    · rw [if_pos ⟨q1, q2⟩] at ca'
                      rw [decide_eq_true q2]
                      refine iteT ⟨fun σ' H3 => ∃ m', m' < 39 - j ∧ H3 = H2 ∧ ∃ j : Nat, σ' = [some (.str t), some (.int (n : Int)), some (.int (fst : Int)), some (.int ((fst + 1 + j : Nat) : Int))] ∧ j ≤ 39 ∧ j + cnt (39 - j) ((tl t).drop (fst + 1 + j)) = cnt 39 ((tl t).drop (fst + 1)) ∧ m' = 39 - j, fun _ _ h => h, ?_⟩
                      refine ⟨_, rfl, ((fst + 1 + j : Nat) : Int), 1, rfl, rfl, 39 - (j + 1), by omega, rfl, j + 1, rfl, by omega, ?_, rfl⟩
                      rw [show 39 - (j + 1) = 38 - j by omega, show fst + 1 + (j + 1) = fst + 1 + j + 1 by omega]
                      omega
                    · rw [if_neg (fun h => q2 h.2)] at ca'
                      rw [decide_eq_false q2]
                      exact iteF ⟨_, rfl, fin ca'⟩
                  · rw [if_neg (fun h => q1 h.1)] at ca'
                    rw [decide_eq_false q1]
                    exact iteF ⟨_, rfl, iteF ⟨_, rfl, fin ca'⟩⟩
              · have hj : j = 39 := by
                  rcases Nat.lt_or_ge j 39 with h | h
                  · exact absurd (decide_eq_true (show (((fst + 1 + j : Nat) : Int)) < (fst : Int) + 40 by omega)) e
                  · omega
                refine iteF ⟨_, rfl, fin ?_⟩
                rw [hj]
                rfl
            · rw [decide_eq_false h2]
              rw [if_neg (fun h => h2 h.2)] at fa'
              exact iteT ⟨_, rfl, back fa'⟩
          · rw [decide_eq_false h1]
            rw [if_neg (fun h => h1 h.1)] at fa'
            exact iteF ⟨_, rfl, iteT ⟨_, rfl, back fa'⟩⟩
end
end Vl

set_option maxHeartbeats 4000000
namespace Vl
open PySem PySem.Spec PyProof.Rows L2 TL CwR PySem.StrLaws
/-- up to the first sign that isn't plain -/
theorem txtM_split : ∀ (l v : List Nat) (n : Nat), txtM l = .ok v n → ∃ r, l.drop (plainLen l) = 34 :: r ∧
    ((r.head? ≠ some 34 ∧ v = l.take (plainLen l) ∧ n = plainLen l + 1) ∨ ∃ r' v' n', r = 34 :: r' ∧ txtM r' = .ok v' n' ∧ v = l.take (plainLen l) ++ 34 :: v' ∧ n = plainLen l + 2 + n')
  | [], v, n, h => by cases h
  | [c], v, n, h => by
    have h' : (if c = 34 then TR.ok [] 1 else if plain c then .err 1 else .err 0) = .ok v n := h
    by_cases h1 : c = 34
    · rw [if_pos h1] at h'
      cases h'
      subst h1
      have e : plainLen [34] = 0 := rfl
      rw [e]
      exact ⟨[], rfl, .inl ⟨by simp, rfl, rfl⟩⟩
    · rw [if_neg h1] at h'
      by_cases h2 : plain c
      · rw [if_pos h2] at h'; cases h'
      · rw [if_neg h2] at h'; cases h'
  | c :: e :: r, v, n, h => by
    have h' : (if c = 34 then (if e = 34 then (txtM r).up [34] 2 else TR.ok [] 1) else if plain c then (txtM (e :: r)).up [c] 1 else .err 0) = .ok v n := h
    by_cases h1 : c = 34
    · rw [if_pos h1] at h'
      subst h1
      have ep : plainLen (34 :: e :: r) = 0 := rfl
      rw [ep]
      by_cases h2 : e = 34
      · rw [if_pos h2] at h'
        subst h2
        cases ht : txtM r with
        | err m => rw [ht] at h'; cases h'
        | ok v' n' =>
          rw [ht] at h'
          cases h'
          exact ⟨34 :: r, rfl, .inr ⟨r, v', n', rfl, ht, rfl, by omega⟩⟩
      · rw [if_neg h2] at h'
        cases h'
        exact ⟨e :: r, rfl, .inl ⟨fun z => h2 (Option.some.inj z), rfl, rfl⟩⟩
    · rw [if_neg h1] at h'
      by_cases h2 : plain c
      · rw [if_pos h2] at h'
        have ep : plainLen (c :: e :: r) = plainLen (e :: r) + 1 := by
          show (if plain c then 1 + plainLen (e :: r) else 0) = _
          rw [if_pos h2]
          omega
        cases ht : txtM (e :: r) with
        | err m => rw [ht] at h'; cases h'
        | ok v' n' =>
          rw [ht] at h'
          cases h'
          obtain ⟨r2, e2, q⟩ := txtM_split (e :: r) v' n' ht
          rw [ep]
          refine ⟨r2, e2, ?_⟩
          rcases q with ⟨q1, q2, q3⟩ | ⟨r', v2, n2, q1, q2, q3, q4⟩
          · exact .inl ⟨q1, by rw [q2]; rfl, by omega⟩
          · exact .inr ⟨r', v2, n2, q1, q2, by rw [q3]; rfl, by omega⟩
      · rw [if_neg h2] at h'; cases h'
theorem txtM_len : ∀ (l v : List Nat) (n : Nat), txtM l = .ok v n → v.length + 1 ≤ n ∧ n ≤ l.length
  | [], v, n, h => by cases h
  | [c], v, n, h => by
    have h' : (if c = 34 then TR.ok [] 1 else if plain c then .err 1 else .err 0) = .ok v n := h
    by_cases h1 : c = 34
    · rw [if_pos h1] at h'
      cases h'
      exact ⟨Nat.le_refl 1, Nat.le_refl 1⟩
    · rw [if_neg h1] at h'
      by_cases h2 : plain c
      · rw [if_pos h2] at h'; cases h'
      · rw [if_neg h2] at h'; cases h'
  | c :: e :: r, v, n, h => by
    have h' : (if c = 34 then (if e = 34 then (txtM r).up [34] 2 else TR.ok [] 1) else if plain c then (txtM (e :: r)).up [c] 1 else .err 0) = .ok v n := h
    have el : (c :: e :: r).length = r.length + 2 := rfl
    by_cases h1 : c = 34
    · rw [if_pos h1] at h'
      by_cases h2 : e = 34
      · rw [if_pos h2] at h'
        cases ht : txtM r with
        | err m => rw [ht] at h'; cases h'
        | ok v' n' =>
          rw [ht] at h'
          cases h'
          have := txtM_len r v' n' ht
          rw [el]
          refine ⟨?_, by omega⟩
          show v'.length + 1 + 1 ≤ _
          omega
      · rw [if_neg h2] at h'
        cases h'
        rw [el]
        exact ⟨Nat.le_refl 1, by omega⟩
    · rw [if_neg h1] at h'
      by_cases h2 : plain c
      · rw [if_pos h2] at h'
        cases ht : txtM (e :: r) with
        | err m => rw [ht] at h'; cases h'
        | ok v' n' =>
          rw [ht] at h'
          cases h'
          have := txtM_len (e :: r) v' n' ht
          have e2 : (e :: r).length = r.length + 1 := rfl
          rw [el]
          refine ⟨?_, by omega⟩
          show v'.length + 1 + 1 ≤ _
          omega
      · rw [if_neg h2] at h'; cases h'
section
variable {P : Program} {w : World} {K : PySem.W.Frag} {mg : Str → Option Value} {base : Heap}
theorem ok_text {f fB : Addr} {fd fdB : FuncData} {k : Nat} (F : FnP K "_read_text" sText f fd) (FB : FnP K "_behind_plain_signs" sBehind fB fdB) (gB : mg "_behind_plain_signs" = some (.ref fB)) (GB : FnOk P w K mg base CX0 k fB fdB ["text", "at"] spBehind) : FnOk P w K mg base CX0 (k + 1) f fd ["text", "at"] spText := by
  have bB : Binds K fdB ["text", "at"] [] := FB.bindsN fun _ _ _ _ _ _ us hl => match us, hl with | [_, _], _ => rfl
  refine F.ok scText (fun vs H Q E h => ?_) (fun cdv A outer s H vs Q E hr h => ?_)
  · obtain ⟨t, n, v, m, rfl, _⟩ := h
    rfl
  · obtain ⟨t, k0, v, n, rfl, hz, ht, q⟩ := h
    have hs := szl
    have hl := len_tl t
    have t34 : tl (Str.ofString "\"") = [34] := by decide +kernel
    have l34 : (Str.ofString "\"").length = 1 := by decide +kernel
    refine ⟨_, PSs.nox (pss_cons (ps_set (i := 2) scText.nd rfl (.inl rfl) (pe_lst pa_nil))
      (pss_one (ps_while PassesOwn.never (pt_val pe_bl) (pss_cons (ps_set (i := 3) scText.nd rfl (.inl rfl) (pe_call GB hr (by rfl) gB FB.kp bB .nil pass0 (pa_cons (pv 0) (pa_cons (pv 1) pa_nil))))
      (pss_cons (ps_expr (pe_bm PySem.F.plainAttrs_list PySem.F.slot_list_append PySem.F.type_list_append mt_append (pv 2) (pa_cons (pe_slice sl_str (pv 0) (po_some (pv 1)) (po_some (pv 3))) pa_nil)))
      (pss_cons (ps_if (pt_cmpR op_ne (pe_slice sl_str (pv 0) (po_some (pv 3)) (po_some (pe_op op_add (pv 3) (pe_int)))) (pe_str) (nomark _)) (pss_one ps_never) pss_nil)
      (pss_cons (ps_if (pt_cmpR op_ne (pe_slice sl_str (pv 0) (po_some (pe_op op_add (pv 3) (pe_int))) (po_some (pe_op op_add (pv 3) (pe_int)))) (pe_str) (nomark _)) (pss_one (ps_ret (pe_tup (pa_cons (pe_join pe_str (pv 2)) (pa_cons (pe_op op_add (pv 3) (pe_int)) pa_nil))))) pss_nil)
      (pss_cons (ps_expr (pe_bm PySem.F.plainAttrs_list PySem.F.slot_list_append PySem.F.type_list_append mt_append (pv 2) (pa_cons (pe_str) pa_nil)))
      (pss_one (ps_set (i := 1) scText.nd rfl (.inl rfl) (pe_op op_add (pv 3) (pe_int)))))))))))), ?_⟩
    refine ⟨Nat.zero_le _, fun pa npa => ?_⟩
    refine ⟨fun m σ H' => ∃ (j : Nat) (ps : List Str) (v' : List Nat) (n' : Nat) (y3 : Option V), σ = [some (.str t), some (.int (j : Int)), some (.ref pa), y3] ∧ H' pa = some (.lst (ps.map V.str)) ∧ Same H H' ∧ txtM ((tl t).drop j) = .ok v' n' ∧ flat ps ++ v' = v ∧ j + n' = k0 + n ∧ ps.length ≤ j ∧ m = n',
      ⟨n, k0, [], v, n, none, rfl, upd_same, same_upd npa, ht, rfl, rfl, Nat.zero_le _, rfl⟩, ?_⟩
    rintro m σ H' ⟨j, ps, v', n', y3, rfl, hp, sm, htj, hfl, hjn, hpl, rfl⟩
    obtain ⟨r, hr1, hcase⟩ := txtM_split _ _ _ htj
    have hlen := txtM_len _ _ _ htj
    rw [List.length_drop] at hlen
    have hpl2 : plainLen ((tl t).drop j) ≤ (tl t).length - j := by
      have := plainLen_le ((tl t).drop j)
      rw [List.length_drop] at this
      exact this
    refine ⟨_, rfl, iteT ⟨fun σ' H2 => ∃ m', m' < m ∧ ∃ (j : Nat) (ps : List Str) (v' : List Nat) (n' : Nat) (y3 : Option V), σ' = [some (.str t), some (.int (j : Int)), some (.ref pa), y3] ∧ H2 pa = some (.lst (ps.map V.str)) ∧ Same H H2 ∧ txtM ((tl t).drop j) = .ok v' n' ∧ flat ps ++ v' = v ∧ j + n' = k0 + n ∧ ps.length ≤ j ∧ m' = n', fun _ _ h => h, ?_⟩⟩
    have hvl := txtM_len _ _ _ ht
    rw [List.length_drop] at hvl
    obtain ⟨e, he⟩ : ∃ e, e = j + plainLen ((tl t).drop j) := ⟨_, rfl⟩
    have hde : (tl t).drop e = 34 :: r := by rw [he, ← List.drop_drop]; exact hr1
    have he0 : (tl t)[e]? = some 34 := drop_at hde
    have hde1 : (tl t).drop (e + 1) = r := drop_next (p := [34]) hde
    have hpc : tl (cutS t (some (j : Int)) (some (e : Int))) = ((tl t).drop j).take (plainLen ((tl t).drop j)) := by
      rw [tl_cut, show e - j = plainLen ((tl t).drop j) by omega]
    refine ⟨_, rfl, _, rfl, t, j, rfl, hz, ?_⟩
    rw [← he]
    refine ⟨_, rfl, .inl ⟨rfl, _, SqL.of hp⟩, _, rfl, _, rfl, (j : Int), rfl, _, rfl, (e : Int), rfl, t, rfl, hz, pa, _, _, rfl, rfl, hp, by rw [List.length_map]; omega, ?_⟩
    have hp1 : upd H' pa (.lst (ps.map V.str ++ [V.str (cutS t (some (j : Int)) (some (e : Int)))])) pa = some (.lst ((ps ++ [cutS t (some (j : Int)) (some (e : Int))]).map V.str)) := by rw [upd_same, List.map_append]; rfl
    have sm1 : Same H (upd H' pa (.lst (ps.map V.str ++ [V.str (cutS t (some (j : Int)) (some (e : Int)))]))) := same_put sm npa
    generalize upd H' pa (.lst (ps.map V.str ++ [V.str (cutS t (some (j : Int)) (some (e : Int)))])) = H1 at hp1 sm1
    refine ⟨_, rfl, _, rfl, (e : Int), rfl, _, rfl, (e : Int), 1, rfl, rfl, (e : Int) + 1, rfl, t, rfl, hz, rfl, _, rfl, iteNS ((sg_eq t34).mpr he0) ?_⟩
    refine ⟨_, rfl, _, rfl, (e : Int), 1, rfl, rfl, ((e + 1 : Nat) : Int), rfl, _, rfl, (e : Int), 2, rfl, rfl, ((e + 1 : Nat) : Int) + 1, rfl, t, rfl, hz, rfl, _, rfl, ?_⟩
    have hsg : (V.str (sg t (e + 1)) = V.str (Str.ofString "\"")) ↔ r.head? = some 34 := by
      rw [sg_eq t34, ← hde1, ← List.head?_drop]
    show if (!decide (V.str (sg t (e + 1)) = V.str (Str.ofString "\""))) = true then _ else _
    rcases hcase with ⟨q1, q2, q3⟩ | ⟨r', v2, n2, q1, q2, q3, q4⟩
    · have hd : decide (V.str (sg t (e + 1)) = V.str (Str.ofString "\"")) = false := decide_eq_false (fun h => q1 (hsg.mp h))
      rw [hd]
      refine iteT ?_
      have hfin : flat (ps ++ [cutS t (some (j : Int)) (some (e : Int))]) = v := by
        rw [flat_snoc, hpc, ← q2]
        exact hfl
      refine ⟨⟨_, rfl⟩, _, rfl, Str.ofString "", pa, ps ++ [cutS t (some (j : Int)) (some (e : Int))], rfl, rfl, .inl (SqL.of hp1), ?_, _, rfl, (e : Int), 1, rfl, rfl, by show 2 ≤ sizeLine; omega, fun p np => ?_⟩
      · have l0 : (Str.ofString "").length = 0 := by decide +kernel
        rw [l0, flat_len, hfin]
        omega
      · refine q _ p (Txt.join (Str.ofString "") (ps ++ [cutS t (some (j : Int)) (some (e : Int))])) (sm1.trans (same_upd np)) (sm1.free np) ?_ ?_
        · have t0 : tl (Str.ofString "") = [] := by decide +kernel
          rw [join_eq, tl_join, t0, joinL_nil]
          exact hfin
        · rw [upd_same]
          have e1 : ((k0 + n : Nat) : Int) = (e : Int) + 1 := by omega
          rw [e1]
    · have hd : decide (V.str (sg t (e + 1)) = V.str (Str.ofString "\"")) = true := decide_eq_true (hsg.mpr (by rw [q1]; rfl))
      rw [hd]
      refine iteF ?_
      refine ⟨_, rfl, .inl ⟨rfl, _, SqL.of hp1⟩, pa, _, _, rfl, rfl, hp1, by rw [List.length_map, List.length_append]; show ps.length + 1 < sizeLine; omega, ?_⟩
      have hde2 : (tl t).drop (e + 2) = r' := by
        rw [q1] at hde1
        exact drop_next (p := [34]) hde1
      refine ⟨_, rfl, (e : Int), 2, rfl, rfl, n2, by omega, e + 2, ps ++ [cutS t (some (j : Int)) (some (e : Int))] ++ [Str.ofString "\""], v2, n2, _, rfl, ?_, same_put sm1 npa, by rw [hde2]; exact q2, ?_, by omega, ?_, rfl⟩
      · rw [upd_same, List.map_append (l₂ := [Str.ofString "\""])]
        rfl
      · rw [flat_snoc, flat_snoc, hpc, t34, ← hfl, q3]
        simp
      · rw [List.length_append, List.length_append]
        show ps.length + 1 + 1 ≤ e + 2
        omega
end
end Vl

set_option maxHeartbeats 4000000
namespace Vl
open PySem PySem.Spec PyProof.Rows L2 TL CwR PySem.StrLaws
abbrev sReadFlat : Stmt := top 10
abbrev sClose : Stmt := top 9
abbrev sRead : Stmt := top 8
theorem scReadFlat : FnScope ["text", "at", "sign", "behind"] ["text", "at"] (defScope sReadFlat) := ⟨rfl, rfl, rfl, by decide +kernel, rfl, by decide +kernel, by decide +kernel⟩
theorem scClose : FnScope ["text", "at", "lists", "closed"] ["text", "at", "lists"] (defScope sClose) := ⟨rfl, rfl, rfl, by decide +kernel, rfl, by decide +kernel, by decide +kernel⟩
theorem scRead : FnScope ["text", "lists", "at", "value"] ["text"] (defScope sRead) := ⟨rfl, rfl, rfl, by decide +kernel, rfl, by decide +kernel, by decide +kernel⟩
structure Signs (K : PySem.W.Frag) (w : World) (mg : Str → Option Value) : Prop where
  ex : ∃ (d : Addr) (es : Array DictEntry) (n : Nat), KDict K w d es n ∧ mg "SIGNS" = some (.ref d) ∧ (∃ u, PySem.W.nsIn K d "-" = some (some u) ∧ RelV .non u) ∧ (∃ u, PySem.W.nsIn K d "+" = some (some u) ∧ RelV (.bl true) u) ∧ (∃ u, PySem.W.nsIn K d "!" = some (some u) ∧ RelV (.bl false) u)
def spReadFlat : Sp := fun vs H Q _ => ∃ (t : Str) (k n : Nat) (d : PyData), vs = [.str t, .int (k : Int)] ∧ t.length ≤ 10000000 ∧ k ≤ t.length ∧ Flat ((tl t).drop k) d n ∧
  ∀ H' p x, Same H H' → H p = none → H' p = some (.tup [x, .int ((k + n : Nat) : Int)]) → Vd H' x d → Q (.ref p) H'
section
variable {P : Program} {w : World} {K : PySem.W.Frag} {mg : Str → Option Value} {base : Heap}
theorem ok_readflat {f fT fN : Addr} {fd fdT fdN : FuncData} {k : Nat} (F : FnP K "_read_flat" sReadFlat f fd) (FT : FnP K "_read_text" sText fT fdT) (gT : mg "_read_text" = some (.ref fT)) (GT : FnOk P w K mg base CX0 k fT fdT ["text", "at"] spText)
    (FN : FnP K "_behind_number" sNumber fN fdN) (gN : mg "_behind_number" = some (.ref fN)) (GN : FnOk P w K mg base CX0 k fN fdN ["text", "at"] spNumber) (S : Signs K w mg) (mi : mg "int" = none) :
    FnOk P w K mg base CX0 (k + 1) f fd ["text", "at"] spReadFlat := by
  have bT : Binds K fdT ["text", "at"] [] := FT.bindsN fun _ _ _ _ _ _ us hl => match us, hl with | [_, _], _ => rfl
  have bN : Binds K fdN ["text", "at"] [] := FN.bindsN fun _ _ _ _ _ _ us hl => match us, hl with | [_, _], _ => rfl
  obtain ⟨dS, es, nS, D, gS, ⟨u1, e1, r1⟩, ⟨u2, e2, r2⟩, ⟨u3, e3, r3⟩⟩ := S.ex
  refine F.ok scReadFlat (fun vs H Q E h => ?_) (fun cdv A outer s H vs Q E hr h => ?_)
  · obtain ⟨t, k, n, d, rfl, _⟩ := h
    rfl
  · obtain ⟨t, k0, n, d, rfl, hz, hk, hf, q⟩ := h
    have hs := szl
    have t34 : tl (Str.ofString "\"") = [34] := by decide +kernel
    refine ⟨_, PSs.nox (pss_cons (ps_set (i := 2) scReadFlat.nd rfl (.inl rfl) (pe_slice sl_str (pv 0) (po_some (pv 1)) (po_some (pe_op op_add (pv 1) (pe_int)))))
      (pss_cons (ps_if (pt_cmpR op_eq (pv 2) (pe_str) (nomark _)) (pss_one (ps_ret (pe_call GT hr (by rfl) gT FT.kp bT .nil pass0 (pa_cons (pv 0) (pa_cons (pe_op op_add (pv 1) (pe_int)) pa_nil))))) pss_nil)
      (pss_cons (ps_set (i := 3) scReadFlat.nd rfl (.inl rfl) (pe_call GN hr (by rfl) gN FN.kp bN .nil pass0 (pa_cons (pv 0) (pa_cons (pv 1) pa_nil))))
      (pss_cons (ps_if (pt_cmpR op_gt (pv 3) (pv 1) (nomark _)) (pss_one (ps_ret (pe_tup (pa_cons (pe_callTy call_int_str (by rfl) mi (by decide +kernel) (pa_cons (pe_slice sl_str (pv 0) (po_some (pv 1)) (po_some (pv 3))) pa_nil)) (pa_cons (pv 3) pa_nil))))) pss_nil)
      (pss_cons (ps_if (pt_cmpR (op_in_kd D) (pv 2) (pe_glob (v := .ref dS) (by rfl) gS rfl) (by rfl)) (pss_one (ps_ret (pe_tup (pa_cons (pe_ix (ix_kd D) (pe_glob (v := .ref dS) (by rfl) gS rfl) (pv 2) (fun _ _ => rfl)) (pa_cons (pe_op op_add (pv 1) (pe_int)) pa_nil))))) pss_nil)
      (pss_one (ps_never))))))), ?_⟩
    refine ⟨_, rfl, _, rfl, (k0 : Int), rfl, _, rfl, (k0 : Int), 1, rfl, rfl, (k0 : Int) + 1, rfl, t, rfl, by omega, ?_⟩
    refine ⟨_, rfl, rfl, _, rfl, ?_⟩
    show if decide (V.str (sg t k0) = V.str (Str.ofString "\"")) = true then _ else _
    have dq : decide (V.str (sg t k0) = V.str (Str.ofString "\"")) = decide ((tl t)[k0]? = some 34) := decide_eq_decide.mpr (sg_eq t34)
    rw [dq]
    obtain ⟨l, hl⟩ : ∃ l, (tl t).drop k0 = l := ⟨_, rfl⟩
    rw [hl] at hf
    cases hf with
    | txt ht =>
      rename_i r v n'
      have hc : (tl t)[k0]? = some 34 := drop_at hl
      have hd : decide ((tl t)[k0]? = some 34) = true := decide_eq_true hc
      rw [hd]
      have hl1 : (tl t).drop (k0 + 1) = r := drop_next (p := [34]) hl
      refine iteT ⟨_, rfl, _, rfl, (k0 : Int), 1, rfl, rfl, t, k0 + 1, v, n', rfl, by omega, by rw [hl1]; exact ht, fun H' p z sm np hz2 hp => ?_⟩
      have ez : (⟨v.toArray⟩ : Str) = z := ext_tl hz2.symm
      rw [ez] at q
      refine q H' p (.str z) sm np ?_ (.str z)
      rw [hp]
      congr 6
      omega
    | num h34 hnl hn0 hn41 hint =>
      rename_i i
      have hc : (tl t)[k0]? ≠ some 34 := by rw [← List.head?_drop, hl]; exact h34
      have hd : decide ((tl t)[k0]? = some 34) = false := decide_eq_false hc
      rw [hd]
      refine iteF ⟨_, rfl, _, rfl, t, k0, rfl, by omega, by omega, ?_⟩
      rw [hl, hnl]
      refine ⟨_, rfl, _, rfl, ((k0 + n : Nat) : Int), (k0 : Int), rfl, rfl, _, rfl, ?_⟩
      have hd2 : decide ((k0 : Int) < ((k0 + n : Nat) : Int)) = true := decide_eq_true (by omega)
      rw [hd2]
      have hcut : cutS t (some (k0 : Int)) (some ((k0 + n : Nat) : Int)) = ⟨(l.take n).toArray⟩ := ext_tl (by
        rw [tl_cut, hl, show k0 + n - k0 = n by omega])
      refine iteT ⟨_, rfl, _, rfl, (k0 : Int), rfl, _, rfl, ((k0 + n : Nat) : Int), rfl, t, rfl, by omega, _, i, rfl, by rw [hcut]; exact hint, ?_, _, rfl, by show 2 ≤ sizeLine; omega, fun p np => ?_⟩
      · rw [len_tl, tl_cut, List.length_take]
        omega
      · exact q _ p (.int i) (same_upd np) np upd_same (.int i)
    | minus hn =>
      rename_i r
      have hc : (tl t)[k0]? = some 45 := drop_at hl
      have hd : decide ((tl t)[k0]? = some 34) = false := decide_eq_false (by rw [hc]; intro z; cases z)
      rw [hd]
      have hsg : sg t k0 = Str.ofString "-" := ext_tl (by rw [tl_sg', hc]; decide +kernel)
      refine iteF ⟨_, rfl, _, rfl, t, k0, rfl, by omega, by omega, ?_⟩
      have hnum : numLen (45 :: r) = 0 := hn
      rw [hl, hnum]
      refine ⟨_, rfl, _, rfl, ((k0 + 0 : Nat) : Int), (k0 : Int), rfl, rfl, _, rfl, ?_⟩
      have hd2 : decide ((k0 : Int) < ((k0 + 0 : Nat) : Int)) = false := decide_eq_false (by omega)
      rw [hd2]
      refine iteF ⟨_, rfl, sg t k0, some u1, rfl, rfl, by rw [hsg]; exact e1, _, rfl, iteT ?_⟩
      refine ⟨_, rfl, sg t k0, u1, .non, rfl, rfl, by rw [hsg]; exact e1, r1, _, rfl, (k0 : Int), 1, rfl, rfl, by show 2 ≤ sizeLine; omega, fun p np => ?_⟩
      exact q _ p .non (same_upd np) np upd_same .non
    | plus =>
      rename_i r
      have hc : (tl t)[k0]? = some 43 := drop_at hl
      have hd : decide ((tl t)[k0]? = some 34) = false := decide_eq_false (by rw [hc]; intro z; cases z)
      rw [hd]
      have hsg : sg t k0 = Str.ofString "+" := ext_tl (by rw [tl_sg', hc]; decide +kernel)
      refine iteF ⟨_, rfl, _, rfl, t, k0, rfl, by omega, by omega, ?_⟩
      have hnum : numLen (43 :: r) = 0 := by simp [numLen, figs]
      rw [hl, hnum]
      refine ⟨_, rfl, _, rfl, ((k0 + 0 : Nat) : Int), (k0 : Int), rfl, rfl, _, rfl, ?_⟩
      have hd2 : decide ((k0 : Int) < ((k0 + 0 : Nat) : Int)) = false := decide_eq_false (by omega)
      rw [hd2]
      refine iteF ⟨_, rfl, sg t k0, some u2, rfl, rfl, by rw [hsg]; exact e2, _, rfl, iteT ?_⟩
      refine ⟨_, rfl, sg t k0, u2, (.bl true), rfl, rfl, by rw [hsg]; exact e2, r2, _, rfl, (k0 : Int), 1, rfl, rfl, by show 2 ≤ sizeLine; omega, fun p np => ?_⟩
      exact q _ p (.bl true) (same_upd np) np upd_same (.bl true)
    | bang =>
      rename_i r
      have hc : (tl t)[k0]? = some 33 := drop_at hl
      have hd : decide ((tl t)[k0]? = some 34) = false := decide_eq_false (by rw [hc]; intro z; cases z)
      rw [hd]
      have hsg : sg t k0 = Str.ofString "!" := ext_tl (by rw [tl_sg', hc]; decide +kernel)
      refine iteF ⟨_, rfl, _, rfl, t, k0, rfl, by omega, by omega, ?_⟩
      have hnum : numLen (33 :: r) = 0 := by simp [numLen, figs]
      rw [hl, hnum]
      refine ⟨_, rfl, _, rfl, ((k0 + 0 : Nat) : Int), (k0 : Int), rfl, rfl, _, rfl, ?_⟩
      have hd2 : decide ((k0 : Int) < ((k0 + 0 : Nat) : Int)) = false := decide_eq_false (by omega)
      rw [hd2]
      refine iteF ⟨_, rfl, sg t k0, some u3, rfl, rfl, by rw [hsg]; exact e3, _, rfl, iteT ?_⟩
      refine ⟨_, rfl, sg t k0, u3, (.bl false), rfl, rfl, by rw [hsg]; exact e3, r3, _, rfl, (k0 : Int), 1, rfl, rfl, by show 2 ≤ sizeLine; omega, fun p np => ?_⟩
      exact q _ p (.bl false) (same_upd np) np upd_same (.bl false)
end
end Vl

set_option maxHeartbeats 4000000
namespace Vl
open PySem PySem.Spec PyProof.Rows L2 TL CwR PySem.StrLaws
/-! ### lists of lists -/
inductive Sk (H : Hp) : List Addr → List (List PyData) → Prop
  | nil : Sk H [] []
  | cons {a : Addr} {as : List Addr} {xs : List V} {ds : List PyData} {st : List (List PyData)} : H a = some (.lst xs) → VdAll H xs ds → a ∉ as → Sk H as st → Sk H (a :: as) (ds :: st)
theorem Sk.len {H : Hp} {as : List Addr} {st : List (List PyData)} (h : Sk H as st) : as.length = st.length := by
  induction h with
  | nil => rfl
  | cons _ _ _ _ ih => exact congrArg Nat.succ ih
theorem Sk.put {H H' : Hp} {as : List Addr} {st : List (List PyData)} (h : Sk H as st) (k : KeepT H H') (e : ∀ b ∈ as, H' b = H b) : Sk H' as st := by
  induction h with
  | nil => exact .nil
  | cons h1 h2 h3 _ ih => exact .cons ((e _ (List.mem_cons_self ..)).trans h1) (h2.keep k) h3 (ih fun b hb => e b (List.mem_cons_of_mem _ hb))
theorem Sk.is {H : Hp} {as : List Addr} {st : List (List PyData)} (h : Sk H as st) : ∀ b ∈ as, ∃ xs, H b = some (.lst xs) := by
  induction h with
  | nil => intro b hb; cases hb
  | cons h1 _ _ _ ih =>
    intro b hb
    rcases List.mem_cons.mp hb with e | hb
    · rw [e]; exact ⟨_, h1⟩
    · exact ih b hb
/-- the object L holds the lists, the outer ones first; all are newer than H0 -/
structure LS (H0 H : Hp) (L : Addr) (as : List Addr) (st : List (List PyData)) : Prop where
  at_ : H L = some (.lst (as.reverse.map V.ref))
  sk : Sk H as st
  out : L ∉ as
  newL : H0 L = none
  new : ∀ a ∈ as, H0 a = none
  same : Same H0 H
def Few (k : Nat) (st : List (List PyData)) : Prop := st ≠ [] ∧ st.length ≤ k + 1 ∧ ∀ ds ∈ st, ds.length ≤ k
theorem LS.laid {H0 H : Hp} {L : Addr} {as : List Addr} {st : List (List PyData)} (l : LS H0 H L as st) {p : Addr} {o : HO} (np : H p = none) : LS H0 (upd H p o) L as st := by
  have s := same_upd (o := o) np
  refine ⟨s _ _ l.at_, l.sk.put (Same.keepT s) fun b hb => ?_, l.out, l.newL, l.new, l.same.trans s⟩
  obtain ⟨xs, e⟩ := l.sk.is b hb
  rw [e]
  exact s _ _ e
/-- something is put behind the innermost list -/
theorem LS.push {H0 H : Hp} {L a : Addr} {as : List Addr} {xs : List V} {ds : List PyData} {st : List (List PyData)} {x : V} {d : PyData} (l : LS H0 H L (a :: as) (ds :: st)) (ha : H a = some (.lst xs)) (hx : VdAll H xs ds) (hv : Vd H x d) :
    LS H0 (upd H a (.lst (xs ++ [x]))) L (a :: as) ((ds ++ [d]) :: st) := by
  have nL : L ≠ a := fun e => l.out (by rw [e]; exact List.mem_cons_self ..)
  have k : KeepT H (upd H a (.lst (xs ++ [x]))) := keep_lst ha
  refine ⟨by rw [upd_ne nL]; exact l.at_, ?_, l.out, l.newL, l.new, same_put l.same (l.new a (List.mem_cons_self ..))⟩
  cases l.sk with
  | cons h1 h2 h3 h4 =>
    refine .cons upd_same ((VdAll.snoc hv hx).keep k) h3 (h4.put k fun b hb => ?_)
    rw [upd_ne (fun e => h3 (by rw [← e]; exact hb))]
theorem LS.top {H0 H : Hp} {L : Addr} {as : List Addr} {ds : List PyData} {st : List (List PyData)} (l : LS H0 H L as (ds :: st)) : ∃ a as' xs, as = a :: as' ∧ H a = some (.lst xs) ∧ VdAll H xs ds := by
  obtain ⟨_, sk, _, _, _, _⟩ := l
  cases sk with
  | cons h1 h2 h3 h4 => exact ⟨_, _, _, rfl, h1, h2⟩
theorem rev_ref (a : Addr) (as : List Addr) : (a :: as).reverse.map V.ref = as.reverse.map V.ref ++ [V.ref a] := by
  rw [List.reverse_cons, List.map_append]
  rfl
def spClose : Sp := fun vs H Q _ => ∃ (t : Str) (k : Nat) (L : Addr) (H0 : Hp) (as : List Addr) (st : List (List PyData)) (d : PyData), vs = [.str t, .int (k : Int), .ref L] ∧ t.length ≤ 10000000 ∧ LS H0 H L as st ∧ Few k st ∧ k ≤ t.length ∧ Cl (tl t) k st d ∧
  ∀ H' k' as' st', LS H0 H' L as' st' → Few k' st' → k' ≤ t.length → k ≤ k' → Cl (tl t) k' st' d → (st'.length = 1 ∨ (tl t)[k']? ≠ some 41) → Q (.int (k' : Int)) H'
section
variable {P : Program} {w : World} {K : PySem.W.Frag} {mg : Str → Option Value} {base : Heap}
theorem ok_close {f : Addr} {fd : FuncData} {k : Nat} (F : FnP K "_close_tuples" sClose f fd) (ml : mg "len" = none) (mt : mg "tuple" = none) : FnOk P w K mg base CX0 (k + 1) f fd ["text", "at", "lists"] spClose := by
  refine F.ok scClose (fun vs H Q E h => ?_) (fun cdv A outer s H vs Q E hr h => ?_)
  · obtain ⟨t, k, L, H0, as, st, d, rfl, _⟩ := h
    rfl
  · obtain ⟨t, k0, L, H0, as, st, d, rfl, hz, hL, hF, hk, hC, q⟩ := h
    have hs := szl
    have hl := len_tl t
    have t41 : tl (Str.ofString ")") = [41] := by decide +kernel
    refine ⟨_, PSs.nox (pss_cons (ps_while PassesOwn.never (PW.pt (pw_and (pt_cmpR op_gt (pe_callB call_len_seq (by rfl) ml PySem.boot_len (pa_cons (pv 2) pa_nil)) (pe_int) (nomark _)) (pw_and1 (pt_cmpR op_eq (pe_slice sl_str (pv 0) (po_some (pv 1)) (po_some (pe_op op_add (pv 1) (pe_int)))) (pe_str) (nomark _))))) (pss_cons (ps_set (i := 3) scClose.nd rfl (.inl rfl) (pe_callTy call_tuple_of (by rfl) mt PyProof.Rows.boot_tuple (pa_cons (pe_bm0 PySem.F.plainAttrs_list PySem.F.slot_list_pop PySem.F.type_list_pop mt_pop (pv 2)) pa_nil)))
      (pss_cons (ps_expr (pe_bm PySem.F.plainAttrs_list PySem.F.slot_list_append PySem.F.type_list_append mt_append (pe_ix ix_list (pv 2) (pe_un un_neg pe_int) (fun _ _ => rfl)) (pa_cons (pv 3) pa_nil)))
      (pss_one (ps_aug (i := 1) scClose.nd rfl (.inl rfl) (pe_int) ip_add)))))
      (pss_one (ps_ret (pv 1)))), ?_⟩
    refine ⟨fun m σ H' => ∃ (k' : Nat) (as' : List Addr) (st' : List (List PyData)) (y3 : Option V), σ = [some (.str t), some (.int (k' : Int)), some (.ref L), y3] ∧ LS H0 H' L as' st' ∧ Few k' st' ∧ k' ≤ t.length ∧ k0 ≤ k' ∧ Cl (tl t) k' st' d ∧ m = st'.length,
      ⟨st.length, k0, as, st, none, rfl, hL, hF, hk, Nat.le_refl _, hC, rfl⟩, ?_⟩
    rintro m σ H' ⟨k', as', st', y3, rfl, hL', hF', hk', hkk, hC', rfl⟩
    have hlen := hL'.sk.len
    obtain ⟨hne, hn1, hn2⟩ := hF'
    have fin : (st'.length = 1 ∨ (tl t)[k']? ≠ some 41) → Q (.int (k' : Int)) H' := fun h => q H' k' as' st' hL' ⟨hne, hn1, hn2⟩ hk' hkk hC' h
    refine ⟨_, rfl, L, _, rfl, .inl (SqL.of hL'.at_), _, 1, rfl, rfl, _, rfl, ite2 (fun e => ?_) (fun e => ?_)⟩
    · have h1 : 1 < st'.length := by
        have e1 := of_decide_eq_true e
        rw [List.length_map, List.length_reverse, hlen] at e1
        exact Int.ofNat_lt.mp e1
      refine ⟨_, rfl, _, rfl, (k' : Int), rfl, _, rfl, (k' : Int), 1, rfl, rfl, (k' : Int) + 1, rfl, t, rfl, by omega, rfl, _, rfl, ite2 (fun e2 => ?_) (fun e2 => ?_)⟩
      · have h41 : (tl t)[k']? = some 41 := (sg_eq t41).mp (of_decide_eq_true e2)
        have hklt : k' < (tl t).length := (List.getElem?_eq_some_iff.mp h41).1
        cases hC' with
        | done hd => exact absurd h1 (by simp)
        | sep h32 _ => rw [h41] at h32; cases h32
        | @close _ top nx st2 _ _ hC2 =>
          obtain ⟨a, as2, xs, rfl, ha, hxs⟩ := hL'.top
          cases hL'.sk with
          | cons s1 s2 s3 s4 =>
          cases s4 with
          | @cons b as3 ys _ _ b1 b2 b3 b4 =>
          rw [ha] at s1
          cases s1
          have nba : b ≠ a := fun e => s3 (by rw [← e]; exact List.mem_cons_self ..)
          have nLa : L ≠ a := fun e => hL'.out (by rw [e]; exact List.mem_cons_self ..)
          have nLb : L ≠ b := fun e => hL'.out (by rw [e]; exact List.mem_cons_of_mem _ (List.mem_cons_self ..))
          have hat := hL'.at_
          rw [rev_ref] at hat
          refine ⟨fun σ' H2 => ∃ m', m' < (top :: nx :: st2).length ∧ ∃ (k' : Nat) (as' : List Addr) (st' : List (List PyData)) (y3 : Option V), σ' = [some (.str t), some (.int (k' : Int)), some (.ref L), y3] ∧ LS H0 H2 L as' st' ∧ Few k' st' ∧ k' ≤ t.length ∧ k0 ≤ k' ∧ Cl (tl t) k' st' d ∧ m' = st'.length, fun _ _ h => h, ?_⟩
          have hdl : ((b :: as3).reverse.map V.ref ++ [V.ref a]).dropLast = (b :: as3).reverse.map V.ref := List.dropLast_concat
          refine ⟨_, rfl, .inl ⟨rfl, _, SqL.of hat⟩, L, _, .ref a, rfl, rfl, hat, by simp, ?_⟩
          have kL : KeepT H' (upd H' L (.lst ((b :: as3).reverse.map V.ref ++ [V.ref a]).dropLast)) := keep_lst hat
          have hL1 : LS H0 (upd H' L (.lst ((b :: as3).reverse.map V.ref ++ [V.ref a]).dropLast)) L (b :: as3) (nx :: st2) := by
            refine ⟨by rw [upd_same, hdl], (Sk.cons b1 b2 b3 b4).put kL fun c hc => ?_, fun h => hL'.out (List.mem_cons_of_mem _ h), hL'.newL, fun c hc => hL'.new c (List.mem_cons_of_mem _ hc), same_put hL'.same hL'.newL⟩
            rw [upd_ne (fun e => hL'.out (by rw [← e]; exact List.mem_cons_of_mem _ hc))]
          have ha1 : upd H' L (.lst ((b :: as3).reverse.map V.ref ++ [V.ref a]).dropLast) a = some (.lst xs) := by rw [upd_ne nLa.symm]; exact ha
          have hx1 := hxs.keep kL
          have hb1 : upd H' L (.lst ((b :: as3).reverse.map V.ref ++ [V.ref a]).dropLast) b = some (.lst ys) := by rw [upd_ne nLb.symm]; exact b1
          have hy1 := b2.keep kL
          generalize upd H' L (.lst ((b :: as3).reverse.map V.ref ++ [V.ref a]).dropLast) = H1 at hL1 ha1 hx1 hb1 hy1
          refine ⟨a, xs, rfl, .inl ⟨SqL.of ha1, fun p np => ?_⟩⟩
          have sp := same_upd (o := HO.tup xs) np
          have hL2 : LS H0 (upd H1 p (.tup xs)) L (b :: as3) (nx :: st2) := hL1.laid np
          have hb2 := sp _ _ hb1
          have hy2 := hy1.keep (Same.keepT sp)
          have hv2 : Vd (upd H1 p (.tup xs)) (.ref p) (.tuple top) := .tup upd_same (hx1.keep (Same.keepT sp))
          have hat2 := hL2.at_
          rw [rev_ref] at hat2
          generalize upd H1 p (.tup xs) = H2 at hL2 hb2 hy2 hv2 hat2
          have hnx := hn2 nx (List.mem_cons_of_mem _ (List.mem_cons_self ..))
          refine ⟨_, rfl, 1, rfl, L, _, -1, .ref b, rfl, rfl, SqL.of hat2, atI_last _ _, .inl ⟨rfl, _, SqL.of hb2⟩, _, rfl, b, _, _, rfl, rfl, hb2, by rw [hy2.len]; omega, ?_⟩
          refine ⟨_, rfl, (k' : Int), 1, rfl, rfl, (nx :: st2).length, Nat.lt_succ_self _, k' + 1, b :: as3, (nx ++ [.tuple top]) :: st2, _, rfl, hL2.push hb2 hy2 hv2, ⟨by simp, ?_, ?_⟩, by omega, by omega, hC2, rfl⟩
          · have e3 : (top :: nx :: st2).length = st2.length + 2 := rfl
            show st2.length + 1 ≤ k' + 1 + 1
            omega
          · intro ds hds
            rcases List.mem_cons.mp hds with e3 | e3
            · rw [e3, List.length_append]
              show nx.length + 1 ≤ k' + 1
              omega
            · have := hn2 ds (List.mem_cons_of_mem _ (List.mem_cons_of_mem _ e3))
              omega
      · exact ⟨_, rfl, fin (.inr fun h => e2 (decide_eq_true ((sg_eq t41).mpr h)))⟩
    · have h1 : st'.length = 1 := by
        have hpos : 0 < st'.length := List.length_pos_iff.mpr hne
        rcases Nat.lt_or_ge 1 st'.length with h | h
        · refine absurd (decide_eq_true ?_) e
          rw [List.length_map, List.length_reverse, hlen]
          exact Int.ofNat_lt.mpr h
        · omega
      exact iteF ⟨_, rfl, fin (.inl h1)⟩
end
end Vl

set_option maxHeartbeats 4000000
namespace Vl
open PySem PySem.Spec PyProof.Rows L2 TL CwR PySem.StrLaws
def spRead : Sp := fun vs H Q _ => ∃ (t : Str) (d : PyData), vs = [.str t] ∧ t.length ≤ 10000000 ∧ Go (tl t) 0 [[]] d ∧ ∀ H' x, Same H H' → Vd H' x d → Q x H'
theorem cnt_le : ∀ (m : Nat) (l : List Nat), cnt m l ≤ l.length
  | 0, _ => Nat.zero_le _
  | _ + 1, [] => Nat.le_refl 0
  | m + 1, c :: r => by
    have := cnt_le m r
    show (if 48 ≤ c ∧ c ≤ 57 then 1 + cnt m r else 0) ≤ r.length + 1
    by_cases h : 48 ≤ c ∧ c ≤ 57
    · rw [if_pos h]; omega
    · rw [if_neg h]; omega
theorem figs_le : ∀ l : List Nat, figs l ≤ l.length
  | [] => Nat.le_refl 0
  | c :: r => by
    have := cnt_le 39 r
    show (if 49 ≤ c ∧ c ≤ 57 then 1 + cnt 39 r else 0) ≤ r.length + 1
    by_cases h : 49 ≤ c ∧ c ≤ 57
    · rw [if_pos h]; omega
    · rw [if_neg h]; omega
theorem numLen_le : ∀ l : List Nat, numLen l ≤ l.length
  | [] => Nat.le_refl 0
  | c :: r => by
    have h1 := figs_le r
    have h2 := figs_le (c :: r)
    show (if c = 48 then 1 else if c = 45 then (if figs r = 0 then 0 else 1 + figs r) else figs (c :: r)) ≤ r.length + 1
    by_cases a : c = 48
    · rw [if_pos a]; omega
    · rw [if_neg a]
      by_cases b : c = 45
      · rw [if_pos b]
        by_cases e : figs r = 0
        · rw [if_pos e]; omega
        · rw [if_neg e]; omega
      · rw [if_neg b]; exact h2
theorem LS.mono {H0 H H' : Hp} {L : Addr} {as : List Addr} {st : List (List PyData)} (l : LS H0 H L as st) (s : Same H H') : LS H0 H' L as st := by
  refine ⟨s _ _ l.at_, l.sk.put (Same.keepT s) fun b hb => ?_, l.out, l.newL, l.new, l.same.trans s⟩
  obtain ⟨xs, e⟩ := l.sk.is b hb
  rw [e]
  exact s _ _ e
theorem LS.open {H0 H : Hp} {L p : Addr} {as : List Addr} {st : List (List PyData)} (l : LS H0 H L as st) (np : H p = none) : LS H0 (upd (upd H p (.lst [])) L (.lst (as.reverse.map V.ref ++ [V.ref p]))) L (p :: as) ([] :: st) := by
  have s := same_upd (o := HO.lst []) np
  have l1 := l.mono s
  have nLp : L ≠ p := fun e => by rw [← e, l.at_] at np; cases np
  have npas : p ∉ as := fun h => by
    obtain ⟨xs, e⟩ := l.sk.is p h
    rw [e] at np
    cases np
  refine ⟨by rw [upd_same, rev_ref], .cons (xs := []) (by rw [upd_ne nLp.symm, upd_same]) .nil npas (l1.sk.put (keep_lst l1.at_) fun b hb => ?_), ?_, l.newL, ?_, same_put l1.same l.newL⟩
  · rw [upd_ne (fun e => l.out (by rw [← e]; exact hb))]
  · intro h
    rcases List.mem_cons.mp h with e | h
    · exact nLp e
    · exact l.out h
  · intro b hb
    rcases List.mem_cons.mp hb with e | hb
    · rw [e]; exact l.same.free np
    · exact l.new b hb
theorem flat_ne {l : List Nat} {d : PyData} {n : Nat} (h : Flat l d n) : l ≠ [] ∧ 1 ≤ n ∧ n ≤ l.length := by
  cases h with
  | txt h =>
    have := txtM_len _ _ _ h
    rw [List.length_cons]
    exact ⟨by simp, by omega, by omega⟩
  | num h1 h2 h3 h4 h5 =>
    have := numLen_le l
    refine ⟨fun e => ?_, by omega, by omega⟩
    rw [e] at h2
    have : numLen [] = 0 := rfl
    omega
  | minus => exact ⟨by simp, Nat.le_refl 1, by simp⟩
  | plus => exact ⟨by simp, Nat.le_refl 1, by simp⟩
  | bang => exact ⟨by simp, Nat.le_refl 1, by simp⟩
section
variable {P : Program} {w : World} {K : PySem.W.Frag} {mg : Str → Option Value} {base : Heap}
theorem ok_read {f fC fF : Addr} {fd fdC fdF : FuncData} {k : Nat} (F : FnP K "read" sRead f fd) (FC : FnP K "_close_tuples" sClose fC fdC) (gC : mg "_close_tuples" = some (.ref fC)) (GC : FnOk P w K mg base CX0 k fC fdC ["text", "at", "lists"] spClose)
    (FF : FnP K "_read_flat" sReadFlat fF fdF) (gF : mg "_read_flat" = some (.ref fF)) (GF : FnOk P w K mg base CX0 k fF fdF ["text", "at"] spReadFlat) (ml : mg "len" = none) : FnOk P w K mg base CX0 (k + 1) f fd ["text"] spRead := by
  have bC : Binds K fdC ["text", "at", "lists"] [] := FC.bindsN fun _ _ _ _ _ _ us hl => match us, hl with | [_, _, _], _ => rfl
  have bF : Binds K fdF ["text", "at"] [] := FF.bindsN fun _ _ _ _ _ _ us hl => match us, hl with | [_, _], _ => rfl
  refine F.ok scRead (fun vs H Q E h => ?_) (fun cdv A outer s H vs Q E hr h => ?_)
  · obtain ⟨t, d, rfl, _⟩ := h
    rfl
  · obtain ⟨t, d, rfl, hz, hG, q⟩ := h
    have hs := szl
    have hl := len_tl t
    have t40 : tl (Str.ofString "(") = [40] := by decide +kernel
    have t41 : tl (Str.ofString ")") = [41] := by decide +kernel
    have t32 : tl (Str.ofString " ") = [32] := by decide +kernel
    refine ⟨_, PSs.nox (pss_cons (ps_set (i := 1) scRead.nd rfl (.inl rfl) (pe_lst (pa_cons (pe_lst pa_nil) pa_nil)))
      (pss_cons (ps_set (i := 2) scRead.nd rfl (.inl rfl) (pe_int))
      (pss_cons (ps_while PassesOwn.never (pt_val pe_bl) (C8.pss_cut (ps_if (pt_cmpR op_eq (pe_slice sl_str (pv 0) (po_some (pv 2)) (po_some (pe_op op_add (pv 2) (pe_int)))) (pe_str) (nomark _)) (pss_cons (ps_expr (pe_bm PySem.F.plainAttrs_list PySem.F.slot_list_append PySem.F.type_list_append mt_append (pv 1) (pa_cons (pe_lst pa_nil) pa_nil)))
      (pss_cons (ps_aug (i := 2) scRead.nd rfl (.inl rfl) (pe_int) ip_add)
      (pss_one (ps_if (pt_cmpR op_ne (pe_slice sl_str (pv 0) (po_some (pv 2)) (po_some (pe_op op_add (pv 2) (pe_int)))) (pe_str) (nomark _)) (pss_one ps_continue) pss_nil)))) (pss_cons (ps_asg (pe_call GF hr (by rfl) gF FF.kp bF .nil pass0 (pa_cons (pv 0) (pa_cons (pv 2) pa_nil))) (pg_tup rfl (pgs_cons (pg_name (i := 3) scRead.nd rfl (.inl rfl)) (pgs_cons (pg_name (i := 2) scRead.nd rfl (.inl rfl)) pgs_nil))))
      (pss_one (ps_expr (pe_bm PySem.F.plainAttrs_list PySem.F.slot_list_append PySem.F.type_list_append mt_append (pe_ix ix_list (pv 1) (pe_un un_neg pe_int) (fun _ _ => rfl)) (pa_cons (pv 3) pa_nil))))))
      (pss_cons (ps_set (i := 2) scRead.nd rfl (.inl rfl) (pe_call GC hr (by rfl) gC FC.kp bC .nil pass0 (pa_cons (pv 0) (pa_cons (pv 2) (pa_cons (pv 1) pa_nil)))))
      (pss_cons (ps_if (pt_cmpR op_eq (pe_callB call_len_seq (by rfl) ml PySem.boot_len (pa_cons (pv 1) pa_nil)) (pe_int) (nomark _)) (pss_one ps_break) pss_nil)
      (pss_cons (ps_if (pt_cmpR op_ne (pe_slice sl_str (pv 0) (po_some (pv 2)) (po_some (pe_op op_add (pv 2) (pe_int)))) (pe_str) (nomark _)) (pss_one ps_never) pss_nil)
      (pss_one (ps_aug (i := 2) scRead.nd rfl (.inl rfl) (pe_int) ip_add)))))))
      (pss_cons (ps_if (pt_cmpR op_lt (pv 2) (pe_callB call_len_str (by rfl) ml PySem.boot_len (pa_cons (pv 0) pa_nil)) (nomark _)) (pss_one ps_never) pss_nil)
      (pss_one (ps_ret (pe_ix ix_list (pe_ix ix_list (pv 1) (pe_int) (fun _ _ => rfl)) (pe_int) (fun _ _ => rfl)))))))), ?_⟩
    refine ⟨Nat.zero_le _, fun a na => ⟨by show 1 ≤ sizeLine; omega, fun L nL => ?_⟩⟩
    have sa := same_upd (o := HO.lst []) na
    have sL := same_upd (o := HO.lst [V.ref a]) nL
    have naL : L ≠ a := fun e => by rw [e, upd_same] at nL; cases nL
    have hL0 : LS H (upd (upd H a (.lst [])) L (.lst [.ref a])) L [a] [[]] :=
      ⟨upd_same, .cons (sL _ _ upd_same) .nil (by simp) .nil, by simpa using naL, sa.free nL, fun c hc => by rw [List.mem_singleton.mp hc]; exact na, sa.trans sL⟩
    refine ⟨fun m σ H' => ∃ (k : Nat) (as : List Addr) (st : List (List PyData)) (y3 : Option V), σ = [some (.str t), some (.ref L), some (.int (k : Int)), y3] ∧ LS H H' L as st ∧ Few k st ∧ k ≤ t.length ∧ Go (tl t) k st d ∧ m = t.length - k,
      ⟨t.length - 0, 0, [a], [[]], none, rfl, hL0, ⟨by simp, by simp, by simp⟩, Nat.zero_le _, hG, rfl⟩, ?_⟩
    rintro m σ H' ⟨k, as, st, y3, rfl, hL, ⟨f1, f2, f3⟩, hk, hg, rfl⟩
    refine ⟨_, rfl, iteT ⟨fun σ' H2 => ∃ m', m' < t.length - k ∧ ∃ (k : Nat) (as : List Addr) (st : List (List PyData)) (y3 : Option V), σ' = [some (.str t), some (.ref L), some (.int (k : Int)), y3] ∧ LS H H2 L as st ∧ Few k st ∧ k ≤ t.length ∧ Go (tl t) k st d ∧ m' = t.length - k, fun _ _ h => h, ?_⟩⟩
    refine ⟨fun σ' H2 => ∃ (k2 : Nat) (as : List Addr) (st : List (List PyData)) (y3 : Option V), σ' = [some (.str t), some (.ref L), some (.int (k2 : Int)), y3] ∧ LS H H2 L as st ∧ Few k2 st ∧ k2 ≤ t.length ∧ k < k2 ∧ Cl (tl t) k2 st d, ?_, ?_⟩
    · refine ⟨_, rfl, _, rfl, (k : Int), rfl, _, rfl, (k : Int), 1, rfl, rfl, (k : Int) + 1, rfl, t, rfl, by omega, rfl, _, rfl, ?_⟩
      show if decide (V.str (sg t k) = V.str (Str.ofString "(")) = true then _ else _
      rw [show decide (V.str (sg t k) = V.str (Str.ofString "(")) = decide ((tl t)[k]? = some 40) from decide_eq_decide.mpr (sg_eq t40)]
      cases hg with
      | more h40 h41 hg2 =>
        have hkl : k < (tl t).length := (List.getElem?_eq_some_iff.mp h40).1
        rw [decide_eq_true h40]
        refine iteT ⟨_, rfl, .inl ⟨rfl, _, SqL.of hL.at_⟩, Nat.zero_le _, fun p np => ?_⟩
        have hLp := (hL.laid (o := HO.lst []) np).at_
        refine ⟨L, _, _, rfl, rfl, hLp, by rw [List.length_map, List.length_reverse, hL.sk.len]; omega, ?_⟩
        have hLo := hL.open np
        refine ⟨_, rfl, (k : Int), 1, rfl, rfl, ?_⟩
        refine ⟨_, rfl, _, rfl, ((k + 1 : Nat) : Int), rfl, _, rfl, ((k + 1 : Nat) : Int), 1, rfl, rfl, ((k + 1 : Nat) : Int) + 1, rfl, t, rfl, by omega, rfl, _, rfl, ?_⟩
        show if (!decide (V.str (sg t (k + 1)) = V.str (Str.ofString ")"))) = true then _ else _
        rw [decide_eq_false (fun h => h41 ((sg_eq t41).mp h))]
        refine iteT ?_
        refine ⟨t.length - (k + 1), by omega, k + 1, p :: as, [] :: st, _, rfl, hLo, ⟨by simp, ?_, ?_⟩, by omega, hg2, rfl⟩
        · show st.length + 1 ≤ k + 1 + 1
          omega
        · intro ds hds
          rcases List.mem_cons.mp hds with e | e
          · rw [e]; exact Nat.zero_le _
          · have := f3 ds e; omega
      | empty h40 h41 hc2 =>
        have hkl : k < (tl t).length := (List.getElem?_eq_some_iff.mp h40).1
        rw [decide_eq_true h40]
        refine iteT ⟨_, rfl, .inl ⟨rfl, _, SqL.of hL.at_⟩, Nat.zero_le _, fun p np => ?_⟩
        have hLp := (hL.laid (o := HO.lst []) np).at_
        refine ⟨L, _, _, rfl, rfl, hLp, by rw [List.length_map, List.length_reverse, hL.sk.len]; omega, ?_⟩
        have hLo := hL.open np
        refine ⟨_, rfl, (k : Int), 1, rfl, rfl, ?_⟩
        refine ⟨_, rfl, _, rfl, ((k + 1 : Nat) : Int), rfl, _, rfl, ((k + 1 : Nat) : Int), 1, rfl, rfl, ((k + 1 : Nat) : Int) + 1, rfl, t, rfl, by omega, rfl, _, rfl, iteNS ((sg_eq t41).mpr h41) ?_⟩
        refine ⟨k + 1, p :: as, [] :: st, _, rfl, hLo, ⟨by simp, ?_, ?_⟩, by omega, by omega, hc2⟩
        · show st.length + 1 ≤ k + 1 + 1
          omega
        · intro ds hds
          rcases List.mem_cons.mp hds with e | e
          · rw [e]; exact Nat.zero_le _
          · have := f3 ds e; omega
      | @flat _ n top st2 v _ h40 hf hc2 =>
        obtain ⟨hne, hn1, hn2⟩ := flat_ne hf
        rw [List.length_drop] at hn2
        rw [decide_eq_false h40]
        refine iteF ⟨_, rfl, _, rfl, t, k, n, v, rfl, hz, hk, hf, fun H3 p x sm np hp hv => ?_⟩
        have hL3 := hL.mono sm
        obtain ⟨a3, as3, xs3, rfl, ha3, hx3⟩ := hL3.top
        have hat := hL3.at_
        rw [rev_ref] at hat
        have hf3 := f3 top (List.mem_cons_self ..)
        refine ⟨p, _, rfl, .inl (.inl hp), rfl, _, _, rfl, _, _, rfl, rfl, ?_⟩
        refine ⟨_, rfl, 1, rfl, L, _, -1, .ref a3, rfl, rfl, SqL.of hat, atI_last _ _, .inl ⟨rfl, _, SqL.of ha3⟩, _, rfl, a3, _, _, rfl, rfl, ha3, by rw [hx3.len]; omega, ?_⟩
        refine ⟨k + n, a3 :: as3, (top ++ [v]) :: st2, _, rfl, hL3.push ha3 hx3 hv, ⟨by simp, ?_, ?_⟩, by omega, by omega, hc2⟩
        · have e3 : (top :: st2).length = st2.length + 1 := rfl
          show st2.length + 1 ≤ k + n + 1
          omega
        · intro ds hds
          rcases List.mem_cons.mp hds with e | e
          · rw [e, List.length_append]
            show top.length + 1 ≤ k + n
            omega
          · have := f3 ds (List.mem_cons_of_mem _ e); omega
    · rintro σ' H2 ⟨k2, as2, st2, y4, rfl, hL2, ⟨g1, g2, g3⟩, hk2, hkk, hc⟩
      refine ⟨_, rfl, _, rfl, _, rfl, t, k2, L, H, as2, st2, d, rfl, hz, hL2, ⟨g1, g2, g3⟩, hk2, hc, fun H3 k3 as3 st3 hL3 hF3 hk3 hkk3 hc3 hor => ?_⟩
      have hlen := hL3.sk.len
      obtain ⟨p1, p2, p3⟩ := hF3
      refine ⟨_, rfl, L, _, rfl, .inl (SqL.of hL3.at_), rfl, _, rfl, ite2 (fun e => ?_) (fun e => ?_)⟩
      · have h1 : st3.length = 1 := by
          have e1 := V.int.inj (of_decide_eq_true e)
          rw [List.length_map, List.length_reverse, hlen] at e1
          omega
        cases hc3 with
        | close _ _ => exact absurd h1 (by simp)
        | sep _ _ => exact absurd h1 (by simp)
        | done hd =>
          refine ⟨_, rfl, _, rfl, t, rfl, by omega, _, _, rfl, rfl, _, rfl, ?_⟩
          rw [decide_eq_false (show ¬ ((k3 : Int) < (t.length : Int)) by omega)]
          refine iteF ?_
          obtain ⟨a3, as4, xs3, rfl, ha3, hx3⟩ := hL3.top
          have e4 : as4 = [] := List.length_eq_zero_iff.mp (by simpa using hlen)
          subst e4
          cases hx3 with
          | cons hv hr =>
          cases hr
          exact ⟨_, rfl, L, _, 0, .ref a3, rfl, rfl, SqL.of hL3.at_, atI_nat (j := 0) rfl, a3, _, 0, _, rfl, rfl, SqL.of ha3, atI_nat (j := 0) rfl, q H3 _ hL3.same hv⟩
      · have h1 : st3.length ≠ 1 := fun h => by
          refine e (decide_eq_true (congrArg V.int ?_))
          rw [List.length_map, List.length_reverse, hlen, h]
          rfl
        have h41 : (tl t)[k3]? ≠ some 41 := by
          rcases hor with h | h
          · exact absurd h h1
          · exact h
        cases hc3 with
        | close h _ => exact absurd h h41
        | done _ => exact absurd rfl h1
        | sep h32 hg2 =>
          have hkl : k3 < (tl t).length := (List.getElem?_eq_some_iff.mp h32).1
          refine ⟨_, rfl, _, rfl, (k3 : Int), rfl, _, rfl, (k3 : Int), 1, rfl, rfl, (k3 : Int) + 1, rfl, t, rfl, by omega, rfl, _, rfl, iteNS ((sg_eq t32).mpr h32) ?_⟩
          refine ⟨_, rfl, (k3 : Int), 1, rfl, rfl, t.length - (k3 + 1), by omega, k3 + 1, as3, _, _, rfl, hL3, ⟨p1, by omega, fun ds hds => by have := p3 ds hds; omega⟩, by omega, hg2, rfl⟩
end
end Vl

set_option maxHeartbeats 2000000
namespace Vl
open PySem PySem.Spec PyProof.Rows L2 TL
/-! ### great powers -/
def CPowB (i j : Int) : Prop := 0 ≤ j ∧ (Builtin.Int.intBits i : Int) * j ≤ 2 ^ 27
theorem op_powB {X : Cx} : OpR X (binaryOp .Pow) (rI CPowB fun i j => .int (i ^ j.toNat)) := opI fun _ _ _ _ _ _ _ hc q => pow_int hc.1 hc.2 q
abbrev sDealt : Stmt := top 17
abbrev sPick : Stmt := top 18
/-! ### the hand -/
/-- all but the object at h is as it was, its first item stays -/
def But (h : Addr) (H H' : Hp) : Prop := (∀ b o, b ≠ h → H b = some o → H' b = some o) ∧ ∀ x xs, H h = some (.lst (x :: xs)) → ∃ ys, H' h = some (.lst (x :: ys))
theorem But.refl (h : Addr) (H : Hp) : But h H H := ⟨fun _ _ _ e => e, fun _ xs e => ⟨xs, e⟩⟩
theorem But.trans {h : Addr} {H H1 H2 : Hp} (a : But h H H1) (b : But h H1 H2) : But h H H2 := ⟨fun c o n e => b.1 c o n (a.1 c o n e), fun x xs e => by
  obtain ⟨ys, e1⟩ := a.2 x xs e
  exact b.2 x ys e1⟩
theorem Same.but {h : Addr} {H H' : Hp} (a : Same H H') : But h H H' := ⟨fun b o _ e => a b o e, fun x xs e => ⟨xs, a _ _ e⟩⟩
theorem but_upd {h : Addr} {H : Hp} {x : V} {xs ys : List V} (hh : H h = some (.lst (x :: xs))) : But h H (upd H h (.lst (x :: ys))) := ⟨fun b y n e => by
  rw [upd_ne n]
  exact e, fun z zs e => by
  rw [hh] at e
  cases e
  exact ⟨ys, upd_same⟩⟩
theorem But.free {h p : Addr} {H H' : Hp} (b : But h H H') (n : p ≠ h) (e : H' p = none) : H p = none := by
  cases q : H p with
  | none => rfl
  | some o =>
    rw [b.1 p o n q] at e
    cases e
theorem But.put {h p : Addr} {H H' : Hp} {o : HO} (b : But h H H') (n : p ≠ h) (e : H p = none) : But h H (upd H' p o) := ⟨fun c x nc q => by
  rw [upd_ne (fun z => by rw [z, e] at q; cases q)]
  exact b.1 c x nc q, fun x xs q => by
  obtain ⟨ys, e1⟩ := b.2 x xs q
  exact ⟨ys, by rw [upd_ne n.symm]; exact e1⟩⟩
def HandAt (H : Hp) (h : Addr) (n : Nat) : Prop := ∃ (l : Addr) (ns : List Int) (t c : Int), H h = some (.lst [.ref l, .int t, .int c]) ∧ H l = some (.lst (ns.map V.int)) ∧ l ≠ h ∧ ns.length ≤ 63 ∧ 0 ≤ t ∧ t ≤ (n : Int) ∧ 0 ≤ c
theorem HandAt.mono {H : Hp} {h : Addr} {n m : Nat} (a : HandAt H h n) (k : n ≤ m) : HandAt H h m := by
  obtain ⟨l, ns, t, c, h1, h2, h3, h4, h5, h6, h7⟩ := a
  exact ⟨l, ns, t, c, h1, h2, h3, h4, h5, by omega, h7⟩
theorem HandAt.same {H H' : Hp} {h : Addr} {n : Nat} (a : HandAt H h n) (s : Same H H') : HandAt H' h n := by
  obtain ⟨l, ns, t, c, h1, h2, r⟩ := a
  exact ⟨l, ns, t, c, s _ _ h1, s _ _ h2, r⟩
theorem HandAt.is {H : Hp} {h : Addr} {n : Nat} (a : HandAt H h n) : ∃ xs, H h = some (.lst xs) := by
  obtain ⟨l, ns, t, c, h1, _⟩ := a
  exact ⟨_, h1⟩
/-- something that was not there is written -/
theorem HandAt.put {H H' : Hp} {h p : Addr} {m n : Nat} {o : HO} (a : HandAt H' h n) (b : But h H H') (a0 : HandAt H h m) (np : H p = none) (n0 : p ≠ h) : HandAt (upd H' p o) h n := by
  obtain ⟨l, ns, t, c, e1, e2, r⟩ := a
  obtain ⟨l0, ns0, t0, c0, f1, f2, _⟩ := a0
  obtain ⟨ys, e3⟩ := b.2 _ _ f1
  rw [e1] at e3
  have el : l = l0 := V.ref.inj (List.cons.inj (HO.lst.inj (Option.some.inj e3))).1
  have nlp : l ≠ p := fun e => by
    rw [← el, e, np] at f2
    cases f2
  exact ⟨l, ns, t, c, by rw [upd_ne n0.symm]; exact e1, by rw [upd_ne nlp]; exact e2, r⟩
theorem scDealt : FnScope ["script"] ["script"] (defScope sDealt) := ⟨rfl, rfl, rfl, by decide +kernel, rfl, by decide +kernel, by decide +kernel⟩
theorem scPick : FnScope ["hand", "many", "digit", "turn", "cell", "mixed"] ["hand", "many"] (defScope sPick) := ⟨rfl, rfl, rfl, by decide +kernel, rfl, by decide +kernel, by decide +kernel⟩
def spDealt (K : PySem.W.Frag) : Sp := fun vs H Q _ => ∃ (a : Addr) (ns : List Int), vs = [.ref a] ∧ SqL K H a (ns.map V.int) ∧ ns.length ≤ 63 ∧ ∀ H' h, Same H H' → H h = none → HandAt H' h 0 → Q (.ref h) H'
def spPick : Sp := fun vs H Q _ => ∃ (h : Addr) (many : Int) (n : Nat), vs = [.ref h, .int many] ∧ HandAt H h n ∧ n ≤ 1000000 ∧ 0 < many ∧ many ≤ 100000000 ∧ ∀ H' d, But h H H' → HandAt H' h (n + 1) → 0 ≤ d → d < many → Q (.int d) H'
theorem cut_map (ns : List Int) (lo hi : Option Int) : ∃ ms : List Int, cutV (ns.map V.int) lo hi = ms.map V.int ∧ ms.length ≤ ns.length := by
  refine ⟨(ns.drop (HT.sIx (ns.map V.int).length 0 lo)).take (HT.sIx (ns.map V.int).length (ns.map V.int).length hi - HT.sIx (ns.map V.int).length 0 lo), ?_, ?_⟩
  · unfold cutV
    rw [List.map_take, List.map_drop]
  · rw [List.length_take, List.length_drop]
    omega
theorem dpAll_ints {K : PySem.W.Frag} {H : Hp} : ∀ ns : List Int, DpAll K H (ns.map V.int) (ns.map PyData.int)
  | [] => .nil
  | n :: r => .cons (.int n) (dpAll_ints r)
section
variable {P : Program} {w : World} {K : PySem.W.Frag} {mg : Str → Option Value} {base : Heap}
theorem ok_dealt {f : Addr} {fd : FuncData} {k : Nat} (F : FnP K "_law_dealt" sDealt f fd) (ml : mg "list" = none) : FnOk P w K mg base CX0 (k + 1) f fd ["script"] (spDealt K) := by
  refine F.ok scDealt (fun vs H Q E h => ?_) (fun cdv A outer s H vs Q E hr h => ?_)
  · obtain ⟨a, ns, rfl, _⟩ := h
    rfl
  · obtain ⟨a, ns, rfl, hS, hl, q⟩ := h
    refine ⟨_, PSs.nox (pss_one (ps_ret (pe_lst (pa_cons (pe_callTy call_list_of (by rfl) ml (by decide +kernel) (pa_cons (pe_slice sl_list (pv 0) po_none (po_some pe_int)) pa_nil)) (pa_cons pe_int (pa_cons pe_int pa_nil)))))), ?_⟩
    obtain ⟨ms, em, lm⟩ := cut_map ns none (some 63)
    refine ⟨_, rfl, 63, rfl, a, _, rfl, hS, fun p np => ⟨p, _, rfl, .inl (SqL.of upd_same), fun l nl => ⟨by show 3 ≤ sizeLine; decide, fun h nh => ?_⟩⟩⟩
    have s1 := (same_upd (o := HO.lst (cutV (ns.map V.int) none (some 63))) np)
    have s2 := (same_upd (o := HO.lst (cutV (ns.map V.int) none (some 63))) nl)
    have s3 := (same_upd (o := HO.lst [.ref l, .int 0, .int 0]) nh)
    have sm := (s1.trans s2).trans s3
    have nlh : l ≠ h := fun e => by
      rw [← e, upd_same] at nh
      cases nh
    refine q _ h sm ((s1.trans s2).free nh) ⟨l, ms, 0, 0, upd_same, ?_, nlh, by omega, Int.le_refl _, Int.le_refl _, Int.le_refl _⟩
    rw [upd_ne nlh, upd_same, em]
theorem pw_ne : (((10 : Int) ^ (60 : Int).toNat) ^ (60 : Int).toNat) ^ (9 : Int).toNat ≠ 0 := by decide +kernel
theorem pw_pos : 0 < (((10 : Int) ^ (60 : Int).toNat) ^ (60 : Int).toNat) ^ (9 : Int).toNat := by decide +kernel
theorem ok_pick {f : Addr} {fd : FuncData} {k : Nat} (F : FnP K "_law_pick" sPick f fd) (ml : mg "len" = none) (ma : mg "abs" = none) : FnOk P w K mg base CX0 (k + 1) f fd ["hand", "many"] spPick := by
  refine F.ok scPick (fun vs H Q E h => ?_) (fun cdv A outer s H vs Q E hr h => ?_)
  · obtain ⟨h, m, n, rfl, _⟩ := h
    rfl
  · obtain ⟨h, m, n, rfl, ⟨l, ns, t, c, hh, hl, nlh, ln, t0, tn, c0⟩, hn, m0, m1, q⟩ := h
    refine ⟨_, PSs.nox (pss_cons (ps_if (pt_cmpR op_gt (pe_ix ix_list (pv 0) pe_int (fun _ _ => rfl)) pe_int (nomark _))
        (pss_cons (ps_set (i := 2) scPick.nd rfl (.inl rfl) (pe_op op_modN (pe_ix ix_list (pv 0) pe_int (fun _ _ => rfl)) (pv 1)))
        (pss_cons (ps_asg (pe_op op_fdivN (pe_ix ix_list (pv 0) pe_int (fun _ _ => rfl)) (pv 1)) (pg_sub (pv 0) pe_int set_list))
        (pss_one (ps_ret (pv 2))))) pss_nil)
      (pss_cons (ps_set (i := 3) scPick.nd rfl (.inl rfl) (pe_ix ix_list (pv 0) pe_int (fun _ _ => rfl)))
      (pss_cons (ps_asg (pe_op op_add (pv 3) pe_int) (pg_sub (pv 0) pe_int set_list))
      (pss_cons (ps_set (i := 4) scPick.nd rfl (.inl rfl) (pe_op op_add (pe_op op_mul pe_int (pv 3)) pe_int))
      (C8.pss_cut (ps_if (pt_cmpR (op_neD hr.units) (pe_ix ix_list (pv 0) pe_int (fun _ _ => rfl)) (pe_lst pa_nil) (nomark _))
        (pss_one (ps_set (i := 4) scPick.nd rfl (.inl rfl) (pe_ix ix_list (pe_ix ix_list (pv 0) pe_int (fun _ _ => rfl)) (pe_op op_modN (pv 3) (pe_callB call_len_seq (by rfl) ml PySem.boot_len (pa_cons (pe_ix ix_list (pv 0) pe_int (fun _ _ => rfl)) pa_nil))) (fun _ _ => rfl)))) pss_nil)
      (C8.pss_cut (ps_if (PW.pt (pw_and (pt_cmpR op_lt (pv 3) (pe_callB call_len_seq (by rfl) ml PySem.boot_len (pa_cons (pe_ix ix_list (pv 0) pe_int (fun _ _ => rfl)) pa_nil)) (nomark _))
          (pw_and1 (pt_cmpR op_ge (pe_callB call_abs (by rfl) ma (by decide +kernel) (pa_cons (pv 4) pa_nil)) (pe_op op_pow pe_int pe_int) (nomark _)))))
        (pss_cons (ps_asg (pe_op op_fdivN (pe_callB call_abs (by rfl) ma (by decide +kernel) (pa_cons (pv 4) pa_nil)) (pv 1)) (pg_sub (pv 0) pe_int set_list))
        (pss_one (ps_ret (pe_op op_modN (pe_callB call_abs (by rfl) ma (by decide +kernel) (pa_cons (pv 4) pa_nil)) (pv 1))))) pss_nil)
      (pss_cons (ps_set (i := 5) scPick.nd rfl (.inl rfl) (pe_op op_modN (pe_op op_mul (pe_op op_add (pe_op op_add (pe_op op_modN (pv 4) pe_int) (pe_op op_mul pe_int (pv 3))) pe_int) pe_int) pe_int))
      (pss_cons (ps_set (i := 5) scPick.nd rfl (.inl rfl) (pe_op op_modN (pe_op op_add (pe_op op_add (pe_op op_mul (pv 5) (pv 5)) (pe_op op_mul pe_int (pv 3))) pe_int) pe_int))
      (pss_one (ps_ret (pe_op op_modN (pe_op op_fdivN (pe_op op_modN (pe_op op_mul (pv 5) (pe_op op_add (pe_op op_modN (pv 5) pe_int) pe_int)) pe_int) pe_int) (pv 1)))))))))))), ?_⟩
    have dm : ∀ x : Int, 0 ≤ x.fmod m ∧ x.fmod m < m := fun x => ⟨Int.fmod_nonneg_of_pos x m0, Int.fmod_lt_of_pos x m0⟩
    have mN : m ≠ 0 := by omega
    have mB : m.natAbs < 1073741824 := by omega
    have dp : ∀ x : Int, 0 ≤ x → 0 ≤ x.fdiv m := fun x h => by
      rw [Int.fdiv_eq_ediv_of_nonneg x (by omega)]
      exact Int.ediv_nonneg h (by omega)
    -- hand[2] > 0
    refine ⟨_, rfl, h, _, 2, .int c, rfl, rfl, SqL.of hh, atI_nat (j := 2) rfl, c, 0, rfl, rfl, _, rfl, ite2 (fun e => ?_) (fun e => ?_)⟩
    · have hc : 0 < c := of_decide_eq_true e
      refine ⟨_, rfl, h, _, 2, .int c, rfl, rfl, SqL.of hh, atI_nat (j := 2) rfl, _, rfl, c, m, rfl, rfl, mN, ?_⟩
      refine ⟨_, rfl, h, _, 2, .int c, rfl, rfl, SqL.of hh, atI_nat (j := 2) rfl, _, rfl, c, m, rfl, rfl, ⟨mN, mB⟩, _, rfl, h, _, 2, 2, rfl, rfl, hh, rfl, ?_⟩
      refine ⟨_, rfl, q _ _ (but_upd hh) ⟨l, ns, t, c.fdiv m, upd_same, ?_, nlh, ln, t0, by omega, dp c c0⟩ (dm c).1 (dm c).2⟩
      rw [upd_ne nlh]
      exact hl
    · refine ⟨_, rfl, h, _, 1, .int t, rfl, rfl, SqL.of hh, atI_nat (j := 1) rfl, ?_⟩
      refine ⟨_, rfl, t, 1, rfl, rfl, _, rfl, h, _, 1, 1, rfl, rfl, hh, rfl, ?_⟩
      refine ⟨_, rfl, 31, t, rfl, rfl, .inl (by decide), _, 7, rfl, rfl, ?_⟩
      have hh1 : (upd H h (.lst (([.ref l, .int t, .int c] : List V).set 1 (.int (t + 1))))) h = some (.lst [.ref l, .int (t + 1), .int c]) := upd_same
      have hl1 : (upd H h (.lst (([.ref l, .int t, .int c] : List V).set 1 (.int (t + 1))))) l = some (.lst (ns.map V.int)) := by
        rw [upd_ne nlh]
        exact hl
      have b1 : But h H (upd H h (.lst (([.ref l, .int t, .int c] : List V).set 1 (.int (t + 1))))) := but_upd hh
      generalize (upd H h (.lst (([.ref l, .int t, .int c] : List V).set 1 (.int (t + 1))))) = H1 at hh1 hl1 b1
      refine ⟨fun σ' H' => ∃ cell, σ' = [some (.ref h), some (.int m), none, some (.int t), some (.int cell), none] ∧ H' h = some (.lst [.ref l, .int (t + 1), .int c]) ∧ H' l = some (.lst (ns.map V.int)) ∧ But h H H', ?_, ?_⟩
      · refine ⟨_, rfl, h, _, 0, .ref l, rfl, rfl, SqL.of hh1, atI_nat (j := 0) rfl, Nat.zero_le _, fun p np => ?_⟩
        have hh2 : (upd H1 p (.lst [])) h = some (.lst [.ref l, .int (t + 1), .int c]) := by rw [upd_ne (ne_of_none hh1 np)]; exact hh1
        have hl2 : (upd H1 p (.lst [])) l = some (.lst (ns.map V.int)) := by rw [upd_ne (ne_of_none hl1 np)]; exact hl1
        have b2 : But h H (upd H1 p (.lst [])) := b1.trans (Same.but (same_upd np))
        have hp2 : (upd H1 p (.lst [])) p = some (.lst []) := upd_same
        generalize (upd H1 p (.lst [])) = H2 at hh2 hl2 b2 hp2
        refine ⟨.list (ns.map PyData.int), .list [], .lst (SqL.of hl2) (dpAll_ints ns), .lst (SqL.of hp2) .nil, PySem.W.ke_shaped_ints ns, by decide +kernel, _, rfl, ite2 (fun e => ?_) (fun e => ?_)⟩
        · have n0 : 0 < ns.length := by
            cases ns with
            | nil => exact absurd e (by decide +kernel)
            | cons x r => exact Nat.succ_pos _
          have hlen : ((ns.map V.int).length : Int) ≠ 0 := by rw [List.length_map]; omega
          have f0 : 0 ≤ t.fmod ((ns.map V.int).length : Int) := Int.fmod_nonneg_of_pos t (by rw [List.length_map]; omega)
          have f1 : t.fmod ((ns.map V.int).length : Int) < ((ns.map V.int).length : Int) := Int.fmod_lt_of_pos t (by rw [List.length_map]; omega)
          obtain ⟨j, ej⟩ := Int.eq_ofNat_of_zero_le f0
          have hj : j < ns.length := by
            rw [ej, List.length_map] at f1
            exact Int.ofNat_lt.mp f1
          refine ⟨_, rfl, h, _, 0, .ref l, rfl, rfl, SqL.of hh2, atI_nat (j := 0) rfl, _, rfl, _, rfl, h, _, 0, .ref l, rfl, rfl, SqL.of hh2, atI_nat (j := 0) rfl, l, _, rfl, .inl (SqL.of hl2), t, _, rfl, rfl, hlen, l, _, (j : Int), .int ns[j], rfl, congrArg V.int ej, SqL.of hl2, atI_nat (j := j) ?_, ns[j], rfl, hh2, hl2, b2⟩
          rw [List.getElem?_map, List.getElem?_eq_getElem hj]
          rfl
        · exact ⟨_, rfl, hh2, hl2, b2⟩
      · rintro σ' H' ⟨cell, rfl, hh3, hl3, b3⟩
        refine ⟨fun σ2 H2 => σ2 = [some (.ref h), some (.int m), none, some (.int t), some (.int cell), none] ∧ H2 = H', ?_, ?_⟩
        · refine ⟨_, rfl, _, rfl, h, _, 0, .ref l, rfl, rfl, SqL.of hh3, atI_nat (j := 0) rfl, l, _, rfl, .inl (SqL.of hl3), t, _, rfl, rfl, _, rfl, ite2 (fun e => ?_) (fun e => ?_)⟩
          · refine ⟨_, rfl, cell, rfl, 10, 18, rfl, rfl, ⟨by decide, by decide, by decide⟩, _, _, rfl, rfl, _, rfl, ite2 (fun e2 => ?_) (fun e2 => ⟨rfl, rfl⟩)⟩
            have c1 : 0 ≤ (if cell < 0 then -cell else cell) := by split <;> omega
            refine ⟨_, rfl, cell, rfl, _, rfl, _, m, rfl, rfl, ⟨mN, mB⟩, _, rfl, h, _, 2, 2, rfl, rfl, hh3, rfl, ?_⟩
            refine ⟨_, rfl, cell, rfl, _, rfl, _, m, rfl, rfl, mN, q _ _ (b3.trans (but_upd hh3)) ⟨l, ns, t + 1, (if cell < 0 then -cell else cell).fdiv m, upd_same, ?_, nlh, ln, by omega, by omega, dp _ c1⟩ (dm _).1 (dm _).2⟩
            rw [upd_ne nlh]
            exact hl3
          · exact iteF ⟨rfl, rfl⟩
        · rintro σ2 H2 ⟨rfl, rfl⟩
          obtain ⟨x1, e1⟩ : ∃ x1, x1 = cell.fmod 2147483579 := ⟨_, rfl⟩
          obtain ⟨x2, e2⟩ : ∃ x2, x2 = ((x1 + 50021 * t + 3) * 69621).fmod 2147483647 := ⟨_, rfl⟩
          obtain ⟨x3, e3⟩ : ∃ x3, x3 = (x2 * x2 + 48271 * t + 19).fmod 2147483563 := ⟨_, rfl⟩
          have r3 := Int.fmod_nonneg_of_pos ((x1 + 50021 * t + 3) * 69621) (b := 2147483647) (by decide)
          have r4 := Int.fmod_lt_of_pos ((x1 + 50021 * t + 3) * 69621) (b := 2147483647) (by decide)
          have r5 := Int.fmod_nonneg_of_pos (x2 * x2 + 48271 * t + 19) (b := 2147483563) (by decide)
          have r6 := Int.fmod_lt_of_pos (x2 * x2 + 48271 * t + 19) (b := 2147483563) (by decide)
          rw [← e2] at r3 r4
          rw [← e3] at r5 r6
          have e1' := congrArg V.int e1.symm
          have e2' := congrArg V.int e2.symm
          have e3' := congrArg V.int e3.symm
          refine ⟨_, rfl, cell, 2147483579, rfl, rfl, (show (2147483579 : Int) ≠ 0 by decide), _, rfl, 50021, t, rfl, rfl, .inl (by decide), x1, _, e1', rfl, _, 3, rfl, rfl, x1 + 50021 * t + 3, 69621, rfl, rfl, .inr (by decide), _, 2147483647, rfl, rfl, (show (2147483647 : Int) ≠ 0 by decide), ?_⟩
          refine ⟨_, rfl, _, rfl, x2, x2, e2', e2', .inl (by omega), _, rfl, 48271, t, rfl, rfl, .inl (by decide), _, _, rfl, rfl, _, 19, rfl, rfl, _, 2147483563, rfl, rfl, (show (2147483563 : Int) ≠ 0 by decide), ?_⟩
          refine ⟨_, rfl, _, rfl, x3, 32749, e3', rfl, (show (32749 : Int) ≠ 0 by decide), _, 5, rfl, rfl, x3, _, e3', rfl, .inl (by omega), _, 2147483629, rfl, rfl, (show (2147483629 : Int) ≠ 0 by decide), _, 32, rfl, rfl, ⟨by decide, by decide⟩, _, rfl, _, m, rfl, rfl, mN, ?_⟩
          exact q _ _ b3 ⟨l, ns, t + 1, c, hh3, hl3, nlh, ln, by omega, by omega, c0⟩ (dm _).1 (dm _).2
end
end Vl

set_option maxHeartbeats 4000000
namespace Vl
open PySem PySem.Spec PyProof.Rows L2 TL
abbrev sAlpha : Stmt := top 19
abbrev sLong : Stmt := top 20
abbrev sAText : Stmt := top 21
theorem scAlpha : FnScope ["some"] [] (defScope sAlpha) := ⟨rfl, rfl, rfl, by decide +kernel, rfl, by decide +kernel, by decide +kernel⟩
theorem scLong : FnScope ["hand", "total", "k"] ["hand"] (defScope sLong) := ⟨rfl, rfl, rfl, by decide +kernel, rfl, by decide +kernel, by decide +kernel⟩
theorem scAText : FnScope ["hand", "most", "signs", "found", "k", "sign"] ["hand", "most"] (defScope sAText) := ⟨rfl, rfl, rfl, by decide +kernel, rfl, by decide +kernel, by decide +kernel⟩
def sgOk (c : Nat) : Prop := 32 ≤ c ∧ c ≤ 126 ∧ c ≠ 37
instance (c : Nat) : Decidable (sgOk c) := inferInstanceAs (Decidable (_ ∧ _))
theorem atI_in {α : Type} {xs : List α} {d : Int} (h0 : 0 ≤ d) (h1 : d < (xs.length : Int)) : ∃ v, atI xs d = some v ∧ v ∈ xs := by
  obtain ⟨j, rfl⟩ := Int.eq_ofNat_of_zero_le h0
  have hj : j < xs.length := Int.ofNat_lt.mp h1
  exact ⟨xs[j], atI_nat (List.getElem?_eq_getElem hj), List.getElem_mem hj⟩
theorem ne_hand {H : Hp} {h p : Addr} {n : Nat} (A : HandAt H h n) (np : H p = none) : p ≠ h := fun e => by
  obtain ⟨xs, ex⟩ := A.is
  rw [e, ex] at np
  cases np
theorem but_at {h p : Addr} {H H' : Hp} {o : HO} (b : But h H H') (hp : H p = some o) (n : p ≠ h) : H' p = some o := b.1 p o n hp
def spAlpha : Sp := fun vs H Q _ => vs = [] ∧ ∀ al : Str, al.length = 94 → (∀ c ∈ tl al, sgOk c) → Q (.str al) H
def spLong : Sp := fun vs H Q _ => ∃ (h : Addr) (n : Nat), vs = [.ref h] ∧ HandAt H h n ∧ n ≤ 900000 ∧ ∀ H' (i : Int), But h H H' → HandAt H' h (n + 44) → i.natAbs < 10 ^ 40 → Q (.int i) H'
def spAText : Sp := fun vs H Q _ => ∃ (h : Addr) (most n : Nat), vs = [.ref h, .int (most : Int)] ∧ HandAt H h n ∧ n ≤ 900000 ∧ 1 ≤ most ∧ most ≤ 1000 ∧ ∀ H' z, But h H H' → HandAt H' h (n + 2 + 2 * most) → z.length ≤ most → (∀ c ∈ tl z, sgOk c) → Q (.str z) H'
theorem long_vals {a b : Int} {x : V} (h : x ∈ ([.int 1, .int (1 + a), .int (1 + b), .int 40] : List V)) (a0 : 0 ≤ a) (a1 : a < 5) (b0 : 0 ≤ b) (b1 : b < 40) : ∃ v : Nat, x = .int (v : Int) ∧ v ≤ 40 := by
  rcases List.mem_cons.mp h with e | h
  · exact ⟨1, e, by omega⟩
  rcases List.mem_cons.mp h with e | h
  · exact ⟨(1 + a).toNat, by rw [e]; congr 1; omega, by omega⟩
  rcases List.mem_cons.mp h with e | h
  · exact ⟨(1 + b).toNat, by rw [e]; congr 1; omega, by omega⟩
  rcases List.mem_cons.mp h with e | h
  · exact ⟨40, e, by omega⟩
  · cases h
theorem one_vals {x : V} (h : x ∈ ([.int 1, .int (-1)] : List V)) : x = .int 1 ∨ x = .int (-1) := by
  rcases List.mem_cons.mp h with e | h
  · exact .inl e
  · exact .inr (List.mem_singleton.mp h)
theorem text_vals {a : Int} {x : V} {m : Nat} (h : x ∈ ([.int 0, .int 1, .int a] : List V)) (hm : 1 ≤ m) (a0 : 0 ≤ a) (a1 : a ≤ m) : ∃ v : Nat, x = .int (v : Int) ∧ v ≤ m := by
  rcases List.mem_cons.mp h with e | h
  · exact ⟨0, e, by omega⟩
  rcases List.mem_cons.mp h with e | h
  · exact ⟨1, e, by omega⟩
  rcases List.mem_cons.mp h with e | h
  · exact ⟨a.toNat, by rw [e]; congr 1; omega, by omega⟩
  · cases h
theorem sign_vals {c : Nat} {x : V} (hc : sgOk c) (h : x ∈ ([.str (Str.ofString "\""), .str (Str.ofString " "), .str ⟨#[c]⟩, .str ⟨#[c]⟩] : List V)) : ∃ z : Str, x = .str z ∧ z.length = 1 ∧ ∀ e ∈ tl z, sgOk e := by
  rcases List.mem_cons.mp h with e | h
  · exact ⟨_, e, by decide +kernel, by decide +kernel⟩
  rcases List.mem_cons.mp h with e | h
  · exact ⟨_, e, by decide +kernel, by decide +kernel⟩
  have q : ∃ z : Str, (V.str ⟨#[c]⟩) = .str z ∧ z.length = 1 ∧ ∀ e ∈ tl z, sgOk e := ⟨_, rfl, rfl, fun e he => by rw [List.mem_singleton.mp (show e ∈ [c] from he)]; exact hc⟩
  rcases List.mem_cons.mp h with e | h
  · rw [e]; exact q
  rcases List.mem_cons.mp h with e | h
  · rw [e]; exact q
  · cases h
section
variable {P : Program} {w : World} {K : PySem.W.Frag} {mg : Str → Option Value} {base : Heap}
theorem ok_alpha {f : Addr} {fd : FuncData} {k : Nat} (F : FnP K "_law_alphabet" sAlpha f fd) : FnOk P w K mg base CX0 (k + 1) f fd [] spAlpha := by
  refine F.ok scAlpha (fun vs H Q E h => ?_) (fun cdv A outer s H vs Q E hr h => ?_)
  · obtain ⟨rfl, _⟩ := h
    rfl
  · obtain ⟨rfl, q⟩ := h
    refine ⟨_, PSs.nox (pss_cons (ps_set (i := 0) scAlpha.nd rfl (.inl rfl) pe_str) (pss_one (ps_ret (pe_op op_add_str (pv 0) pe_str)))), ?_⟩
    refine ⟨_, rfl, _, _, rfl, rfl, by decide +kernel, q _ ?_ ?_⟩
    · decide +kernel
    · decide +kernel
theorem ok_long {f fP : Addr} {fd fdP : FuncData} {k : Nat} (F : FnP K "_law_long_number" sLong f fd) (FP : FnP K "_law_pick" sPick fP fdP) (gP : mg "_law_pick" = some (.ref fP)) (GP : FnOk P w K mg base CX0 k fP fdP ["hand", "many"] spPick) (mr : mg "range" = none) :
    FnOk P w K mg base CX0 (k + 1) f fd ["hand"] spLong := by
  have bP : Binds K fdP ["hand", "many"] [] := FP.bindsN fun _ _ _ _ _ _ us hl => match us, hl with | [_, _], _ => rfl
  refine F.ok scLong (fun vs H Q E h => ?_) (fun cdv A outer s H vs Q E hr h => ?_)
  · obtain ⟨h, n, rfl, _⟩ := h
    rfl
  · obtain ⟨h, n, rfl, hA, hn, q⟩ := h
    have hs := szl
    refine ⟨_, PSs.nox (pss_cons (ps_set (i := 1) scLong.nd rfl (.inl rfl) (pe_int))
      (pss_cons (ps_for PassesOwn.never rfl (pi_range1 (by rfl) mr (pa_cons (pe_ix ix_list (pe_lst (pa_cons (pe_int) (pa_cons (pe_op op_add (pe_int) (pe_call GP hr (by rfl) gP FP.kp bP .nil pass0 (pa_cons (pv 0) (pa_cons (pe_int) pa_nil)))) (pa_cons (pe_op op_add (pe_int) (pe_call GP hr (by rfl) gP FP.kp bP .nil pass0 (pa_cons (pv 0) (pa_cons (pe_int) pa_nil)))) (pa_cons (pe_int) pa_nil))))) (pe_call GP hr (by rfl) gP FP.kp bP .nil pass0 (pa_cons (pv 0) (pa_cons (pe_int) pa_nil))) (fun _ _ => rfl)) pa_nil)) (pg_name (i := 2) scLong.nd rfl (.inl rfl)) (pss_one (ps_set (i := 1) scLong.nd rfl (.inl rfl) (pe_op op_add (pe_op op_mul (pe_int) (pv 1)) (pe_call GP hr (by rfl) gP FP.kp bP .nil pass0 (pa_cons (pv 0) (pa_cons (pe_int) pa_nil)))))))
      (pss_one (ps_ret (pe_op op_mul (pv 1) (pe_ix ix_list (pe_lst (pa_cons (pe_int) (pa_cons (pe_un un_neg pe_int) pa_nil))) (pe_call GP hr (by rfl) gP FP.kp bP .nil pass0 (pa_cons (pv 0) (pa_cons (pe_int) pa_nil))) (fun _ _ => rfl))))))), ?_⟩
    refine ⟨_, rfl, h, 5, n, rfl, hA, by omega, by omega, by omega, fun H1 d1 b1 A1 d10 d11 => ⟨1, d1, rfl, rfl, _, rfl, h, 40, _, rfl, A1, by omega, by omega, by omega, fun H2 d2 b2 A2 d20 d21 => ⟨1, d2, rfl, rfl, by show 4 ≤ sizeLine; omega, fun p np => ?_⟩⟩⟩
    have nph := ne_hand A2 np
    refine ⟨_, rfl, h, 4, _, rfl, A2.same (same_upd np), by omega, by omega, by omega, fun H3 d3 b3 A3 d30 d31 => ?_⟩
    obtain ⟨v, ev, vm⟩ := atI_in (xs := ([.int 1, .int (1 + d1), .int (1 + d2), .int 40] : List V)) d30 (by show d3 < 4; exact d31)
    obtain ⟨c, rfl, c1⟩ := long_vals vm d10 d11 d20 d21
    have bb : But h H H3 := ((b1.trans b2).trans (Same.but (same_upd np))).trans b3
    refine ⟨p, _, d3, _, rfl, rfl, SqL.of (but_at b3 upd_same nph), ev, (c : Int), rfl, by omega, by omega, ?_⟩
    refine for_range (lo := 0) (n := (c : Int).toNat) (fun i σ H' => ∃ (t : Int) (y : Option V), σ = [some (.ref h), some (.int t), y] ∧ 0 ≤ t ∧ t < ((10 ^ i : Nat) : Int) ∧ HandAt H' h (n + 3 + i) ∧ But h H H') ⟨0, none, rfl, Int.le_refl 0, by decide, A3, bb⟩ ?_ ?_
    · rintro i σ H' hi ⟨t, y, rfl, t0, t1, Ai, bi⟩
      refine ⟨_, rfl, 10, t, rfl, rfl, .inl (by decide), _, rfl, h, 10, _, rfl, Ai, by omega, by omega, by omega, fun H4 d4 b4 A4 d40 d41 => ?_⟩
      refine ⟨10 * t, d4, rfl, rfl, 10 * t + d4, some (.int (0 + (i : Int))), rfl, by omega, ?_, A4, bi.trans b4⟩
      rw [Nat.pow_succ]
      omega
    · rintro σ H' ⟨t, y, rfl, t0, t1, Ai, bi⟩
      have hc : (c : Int).toNat ≤ 40 := by omega
      have tb : t < ((10 ^ 40 : Nat) : Int) := Int.lt_of_lt_of_le t1 (Int.ofNat_le.mpr (Nat.pow_le_pow_right (by decide) hc))
      refine ⟨_, rfl, 1, rfl, by show 2 ≤ sizeLine; omega, fun p2 np2 => ?_⟩
      have nph2 := ne_hand Ai np2
      refine ⟨_, rfl, h, 2, _, rfl, Ai.same (same_upd np2), by omega, by omega, by omega, fun H5 d5 b5 A5 d50 d51 => ?_⟩
      obtain ⟨v5, ev5, vm5⟩ := atI_in (xs := ([.int 1, .int (-1)] : List V)) d50 (by show d5 < 2; exact d51)
      have bb5 : But h H H5 := (bi.trans (Same.but (same_upd np2))).trans b5
      rcases one_vals vm5 with rfl | rfl
      · exact ⟨p2, _, d5, _, rfl, rfl, SqL.of (but_at b5 upd_same nph2), ev5, t, 1, rfl, rfl, .inr (by decide), q H5 _ bb5 (A5.mono (by omega)) (by omega)⟩
      · exact ⟨p2, _, d5, _, rfl, rfl, SqL.of (but_at b5 upd_same nph2), ev5, t, -1, rfl, rfl, .inr (by decide), q H5 _ bb5 (A5.mono (by omega)) (by omega)⟩
theorem ok_atext {f fA fP : Addr} {fd fdA fdP : FuncData} {k : Nat} (F : FnP K "_law_any_text" sAText f fd) (FA : FnP K "_law_alphabet" sAlpha fA fdA) (gA : mg "_law_alphabet" = some (.ref fA)) (GA : FnOk P w K mg base CX0 k fA fdA [] spAlpha)
    (FP : FnP K "_law_pick" sPick fP fdP) (gP : mg "_law_pick" = some (.ref fP)) (GP : FnOk P w K mg base CX0 k fP fdP ["hand", "many"] spPick) (mr : mg "range" = none) : FnOk P w K mg base CX0 (k + 1) f fd ["hand", "most"] spAText := by
  have bA : Binds K fdA [] [] := FA.bindsN fun _ _ _ _ _ _ us hl => match us, hl with | [], _ => rfl
  have bP : Binds K fdP ["hand", "many"] [] := FP.bindsN fun _ _ _ _ _ _ us hl => match us, hl with | [_, _], _ => rfl
  refine F.ok scAText (fun vs H Q E h => ?_) (fun cdv A outer s H vs Q E hr h => ?_)
  · obtain ⟨h, m, n, rfl, _⟩ := h
    rfl
  · obtain ⟨h, m, n, rfl, hA, hn, m1, m2, q⟩ := h
    have hs := szl
    refine ⟨_, PSs.nox (pss_cons (ps_par (i := 2) (j := 3) rfl scAText.nd rfl rfl (by decide) rfl rfl (pa_cons (pe_call0 GA hr (by rfl) gA FA.kp bA .nil pass0) (pa_cons (pe_str) pa_nil)) (by rfl))
      (pss_cons (ps_for PassesOwn.never rfl (pi_range1 (by rfl) mr (pa_cons (pe_ix ix_list (pe_lst (pa_cons (pe_int) (pa_cons (pe_int) (pa_cons (pe_call GP hr (by rfl) gP FP.kp bP .nil pass0 (pa_cons (pv 0) (pa_cons (pe_op op_add (pv 1) (pe_int)) pa_nil))) pa_nil)))) (pe_call GP hr (by rfl) gP FP.kp bP .nil pass0 (pa_cons (pv 0) (pa_cons (pe_int) pa_nil))) (fun _ _ => rfl)) pa_nil)) (pg_name (i := 4) scAText.nd rfl (.inl rfl)) (pss_cons (ps_set (i := 5) scAText.nd rfl (.inl rfl) (pe_ix ix_str (pv 2) (pe_call GP hr (by rfl) gP FP.kp bP .nil pass0 (pa_cons (pv 0) (pa_cons (pe_int) pa_nil))) (fun _ _ => rfl)))
      (pss_one (ps_set (i := 3) scAText.nd rfl (.inl rfl) (pe_op op_add_str (pv 3) (pe_ix ix_list (pe_lst (pa_cons (pe_str) (pa_cons (pe_str) (pa_cons (pv 5) (pa_cons (pv 5) pa_nil))))) (pe_call GP hr (by rfl) gP FP.kp bP .nil pass0 (pa_cons (pv 0) (pa_cons (pe_int) pa_nil))) (fun _ _ => rfl)))))))
      (pss_one (ps_ret (pv 3))))), ?_⟩
    refine ⟨rfl, fun al hal hals => ⟨_, _, rfl, ?_⟩⟩
    refine ⟨_, rfl, _, rfl, (m : Int), 1, rfl, rfl, h, (m : Int) + 1, n, rfl, hA, by omega, by omega, by omega, fun H1 d1 b1 A1 d10 d11 => ⟨by show 3 ≤ sizeLine; omega, fun p np => ?_⟩⟩
    have nph := ne_hand A1 np
    refine ⟨_, rfl, h, 3, _, rfl, A1.same (same_upd np), by omega, by omega, by omega, fun H3 d3 b3 A3 d30 d31 => ?_⟩
    obtain ⟨v, ev, vm⟩ := atI_in (xs := ([.int 0, .int 1, .int d1] : List V)) d30 (by show d3 < 3; exact d31)
    obtain ⟨c, rfl, c1⟩ := text_vals vm m1 d10 (by omega)
    have bb : But h H H3 := (b1.trans (Same.but (same_upd np))).trans b3
    refine ⟨p, _, d3, _, rfl, rfl, SqL.of (but_at b3 upd_same nph), ev, (c : Int), rfl, by omega, by omega, ?_⟩
    refine for_range (lo := 0) (n := (c : Int).toNat) (fun i σ H' => ∃ (z : Str) (y4 y5 : Option V), σ = [some (.ref h), some (.int (m : Int)), some (.str al), some (.str z), y4, y5] ∧ z.length ≤ i ∧ (∀ e ∈ tl z, sgOk e) ∧ HandAt H' h (n + 2 + 2 * i) ∧ But h H H') ⟨_, _, _, rfl, by decide +kernel, by decide +kernel, A3, bb⟩ ?_ ?_
    · rintro i σ H' hi ⟨z, y4, y5, rfl, hz, hzs, Ai, bi⟩
      refine ⟨_, rfl, _, rfl, h, 94, _, rfl, Ai, by omega, by omega, by omega, fun H4 d4 b4 A4 d40 d41 => ?_⟩
      obtain ⟨e4, x4, mm4⟩ := atI_in (xs := al.cps.toList) d40 (by rw [Array.length_toList]; show d4 < (al.length : Int); omega)
      have ok4 := hals e4 mm4
      refine ⟨al, d4, e4, rfl, rfl, by omega, x4, ?_⟩
      refine ⟨_, rfl, _, rfl, _, rfl, by show 4 ≤ sizeLine; omega, fun p2 np2 => ?_⟩
      have nph2 := ne_hand A4 np2
      refine ⟨_, rfl, h, 4, _, rfl, A4.same (same_upd np2), by omega, by omega, by omega, fun H6 d6 b6 A6 d60 d61 => ?_⟩
      obtain ⟨v6, x6, m6⟩ := atI_in (xs := ([.str (Str.ofString "\""), .str (Str.ofString " "), .str ⟨#[e4]⟩, .str ⟨#[e4]⟩] : List V)) d60 (by show d6 < 4; exact d61)
      obtain ⟨g6, rfl, l6, s6⟩ := sign_vals ok4 m6
      refine ⟨p2, _, d6, _, rfl, rfl, SqL.of (but_at b6 upd_same nph2), x6, z, g6, rfl, rfl, by omega, z ++ g6, some (.int (0 + (i : Int))), some (.str ⟨#[e4]⟩), rfl, ?_, ?_, ?_, ?_⟩
      · rw [app_len]
        omega
      · intro e he
        rw [tl_append] at he
        rcases List.mem_append.mp he with q | q
        · exact hzs e q
        · exact s6 e q
      · exact A6.mono (by omega)
      · exact ((bi.trans b4).trans (Same.but (same_upd np2))).trans b6
    · rintro σ H' ⟨z, y4, y5, rfl, hz, hzs, Ai, bi⟩
      exact ⟨_, rfl, q H' z bi (Ai.mono (by omega)) (by omega) hzs⟩
end
end Vl

set_option maxHeartbeats 4000000
namespace Vl
open PySem PySem.Spec PyProof.Rows L2 TL
abbrev sValue : Stmt := top 22
theorem scValue : FnScope ["hand", "deep", "way", "k"] ["hand", "deep"] (defScope sValue) := ⟨rfl, rfl, rfl, by decide +kernel, rfl, by decide +kernel, by decide +kernel⟩
def pB : Nat → Nat
  | 0 => 54
  | D + 1 => 54 + 4 * pB D
def sB : Nat → Nat
  | 0 => 1
  | D + 1 => 2 + 3 * (sB D + 1)
def wB : Nat → Nat
  | 0 => 44
  | D + 1 => 44 + 3 * (wB D + 1)
theorem pB_le (D : Nat) : 54 ≤ pB D := by cases D <;> (first | exact Nat.le_refl _ | (show 54 ≤ 54 + _; omega))
theorem sB_le (D : Nat) : 1 ≤ sB D := by cases D <;> (first | exact Nat.le_refl _ | (show 1 ≤ 2 + _; omega))
theorem wB_le (D : Nat) : 44 ≤ wB D := by cases D <;> (first | exact Nat.le_refl _ | (show 44 ≤ 44 + _; omega))
structure Good (s w D : Nat) (d : PyData) : Prop where
  ok : Ok d
  sm : SmA d
  s_ : sz d ≤ s
  w_ : (wr d).length ≤ w
  dp : d.depth ≤ D
theorem Good.mono {s w D s' w' D' : Nat} {d : PyData} (g : Good s w D d) (h1 : s ≤ s') (h2 : w ≤ w') (h3 : D ≤ D') : Good s' w' D' d := ⟨g.ok, g.sm, Nat.le_trans g.s_ h1, Nat.le_trans g.w_ h2, Nat.le_trans g.dp h3⟩
theorem dbl_le (l : List Nat) : (dbl l).length ≤ 2 * l.length := dbl_len l
theorem sgn_len {i : Int} (h : i.natAbs < 10 ^ 40) : (sgn i).length ≤ 41 := by
  by_cases h0 : 0 ≤ i
  · obtain ⟨n, rfl⟩ := Int.eq_ofNat_of_zero_le h0
    rw [sgn_pos]
    have := numL_len (n := n) (k := 40) (by decide) h
    omega
  · obtain ⟨n, hn0, rfl⟩ : ∃ n : Nat, 0 < n ∧ i = -(n : Int) := ⟨i.natAbs, by omega, by omega⟩
    rw [sgn_neg hn0, List.length_cons]
    have := numL_len (n := n) (k := 40) (by decide) (by simpa using h)
    omega
theorem log_small {n : Nat} (h : n < 10 ^ 40) : n.log2 < 1920 := by
  by_cases h0 : n = 0
  · subst h0; decide
  · exact (Nat.log2_lt h0).mpr (Nat.lt_of_lt_of_le h (Nat.le_trans (show 10 ^ 40 ≤ 2 ^ 256 by decide) (Nat.pow_le_pow_right (by decide) (by decide))))
theorem good_int {i : Int} (h : i.natAbs < 10 ^ 40) : Good 1 44 0 (.int i) :=
  ⟨.int i h, .flat (log_small h) (fun _ e => by cases e), Nat.le_refl 1, Nat.le_trans (sgn_len h) (by decide), Nat.le_refl 0⟩
theorem good_str {z : Str} (h : ∀ c ∈ tl z, sgOk c) (hl : z.length ≤ 20) : Good 1 44 0 (.str z) := by
  refine ⟨.str z h, .flat (Nat.le_trans hl (by decide)) (fun _ e => by cases e), Nat.le_refl 1, ?_, Nat.le_refl 0⟩
  show (34 :: (dbl (tl z) ++ [34])).length ≤ 44
  have := dbl_len (tl z)
  have := len_tl z
  rw [List.length_cons, List.length_append]
  show (dbl (tl z)).length + 1 + 1 ≤ 44
  omega
theorem good_non : Good 1 44 0 .none := ⟨.non, .flat True.intro (fun _ e => by cases e), Nat.le_refl 1, by decide, Nat.le_refl 0⟩
theorem good_bl (b : Bool) : Good 1 44 0 (.bool b) := ⟨.bl b, .flat True.intro (fun _ e => by cases e), Nat.le_refl 1, by cases b <;> decide, Nat.le_refl 0⟩
theorem szAll_bound {s : Nat} : ∀ ds : List PyData, (∀ d ∈ ds, sz d ≤ s) → szAll ds ≤ ds.length * (s + 1)
  | [], _ => Nat.zero_le _
  | d :: r, h => by
    have ih := szAll_bound r fun x hx => h x (List.mem_cons_of_mem _ hx)
    have := h d (List.mem_cons_self ..)
    show sz d + 1 + szAll r ≤ (r.length + 1) * (s + 1)
    rw [Nat.succ_mul]
    omega
theorem wrT_bound {w : Nat} : ∀ ds : List PyData, (∀ d ∈ ds, (wr d).length ≤ w) → (wrT ds).length ≤ 1 + ds.length * (w + 1)
  | [], _ => Nat.le_add_right 1 _
  | d :: r, h => by
    have ih := wrT_bound r fun x hx => h x (List.mem_cons_of_mem _ hx)
    have := h d (List.mem_cons_self ..)
    show (32 :: (wr d ++ wrT r)).length ≤ 1 + (r.length + 1) * (w + 1)
    rw [List.length_cons, List.length_append, Nat.succ_mul]
    omega
theorem wrF_bound {w : Nat} (ds : List PyData) (h : ∀ d ∈ ds, (wr d).length ≤ w) : (wrF ds).length ≤ 1 + ds.length * (w + 1) := by
  cases ds with
  | nil => exact Nat.le_add_right 1 _
  | cons d r =>
    have ih := wrT_bound r fun x hx => h x (List.mem_cons_of_mem _ hx)
    have := h d (List.mem_cons_self ..)
    show (wr d ++ wrT r).length ≤ 1 + (r.length + 1) * (w + 1)
    rw [List.length_append, Nat.succ_mul]
    omega
theorem depthAll_le {D : Nat} : ∀ ds : List PyData, (∀ d ∈ ds, d.depth ≤ D) → PyData.depthAll ds ≤ D
  | [], _ => Nat.zero_le _
  | d :: r, h => by
    have ih := depthAll_le r fun x hx => h x (List.mem_cons_of_mem _ hx)
    have := h d (List.mem_cons_self ..)
    show max d.depth (PyData.depthAll r) ≤ D
    omega
theorem good_tup {s w D n : Nat} {ds : List PyData} (h : ∀ d ∈ ds, Good s w D d) (hn : ds.length ≤ n) : Good (2 + n * (s + 1)) (2 + n * (w + 1)) (D + 1) (.tuple ds) := by
  refine ⟨.tup fun d hd => (h d hd).ok, .tup fun d hd => (h d hd).sm, ?_, ?_, ?_⟩
  · have := szAll_bound ds fun d hd => (h d hd).s_
    show 2 + szAll ds ≤ _
    exact Nat.add_le_add_left (Nat.le_trans this (Nat.mul_le_mul_right _ hn)) 2
  · have := wrF_bound ds fun d hd => (h d hd).w_
    show (wrF ds).length + 1 ≤ _
    have := Nat.mul_le_mul_right (w + 1) hn
    omega
  · show PyData.depthAll ds + 1 ≤ D + 1
    have := depthAll_le ds fun d hd => (h d hd).dp
    omega
theorem but_keep {h : Addr} {H H' : Hp} {xs : List V} (b : But h H H') (hh : H h = some (.lst xs)) : KeepT H H' := fun c ys e => b.1 c _ (fun q => by rw [q, hh] at e; cases e) e
def spValue (D : Nat) : Sp := fun vs H Q _ => ∃ (h : Addr) (n : Nat), vs = [.ref h, .int (D : Int)] ∧ HandAt H h n ∧ n + pB D ≤ 900000 ∧ ∀ H' x d, But h H H' → HandAt H' h (n + pB D) → Vd H' x d → Good (sB D) (wB D) D d → Q x H'
def spV : Nat → Sp
  | 0 => fun _ _ _ _ => False
  | D + 1 => spValue D
theorem way_vals {x : V} (h : x ∈ ([.non, .bl true, .bl false] : List V)) (H : Hp) : ∃ d, Vd H x d ∧ Good 1 44 0 d := by
  rcases List.mem_cons.mp h with e | h
  · exact ⟨_, by rw [e]; exact .non, good_non⟩
  rcases List.mem_cons.mp h with e | h
  · exact ⟨_, by rw [e]; exact .bl true, good_bl true⟩
  rcases List.mem_cons.mp h with e | h
  · exact ⟨_, by rw [e]; exact .bl false, good_bl false⟩
  · cases h
theorem num_vals {x : V} {a b : Int} (h : x ∈ ([.int 0, .int a, .int b] : List V)) (ha : a.natAbs < 10 ^ 40) (hb : b.natAbs < 10 ^ 40) (H : Hp) : ∃ d, Vd H x d ∧ Good 1 44 0 d := by
  rcases List.mem_cons.mp h with e | h
  · exact ⟨_, by rw [e]; exact .int 0, good_int (by decide)⟩
  rcases List.mem_cons.mp h with e | h
  · exact ⟨_, by rw [e]; exact .int a, good_int ha⟩
  rcases List.mem_cons.mp h with e | h
  · exact ⟨_, by rw [e]; exact .int b, good_int hb⟩
  · cases h
section
variable {P : Program} {w : World} {K : PySem.W.Frag} {mg : Str → Option Value} {base : Heap}
theorem ok_valueS {f fP fL fT : Addr} {fd fdP fdL fdT : FuncData} (D : Nat) (F : FnP K "_law_any_value" sValue f fd) (gV : mg "_law_any_value" = some (.ref f)) (GV : FnOk P w K mg base CX0 (2 + D) f fd ["hand", "deep"] (spV D))
    (FP : FnP K "_law_pick" sPick fP fdP) (gP : mg "_law_pick" = some (.ref fP)) (GP : FnOk P w K mg base CX0 1 fP fdP ["hand", "many"] spPick)
    (FL : FnP K "_law_long_number" sLong fL fdL) (gL : mg "_law_long_number" = some (.ref fL)) (GL : FnOk P w K mg base CX0 2 fL fdL ["hand"] spLong)
    (FT : FnP K "_law_any_text" sAText fT fdT) (gT : mg "_law_any_text" = some (.ref fT)) (GT : FnOk P w K mg base CX0 2 fT fdT ["hand", "most"] spAText)
    (mi : mg "int" = none) (mt : mg "tuple" = none) (mr : mg "range" = none) : FnOk P w K mg base CX0 (2 + D + 1) f fd ["hand", "deep"] (spValue D) := by
  have bV : Binds K fd ["hand", "deep"] [] := F.bindsN fun _ _ _ _ _ _ us hl => match us, hl with | [_, _], _ => rfl
  have bP : Binds K fdP ["hand", "many"] [] := FP.bindsN fun _ _ _ _ _ _ us hl => match us, hl with | [_, _], _ => rfl
  have bL : Binds K fdL ["hand"] [] := FL.bindsN fun _ _ _ _ _ _ us hl => match us, hl with | [_], _ => rfl
  have bT : Binds K fdT ["hand", "most"] [] := FT.bindsN fun _ _ _ _ _ _ us hl => match us, hl with | [_, _], _ => rfl
  refine F.ok scValue (fun vs H Q E h => ?_) (fun cdv A outer s H vs Q E hr h => ?_)
  · obtain ⟨h, n, rfl, _⟩ := h
    rfl
  · obtain ⟨h, n, rfl, hA, hn, q⟩ := h
    have hs := szl
    have hr1 : Room 1 _ := hr.mono (show 1 ≤ 2 + D by omega)
    have hr2 : Room 2 _ := hr.mono (show 2 ≤ 2 + D by omega)
    have hp := pB_le D
    have hsB := sB_le D
    have hwB := wB_le D
    refine ⟨_, PSs.nox (pss_cons (ps_set (i := 2) scValue.nd rfl (.inl rfl) (pe_call GP hr1 (by rfl) gP FP.kp bP .nil pass0 (pa_cons (pv 0) (pa_cons (pe_ix ix_list (pe_lst (pa_cons (pe_int) (pa_cons (pe_int) pa_nil))) (pe_callTy call_int1 (by rfl) mi boot_int (pa_cons (pe_cmpR op_gt (pv 1) (pe_int) (nomark _)) pa_nil)) (fun _ _ => rfl)) pa_nil))))
      (pss_cons (ps_if (pt_cmpR op_lt (pv 2) (pe_int) (nomark _)) (pss_one (ps_ret (pe_ix ix_list (pe_lst (pa_cons (pe_non) (pa_cons (pe_bl) (pa_cons (pe_bl) pa_nil)))) (pv 2) (fun _ _ => rfl)))) pss_nil)
      (pss_cons (ps_if (pt_cmpR op_lt (pv 2) (pe_int) (nomark _)) (pss_one (ps_ret (pe_ix ix_list (pe_lst (pa_cons (pe_int) (pa_cons (pe_call GP hr1 (by rfl) gP FP.kp bP .nil pass0 (pa_cons (pv 0) (pa_cons (pe_int) pa_nil))) (pa_cons (pe_call GL hr2 (by rfl) gL FL.kp bL .nil pass0 (pa_cons (pv 0) pa_nil)) pa_nil)))) (pe_op op_sub (pv 2) (pe_int)) (fun _ _ => rfl)))) pss_nil)
      (pss_cons (ps_if (pt_cmpR op_lt (pv 2) (pe_int) (nomark _)) (pss_one (ps_ret (pe_call GT hr2 (by rfl) gT FT.kp bT .nil pass0 (pa_cons (pv 0) (pa_cons (pe_int) pa_nil))))) pss_nil)
      (pss_one (ps_ret (pe_callTy call_tuple_of (by rfl) mt PyProof.Rows.boot_tuple (pa_cons (pe_lc (own := [("k", 3)]) (g := gName 3) (tt := tYes) rfl scValue.nd (pi_range1 (by rfl) mr (pa_cons (pe_call GP hr1 (by rfl) gP FP.kp bP .nil pass0 (pa_cons (pv 0) (pa_cons (pe_int) pa_nil))) pa_nil)) (blkOk_by (own := [("k", 3)]) (N := ["hand", "deep", "way", "k"]) (sc := defScope sValue) (by decide +kernel)) (fun _ _ _ _ _ => pg_name (i := 3) scValue.nd rfl (Or.inl rfl)) (fun _ _ _ _ _ => pts_nil) (fun _ _ _ _ _ => pe_call GV hr (by rfl) gV F.kp bV .nil pass0 (pa_cons (pv 0) (pa_cons (pe_op op_sub (pv 1) (pe_int)) pa_nil)))) pa_nil)))))))), ?_⟩
    have fin : ∀ H' x d k, But h H H' → HandAt H' h k → k ≤ n + pB D → Vd H' x d → Good 1 44 0 d → Q x H' := fun H' x d k b A hk vd g => q H' x d b (A.mono hk) vd (g.mono hsB hwB (Nat.zero_le _))
    -- way
    refine ⟨_, rfl, by show 2 ≤ sizeLine; omega, fun p np => ⟨_, rfl, _, 0, rfl, rfl, .inr ⟨_, rfl, ?_⟩⟩⟩
    obtain ⟨m, em, m0, m1, md⟩ : ∃ m : Int, atI ([.int 8, .int 12] : List V) (if decide ((0 : Int) < (D : Int)) = true then 1 else 0) = some (.int m) ∧ 8 ≤ m ∧ m ≤ 12 ∧ (D = 0 → m = 8) := by
      by_cases h0 : (0 : Int) < (D : Int)
      · rw [decide_eq_true h0, if_pos rfl]
        exact ⟨12, atI_nat (j := 1) rfl, by omega, by omega, by omega⟩
      · rw [decide_eq_false h0, if_neg (by decide)]
        exact ⟨8, atI_nat (j := 0) rfl, by omega, by omega, by omega⟩
    have nph := ne_hand hA np
    refine ⟨p, _, _, .int m, rfl, rfl, SqL.of upd_same, em, h, m, n, rfl, hA.same (same_upd np), by omega, by omega, by omega, fun H1 w1 b1 A1 w10 w11 => ?_⟩
    have bb1 : But h H H1 := (Same.but (same_upd np)).trans b1
    refine ⟨_, rfl, w1, 3, rfl, rfl, _, rfl, ite2 (fun e => ?_) (fun e => ?_)⟩
    · have e1 : w1 < 3 := of_decide_eq_true e
      refine ⟨by show 3 ≤ sizeLine; omega, fun p2 np2 => ?_⟩
      obtain ⟨v, ev, vm⟩ := atI_in (xs := ([.non, .bl true, .bl false] : List V)) w10 (by show w1 < 3; exact e1)
      obtain ⟨d, vd, gd⟩ := way_vals vm (upd H1 p2 (.lst [.non, .bl true, .bl false]))
      exact ⟨_, rfl, p2, _, w1, v, rfl, rfl, SqL.of upd_same, ev, fin _ _ _ _ (bb1.trans (Same.but (same_upd np2))) (A1.same (same_upd np2)) (by omega) vd gd⟩
    have e1 : ¬ w1 < 3 := fun h => e (decide_eq_true h)
    refine ⟨_, rfl, w1, 6, rfl, rfl, _, rfl, ite2 (fun e => ?_) (fun e => ?_)⟩
    · have e2 : w1 < 6 := of_decide_eq_true e
      refine ⟨_, rfl, h, 12, _, rfl, A1, by omega, by omega, by omega, fun H2 d2 b2 A2 d20 d21 => ?_⟩
      refine ⟨_, rfl, h, _, rfl, A2, by omega, fun H3 i3 b3 A3 hi3 => ⟨by show 3 ≤ sizeLine; omega, fun p3 np3 => ?_⟩⟩
      have hw : 0 ≤ w1 - 3 := by omega
      obtain ⟨v, ev, vm⟩ := atI_in (xs := ([.int 0, .int d2, .int i3] : List V)) hw (by show w1 - 3 < 3; omega)
      obtain ⟨d, vd, gd⟩ := num_vals vm (by omega) hi3 (upd H3 p3 (.lst [.int 0, .int d2, .int i3]))
      exact ⟨_, rfl, w1, 3, rfl, rfl, p3, _, w1 - 3, v, rfl, rfl, SqL.of upd_same, ev, fin _ _ _ _ (((bb1.trans b2).trans b3).trans (Same.but (same_upd np3))) (A3.same (same_upd np3)) (by omega) vd gd⟩
    have e2 : ¬ w1 < 6 := fun h => e (decide_eq_true h)
    refine ⟨_, rfl, w1, 8, rfl, rfl, _, rfl, ite2 (fun e => ?_) (fun e => ?_)⟩
    · refine ⟨_, rfl, h, 20, _, rfl, A1, by omega, by omega, by omega, fun H2 z b2 A2 hz hzs => ?_⟩
      exact fin _ _ _ _ (bb1.trans b2) A2 (by omega) (.str z) (good_str hzs hz)
    have e3 : ¬ w1 < 8 := fun h => e (decide_eq_true h)
    cases D with
    | zero =>
      have := md rfl
      omega
    | succ D =>
      have hpB : pB (D + 1) = 54 + 4 * pB D := rfl
      have hpD := pB_le D
      refine ⟨_, rfl, h, 4, _, rfl, A1, by omega, by omega, by omega, fun H2 d2 b2 A2 d20 d21 => ⟨d2, rfl, by omega, by omega, fun L nL => ?_⟩⟩
      have nLh := ne_hand A2 nL
      refine lc_range (lo := 0) (n := d2.toNat) (fun i H' => ∃ xs ds, H' L = some (.lst xs) ∧ VdAll H' xs ds ∧ (∀ d ∈ ds, Good (sB D) (wB D) D d) ∧ ds.length = i ∧ But h H H' ∧ HandAt H' h (n + 2 + i * pB D) ∧ But h H2 H') ⟨[], [], upd_same, .nil, (fun _ h => by cases h), rfl, (bb1.trans b2).trans (Same.but (same_upd nL)), ?_, Same.but (same_upd nL)⟩ ?_ ?_
      · rw [Nat.zero_mul]
        exact A2.same (same_upd nL)
      · rintro i H3 hi ⟨xs, ds, hL3, hx3, hg3, hl3, b3, A3, b5⟩
        have hi4 : i ≤ 3 := by omega
        have him : i * pB D ≤ 3 * pB D := Nat.mul_le_mul_right _ hi4
        obtain ⟨hxs, hhx⟩ := A3.is
        refine ⟨rfl, _, rfl, _, rfl, ((D + 1 : Nat) : Int), 1, rfl, rfl, h, n + 2 + i * pB D, ?_, A3, by omega, fun H4 x d b4 A4 vd gd => ?_⟩
        · show [V.ref h, V.int (((D + 1 : Nat) : Int) - 1)] = [V.ref h, V.int (D : Int)]
          rw [show (((D + 1 : Nat) : Int) - 1) = (D : Int) by omega]
        have hL4 := but_at b4 hL3 nLh
        have k4 : KeepT H3 H4 := but_keep b4 hhx
        have k5 : KeepT H4 (upd H4 L (.lst (xs ++ [x]))) := keep_lst hL4
        refine ⟨xs, hL4, by rw [hx3.len, hl3]; omega, xs ++ [x], ds ++ [d], upd_same, (VdAll.snoc vd (hx3.keep k4)).keep k5, ?_, by rw [List.length_append, hl3]; rfl, ?_, ?_, (b5.trans b4).put nLh nL⟩
        · intro u hu
          rcases List.mem_append.mp hu with q | q
          · exact hg3 u q
          · rw [List.mem_singleton.mp q]; exact gd
        · exact (b3.trans b4).put nLh (((bb1.trans b2)).free nLh nL)
        · have e5 : n + 2 + (i + 1) * pB D = n + 2 + i * pB D + pB D := by rw [Nat.succ_mul]; omega
          rw [e5]
          exact A4.put (b5.trans b4) A2 nL nLh
      · rintro H3 ⟨xs, ds, hL3, hx3, hg3, hl3, b3, A3, b5⟩
        refine ⟨L, xs, rfl, .inl ⟨SqL.of hL3, fun p3 np3 => ?_⟩⟩
        have s3 := same_upd (o := HO.tup xs) np3
        have hl4 : ds.length ≤ 3 := by omega
        have hm3 : d2.toNat * pB D ≤ 3 * pB D := Nat.mul_le_mul_right _ (by omega)
        refine q _ _ (.tuple ds) (b3.trans (Same.but s3)) ((A3.same s3).mono (by omega)) (.tup upd_same (hx3.keep (Same.keepT s3))) ((good_tup hg3 hl4).mono (Nat.le_refl _) ?_ (Nat.le_refl _))
        show 2 + 3 * (wB D + 1) ≤ 44 + 3 * (wB D + 1)
        omega
end
end Vl

set_option maxHeartbeats 4000000
namespace Vl
open PySem PySem.Spec PyProof.Rows L2 TL CwR PySem.StrLaws
theorem joinL_wrT : ∀ (d : PyData) (ds : List PyData), joinL [32] ((d :: ds).map wr) ++ [41] = wr d ++ wrT ds
  | d, [] => by
    show wr d ++ [41] = wr d ++ [41]
    rfl
  | d, e :: r => by
    show (wr d ++ ([32] ++ joinL [32] ((e :: r).map wr))) ++ [41] = wr d ++ (32 :: (wr e ++ wrT r))
    rw [← joinL_wrT e r]
    simp
theorem joinL_wrF (ds : List PyData) : joinL [32] (ds.map wr) ++ [41] = wrF ds := by
  cases ds with
  | nil => rfl
  | cons d r => exact joinL_wrT d r
theorem wr_len_all : ∀ ds : List PyData, ((ds.map wr).map List.length).sum + ds.length ≤ (wrT ds).length
  | [] => Nat.zero_le _
  | d :: r => by
    have ih := wr_len_all r
    show (wr d).length + ((r.map wr).map List.length).sum + (r.length + 1) ≤ (32 :: (wr d ++ wrT r)).length
    rw [List.length_cons, List.length_append]
    omega
theorem wrT_wrF (ds : List PyData) : (wrT ds).length ≤ (wrF ds).length + 1 := by
  cases ds with
  | nil => show 1 ≤ 1 + 1; omega
  | cons d r =>
    show (32 :: (wr d ++ wrT r)).length ≤ (wr d ++ wrT r).length + 1
    rw [List.length_cons]
    exact Nat.le_refl _
theorem depth_mem : ∀ (ds : List PyData) {d : PyData}, d ∈ ds → d.depth ≤ PyData.depthAll ds
  | e :: r, d, h => by
    show d.depth ≤ max e.depth (PyData.depthAll r)
    rcases List.mem_cons.mp h with q | q
    · rw [q]; omega
    · have := depth_mem r q
      omega
theorem wr_mem_T : ∀ (ds : List PyData) {d : PyData}, d ∈ ds → (wr d).length ≤ (wrT ds).length
  | e :: r, d, h => by
    show (wr d).length ≤ (32 :: (wr e ++ wrT r)).length
    rw [List.length_cons, List.length_append]
    rcases List.mem_cons.mp h with q | q
    · rw [q]; omega
    · have := wr_mem_T r q
      omega
theorem fn_none {P : Program} {w : World} {K : PySem.W.Frag} {mg : Str → Option Value} {base : Heap} {k : Nat} {f : Addr} {fd : FuncData} {ps : List Str} : FnOk P w K mg base CX0 k f fd ps (fun _ _ _ _ => False) :=
  ⟨fun _ _ _ _ h => h.elim, fun _ _ _ _ _ _ _ _ _ _ _ _ _ h => h.elim⟩
section
variable {P : Program} {w : World} {K : PySem.W.Frag} {mg : Str → Option Value} {base : Heap}
theorem ok_value {f fP fL fT : Addr} {fd fdP fdL fdT : FuncData} (F : FnP K "_law_any_value" sValue f fd) (gV : mg "_law_any_value" = some (.ref f))
    (FP : FnP K "_law_pick" sPick fP fdP) (gP : mg "_law_pick" = some (.ref fP)) (GP : FnOk P w K mg base CX0 1 fP fdP ["hand", "many"] spPick)
    (FL : FnP K "_law_long_number" sLong fL fdL) (gL : mg "_law_long_number" = some (.ref fL)) (GL : FnOk P w K mg base CX0 2 fL fdL ["hand"] spLong)
    (FT : FnP K "_law_any_text" sAText fT fdT) (gT : mg "_law_any_text" = some (.ref fT)) (GT : FnOk P w K mg base CX0 2 fT fdT ["hand", "most"] spAText)
    (mi : mg "int" = none) (mt : mg "tuple" = none) (mr : mg "range" = none) : ∀ D, FnOk P w K mg base CX0 (2 + D) f fd ["hand", "deep"] (spV D)
  | 0 => fn_none
  | D + 1 => ok_valueS D F gV (ok_value F gV FP gP GP FL gL GL FT gT GT mi mt mr D) FP gP GP FL gL GL FT gT GT mi mt mr
end
end Vl

set_option autoImplicit false
set_option maxHeartbeats 2000000
namespace Vl
open PySem PySem.Spec PyProof.Rows L2 TL CwR PySem.StrLaws
/-! ### what is read is the writing -/
theorem txt_back : ∀ (r v : List Nat) (n : Nat), txtM r = .ok v n → r.take n = dbl v ++ [34] ∧ (∀ c ∈ v, 32 ≤ c ∧ c ≤ 126 ∧ c ≠ 37) ∧ n ≤ r.length
  | [], v, n, h => by cases h
  | [c], v, n, h => by
    by_cases e : c = 34
    · have h2 : TR.ok [] 1 = TR.ok v n := (if_pos e).symm.trans h
      cases h2
      rw [e]
      exact ⟨rfl, by simp, by simp⟩
    · have h2 := (if_neg e).symm.trans h
      by_cases p : plain c
      · have h3 := (if_pos p).symm.trans h2
        cases h3
      · have h3 := (if_neg p).symm.trans h2
        cases h3
  | c :: e :: r, v, n, h => by
    by_cases e1 : c = 34
    · have h2 := (if_pos e1).symm.trans h
      by_cases e2 : e = 34
      · have h3 := (if_pos e2).symm.trans h2
        cases q : txtM r with
        | err m =>
          rw [q] at h3
          cases h3
        | ok v' n' =>
          rw [q] at h3
          cases h3
          obtain ⟨a, b, d⟩ := txt_back r v' n' q
          rw [e1, e2]
          refine ⟨?_, ?_, ?_⟩
          · show 34 :: 34 :: r.take n' = dbl (34 :: v') ++ [34]
            rw [a]
            have : dbl (34 :: v') = 34 :: 34 :: dbl v' := if_pos rfl
            rw [this]
            rfl
          · intro x hx
            rcases List.mem_cons.mp hx with z | z
            · rw [z]; decide
            · exact b x z
          · simp
            omega
      · have h3 := (if_neg e2).symm.trans h2
        cases h3
        rw [e1]
        exact ⟨rfl, by simp, by simp⟩
    · have h2 := (if_neg e1).symm.trans h
      by_cases p : plain c
      · have h3 := (if_pos p).symm.trans h2
        cases q : txtM (e :: r) with
        | err m =>
          rw [q] at h3
          cases h3
        | ok v' n' =>
          rw [q] at h3
          cases h3
          obtain ⟨a, b, d⟩ := txt_back (e :: r) v' n' q
          refine ⟨?_, ?_, ?_⟩
          · show c :: (e :: r).take n' = dbl (c :: v') ++ [34]
            rw [a]
            have : dbl (c :: v') = c :: dbl v' := if_neg e1
            rw [this]
            rfl
          · intro x hx
            rcases List.mem_cons.mp hx with z | z
            · rw [z]; exact ⟨p.1, p.2.1, p.2.2.2⟩
            · exact b x z
          · simp at d ⊢
            omega
      · have h3 := (if_neg p).symm.trans h2
        cases h3
theorem cnt_take : ∀ (m : Nat) (l : List Nat), (∀ c ∈ l.take (cnt m l), 48 ≤ c ∧ c ≤ 57) ∧ cnt m l ≤ m ∧ cnt m l ≤ l.length
  | 0, l => ⟨by intro c hc; have : cnt 0 l = 0 := rfl; rw [this] at hc; simp at hc, Nat.le_refl 0, Nat.zero_le _⟩
  | m + 1, [] => ⟨(fun c hc => by simp at hc), Nat.zero_le _, Nat.zero_le _⟩
  | m + 1, c :: r => by
    obtain ⟨a, b, d⟩ := cnt_take m r
    by_cases h : 48 ≤ c ∧ c ≤ 57
    · have e : cnt (m + 1) (c :: r) = 1 + cnt m r := if_pos h
      rw [e, Nat.add_comm 1]
      refine ⟨fun x hx => ?_, by omega, by rw [List.length_cons]; omega⟩
      rcases List.mem_cons.mp (show x ∈ c :: r.take (cnt m r) from hx) with z | z
      · rw [z]; exact h
      · exact a x z
    · have e : cnt (m + 1) (c :: r) = 0 := if_neg h
      rw [e]
      exact ⟨(fun x hx => by simp at hx), Nat.zero_le _, Nat.zero_le _⟩
theorem numL_more : ∀ (ds : List Nat) (k j : Nat), (∀ c ∈ ds, 48 ≤ c ∧ c ≤ 57) → 0 < k → k < 10 ^ j → ∃ k', 0 < k' ∧ k' < 10 ^ (j + ds.length) ∧ numL k' = numL k ++ ds
  | [], k, j, _, h0, hk => ⟨k, h0, hk, by simp⟩
  | c :: r, k, j, hd, h0, hk => by
    have hc := hd c (List.mem_cons_self ..)
    have e : numL (10 * k + (c - 48)) = numL k ++ [c] := by
      rw [numL_step (by omega), show (10 * k + (c - 48)) / 10 = k by omega, show 48 + (10 * k + (c - 48)) % 10 = c by omega]
    obtain ⟨k', a, b, d⟩ := numL_more r (10 * k + (c - 48)) (j + 1) (fun x hx => hd x (List.mem_cons_of_mem _ hx)) (by omega) (by rw [Nat.pow_succ]; omega)
    refine ⟨k', a, ?_, ?_⟩
    · rw [List.length_cons, show j + (r.length + 1) = j + 1 + r.length by omega]
      exact b
    · rw [d, e, List.append_assoc]
      rfl
theorem figs_back {l : List Nat} (h : 0 < figs l) : ∃ k, 0 < k ∧ k < 10 ^ 40 ∧ numL k = l.take (figs l) ∧ figs l ≤ 40 ∧ figs l ≤ l.length ∧ (∃ c r, l = c :: r ∧ 49 ≤ c ∧ c ≤ 57) := by
  cases l with
  | nil => cases h
  | cons c r =>
    by_cases hc : 49 ≤ c ∧ c ≤ 57
    · have e : figs (c :: r) = 1 + cnt 39 r := if_pos hc
      obtain ⟨a, b, d⟩ := cnt_take 39 r
      obtain ⟨k', h1, h2, h3⟩ := numL_more (r.take (cnt 39 r)) (c - 48) 1 a (by omega) (by omega)
      refine ⟨k', h1, ?_, ?_, by omega, by rw [List.length_cons]; omega, c, r, rfl, hc⟩
      · have hl : (r.take (cnt 39 r)).length ≤ 39 := by rw [List.length_take]; omega
        exact Nat.lt_of_lt_of_le h2 (Nat.pow_le_pow_right (by decide) (by omega))
      · rw [h3, numL_lt (show c - 48 < 10 by omega), e, Nat.add_comm 1]
        show [48 + (c - 48)] ++ _ = c :: r.take (cnt 39 r)
        rw [show 48 + (c - 48) = c by omega]
        rfl
    · have e : figs (c :: r) = 0 := if_neg hc
      omega
theorem str_ext {x y : Str} (h : tl x = tl y) : x = y := by
  cases x
  cases y
  congr
  exact Array.toList_inj.mp h
theorem int_of_numL {k : Nat} (hk : k < 10 ^ 40) : intText? ⟨(numL k).toArray⟩ = some (k : Int) := by
  have hl := numL_len (n := k) (k := 40) (by decide) hk
  have e : (⟨(numL k).toArray⟩ : Str) = num (k : Int) := by
    have z := tl_num k
    apply str_ext
    rw [z]
  rw [e]
  exact int_num (by omega)
theorem flat_back {l : List Nat} {v : PyData} {n : Nat} (h : Flat l v n) : wr v = l.take n ∧ Ok v ∧ n ≤ l.length := by
  cases h with
  | txt h =>
    rename_i r u m
    obtain ⟨a, b, d⟩ := txt_back _ _ _ h
    refine ⟨?_, .str _ b, by rw [List.length_cons]; omega⟩
    show 34 :: (dbl u ++ [34]) = 34 :: r.take m
    rw [a]
  | num h1 h2 h3 h4 h5 =>
    rename_i i
    cases l with
    | nil =>
      have : numLen [] = 0 := rfl
      omega
    | cons c r =>
      by_cases a : c = 48
      · have e : numLen (c :: r) = 1 := if_pos a
        have en : n = 1 := by omega
        subst en
        have e0 : numL 0 = [48] := numL_lt (by decide)
        have hv := int_of_numL (k := 0) (by decide)
        rw [e0] at hv
        have et : (c :: r).take 1 = [48] := by rw [a]; rfl
        rw [et] at h5
        rw [hv] at h5
        cases h5
        rw [et]
        refine ⟨?_, .int _ (by decide), by simp⟩
        show sgn ((0 : Nat) : Int) = [48]
        rw [sgn_pos, e0]
      · by_cases b : c = 45
        · by_cases f : figs r = 0
          · have e : numLen (c :: r) = 0 := by
              show (if c = 48 then 1 else if c = 45 then (if figs r = 0 then 0 else 1 + figs r) else figs (c :: r)) = 0
              rw [if_neg a, if_pos b, if_pos f]
            omega
          · have e : numLen (c :: r) = 1 + figs r := by
              show (if c = 48 then 1 else if c = 45 then (if figs r = 0 then 0 else 1 + figs r) else figs (c :: r)) = _
              rw [if_neg a, if_pos b, if_neg f]
            obtain ⟨k, k1, k2, k3, k4, k5, _⟩ := figs_back (l := r) (by omega)
            have en : n = figs r + 1 := by omega
            subst en
            have et : (c :: r).take (figs r + 1) = 45 :: numL k := by
              rw [b]
              show 45 :: r.take (figs r) = _
              rw [k3]
            have hl := numL_len (n := k) (k := 40) (by decide) k2
            have q := intText_neg (x := ⟨(45 :: numL k).toArray⟩) (cs := numL k) rfl (numL_digits k) (numL_ne k) (by show (45 :: numL k).toArray.size ≤ 4300; simp; omega)
            rw [et, q, show NumText.digitsVal (numL k) = k from numL_val k] at h5
            cases h5
            rw [et]
            refine ⟨sgn_neg k1, .int _ (by simpa using k2), by rw [List.length_cons]; omega⟩
        · have e : numLen (c :: r) = figs (c :: r) := by
            show (if c = 48 then 1 else if c = 45 then (if figs r = 0 then 0 else 1 + figs r) else figs (c :: r)) = _
            rw [if_neg a, if_neg b]
          obtain ⟨k, k1, k2, k3, k4, k5, _⟩ := figs_back (l := c :: r) (by omega)
          have en : n = figs (c :: r) := by omega
          rw [en] at h5 ⊢
          rw [← k3, int_of_numL k2] at h5
          cases h5
          rw [← k3]
          exact ⟨sgn_pos k, .int _ (by simpa using k2), k5⟩
  | minus => exact ⟨rfl, .non, by simp⟩
  | plus => exact ⟨rfl, .bl true, by simp⟩
  | bang => exact ⟨rfl, .bl false, by simp⟩
/-- values, a blank behind each -/
def bl : List PyData → List Nat
  | [] => []
  | d :: r => wr d ++ 32 :: bl r
def jn (ds : List PyData) : List Nat := joinL [32] (ds.map wr)
/-- what stands ahead of the next value -/
def gS : List (List PyData) → List Nat
  | [] => []
  | [_] => []
  | top :: nx :: st => gS (nx :: st) ++ 40 :: bl top
/-- what stands ahead of the sign behind a value -/
def cS : List (List PyData) → List Nat
  | [] => []
  | [b] => jn b
  | top :: nx :: st => gS (nx :: st) ++ 40 :: jn top
def Bot : List (List PyData) → Prop
  | [] => False
  | [b] => b = []
  | _ :: nx :: st => Bot (nx :: st)
def BotC : List (List PyData) → Prop
  | [] => False
  | [b] => ∃ x, b = [x]
  | _ :: nx :: st => Bot (nx :: st)
theorem jn_snoc : ∀ (ds : List PyData) (d : PyData), jn (ds ++ [d]) = bl ds ++ wr d
  | [], d => rfl
  | [a], d => by
    show wr a ++ ([32] ++ wr d) = (wr a ++ 32 :: []) ++ wr d
    simp
  | a :: b :: r, d => by
    have ih := jn_snoc (b :: r) d
    show wr a ++ ([32] ++ jn (b :: r ++ [d])) = (wr a ++ 32 :: bl (b :: r)) ++ wr d
    rw [ih]
    simp
theorem jn_bl : ∀ ds : List PyData, ds ≠ [] → jn ds ++ [32] = bl ds
  | [], h => absurd rfl h
  | [a], _ => rfl
  | a :: b :: r, _ => by
    have ih := jn_bl (b :: r) (by simp)
    show (wr a ++ ([32] ++ jn (b :: r))) ++ [32] = wr a ++ 32 :: bl (b :: r)
    rw [← ih]
    simp
theorem jn_wr (ds : List PyData) : 40 :: (jn ds ++ [41]) = wr (.tuple ds) := by
  show _ = 40 :: wrF ds
  rw [← joinL_wrF]
  rfl
theorem take_at {L : List Nat} {k c : Nat} (h : L[k]? = some c) : L.take (k + 1) = L.take k ++ [c] := by
  rw [List.take_add_one, h]
  rfl
def AllOk (st : List (List PyData)) : Prop := ∀ ds ∈ st, ∀ d ∈ ds, Ok d
theorem AllOk.snoc {top : List PyData} {st : List (List PyData)} (a : AllOk (top :: st)) {d : PyData} (h : Ok d) : AllOk ((top ++ [d]) :: st) := fun ds hds x hx => by
  rcases List.mem_cons.mp hds with e | e
  · rw [e] at hx
    rcases List.mem_append.mp hx with y | y
    · exact a top (List.mem_cons_self ..) x y
    · rw [List.mem_singleton.mp y]; exact h
  · exact a ds (List.mem_cons_of_mem _ e) x hx
theorem AllOk.open {st : List (List PyData)} (a : AllOk st) : AllOk ([] :: st) := fun ds hds x hx => by
  rcases List.mem_cons.mp hds with e | e
  · rw [e] at hx; cases hx
  · exact a ds e x hx
theorem gS_open {st : List (List PyData)} (b : Bot st) : gS ([] :: st) = gS st ++ [40] := by
  cases st with
  | nil => exact b.elim
  | cons s r => rfl
theorem bot_open {st : List (List PyData)} (b : Bot st) : Bot ([] :: st) := by
  cases st with
  | nil => exact b.elim
  | cons s r => exact b
theorem cS_snoc {top : List PyData} {st : List (List PyData)} (b : Bot (top :: st)) (v : PyData) : cS ((top ++ [v]) :: st) = gS (top :: st) ++ wr v ∧ BotC ((top ++ [v]) :: st) := by
  cases st with
  | nil =>
    have e : top = [] := b
    subst e
    exact ⟨rfl, v, rfl⟩
  | cons s r =>
    refine ⟨?_, b⟩
    show gS (s :: r) ++ 40 :: jn (top ++ [v]) = (gS (s :: r) ++ 40 :: bl top) ++ wr v
    rw [jn_snoc]
    simp
mutual
theorem go_back {L : List Nat} : ∀ {k : Nat} {st : List (List PyData)} {d : PyData}, Go L k st d → L.take k = gS st → Bot st → AllOk st → L = wr d ∧ Ok d
  | _, _, _, .more h1 h2 h3, e, b, a => go_back h3 (by rw [take_at h1, e, gS_open b]) (bot_open b) a.open
  | k, st, _, .empty h1 h2 h3, e, b, a => by
    refine cl_back h3 ?_ ?_ a.open fun _ _ _ => h2
    · rw [take_at h1, e]
      cases st with
      | nil => exact b.elim
      | cons s r => rfl
    · cases st with
      | nil => exact b.elim
      | cons s r => exact b
  | k, _, _, .flat (n := n) (top := top) (st := st) (v := v) h1 h2 h3, e, b, a => by
    obtain ⟨f1, f2, f3⟩ := flat_back h2
    obtain ⟨c1, c2⟩ := cS_snoc b v
    refine cl_back h3 ?_ c2 (a.snoc f2) fun s r z => ?_
    · rw [List.take_add, e, c1, f1]
    · have := congrArg List.length (List.cons.inj z).1
      simp at this
theorem cl_back {L : List Nat} : ∀ {k : Nat} {st : List (List PyData)} {d : PyData}, Cl L k st d → L.take k = cS st → BotC st → AllOk st → (∀ s r, st = [] :: s :: r → L[k]? = some 41) → L = wr d ∧ Ok d
  | k, _, _, .close (top := top) (nx := nx) (st := st) h1 h2, e, b, a, _ => by
    have b2 : Bot (nx :: st) := b
    have ot : Ok (.tuple top) := .tup (a top (List.mem_cons_self ..))
    obtain ⟨c1, c2⟩ := cS_snoc b2 (.tuple top)
    refine cl_back h2 ?_ c2 (AllOk.snoc (fun ds hds => a ds (List.mem_cons_of_mem _ hds)) ot) fun s r z => ?_
    · rw [take_at h1, e, c1, ← jn_wr]
      show (gS (nx :: st) ++ 40 :: jn top) ++ [41] = _
      simp
    · have := congrArg List.length (List.cons.inj z).1
      simp at this
  | _, _, d, .done h1, e, b, a, _ => by
    rw [h1, List.take_length] at e
    exact ⟨e, a [d] (List.mem_cons_self ..) d (List.mem_cons_self ..)⟩
  | k, _, _, .sep (top := top) (nx := nx) (st := st) h1 h2, e, b, a, ne => by
    have b2 : Bot (nx :: st) := b
    have nt : top ≠ [] := fun z => by
      have := ne nx st (by rw [z])
      rw [h1] at this
      cases this
    refine go_back h2 ?_ b2 a
    rw [take_at h1, e]
    show (gS (nx :: st) ++ 40 :: jn top) ++ [32] = gS (nx :: st) ++ 40 :: bl top
    rw [← jn_bl top nt]
    simp
end
theorem go_is {L : List Nat} {d : PyData} (h : Go L 0 [[]] d) : L = wr d ∧ Ok d := go_back h rfl rfl fun ds hds x hx => by
  rw [List.mem_singleton.mp hds] at hx
  cases hx
end Vl

set_option autoImplicit false
set_option maxHeartbeats 2000000
namespace Vl
open PySem PySem.Spec PyProof.Rows L2 TL CwR PySem.StrLaws
/-! ### where a text is refused -/
inductive FlatE : List Nat → Nat → Prop
  | txt {r : List Nat} {n : Nat} : txtM r = .err n → FlatE (34 :: r) (n + 1)
  | none {l : List Nat} : l.head? ≠ some 34 → numLen l = 0 → l.head? ≠ some 45 → l.head? ≠ some 43 → l.head? ≠ some 33 → FlatE l 0
mutual
inductive GoE (L : List Nat) : Nat → List (List PyData) → Nat → Prop
  | more {k e : Nat} {st : List (List PyData)} : L[k]? = some 40 → L[k + 1]? ≠ some 41 → GoE L (k + 1) ([] :: st) e → GoE L k st e
  | empty {k e : Nat} {st : List (List PyData)} : L[k]? = some 40 → L[k + 1]? = some 41 → ClE L (k + 1) ([] :: st) e → GoE L k st e
  | flat {k n e : Nat} {top : List PyData} {st : List (List PyData)} {v : PyData} : L[k]? ≠ some 40 → Flat (L.drop k) v n → ClE L (k + n) ((top ++ [v]) :: st) e → GoE L k (top :: st) e
  | bad {k n : Nat} {st : List (List PyData)} : L[k]? ≠ some 40 → FlatE (L.drop k) n → GoE L k st (k + n)
inductive ClE (L : List Nat) : Nat → List (List PyData) → Nat → Prop
  | close {k e : Nat} {top nx : List PyData} {st : List (List PyData)} : L[k]? = some 41 → ClE L (k + 1) ((nx ++ [.tuple top]) :: st) e → ClE L k (top :: nx :: st) e
  | rest {k : Nat} {x : List PyData} : k < L.length → ClE L k [x] k
  | sep {k e : Nat} {top nx : List PyData} {st : List (List PyData)} : L[k]? = some 32 → GoE L (k + 1) (top :: nx :: st) e → ClE L k (top :: nx :: st) e
  | bad {k : Nat} {top nx : List PyData} {st : List (List PyData)} : L[k]? ≠ some 41 → L[k]? ≠ some 32 → ClE L k (top :: nx :: st) k
end
theorem flat_num {l : List Nat} (h : l.head? ≠ some 34) (h0 : 0 < numLen l) : ∃ i, Flat l (.int i) (numLen l) := by
  cases l with
  | nil => cases h0
  | cons c r =>
    by_cases a : c = 48
    · have e : numLen (c :: r) = 1 := if_pos a
      have e0 : numL 0 = [48] := numL_lt (by decide)
      have hv := int_of_numL (k := 0) (by decide)
      rw [e0] at hv
      refine ⟨0, .num h rfl h0 (by omega) ?_⟩
      rw [e, a]
      exact hv
    · by_cases b : c = 45
      · by_cases f : figs r = 0
        · have e : numLen (c :: r) = 0 := by
            show (if c = 48 then 1 else if c = 45 then (if figs r = 0 then 0 else 1 + figs r) else figs (c :: r)) = 0
            rw [if_neg a, if_pos b, if_pos f]
          omega
        · have e : numLen (c :: r) = figs r + 1 := by
            show (if c = 48 then 1 else if c = 45 then (if figs r = 0 then 0 else 1 + figs r) else figs (c :: r)) = _
            rw [if_neg a, if_pos b, if_neg f, Nat.add_comm]
          obtain ⟨k, k1, k2, k3, k4, k5, _⟩ := figs_back (l := r) (by omega)
          have et : (c :: r).take (figs r + 1) = 45 :: numL k := by
            rw [b]
            show 45 :: r.take (figs r) = _
            rw [k3]
          have hl := numL_len (n := k) (k := 40) (by decide) k2
          have q := intText_neg (x := ⟨(45 :: numL k).toArray⟩) (cs := numL k) rfl (numL_digits k) (numL_ne k) (by show (45 :: numL k).toArray.size ≤ 4300; simp; omega)
          exact ⟨_, .num h rfl h0 (by omega) (by rw [e, et]; exact q)⟩
      · have e : numLen (c :: r) = figs (c :: r) := by
          show (if c = 48 then 1 else if c = 45 then (if figs r = 0 then 0 else 1 + figs r) else figs (c :: r)) = _
          rw [if_neg a, if_neg b]
        obtain ⟨k, k1, k2, k3, k4, k5, _⟩ := figs_back (l := c :: r) (by omega)
        exact ⟨_, .num h rfl h0 (by omega) (by rw [e, ← k3]; exact int_of_numL k2)⟩
theorem flat_total (l : List Nat) : (∃ v n, Flat l v n) ∨ ∃ n, FlatE l n := by
  by_cases h : l.head? = some 34
  · cases l with
    | nil => cases h
    | cons c r =>
      cases h
      cases q : txtM r with
      | ok v n => exact .inl ⟨_, _, .txt q⟩
      | err n => exact .inr ⟨_, .txt q⟩
  · by_cases h0 : 0 < numLen l
    · obtain ⟨i, f⟩ := flat_num h h0
      exact .inl ⟨_, _, f⟩
    · have z : numLen l = 0 := by omega
      cases l with
      | nil => exact .inr ⟨0, .none h z (by simp) (by simp) (by simp)⟩
      | cons c r =>
        by_cases c1 : c = 45
        · subst c1; exact .inl ⟨_, _, .minus z⟩
        by_cases c2 : c = 43
        · subst c2; exact .inl ⟨_, _, .plus⟩
        by_cases c3 : c = 33
        · subst c3; exact .inl ⟨_, _, .bang⟩
        exact .inr ⟨0, .none h z (by simpa using c1) (by simpa using c2) (by simpa using c3)⟩
theorem tot {L : List Nat} : ∀ m : Nat, (∀ (k : Nat) (st : List (List PyData)), L.length + 1 - k ≤ m → k ≤ L.length → Bot st → (∃ d, Go L k st d) ∨ ∃ e, GoE L k st e) ∧
    (∀ (k : Nat) (st : List (List PyData)), L.length + 1 - k ≤ m → k ≤ L.length → BotC st → (∃ d, Cl L k st d) ∨ ∃ e, ClE L k st e)
  | 0 => ⟨fun k st h hk _ => by omega, fun k st h hk _ => by omega⟩
  | m + 1 => by
    obtain ⟨tg, tc⟩ := tot (L := L) m
    refine ⟨fun k st h hk b => ?_, fun k st h hk b => ?_⟩
    · by_cases h4 : L[k]? = some 40
      · have hl := (List.getElem?_eq_some_iff.mp h4).1
        by_cases h5 : L[k + 1]? = some 41
        · have bc : BotC ([] :: st) := by
            cases st with
            | nil => exact b.elim
            | cons s r => exact b
          rcases tc (k + 1) ([] :: st) (by omega) (by omega) bc with ⟨d, g⟩ | ⟨e, g⟩
          · exact .inl ⟨d, .empty h4 h5 g⟩
          · exact .inr ⟨e, .empty h4 h5 g⟩
        · rcases tg (k + 1) ([] :: st) (by omega) (by omega) (bot_open b) with ⟨d, g⟩ | ⟨e, g⟩
          · exact .inl ⟨d, .more h4 h5 g⟩
          · exact .inr ⟨e, .more h4 h5 g⟩
      · rcases flat_total (L.drop k) with ⟨v, n, f⟩ | ⟨n, f⟩
        · obtain ⟨_, f1, f2⟩ := flat_ne f
          rw [List.length_drop] at f2
          cases st with
          | nil => exact b.elim
          | cons top r =>
            rcases tc (k + n) ((top ++ [v]) :: r) (by omega) (by omega) (cS_snoc b v).2 with ⟨d, g⟩ | ⟨e, g⟩
            · exact .inl ⟨d, .flat h4 f g⟩
            · exact .inr ⟨e, .flat h4 f g⟩
        · exact .inr ⟨_, .bad h4 f⟩
    · match st, b with
      | [x], b =>
        obtain ⟨d, rfl⟩ := b
        by_cases e : k = L.length
        · exact .inl ⟨d, .done e⟩
        · exact .inr ⟨k, .rest (by omega)⟩
      | top :: nx :: r, b =>
        by_cases h4 : L[k]? = some 41
        · have hl := (List.getElem?_eq_some_iff.mp h4).1
          have b2 : Bot (nx :: r) := b
          rcases tc (k + 1) ((nx ++ [.tuple top]) :: r) (by omega) (by omega) (cS_snoc b2 _).2 with ⟨d, g⟩ | ⟨e, g⟩
          · exact .inl ⟨d, .close h4 g⟩
          · exact .inr ⟨e, .close h4 g⟩
        · by_cases h5 : L[k]? = some 32
          · have hl := (List.getElem?_eq_some_iff.mp h5).1
            rcases tg (k + 1) (top :: nx :: r) (by omega) (by omega) b with ⟨d, g⟩ | ⟨e, g⟩
            · exact .inl ⟨d, .sep h5 g⟩
            · exact .inr ⟨e, .sep h5 g⟩
          · exact .inr ⟨k, .bad h4 h5⟩
theorem go_total (L : List Nat) : (∃ d, Go L 0 [[]] d) ∨ ∃ e, GoE L 0 [[]] e := (tot (L := L) (L.length + 1)).1 0 [[]] (by omega) (Nat.zero_le _) rfl
end Vl

set_option autoImplicit false
set_option maxHeartbeats 2000000
namespace Vl
open PySem PySem.Spec PyProof.Rows L2 TL CwR PySem.StrLaws
/-! ### a writing, cut -/
theorem txt_pos : ∀ (r v : List Nat) (n : Nat), txtM r = .ok v n → 1 ≤ n := fun r v n h => by
  have := (txt_back r v n h).1
  cases n with
  | zero =>
    have e := congrArg List.length this
    simp at e
  | succ n => omega
theorem txt_cut : ∀ (r v : List Nat) (n : Nat), txtM r = .ok v n → ∀ i, (n ≤ i → txtM (r.take i) = .ok v n) ∧ (i < n → txtM (r.take i) = .err i ∨ ∃ v', txtM (r.take i) = .ok v' i)
  | [], v, n, h, i => by cases h
  | [c], v, n, h, i => by
    have hn := (txt_back _ _ _ h).2.2
    have hp := txt_pos _ _ _ h
    have e1 : n = 1 := by simp at hn; omega
    subst e1
    refine ⟨fun hi => ?_, fun hi => .inl ?_⟩
    · rw [List.take_of_length_le (by simpa using hi)]
      exact h
    · have : i = 0 := by omega
      subst this
      rfl
  | c :: e :: r, v, n, h, 0 => ⟨(fun hi => by have := txt_pos _ _ _ h; omega), fun _ => .inl rfl⟩
  | c :: e :: r, v, n, h, 1 => by
    by_cases e1 : c = 34
    · have h2 := (if_pos e1).symm.trans h
      have et : txtM [c] = .ok [] 1 := if_pos e1
      refine ⟨fun hi => ?_, fun _ => .inr ⟨[], et⟩⟩
      by_cases e2 : e = 34
      · have h3 := (if_pos e2).symm.trans h2
        cases q : txtM r with
        | err m => rw [q] at h3; cases h3
        | ok v' n' =>
          rw [q] at h3
          cases h3
          omega
      · have h3 := (if_neg e2).symm.trans h2
        cases h3
        exact et
    · have h2 := (if_neg e1).symm.trans h
      by_cases p : plain c
      · have h3 := (if_pos p).symm.trans h2
        have et : txtM [c] = .err 1 := (if_neg e1).trans (if_pos p)
        refine ⟨fun hi => ?_, fun _ => .inl et⟩
        cases q : txtM (e :: r) with
        | err m => rw [q] at h3; cases h3
        | ok v' n' =>
          rw [q] at h3
          cases h3
          have := txt_pos _ _ _ q
          omega
      · have h3 := (if_neg p).symm.trans h2
        cases h3
  | c :: e :: r, v, n, h, i + 2 => by
    have et : (c :: e :: r).take (i + 2) = c :: e :: r.take i := rfl
    rw [et]
    by_cases e1 : c = 34
    · have h2 := (if_pos e1).symm.trans h
      by_cases e2 : e = 34
      · have h3 := (if_pos e2).symm.trans h2
        have ee : txtM (c :: e :: r.take i) = (txtM (r.take i)).up [34] 2 := (if_pos e1).trans (if_pos e2)
        rw [ee]
        cases q : txtM r with
        | err m => rw [q] at h3; cases h3
        | ok v' n' =>
          rw [q] at h3
          cases h3
          obtain ⟨a, b⟩ := txt_cut r v' n' q i
          refine ⟨fun hi => ?_, fun hi => ?_⟩
          · rw [a (by omega)]
            rfl
          · rcases b (by omega) with z | ⟨u, z⟩
            · rw [z]; exact .inl rfl
            · rw [z]; exact .inr ⟨_, rfl⟩
      · have h3 := (if_neg e2).symm.trans h2
        cases h3
        exact ⟨fun _ => (if_pos e1).trans (if_neg e2), fun hi => by omega⟩
    · have h2 := (if_neg e1).symm.trans h
      by_cases p : plain c
      · have h3 := (if_pos p).symm.trans h2
        have ee : txtM (c :: e :: r.take i) = (txtM (e :: r.take i)).up [c] 1 := (if_neg e1).trans (if_pos p)
        rw [ee]
        cases q : txtM (e :: r) with
        | err m => rw [q] at h3; cases h3
        | ok v' n' =>
          rw [q] at h3
          cases h3
          obtain ⟨a, b⟩ := txt_cut (e :: r) v' n' q (i + 1)
          refine ⟨fun hi => ?_, fun hi => ?_⟩
          · have := a (by omega)
            rw [show e :: r.take i = (e :: r).take (i + 1) from rfl, this]
            rfl
          · rcases b (by omega) with z | ⟨u, z⟩
            · rw [show e :: r.take i = (e :: r).take (i + 1) from rfl, z]; exact .inl rfl
            · rw [show e :: r.take i = (e :: r).take (i + 1) from rfl, z]; exact .inr ⟨_, rfl⟩
      · have h3 := (if_neg p).symm.trans h2
        cases h3
theorem cnt_cut : ∀ (m : Nat) (l : List Nat) (j : Nat), cnt m (l.take j) = min (cnt m l) j
  | 0, l, j => by
    have e1 : cnt 0 (l.take j) = 0 := rfl
    have e2 : cnt 0 l = 0 := rfl
    omega
  | m + 1, [], j => by
    have e1 : cnt (m + 1) (([] : List Nat).take j) = 0 := by rw [List.take_nil]; rfl
    have e2 : cnt (m + 1) [] = 0 := rfl
    omega
  | m + 1, c :: r, 0 => by
    have e1 : cnt (m + 1) ((c :: r).take 0) = 0 := rfl
    omega
  | m + 1, c :: r, j + 1 => by
    have ih := cnt_cut m r j
    show (if 48 ≤ c ∧ c ≤ 57 then 1 + cnt m (r.take j) else 0) = min (if 48 ≤ c ∧ c ≤ 57 then 1 + cnt m r else 0) (j + 1)
    by_cases h : 48 ≤ c ∧ c ≤ 57
    · rw [if_pos h, if_pos h, ih]; omega
    · rw [if_neg h, if_neg h]; omega
theorem figs_cut (l : List Nat) (j : Nat) : figs (l.take j) = min (figs l) j := by
  cases l with
  | nil =>
    have e1 : figs (([] : List Nat).take j) = 0 := by rw [List.take_nil]; rfl
    have e2 : figs [] = 0 := rfl
    omega
  | cons c r =>
    cases j with
    | zero =>
      have e1 : figs ((c :: r).take 0) = 0 := rfl
      omega
    | succ j =>
      have ih := cnt_cut 39 r j
      show (if 49 ≤ c ∧ c ≤ 57 then 1 + cnt 39 (r.take j) else 0) = min (if 49 ≤ c ∧ c ≤ 57 then 1 + cnt 39 r else 0) (j + 1)
      by_cases h : 49 ≤ c ∧ c ≤ 57
      · rw [if_pos h, if_pos h, ih]; omega
      · rw [if_neg h, if_neg h]; omega
theorem numLen_cons (c : Nat) (r : List Nat) : numLen (c :: r) = if c = 48 then 1 else if c = 45 then (if figs r = 0 then 0 else 1 + figs r) else figs (c :: r) := rfl
theorem flat_cut {l : List Nat} {v : PyData} {n : Nat} (h : Flat l v n) {j : Nat} (hj : 0 < j) : (n ≤ j → Flat (l.take j) v n) ∧ (j < n → (∃ v', Flat (l.take j) v' j) ∨ FlatE (l.take j) j) := by
  obtain ⟨i, rfl⟩ : ∃ i, j = i + 1 := ⟨j - 1, by omega⟩
  cases h with
  | txt h =>
    rename_i r u m
    obtain ⟨a, b⟩ := txt_cut r u m h i
    refine ⟨fun hi => .txt (a (by omega)), fun hi => ?_⟩
    rcases b (by omega) with z | ⟨u', z⟩
    · exact .inr (.txt z)
    · exact .inl ⟨_, .txt z⟩
  | num h1 h2 h3 h4 h5 =>
    rename_i k
    cases l with
    | nil =>
      have : numLen [] = 0 := rfl
      omega
    | cons c r =>
      have et : (c :: r).take (i + 1) = c :: r.take i := rfl
      have hh : (c :: r.take i).head? ≠ some 34 := h1
      rw [et]
      have f1 := figs_cut r i
      have f2 := figs_cut (c :: r) (i + 1)
      rw [et] at f2
      have e1 := numLen_cons c r
      have e2 := numLen_cons c (r.take i)
      refine ⟨fun hi => ?_, fun hi => ?_⟩
      · have en : numLen (c :: r.take i) = n := by
          by_cases a : c = 48
          · rw [if_pos a] at e1 e2; omega
          · rw [if_neg a] at e1 e2
            by_cases b : c = 45
            · rw [if_pos b] at e1 e2
              by_cases f : figs r = 0
              · rw [if_pos f] at e1; omega
              · rw [if_neg f] at e1
                rw [if_neg (by omega)] at e2
                omega
            · rw [if_neg b] at e1 e2
              omega
        refine .num hh en h3 h4 ?_
        rw [← et, List.take_take, Nat.min_eq_left hi]
        exact h5
      · by_cases b : c = 45 ∧ i = 0
        · obtain ⟨rfl, rfl⟩ := b
          exact .inl ⟨_, .minus rfl⟩
        · have en : numLen (c :: r.take i) = i + 1 := by
            by_cases a : c = 48
            · rw [if_pos a] at e1 e2; omega
            · rw [if_neg a] at e1 e2
              by_cases b2 : c = 45
              · rw [if_pos b2] at e1 e2
                have : i ≠ 0 := fun z => b ⟨b2, z⟩
                by_cases f : figs r = 0
                · rw [if_pos f] at e1; omega
                · rw [if_neg f] at e1
                  rw [if_neg (by omega)] at e2
                  omega
              · rw [if_neg b2] at e1 e2
                omega
          obtain ⟨x, f⟩ := flat_num hh (by omega)
          rw [en] at f
          exact .inl ⟨_, f⟩
  | minus h =>
    rename_i r
    refine ⟨fun _ => .minus ?_, fun hi => by omega⟩
    have e1 := numLen_cons 45 r
    rw [if_neg (by decide), if_pos rfl] at e1
    have e2 := numLen_cons 45 (r.take i)
    rw [if_neg (by decide), if_pos rfl] at e2
    have f1 := figs_cut r i
    by_cases f : figs r = 0
    · rw [if_pos (by omega)] at e2
      exact e2
    · rw [if_neg f] at e1
      omega
  | plus => exact ⟨fun _ => .plus, fun hi => by omega⟩
  | bang => exact ⟨fun _ => .bang, fun hi => by omega⟩
theorem bad_end {L : List Nat} {m : Nat} {st : List (List PyData)} (h : L.length ≤ m) : GoE L m st m := by
  have e : L.drop m = [] := List.drop_eq_nil_of_le h
  have n : L[m]? = none := List.getElem?_eq_none h
  have z : GoE L m st (m + 0) := .bad (by rw [n]; simp) (by rw [e]; exact .none (by simp) rfl (by simp) (by simp) (by simp))
  exact z
theorem take_get {L : List Nat} {m k : Nat} (h : k < m) : (L.take m)[k]? = L[k]? := by
  rw [List.getElem?_take, if_pos h]
mutual
theorem go_cut {L : List Nat} {m : Nat} (hm : m ≤ L.length) : ∀ {k : Nat} {st : List (List PyData)} {d : PyData}, Go L k st d → k ≤ m → Bot st → (∃ d', Go (L.take m) k st d') ∨ GoE (L.take m) k st m
  | k, st, _, .more h1 h2 h3, hk, b => by
    have ll : (L.take m).length ≤ m := by rw [List.length_take]; omega
    by_cases e : k = m
    · rw [e]; exact .inr (bad_end ll)
    · have l1 : (L.take m)[k]? = some 40 := by rw [take_get (by omega)]; exact h1
      have l2 : (L.take m)[k + 1]? ≠ some 41 := by
        by_cases e2 : k + 1 = m
        · rw [List.getElem?_eq_none (by omega)]; simp
        · rw [take_get (by omega)]; exact h2
      rcases go_cut hm h3 (by omega) (bot_open b) with ⟨d', g⟩ | g
      · exact .inl ⟨d', .more l1 l2 g⟩
      · exact .inr (.more l1 l2 g)
  | k, st, _, .empty h1 h2 h3, hk, b => by
    have ll : (L.take m).length ≤ m := by rw [List.length_take]; omega
    by_cases e : k = m
    · rw [e]; exact .inr (bad_end ll)
    · have l1 : (L.take m)[k]? = some 40 := by rw [take_get (by omega)]; exact h1
      by_cases e2 : k + 1 = m
      · have l2 : (L.take m)[k + 1]? ≠ some 41 := by rw [List.getElem?_eq_none (by omega)]; simp
        refine .inr (.more l1 l2 ?_)
        rw [e2]
        exact bad_end ll
      · have l2 : (L.take m)[k + 1]? = some 41 := by rw [take_get (by omega)]; exact h2
        have bc : BotC ([] :: st) := by
          cases st with
          | nil => exact b.elim
          | cons s r => exact b
        rcases cl_cut hm h3 (by omega) bc with ⟨d', g⟩ | g
        · exact .inl ⟨d', .empty l1 l2 g⟩
        · exact .inr (.empty l1 l2 g)
  | k, _, _, .flat (n := n) (top := top) (st := st) (v := v) h1 h2 h3, hk, b => by
    have ll : (L.take m).length ≤ m := by rw [List.length_take]; omega
    by_cases e : k = m
    · rw [e]; exact .inr (bad_end ll)
    · have l1 : (L.take m)[k]? ≠ some 40 := by rw [take_get (by omega)]; exact h1
      have ed : (L.take m).drop k = (L.drop k).take (m - k) := List.drop_take ..
      obtain ⟨a, c⟩ := flat_cut h2 (j := m - k) (by omega)
      by_cases hn : n ≤ m - k
      · have f := a hn
        rw [← ed] at f
        rcases cl_cut hm h3 (by omega) (cS_snoc b v).2 with ⟨d', g⟩ | g
        · exact .inl ⟨d', .flat l1 f g⟩
        · exact .inr (.flat l1 f g)
      · rcases c (by omega) with ⟨v', f⟩ | f
        · rw [← ed] at f
          have em : k + (m - k) = m := by omega
          match st, b with
          | [], b =>
            have et : top = [] := b
            subst et
            refine .inl ⟨v', .flat l1 f ?_⟩
            rw [em]
            exact .done (by rw [List.length_take]; omega)
          | nx :: r, b =>
            refine .inr (.flat l1 f ?_)
            rw [em]
            have n0 : (L.take m)[m]? = none := List.getElem?_eq_none ll
            exact .bad (by rw [n0]; simp) (by rw [n0]; simp)
        · rw [← ed] at f
          have z : GoE (L.take m) k (top :: st) (k + (m - k)) := .bad l1 f
          rw [show k + (m - k) = m by omega] at z
          exact .inr z
theorem cl_cut {L : List Nat} {m : Nat} (hm : m ≤ L.length) : ∀ {k : Nat} {st : List (List PyData)} {d : PyData}, Cl L k st d → k ≤ m → BotC st → (∃ d', Cl (L.take m) k st d') ∨ ClE (L.take m) k st m
  | k, _, _, .close (top := top) (nx := nx) (st := st) h1 h2, hk, b => by
    by_cases e : k = m
    · rw [e]
      have n0 : (L.take m)[m]? = none := List.getElem?_eq_none (by rw [List.length_take]; omega)
      exact .inr (.bad (by rw [n0]; simp) (by rw [n0]; simp))
    · have l1 : (L.take m)[k]? = some 41 := by rw [take_get (by omega)]; exact h1
      have b2 : Bot (nx :: st) := b
      rcases cl_cut hm h2 (by omega) (cS_snoc b2 _).2 with ⟨d', g⟩ | g
      · exact .inl ⟨d', .close l1 g⟩
      · exact .inr (.close l1 g)
  | k, _, d, .done h1, hk, b => by
    have e : m = L.length := by omega
    exact .inl ⟨d, .done (by rw [List.length_take]; omega)⟩
  | k, _, _, .sep (top := top) (nx := nx) (st := st) h1 h2, hk, b => by
    by_cases e : k = m
    · rw [e]
      have n0 : (L.take m)[m]? = none := List.getElem?_eq_none (by rw [List.length_take]; omega)
      exact .inr (.bad (by rw [n0]; simp) (by rw [n0]; simp))
    · have l1 : (L.take m)[k]? = some 32 := by rw [take_get (by omega)]; exact h1
      rcases go_cut hm h2 (by omega) b with ⟨d', g⟩ | g
      · exact .inl ⟨d', .sep l1 g⟩
      · exact .inr (.sep l1 g)
end
/-- each beginning of a writing is one itself, or is refused at its end -/
theorem begins {d : PyData} (h : Ok d) {m : Nat} (hm : m ≤ (wr d).length) : (∃ d', Go ((wr d).take m) 0 [[]] d') ∨ GoE ((wr d).take m) 0 [[]] m := go_cut hm (go_all h) (Nat.zero_le _) rfl
end Vl

set_option autoImplicit false
set_option maxHeartbeats 2000000
namespace Vl
open PySem PySem.Spec PyProof.Rows L2 TL CwR PySem.StrLaws
/-! ### where a text is refused, what stands behind the next sign does not matter -/
def TR.pos : TR → Nat
  | .ok _ n => n
  | .err n => n
theorem up_pos (p : List Nat) (k : Nat) (t : TR) : (t.up p k).pos = t.pos + k := by cases t <;> rfl
theorem txt_local : ∀ (r s : List Nat), (txtM r).pos < r.length → txtM (r.take ((txtM r).pos + 1) ++ s) = txtM r
  | [], s, h => by cases h
  | [c], s, h => by
    by_cases e : c = 34
    · have e1 : txtM [c] = .ok [] 1 := if_pos e
      rw [e1] at h
      exact absurd h (Nat.lt_irrefl 1)
    · by_cases p : plain c
      · have e1 : txtM [c] = .err 1 := (if_neg e).trans (if_pos p)
        rw [e1] at h
        exact absurd h (Nat.lt_irrefl 1)
      · have e1 : txtM [c] = .err 0 := (if_neg e).trans (if_neg p)
        rw [e1]
        cases s with
        | nil => exact e1
        | cons x s => exact (if_neg e).trans (if_neg p)
  | c :: e :: r, s, h => by
    by_cases e1 : c = 34
    · by_cases e2 : e = 34
      · have ee : ∀ z, txtM (c :: e :: z) = (txtM z).up [34] 2 := fun z => (if_pos e1).trans (if_pos e2)
        rw [ee, up_pos] at h ⊢
        have ih := txt_local r s (by simp at h; omega)
        have et : (c :: e :: r).take ((txtM r).pos + 2 + 1) ++ s = c :: e :: (r.take ((txtM r).pos + 1) ++ s) := rfl
        rw [et, ee, ih]
      · have ee : ∀ z, txtM (c :: e :: z) = .ok [] 1 := fun z => (if_pos e1).trans (if_neg e2)
        rw [ee]
        exact ee s
    · by_cases p : plain c
      · have ee : ∀ z, txtM (c :: e :: z) = (txtM (e :: z)).up [c] 1 := fun z => (if_neg e1).trans (if_pos p)
        rw [ee, up_pos] at h ⊢
        have ih := txt_local (e :: r) s (by simp at h ⊢; omega)
        have et : (c :: e :: r).take ((txtM (e :: r)).pos + 1 + 1) ++ s = c :: e :: (r.take (txtM (e :: r)).pos ++ s) := rfl
        rw [et, ee]
        have et2 : (e :: r).take ((txtM (e :: r)).pos + 1) ++ s = e :: (r.take (txtM (e :: r)).pos ++ s) := rfl
        rw [et2] at ih
        rw [ih]
      · have e3 : ∀ z, txtM (c :: e :: z) = .err 0 := fun z => (if_neg e1).trans (if_neg p)
        rw [e3]
        show txtM (c :: s) = .err 0
        cases s with
        | nil => exact (if_neg e1).trans (if_neg p)
        | cons x s => exact (if_neg e1).trans (if_neg p)
theorem cnt_local : ∀ (m : Nat) (l s : List Nat), cnt m l < l.length → cnt m (l.take (cnt m l + 1) ++ s) = cnt m l
  | 0, l, s, _ => rfl
  | m + 1, [], s, h => by cases h
  | m + 1, c :: r, s, h => by
    by_cases a : 48 ≤ c ∧ c ≤ 57
    · have e : ∀ z, cnt (m + 1) (c :: z) = cnt m z + 1 := fun z => (if_pos a).trans (Nat.add_comm ..)
      rw [e] at h ⊢
      have ih := cnt_local m r s (by simp at h; omega)
      show cnt (m + 1) (c :: (r.take (cnt m r + 1) ++ s)) = _
      rw [e, ih]
    · have e : ∀ z, cnt (m + 1) (c :: z) = 0 := fun z => if_neg a
      rw [e]
      exact e s
theorem figs_local (l s : List Nat) (h : figs l < l.length) : figs (l.take (figs l + 1) ++ s) = figs l := by
  cases l with
  | nil => cases h
  | cons c r =>
    by_cases a : 49 ≤ c ∧ c ≤ 57
    · have e : ∀ z, figs (c :: z) = cnt 39 z + 1 := fun z => (if_pos a).trans (Nat.add_comm ..)
      rw [e] at h ⊢
      have ih := cnt_local 39 r s (by simp at h; omega)
      show figs (c :: (r.take (cnt 39 r + 1) ++ s)) = _
      rw [e, ih]
    · have e : ∀ z, figs (c :: z) = 0 := fun z => if_neg a
      rw [e]
      exact e s
theorem numLen_local (l s : List Nat) (h0 : 0 < numLen l) (h : numLen l < l.length) : numLen (l.take (numLen l + 1) ++ s) = numLen l := by
  cases l with
  | nil => cases h
  | cons c r =>
    have e1 := numLen_cons c r
    show numLen (c :: (r.take (numLen (c :: r)) ++ s)) = _
    rw [numLen_cons]
    by_cases a : c = 48
    · rw [if_pos a] at e1 ⊢
      omega
    · rw [if_neg a] at e1 ⊢
      by_cases b : c = 45
      · rw [if_pos b] at e1 ⊢
        by_cases f : figs r = 0
        · rw [if_pos f] at e1; omega
        · rw [if_neg f] at e1
          have fl := figs_local r s (by simp at h; omega)
          rw [e1, Nat.add_comm 1, fl, if_neg f, Nat.add_comm]
      · rw [if_neg b] at e1 ⊢
        have fl := figs_local (c :: r) s (by omega)
        rw [e1]
        exact fl
theorem flat_local {l : List Nat} {v : PyData} {n : Nat} (h : Flat l v n) (hn : n < l.length) (s : List Nat) : Flat (l.take (n + 1) ++ s) v n := by
  cases h with
  | txt h =>
    rename_i r u m
    have z := txt_local r s (by rw [h]; show m < r.length; simp at hn; omega)
    rw [h] at z
    exact .txt z
  | num h1 h2 h3 h4 h5 =>
    cases l with
    | nil => cases hn
    | cons c r =>
      have en := numLen_local (c :: r) s (by omega) (by omega)
      rw [h2] at en
      refine .num h1 en h3 h4 ?_
      rw [List.take_append_of_le_length (by rw [List.length_take]; omega), List.take_take, Nat.min_eq_left (by omega)]
      exact h5
  | minus h =>
    rename_i r
    cases r with
    | nil => simp at hn
    | cons x r =>
      refine .minus (r := x :: s) ?_
      have e1 := numLen_cons 45 (x :: r)
      rw [if_neg (by decide), if_pos rfl] at e1
      have e2 := numLen_cons 45 (x :: s)
      rw [if_neg (by decide), if_pos rfl] at e2
      by_cases a : 49 ≤ x ∧ x ≤ 57
      · have f1 : figs (x :: r) = 1 + cnt 39 r := if_pos a
        rw [if_neg (by omega)] at e1
        omega
      · have f2 : figs (x :: s) = 0 := if_neg a
        rw [if_pos f2] at e2
        exact e2
  | plus => exact .plus
  | bang => exact .bang
theorem flatE_local {l : List Nat} {n : Nat} (h : FlatE l n) (hn : n < l.length) (s : List Nat) : FlatE (l.take (n + 1) ++ s) n := by
  cases h with
  | txt h =>
    rename_i r m
    have z := txt_local r s (by rw [h]; show m < r.length; simp at hn; omega)
    rw [h] at z
    exact .txt z
  | none h1 h2 h3 h4 h5 =>
    cases l with
    | nil => cases hn
    | cons c r =>
      refine .none (l := c :: s) h1 ?_ h3 h4 h5
      have e1 := numLen_cons c r
      have e2 := numLen_cons c s
      have c45 : c ≠ 45 := fun z => h3 (by rw [z]; rfl)
      by_cases a : c = 48
      · rw [if_pos a] at e1; omega
      · rw [if_neg a, if_neg c45] at e1 e2
        by_cases b : 49 ≤ c ∧ c ≤ 57
        · have f1 : figs (c :: r) = 1 + cnt 39 r := if_pos b
          omega
        · have f2 : figs (c :: s) = 0 := if_neg b
          omega
mutual
theorem goE_le {L : List Nat} : ∀ {k : Nat} {st : List (List PyData)} {e : Nat}, GoE L k st e → k ≤ e
  | _, _, _, .more _ _ g => Nat.le_of_succ_le (goE_le g)
  | _, _, _, .empty _ _ g => Nat.le_of_succ_le (clE_le g)
  | _, _, _, .flat _ _ g => Nat.le_trans (Nat.le_add_right ..) (clE_le g)
  | _, _, _, .bad _ _ => Nat.le_add_right ..
theorem clE_le {L : List Nat} : ∀ {k : Nat} {st : List (List PyData)} {e : Nat}, ClE L k st e → k ≤ e
  | _, _, _, .close _ g => Nat.le_of_succ_le (clE_le g)
  | _, _, _, .rest _ => Nat.le_refl _
  | _, _, _, .sep _ g => Nat.le_of_succ_le (goE_le g)
  | _, _, _, .bad _ _ => Nat.le_refl _
end
theorem loc_get {L s : List Nat} {e i : Nat} (he : e < L.length) (hi : i ≤ e) : (L.take (e + 1) ++ s)[i]? = L[i]? := by
  rw [List.getElem?_append_left (by rw [List.length_take]; omega), List.getElem?_take, if_pos (by omega)]
theorem loc_drop {L s : List Nat} {e k n : Nat} (he : e < L.length) (hk : k + n ≤ e) : ∃ s', (L.take (e + 1) ++ s).drop k = (L.drop k).take (n + 1) ++ s' := by
  refine ⟨((L.drop k).drop (n + 1)).take (e - k - n) ++ s, ?_⟩
  rw [List.drop_append_of_le_length (by rw [List.length_take]; omega), List.drop_take, ← List.append_assoc, ← List.take_add]
  rw [show e + 1 - k = n + 1 + (e - k - n) by omega]
mutual
theorem goE_local {L : List Nat} {e : Nat} (he : e < L.length) (s : List Nat) : ∀ {k : Nat} {st : List (List PyData)}, GoE L k st e → GoE (L.take (e + 1) ++ s) k st e
  | k, st, .more h1 h2 g => by
    have := goE_le g
    exact .more (by rw [loc_get he (by omega)]; exact h1) (by rw [loc_get he (by omega)]; exact h2) (goE_local he s g)
  | k, st, .empty h1 h2 g => by
    have := clE_le g
    exact .empty (by rw [loc_get he (by omega)]; exact h1) (by rw [loc_get he (by omega)]; exact h2) (clE_local he s g)
  | k, _, .flat (n := n) h1 h2 g => by
    have := clE_le g
    obtain ⟨s', es⟩ := loc_drop (s := s) he this
    refine .flat (n := n) (by rw [loc_get he (by omega)]; exact h1) ?_ (clE_local he s g)
    rw [es]
    exact flat_local h2 (by rw [List.length_drop]; omega) s'
  | k, st, .bad (n := n) h1 h2 => by
    obtain ⟨s', es⟩ := loc_drop (k := k) (n := n) (s := s) he (Nat.le_refl _)
    refine .bad (by rw [loc_get he (by omega)]; exact h1) ?_
    rw [es]
    exact flatE_local h2 (by rw [List.length_drop]; omega) s'
theorem clE_local {L : List Nat} {e : Nat} (he : e < L.length) (s : List Nat) : ∀ {k : Nat} {st : List (List PyData)}, ClE L k st e → ClE (L.take (e + 1) ++ s) k st e
  | k, _, .close h1 g => by
    have := clE_le g
    exact .close (by rw [loc_get he (by omega)]; exact h1) (clE_local he s g)
  | _, _, .rest h => .rest (by rw [List.length_append, List.length_take]; omega)
  | k, _, .sep h1 g => by
    have := goE_le g
    exact .sep (by rw [loc_get he (by omega)]; exact h1) (goE_local he s g)
  | _, _, .bad h1 h2 => .bad (by rw [loc_get he (Nat.le_refl _)]; exact h1) (by rw [loc_get he (Nat.le_refl _)]; exact h2)
end
end Vl

set_option autoImplicit false
set_option maxHeartbeats 4000000
namespace Vl
open PySem PySem.Spec PyProof.Rows L2 TL CwR PySem.StrLaws
/-! ### the refusal -/
def inCls (s : Stmt) (i : Nat) : Stmt := match s with
  | .ClassDef _ _ _ b _ _ _ _ _ _ _ => b.getD i (.Pass ⟨0, 0, 0, 0⟩)
  | _ => .Pass ⟨0, 0, 0, 0⟩
abbrev sInit : Stmt := inCls (top 1) 0
theorem scInit : FnScope ["self", "at"] ["self", "at"] (defScope sInit) := ⟨rfl, rfl, rfl, by decide +kernel, rfl, by decide +kernel, by decide +kernel⟩
def spInit (K : PySem.W.Frag) (C : Addr) : Sp := fun vs H Q _ => ∃ (a : Addr) (v : V), vs = [.ref a, v] ∧ H a = some (exo a C none) ∧ ∀ dx, H dx = none → dx ≠ a → Q .non (upd (upd H dx (exd dx [("at", v)])) a (exo a C (some dx)))
/-- what is known of the class -/
structure NoV (K : PySem.W.Frag) (mg : Str → Option Value) (C fI : Addr) (fdI : FuncData) : Prop where
  ox : OexC K C
  g : mg "NoValue" = some (.ref C)
  noAt : PySem.W.findIn K (.ref C) "at" = some none
  iC : PySem.W.findIn K (.ref C) "__init__" = some (some (.ref fI))
  tI : PySem.W.typeIn K (.ref fI) = some (.type "function")
  fn : FunD K "__init__" "NoValue.__init__" (defArgs sInit) (defBody sInit) (defScope sInit) [] [] fI fdI
section
variable {P : Program} {w : World} {K : PySem.W.Frag} {mg : Str → Option Value} {base : Heap}
theorem ok_init {C fI : Addr} {fdI : FuncData} (T : NoV K mg C fI fdI) : FnOk P w K mg base CX0 1 fI fdI ["self", "at"] (spInit K C) := by
  refine T.fn.ok scInit (fun vs H Q E h => ?_) (fun cdv A outer s H vs Q E hr h => ?_)
  · obtain ⟨a, v, rfl, _⟩ := h
    rfl
  · obtain ⟨a, v, rfl, ha, q⟩ := h
    refine ⟨_, PSs.nox (pss_one (ps_ost (pv 0) (pv 1))), ?_⟩
    exact ⟨_, rfl, _, rfl, a, C, rfl, T.ox, T.noAt, .inl ⟨ha, fun dx hd hn => q dx hd hn⟩⟩
/-- how the refusal leaves a def -/
def Out (C : Addr) (E : XK) (H : Hp) (n : Nat) : Prop := ∀ (H' : Hp) (d : Addr), Same H H' → H d = none → H' d = some (.xd [("at", .int (n : Int))]) → E (.ref C) (some d) H'
theorem out_of {C : Addr} {H1 : Hp} {W : XK} {n : Nat} (h : Out C W H1 n) : ([V.int (n : Int)] : List V).length ≤ 1000 ∧ ∀ a, H1 a = none →
    spInit K C (.ref a :: ([V.int (n : Int)] ++ [])) (upd H1 a (exo a C none)) (fun v H2 => v = .non ∧ ∃ (d : Addr) (fs : List (Str × V)), H2 a = some (exo a C (some d)) ∧ H2 d = some (exd d fs) ∧ H1 d = none ∧ W (.ref C) (some d) (upd (del H2 a) d (.xd fs))) (fun _ _ _ => False) := by
  refine ⟨by simp, fun a na => ⟨a, .int (n : Int), rfl, upd_same, fun dx hd hn => ?_⟩⟩
  have hd1 : H1 dx = none := by rw [← hd, upd_ne hn]
  refine ⟨rfl, dx, [("at", .int (n : Int))], upd_same, by rw [upd_ne hn, upd_same], hd1, h _ dx (fun b x e => ?_) hd1 upd_same⟩
  have nb : b ≠ dx := ne_of_none e hd1
  have na : b ≠ a := ne_of_none e na
  rw [upd_ne nb]
  show (if b = a then none else _) = _
  rw [if_neg na, upd_ne na, upd_ne nb, upd_ne na]
  exact e
theorem bindI {C fI : Addr} {fdI : FuncData} (T : NoV K mg C fI fdI) : Binds K fdI ["self", "at"] [] := T.fn.bindsN fun _ _ _ _ _ _ us hl => match us, hl with | [_, _], _ => rfl
end
end Vl

set_option autoImplicit false
set_option maxHeartbeats 4000000
namespace Vl
open PySem PySem.Spec PyProof.Rows L2 TL CwR PySem.StrLaws
theorem up_up (p q : List Nat) (k l : Nat) (t : TR) : (t.up p k).up q l = t.up (q ++ p) (k + l) := by
  cases t with
  | ok v n =>
    show TR.ok (q ++ (p ++ v)) (n + k + l) = TR.ok (q ++ p ++ v) (n + (k + l))
    rw [List.append_assoc, Nat.add_assoc]
  | err n =>
    show TR.err (n + k + l) = TR.err (n + (k + l))
    rw [Nat.add_assoc]
theorem up_nil (t : TR) : t.up [] 0 = t := by cases t <;> rfl
theorem txtM_plain {c : Nat} (h : plain c) (l : List Nat) : txtM (c :: l) = (txtM l).up [c] 1 := by
  have c34 : c ≠ 34 := h.2.2.1
  cases l with
  | nil => exact (if_neg c34).trans (if_pos h)
  | cons e r => exact (if_neg c34).trans (if_pos h)
/-- the next step of reading a text: refused, closed, or a quote written twice -/
theorem txtM_case : ∀ l : List Nat, ((l.drop (plainLen l)).head? ≠ some 34 ∧ txtM l = .err (plainLen l)) ∨
    (∃ r, l.drop (plainLen l) = 34 :: r ∧ r.head? ≠ some 34 ∧ txtM l = .ok (l.take (plainLen l)) (plainLen l + 1)) ∨
    (∃ r, l.drop (plainLen l) = 34 :: 34 :: r ∧ txtM l = (txtM r).up (l.take (plainLen l) ++ [34]) (plainLen l + 2))
  | [] => .inl ⟨by simp, rfl⟩
  | c :: l => by
    by_cases p : plain c
    · have ep : plainLen (c :: l) = plainLen l + 1 := (if_pos p).trans (Nat.add_comm ..)
      have et := txtM_plain p l
      rw [ep, et]
      show ((l.drop (plainLen l)).head? ≠ some 34 ∧ _) ∨ (∃ r, l.drop (plainLen l) = 34 :: r ∧ r.head? ≠ some 34 ∧ _ = TR.ok (c :: l.take (plainLen l)) _) ∨ (∃ r, l.drop (plainLen l) = 34 :: 34 :: r ∧ _ = (txtM r).up (c :: l.take (plainLen l) ++ [34]) _)
      rcases txtM_case l with ⟨a, b⟩ | ⟨r, a, b, d⟩ | ⟨r, a, b⟩
      · exact .inl ⟨a, by rw [b]; rfl⟩
      · exact .inr (.inl ⟨r, a, b, by rw [d]; rfl⟩)
      · exact .inr (.inr ⟨r, a, by rw [b, up_up]; rfl⟩)
    · have ep : plainLen (c :: l) = 0 := if_neg p
      rw [ep]
      by_cases e : c = 34
      · subst e
        cases l with
        | nil => exact .inr (.inl ⟨[], rfl, by simp, rfl⟩)
        | cons x r =>
          by_cases e2 : x = 34
          · subst e2
            exact .inr (.inr ⟨r, rfl, rfl⟩)
          · refine .inr (.inl ⟨x :: r, rfl, by simpa using e2, ?_⟩)
            exact (if_pos rfl).trans (if_neg e2)
      · refine .inl ⟨by simpa using e, ?_⟩
        cases l with
        | nil => exact (if_neg e).trans (if_neg p)
        | cons x r => exact (if_neg e).trans (if_neg p)
/-- read, or refused -/
def spTextE (C : Addr) : Sp := fun vs H Q E => ∃ (t : Str) (k : Nat), vs = [.str t, .int (k : Int)] ∧ t.length ≤ 10000000 ∧ k ≤ t.length ∧
  (∀ (v : List Nat) (n : Nat), txtM ((tl t).drop k) = .ok v n → ∀ (H' : Hp) (p : Addr) (r : Str), Same H H' → H p = none → tl r = v → H' p = some (.tup [.str r, .int ((k + n : Nat) : Int)]) → Q (.ref p) H') ∧
  (∀ n, txtM ((tl t).drop k) = .err n → Out C E H (k + n))
theorem Out.later {C : Addr} {E : XK} {H H1 : Hp} {n : Nat} (o : Out C E H n) (s : Same H H1) : Out C E H1 n := fun H' d s' hd e => o H' d (s.trans s') (s.free hd) e
section
variable {P : Program} {w : World} {K : PySem.W.Frag} {mg : Str → Option Value} {base : Heap}
theorem ok_textE {C fI : Addr} {fdI : FuncData} (T : NoV K mg C fI fdI) {f fB : Addr} {fd fdB : FuncData} {k : Nat} (F : FnP K "_read_text" sText f fd) (FB : FnP K "_behind_plain_signs" sBehind fB fdB) (gB : mg "_behind_plain_signs" = some (.ref fB)) (GB : FnOk P w K mg base CX0 3 fB fdB ["text", "at"] spBehind) : FnOk P w K mg base (L2.CX P w) 4 f fd ["text", "at"] (spTextE C) := by
  have bB : Binds K fdB ["text", "at"] [] := FB.bindsN fun _ _ _ _ _ _ us hl => match us, hl with | [_, _], _ => rfl
  refine F.ok scText (fun vs H Q E h => ?_) (fun cdv A outer s H vs Q E hr h => ?_)
  · obtain ⟨t, k0, rfl, _⟩ := h
    rfl
  · obtain ⟨t, k0, rfl, hz0, hk0, q, qe⟩ := h
    have hs := szl
    have hz : t.length ≤ sizeLine := by omega
    have hl := len_tl t
    have t34 : tl (Str.ofString "\"") = [34] := by decide +kernel
    have l34 : (Str.ofString "\"").length = 1 := by decide +kernel
    have GI : FnOk P w K mg base CX0 1 fI fdI ["self", "at"] (spInit K C) := ok_init T
    refine ⟨_, pss_cons (ps_set (i := 2) scText.nd rfl (.inl rfl) (pe_lst pa_nil))
      (pss_one (ps_while PassesOwn.leaving (pt_val pe_bl) (pss_cons (ps_set (i := 3) scText.nd rfl (.inl rfl) (pe_call GB hr (by rfl) gB FB.kp bB .nil pass0 (pa_cons (pv 0) (pa_cons (pv 1) pa_nil))))
      (pss_cons (ps_expr (pe_bm PySem.F.plainAttrs_list PySem.F.slot_list_append PySem.F.type_list_append mt_append (pv 2) (pa_cons (pe_slice sl_str (pv 0) (po_some (pv 1)) (po_some (pv 3))) pa_nil)))
      (pss_cons (ps_if (pt_cmpR op_ne (pe_slice sl_str (pv 0) (po_some (pv 3)) (po_some (pe_op op_add (pv 3) (pe_int)))) (pe_str) (nomark _)) (pss_one (ps_raise rfl (takes_of rfl rfl rfl rfl) (pmk_oex T.ox T.iC T.tI GI (hr.mono (by decide)) (bindI T) .nil pass0 (by rfl) T.g (pa_cons (pv 3) pa_nil)))) pss_nil)
      (pss_cons (ps_if (pt_cmpR op_ne (pe_slice sl_str (pv 0) (po_some (pe_op op_add (pv 3) (pe_int))) (po_some (pe_op op_add (pv 3) (pe_int)))) (pe_str) (nomark _)) (pss_one (ps_ret (pe_tup (pa_cons (pe_join pe_str (pv 2)) (pa_cons (pe_op op_add (pv 3) (pe_int)) pa_nil))))) pss_nil)
      (pss_cons (ps_expr (pe_bm PySem.F.plainAttrs_list PySem.F.slot_list_append PySem.F.type_list_append mt_append (pv 2) (pa_cons (pe_str) pa_nil)))
      (pss_one (ps_set (i := 1) scText.nd rfl (.inl rfl) (pe_op op_add (pv 3) (pe_int))))))))))), ?_⟩
    refine ⟨Nat.zero_le _, fun pa npa => ?_⟩
    let I : Nat → L2.St → Hp → Prop := fun m σ H' => ∃ (j : Nat) (ps : List Str) (y3 : Option V), σ = [some (.str t), some (.int (j : Int)), some (.ref pa), y3] ∧ H' pa = some (.lst (ps.map V.str)) ∧ Same H H' ∧ txtM ((tl t).drop k0) = (txtM ((tl t).drop j)).up (flat ps) (j - k0) ∧ k0 ≤ j ∧ j ≤ t.length ∧ ps.length ≤ j ∧ (flat ps).length ≤ j ∧ m = t.length - j
    refine ⟨I, ⟨t.length - k0, k0, [], none, rfl, upd_same, same_upd npa, ?_, Nat.le_refl _, hk0, Nat.zero_le _, Nat.zero_le _, rfl⟩, ?_⟩
    · rw [Nat.sub_self]
      exact (up_nil _).symm
    rintro m σ H' ⟨j, ps, y3, rfl, hp, sm, hup, hkj, hjt, hpl, hfl, rfl⟩
    have hplen := plainLen_le ((tl t).drop j)
    rw [List.length_drop] at hplen
    obtain ⟨e, he⟩ : ∃ e, e = j + plainLen ((tl t).drop j) := ⟨_, rfl⟩
    have hde : ((tl t).drop j).drop (plainLen ((tl t).drop j)) = (tl t).drop e := by rw [he, List.drop_drop]
    have hpc : tl (cutS t (some (j : Int)) (some (e : Int))) = ((tl t).drop j).take (plainLen ((tl t).drop j)) := by
      rw [tl_cut, show e - j = plainLen ((tl t).drop j) by omega]
    refine ⟨_, rfl, iteT ⟨fun σ' H2 => ∃ m', m' < t.length - j ∧ I m' σ' H2, fun _ _ h => h, ?_⟩⟩
    refine ⟨_, rfl, _, rfl, t, j, rfl, hz, ?_⟩
    rw [← he]
    refine ⟨_, rfl, .inl ⟨rfl, _, SqL.of hp⟩, _, rfl, _, rfl, (j : Int), rfl, _, rfl, (e : Int), rfl, t, rfl, hz, pa, _, _, rfl, rfl, hp, by rw [List.length_map]; omega, ?_⟩
    have hp1 : upd H' pa (.lst (ps.map V.str ++ [V.str (cutS t (some (j : Int)) (some (e : Int)))])) pa = some (.lst ((ps ++ [cutS t (some (j : Int)) (some (e : Int))]).map V.str)) := by rw [upd_same, List.map_append]; rfl
    have sm1 : Same H (upd H' pa (.lst (ps.map V.str ++ [V.str (cutS t (some (j : Int)) (some (e : Int)))]))) := same_put sm npa
    generalize upd H' pa (.lst (ps.map V.str ++ [V.str (cutS t (some (j : Int)) (some (e : Int)))])) = H1 at hp1 sm1
    refine ⟨_, rfl, _, rfl, (e : Int), rfl, _, rfl, (e : Int), 1, rfl, rfl, (e : Int) + 1, rfl, t, rfl, hz, rfl, _, rfl, ?_⟩
    show if (!decide (V.str (sg t e) = V.str (Str.ofString "\""))) = true then _ else _
    have hsg : ∀ i, (V.str (sg t i) = V.str (Str.ofString "\"")) ↔ ((tl t).drop i).head? = some 34 := fun i => by
      rw [sg_eq t34, List.head?_drop]
    have hfs : flat (ps ++ [cutS t (some (j : Int)) (some (e : Int))]) = flat ps ++ ((tl t).drop j).take (plainLen ((tl t).drop j)) := by
      rw [flat_snoc, hpc]
    have htk : (((tl t).drop j).take (plainLen ((tl t).drop j))).length = plainLen ((tl t).drop j) := by
      rw [List.length_take, List.length_drop]
      omega
    rcases txtM_case ((tl t).drop j) with ⟨a, b⟩ | ⟨r, a, b, d⟩ | ⟨r, a, b⟩
    · -- refused
      rw [hde] at a
      rw [decide_eq_false (fun h => a ((hsg e).mp h))]
      refine iteT ⟨_, rfl, ?_⟩
      have hn : txtM ((tl t).drop k0) = .err (plainLen ((tl t).drop j) + (j - k0)) := by rw [hup, b]; rfl
      have o := (qe _ hn).later sm1
      rw [show k0 + (plainLen ((tl t).drop j) + (j - k0)) = e by omega] at o
      exact out_of o
    · rw [hde] at a
      rw [decide_eq_true ((hsg e).mpr (by rw [a]; rfl))]
      refine iteF ?_
      have hd1 : (tl t).drop (e + 1) = r := drop_next (p := [34]) a
      refine ⟨_, rfl, _, rfl, (e : Int), 1, rfl, rfl, ((e + 1 : Nat) : Int), rfl, _, rfl, (e : Int), 2, rfl, rfl, ((e + 1 : Nat) : Int) + 1, rfl, t, rfl, hz, rfl, _, rfl, ?_⟩
      show if (!decide (V.str (sg t (e + 1)) = V.str (Str.ofString "\""))) = true then _ else _
      rw [decide_eq_false (fun h => b (by rw [← hd1]; exact (hsg (e + 1)).mp h))]
      refine iteT ?_
      have hn : txtM ((tl t).drop k0) = .ok (flat ps ++ ((tl t).drop j).take (plainLen ((tl t).drop j))) (plainLen ((tl t).drop j) + 1 + (j - k0)) := by rw [hup, d]; rfl
      refine ⟨⟨_, rfl⟩, _, rfl, Str.ofString "", pa, ps ++ [cutS t (some (j : Int)) (some (e : Int))], rfl, rfl, .inl (SqL.of hp1), ?_, _, rfl, (e : Int), 1, rfl, rfl, by show 2 ≤ sizeLine; omega, fun p np => ?_⟩
      · have l0 : (Str.ofString "").length = 0 := by decide +kernel
        rw [l0, flat_len, hfs, List.length_append, htk]
        omega
      · refine q _ _ hn _ p (Txt.join (Str.ofString "") (ps ++ [cutS t (some (j : Int)) (some (e : Int))])) (sm1.trans (same_upd np)) (sm1.free np) ?_ ?_
        · have t0 : tl (Str.ofString "") = [] := by decide +kernel
          rw [join_eq, tl_join, t0, joinL_nil]
          exact hfs
        · rw [upd_same]
          have e1 : ((k0 + (plainLen ((tl t).drop j) + 1 + (j - k0)) : Nat) : Int) = (e : Int) + 1 := by omega
          rw [e1]
    · rw [hde] at a
      rw [decide_eq_true ((hsg e).mpr (by rw [a]; rfl))]
      refine iteF ?_
      have hd1 : (tl t).drop (e + 1) = 34 :: r := drop_next (p := [34]) a
      have hd2 : (tl t).drop (e + 2) = r := drop_next (p := [34]) hd1
      have hel : e + 2 ≤ t.length := by
        have := congrArg List.length a
        rw [List.length_drop, List.length_cons, List.length_cons] at this
        omega
      refine ⟨_, rfl, _, rfl, (e : Int), 1, rfl, rfl, ((e + 1 : Nat) : Int), rfl, _, rfl, (e : Int), 2, rfl, rfl, ((e + 1 : Nat) : Int) + 1, rfl, t, rfl, hz, rfl, _, rfl, ?_⟩
      show if (!decide (V.str (sg t (e + 1)) = V.str (Str.ofString "\""))) = true then _ else _
      rw [decide_eq_true ((hsg (e + 1)).mpr (by rw [hd1]; rfl))]
      refine iteF ?_
      refine ⟨_, rfl, .inl ⟨rfl, _, SqL.of hp1⟩, pa, _, _, rfl, rfl, hp1, by rw [List.length_map, List.length_append]; show ps.length + 1 < sizeLine; omega, ?_⟩
      refine ⟨_, rfl, (e : Int), 2, rfl, rfl, t.length - (e + 2), by omega, e + 2, ps ++ [cutS t (some (j : Int)) (some (e : Int))] ++ [Str.ofString "\""], _, rfl, ?_, same_put sm1 npa, ?_, by omega, hel, ?_, ?_, rfl⟩
      · rw [upd_same, List.map_append (l₂ := [Str.ofString "\""])]
        rfl
      · rw [hup, b, up_up, hd2, flat_snoc, hfs, t34, List.append_assoc]
        congr 1
        omega
      · rw [List.length_append, List.length_append]
        show ps.length + 1 + 1 ≤ e + 2
        omega
      · rw [flat_snoc, hfs, t34, List.length_append, List.length_append, htk]
        show (flat ps).length + _ + 1 ≤ _
        omega
end
end Vl

set_option autoImplicit false
set_option maxHeartbeats 4000000
namespace Vl
open PySem PySem.Spec PyProof.Rows L2 TL CwR PySem.StrLaws
/-- the table of signs, and that nothing else is in it -/
structure SignsE (K : PySem.W.Frag) (w : World) (mg : Str → Option Value) : Prop where
  ex : ∃ (d : Addr) (es : Array DictEntry) (n : Nat), KDict K w d es n ∧ mg "SIGNS" = some (.ref d) ∧ (∃ u, PySem.W.nsIn K d "-" = some (some u) ∧ RelV .non u) ∧ (∃ u, PySem.W.nsIn K d "+" = some (some u) ∧ RelV (.bl true) u) ∧ (∃ u, PySem.W.nsIn K d "!" = some (some u) ∧ RelV (.bl false) u) ∧
    ∀ z : Str, z ≠ "-" → z ≠ "+" → z ≠ "!" → PySem.W.nsIn K d z = some none
def spReadFlatE (C : Addr) : Sp := fun vs H Q E => ∃ (t : Str) (k : Nat), vs = [.str t, .int (k : Int)] ∧ t.length ≤ 10000000 ∧ k ≤ t.length ∧
  (∀ d n, Flat ((tl t).drop k) d n → ∀ H' p x, Same H H' → H p = none → H' p = some (.tup [x, .int ((k + n : Nat) : Int)]) → Vd H' x d → Q (.ref p) H') ∧ (∀ n, FlatE ((tl t).drop k) n → Out C E H (k + n))
section
variable {P : Program} {w : World} {K : PySem.W.Frag} {mg : Str → Option Value} {base : Heap}
theorem ok_readflatE {C fI : Addr} {fdI : FuncData} (T : NoV K mg C fI fdI) {f fT fN : Addr} {fd fdT fdN : FuncData} (F : FnP K "_read_flat" sReadFlat f fd) (FT : FnP K "_read_text" sText fT fdT) (gT : mg "_read_text" = some (.ref fT)) (GT : FnOk P w K mg base (L2.CX P w) 4 fT fdT ["text", "at"] (spTextE C))
    (FN : FnP K "_behind_number" sNumber fN fdN) (gN : mg "_behind_number" = some (.ref fN)) (GN : FnOk P w K mg base CX0 4 fN fdN ["text", "at"] spNumber) (S : SignsE K w mg) (mi : mg "int" = none) :
    FnOk P w K mg base (L2.CX P w) 5 f fd ["text", "at"] (spReadFlatE C) := by
  have bT : Binds K fdT ["text", "at"] [] := FT.bindsN fun _ _ _ _ _ _ us hl => match us, hl with | [_, _], _ => rfl
  have bN : Binds K fdN ["text", "at"] [] := FN.bindsN fun _ _ _ _ _ _ us hl => match us, hl with | [_, _], _ => rfl
  obtain ⟨dS, es, nS, D, gS, ⟨u1, e1, r1⟩, ⟨u2, e2, r2⟩, ⟨u3, e3, r3⟩, eo⟩ := S.ex
  refine F.ok scReadFlat (fun vs H Q E h => ?_) (fun cdv A outer s H vs Q E hr h => ?_)
  · obtain ⟨t, k, rfl, _⟩ := h
    rfl
  · obtain ⟨t, k0, rfl, hz, hk, q0, qe⟩ := h
    have hs := szl
    have hr2 : Room 2 _ := hr.mono (by decide)
    have t34 : tl (Str.ofString "\"") = [34] := by decide +kernel
    have t45 : tl (Str.ofString "-") = [45] := by decide +kernel
    have t43 : tl (Str.ofString "+") = [43] := by decide +kernel
    have t33 : tl (Str.ofString "!") = [33] := by decide +kernel
    have GI : FnOk P w K mg base CX0 1 fI fdI ["self", "at"] (spInit K C) := ok_init T
    refine ⟨_, pss_cons (ps_set (i := 2) scReadFlat.nd rfl (.inl rfl) (pe_slice sl_str (pv 0) (po_some (pv 1)) (po_some (pe_op op_add (pv 1) (pe_int)))))
      (pss_cons (ps_if (pt_cmpR op_eq (pv 2) (pe_str) (nomark _)) (pss_one (ps_ret (pe_callS GT hr (by rfl) gT FT.kp bT (fun σ => passAt (takes_of rfl rfl rfl rfl) σ) (pa_cons (pv 0) (pa_cons (pe_op op_add (pv 1) (pe_int)) pa_nil))))) pss_nil)
      (pss_cons (ps_set (i := 3) scReadFlat.nd rfl (.inl rfl) (pe_call GN hr (by rfl) gN FN.kp bN .nil pass0 (pa_cons (pv 0) (pa_cons (pv 1) pa_nil))))
      (pss_cons (ps_if (pt_cmpR op_gt (pv 3) (pv 1) (nomark _)) (pss_one (ps_ret (pe_tup (pa_cons (pe_callTy call_int_str (by rfl) mi (by decide +kernel) (pa_cons (pe_slice sl_str (pv 0) (po_some (pv 1)) (po_some (pv 3))) pa_nil)) (pa_cons (pv 3) pa_nil))))) pss_nil)
      (pss_cons (ps_if (pt_cmpR (op_in_kd D) (pv 2) (pe_glob (v := .ref dS) (by rfl) gS rfl) (by rfl)) (pss_one (ps_ret (pe_tup (pa_cons (pe_ix (ix_kd D) (pe_glob (v := .ref dS) (by rfl) gS rfl) (pv 2) (fun _ _ => rfl)) (pa_cons (pe_op op_add (pv 1) (pe_int)) pa_nil))))) pss_nil)
      (pss_one (ps_raise rfl (takes_of rfl rfl rfl rfl) (pmk_oex T.ox T.iC T.tI GI hr2 (bindI T) .nil pass0 (by rfl) T.g (pa_cons (pv 1) pa_nil)))))))), ?_⟩
    refine ⟨_, rfl, _, rfl, (k0 : Int), rfl, _, rfl, (k0 : Int), 1, rfl, rfl, (k0 : Int) + 1, rfl, t, rfl, by omega, ?_⟩
    refine ⟨_, rfl, rfl, _, rfl, ?_⟩
    show if decide (V.str (sg t k0) = V.str (Str.ofString "\"")) = true then _ else _
    have dq : decide (V.str (sg t k0) = V.str (Str.ofString "\"")) = decide ((tl t)[k0]? = some 34) := decide_eq_decide.mpr (sg_eq t34)
    rw [dq]
    obtain ⟨l, hl⟩ : ∃ l, (tl t).drop k0 = l := ⟨_, rfl⟩
    rw [hl] at q0 qe
    rcases flat_total l with ⟨d, n, hf⟩ | ⟨n, hf⟩
    · have q := q0 d n hf
      cases hf with
      | txt ht =>
        rename_i r v n'
        have hc : (tl t)[k0]? = some 34 := drop_at hl
        have hkl : k0 < (tl t).length := (List.getElem?_eq_some_iff.mp hc).1
        rw [← len_tl] at hkl
        rw [decide_eq_true hc]
        have hl1 : (tl t).drop (k0 + 1) = r := drop_next (p := [34]) hl
        refine iteT ⟨_, rfl, _, rfl, (k0 : Int), 1, rfl, rfl, t, k0 + 1, rfl, hz, by omega, fun v2 n2 h2 H' p z sm np hz2 hp => ?_, fun n2 h2 => ?_⟩
        · rw [hl1, ht] at h2
          cases h2
          have ez : (⟨v.toArray⟩ : Str) = z := ext_tl hz2.symm
          rw [ez] at q
          refine q H' p (.str z) sm np ?_ (.str z)
          rw [hp]
          congr 6
          omega
        · rw [hl1, ht] at h2
          cases h2
      | num h34 hnl hn0 hn41 hint =>
        rename_i i
        have hc : (tl t)[k0]? ≠ some 34 := by rw [← List.head?_drop, hl]; exact h34
        have hd : decide ((tl t)[k0]? = some 34) = false := decide_eq_false hc
        rw [hd]
        refine iteF ⟨_, rfl, _, rfl, t, k0, rfl, by omega, by omega, ?_⟩
        rw [hl, hnl]
        refine ⟨_, rfl, _, rfl, ((k0 + n : Nat) : Int), (k0 : Int), rfl, rfl, _, rfl, ?_⟩
        have hd2 : decide ((k0 : Int) < ((k0 + n : Nat) : Int)) = true := decide_eq_true (by omega)
        rw [hd2]
        have hcut : cutS t (some (k0 : Int)) (some ((k0 + n : Nat) : Int)) = ⟨(l.take n).toArray⟩ := ext_tl (by
          rw [tl_cut, hl, show k0 + n - k0 = n by omega])
        refine iteT ⟨_, rfl, _, rfl, (k0 : Int), rfl, _, rfl, ((k0 + n : Nat) : Int), rfl, t, rfl, by omega, _, i, rfl, by rw [hcut]; exact hint, ?_, _, rfl, by show 2 ≤ sizeLine; omega, fun p np => ?_⟩
        · rw [len_tl, tl_cut, List.length_take]
          omega
        · exact q _ p (.int i) (same_upd np) np upd_same (.int i)
      | minus hn =>
        rename_i r
        have hc : (tl t)[k0]? = some 45 := drop_at hl
        have hd : decide ((tl t)[k0]? = some 34) = false := decide_eq_false (by rw [hc]; intro z; cases z)
        rw [hd]
        have hsg : sg t k0 = Str.ofString "-" := ext_tl (by rw [tl_sg', hc]; decide +kernel)
        refine iteF ⟨_, rfl, _, rfl, t, k0, rfl, by omega, by omega, ?_⟩
        have hnum : numLen (45 :: r) = 0 := hn
        rw [hl, hnum]
        refine ⟨_, rfl, _, rfl, ((k0 + 0 : Nat) : Int), (k0 : Int), rfl, rfl, _, rfl, ?_⟩
        have hd2 : decide ((k0 : Int) < ((k0 + 0 : Nat) : Int)) = false := decide_eq_false (by omega)
        rw [hd2]
        refine iteF ⟨_, rfl, sg t k0, some u1, rfl, rfl, by rw [hsg]; exact e1, _, rfl, iteT ?_⟩
        refine ⟨_, rfl, sg t k0, u1, .non, rfl, rfl, by rw [hsg]; exact e1, r1, _, rfl, (k0 : Int), 1, rfl, rfl, by show 2 ≤ sizeLine; omega, fun p np => ?_⟩
        exact q _ p .non (same_upd np) np upd_same .non
      | plus =>
        rename_i r
        have hc : (tl t)[k0]? = some 43 := drop_at hl
        have hd : decide ((tl t)[k0]? = some 34) = false := decide_eq_false (by rw [hc]; intro z; cases z)
        rw [hd]
        have hsg : sg t k0 = Str.ofString "+" := ext_tl (by rw [tl_sg', hc]; decide +kernel)
        refine iteF ⟨_, rfl, _, rfl, t, k0, rfl, by omega, by omega, ?_⟩
        have hnum : numLen (43 :: r) = 0 := by simp [numLen, figs]
        rw [hl, hnum]
        refine ⟨_, rfl, _, rfl, ((k0 + 0 : Nat) : Int), (k0 : Int), rfl, rfl, _, rfl, ?_⟩
        have hd2 : decide ((k0 : Int) < ((k0 + 0 : Nat) : Int)) = false := decide_eq_false (by omega)
        rw [hd2]
        refine iteF ⟨_, rfl, sg t k0, some u2, rfl, rfl, by rw [hsg]; exact e2, _, rfl, iteT ?_⟩
        refine ⟨_, rfl, sg t k0, u2, (.bl true), rfl, rfl, by rw [hsg]; exact e2, r2, _, rfl, (k0 : Int), 1, rfl, rfl, by show 2 ≤ sizeLine; omega, fun p np => ?_⟩
        exact q _ p (.bl true) (same_upd np) np upd_same (.bl true)
      | bang =>
        rename_i r
        have hc : (tl t)[k0]? = some 33 := drop_at hl
        have hd : decide ((tl t)[k0]? = some 34) = false := decide_eq_false (by rw [hc]; intro z; cases z)
        rw [hd]
        have hsg : sg t k0 = Str.ofString "!" := ext_tl (by rw [tl_sg', hc]; decide +kernel)
        refine iteF ⟨_, rfl, _, rfl, t, k0, rfl, by omega, by omega, ?_⟩
        have hnum : numLen (33 :: r) = 0 := by simp [numLen, figs]
        rw [hl, hnum]
        refine ⟨_, rfl, _, rfl, ((k0 + 0 : Nat) : Int), (k0 : Int), rfl, rfl, _, rfl, ?_⟩
        have hd2 : decide ((k0 : Int) < ((k0 + 0 : Nat) : Int)) = false := decide_eq_false (by omega)
        rw [hd2]
        refine iteF ⟨_, rfl, sg t k0, some u3, rfl, rfl, by rw [hsg]; exact e3, _, rfl, iteT ?_⟩
        refine ⟨_, rfl, sg t k0, u3, (.bl false), rfl, rfl, by rw [hsg]; exact e3, r3, _, rfl, (k0 : Int), 1, rfl, rfl, by show 2 ≤ sizeLine; omega, fun p np => ?_⟩
        exact q _ p (.bl false) (same_upd np) np upd_same (.bl false)
    · cases hf with
      | txt ht =>
        rename_i r m
        have hc : (tl t)[k0]? = some 34 := drop_at hl
        have hkl : k0 < (tl t).length := (List.getElem?_eq_some_iff.mp hc).1
        rw [← len_tl] at hkl
        rw [decide_eq_true hc]
        have hl1 : (tl t).drop (k0 + 1) = r := drop_next (p := [34]) hl
        refine iteT ⟨_, rfl, _, rfl, (k0 : Int), 1, rfl, rfl, t, k0 + 1, rfl, hz, by omega, fun v2 n2 h2 H' p z sm np hz2 hp => ?_, fun n2 h2 => ?_⟩
        · rw [hl1, ht] at h2
          cases h2
        · rw [hl1, ht] at h2
          cases h2
          have o := qe (m + 1) (.txt ht)
          rw [show k0 + (m + 1) = k0 + 1 + m by omega] at o
          exact o
      | none h1 h2 h3 h4 h5 =>
        have hh : (tl t)[k0]? = l.head? := by rw [← hl, List.head?_drop]
        rw [← hh] at h1 h3 h4 h5
        rw [decide_eq_false h1]
        refine iteF ⟨_, rfl, _, rfl, t, k0, rfl, by omega, by omega, ?_⟩
        rw [hl, h2]
        refine ⟨_, rfl, _, rfl, ((k0 + 0 : Nat) : Int), (k0 : Int), rfl, rfl, _, rfl, ?_⟩
        have hd2 : decide ((k0 : Int) < ((k0 + 0 : Nat) : Int)) = false := decide_eq_false (by omega)
        rw [hd2]
        refine iteF ⟨_, rfl, sg t k0, none, rfl, rfl, eo _ (fun e => h3 ((sg_eq t45).mp (congrArg V.str e))) (fun e => h4 ((sg_eq t43).mp (congrArg V.str e))) (fun e => h5 ((sg_eq t33).mp (congrArg V.str e))), _, rfl, iteF ?_⟩
        exact ⟨_, rfl, out_of (qe 0 (.none (by rw [← hh]; exact h1) h2 (by rw [← hh]; exact h3) (by rw [← hh]; exact h4) (by rw [← hh]; exact h5)))⟩
end
end Vl

set_option autoImplicit false
set_option maxHeartbeats 4000000
namespace Vl
open PySem PySem.Spec PyProof.Rows L2 TL CwR PySem.StrLaws
/-! ### what becomes of a text: a value, or a place -/
def GoR (L : List Nat) (k : Nat) (st : List (List PyData)) : PyData ⊕ Nat → Prop
  | .inl d => Go L k st d
  | .inr e => GoE L k st e
def ClR (L : List Nat) (k : Nat) (st : List (List PyData)) : PyData ⊕ Nat → Prop
  | .inl d => Cl L k st d
  | .inr e => ClE L k st e
theorem GoR.cases {L : List Nat} {k : Nat} {st : List (List PyData)} {o : PyData ⊕ Nat} (h : GoR L k st o) : (L[k]? = some 40 ∧ L[k + 1]? ≠ some 41 ∧ GoR L (k + 1) ([] :: st) o) ∨ (L[k]? = some 40 ∧ L[k + 1]? = some 41 ∧ ClR L (k + 1) ([] :: st) o) ∨
    (L[k]? ≠ some 40 ∧ ∃ n top st2 v, st = top :: st2 ∧ Flat (L.drop k) v n ∧ ClR L (k + n) ((top ++ [v]) :: st2) o) ∨ (L[k]? ≠ some 40 ∧ ∃ n, FlatE (L.drop k) n ∧ o = .inr (k + n)) := by
  cases o with
  | inl d =>
    cases h with
    | more a b c => exact .inl ⟨a, b, c⟩
    | empty a b c => exact .inr (.inl ⟨a, b, c⟩)
    | flat a b c => exact .inr (.inr (.inl ⟨a, _, _, _, _, rfl, b, c⟩))
  | inr e =>
    cases h with
    | more a b c => exact .inl ⟨a, b, c⟩
    | empty a b c => exact .inr (.inl ⟨a, b, c⟩)
    | flat a b c => exact .inr (.inr (.inl ⟨a, _, _, _, _, rfl, b, c⟩))
    | bad a b => exact .inr (.inr (.inr ⟨a, _, b, rfl⟩))
theorem ClR.close {L : List Nat} {k : Nat} {st : List (List PyData)} {o : PyData ⊕ Nat} (h : ClR L k st o) (h1 : 1 < st.length) (h41 : L[k]? = some 41) : ∃ top nx st2, st = top :: nx :: st2 ∧ ClR L (k + 1) ((nx ++ [.tuple top]) :: st2) o := by
  cases o with
  | inl d =>
    cases h with
    | close a b => exact ⟨_, _, _, rfl, b⟩
    | done a => exact absurd h1 (by simp)
    | sep a b => rw [h41] at a; cases a
  | inr e =>
    cases h with
    | close a b => exact ⟨_, _, _, rfl, b⟩
    | rest a => exact absurd h1 (by simp)
    | sep a b => rw [h41] at a; cases a
    | bad a b => exact absurd h41 a
theorem ClR.one {L : List Nat} {k : Nat} {st : List (List PyData)} {o : PyData ⊕ Nat} (h : ClR L k st o) (h1 : st.length = 1) : (∃ d, st = [[d]] ∧ o = .inl d ∧ k = L.length) ∨ ∃ x, st = [x] ∧ o = .inr k ∧ k < L.length := by
  cases o with
  | inl d =>
    cases h with
    | close a b => exact absurd h1 (by simp)
    | done a => exact .inl ⟨_, rfl, rfl, a⟩
    | sep a b => exact absurd h1 (by simp)
  | inr e =>
    cases h with
    | close a b => exact absurd h1 (by simp)
    | rest a => exact .inr ⟨_, rfl, rfl, a⟩
    | sep a b => exact absurd h1 (by simp)
    | bad a b => exact absurd h1 (by simp)
theorem ClR.many {L : List Nat} {k : Nat} {st : List (List PyData)} {o : PyData ⊕ Nat} (h : ClR L k st o) (h1 : st.length ≠ 1) (h41 : L[k]? ≠ some 41) : (L[k]? = some 32 ∧ GoR L (k + 1) st o) ∨ (L[k]? ≠ some 32 ∧ o = .inr k) := by
  cases o with
  | inl d =>
    cases h with
    | close a b => exact absurd a h41
    | done a => exact absurd rfl h1
    | sep a b => exact .inl ⟨a, b⟩
  | inr e =>
    cases h with
    | close a b => exact absurd a h41
    | rest a => exact absurd rfl h1
    | sep a b => exact .inl ⟨a, b⟩
    | bad a b => exact .inr ⟨b, rfl⟩
theorem num43 (r : List Nat) : numLen (43 :: r) = 0 := by simp [numLen, figs]
theorem num33 (r : List Nat) : numLen (33 :: r) = 0 := by simp [numLen, figs]
theorem flat_one {l : List Nat} {v v' : PyData} {n n' : Nat} (h : Flat l v n) (h' : Flat l v' n') : v = v' ∧ n = n' := by
  cases h with
  | txt a =>
    cases h' with
    | txt b =>
      rw [a] at b
      cases b
      exact ⟨rfl, rfl⟩
    | num h1 _ _ _ _ => exact absurd rfl h1
  | num h1 h2 h3 h4 h5 =>
    cases h' with
    | txt b => exact absurd rfl h1
    | num g1 g2 g3 g4 g5 =>
      have en : n = n' := h2.symm.trans g2
      subst en
      rw [h5] at g5
      cases g5
      exact ⟨rfl, rfl⟩
    | minus b => omega
    | plus => rw [num43] at h2; omega
    | bang => rw [num33] at h2; omega
  | minus a =>
    cases h' with
    | num g1 g2 g3 g4 g5 => omega
    | minus _ => exact ⟨rfl, rfl⟩
  | plus =>
    cases h' with
    | num g1 g2 g3 g4 g5 => rw [num43] at g2; omega
    | plus => exact ⟨rfl, rfl⟩
  | bang =>
    cases h' with
    | num g1 g2 g3 g4 g5 => rw [num33] at g2; omega
    | bang => exact ⟨rfl, rfl⟩
theorem flat_not {l : List Nat} {v : PyData} {n m : Nat} (h : Flat l v n) : ¬ FlatE l m := by
  intro g
  cases g with
  | txt b =>
    cases h with
    | txt a => rw [a] at b; cases b
    | num h1 _ _ _ _ => exact absurd rfl h1
  | none g1 g2 g3 g4 g5 =>
    cases h with
    | txt a => exact absurd rfl g1
    | num h1 h2 h3 _ _ => omega
    | minus _ => exact absurd rfl g3
    | plus => exact absurd rfl g4
    | bang => exact absurd rfl g5
theorem flatE_one {l : List Nat} {n n' : Nat} (h : FlatE l n) (h' : FlatE l n') : n = n' := by
  cases h with
  | txt a =>
    cases h' with
    | txt b => rw [a] at b; cases b; rfl
    | none g1 _ _ _ _ => exact absurd rfl g1
  | none g1 g2 g3 g4 g5 =>
    cases h' with
    | txt b => exact absurd rfl g1
    | none _ _ _ _ _ => rfl
def spCloseE : Sp := fun vs H Q _ => ∃ (t : Str) (k : Nat) (L : Addr) (H0 : Hp) (as : List Addr) (st : List (List PyData)) (o : PyData ⊕ Nat), vs = [.str t, .int (k : Int), .ref L] ∧ t.length ≤ 10000000 ∧ LS H0 H L as st ∧ Few k st ∧ k ≤ t.length ∧ ClR (tl t) k st o ∧
  ∀ H' k' as' st', LS H0 H' L as' st' → Few k' st' → k' ≤ t.length → k ≤ k' → ClR (tl t) k' st' o → (st'.length = 1 ∨ (tl t)[k']? ≠ some 41) → Q (.int (k' : Int)) H'
def spReadE (C : Addr) : Sp := fun vs H Q E => ∃ t : Str, vs = [.str t] ∧ t.length ≤ 10000000 ∧ (∀ d, Go (tl t) 0 [[]] d → ∀ H' x, Same H H' → Vd H' x d → Q x H') ∧ (∀ e, GoE (tl t) 0 [[]] e → Out C E H e)
def Fin (C : Addr) (Q : VK) (E : XK) (H : Hp) : PyData ⊕ Nat → Prop
  | .inl d => ∀ H' x, Same H H' → Vd H' x d → Q x H'
  | .inr e => Out C E H e
section
variable {P : Program} {w : World} {K : PySem.W.Frag} {mg : Str → Option Value} {base : Heap}
theorem ok_closeE {f : Addr} {fd : FuncData} {k : Nat} (F : FnP K "_close_tuples" sClose f fd) (ml : mg "len" = none) (mt : mg "tuple" = none) : FnOk P w K mg base CX0 (k + 1) f fd ["text", "at", "lists"] spCloseE := by
  refine F.ok scClose (fun vs H Q E h => ?_) (fun cdv A outer s H vs Q E hr h => ?_)
  · obtain ⟨t, k, L, H0, as, st, o, rfl, _⟩ := h
    rfl
  · obtain ⟨t, k0, L, H0, as, st, o, rfl, hz, hL, hF, hk, hC, q⟩ := h
    have hs := szl
    have hl := len_tl t
    have t41 : tl (Str.ofString ")") = [41] := by decide +kernel
    refine ⟨_, PSs.nox (pss_cons (ps_while PassesOwn.never (PW.pt (pw_and (pt_cmpR op_gt (pe_callB call_len_seq (by rfl) ml PySem.boot_len (pa_cons (pv 2) pa_nil)) (pe_int) (nomark _)) (pw_and1 (pt_cmpR op_eq (pe_slice sl_str (pv 0) (po_some (pv 1)) (po_some (pe_op op_add (pv 1) (pe_int)))) (pe_str) (nomark _))))) (pss_cons (ps_set (i := 3) scClose.nd rfl (.inl rfl) (pe_callTy call_tuple_of (by rfl) mt PyProof.Rows.boot_tuple (pa_cons (pe_bm0 PySem.F.plainAttrs_list PySem.F.slot_list_pop PySem.F.type_list_pop mt_pop (pv 2)) pa_nil)))
      (pss_cons (ps_expr (pe_bm PySem.F.plainAttrs_list PySem.F.slot_list_append PySem.F.type_list_append mt_append (pe_ix ix_list (pv 2) (pe_un un_neg pe_int) (fun _ _ => rfl)) (pa_cons (pv 3) pa_nil)))
      (pss_one (ps_aug (i := 1) scClose.nd rfl (.inl rfl) (pe_int) ip_add)))))
      (pss_one (ps_ret (pv 1)))), ?_⟩
    refine ⟨fun m σ H' => ∃ (k' : Nat) (as' : List Addr) (st' : List (List PyData)) (y3 : Option V), σ = [some (.str t), some (.int (k' : Int)), some (.ref L), y3] ∧ LS H0 H' L as' st' ∧ Few k' st' ∧ k' ≤ t.length ∧ k0 ≤ k' ∧ ClR (tl t) k' st' o ∧ m = st'.length,
      ⟨st.length, k0, as, st, none, rfl, hL, hF, hk, Nat.le_refl _, hC, rfl⟩, ?_⟩
    rintro m σ H' ⟨k', as', st', y3, rfl, hL', hF', hk', hkk, hC', rfl⟩
    have hlen := hL'.sk.len
    obtain ⟨hne, hn1, hn2⟩ := hF'
    have fin : (st'.length = 1 ∨ (tl t)[k']? ≠ some 41) → Q (.int (k' : Int)) H' := fun h => q H' k' as' st' hL' ⟨hne, hn1, hn2⟩ hk' hkk hC' h
    refine ⟨_, rfl, L, _, rfl, .inl (SqL.of hL'.at_), _, 1, rfl, rfl, _, rfl, ite2 (fun e => ?_) (fun e => ?_)⟩
    · have h1 : 1 < st'.length := by
        have e1 := of_decide_eq_true e
        rw [List.length_map, List.length_reverse, hlen] at e1
        exact Int.ofNat_lt.mp e1
      refine ⟨_, rfl, _, rfl, (k' : Int), rfl, _, rfl, (k' : Int), 1, rfl, rfl, (k' : Int) + 1, rfl, t, rfl, by omega, rfl, _, rfl, ite2 (fun e2 => ?_) (fun e2 => ?_)⟩
      · have h41 : (tl t)[k']? = some 41 := (sg_eq t41).mp (of_decide_eq_true e2)
        have hklt : k' < (tl t).length := (List.getElem?_eq_some_iff.mp h41).1
        obtain ⟨top, nx, st2, rfl, hC2⟩ := hC'.close h1 h41
        · skip
          obtain ⟨a, as2, xs, rfl, ha, hxs⟩ := hL'.top
          cases hL'.sk with
          | cons s1 s2 s3 s4 =>
          cases s4 with
          | @cons b as3 ys _ _ b1 b2 b3 b4 =>
          rw [ha] at s1
          cases s1
          have nba : b ≠ a := fun e => s3 (by rw [← e]; exact List.mem_cons_self ..)
          have nLa : L ≠ a := fun e => hL'.out (by rw [e]; exact List.mem_cons_self ..)
          have nLb : L ≠ b := fun e => hL'.out (by rw [e]; exact List.mem_cons_of_mem _ (List.mem_cons_self ..))
          have hat := hL'.at_
          rw [rev_ref] at hat
          refine ⟨fun σ' H2 => ∃ m', m' < (top :: nx :: st2).length ∧ ∃ (k' : Nat) (as' : List Addr) (st' : List (List PyData)) (y3 : Option V), σ' = [some (.str t), some (.int (k' : Int)), some (.ref L), y3] ∧ LS H0 H2 L as' st' ∧ Few k' st' ∧ k' ≤ t.length ∧ k0 ≤ k' ∧ ClR (tl t) k' st' o ∧ m' = st'.length, fun _ _ h => h, ?_⟩
          have hdl : ((b :: as3).reverse.map V.ref ++ [V.ref a]).dropLast = (b :: as3).reverse.map V.ref := List.dropLast_concat
          refine ⟨_, rfl, .inl ⟨rfl, _, SqL.of hat⟩, L, _, .ref a, rfl, rfl, hat, by simp, ?_⟩
          have kL : KeepT H' (upd H' L (.lst ((b :: as3).reverse.map V.ref ++ [V.ref a]).dropLast)) := keep_lst hat
          have hL1 : LS H0 (upd H' L (.lst ((b :: as3).reverse.map V.ref ++ [V.ref a]).dropLast)) L (b :: as3) (nx :: st2) := by
            refine ⟨by rw [upd_same, hdl], (Sk.cons b1 b2 b3 b4).put kL fun c hc => ?_, fun h => hL'.out (List.mem_cons_of_mem _ h), hL'.newL, fun c hc => hL'.new c (List.mem_cons_of_mem _ hc), same_put hL'.same hL'.newL⟩
            rw [upd_ne (fun e => hL'.out (by rw [← e]; exact List.mem_cons_of_mem _ hc))]
          have ha1 : upd H' L (.lst ((b :: as3).reverse.map V.ref ++ [V.ref a]).dropLast) a = some (.lst xs) := by rw [upd_ne nLa.symm]; exact ha
          have hx1 := hxs.keep kL
          have hb1 : upd H' L (.lst ((b :: as3).reverse.map V.ref ++ [V.ref a]).dropLast) b = some (.lst ys) := by rw [upd_ne nLb.symm]; exact b1
          have hy1 := b2.keep kL
          generalize upd H' L (.lst ((b :: as3).reverse.map V.ref ++ [V.ref a]).dropLast) = H1 at hL1 ha1 hx1 hb1 hy1
          refine ⟨a, xs, rfl, .inl ⟨SqL.of ha1, fun p np => ?_⟩⟩
          have sp := same_upd (o := HO.tup xs) np
          have hL2 : LS H0 (upd H1 p (.tup xs)) L (b :: as3) (nx :: st2) := hL1.laid np
          have hb2 := sp _ _ hb1
          have hy2 := hy1.keep (Same.keepT sp)
          have hv2 : Vd (upd H1 p (.tup xs)) (.ref p) (.tuple top) := .tup upd_same (hx1.keep (Same.keepT sp))
          have hat2 := hL2.at_
          rw [rev_ref] at hat2
          generalize upd H1 p (.tup xs) = H2 at hL2 hb2 hy2 hv2 hat2
          have hnx := hn2 nx (List.mem_cons_of_mem _ (List.mem_cons_self ..))
          refine ⟨_, rfl, 1, rfl, L, _, -1, .ref b, rfl, rfl, SqL.of hat2, atI_last _ _, .inl ⟨rfl, _, SqL.of hb2⟩, _, rfl, b, _, _, rfl, rfl, hb2, by rw [hy2.len]; omega, ?_⟩
          refine ⟨_, rfl, (k' : Int), 1, rfl, rfl, (nx :: st2).length, Nat.lt_succ_self _, k' + 1, b :: as3, (nx ++ [.tuple top]) :: st2, _, rfl, hL2.push hb2 hy2 hv2, ⟨by simp, ?_, ?_⟩, by omega, by omega, hC2, rfl⟩
          · have e3 : (top :: nx :: st2).length = st2.length + 2 := rfl
            show st2.length + 1 ≤ k' + 1 + 1
            omega
          · intro ds hds
            rcases List.mem_cons.mp hds with e3 | e3
            · rw [e3, List.length_append]
              show nx.length + 1 ≤ k' + 1
              omega
            · have := hn2 ds (List.mem_cons_of_mem _ (List.mem_cons_of_mem _ e3))
              omega
      · exact ⟨_, rfl, fin (.inr fun h => e2 (decide_eq_true ((sg_eq t41).mpr h)))⟩
    · have h1 : st'.length = 1 := by
        have hpos : 0 < st'.length := List.length_pos_iff.mpr hne
        rcases Nat.lt_or_ge 1 st'.length with h | h
        · refine absurd (decide_eq_true ?_) e
          rw [List.length_map, List.length_reverse, hlen]
          exact Int.ofNat_lt.mpr h
        · omega
      exact iteF ⟨_, rfl, fin (.inl h1)⟩
theorem ok_readE {C fI : Addr} {fdI : FuncData} (T : NoV K mg C fI fdI) {f fC fF : Addr} {fd fdC fdF : FuncData} (F : FnP K "read" sRead f fd) (FC : FnP K "_close_tuples" sClose fC fdC) (gC : mg "_close_tuples" = some (.ref fC)) (GC : FnOk P w K mg base CX0 5 fC fdC ["text", "at", "lists"] spCloseE)
    (FF : FnP K "_read_flat" sReadFlat fF fdF) (gF : mg "_read_flat" = some (.ref fF)) (GF : FnOk P w K mg base (L2.CX P w) 5 fF fdF ["text", "at"] (spReadFlatE C)) (ml : mg "len" = none) : FnOk P w K mg base (L2.CX P w) 6 f fd ["text"] (spReadE C) := by
  have bC : Binds K fdC ["text", "at", "lists"] [] := FC.bindsN fun _ _ _ _ _ _ us hl => match us, hl with | [_, _, _], _ => rfl
  have bF : Binds K fdF ["text", "at"] [] := FF.bindsN fun _ _ _ _ _ _ us hl => match us, hl with | [_, _], _ => rfl
  refine F.ok scRead (fun vs H Q E h => ?_) (fun cdv A outer s H vs Q E hr h => ?_)
  · obtain ⟨t, rfl, _⟩ := h
    rfl
  · obtain ⟨t, rfl, hz, q, qe⟩ := h
    have hs := szl
    have hl := len_tl t
    have hr2 : Room 2 _ := hr.mono (by decide)
    have GI : FnOk P w K mg base CX0 1 fI fdI ["self", "at"] (spInit K C) := ok_init T
    have t40 : tl (Str.ofString "(") = [40] := by decide +kernel
    have t41 : tl (Str.ofString ")") = [41] := by decide +kernel
    have t32 : tl (Str.ofString " ") = [32] := by decide +kernel
    obtain ⟨o, hG, fin⟩ : ∃ o, GoR (tl t) 0 [[]] o ∧ Fin C Q E H o := by
      rcases go_total (tl t) with ⟨d, g⟩ | ⟨e, g⟩
      · exact ⟨.inl d, g, q d g⟩
      · exact ⟨.inr e, g, qe e g⟩
    refine ⟨_, pss_cons (ps_set (i := 1) scRead.nd rfl (.inl rfl) (pe_lst (pa_cons (pe_lst pa_nil) pa_nil)))
      (pss_cons (ps_set (i := 2) scRead.nd rfl (.inl rfl) (pe_int))
      (pss_cons (ps_while PassesOwn.leaving (pt_val pe_bl) (C8.pss_cut (ps_if (pt_cmpR op_eq (pe_slice sl_str (pv 0) (po_some (pv 2)) (po_some (pe_op op_add (pv 2) (pe_int)))) (pe_str) (nomark _)) (pss_cons (ps_expr (pe_bm PySem.F.plainAttrs_list PySem.F.slot_list_append PySem.F.type_list_append mt_append (pv 1) (pa_cons (pe_lst pa_nil) pa_nil)))
      (pss_cons (ps_aug (i := 2) scRead.nd rfl (.inl rfl) (pe_int) ip_add)
      (pss_one (ps_if (pt_cmpR op_ne (pe_slice sl_str (pv 0) (po_some (pv 2)) (po_some (pe_op op_add (pv 2) (pe_int)))) (pe_str) (nomark _)) (pss_one ps_continue) pss_nil)))) (pss_cons (ps_asg (pe_callS GF hr (by rfl) gF FF.kp bF (fun σ => passAt (takes_of rfl rfl rfl rfl) σ) (pa_cons (pv 0) (pa_cons (pv 2) pa_nil))) (pg_tup rfl (pgs_cons (pg_name (i := 3) scRead.nd rfl (.inl rfl)) (pgs_cons (pg_name (i := 2) scRead.nd rfl (.inl rfl)) pgs_nil))))
      (pss_one (ps_expr (pe_bm PySem.F.plainAttrs_list PySem.F.slot_list_append PySem.F.type_list_append mt_append (pe_ix ix_list (pv 1) (pe_un un_neg pe_int) (fun _ _ => rfl)) (pa_cons (pv 3) pa_nil))))))
      (pss_cons (ps_set (i := 2) scRead.nd rfl (.inl rfl) (pe_call GC hr (by rfl) gC FC.kp bC .nil pass0 (pa_cons (pv 0) (pa_cons (pv 2) (pa_cons (pv 1) pa_nil)))))
      (pss_cons (ps_if (pt_cmpR op_eq (pe_callB call_len_seq (by rfl) ml PySem.boot_len (pa_cons (pv 1) pa_nil)) (pe_int) (nomark _)) (pss_one ps_break) pss_nil)
      (pss_cons (ps_if (pt_cmpR op_ne (pe_slice sl_str (pv 0) (po_some (pv 2)) (po_some (pe_op op_add (pv 2) (pe_int)))) (pe_str) (nomark _)) (pss_one (ps_raise rfl (takes_of rfl rfl rfl rfl) (pmk_oex T.ox T.iC T.tI GI hr2 (bindI T) .nil pass0 (by rfl) T.g (pa_cons (pv 2) pa_nil)))) pss_nil)
      (pss_one (ps_aug (i := 2) scRead.nd rfl (.inl rfl) (pe_int) ip_add)))))))
      (pss_cons (ps_if (pt_cmpR op_lt (pv 2) (pe_callB call_len_str (by rfl) ml PySem.boot_len (pa_cons (pv 0) pa_nil)) (nomark _)) (pss_one (ps_raise rfl (takes_of rfl rfl rfl rfl) (pmk_oex T.ox T.iC T.tI GI hr2 (bindI T) .nil pass0 (by rfl) T.g (pa_cons (pv 2) pa_nil)))) pss_nil)
      (pss_one (ps_ret (pe_ix ix_list (pe_ix ix_list (pv 1) (pe_int) (fun _ _ => rfl)) (pe_int) (fun _ _ => rfl))))))), ?_⟩
    refine ⟨Nat.zero_le _, fun a na => ⟨by show 1 ≤ sizeLine; omega, fun L nL => ?_⟩⟩
    have sa := same_upd (o := HO.lst []) na
    have sL := same_upd (o := HO.lst [V.ref a]) nL
    have naL : L ≠ a := fun e => by rw [e, upd_same] at nL; cases nL
    have hL0 : LS H (upd (upd H a (.lst [])) L (.lst [.ref a])) L [a] [[]] :=
      ⟨upd_same, .cons (sL _ _ upd_same) .nil (by simp) .nil, by simpa using naL, sa.free nL, fun c hc => by rw [List.mem_singleton.mp hc]; exact na, sa.trans sL⟩
    refine ⟨fun m σ H' => ∃ (k : Nat) (as : List Addr) (st : List (List PyData)) (y3 : Option V), σ = [some (.str t), some (.ref L), some (.int (k : Int)), y3] ∧ LS H H' L as st ∧ Few k st ∧ k ≤ t.length ∧ GoR (tl t) k st o ∧ m = t.length - k,
      ⟨t.length - 0, 0, [a], [[]], none, rfl, hL0, ⟨by simp, by simp, by simp⟩, Nat.zero_le _, hG, rfl⟩, ?_⟩
    rintro m σ H' ⟨k, as, st, y3, rfl, hL, ⟨f1, f2, f3⟩, hk, hg, rfl⟩
    refine ⟨_, rfl, iteT ⟨fun σ' H2 => ∃ m', m' < t.length - k ∧ ∃ (k : Nat) (as : List Addr) (st : List (List PyData)) (y3 : Option V), σ' = [some (.str t), some (.ref L), some (.int (k : Int)), y3] ∧ LS H H2 L as st ∧ Few k st ∧ k ≤ t.length ∧ GoR (tl t) k st o ∧ m' = t.length - k, fun _ _ h => h, ?_⟩⟩
    refine ⟨fun σ' H2 => ∃ (k2 : Nat) (as : List Addr) (st : List (List PyData)) (y3 : Option V), σ' = [some (.str t), some (.ref L), some (.int (k2 : Int)), y3] ∧ LS H H2 L as st ∧ Few k2 st ∧ k2 ≤ t.length ∧ k < k2 ∧ ClR (tl t) k2 st o, ?_, ?_⟩
    · refine ⟨_, rfl, _, rfl, (k : Int), rfl, _, rfl, (k : Int), 1, rfl, rfl, (k : Int) + 1, rfl, t, rfl, by omega, rfl, _, rfl, ?_⟩
      show if decide (V.str (sg t k) = V.str (Str.ofString "(")) = true then _ else _
      rw [show decide (V.str (sg t k) = V.str (Str.ofString "(")) = decide ((tl t)[k]? = some 40) from decide_eq_decide.mpr (sg_eq t40)]
      rcases hg.cases with ⟨h40, h41, hg2⟩ | ⟨h40, h41, hc2⟩ | ⟨h40, n, top, st2, v, rfl, hf, hc2⟩ | ⟨h40, n, hfe, rfl⟩
      · have hkl : k < (tl t).length := (List.getElem?_eq_some_iff.mp h40).1
        rw [decide_eq_true h40]
        refine iteT ⟨_, rfl, .inl ⟨rfl, _, SqL.of hL.at_⟩, Nat.zero_le _, fun p np => ?_⟩
        have hLp := (hL.laid (o := HO.lst []) np).at_
        refine ⟨L, _, _, rfl, rfl, hLp, by rw [List.length_map, List.length_reverse, hL.sk.len]; omega, ?_⟩
        have hLo := hL.open np
        refine ⟨_, rfl, (k : Int), 1, rfl, rfl, ?_⟩
        refine ⟨_, rfl, _, rfl, ((k + 1 : Nat) : Int), rfl, _, rfl, ((k + 1 : Nat) : Int), 1, rfl, rfl, ((k + 1 : Nat) : Int) + 1, rfl, t, rfl, by omega, rfl, _, rfl, ?_⟩
        show if (!decide (V.str (sg t (k + 1)) = V.str (Str.ofString ")"))) = true then _ else _
        rw [decide_eq_false (fun h => h41 ((sg_eq t41).mp h))]
        refine iteT ?_
        refine ⟨t.length - (k + 1), by omega, k + 1, p :: as, [] :: st, _, rfl, hLo, ⟨by simp, ?_, ?_⟩, by omega, hg2, rfl⟩
        · show st.length + 1 ≤ k + 1 + 1
          omega
        · intro ds hds
          rcases List.mem_cons.mp hds with e | e
          · rw [e]; exact Nat.zero_le _
          · have := f3 ds e; omega
      · have hkl : k < (tl t).length := (List.getElem?_eq_some_iff.mp h40).1
        rw [decide_eq_true h40]
        refine iteT ⟨_, rfl, .inl ⟨rfl, _, SqL.of hL.at_⟩, Nat.zero_le _, fun p np => ?_⟩
        have hLp := (hL.laid (o := HO.lst []) np).at_
        refine ⟨L, _, _, rfl, rfl, hLp, by rw [List.length_map, List.length_reverse, hL.sk.len]; omega, ?_⟩
        have hLo := hL.open np
        refine ⟨_, rfl, (k : Int), 1, rfl, rfl, ?_⟩
        refine ⟨_, rfl, _, rfl, ((k + 1 : Nat) : Int), rfl, _, rfl, ((k + 1 : Nat) : Int), 1, rfl, rfl, ((k + 1 : Nat) : Int) + 1, rfl, t, rfl, by omega, rfl, _, rfl, iteNS ((sg_eq t41).mpr h41) ?_⟩
        refine ⟨k + 1, p :: as, [] :: st, _, rfl, hLo, ⟨by simp, ?_, ?_⟩, by omega, by omega, hc2⟩
        · show st.length + 1 ≤ k + 1 + 1
          omega
        · intro ds hds
          rcases List.mem_cons.mp hds with e | e
          · rw [e]; exact Nat.zero_le _
          · have := f3 ds e; omega
      · obtain ⟨hne, hn1, hn2⟩ := flat_ne hf
        rw [List.length_drop] at hn2
        rw [decide_eq_false h40]
        refine iteF ⟨_, rfl, _, rfl, t, k, rfl, hz, hk, fun v3 n3 hf3 H3 p x sm np hp hv => ?_, fun n3 hf3 => absurd hf3 (flat_not hf)⟩
        obtain ⟨rfl, rfl⟩ := flat_one hf hf3
        have hL3 := hL.mono sm
        obtain ⟨a3, as3, xs3, rfl, ha3, hx3⟩ := hL3.top
        have hat := hL3.at_
        rw [rev_ref] at hat
        have hf3 := f3 top (List.mem_cons_self ..)
        refine ⟨p, _, rfl, .inl (.inl hp), rfl, _, _, rfl, _, _, rfl, rfl, ?_⟩
        refine ⟨_, rfl, 1, rfl, L, _, -1, .ref a3, rfl, rfl, SqL.of hat, atI_last _ _, .inl ⟨rfl, _, SqL.of ha3⟩, _, rfl, a3, _, _, rfl, rfl, ha3, by rw [hx3.len]; omega, ?_⟩
        refine ⟨k + n, a3 :: as3, (top ++ [v]) :: st2, _, rfl, hL3.push ha3 hx3 hv, ⟨by simp, ?_, ?_⟩, by omega, by omega, hc2⟩
        · have e3 : (top :: st2).length = st2.length + 1 := rfl
          show st2.length + 1 ≤ k + n + 1
          omega
        · intro ds hds
          rcases List.mem_cons.mp hds with e | e
          · rw [e, List.length_append]
            show top.length + 1 ≤ k + n
            omega
          · have := f3 ds (List.mem_cons_of_mem _ e); omega
      · rw [decide_eq_false h40]
        refine iteF ⟨_, rfl, _, rfl, t, k, rfl, hz, hk, fun v3 n3 hf3 => absurd hfe (flat_not hf3), fun n3 hf3 => ?_⟩
        have e3 := flatE_one hfe hf3
        rw [← e3]
        exact Out.later fin hL.same
    · rintro σ' H2 ⟨k2, as2, st2, y4, rfl, hL2, ⟨g1, g2, g3⟩, hk2, hkk, hc⟩
      refine ⟨_, rfl, _, rfl, _, rfl, t, k2, L, H, as2, st2, o, rfl, hz, hL2, ⟨g1, g2, g3⟩, hk2, hc, fun H3 k3 as3 st3 hL3 hF3 hk3 hkk3 hc3 hor => ?_⟩
      have hlen := hL3.sk.len
      obtain ⟨p1, p2, p3⟩ := hF3
      refine ⟨_, rfl, L, _, rfl, .inl (SqL.of hL3.at_), rfl, _, rfl, ite2 (fun e => ?_) (fun e => ?_)⟩
      · have h1 : st3.length = 1 := by
          have e1 := V.int.inj (of_decide_eq_true e)
          rw [List.length_map, List.length_reverse, hlen] at e1
          omega
        rcases hc3.one h1 with ⟨d, rfl, rfl, hd⟩ | ⟨x9, rfl, rfl, hd⟩
        · skip
          refine ⟨_, rfl, _, rfl, t, rfl, by omega, _, _, rfl, rfl, _, rfl, ?_⟩
          rw [decide_eq_false (show ¬ ((k3 : Int) < (t.length : Int)) by omega)]
          refine iteF ?_
          obtain ⟨a3, as4, xs3, rfl, ha3, hx3⟩ := hL3.top
          have e4 : as4 = [] := List.length_eq_zero_iff.mp (by simpa using hlen)
          subst e4
          cases hx3 with
          | cons hv hr =>
          cases hr
          exact ⟨_, rfl, L, _, 0, .ref a3, rfl, rfl, SqL.of hL3.at_, atI_nat (j := 0) rfl, a3, _, 0, _, rfl, rfl, SqL.of ha3, atI_nat (j := 0) rfl, fin H3 _ hL3.same hv⟩
        · refine ⟨_, rfl, _, rfl, t, rfl, by omega, _, _, rfl, rfl, _, rfl, ?_⟩
          rw [decide_eq_true (show ((k3 : Int) < (t.length : Int)) by omega)]
          exact iteT ⟨_, rfl, out_of (Out.later fin hL3.same)⟩
      · have h1 : st3.length ≠ 1 := fun h => by
          refine e (decide_eq_true (congrArg V.int ?_))
          rw [List.length_map, List.length_reverse, hlen, h]
          rfl
        have h41 : (tl t)[k3]? ≠ some 41 := by
          rcases hor with h | h
          · exact absurd h h1
          · exact h
        rcases hc3.many h1 h41 with ⟨h32, hg2⟩ | ⟨h32, rfl⟩
        · skip
          have hkl : k3 < (tl t).length := (List.getElem?_eq_some_iff.mp h32).1
          refine ⟨_, rfl, _, rfl, (k3 : Int), rfl, _, rfl, (k3 : Int), 1, rfl, rfl, (k3 : Int) + 1, rfl, t, rfl, by omega, rfl, _, rfl, iteNS ((sg_eq t32).mpr h32) ?_⟩
          refine ⟨_, rfl, (k3 : Int), 1, rfl, rfl, t.length - (k3 + 1), by omega, k3 + 1, as3, _, _, rfl, hL3, ⟨p1, by omega, fun ds hds => by have := p3 ds hds; omega⟩, by omega, hg2, rfl⟩
        · refine ⟨_, rfl, _, rfl, (k3 : Int), rfl, _, rfl, (k3 : Int), 1, rfl, rfl, (k3 : Int) + 1, rfl, t, rfl, by omega, rfl, _, rfl, ?_⟩
          show if (!decide (V.str (sg t k3) = V.str (Str.ofString " "))) = true then _ else _
          rw [decide_eq_false (fun h => h32 ((sg_eq t32).mp h))]
          exact iteT ⟨_, rfl, out_of (Out.later fin hL3.same)⟩
end
end Vl

set_option autoImplicit false
set_option maxHeartbeats 2000000
namespace Vl
open PySem PySem.Spec PyProof.Rows L2 TL CwR
/-- nothing is in a written table but its keys -/
theorem tab_out {fa : List He.Fa} {fn : List He.DefD} {ts : List He.Tab} {w : World} {K : PySem.W.Frag} (c : He.SaysT fa fn ts w K) {i : Nat} {t : He.Tab} (h : ts[i]? = some t) {z : Str} (hz : z ∉ t.2) : PySem.W.nsIn K (t.1 K) z = some none := by
  have e := congrArg (fun p => p.2[i]?) c
  have e1 : (He.obsT fa fn ts K).2[i]? = some (He.dicW K (t.1 K)) := by
    show (ts.map fun t => He.dicW K (t.1 K))[i]? = _
    rw [List.getElem?_map, h]
    rfl
  have e2 : (He.valT fn ts w).2[i]? = some (some (He.keysIn w.params t.2)) := by
    show (ts.map fun t => some (He.keysIn w.params t.2))[i]? = _
    rw [List.getElem?_map, h]
    rfl
  have e3 : He.dicW K (t.1 K) = some (He.keysIn w.params t.2) := by
    have e' : (He.obsT fa fn ts K).2[i]? = (He.valT fn ts w).2[i]? := e
    rw [e1, e2] at e'
    exact Option.some.inj e'
  unfold He.dicW at e3
  unfold PySem.W.nsIn
  split at e3
  · rename_i c es ep sl hl
    rw [hl]
    split at e3
    · have em : es.toList.map He.keyOf = He.keysIn w.params t.2 := Option.some.inj e3
      have key : ∀ e ∈ es.toList, ∃ x tok, e.key = .str x tok ∧ x ∈ t.2 := by
        intro e he
        have m : He.keyOf e ∈ He.keysIn w.params t.2 := by rw [← em]; exact List.mem_map_of_mem he
        obtain ⟨k, hk, ek⟩ := List.mem_map.mp m
        cases q : e.key with
        | str x tok =>
          have : He.keyOf e = some (x, e.hash) := by unfold He.keyOf; rw [q]
          rw [this] at ek
          have e9 : k = x := congrArg Prod.fst (Option.some.inj ek)
          exact ⟨_, _, rfl, e9 ▸ hk⟩
        | _ =>
          exfalso
          have : He.keyOf e = none := by unfold He.keyOf; rw [q]
          rw [this] at ek
          cases ek
      have f1 : es.toList.find? (fun x => x.key.isStr z) = none := by
        rw [List.find?_eq_none]
        intro e he
        obtain ⟨x, tok, q, hx⟩ := key e he
        rw [q]
        intro y
        have : x = z := by
          simpa [Value.isStr] using y
        exact hz (this ▸ hx)
      have f2 : (es.toList.any fun x => x.refKey) = false := by
        rw [List.any_eq_false]
        intro e he
        obtain ⟨x, tok, q, hx⟩ := key e he
        simp [DictEntry.refKey, q]
      simp only [f1, f2]
      rfl
    · cases e3
  · cases e3
end Vl

set_option autoImplicit false
set_option maxHeartbeats 2000000
namespace Vl
open PySem PySem.Spec PyProof.Rows L2 TL CwR PySem.StrLaws
mutual
theorem go_once {L : List Nat} : ∀ {k : Nat} {st : List (List PyData)} {d d' : PyData}, Go L k st d → Go L k st d' → d = d'
  | _, _, _, _, .more a b c, h => by
    cases h with
    | more _ _ c' => exact go_once c c'
    | empty _ b' _ => exact absurd b' b
    | flat a' _ _ => exact absurd a a'
  | _, _, _, _, .empty a b c, h => by
    cases h with
    | more _ b' _ => exact absurd b b'
    | empty _ _ c' => exact cl_once c c'
    | flat a' _ _ => exact absurd a a'
  | _, _, _, _, .flat a b c, h => by
    cases h with
    | more a' _ _ => exact absurd a' a
    | empty a' _ _ => exact absurd a' a
    | flat _ b' c' =>
      obtain ⟨rfl, rfl⟩ := flat_one b b'
      exact cl_once c c'
theorem cl_once {L : List Nat} : ∀ {k : Nat} {st : List (List PyData)} {d d' : PyData}, Cl L k st d → Cl L k st d' → d = d'
  | _, _, _, _, .close a b, h => by
    cases h with
    | close _ b' => exact cl_once b b'
    | sep a' _ => rw [a] at a'; cases a'
  | _, _, _, _, .done _, h => by
    cases h with
    | done _ => rfl
  | _, _, _, _, .sep a b, h => by
    cases h with
    | close a' _ => rw [a] at a'; cases a'
    | sep _ b' => exact go_once b b'
end
theorem wr_one {d d' : PyData} (h : Ok d) (h' : Ok d') (e : wr d = wr d') : d = d' := by
  have g := go_all h
  rw [e] at g
  exact go_once g (go_all h')
mutual
theorem go_or {L : List Nat} : ∀ {k : Nat} {st : List (List PyData)} {d : PyData} {e : Nat}, Go L k st d → ¬ GoE L k st e
  | _, _, _, _, .more a b c, h => by
    cases h with
    | more _ _ c' => exact go_or c c'
    | empty _ b' _ => exact absurd b' b
    | flat a' _ _ => exact absurd a a'
    | bad a' _ => exact absurd a a'
  | _, _, _, _, .empty a b c, h => by
    cases h with
    | more _ b' _ => exact absurd b b'
    | empty _ _ c' => exact cl_or c c'
    | flat a' _ _ => exact absurd a a'
    | bad a' _ => exact absurd a a'
  | _, _, _, _, .flat a b c, h => by
    cases h with
    | more a' _ _ => exact absurd a' a
    | empty a' _ _ => exact absurd a' a
    | flat _ b' c' =>
      obtain ⟨rfl, rfl⟩ := flat_one b b'
      exact cl_or c c'
    | bad _ b' => exact flat_not b b'
theorem cl_or {L : List Nat} : ∀ {k : Nat} {st : List (List PyData)} {d : PyData} {e : Nat}, Cl L k st d → ¬ ClE L k st e
  | _, _, _, _, .close a b, h => by
    cases h with
    | close _ b' => exact cl_or b b'
    | sep a' _ => rw [a] at a'; cases a'
    | bad a' _ => exact absurd a a'
  | _, _, _, _, .done a, h => by
    cases h with
    | rest b => omega
  | _, _, _, _, .sep a b, h => by
    cases h with
    | close a' _ => rw [a] at a'; cases a'
    | sep _ b' => exact go_or b b'
    | bad _ a' => exact absurd a a'
end
end Vl

set_option autoImplicit false
set_option maxHeartbeats 2000000
namespace Gk
open PySem PySem.Spec PyProof.Rows L2 PySem.W PySem.Calls
/-- what a def keeps where it is known that no guard is up -/
structure Known (P : Program) (w : World) (K : PySem.W.Frag) (mg : Str → Option Value) (base : Heap) (k : Nat) (f : Addr) (fd : FuncData) (ps : List Str) (sp : Sp) : Prop where
  run : ∀ (A : Around) (outer : List Env) (s : Shared) (H : Hp) (args : Args) (us : List Value) (vs : List V) (Q : VK) (E : XK),
    A.guards = some [] → Room k A → Env0 P w K mg base A outer s H → BindsTo s fd args (ps.zip us) → Vals vs us → sp vs H Q E →
      codeAny (model P w) A (.call (.ref f) args) (CR CX0 outer P w H s Q E) s
variable {P : Program} {w : World} {K : PySem.W.Frag} {mg : Str → Option Value} {base : Heap}
theorem known_of {x qual : Str} {params : Arguments} {body : List Stmt} {scope : Scope} {dvs : List V} {kws : List (Str × V)} {f : Addr} {fd : FuncData} {N ps : List Str} {k : Nat} {sp : Sp}
    (F : FunD K x qual params body scope dvs kws f fd) (S : FnScope N ps scope) (len : ∀ vs H Q E, sp vs H Q E → vs.length = ps.length)
    (walk : ∀ (cdv : Value) (A : Around) (outer : List Env) (s : Shared) (H : Hp) (vs : List V) (Q : VK) (E : XK), A.guards = some [] → Room k (A.deeper (envOfC qual scope s.heap.objs.size f cdv)) → sp vs H Q E →
      ∃ t, PSs (cxOf CX0 P w K mg base N qual scope f cdv A outer s H E) body t ∧ t { nx := fun _ H1 => Q .non H1, rt := Q } (L2.start N vs) H) :
    Known P w K mg base (k + 1) f fd ps sp := by
  obtain ⟨⟨oc, od, dV, kV, doc, pm, an, cdv, ct, osl, rfl, lk, hcd, _, _⟩, _⟩ := F
  refine ⟨fun A outer s H args us vs Q E hg hr e0 hb r hsp => ?_⟩
  have hl := len vs H Q E hsp
  have KX := Frag.In.keeps e0.mod.kin fun b o e => (e0.bs b o e).1
  have lim := Heap.NoLimit.keeps e0.mod.nolimit fun b o e => (e0.bs b o e).1
  refine codeAny_call_function hr.depth (KX f _ lk) rfl S.co S.gen rfl (codeRec_of KX hcd) (hb _ _ _ _ ?_)
  refine wpAny_newFunctionEnv_cells S.kind (fun y hy => ?_) fun env he s1 ic => ?_
  · obtain ⟨n, v⟩ := y
    rcases S.par n (List.of_mem_zip hy).1 with q | q
    · exact .inl q
    · exact .inr ⟨q, cellsFrom_some scope.names (s.heap.objs.size + 1) [] (.inl q)⟩
  · subst he
    refine ⟨Heap.NoLimit.keeps lim ic.toInCall.keep, codeAny_func ?_⟩
    obtain ⟨t, ht, hq⟩ := walk cdv A outer s H vs Q E hg (hr.deeper _) hsp
    have I := inv_start (CX := CX0) (E := E) S hr.hd e0 hl r ic
    refine wpAny_mono (ht.run [] s1 (L2.start N vs) H _ I hq) (fun fl s' hs => ?_) fun e s' hs => hs
    cases fl with
    | ret u =>
      obtain ⟨v, σ', H', J, rv, q⟩ := hs
      exact ⟨v, H', J.os, J.bare, J.base, J.hok, rv, q⟩
    | next =>
      obtain ⟨σ', H', J, q⟩ := hs
      exact ⟨.non, H', J.os, J.bare, J.base, J.hok, rfl, q⟩
    | _ =>
      obtain ⟨_, _, _, q⟩ := hs
      exact q.elim
end Gk

set_option autoImplicit false
set_option maxHeartbeats 2000000
namespace Gk
open PySem PySem.Spec PyProof.Rows L2 PySem.W PySem.Calls
theorem call_known {P : Program} {w : World} {K : PySem.W.Frag} {mg mb : Str → Option Value} {k : Nat} {fa a : Addr} {fd : FuncData} {x : Str} {sp : Sp} {s₁ : Shared} {vs : List Value} {ns : List Int}
    (KX : K.In s₁.heap) (hns : s₁.heap.Ns mainGlobals mg) (hb : s₁.heap.Ns builtinsNs mb) (hbb : ∀ x : Str, x ≠ Str.ofString "__name__" → mb x = bootBuiltins x) (hlim : s₁.heap.NoLimit) (hg : s₁.gens = #[])
    (ha : s₁.heap.get? a = some { cls := .type "list", data := .seq vs.toArray }) (hi : IntsAre vs ns) (hl : ns.length ≤ sizeLine) (hr : Room k callerA)
    (F : ∀ base : Heap, K.In base → base.Ns mainGlobals mg → Known P w K mg base k fa fd [x] sp) (hbind : ∀ (s : Shared) (u : Value), BindsTo s fd ⟨[u], []⟩ [(x, u)])
    (hsp : ∀ H : Hp, Only H → SqL K H a (ns.map V.int) → sp [.ref a] H (fun v _ => v = .bl true) (fun _ _ _ => False)) :
    codeAny (model P w) callerA (.call (.ref fa) ⟨[.ref a], []⟩) (fun r s' => r = .ok (.ret (.bool true)) ∧ OldK s₁.heap s'.heap ∧ s'.os = s₁.os ∧ AllBare s'.gens) s₁ := by
  have rv := vals_ints hi
  have lenV := IntsAre.length hi
  have core : ∀ H : Hp, Only H → SqL K H a (ns.map V.int) → HOk P w H s₁.heap → (∀ b, H b ≠ none → b = a) → (H a ≠ none → List.lookup a K = none) →
      codeAny (model P w) callerA (.call (.ref fa) ⟨[.ref a], []⟩) (fun r s' => r = .ok (.ret (.bool true)) ∧ OldK s₁.heap s'.heap ∧ s'.os = s₁.os ∧ AllBare s'.gens) s₁ := by
    intro H hO hS hok hA hK
    have out : ∀ {b : Addr} {u : HO}, H b = some u → b = a ∧ List.lookup a K = none := fun {b u} q => by
      have e := hA b fun z => by rw [q] at z; cases z
      subst e
      exact ⟨rfl, hK fun z => by rw [q] at z; cases z⟩
    have noD : ∀ {b : Addr} {o : Obj} {es : Array DictEntry} {ep : Nat}, s₁.heap.get? b = some o → o.data = .dict es ep → H b = none := fun {b o es ep} e d => by
      cases q : H b with
      | none => rfl
      | some u =>
        obtain ⟨rfl, _⟩ := out q
        rw [ha] at e
        cases e
        cases d
    have nsK : ∀ {b : Addr} {m : Str → Option Value}, s₁.heap.Ns b m → (hidT s₁.heap H).Ns b m := fun {b m} ⟨o, es, ep, e, d, r⟩ => ⟨o, es, ep, hidT_get e (noD e d), d, r⟩
    have hKb : K.In (hidT s₁.heap H) := fun b o e => by
      refine hidT_get (KX b o e) ?_
      cases q : H b with
      | none => rfl
      | some u =>
        obtain ⟨rfl, z⟩ := out q
        rw [z] at e
        cases e
    obtain ⟨mc, h1, h2⟩ := hlim
    have hM : Mod K mg (hidT s₁.heap H) := ⟨hKb, nsK hns, ⟨mb, nsK hb, hbb⟩, ⟨mc, nsK h1, h2⟩⟩
    have e0 : Env0 P w K mg (hidT s₁.heap H) callerA [] s₁ H := ⟨rfl, hM, fun b o e => of_hidT e, Nat.le_of_eq (hidT_size s₁.heap H), True.intro, (fun b z => by cases z), hok, AllBare.of_eq hg⟩
    refine codeAny_mono ((F _ hKb (nsK hns)).run callerA [] s₁ H ⟨[.ref a], []⟩ [.ref a] [.ref a] (fun v _ => v = .bl true) (fun _ _ _ => False) rfl hr e0 (hbind s₁ (.ref a)) (.cons rfl .nil) (hsp H hO hS)) ?_
    intro r s' h
    cases r with
    | error e => exact h.elim
    | ok fl =>
      cases fl with
      | ret u =>
        obtain ⟨v, H', os, bare, un, hok', r', q⟩ := h
        have q' : v = .bl true := q
        subst q'
        cases (show u = Value.bool true from r')
        refine ⟨rfl, OldK.of_keep fun b o e => ?_, os, bare⟩
        cases q : H b with
        | none => exact un.keep b o e q (by intro z; cases z) (by intro z; cases z)
        | some u =>
          rcases hO b with z | ⟨ob, xs, z⟩
          · rw [q] at z; cases z
          · have e1 := (hok b _ z).1
            have e2 := (hok' b _ (un.frzs b ob _ z)).1
            rw [e] at e1
            cases e1
            exact e2
      | _ => exact h.elim
  cases hk : List.lookup a K with
  | none =>
    refine core (fun b => if b = a then some (.frz { cls := .type "list", data := .seq vs.toArray } (.lst (ns.map V.int))) else none) (fun b => ?_) (.inl (.inr ⟨_, if_pos rfl⟩)) (fun b u z => ?_) (fun b z => ?_) fun _ => hk
    · by_cases e : b = a
      · exact .inr ⟨_, _, if_pos e⟩
      · exact .inl (if_neg e)
    · by_cases e : b = a
      · subst e
        have z2 := (if_pos rfl).symm.trans z
        cases z2
        exact ⟨ha, by rw [List.length_map]; exact hl, vs, 0, rv, ha⟩
      · have z2 := (if_neg e).symm.trans z
        cases z2
    · by_cases e : b = a
      · exact e
      · exact absurd (if_neg e) z
  | some o =>
    have e := KX a o hk
    rw [ha] at e
    cases e
    refine core (fun _ => none) (fun _ => .inl rfl) (.inr ⟨_, vs.toArray, 0, hk, rfl, rfl, rfl, ?_, rv⟩) (fun b u z => by cases z) (fun b z => absurd rfl z) fun z => absurd rfl z
    rw [List.size_toArray, lenV]
    exact hl
theorem walk_known {l : OpenLaw} {n k : Nat} {q : Program} {loose : List Str} {XP : (Str → Option Value) → Heap → Prop} {YP : World → Heap → Prop} {d : DefRec} {x : Str}
    (hn : l.most = some n) (hn2 : n ≤ sizeLine) (hdf : d.params.defaults = []) (hr : Room k callerA)
    (F : ∀ (w : World) (mg : Str → Option Value) (fa : Addr) (h : Heap), YP w h → h.Ns mainGlobals mg → mg d.name = some (.ref fa) →
      ∃ (K : PySem.W.Frag) (fd : FuncData) (sp : Sp), K.In h ∧ (∀ (s : Shared) (u : Value), BindsTo s fd ⟨[u], []⟩ [(x, u)]) ∧
        (∀ (H : Hp) (a : Addr) (ns : List Int), ns.length ≤ n → Only H → SqL K H a (ns.map V.int) → sp [.ref a] H (fun v _ => v = .bl true) (fun _ _ _ => False)) ∧
        ∀ base : Heap, K.In base → base.Ns mainGlobals mg → Known l.prog w K mg base k fa fd [x] sp) :
    WalkO q loose XP YP l.row.toRowW d [] fun f vs => call f vs := by
  refine Att.attach_call hn hdf fun w s₀ s₁ mg mb fa o pm cd doc a vs ns G Y ho hd hcd hmg hobj hints hlen hg => ?_
  obtain ⟨K, fd, sp, KX, hb, hsp, hF⟩ := F w mg fa s₁.heap Y G.T.g hmg
  exact call_known KX G.T.g G.T.b G.T.builtins G.T.nolimit hg hobj hints (Nat.le_trans hlen hn2) hr hF hb fun H hO hS => hsp H a ns hlen hO hS
end Gk

set_option autoImplicit false
set_option maxHeartbeats 2000000
namespace Vl
open PySem PySem.Spec PyProof.Rows L2 TL CwR PySem.StrLaws
mutual
theorem Vd.reads {P : Program} {w : World} {H : Hp} {h : Heap} (ok : HOk P w H h) : ∀ {x : V} {d : PyData} {u : Value}, Vd H x d → RelV x u → Reads h u d []
  | _, _, _, .non, e => by cases (show _ = Value.none from e); exact .none
  | _, _, _, .bl b, e => by cases (show _ = Value.bool b from e); exact .bool b
  | _, _, _, .int i, e => by obtain ⟨t, rfl⟩ := e; exact .int i t
  | _, _, _, .str x, e => by obtain ⟨t, rfl⟩ := e; exact .str x t
  | _, _, _, .tup (a := a) ha r, e => by
    cases (show _ = Value.ref a from e)
    obtain ⟨_, its, rv, o, e1, e2, n, e3⟩ := ok a _ ha
    exact .tuple e1 e2 e3 (VdAll.reads ok r rv)
theorem VdAll.reads {P : Program} {w : World} {H : Hp} {h : Heap} (ok : HOk P w H h) : ∀ {xs : List V} {ds : List PyData} {us : List Value}, VdAll H xs ds → Vals xs us → ReadsAll h us ds []
  | _, _, _, .nil, e => by cases e; exact .nil
  | _, _, _, .cons a r, e => by
    cases e with
    | cons e1 e2 => exact ReadsAll.cons (as := []) (bs := []) (Vd.reads ok a e1) (VdAll.reads ok r e2)
end
theorem call_reprV {X : Cx} (hg : X.A.guards = some []) (hu : X.A.units + 200 < cLine) : CallR X (.builtin "repr") (fun xs H Q => ∃ (x : V) (d : PyData), xs = [x] ∧ Vd H x d ∧ d.showable = true ∧ d.depth ≤ 60 ∧ d.shown.length ≤ sizeLine ∧ Q (.str d.shown) H) := by
  rintro pins s σ H xs us Q I r ⟨x, d, rfl, hv, hs, hd, hl, q⟩
  cases r with
  | cons r1 r2 =>
  cases r2
  cases hv with
  | non =>
    cases (show _ = Value.none from r1)
    exact PySem.P.repr_of_none ⟨.str (PyData.shown .none), H, I.tok _, ⟨_, rfl⟩, q⟩
  | bl b =>
    cases (show _ = Value.bool b from r1)
    exact PySem.P.repr_of_bool ⟨.str (PyData.shown (.bool b)), H, I.tok _, ⟨_, rfl⟩, q⟩
  | int i =>
    obtain ⟨t, rfl⟩ := r1
    exact PySem.P.repr_of_int (of_decide_eq_true hs) ⟨.str (PyData.shown (.int i)), H, I.tok _, ⟨_, rfl⟩, q⟩
  | str z =>
    obtain ⟨t, rfl⟩ := r1
    exact PySem.P.repr_of_str ⟨.str (PyData.shown (.str z)), H, I.tok _, ⟨_, rfl⟩, q⟩ hl
  | tup ha hr =>
    rename_i a ys ds
    cases (show _ = Value.ref a from r1)
    refine repr_of_reads' (Vd.reads I.hok (.tup ha hr) (show RelV (V.ref a) (Value.ref a) from rfl)) hs (fun _ z => by cases z) hg (by omega) (fun _ _ e => e) (fun h' u tk hk => ⟨.str (PyData.shown (.tuple ds)), H, I.kept hk, ⟨u, rfl⟩, q⟩) hl
/-! ### how long what is shown is -/
theorem joinL_lenV (S : List Nat) : ∀ ps : List (List Nat), (joinL S ps).length ≤ (ps.map List.length).sum + ps.length * S.length
  | [] => Nat.zero_le _
  | [p] => by
    show p.length ≤ p.length + 0 + 1 * S.length
    omega
  | p :: q :: r => by
    have ih := joinL_lenV S (q :: r)
    show (p ++ (S ++ joinL S (q :: r))).length ≤ p.length + ((q :: r).map List.length).sum + ((q :: r).length + 1) * S.length
    rw [List.length_append, List.length_append, Nat.succ_mul]
    omega
theorem showable_of : ∀ {d : PyData}, SmA d → Ok d → d.showable = true := by
  intro d h
  induction h with
  | flat hs n =>
    intro ok
    cases ok with
    | int i hi => exact decide_eq_true hs
    | tup h => exact absurd rfl (n _)
    | _ => rfl
  | tup h ih =>
    rename_i ds
    intro ok
    cases ok with
    | tup hk =>
    have all : ∀ l : List PyData, (∀ d ∈ l, d.showable = true) → PyData.showableAll l = true := by
      intro l
      induction l with
      | nil => intro _; rfl
      | cons a r ihl =>
        intro hh
        show (a.showable && PyData.showableAll r) = true
        rw [hh a (List.mem_cons_self ..), ihl fun x hx => hh x (List.mem_cons_of_mem _ hx)]
        rfl
    exact all ds fun d hd => ih d hd (hk d hd)
theorem reprText_lenV (z : Str) (h : ∀ c ∈ tl z, 32 ≤ c ∧ c ≤ 126 ∧ c ≠ 37) : (reprText z).length ≤ 2 + 10 * z.length := by
  have e := foldl_repr_len (reprQuote z) z.cps.toList #[reprQuote z] fun c hc => by
    have := h c hc
    have : (127 : Nat) < 16 ^ 8 := by decide
    omega
  show (reprText z).cps.size ≤ _
  unfold reprText
  rw [← Array.foldl_toList]
  show (Array.push _ _).size ≤ _
  rw [Array.size_push]
  have l1 : (#[reprQuote z] : Array Nat).size = 1 := rfl
  have l2 : z.cps.toList.length = z.length := Array.length_toList
  omega
theorem dbl_ge : ∀ l : List Nat, l.length ≤ (dbl l).length
  | [] => Nat.le_refl _
  | c :: r => by
    have ih := dbl_ge r
    show r.length + 1 ≤ (if c = 34 then 34 :: 34 :: dbl r else c :: dbl r).length
    by_cases h : c = 34
    · rw [if_pos h]
      show _ ≤ (dbl r).length + 1 + 1
      omega
    · rw [if_neg h]
      show _ ≤ (dbl r).length + 1
      omega
theorem shownAll_eq : ∀ l : List PyData, PyData.shownAll l = l.map PyData.shown
  | [] => rfl
  | a :: r => by
    show a.shown :: PyData.shownAll r = a.shown :: r.map PyData.shown
    rw [shownAll_eq r]
theorem shown_len : ∀ {d : PyData}, Ok d → d.shown.length ≤ 10 * (wr d).length := by
  intro d h
  induction h with
  | non => decide +kernel
  | bl b => cases b <;> decide +kernel
  | int i hi =>
    have e : (PyData.shown (.int i)).length = (sgn i).length := len_tl (num i)
    show _ ≤ 10 * (sgn i).length
    omega
  | str z hz =>
    have e := reprText_lenV z hz
    have e2 := dbl_ge (tl z)
    have e3 := len_tl z
    show (reprText z).length ≤ 10 * (34 :: (dbl (tl z) ++ [34])).length
    rw [List.length_cons, List.length_append]
    show _ ≤ 10 * ((dbl (tl z)).length + 1 + 1)
    omega
  | tup h ih =>
    rename_i ds
    show (tupleText (PyData.shownAll ds)).length ≤ 10 * (40 :: wrF ds).length
    rw [shownAll_eq, List.length_cons]
    have hw := wr_len_all ds
    have hT := wrT_wrF ds
    have hsum : ∀ l : List PyData, (∀ d ∈ l, d.shown.length ≤ 10 * (wr d).length) → ((l.map PyData.shown).map Str.length).sum ≤ 10 * ((l.map wr).map List.length).sum := by
      intro l
      induction l with
      | nil => intro _; exact Nat.le_refl 0
      | cons a r ihl =>
        intro hh
        have h1 := hh a (List.mem_cons_self ..)
        have h2 := ihl fun x hx => hh x (List.mem_cons_of_mem _ hx)
        show a.shown.length + ((r.map PyData.shown).map Str.length).sum ≤ 10 * ((wr a).length + ((r.map wr).map List.length).sum)
        omega
    have hs := hsum ds ih
    have hj := joinL_lenV (tl (Str.ofString ", ")) ((ds.map PyData.shown).map tl)
    have hj2 : (((ds.map PyData.shown).map tl).map List.length) = ((ds.map PyData.shown).map Str.length) := by
      rw [List.map_map]
      exact List.map_congr_left fun p _ => (len_tl p).symm
    have t2 : (tl (Str.ofString ", ")).length = 2 := by decide +kernel
    have l1 : (Str.ofString "(").length = 1 := by decide +kernel
    have l2 : (Str.ofString (if ((ds.map PyData.shown).length == 1) = true then ",)" else ")")).length ≤ 2 := by
      by_cases e : ((ds.map PyData.shown).length == 1) = true
      · rw [if_pos e]; decide +kernel
      · rw [if_neg e]; decide +kernel
    have lj : ((Str.ofString ", ").join (ds.map PyData.shown)).length = (joinL (tl (Str.ofString ", ")) ((ds.map PyData.shown).map tl)).length := by
      rw [len_tl, tl_join]
    rw [hj2, t2, List.length_map, List.length_map] at hj
    unfold tupleText
    rw [app_len, app_len, l1, lj]
    cases ds with
    | nil =>
      have e1 : (wrF []).length = 1 := rfl
      have e0 : (joinL (tl (Str.ofString ", ")) (List.map tl (List.map PyData.shown []))).length = 0 := rfl
      omega
    | cons a r =>
      rw [List.length_cons] at hw hj
      omega
end Vl

set_option autoImplicit false
set_option maxHeartbeats 2000000
namespace Vl
open PySem PySem.Spec PyProof.Rows L2 TL CwR PySem.StrLaws
/-! ### values that are shown alike by repr are the same -/
def esc (q : Nat) (l : List Nat) : List Nat := l.flatMap (Builtin.Str.reprChar q)
theorem rc_39 : ∀ c, c < 127 → 32 ≤ c → c ≠ 92 → c ≠ 39 → Builtin.Str.reprChar 39 c = [c] := by decide +kernel
theorem rc_34 : ∀ c, c < 127 → 32 ≤ c → c ≠ 92 → c ≠ 34 → Builtin.Str.reprChar 34 c = [c] := by decide +kernel
theorem rc_of {q c : Nat} (hq : q = 34 ∨ q = 39) (h : 32 ≤ c ∧ c ≤ 126) : (c = q ∨ c = 92) ∧ Builtin.Str.reprChar q c = [92, c] ∨ (c ≠ q ∧ c ≠ 92) ∧ Builtin.Str.reprChar q c = [c] := by
  by_cases a : c = 92
  · subst a
    rcases hq with rfl | rfl
    · exact .inl ⟨.inr rfl, by decide +kernel⟩
    · exact .inl ⟨.inr rfl, by decide +kernel⟩
  · by_cases b : c = q
    · subst b
      rcases hq with rfl | rfl
      · exact .inl ⟨.inl rfl, by decide +kernel⟩
      · exact .inl ⟨.inl rfl, by decide +kernel⟩
    · rcases hq with rfl | rfl
      · exact .inr ⟨⟨b, a⟩, rc_34 c (by omega) h.1 a b⟩
      · exact .inr ⟨⟨b, a⟩, rc_39 c (by omega) h.1 a b⟩
theorem esc_one {q : Nat} (hq : q = 34 ∨ q = 39) : ∀ (l l' r r' : List Nat), (∀ c ∈ l, 32 ≤ c ∧ c ≤ 126) → (∀ c ∈ l', 32 ≤ c ∧ c ≤ 126) → esc q l ++ q :: r = esc q l' ++ q :: r' → l = l' ∧ r = r'
  | [], [], r, r', _, _, e => ⟨rfl, (List.cons.inj e).2⟩
  | [], c :: l', r, r', _, h', e => by
    exfalso
    have e2 : q :: r = Builtin.Str.reprChar q c ++ (esc q l' ++ q :: r') := by
      have : esc q (c :: l') = Builtin.Str.reprChar q c ++ esc q l' := rfl
      rw [this, List.append_assoc] at e
      exact e
    rcases rc_of hq (h' c (List.mem_cons_self ..)) with ⟨_, z⟩ | ⟨a, z⟩
    · rw [z] at e2
      have := (List.cons.inj e2).1
      omega
    · rw [z] at e2
      exact a.1 (List.cons.inj e2).1.symm
  | c :: l, [], r, r', h, _, e => by
    exfalso
    have e2 : Builtin.Str.reprChar q c ++ (esc q l ++ q :: r) = q :: r' := by
      have : esc q (c :: l) = Builtin.Str.reprChar q c ++ esc q l := rfl
      rw [this, List.append_assoc] at e
      exact e
    rcases rc_of hq (h c (List.mem_cons_self ..)) with ⟨_, z⟩ | ⟨a, z⟩
    · rw [z] at e2
      have := (List.cons.inj e2).1
      omega
    · rw [z] at e2
      exact a.1 (List.cons.inj e2).1
  | c :: l, c' :: l', r, r', h, h', e => by
    have e2 : Builtin.Str.reprChar q c ++ (esc q l ++ q :: r) = Builtin.Str.reprChar q c' ++ (esc q l' ++ q :: r') := by
      have a : ∀ (x : Nat) (y : List Nat), esc q (x :: y) = Builtin.Str.reprChar q x ++ esc q y := fun _ _ => rfl
      rw [a, a, List.append_assoc, List.append_assoc] at e
      exact e
    have ih := esc_one hq l l' r r' (fun x hx => h x (List.mem_cons_of_mem _ hx)) fun x hx => h' x (List.mem_cons_of_mem _ hx)
    rcases rc_of hq (h c (List.mem_cons_self ..)) with ⟨a, z⟩ | ⟨a, z⟩ <;> rcases rc_of hq (h' c' (List.mem_cons_self ..)) with ⟨a', z'⟩ | ⟨a', z'⟩
    · rw [z, z'] at e2
      have e3 := (List.cons.inj (List.cons.inj e2).2)
      obtain ⟨x, y⟩ := ih e3.2
      exact ⟨by rw [e3.1, x], y⟩
    · rw [z, z'] at e2
      have := (List.cons.inj e2).1
      exact absurd this.symm a'.2
    · rw [z, z'] at e2
      have := (List.cons.inj e2).1
      exact absurd this a.2
    · rw [z, z'] at e2
      have e3 := List.cons.inj e2
      obtain ⟨x, y⟩ := ih e3.2
      exact ⟨by rw [e3.1, x], y⟩
def shL (d : PyData) : List Nat := tl d.shown
theorem quote_of (z : Str) : reprQuote z = 34 ∨ reprQuote z = 39 := by
  unfold reprQuote
  split
  · exact .inl rfl
  · exact .inr rfl
theorem fold_esc (q : Nat) : ∀ (l : List Nat) (acc : Array Nat), (l.foldl (fun out c => out ++ (Builtin.Str.reprChar q c).toArray) acc).toList = acc.toList ++ esc q l
  | [], acc => by simp [esc]
  | c :: l, acc => by
    have ih := fold_esc q l (acc ++ (Builtin.Str.reprChar q c).toArray)
    show (List.foldl (fun (out : Array Nat) c => out ++ (Builtin.Str.reprChar q c).toArray) (acc ++ (Builtin.Str.reprChar q c).toArray) l).toList = _
    rw [ih]
    simp [esc]
theorem shL_str (z : Str) : shL (.str z) = reprQuote z :: (esc (reprQuote z) (tl z) ++ [reprQuote z]) := by
  show (reprText z).cps.toList = _
  unfold reprText
  rw [← Array.foldl_toList]
  show (Array.push _ _).toList = _
  rw [Array.toList_push, fold_esc]
  rfl
theorem shL_tup (ds : List PyData) : shL (.tuple ds) = 40 :: (joinL [44, 32] (ds.map shL) ++ (if ds.length = 1 then [44, 41] else [41])) := by
  show tl (tupleText (PyData.shownAll ds)) = _
  rw [shownAll_eq]
  unfold tupleText
  have t1 : tl (Str.ofString "(") = [40] := by decide +kernel
  have t2 : tl (Str.ofString ", ") = [44, 32] := by decide +kernel
  have t3 : tl (Str.ofString ",)") = [44, 41] := by decide +kernel
  have t4 : tl (Str.ofString ")") = [41] := by decide +kernel
  rw [tl_append, tl_append, t1, tl_join, t2, List.map_map, List.length_map]
  have e : tl (Str.ofString (if (ds.length == 1) = true then ",)" else ")")) = if ds.length = 1 then [44, 41] else [41] := by
    by_cases h : ds.length = 1
    · rw [if_pos h, if_pos (by simpa using h), t3]
    · rw [if_neg h, if_neg (by simpa using h), t4]
  rw [e]
  show [40] ++ joinL [44, 32] (ds.map shL) ++ _ = _
  simp
def Aft2 (r : List Nat) : Prop := ∀ c, r.head? = some c → c = 44 ∨ c = 41
def Uni (d : PyData) : Prop := ∀ (d' : PyData) (r r' : List Nat), Ok d' → Aft2 r → Aft2 r' → shL d ++ r = shL d' ++ r' → d = d' ∧ r = r'
def digS (c : Nat) : Bool := c == 45 || decide (48 ≤ c ∧ c ≤ 57)
theorem sgn_dig (i : Int) : ∀ c ∈ sgn i, digS c = true := by
  intro c hc
  by_cases h0 : 0 ≤ i
  · obtain ⟨n, rfl⟩ := Int.eq_ofNat_of_zero_le h0
    rw [sgn_pos] at hc
    have := numL_digits n c hc
    simp [digS, this]
  · obtain ⟨n, hn0, rfl⟩ : ∃ n : Nat, 0 < n ∧ i = -(n : Int) := ⟨i.natAbs, by omega, by omega⟩
    rw [sgn_neg hn0] at hc
    rcases List.mem_cons.mp hc with e | e
    · rw [e]; rfl
    · have := numL_digits n c e
      simp [digS, this]
theorem sgn_ne (i : Int) : sgn i ≠ [] := by
  by_cases h0 : 0 ≤ i
  · obtain ⟨n, rfl⟩ := Int.eq_ofNat_of_zero_le h0
    rw [sgn_pos]
    exact numL_ne n
  · obtain ⟨n, hn0, rfl⟩ : ∃ n : Nat, 0 < n ∧ i = -(n : Int) := ⟨i.natAbs, by omega, by omega⟩
    rw [sgn_neg hn0]
    simp
theorem span_one : ∀ (l l' r r' : List Nat), (∀ c ∈ l, digS c = true) → (∀ c ∈ l', digS c = true) → (∀ c, r.head? = some c → digS c = false) → (∀ c, r'.head? = some c → digS c = false) → l ++ r = l' ++ r' → l = l' ∧ r = r'
  | [], [], _, _, _, _, _, _, e => ⟨rfl, e⟩
  | [], c :: l', r, r', _, h', hr, _, e => by
    have : digS c = false := hr c (by rw [show r = c :: (l' ++ r') from e]; rfl)
    rw [h' c (List.mem_cons_self ..)] at this
    cases this
  | c :: l, [], r, r', h, _, _, hr', e => by
    have : digS c = false := hr' c (by rw [show r' = c :: (l ++ r) from e.symm]; rfl)
    rw [h c (List.mem_cons_self ..)] at this
    cases this
  | c :: l, c' :: l', r, r', h, h', hr, hr', e => by
    have e2 := List.cons.inj e
    obtain ⟨a, b⟩ := span_one l l' r r' (fun x hx => h x (List.mem_cons_of_mem _ hx)) (fun x hx => h' x (List.mem_cons_of_mem _ hx)) hr hr' e2.2
    exact ⟨by rw [e2.1, a], b⟩
theorem Aft2.dig {r : List Nat} (a : Aft2 r) : ∀ c, r.head? = some c → digS c = false := fun c h => by
  rcases a c h with z | z <;> rw [z] <;> rfl
/-- the kind of a value, by the first sign -/
def kindN : Nat → Nat
  | 78 => 0
  | 84 => 1
  | 70 => 2
  | 34 => 4
  | 39 => 4
  | 40 => 5
  | _ => 3
def kindD : PyData → Nat
  | .none => 0
  | .bool true => 1
  | .bool false => 2
  | .int _ => 3
  | .str _ => 4
  | _ => 5
theorem kind_dig {c : Nat} (h : digS c = true) : kindN c = 3 := by
  have : c = 45 ∨ 48 ≤ c ∧ c ≤ 57 := by simpa [digS] using h
  have all : ∀ c, c < 58 → (c = 45 ∨ 48 ≤ c ∧ c ≤ 57) → kindN c = 3 := by decide
  exact all c (by omega) this
theorem sh_head {d : PyData} (h : Ok d) : ∃ c r, shL d = c :: r ∧ kindN c = kindD d ∧ c ≠ 41 := by
  cases h with
  | non => exact ⟨78, _, rfl, rfl, by decide⟩
  | bl b =>
    cases b with
    | true => exact ⟨84, _, rfl, rfl, by decide⟩
    | false => exact ⟨70, _, rfl, rfl, by decide⟩
  | int i hi =>
    have e : shL (.int i) = sgn i := rfl
    rw [e]
    cases q : sgn i with
    | nil => exact absurd q (sgn_ne i)
    | cons c r =>
      have z := sgn_dig i c (by rw [q]; exact List.mem_cons_self ..)
      refine ⟨c, r, rfl, kind_dig z, fun y => ?_⟩
      rw [y] at z
      cases z
  | str z hz =>
    rw [shL_str]
    rcases quote_of z with q | q
    · rw [q]; exact ⟨34, _, rfl, rfl, by decide⟩
    · rw [q]; exact ⟨39, _, rfl, rfl, by decide⟩
  | tup h =>
    rw [shL_tup]
    exact ⟨40, _, rfl, rfl, by decide⟩
theorem many_one : ∀ (ds ds' : List PyData) (r r' : List Nat), (∀ d ∈ ds, Uni d) → (∀ d ∈ ds', Ok d) → ds ≠ [] → ds' ≠ [] → joinL [44, 32] (ds.map shL) ++ 41 :: r = joinL [44, 32] (ds'.map shL) ++ 41 :: r' → ds = ds' ∧ r = r'
  | [], _, _, _, _, _, h, _, _ => absurd rfl h
  | _, [], _, _, _, _, _, h, _ => absurd rfl h
  | [d], [d'], r, r', u, o, _, _, e => by
    obtain ⟨a, b⟩ := u d (List.mem_cons_self ..) d' (41 :: r) (41 :: r') (o d' (List.mem_cons_self ..)) (fun c h => by cases h; exact .inr rfl) (fun c h => by cases h; exact .inr rfl) e
    exact ⟨by rw [a], (List.cons.inj b).2⟩
  | [d], d' :: x :: l', r, r', u, o, _, _, e => by
    have e2 : shL d ++ 41 :: r = shL d' ++ (44 :: 32 :: (joinL [44, 32] ((x :: l').map shL) ++ 41 :: r')) := by
      have y : joinL [44, 32] ((d' :: x :: l').map shL) = shL d' ++ ([44, 32] ++ joinL [44, 32] ((x :: l').map shL)) := rfl
      have y2 : joinL [44, 32] ([d].map shL) = shL d := rfl
      rw [y, y2, List.append_assoc, List.append_assoc] at e
      exact e
    obtain ⟨_, b⟩ := u d (List.mem_cons_self ..) d' _ _ (o d' (List.mem_cons_self ..)) (fun c h => by cases h; exact .inr rfl) (fun c h => by cases h; exact .inl rfl) e2
    have := (List.cons.inj b).1
    omega
  | d :: x :: l, [d'], r, r', u, o, _, _, e => by
    have e2 : shL d ++ (44 :: 32 :: (joinL [44, 32] ((x :: l).map shL) ++ 41 :: r)) = shL d' ++ 41 :: r' := by
      have y : joinL [44, 32] ((d :: x :: l).map shL) = shL d ++ ([44, 32] ++ joinL [44, 32] ((x :: l).map shL)) := rfl
      have y2 : joinL [44, 32] ([d'].map shL) = shL d' := rfl
      rw [y, y2, List.append_assoc, List.append_assoc] at e
      exact e
    obtain ⟨_, b⟩ := u d (List.mem_cons_self ..) d' _ _ (o d' (List.mem_cons_self ..)) (fun c h => by cases h; exact .inl rfl) (fun c h => by cases h; exact .inr rfl) e2
    have := (List.cons.inj b).1
    omega
  | d :: x :: l, d' :: x' :: l', r, r', u, o, _, _, e => by
    have e2 : shL d ++ (44 :: 32 :: (joinL [44, 32] ((x :: l).map shL) ++ 41 :: r)) = shL d' ++ (44 :: 32 :: (joinL [44, 32] ((x' :: l').map shL) ++ 41 :: r')) := by
      have a : ∀ (d x : PyData) (l : List PyData), joinL [44, 32] ((d :: x :: l).map shL) = shL d ++ ([44, 32] ++ joinL [44, 32] ((x :: l).map shL)) := fun _ _ _ => rfl
      rw [a, a] at e
      simpa using e
    obtain ⟨a, b⟩ := u d (List.mem_cons_self ..) d' _ _ (o d' (List.mem_cons_self ..)) (fun c h => by cases h; exact .inl rfl) (fun c h => by cases h; exact .inl rfl) e2
    obtain ⟨p, q⟩ := many_one (x :: l) (x' :: l') r r' (fun y hy => u y (List.mem_cons_of_mem _ hy)) (fun y hy => o y (List.mem_cons_of_mem _ hy)) (by simp) (by simp) (List.cons.inj (List.cons.inj b).2).2
    exact ⟨by rw [a, p], q⟩
theorem uni {d : PyData} (h : Ok d) : Uni d := by
  induction h with
  | non =>
    intro d' r r' o a a' e
    obtain ⟨c, l, e1, k1, _⟩ := sh_head .non
    obtain ⟨c', l', e2, k2, _⟩ := sh_head o
    have ec : c = c' := by rw [e1, e2] at e; exact (List.cons.inj e).1
    have kk : kindD d' = 0 := by rw [← k2, ← ec, k1]; rfl
    cases o with
    | non => exact ⟨rfl, List.append_cancel_left e⟩
    | bl b => cases b <;> cases kk
    | _ => cases kk
  | bl b =>
    intro d' r r' o a a' e
    obtain ⟨c, l, e1, k1, _⟩ := sh_head (.bl b)
    obtain ⟨c', l', e2, k2, _⟩ := sh_head o
    have ec : c = c' := by rw [e1, e2] at e; exact (List.cons.inj e).1
    have kk : kindD d' = kindD (.bool b) := by rw [← k2, ← ec, k1]
    cases o with
    | bl b' =>
      have eb : b = b' := by cases b <;> cases b' <;> first | rfl | cases kk
      subst eb
      exact ⟨rfl, List.append_cancel_left e⟩
    | _ => cases b <;> cases kk
  | int i hi =>
    intro d' r r' o a a' e
    obtain ⟨c, l, e1, k1, _⟩ := sh_head (.int i hi)
    obtain ⟨c', l', e2, k2, _⟩ := sh_head o
    have ec : c = c' := by rw [e1, e2] at e; exact (List.cons.inj e).1
    have kk : kindD d' = 3 := by rw [← k2, ← ec, k1]; rfl
    cases o with
    | int j hj =>
      have e3 : sgn i ++ r = sgn j ++ r' := e
      obtain ⟨p, q⟩ := span_one _ _ _ _ (sgn_dig i) (sgn_dig j) a.dig a'.dig e3
      exact ⟨wr_one (.int i hi) (.int j hj) p, q⟩
    | bl b => cases b <;> cases kk
    | _ => cases kk
  | str z hz =>
    intro d' r r' o a a' e
    obtain ⟨c, l, e1, k1, _⟩ := sh_head (.str z hz)
    obtain ⟨c', l', e2, k2, _⟩ := sh_head o
    have ec : c = c' := by rw [e1, e2] at e; exact (List.cons.inj e).1
    have kk : kindD d' = 4 := by rw [← k2, ← ec, k1]; rfl
    cases o with
    | str y hy =>
      rw [shL_str, shL_str] at e
      have e3 := List.cons.inj e
      have eq : reprQuote z = reprQuote y := e3.1
      have e4 : esc (reprQuote z) (tl z) ++ reprQuote z :: r = esc (reprQuote z) (tl y) ++ reprQuote z :: r' := by
        have := e3.2
        rw [← eq] at this
        simpa using this
      obtain ⟨p, q⟩ := esc_one (quote_of z) _ _ _ _ (fun c hc => ⟨(hz c hc).1, (hz c hc).2.1⟩) (fun c hc => ⟨(hy c hc).1, (hy c hc).2.1⟩) e4
      exact ⟨by rw [str_ext p], q⟩
    | bl b => cases b <;> cases kk
    | _ => cases kk
  | tup h ih =>
    rename_i ds
    intro d' r r' o a a' e
    obtain ⟨c, l, e1, k1, _⟩ := sh_head (.tup h)
    obtain ⟨c', l', e2, k2, _⟩ := sh_head o
    have ec : c = c' := by rw [e1, e2] at e; exact (List.cons.inj e).1
    have kk : kindD d' = 5 := by rw [← k2, ← ec, k1]; rfl
    cases o with
    | tup h' =>
      rename_i ds'
      rw [shL_tup, shL_tup] at e
      have e3 := (List.cons.inj e).2
      match ds, ds', h, h', ih, e3 with
      | [], [], _, _, _, e3 => exact ⟨rfl, (List.cons.inj e3).2⟩
      | [], d' :: l', _, h', _, e3 =>
        exfalso
        obtain ⟨c, l, q, _, n⟩ := sh_head (h' d' (List.mem_cons_self ..))
        have : ∃ s, joinL [44, 32] ((d' :: l').map shL) = c :: s := by
          cases l' with
          | nil => exact ⟨l, q⟩
          | cons x y =>
            refine ⟨l ++ ([44, 32] ++ joinL [44, 32] ((x :: y).map shL)), ?_⟩
            show shL d' ++ _ = _
            rw [q]
            rfl
        obtain ⟨s, es⟩ := this
        rw [es] at e3
        exact n (List.cons.inj e3).1.symm
      | d :: l, [], h, _, _, e3 =>
        exfalso
        obtain ⟨c, l2, q, _, n⟩ := sh_head (h d (List.mem_cons_self ..))
        have : ∃ s, joinL [44, 32] ((d :: l).map shL) = c :: s := by
          cases l with
          | nil => exact ⟨l2, q⟩
          | cons x y =>
            refine ⟨l2 ++ ([44, 32] ++ joinL [44, 32] ((x :: y).map shL)), ?_⟩
            show shL d ++ _ = _
            rw [q]
            rfl
        obtain ⟨s, es⟩ := this
        rw [es] at e3
        exact n (List.cons.inj e3).1
      | [d], [d'], h, h', ih, e3 =>
        have e4 : shL d ++ (44 :: 41 :: r) = shL d' ++ (44 :: 41 :: r') := by
          have z : ∀ (x : PyData) (s : List Nat), joinL [44, 32] ([x].map shL) ++ (if [x].length = 1 then [44, 41] else [41]) ++ s = shL x ++ (44 :: 41 :: s) := fun x s => by
            show shL x ++ [44, 41] ++ s = _
            simp
          rw [← z d r, ← z d' r']
          exact e3
        obtain ⟨p, q⟩ := ih d (List.mem_cons_self ..) d' _ _ (h' d' (List.mem_cons_self ..)) (fun c h => by cases h; exact .inl rfl) (fun c h => by cases h; exact .inl rfl) e4
        exact ⟨by rw [p], (List.cons.inj (List.cons.inj q).2).2⟩
      | [d], d' :: x :: l', h, h', ih, e3 =>
        exfalso
        have e4 : shL d ++ (44 :: 41 :: r) = shL d' ++ (44 :: 32 :: (joinL [44, 32] ((x :: l').map shL) ++ 41 :: r')) := by
          have z : joinL [44, 32] ([d].map shL) ++ (if [d].length = 1 then [44, 41] else [41]) ++ r = shL d ++ (44 :: 41 :: r) := by
            show shL d ++ [44, 41] ++ r = _
            simp
          have z2 : joinL [44, 32] ((d' :: x :: l').map shL) ++ (if (d' :: x :: l').length = 1 then [44, 41] else [41]) ++ r' = shL d' ++ (44 :: 32 :: (joinL [44, 32] ((x :: l').map shL) ++ 41 :: r')) := by
            rw [if_neg (by simp)]
            show shL d' ++ ([44, 32] ++ joinL [44, 32] ((x :: l').map shL)) ++ [41] ++ r' = _
            simp
          rw [← z, ← z2]
          exact e3
        obtain ⟨p, q⟩ := ih d (List.mem_cons_self ..) d' _ _ (h' d' (List.mem_cons_self ..)) (fun c h => by cases h; exact .inl rfl) (fun c h => by cases h; exact .inl rfl) e4
        have := (List.cons.inj (List.cons.inj q).2).1
        omega
      | d :: x :: l, [d'], h, h', ih, e3 =>
        exfalso
        have e4 : shL d ++ (44 :: 32 :: (joinL [44, 32] ((x :: l).map shL) ++ 41 :: r)) = shL d' ++ (44 :: 41 :: r') := by
          have z : joinL [44, 32] ([d'].map shL) ++ (if [d'].length = 1 then [44, 41] else [41]) ++ r' = shL d' ++ (44 :: 41 :: r') := by
            show shL d' ++ [44, 41] ++ r' = _
            simp
          have z2 : joinL [44, 32] ((d :: x :: l).map shL) ++ (if (d :: x :: l).length = 1 then [44, 41] else [41]) ++ r = shL d ++ (44 :: 32 :: (joinL [44, 32] ((x :: l).map shL) ++ 41 :: r)) := by
            rw [if_neg (by simp)]
            show shL d ++ ([44, 32] ++ joinL [44, 32] ((x :: l).map shL)) ++ [41] ++ r = _
            simp
          rw [← z, ← z2]
          exact e3
        obtain ⟨p, q⟩ := ih d (List.mem_cons_self ..) d' _ _ (h' d' (List.mem_cons_self ..)) (fun c h => by cases h; exact .inl rfl) (fun c h => by cases h; exact .inl rfl) e4
        have := (List.cons.inj (List.cons.inj q).2).1
        omega
      | d :: x :: l, d' :: x' :: l', h, h', ih, e3 =>
        have e4 : joinL [44, 32] ((d :: x :: l).map shL) ++ 41 :: r = joinL [44, 32] ((d' :: x' :: l').map shL) ++ 41 :: r' := by
          have z : ∀ (d x : PyData) (l : List PyData) (s : List Nat), joinL [44, 32] ((d :: x :: l).map shL) ++ (if (d :: x :: l).length = 1 then [44, 41] else [41]) ++ s = joinL [44, 32] ((d :: x :: l).map shL) ++ 41 :: s := fun d x l s => by
            rw [if_neg (by simp)]
            simp
          rw [← z, ← z]
          exact e3
        obtain ⟨p, q⟩ := many_one _ _ _ _ ih h' (by simp) (by simp) e4
        exact ⟨by rw [p], q⟩
    | bl b => cases b <;> cases kk
    | _ => cases kk
theorem shown_one {d d' : PyData} (h : Ok d) (h' : Ok d') (e : d.shown = d'.shown) : d = d' := by
  have z : shL d ++ [] = shL d' ++ [] := by
    show tl d.shown ++ [] = tl d'.shown ++ []
    rw [e]
  exact (uni h d' [] [] h' (fun c h => by cases h) (fun c h => by cases h) z).1
/-- written alike just where repr is alike -/
theorem alike {d d' : PyData} (h : Ok d) (h' : Ok d') : wr d = wr d' ↔ d.shown = d'.shown :=
  ⟨fun e => by rw [wr_one h h' e], fun e => by rw [shown_one h h' e]⟩
end Vl

set_option autoImplicit false
set_option maxHeartbeats 4000000
namespace Vl
open PySem PySem.Spec PyProof.Rows L2 TL CwR PySem.StrLaws
abbrev sTold : Stmt := top 25
theorem scTold : FnScope ["written", "kept", "found", "e"] ["written"] (defScope sTold) := ⟨rfl, rfl, rfl, by decide +kernel, rfl, by decide +kernel, by decide +kernel⟩
def spTold : Sp := fun vs H Q _ => ∃ t : Str, vs = [.str t] ∧ t.length ≤ 10000000 ∧
  (∀ d, Go (tl t) 0 [[]] d → ∀ H' p x, Same H H' → H p = none → H' p = some (.tup [.str "told", x]) → Vd H' x d → Q (.ref p) H') ∧
  (∀ n : Nat, GoE (tl t) 0 [[]] n → ∀ H' p, Same H H' → H p = none → H' p = some (.tup [.str "refused", .int (n : Int)]) → Q (.ref p) H')
section
variable {P : Program} {w : World} {K : PySem.W.Frag} {mg : Str → Option Value} {base : Heap}
theorem ok_told {C fI : Addr} {fdI : FuncData} (T : NoV K mg C fI fdI) (XC : XfC K C) (te : PySem.W.exmOne K (.ref C) (.ref C) = some true) {f fR : Addr} {fd fdR : FuncData} (F : FnP K "_law_told" sTold f fd) (FR : FnP K "read" sRead fR fdR) (gR : mg "read" = some (.ref fR)) (GR : FnOk P w K mg base (L2.CX P w) 6 fR fdR ["text"] (spReadE C)) :
    FnOk P w K mg base CX0 7 f fd ["written"] spTold := by
  have bR : Binds K fdR ["text"] [] := FR.bindsN fun _ _ _ _ _ _ us hl => match us, hl with | [_], _ => rfl
  refine F.ok scTold (fun vs H Q E h => ?_) (fun cdv A outer s H vs Q E hr h => ?_)
  · obtain ⟨t, rfl, _⟩ := h
    rfl
  · obtain ⟨t, rfl, hz, q, qe⟩ := h
    have hs := szl
    refine ⟨_, pss_cons (ps_asg (pe_tup (pa_cons pe_non (pa_cons pe_non pa_nil))) (pg_tup rfl (pgs_cons (pg_name (i := 1) scTold.nd rfl (.inl rfl)) (pgs_cons (pg_name (i := 2) scTold.nd rfl (.inl rfl)) pgs_nil))))
      (pss_cons (ps_try_as (i := 3) (Wout := fun _ _ _ _ => False) rfl rfl scTold.nd rfl rfl ⟨rfl, by decide, .inl T.g⟩ takes0
        (fun W pn xe tk _ => pss_one (ps_set (i := 2) scTold.nd rfl (.inl rfl) (pe_callS GR hr (by rfl) gR FR.kp bR (fun σ => passAt tk σ) (pa_cons (pv 0) pa_nil))))
        (fun a oe cls d pn hz hf => pss_one (ps_set (i := 1) scTold.nd rfl (.inl rfl) (pe_xf XC T.noAt hz hf (pv 3)))))
      (pss_one (ps_ret (pe_ifExp (pt_cmpR op_isN (pv 1) pe_non (nomark _)) (pe_tup (pa_cons pe_str (pa_cons (pv 2) pa_nil))) (pe_tup (pa_cons pe_str (pa_cons (pv 1) pa_nil))))))), ?_⟩
    refine ⟨by show 2 ≤ sizeLine; omega, fun p0 np0 => ⟨p0, _, rfl, .inl (.inl upd_same), rfl, _, _, rfl, _, _, rfl, rfl, ?_⟩⟩
    have s0 := same_upd (o := HO.tup [.non, .non]) np0
    refine ⟨_, rfl, t, rfl, hz, fun d g H' x sm vd => ?_, fun n g H' dd sm hd hat => ?_⟩
    · refine ⟨_, rfl, rfl, _, rfl, iteT ⟨_, rfl, by show 2 ≤ sizeLine; omega, fun p np => ?_⟩⟩
      have s2 := same_upd (o := HO.tup [.str "told", x]) np
      exact q d g _ p x (s0.trans (sm.trans s2)) (s0.free (sm.free np)) upd_same (vd.keep (Same.keepT s2))
    · refine ⟨true, te, fun _ a0 na => ?_, fun y => Bool.noConfusion y⟩
      refine ⟨_, rfl, rfl, rfl, dd, _, .int (n : Int), rfl, hat, rfl, ?_⟩
      refine ⟨_, rfl, rfl, _, rfl, iteF ⟨_, rfl, by show 2 ≤ sizeLine; omega, fun p np => ?_⟩⟩
      exact qe n g _ p (s0.trans (sm.trans (same_upd np))) (s0.free (sm.free np)) upd_same
end
end Vl

set_option autoImplicit false
set_option maxHeartbeats 2000000
namespace Vl
open PySem PySem.Spec PyProof.Rows L2 TL CwR PySem.StrLaws
/-! ### what is written shortly is small -/
theorem dbl_ge' : ∀ l : List Nat, l.length ≤ (dbl l).length
  | [] => Nat.le_refl _
  | c :: r => by
    have ih := dbl_ge' r
    show r.length + 1 ≤ (if c = 34 then 34 :: 34 :: dbl r else c :: dbl r).length
    by_cases h : c = 34
    · rw [if_pos h]
      show _ ≤ (dbl r).length + 1 + 1
      omega
    · rw [if_neg h]
      show _ ≤ (dbl r).length + 1
      omega
theorem sm_of : ∀ {d : PyData}, Ok d → (wr d).length ≤ 1000000 → SmA d := by
  intro d h
  induction h with
  | non => intro _; exact good_non.sm
  | bl b => intro _; exact (good_bl b).sm
  | int i hi => intro _; exact (good_int hi).sm
  | str z hz =>
    intro hl
    refine .flat ?_ (fun _ e => by cases e)
    have h1 := dbl_ge' (tl z)
    have h2 := len_tl z
    have h3 : (wr (.str z)).length = (dbl (tl z)).length + 2 := by
      show (34 :: (dbl (tl z) ++ [34])).length = _
      rw [List.length_cons, List.length_append]
      rfl
    show z.length ≤ 1000000
    omega
  | tup h ih =>
    rename_i ds
    intro hl
    refine .tup fun d hd => ih d hd ?_
    have h1 := wr_mem_T ds hd
    have h2 := wrT_wrF ds
    have h3 : (wr (.tuple ds)).length = (wrF ds).length + 1 := rfl
    omega
theorem wr_len_all1 : ∀ ds : List PyData, ((ds.map wr).map List.length).sum + ds.length + 1 ≤ (wrT ds).length
  | [] => Nat.le_refl 1
  | d :: r => by
    have ih := wr_len_all1 r
    show (wr d).length + ((r.map wr).map List.length).sum + (r.length + 1) + 1 ≤ (32 :: (wr d ++ wrT r)).length
    rw [List.length_cons, List.length_append]
    omega
theorem sz_of : ∀ {d : PyData}, Ok d → sz d + 1 ≤ 2 * (wr d).length := by
  intro d h
  induction h with
  | non => show 1 + 1 ≤ 2 * 1; omega
  | bl b => show 1 + 1 ≤ 2 * 1; omega
  | int i hi =>
    have : 0 < (sgn i).length := by
      obtain ⟨c, r, e, _⟩ := (flat_int hi (rest := []) (.inl rfl)).2
      rw [e]
      exact Nat.succ_pos _
    show 1 + 1 ≤ 2 * (sgn i).length
    omega
  | str z hz =>
    show 1 + 1 ≤ 2 * (34 :: (dbl (tl z) ++ [34])).length
    rw [List.length_cons, List.length_append]
    show 1 + 1 ≤ 2 * ((dbl (tl z)).length + 1 + 1)
    omega
  | tup h ih =>
    rename_i ds
    have hw := wr_len_all1 ds
    have hT := wrT_wrF ds
    have hs : ∀ l : List PyData, (∀ d ∈ l, sz d + 1 ≤ 2 * (wr d).length) → szAll l ≤ 2 * ((l.map wr).map List.length).sum := by
      intro l
      induction l with
      | nil => intro _; exact Nat.le_refl 0
      | cons a r ihl =>
        intro hh
        have h1 := hh a (List.mem_cons_self ..)
        have h2 := ihl fun x hx => hh x (List.mem_cons_of_mem _ hx)
        show sz a + 1 + szAll r ≤ 2 * ((wr a).length + ((r.map wr).map List.length).sum)
        omega
    have h5 := hs ds ih
    show 2 + szAll ds + 1 ≤ 2 * ((wrF ds).length + 1)
    cases ds with
    | nil =>
      have e1 : (wrF []).length = 1 := rfl
      have e2 : szAll [] = 0 := rfl
      omega
    | cons a r =>
      rw [List.length_cons] at hw
      omega
end Vl

set_option autoImplicit false
set_option maxHeartbeats 4000000
namespace Vl
open PySem PySem.Spec PyProof.Rows L2 TL CwR PySem.StrLaws
mutual
theorem goE_once {L : List Nat} : ∀ {k : Nat} {st : List (List PyData)} {d d' : Nat}, GoE L k st d → GoE L k st d' → d = d'
  | _, _, _, _, .more a b c, h => by
    cases h with
    | more _ _ c' => exact goE_once c c'
    | empty _ b' _ => exact absurd b' b
    | flat a' _ _ => exact absurd a a'
    | bad a' _ => exact absurd a a'
  | _, _, _, _, .empty a b c, h => by
    cases h with
    | more _ b' _ => exact absurd b b'
    | empty _ _ c' => exact clE_once c c'
    | flat a' _ _ => exact absurd a a'
    | bad a' _ => exact absurd a a'
  | _, _, _, _, .flat a b c, h => by
    cases h with
    | more a' _ _ => exact absurd a' a
    | empty a' _ _ => exact absurd a' a
    | flat _ b' c' =>
      obtain ⟨rfl, rfl⟩ := flat_one b b'
      exact clE_once c c'
    | bad _ b' => exact absurd b' (flat_not b)
  | _, _, _, _, .bad a b, h => by
    cases h with
    | more a' _ _ => exact absurd a' a
    | empty a' _ _ => exact absurd a' a
    | flat _ b' _ => exact absurd b (flat_not b')
    | bad _ b' => rw [flatE_one b b']
theorem clE_once {L : List Nat} : ∀ {k : Nat} {st : List (List PyData)} {d d' : Nat}, ClE L k st d → ClE L k st d' → d = d'
  | _, _, _, _, .close a b, h => by
    cases h with
    | close _ b' => exact clE_once b b'
    | sep a' _ => rw [a] at a'; cases a'
    | bad a' _ => exact absurd a a'
  | _, _, _, _, .rest _, h => by
    cases h with
    | rest _ => rfl
  | _, _, _, _, .sep a b, h => by
    cases h with
    | close a' _ => rw [a] at a'; cases a'
    | sep _ b' => exact goE_once b b'
    | bad _ a' => exact absurd a a'
  | _, _, _, _, .bad a b, h => by
    cases h with
    | close a' _ => exact absurd a' a
    | sep a' _ => exact absurd a' b
    | bad _ _ => rfl
end
abbrev sRight : Stmt := top 26
theorem scRight : FnScope ["written", "many", "told"] ["written"] (defScope sRight) := ⟨rfl, rfl, rfl, by decide +kernel, rfl, by decide +kernel, by decide +kernel⟩
/-- each beginning is a writing, or refused at its end -/
def Begin (L : List Nat) : Prop := ∀ m, m ≤ L.length → (∃ d, Go (L.take m) 0 [[]] d) ∨ GoE (L.take m) 0 [[]] m
theorem sh2 (n : Nat) : SeqAt.shaped (.tuple [.str "refused", .int (n : Int)]) = true := by
  simp [SeqAt.shaped, PyData.canLay0, PyData.canLayAll0]
  refine ⟨by decide +kernel, ?_⟩
  show max 0 (max 0 0) + 1 ≤ 64
  decide
def spRight : Sp := fun vs H Q _ => ∃ t : Str, vs = [.str t] ∧ t.length ≤ 100000 ∧ Begin (tl t) ∧ ∀ H', Same H H' → Q (.bl true) H'
theorem tl_head (t : Str) (m : Nat) : tl (cutS t none (some (m : Int))) = (tl t).take m := by
  have e := tl_cut t 0 m
  rw [List.drop_zero] at e
  exact e
section
variable {P : Program} {w : World} {K : PySem.W.Frag} {mg : Str → Option Value} {base : Heap}
theorem ok_right {f fT fS : Addr} {fd fdT fdS : FuncData} (F : FnP K "_law_beginnings_right" sRight f fd) (FT : FnP K "_law_told" sTold fT fdT) (gT : mg "_law_told" = some (.ref fT)) (GT : FnOk P w K mg base CX0 7 fT fdT ["written"] spTold)
    (FS : FnP K "shown" sShown fS fdS) (gS : mg "shown" = some (.ref fS)) (GS : FnOk P w K mg base CX0 7 fS fdS ["value"] spShown) (mr : mg "range" = none) (ml : mg "len" = none) : FnOk P w K mg base CX0 8 f fd ["written"] spRight := by
  have bT : Binds K fdT ["written"] [] := FT.bindsN fun _ _ _ _ _ _ us hl => match us, hl with | [_], _ => rfl
  have bS : Binds K fdS ["value"] [] := FS.bindsN fun _ _ _ _ _ _ us hl => match us, hl with | [_], _ => rfl
  refine F.ok scRight (fun vs H Q E h => ?_) (fun cdv A outer s H vs Q E hr h => ?_)
  · obtain ⟨t, rfl, _⟩ := h
    rfl
  · obtain ⟨t, rfl, hz, hb, q⟩ := h
    have hs := szl
    have hl := len_tl t
    refine ⟨_, PSs.nox (pss_cons (ps_for PassesOwn.never rfl (pi_range1 (by rfl) mr (pa_cons (pe_op op_add (pe_callB call_len_str (by rfl) ml PySem.boot_len (pa_cons (pv 0) pa_nil)) (pe_int)) pa_nil)) (pg_name (i := 1) scRight.nd rfl (.inl rfl)) (pss_cons (ps_set (i := 2) scRight.nd rfl (.inl rfl) (pe_call GT hr (by rfl) gT FT.kp bT .nil pass0 (pa_cons (pe_slice sl_str (pv 0) po_none (po_some (pv 1))) pa_nil)))
      (pss_one (ps_if (PW.pt (pw_or (PW.pt (pw_and (pt_cmpR op_eq (pe_ix ix_tup (pv 2) pe_int (fun _ _ => rfl)) (pe_str) (nomark _)) (pw_and1 (pt_cmpR (op_neD hr.units) (pv 2) (pe_tup (pa_cons pe_str (pa_cons (pv 1) pa_nil))) (nomark _))))) (pw_or1 (PW.pt (pw_and (pt_cmpR op_eq (pe_ix ix_tup (pv 2) pe_int (fun _ _ => rfl)) (pe_str) (nomark _)) (pw_and1 (pt_cmpR op_ne (pe_call GS hr (by rfl) gS FS.kp bS .nil pass0 (pa_cons (pe_ix ix_tup (pv 2) pe_int (fun _ _ => rfl)) pa_nil)) (pe_slice sl_str (pv 0) po_none (po_some (pv 1))) (nomark _)))))))) (pss_one (ps_ret pe_bl)) pss_nil))))
      (pss_one (ps_ret pe_bl))), ?_⟩
    refine ⟨_, rfl, t, rfl, by omega, (t.length : Int), 1, rfl, rfl, (t.length : Int) + 1, rfl, by omega, by omega, ?_⟩
    refine for_range (lo := 0) (n := ((t.length : Int) + 1).toNat) (fun i σ H' => (∃ y1 y2 : Option V, σ = [some (.str t), y1, y2]) ∧ Same H H') ⟨⟨_, _, rfl⟩, fun _ _ e => e⟩ ?_ ?_
    · rintro i σ H' hi ⟨⟨y1, y2, rfl⟩, sm⟩
      have hi2 : i ≤ t.length := by omega
      have e0 : (0 : Int) + (i : Int) = (i : Int) := Int.zero_add _
      refine ⟨_, rfl, _, rfl, (i : Int), congrArg V.int e0, t, rfl, by omega, _, rfl, ?_, fun d g H1 p x s1 np hp vd => ?_, fun n g H1 p s1 np hp => ?_⟩
      · rw [len_tl, tl_head, List.length_take]
        omega
      · rw [tl_head] at g
        obtain ⟨ew, ok⟩ := go_is g
        have hwl : (wr d).length ≤ 100000 := by
          rw [← ew, List.length_take]
          omega
        have hsz := sz_of ok
        refine ⟨_, rfl, p, _, 0, .str "told", rfl, rfl, SqT.of hp, atI_nat (j := 0) rfl, rfl, _, rfl, ?_⟩
        rw [show decide (V.str (Str.ofString "told") = V.str (Str.ofString "refused")) = false by decide +kernel]
        refine iteF ?_
        refine iteF ⟨_, rfl, p, _, 0, .str "told", rfl, rfl, SqT.of hp, atI_nat (j := 0) rfl, rfl, _, rfl, ?_⟩
        rw [show decide (V.str (Str.ofString "told") = V.str (Str.ofString "told")) = true from decide_eq_true rfl]
        refine iteT ⟨_, rfl, p, _, 1, x, rfl, rfl, SqT.of hp, atI_nat (j := 1) rfl, x, d, rfl, vd, sm_of ok (by omega), by omega, by omega, fun H2 r s2 hr2 => ?_⟩
        have er : r = cutS t none (some ((0 : Int) + (i : Int))) := by
          refine str_ext ?_
          rw [hr2, ← ew, e0, tl_head]
        refine ⟨_, rfl, _, rfl, _, rfl, t, rfl, by omega, rfl, _, rfl, ?_⟩
        rw [er]
        have e9 : ∀ z : Str, (!decide (V.str z = V.str z)) = false := fun z => by simp
        rw [e9]
        exact iteF ⟨⟨_, _, rfl⟩, (sm.trans s1).trans s2⟩
      · rw [tl_head] at g
        have en : n = i := by
          rcases hb i (by omega) with ⟨d, g2⟩ | g2
          · exact absurd g (go_or g2)
          · exact goE_once g g2
        subst en
        refine ⟨_, rfl, p, _, 0, .str "refused", rfl, rfl, SqT.of hp, atI_nat (j := 0) rfl, rfl, _, rfl, ?_⟩
        rw [show decide (V.str (Str.ofString "refused") = V.str (Str.ofString "refused")) = true from decide_eq_true rfl]
        refine iteT ⟨_, rfl, _, rfl, by show 2 ≤ sizeLine; omega, fun p2 np2 => ?_⟩
        have s2 := same_upd (o := HO.tup [.str "refused", .int ((0 : Int) + (n : Int))]) np2
        refine ⟨.tuple [.str "refused", .int (n : Int)], .tuple [.str "refused", .int (n : Int)], .tup (SqT.of (s2 _ _ hp)) (.cons (.str _) (.cons (.int _) .nil)), ?_, sh2 n, sh2 n, ?_⟩
        · have z : Dp K (upd H1 p2 (.tup [.str "refused", .int ((0 : Int) + (n : Int))])) (.ref p2) (.tuple [.str "refused", .int ((0 : Int) + (n : Int))]) := .tup (SqT.of upd_same) (.cons (.str _) (.cons (.int _) .nil))
          rw [e0] at z
          rw [e0]
          exact z
        · have ee : PyData.eqv (.tuple [.str "refused", .int (n : Int)]) (.tuple [.str "refused", .int (n : Int)]) = true := by simp [PyData.eqv, PyData.eqvAll]
          rw [ee]
          refine ⟨_, rfl, iteF ?_⟩
          refine ⟨_, rfl, p, _, 0, .str "refused", rfl, rfl, SqT.of (s2 _ _ hp), atI_nat (j := 0) rfl, rfl, _, rfl, ?_⟩
          rw [show decide (V.str (Str.ofString "refused") = V.str (Str.ofString "told")) = false by decide +kernel]
          refine iteF ?_
          exact iteF ⟨⟨_, _, rfl⟩, (sm.trans s1).trans s2⟩
    · rintro σ H' ⟨⟨y1, y2, rfl⟩, sm⟩
      exact q _ sm
end
end Vl

set_option maxHeartbeats 2000000
namespace Ev
open PySem PySem.Spec PyProof.Rows L2
open Sem (wp)
section
variable {M : Model} {A : Around} {E : Value → Shared → Prop} {s : Shared} {env : Env}
theorem callWith_type_kwB {pos : Pos} {T : String} {first : List Value} {args : List (Bool × Sem Value)} {keywords : List (Option Str × Sem Value)} {Q : Value → Shared → Prop}
    (hplain : args.any (·.1) = false) (hkw : keywords.any (·.1.isNone) = false)
    (h : wpAny M A (evalArgs (.type T) true args keywords) (fun a s1 => wpAny M A (call (.type T) (first ++ a.pos) a.kw) Q E s1) E s) :
    wpAny M A (callWith pos (.type T) first args keywords) Q E s := by
  unfold callWith
  refine wpAny_bind (wpAny_holding (wpAny_mono h (fun a s1 h1 => wpAny_bind (wpAny_standAt ?_)) fun _ _ x => x))
  simp only [hplain, hkw, Bool.or_false]
  refine wpAny_bind (wpAny_pure ?_)
  exact wpAny_bind (wpAny_mono h1 (fun r s2 hr => wpAny_bind (wpAny_holding (wpAny_point (wpAny_pure hr)))) fun _ _ x => x)
theorem callWith_type_kw {pos : Pos} {T : String} {e : Expr} {rest : List Expr} {kws : List Keyword} {Q : Value → Shared → Prop}
    (h : wpAny M A (spliced (backTo pos (starEach (e :: rest) env))) (fun vs s1 => wpAny M A (evalAll ((backToKw pos (keywordEach kws env)).map (·.2)))
      (fun kvs s2 => wpAny M A (call (.type T) vs (((backToKw pos (keywordEach kws env)).filterMap (·.1)).zip kvs)) Q E s2) E s1) E s)
    (he : starEach (e :: rest) env = (false, eval e env) :: starEach rest env := by rfl)
    (hplain : (backTo pos (starEach (e :: rest) env)).any (·.1) = false := by rfl)
    (hall : (backToKw pos (keywordEach kws env)).all (·.1.isSome) = true := by rfl)
    (hkw : (backToKw pos (keywordEach kws env)).any (·.1.isNone) = false := by rfl) :
    wpAny M A (callWith pos (.type T) [] (backTo pos (starEach (e :: rest) env)) (backToKw pos (keywordEach kws env))) Q E s := by
  refine callWith_type_kwB hplain hkw ?_
  rw [he] at h ⊢
  exact PyProof.Rows.evalArgs_kwB hall h
end
/-- enumerate(text, start=k): each sign in a new pair -/
def ItEs (x : Str) (k : Int) : It := ⟨fun i _ => i < x.cps.size, fun i H v H' => ∃ T c, x.cps[i]? = some c ∧ v = .ref T ∧ H T = none ∧ H' = upd H T (.tup [.int (k + (i : Int)), .str ⟨#[c]⟩]), fun i _ => x.cps.size ≤ i⟩
abbrev SignP (x : Str) : Nat → Value → Prop := fun i v => ∃ c u, x.cps[i]? = some c ∧ v = .str ⟨#[c]⟩ u
theorem drawsOf {prog : Program} {w : World} {A : Around} (hh : A.handled = none) (it : Addr) (x : Str) (t : Tok) : ∃ n, Draws prog w A it [it] n (SignP x) (fun i h => h.IsStrIter it (strIterType x) x t i) ∧ n = x.cps.size := by
  refine ⟨_, ?_, rfl⟩
  unfold strIterType
  cases ha : x.cps.all (· < 128)
  · first | exact Draws.strWide hh it x t | (simp only [ha]; exact Draws.strWide hh it x t)
  · first | exact Draws.strAscii hh it x t | (simp only [ha]; exact Draws.strAscii hh it x t)
theorem turn_enumS {P : Program} {w : World} {K : PySem.W.Frag} {elts : List Expr} {kk : Nat} {tpos : Pos} (x : Str) (t : Tok) (k : Int) (e it : Addr) (hne : e ≠ it) :
    Turn P w K (.Tuple elts kk tpos) (ItEs x k) [e, it] e (fun i h => i ≤ x.cps.size ∧ (∃ old, IsEnum h e it (k + (i : Int)) old) ∧ h.IsStrIter it (strIterType x) x t i) where
  mem := by simp
  obj := fun i h st b hb => by
    obtain ⟨_, ⟨old, he⟩, ⟨o, ho, hc, hd⟩⟩ := st
    have e' : b = e ∨ b = it := by simpa using hb
    rcases e' with z | z
    · rw [z]; exact ⟨_, he, fun v q => nomatch q⟩
    · rw [z]; exact ⟨o, ho, fun v q => by rw [hd] at q; cases q⟩
  keep := fun i h h' st kk => by
    obtain ⟨hi, ⟨old, he⟩, ⟨o, ho, r⟩⟩ := st
    exact ⟨hi, ⟨old, kk e (by simp) _ he⟩, ⟨o, kk it (by simp) o ho, r⟩⟩
  item := by
    intro X hP hw hK hc i pins s σ H E I hf st hg
    subst hP hw hK
    obtain ⟨hi, st1, st2⟩ := st
    have hh : X.A.in1.handled = none := I.ok.hd hc
    obtain ⟨n, D, hn⟩ := drawsOf (prog := X.prog) (w := X.w) hh it x t
    have W := GoesN.enumFrom (elts := elts) (x1 := kk) (pos := tpos) k D e hne (by simpa using hne) (by simp)
    have hel : e < s.heap.objs.size := by obtain ⟨_, he⟩ := st1; exact Heap.lt_size he
    have hil : it < s.heap.objs.size := by obtain ⟨_, q, _⟩ := st2; exact Heap.lt_size q
    refine wpAny_mono (W.goes i s (fun v s2 => ∃ y H', Inv X pins σ H' s2 ∧ RelV y v ∧ (ItEs x k).yld i H y H' ∧ (i + 1 ≤ x.cps.size ∧ (∃ old, IsEnum s2.heap e it (k + ((i + 1 : Nat) : Int)) old) ∧ s2.heap.IsStrIter it (strIterType x) x t (i + 1)) ∧ ∀ b ∈ [e, it], H' b = none) E (by rw [hn]; exact hg) ⟨st1, st2⟩ ?_) (fun r s1 q => q) fun _ _ q => q
    rintro v h' tk ⟨T, t1, y, rfl, hT0, ⟨c, u, hcx, rfl⟩, hT⟩ ⟨he', hit'⟩ hk htk
    obtain ⟨oT, hoT, hcT, nT, hdT⟩ := hT
    have hsm : H T = none := I.hok.fresh hT0
    have new : ObjOk X.prog X.w (upd H T (.tup [.int (k + (i : Int)), .str ⟨#[c]⟩])) h' T (.tup [.int (k + (i : Int)), .str ⟨#[c]⟩]) :=
      ⟨by show 2 ≤ sizeLine; decide, [.int (k + (i : Int)) t1, .str ⟨#[c]⟩ u], .cons ⟨_, rfl⟩ (.cons ⟨_, rfl⟩ .nil), ⟨oT, hoT, hcT, nT, hdT⟩⟩
    have I1 : Inv X pins σ (upd H T (.tup [.int (k + (i : Int)), .str ⟨#[c]⟩])) { s with heap := h', toks := tk } :=
      I.turnedNew (ch := [e, it]) (fun b ob hb q => hk b ob hb q) hf hT0 new
    refine ⟨.ref T, _, I1, rfl, ⟨T, c, hcx, rfl, hsm, rfl⟩, ⟨hg, he', hit'⟩, fun b hb => ?_⟩
    have hb' : b < s.heap.objs.size := by
      have e' : b = e ∨ b = it := by simpa using hb
      rcases e' with z | z
      · rw [z]; exact hel
      · rw [z]; exact hil
    rw [upd_ne (Nat.ne_of_lt (Nat.lt_of_lt_of_le hb' hT0))]
    exact (hf b hb).1
  done := by
    intro X hP hw hK hc i pins s σ H E I hf st hg
    subst hP hw hK
    obtain ⟨hi, st1, st2⟩ := st
    have hh : X.A.in1.handled = none := I.ok.hd hc
    obtain ⟨n, D, hn⟩ := drawsOf (prog := X.prog) (w := X.w) hh it x t
    have W := GoesN.enumFrom (elts := elts) (x1 := kk) (pos := tpos) k D e hne (by simpa using hne) (by simp)
    have hin : i = n := by rw [hn]; exact Nat.le_antisymm hi hg
    subst hin
    obtain ⟨f0, f1, f2, f3, f4, f5⟩ := hf it (by simp)
    refine wpAny_mono (W.stops s (fun s1 => Inv X pins σ H s1) E ⟨st1, st2⟩ fun h' tk hk htk => ?_) (fun r s1 q => q) fun _ _ q => q
    exact I.turnedL (ch := [e, it]) hk hf
  self := fun A i s Q E st h => let ⟨_, ⟨_, he⟩, _⟩ := st; wpAny_pyIter_enum he h

def iEnumS (ta tk : TA) : TI := fun σ H R => ta σ H fun vs H1 => tk σ H1 fun zs H2 => ∃ x k, vs = [.str x] ∧ zs = [.int k] ∧ -(2 ^ 63) ≤ k ∧ k < 2 ^ 63 ∧ R (ItEs x k) H2
theorem pi_enumS {X : Cx} {e : Expr} {ta tk : TA} {p pos tpos : Pos} {elts : List Expr} {kk : Nat} {kws : List Keyword} (hg : Gl X "enumerate") (hm : X.mg "enumerate" = none) (ha : PA X [e] ta) (hk : PK X kws tk)
    (hs : starEach [e] X.env = (false, eval e X.env) :: starEach [] X.env := by rfl) (hpl : (backTo pos (starEach [e] X.env)).any (·.1) = false := by rfl)
    (hall : (backToKw pos (keywordEach kws X.env)).all (·.1.isSome) = true := by rfl) (hnone : (backToKw pos (keywordEach kws X.env)).any (·.1.isNone) = false := by rfl)
    (hks : (backToKw pos (keywordEach kws X.env)).filterMap (·.1) = [Str.ofString "start"] := by rfl) :
    PI X (.Tuple elts kk tpos) (.Call (.Name "enumerate" p) [e] kws pos) (iEnumS ta tk) := by
  refine ⟨fun pins s σ H R I h => ?_⟩
  refine wpAny_Call_Name_kw (ld_blt I hg hm boot_enumerate ?_)
  refine callWith_type_kw (thn (ha.run pos pins s σ H _ I h) fun us s1 ⟨vs, H1, I1, r1, q1⟩ => thn (hk.run pos pins s1 σ H1 _ I1 q1) fun ws s2 ⟨zs, H2, I2, r2, q2⟩ => ?_) hs hpl hall hnone
  rw [hks]
  obtain ⟨x, k, rfl, rfl, k0, k1, q⟩ := q2
  cases r1 with
  | cons ra rr =>
  cases rr
  cases r2 with
  | cons rb rr =>
  cases rr
  obtain ⟨t, rfl⟩ := ra
  obtain ⟨t2, rfl⟩ := rb
  show wpAny _ _ (call (.type "enumerate") [.str x t] [(Str.ofString "start", .int k t2)]) _ _ _
  refine enum_begins_start (begins_text x t) trivial k0 k1 fun h' he hit hsz hkeep => wpAny_pyIter_enum he ?_
  have I3 : Inv X pins σ H2 { s2 with heap := h' } := I2.kept (t' := s2.toks) hkeep
  refine ⟨s2.heap.objs.size + 1, [s2.heap.objs.size + 1, s2.heap.objs.size], _, _, H2, rfl, I3, turn_enumS x t k (s2.heap.objs.size + 1) s2.heap.objs.size (Nat.succ_ne_self _), ⟨Nat.zero_le _, ⟨.none, ?_⟩, ⟨_, hit, rfl, ?_⟩⟩, fun b hb => ?_, q⟩
  · simpa using he
  · rfl
  · have e' : b = s2.heap.objs.size + 1 ∨ b = s2.heap.objs.size := by simpa using hb
    have hle : s2.heap.objs.size ≤ b := by
      rcases e' with z | z
      · rw [z]; exact Nat.le_add_right _ _
      · rw [z]; exact Nat.le_refl _
    exact I2.fpOk hle (I2.hok.fresh hle)
/-! ### text * int -/
theorem mul_len {x : Str} {n : Int} (h0 : 0 ≤ n) : (Txt.mul x n).length ≤ x.length * n.toNat := by
  unfold Txt.mul
  by_cases h1 : n < 1
  · rw [if_pos h1]; exact Nat.zero_le _
  · rw [if_neg h1]
    by_cases h2 : (n == 1 || x.length == 0) = true
    · rw [if_pos h2]
      have : 1 ≤ n.toNat := by omega
      exact Nat.le_mul_of_pos_right _ this
    · rw [if_neg h2]
      show ((List.replicate n.toNat x.cps).foldl (· ++ ·) #[]).size ≤ x.length * n.toNat
      rw [size_reps]
      show 0 + n.toNat * x.cps.size ≤ x.cps.size * n.toNat
      rw [Nat.mul_comm]
      omega
theorem op_mulS {X : Cx} : OpR X (binaryOp .Mult) (fun x y H Q => ∃ z k, x = .str z ∧ y = .int k ∧ 0 ≤ k ∧ k ≤ 16777216 ∧ z.length * k.toNat ≤ sizeLine ∧ Q (.str (Txt.mul z k)) H) := by
  intro pins s σ H x y v u Q I rx ry h
  obtain ⟨z, k, rfl, rfl, k0, k1, hz, q⟩ := h
  obtain ⟨t, rfl⟩ := rx
  obtain ⟨t', rfl⟩ := ry
  refine SB.mul ⟨?_, fun h1 h2 h3 => ?_, fun _ _ => ?_⟩ fun t2 tk => ⟨.str (Txt.mul z k), H, I.tok _, ⟨_, rfl⟩, q⟩
  · rw [decide_eq_false (by omega), decide_eq_false (by omega)]; rfl
  · have hk1 : 1 ≤ k.toNat := by omega
    have h4 : z.length ≤ z.length * k.toNat := Nat.le_mul_of_pos_right _ hk1
    have h5 : sizeLine = 16777216 := by decide
    have e : ((z.length * k.toNat : Nat) : Int) = (z.length : Int) * k := by rw [Int.natCast_mul, Int.toNat_of_nonneg k0]
    have h6 : (z.length : Int) ≤ (2 ^ 63 - 1) / k := Int.le_ediv_of_mul_le (by omega) (by omega)
    omega
  · unfold Builtin.Str.tooLong
    exact decide_eq_false (by omega)
/-! ### text[::-1] -/
def revS (x : Str) : Str := ⟨x.cps.toList.reverse.toArray⟩
theorem revS_len (x : Str) : (revS x).length = x.length := by
  show x.cps.toList.reverse.toArray.size = x.cps.size
  simp
theorem sliceBy_rev (x : Str) (u : Tok) : Txt.sliceBy x none none (-1, u) = revS x := by
  refine TL.ext_tl ?_
  show (Txt.sliceBy x none none (-1, u)).cps.toList = x.cps.toList.reverse
  rw [step_rev_list]
  refine List.ext_getElem (by simp [Str.length]) fun i h1 h2 => ?_
  have hi : i < x.cps.size := by simpa [Str.length] using h1
  have hj : x.length - 1 - i < x.cps.size := by
    show x.cps.size - 1 - i < x.cps.size
    omega
  simp only [List.getElem_map, List.getElem_range, List.getElem_reverse, Array.getElem_toList]
  show x.cps.getD (x.length - 1 - i) 0 = _
  unfold Array.getD
  rw [dif_pos hj]
  rfl
def tRevS (te : TE) : TE := fun σ H Q => te σ H fun x H1 => ∃ z, x = .str z ∧ z.length ≤ sizeLine ∧ Q (.str (revS z)) H1
theorem pe_revS {X : Cx} {e : Expr} {te : TE} {k : Nat} {p1 p2 p3 pos : Pos} (he : PE X e te) : PE X (.Subscript e (.Slice none none (some (.UnaryOp .USub (.Constant (.int 1) k p1) p2)) p3) pos) (tRevS te) := by
  refine ⟨fun pins s σ H Q I h => ?_⟩
  refine Subscript_ (thn (he.run pins s σ H _ I h) fun v s1 ⟨x, H1, I1, r1, q1⟩ => ?_)
  obtain ⟨z, rfl, hz, q⟩ := q1
  obtain ⟨t, rfl⟩ := r1
  have hst : PO X (some (.UnaryOp .USub (.Constant (.int 1) k p1) p2)) (tPart (tUn (rU fun i => .int (-i)) (tC (.int 1)))) := po_some (pe_un un_neg pe_int)
  refine wpAny_Slice (thn (po_none.run pins s1 σ H1 (fun o H2 => o = none ∧ H2 = H1) I1 ⟨rfl, rfl⟩) fun vl s2 ⟨l, H2, I2, pl, el, e2⟩ => ?_)
  subst el e2
  refine thn (po_none.run pins s2 σ H2 (fun o H3 => o = none ∧ H3 = H2) I2 ⟨rfl, rfl⟩) fun vu s3 ⟨u, H3, I3, pu, eu, e3⟩ => ?_
  subst eu e3
  refine thn (hst.run pins s3 σ H3 (fun o H4 => o = some (-1) ∧ H4 = H3) I3 ⟨1, rfl, -1, rfl, rfl, rfl⟩) fun vs s4 ⟨o, H4, I4, ps, eo, e4⟩ => ?_
  subst eo e4
  have I5 : Inv X pins σ H4 { s4 with heap := s4.heap.push { cls := .type "slice", data := .fields #[vl, vu, vs] } } := I4.kept (t' := s4.toks) fun b ob q => Heap.get?_push_of_some _ q
  obtain ⟨l, rfl, hl⟩ := IsPart.raw pl
  obtain ⟨w, rfl, hw⟩ := IsPart.raw pu
  obtain ⟨st, rfl, hst2⟩ := IsPart.raw ps
  have el : l = none := by cases l with | none => rfl | some _ => cases hl
  have ew : w = none := by cases w with | none => rfl | some _ => cases hw
  obtain ⟨tk, est⟩ : ∃ tk, st = some (-1, tk) := by
    cases st with
    | none => cases hst2
    | some p =>
      obtain ⟨a, b⟩ := p
      have : a = -1 := Option.some.inj hst2
      exact ⟨b, by rw [this]⟩
  subst el ew est
  show wpAny (model X.prog X.w) X.A (subscriptTail e (.Slice none none (some (.UnaryOp .USub (.Constant (.int 1) k p1) p2)) p3) (.str z t) (.ref s4.heap.objs.size)) (EP X pins σ Q) X.xe { s4 with heap := s4.heap.push { cls := .type "slice", data := .fields #[partValue none, partValue none, partValue (some (-1, tk))] } }
  refine tail_any (ops := [.ref s4.heap.objs.size, .str z t]) (typeIs_str _ _ _) F.slot_str_getitem.lookup ?_ (by with_unfolding_all rfl)
  refine wpAny_getItem_str_slice (l := none) (u := none) (st := some (-1, tk)) ⟨_, Heap.get?_push_size _ rfl, rfl, rfl⟩ rfl ?_
  have hlen : (Txt.sliceBy z none none (-1, tk)).length ≤ sizeLine := by rw [sliceBy_rev, revS_len]; exact hz
  have hr := sliceBy_rev z tk
  unfold Txt.sliceBy at hr hlen
  unfold sliceMade
  have hc : ¬ ((((some ((-1 : Int), tk)).map (·.1)).getD 1 == 1 && (slicePicked z none none (some (-1, tk))).length == z.length) = true) := by
    have : ((((some ((-1 : Int), tk)).map (·.1)).getD 1 == 1)) = false := rfl
    rw [this]; simp
  rw [if_neg hc] at hr hlen ⊢
  exact ⟨hlen, .str _, H4, I5.tok _, ⟨_, rfl⟩, by rw [hr]; exact q⟩
/-! ### great powers -/
def CPowB (i j : Int) : Prop := 0 ≤ j ∧ (Builtin.Int.intBits i : Int) * j ≤ 2 ^ 27
theorem op_powB {X : Cx} : OpR X (binaryOp .Pow) (rI CPowB fun i j => .int (i ^ j.toNat)) := opI fun _ _ _ _ _ _ _ hc q => pow_int hc.1 hc.2 q
/-! ### a list's items behind a written text's sum: a token is out -/
theorem pa_litAdd {X : Cx} {b : Expr} {es : List Expr} {tb : TE} {ta : TA} {x : Str} {j : Nat} {cp bp : Pos} (hb : PE X b tb) (hr : PAT X es ta)
    (hs : starEach (.BinOp (.Constant (.str x) j cp) .Add b bp :: es) X.env = (false, eval (.BinOp (.Constant (.str x) j cp) .Add b bp) X.env) :: starEach es X.env := by rfl) :
    PA X (.BinOp (.Constant (.str x) j cp) .Add b bp :: es) (tCons (tOp (fun u v H Q => ∃ i k, u = .str i ∧ v = .str k ∧ i.length + k.length ≤ sizeLine ∧ Q (.str (i ++ k)) H) (tC (.str x)) tb) ta) := by
  refine ⟨fun pos pins s σ H Q I h => ?_⟩
  rw [hs]
  show wpAny _ _ (spliced ((false, eval (.BinOp (.Constant (.str x) j cp) .Add b bp) X.env) :: backTo pos (starEach es X.env))) _ _ s
  refine Calls.spliced_cons (wpAny_BinOp (Calls.Constant_str ?_))
  have I1 : Inv X pins σ H { s with toks := s.toks + 1 } := I.tok _
  refine wpAny_mono (PySem.wpAny_toks (hb.run pins { s with toks := s.toks + 1 } σ H _ I1 h)) (fun u s2 q => ?_) fun _ _ z => z.2
  obtain ⟨hk, y, H2, I2, r2, q2⟩ := q
  refine wpAny_mono (PySem.wpAny_toks (op_add_str pins s2 σ H2 (.str x) y (.str x s.toks) u (fun w H3 => ta σ H3 fun xs H4 => Q (w :: xs) H4) I2 ⟨_, rfl⟩ r2 q2)) (fun v s3 q => ?_) fun _ _ z => z.2
  obtain ⟨hk3, w, H3, I3, r3, q3⟩ := q
  have h1 : 1 ≤ s3.toks := by
    have : s.toks + 1 ≤ s2.toks := hk
    omega
  exact thn (hr pos pins s3 σ H3 _ h1 I3 q3) fun us s4 ⟨xs, H4, I4, r4, q4⟩ => ⟨w :: xs, H4, I4, .cons r3 r4, q4⟩
end Ev

set_option maxHeartbeats 2000000
namespace Vl
open PySem PySem.Spec PyProof.Rows L2 TL
open Ev (pe_revS revS revS_len)
abbrev sSpoilt : Stmt := top 23
theorem scSpoilt : FnScope ["hand", "written", "signs", "at", "way", "sign"] ["hand", "written"] (defScope sSpoilt) := ⟨rfl, rfl, rfl, by decide +kernel, rfl, by decide +kernel, by decide +kernel⟩
def spSpoilt : Sp := fun vs H Q _ => ∃ (h : Addr) (t : Str) (n : Nat), vs = [.ref h, .str t] ∧ HandAt H h n ∧ t.length ≤ 1000000 ∧ n + 3 ≤ 900000 ∧ ∀ H' z, But h H H' → HandAt H' h (n + 3) → z.length ≤ 3 * t.length + 2 → Q (.str z) H'
section
variable {P : Program} {w : World} {K : PySem.W.Frag} {mg : Str → Option Value} {base : Heap}
theorem ok_spoilt {f fA fP : Addr} {fd fdA fdP : FuncData} {k : Nat} (F : FnP K "_law_spoilt" sSpoilt f fd) (FA : FnP K "_law_alphabet" sAlpha fA fdA) (gA : mg "_law_alphabet" = some (.ref fA)) (GA : FnOk P w K mg base CX0 k fA fdA [] spAlpha)
    (FP : FnP K "_law_pick" sPick fP fdP) (gP : mg "_law_pick" = some (.ref fP)) (GP : FnOk P w K mg base CX0 k fP fdP ["hand", "many"] spPick) (ml : mg "len" = none) :
    FnOk P w K mg base CX0 (k + 1) f fd ["hand", "written"] spSpoilt := by
  have bA : Binds K fdA [] [] := FA.bindsN fun _ _ _ _ _ _ us hl => match us, hl with | [], _ => rfl
  have bP : Binds K fdP ["hand", "many"] [] := FP.bindsN fun _ _ _ _ _ _ us hl => match us, hl with | [_, _], _ => rfl
  refine F.ok scSpoilt (fun vs H Q E h => ?_) (fun cdv A outer s H vs Q E hr h => ?_)
  · obtain ⟨h, t, n, rfl, _⟩ := h
    rfl
  · obtain ⟨h, t, n, rfl, hA, ht, hn, q⟩ := h
    have hs := szl
    refine ⟨_, PSs.nox (pss_cons (ps_set (i := 2) scSpoilt.nd rfl (.inl rfl) (pe_op op_add_str (pe_call0 GA hr (by rfl) gA FA.kp bA .nil pass0) pe_str))
      (pss_cons (ps_par (i := 3) (j := 4) rfl scSpoilt.nd rfl rfl (by decide) rfl rfl (pa_cons (pe_call GP hr (by rfl) gP FP.kp bP .nil pass0 (pa_cons (pv 0) (pa_cons (pe_op op_add (pe_callB call_len_str (by rfl) ml PySem.boot_len (pa_cons (pv 1) pa_nil)) pe_int) pa_nil)))
          (pa_cons (pe_call GP hr (by rfl) gP FP.kp bP .nil pass0 (pa_cons (pv 0) (pa_cons pe_int pa_nil))) pa_nil)) (by rfl))
      (pss_cons (ps_set (i := 5) scSpoilt.nd rfl (.inl rfl) (pe_ix ix_str (pv 2) (pe_call GP hr (by rfl) gP FP.kp bP .nil pass0 (pa_cons (pv 0) (pa_cons (pe_callB call_len_str (by rfl) ml PySem.boot_len (pa_cons (pv 2) pa_nil)) pa_nil))) (fun _ _ => rfl)))
      (pss_cons (ps_if (pt_cmpR op_eq (pv 4) pe_int (nomark _)) (pss_one (ps_ret (pe_op op_add_str (pe_op op_add_str (pe_slice sl_str (pv 1) po_none (po_some (pv 3))) (pv 5)) (pe_slice sl_str (pv 1) (po_some (pv 3)) po_none)))) pss_nil)
      (pss_cons (ps_if (pt_cmpR op_eq (pv 4) pe_int (nomark _)) (pss_one (ps_ret (pe_op op_add_str (pe_slice sl_str (pv 1) po_none (po_some (pv 3))) (pe_slice sl_str (pv 1) (po_some (pe_op op_add (pv 3) pe_int)) po_none)))) pss_nil)
      (pss_cons (ps_if (pt_cmpR op_eq (pv 4) pe_int (nomark _)) (pss_one (ps_ret (pe_op op_add_str (pe_op op_add_str (pe_slice sl_str (pv 1) po_none (po_some (pv 3))) (pv 5)) (pe_slice sl_str (pv 1) (po_some (pe_op op_add (pv 3) pe_int)) po_none)))) pss_nil)
      (pss_cons (ps_if (pt_cmpR op_eq (pv 4) pe_int (nomark _)) (pss_one (ps_ret (pe_op op_add_str (pe_op op_add_str (pe_slice sl_str (pv 1) po_none (po_some (pv 3))) (pe_slice sl_str (pv 1) (po_some (pv 3)) (po_some (pe_op op_add (pv 3) pe_int)))) (pe_slice sl_str (pv 1) (po_some (pv 3)) po_none)))) pss_nil)
      (pss_cons (ps_if (pt_cmpR op_eq (pv 4) pe_int (nomark _)) (pss_one (ps_ret (pe_op op_add_str (pe_op op_add_str (pe_slice sl_str (pv 1) po_none (po_some (pv 3))) (pe_revS (pe_slice sl_str (pv 1) (po_some (pv 3)) (po_some (pe_op op_add (pv 3) pe_int))))) (pe_slice sl_str (pv 1) (po_some (pe_op op_add (pv 3) pe_int)) po_none)))) pss_nil)
      (pss_one (ps_ret (pe_slice sl_str (pv 1) po_none (po_some (pv 3))))))))))))), ?_⟩
    refine ⟨rfl, fun al hal _ => ⟨al, _, rfl, rfl, by rw [hal]; decide +kernel, ?_⟩⟩
    have cl : ∀ lo hi, (cutS t lo hi).length ≤ t.length := cutS_length t
    refine ⟨_, rfl, _, rfl, t, rfl, by omega, (t.length : Int), 1, rfl, rfl, h, (t.length : Int) + 1, n, rfl, hA, by omega, by omega, by omega, fun H1 d1 b1 A1 d10 d11 => ?_⟩
    refine ⟨_, rfl, h, 6, n + 1, rfl, A1, by omega, by omega, by omega, fun H2 d2 b2 A2 d20 d21 => ⟨_, _, rfl, ?_⟩⟩
    refine ⟨_, rfl, _, rfl, _, rfl, _, rfl, by rw [app_len, hal]; decide +kernel, h, _, n + 1 + 1, rfl, A2, by omega, by rw [app_len, hal]; decide +kernel, by rw [app_len, hal]; decide +kernel, fun H3 d3 b3 A3 d30 d31 => ?_⟩
    obtain ⟨c, xc, _⟩ := atI_in d30 (show d3 < (((al ++ _ : Str).cps.toList).length : Int) by rw [Array.length_toList]; exact d31)
    have bb : But h H H3 := (b1.trans b2).trans b3
    have fin : ∀ z : Str, z.length ≤ 3 * t.length + 2 → Q (.str z) H3 := fun z hz => q H3 z bb A3 hz
    have l1 : (⟨#[c]⟩ : Str).length = 1 := rfl
    refine ⟨_, d3, c, rfl, rfl, by rw [app_len, hal]; decide +kernel, xc, ?_⟩
    have tz : t.length ≤ sizeLine := by omega
    have z1 : ∀ {x y : Str} {a b : Nat}, x.length ≤ a → y.length ≤ b → a + b ≤ 16777216 → x.length + y.length ≤ sizeLine := fun h1 h2 h3 => by omega
    have c1 : (⟨#[c]⟩ : Str).length ≤ 1 := by omega
    have a1 : ∀ {x y : Str} {a b : Nat}, x.length ≤ a → y.length ≤ b → (x ++ y).length ≤ a + b := fun {x y a b} h1 h2 => by
      rw [app_len]
      omega
    -- a sign put in
    refine ⟨_, rfl, rfl, _, rfl, ite2 (fun _ => ?_) (fun _ => ?_)⟩
    · exact ⟨_, rfl, _, rfl, d1, rfl, t, rfl, tz, _, rfl, _, _, rfl, rfl, z1 (cl _ _) c1 (by omega), _, rfl, _, rfl, d1, rfl, t, rfl, tz, _, _, rfl, rfl, z1 (a1 (cl _ _) c1) (cl _ _) (by omega), fin _ (Nat.le_trans (a1 (a1 (cl _ _) c1) (cl _ _)) (by omega))⟩
    -- left out
    refine ⟨_, rfl, rfl, _, rfl, ite2 (fun _ => ?_) (fun _ => ?_)⟩
    · exact ⟨_, rfl, _, rfl, d1, rfl, t, rfl, tz, _, rfl, _, rfl, d1, 1, rfl, rfl, d1 + 1, rfl, t, rfl, tz, _, _, rfl, rfl, z1 (cl _ _) (cl _ _) (by omega), fin _ (Nat.le_trans (a1 (cl _ _) (cl _ _)) (by omega))⟩
    -- over
    refine ⟨_, rfl, rfl, _, rfl, ite2 (fun _ => ?_) (fun _ => ?_)⟩
    · exact ⟨_, rfl, _, rfl, d1, rfl, t, rfl, tz, _, rfl, _, _, rfl, rfl, z1 (cl _ _) c1 (by omega), _, rfl, _, rfl, d1, 1, rfl, rfl, d1 + 1, rfl, t, rfl, tz, _, _, rfl, rfl, z1 (a1 (cl _ _) c1) (cl _ _) (by omega), fin _ (Nat.le_trans (a1 (a1 (cl _ _) c1) (cl _ _)) (by omega))⟩
    -- twice
    refine ⟨_, rfl, rfl, _, rfl, ite2 (fun _ => ?_) (fun _ => ?_)⟩
    · exact ⟨_, rfl, _, rfl, d1, rfl, t, rfl, tz, _, rfl, _, rfl, d1, rfl, _, rfl, d1, 1, rfl, rfl, d1 + 1, rfl, t, rfl, tz, _, _, rfl, rfl, z1 (cl _ _) (cl _ _) (by omega), _, rfl, _, rfl, d1, rfl, t, rfl, tz, _, _, rfl, rfl, z1 (a1 (cl _ _) (cl _ _)) (cl _ _) (by omega), fin _ (Nat.le_trans (a1 (a1 (cl _ _) (cl _ _)) (cl _ _)) (by omega))⟩
    -- exchanged
    refine ⟨_, rfl, rfl, _, rfl, ite2 (fun _ => ?_) (fun _ => ?_)⟩
    · have rl : ∀ lo hi, (revS (cutS t lo hi)).length ≤ t.length := fun lo hi => by
        rw [revS_len]
        exact cl lo hi
      exact ⟨_, rfl, _, rfl, d1, rfl, t, rfl, tz, _, rfl, _, rfl, d1, rfl, _, rfl, d1, 2, rfl, rfl, d1 + 2, rfl, t, rfl, tz, _, rfl, Nat.le_trans (cl _ _) tz, _, _, rfl, rfl, z1 (cl _ _) (rl _ _) (by omega), _, rfl, _, rfl, d1, 2, rfl, rfl, d1 + 2, rfl, t, rfl, tz, _, _, rfl, rfl, z1 (a1 (cl _ _) (rl _ _)) (cl _ _) (by omega), fin _ (Nat.le_trans (a1 (a1 (cl _ _) (rl _ _)) (cl _ _)) (by omega))⟩
    -- the rest cut off
    · exact ⟨_, rfl, _, rfl, d1, rfl, t, rfl, tz, fin _ (Nat.le_trans (cl _ _) (by omega))⟩
end
end Vl

set_option autoImplicit false
set_option maxHeartbeats 2000000
/-! t[::-1] of a tuple -/
namespace Rv
open PySem PySem.Spec PyProof.Rows L2
theorem back_places (n : Nat) : Builtin.Slice.slicePlaces ((n : Int) - 1) (-1) (-1) = n := by
  unfold Builtin.Slice.slicePlaces
  rw [if_neg (by decide)]
  by_cases h : (n : Int) - 1 > -1
  · rw [if_pos h, show (-(-1 : Int)) = 1 by decide, Int.ediv_one]
    omega
  · rw [if_neg h]
    omega
theorem back_pick (xs : Array Value) : ∀ m, m ≤ xs.size → (List.range m).filterMap (fun (k : Nat) => xs[(((xs.size : Nat) : Int) - 1 + (k : Int) * (-1)).toNat]?) = xs.toList.reverse.take m
  | 0, _ => by simp
  | m + 1, h => by
    have hm : m < xs.toList.reverse.length := by rw [List.length_reverse, Array.length_toList]; omega
    have e : (((xs.size : Nat) : Int) - 1 + (m : Int) * (-1)).toNat = xs.size - 1 - m := by omega
    have hk : xs.size - 1 - m < xs.size := by omega
    rw [List.range_succ, List.filterMap_append, back_pick xs m (by omega), List.take_succ_eq_append_getElem hm]
    congr 1
    simp only [List.filterMap_cons, List.filterMap_nil, e, Array.getElem?_eq_getElem hk]
    rw [List.getElem_reverse]
    simp
section
variable {pr : Program} {wo : World} {Ar : Around} {Ex : Value → Shared → Prop} {sh : Shared}
theorem tuple_back {t sl : Addr} {items : Array Value} {v1 v2 v3 : Value} {Q : Value → Shared → Prop} (ht : IsTup sh.heap t items) (hsl : sh.heap.IsSliceOf sl v1 v2 v3) (p1 : IsPart v1 none) (p2 : IsPart v2 none) (p3 : IsPart v3 (some (-1)))
    (hz : items.size ≤ sizeLine) (h : Q (.ref sh.heap.objs.size) { sh with heap := sh.heap.push { cls := .type "tuple", data := .seq items.toList.reverse.toArray } }) :
    wpAny (model pr wo) Ar (getItem (.ref t) (.ref sl)) Q Ex sh := by
  obtain ⟨ob, hob, hcl, hdt⟩ := id hsl
  have tyS : sh.TypeIs (.ref sl) "slice" := ⟨ob, hob, hcl⟩
  have part : ∀ {v : Value} {o : Option Int} {G : Option Int → Shared → Prop}, IsPart v o → G o sh → wpAny (model pr wo) Ar.in1 (Builtin.Slice.slicePartIndex v) G Ex sh := fun p g => HT.slicePart_ p g
  have big : sizeOk (.seq items.toList.reverse.toArray) := by
    show items.toList.reverse.toArray.size ≤ sizeLine
    rw [List.size_toArray, List.length_reverse, Array.length_toList]
    exact hz
  unfold getItem
  refine wpAny_holding (wpAny_bind (wpAny_sequenceKey ht.typeIs (by decide) (wpAny_bind (wpAny_callSpecial?_slot (name := Str.ofString "__getitem__") ht.typeIs PyProof.Rows.slot_tuple_getitem
    (wpAny_call_entry PyProof.Rows.slot_tuple_getitem ht.typeIs entry_tuple_getitem ?_ (args_tuple_getitem _ _))))))
  show wpAny _ _ (Builtin.Tuple.tupleItemsOf (.ref t) >>= _) _ _ sh
  refine wpAny_bind (tupleItemsOf_ ht (wpAny_bind (wpAny_typeOf tyS ?_)))
  rw [if_pos (show (Value.type "slice" == Value.type "slice") = true by decide)]
  refine wpAny_bind ?_
  unfold Builtin.Slice.sliceApplied Builtin.Slice.sliceFields
  refine wpAny_bind (wpAny_bind (wpAny_field hob hdt (x := v1) rfl (wpAny_bind (wpAny_field hob hdt (x := v2) rfl (wpAny_bind (wpAny_field hob hdt (x := v3) rfl (wpAny_pure (wpAny_bind (part p3 ?_)))))))))
  show wpAny _ _ (if ((-1 : Int) == 0) = true then _ else _) _ _ sh
  rw [if_neg (show ¬ (((-1 : Int) == 0) = true) by decide)]
  refine wpAny_bind (part p1 (wpAny_bind (part p2 (wpAny_bind (wpAny_pure ?_)))))
  show wpAny _ _ (pure (((items.size : Nat) : Int) - 1, (-1 : Int), Builtin.Slice.slicePlaces (((items.size : Nat) : Int) - 1) (-1) (-1))) _ _ sh
  rw [back_places]
  refine wpAny_pure ?_
  show wpAny _ _ (if ((((items.size : Nat) : Int) - 1 == 0 && (-1 : Int) == 1) && items.size == items.size) = true then _ else _) _ _ sh
  rw [if_neg (show ¬ (((((items.size : Nat) : Int) - 1 == 0 && (-1 : Int) == 1) && items.size == items.size) = true) by rw [show ((-1 : Int) == 1) = false by decide, Bool.and_false, Bool.false_and]; exact Bool.false_ne_true), back_pick items items.size (Nat.le_refl _),
    List.take_of_length_le (by rw [List.length_reverse, Array.length_toList]; exact Nat.le_refl _)]
  first
    | exact wpAny_bind (m := Builtin.Tuple.tupleExact _) (wpAny_newObj_type (wpAny_pure ⟨_, rfl, wpAny_pure h⟩) big)
    | exact wpAny_bind (wpAny_bind (m := Builtin.Tuple.tupleExact _) (wpAny_newObj_type (wpAny_pure (wpAny_pure ⟨_, rfl, wpAny_pure h⟩)) big))
    | exact wpAny_bind (wpAny_bind (m := Builtin.Tuple.tupleExact _) (wpAny_newObj_type (wpAny_pure ⟨_, rfl, wpAny_pure h⟩) big))
    | exact wpAny_bind (m := Builtin.Tuple.tupleExact _) (wpAny_newObj_type (wpAny_bind (wpAny_pure (wpAny_pure ⟨_, rfl, wpAny_pure h⟩))) big)
end
section
variable {X : Cx}
def tRevT (K : PySem.W.Frag) (te : TE) : TE := fun σ H Q => te σ H fun x H1 => ∃ a xs, x = .ref a ∧ SqT K H1 a xs ∧ ∀ p, H1 p = none → Q (.ref p) (upd H1 p (.tup xs.reverse))
theorem pe_revT {e : Expr} {te : TE} {k : Nat} {p1 p2 p3 pos : Pos} (he : PE X e te) : PE X (.Subscript e (.Slice none none (some (.UnaryOp .USub (.Constant (.int 1) k p1) p2)) p3) pos) (tRevT X.K te) := by
  have back : PO X (some (.UnaryOp .USub (.Constant (.int 1) k p1) p2)) (tPart (tUn (rU fun i => .int (-i)) (tC (.int 1)))) := po_some (pe_un un_neg pe_int)
  refine ⟨fun pins sh σ H Q I h => Subscript_ (thn (he.run pins sh σ H _ I h) fun v t1 ⟨x, G1, J1, r1, a, xs, ex, hx, q⟩ => ?_)⟩
  cases ex
  cases r1
  refine wpAny_Slice (thn (po_none.run pins t1 σ G1 (fun o G => o = none ∧ G = G1) J1 ⟨rfl, rfl⟩) fun w1 t2 ⟨o1, G2, J2, y1, z1⟩ => thn (po_none.run pins t2 σ G2 (fun o G => o = none ∧ G = G2) J2 ⟨rfl, rfl⟩) fun w2 t3 ⟨o2, G3, J3, y2, z2⟩ =>
    thn (back.run pins t3 σ G3 (fun o G => o = some (-1) ∧ G = G3) J3 ⟨1, rfl, -1, rfl, rfl, rfl⟩) fun w3 t4 ⟨o3, G4, J4, y3, z3⟩ => ?_)
  obtain ⟨rfl, rfl⟩ := z1
  obtain ⟨rfl, rfl⟩ := z2
  obtain ⟨rfl, rfl⟩ := z3
  have J5 : Inv X pins σ G4 { t4 with heap := t4.heap.push { cls := .type "slice", data := .fields #[w1, w2, w3] } } := J4.kept (t' := t4.toks) fun b ob e => Heap.get?_push_of_some _ e
  obtain ⟨its, r, ht, hz⟩ := J5.tuple hx
  have hlen := r.length
  show wpAny (model X.prog X.w) X.A (subscriptTail e (.Slice none none (some (.UnaryOp .USub (.Constant (.int 1) k p1) p2)) p3) (.ref a) (.ref t4.heap.objs.size)) (EP X pins σ Q) X.xe { t4 with heap := t4.heap.push { cls := .type "slice", data := .fields #[w1, w2, w3] } }
  refine tail_any (ops := [.ref a, .ref t4.heap.objs.size]) ht.typeIs PyProof.Rows.slot_tuple_getitem.lookup ?_ (by with_unfolding_all rfl)
  refine tuple_back ht (Heap.IsSliceOf.new _ w1 w2 w3) y1 y2 y3 (by rw [List.size_toArray]; omega) ?_
  refine ⟨.ref _, _, J5.laid (t' := t4.toks) (o := .tup xs.reverse) (fun b ob e => Heap.get?_push_of_some _ e) (Nat.le_refl _) ?_, rfl, q _ (J5.hok.fresh (Nat.le_refl _))⟩
  exact ⟨by rw [List.length_reverse]; exact hz, _, r.reverse, IsTup.new _ _⟩
end
end Rv

set_option maxHeartbeats 2000000
namespace Vl
open PySem PySem.Spec PyProof.Rows L2 TL
open Ev (pe_revS revS revS_len)
/-! ### the mathematics of a value nearby -/
theorem dbl_count : ∀ l : List Nat, (dbl l).length = l.length + l.count 34
  | [] => rfl
  | c :: r => by
    have ih := dbl_count r
    show (if c = 34 then 34 :: 34 :: dbl r else c :: dbl r).length = (r.length + 1) + (c :: r).count 34
    by_cases h : c = 34
    · rw [if_pos h, h, List.count_cons_self, List.length_cons, List.length_cons, ih]
      omega
    · rw [if_neg h, List.count_cons_of_ne h, List.length_cons, ih]
      omega
def Wt (ds : List PyData) : Nat := (ds.map fun d => (wr d).length + 1).sum
theorem wrT_wt : ∀ ds : List PyData, (wrT ds).length = Wt ds + 1
  | [] => rfl
  | d :: r => by
    have ih := wrT_wt r
    show ((wr d ++ wrT r).length + 1) = Wt (d :: r) + 1
    rw [List.length_append, ih]
    simp only [Wt, List.map_cons, List.sum_cons]
    omega
theorem wrF_wt : ∀ {ds : List PyData}, ds ≠ [] → (wrF ds).length = Wt ds
  | [], h => absurd rfl h
  | d :: r, _ => by
    show (wr d ++ wrT r).length = _
    rw [List.length_append, wrT_wt]
    simp only [Wt, List.map_cons, List.sum_cons]
    omega
theorem wrF_le (ds : List PyData) : (wrF ds).length ≤ Wt ds + 1 := by
  cases ds with
  | nil => exact Nat.le_refl _
  | cons d r => rw [wrF_wt (by simp)]; omega
theorem wt_le (ds : List PyData) : Wt ds ≤ (wrF ds).length := by
  cases ds with
  | nil => exact Nat.zero_le _
  | cons d r => rw [wrF_wt (by simp)]; exact Nat.le_refl _
theorem wt_app (a b : List PyData) : Wt (a ++ b) = Wt a + Wt b := by simp [Wt]
theorem wt_cut (ds : List PyData) (k : Nat) : Wt ds = Wt (ds.take k) + Wt (ds.drop k) := by rw [← wt_app, List.take_append_drop]
theorem wt_rev (ds : List PyData) : Wt ds.reverse = Wt ds := by
  induction ds with
  | nil => rfl
  | cons d r ih => rw [List.reverse_cons, wt_app, ih]; simp [Wt]; omega
theorem wt_mem {ds : List PyData} {d : PyData} (h : d ∈ ds) : (wr d).length + 1 ≤ Wt ds := by
  induction ds with
  | nil => cases h
  | cons x r ih =>
    simp only [Wt, List.map_cons, List.sum_cons] at ih ⊢
    rcases List.mem_cons.mp h with e | e
    · rw [e]; omega
    · have := ih e
      omega
theorem depthAll_mem {ds : List PyData} {d : PyData} (h : d ∈ ds) : d.depth ≤ PyData.depthAll ds := by
  induction ds with
  | nil => cases h
  | cons x r ih =>
    show d.depth ≤ max x.depth (PyData.depthAll r)
    rcases List.mem_cons.mp h with e | e
    · rw [e]; omega
    · have := ih e
      omega
theorem VdAll.take {H : Hp} : ∀ {vs : List V} {ds : List PyData} (k : Nat), VdAll H vs ds → VdAll H (vs.take k) (ds.take k)
  | _, _, 0, _ => by rw [List.take_zero, List.take_zero]; exact .nil
  | _, _, _ + 1, .nil => by rw [List.take_nil, List.take_nil]; exact .nil
  | _, _, k + 1, .cons a r => .cons a (VdAll.take k r)
theorem VdAll.drop {H : Hp} : ∀ {vs : List V} {ds : List PyData} (k : Nat), VdAll H vs ds → VdAll H (vs.drop k) (ds.drop k)
  | _, _, 0, h => h
  | _, _, _ + 1, .nil => by rw [List.drop_nil, List.drop_nil]; exact .nil
  | _, _, k + 1, .cons _ r => VdAll.drop k r
theorem VdAll.app {H : Hp} : ∀ {vs ws : List V} {ds es : List PyData}, VdAll H vs ds → VdAll H ws es → VdAll H (vs ++ ws) (ds ++ es)
  | _, _, _, _, .nil, b => b
  | _, _, _, _, .cons a r, b => .cons a (VdAll.app r b)
theorem VdAll.rev {H : Hp} : ∀ {vs : List V} {ds : List PyData}, VdAll H vs ds → VdAll H vs.reverse ds.reverse
  | _, _, .nil => .nil
  | _, _, .cons a r => by
    rw [List.reverse_cons, List.reverse_cons]
    exact VdAll.snoc a (VdAll.rev r)
/-- what a value nearby keeps -/
structure Nb (H : Hp) (x : V) (d : PyData) (w D : Nat) : Prop where
  ex : ∃ d' : PyData, Vd H x d' ∧ Ok d' ∧ d'.depth ≤ D + 1 ∧ (wr d').length ≤ w + 44
theorem nb_int {H : Hp} {i : Int} {d : PyData} {w D : Nat} (h : i.natAbs < 10 ^ 40) : Nb H (.int i) d w D :=
  ⟨_, .int i, .int i h, Nat.zero_le _, by
    have := sgn_len h
    show (sgn i).length ≤ _
    omega⟩
theorem nb_non {H : Hp} {d : PyData} {w D : Nat} : Nb H .non d w D := ⟨_, .non, .non, Nat.zero_le _, by show 1 ≤ _; omega⟩
theorem nb_bl {H : Hp} {b : Bool} {d : PyData} {w D : Nat} : Nb H (.bl b) d w D := ⟨_, .bl b, .bl b, Nat.zero_le _, by show 1 ≤ _; omega⟩
theorem nb_str {H : Hp} {z : Str} {d : PyData} {w D : Nat} (h : ∀ c ∈ tl z, 32 ≤ c ∧ c ≤ 126 ∧ c ≠ 37) (hl : (dbl (tl z)).length + 2 ≤ w + 44) : Nb H (.str z) d w D :=
  ⟨_, .str z, .str z h, Nat.zero_le _, by
    show (dbl (tl z) ++ [34]).length + 1 ≤ _
    rw [List.length_append, List.length_singleton]
    omega⟩
theorem nb_tup {H : Hp} {a : Addr} {xs : List V} {ds : List PyData} {d : PyData} {w D : Nat} (ha : H a = some (.tup xs)) (hx : VdAll H xs ds) (ok : ∀ e ∈ ds, Ok e) (dp : ∀ e ∈ ds, e.depth ≤ D) (hl : (wrF ds).length + 1 ≤ w + 44) : Nb H (.ref a) d w D :=
  ⟨_, .tup ha hx, .tup ok, by
    show PyData.depthAll ds + 1 ≤ D + 1
    have := depthAll_le ds dp
    omega, hl⟩
end Vl

set_option maxHeartbeats 4000000
namespace Vl
open PySem PySem.Spec PyProof.Rows L2 TL
open Ev (pe_revS revS revS_len)
abbrev sNear : Stmt := top 24
theorem scNear : FnScope ["hand", "value", "at", "way"] ["hand", "value"] (defScope sNear) := ⟨rfl, rfl, rfl, by decide +kernel, rfl, by decide +kernel, by decide +kernel⟩
def spNear (D : Nat) : Sp := fun vs H Q _ => ∃ (h : Addr) (x : V) (d : PyData) (n : Nat), vs = [.ref h, x] ∧ D ≤ 60 ∧ HandAt H h n ∧ Vd H x d ∧ Ok d ∧ d.depth ≤ D ∧ (wr d).length ≤ 1000000 ∧ n + 2 * D + 2 ≤ 900000 ∧
  ∀ H' x', But h H H' → HandAt H' h (n + 2 * D + 2) → Nb H' x' d (wr d).length D → Q x' H'
def spN : Nat → Sp
  | 0 => fun _ _ _ _ => False
  | D + 1 => spNear D
theorem wt_len (ds : List PyData) : ds.length ≤ Wt ds := by
  induction ds with
  | nil => exact Nat.zero_le _
  | cons d r ih =>
    show r.length + 1 ≤ (wr d).length + 1 + Wt r
    omega
mutual
theorem vd_dp {K : PySem.W.Frag} {H : Hp} : ∀ {v : V} {d : PyData}, Vd H v d → Dp K H v d
  | _, _, .non => .non
  | _, _, .bl b => .bl b
  | _, _, .int i => .int i
  | _, _, .str x => .str x
  | _, _, .tup h r => .tup (SqT.of h) (vdAll_dp r)
theorem vdAll_dp {K : PySem.W.Frag} {H : Hp} : ∀ {vs : List V} {ds : List PyData}, VdAll H vs ds → DpAll K H vs ds
  | _, _, .nil => .nil
  | _, _, .cons h r => .cons (vd_dp h) (vdAll_dp r)
end
theorem can_all {ds : List PyData} (h : ∀ d ∈ ds, d.canLay0 = true) : PyData.canLayAll0 ds = true := by
  induction ds with
  | nil => rfl
  | cons d r ih =>
    have h1 := h d (List.mem_cons_self ..)
    have h2 := ih fun x hx => h x (List.mem_cons_of_mem _ hx)
    simp [PyData.canLayAll0, h1, h2]
theorem can_ok {d : PyData} (h : Ok d) : d.canLay0 = true := by
  induction h with
  | non => rfl
  | bl b => rfl
  | int i hi => rfl
  | str z hz =>
    show z.cps.all (· < 0x110000) = true
    rw [← Array.all_toList, List.all_eq_true]
    intro c hc
    have := hz c hc
    exact decide_eq_true (by omega)
  | tup h ih => exact can_all ih
theorem shaped_ok {d : PyData} (h : Ok d) (hd : d.depth ≤ 64) : SeqAt.shaped d = true := by
  unfold SeqAt.shaped
  rw [can_ok h, Bool.true_and]
  exact decide_eq_true hd
theorem lg40 {n : Nat} (h : n < 10 ^ 40) : n.log2 < 1920 := by
  by_cases e : n = 0
  · rw [e]
    decide
  · exact (Nat.log2_lt e).mpr (Nat.lt_of_lt_of_le h (by decide +kernel))
theorem fmod_abs (x : Int) (m k : Nat) (hm : (0 : Int) < (10 : Int) ^ ((m : Nat) : Int).toNat) (hk : m ≤ k) : (x.fmod ((10 : Int) ^ ((m : Nat) : Int).toNat)).natAbs < 10 ^ k := by
  have h1 := Int.fmod_nonneg_of_pos x hm
  have h2 := Int.fmod_lt_of_pos x hm
  have e : (10 : Int) ^ ((m : Nat) : Int).toNat = ((10 ^ m : Nat) : Int) := by
    rw [Int.toNat_natCast]
    norm_cast
  rw [e] at h1 h2 ⊢
  have h3 : 10 ^ m ≤ 10 ^ k := Nat.pow_le_pow_right (by decide) hk
  omega
theorem num_signs (i : Int) : ∀ c ∈ tl (num i), 32 ≤ c ∧ c ≤ 126 ∧ c ≠ 37 := fun c hc => by
  have h := sgn_dig i c hc
  unfold digS at h
  simp at h
  omega
section
variable {P : Program} {w : World} {K : PySem.W.Frag} {mg : Str → Option Value} {base : Heap}
theorem ok_nearS {f fP : Addr} {fd fdP : FuncData} (D : Nat) (F : FnP K "_law_near" sNear f fd) (gN : mg "_law_near" = some (.ref f)) (GN : FnOk P w K mg base CX0 (1 + D) f fd ["hand", "value"] (spN D))
    (FP : FnP K "_law_pick" sPick fP fdP) (gP : mg "_law_pick" = some (.ref fP)) (GP : FnOk P w K mg base CX0 1 fP fdP ["hand", "many"] spPick)
    (mi : mg "isinstance" = none) (mt : mg "tuple" = none) (mb : mg "bool" = none) (mn : mg "int" = none) (ms : mg "str" = none) (ml : mg "len" = none) : FnOk P w K mg base CX0 (1 + D + 1) f fd ["hand", "value"] (spNear D) := by
  have bN : Binds K fd ["hand", "value"] [] := F.bindsN fun _ _ _ _ _ _ us hl => match us, hl with | [_, _], _ => rfl
  have bP : Binds K fdP ["hand", "many"] [] := FP.bindsN fun _ _ _ _ _ _ us hl => match us, hl with | [_, _], _ => rfl
  refine F.ok scNear (fun vs H Q E h => ?_) (fun cdv A outer s H vs Q E hr h => ?_)
  · obtain ⟨h, x, d, n, rfl, _⟩ := h
    rfl
  · obtain ⟨h, x, d, n, rfl, hD, hA, vd, ok, dp, wl, hn, q⟩ := h
    have hs := szl
    have hr1 : Room 1 _ := hr.mono (show 1 ≤ 1 + D by omega)
    have hrN : Room (1 + D) _ := hr
    refine ⟨_, PSs.nox (pss_cons (ps_if (PW.pt (pw_and (pt_val (pe_callB call_isi (by rfl) mi (by decide +kernel) (pa_cons (pv 1) (pa_cons (pe_bltn (v := .ty "tuple") (by rfl) mt PyProof.Rows.boot_tuple rfl) pa_nil)))) (pw_and (pt_cmpR (op_neD hr.units) (pv 1) (pe_tup pa_nil) (nomark _)) (pw_and1 (pt_cmpR op_gt (pe_call GP hr1 (by rfl) gP FP.kp bP .nil pass0 (pa_cons (pv 0) (pa_cons (pe_int) pa_nil))) (pe_int) (nomark _)))))) (pss_cons (ps_set (i := 2) scNear.nd rfl (.inl rfl) (pe_call GP hr1 (by rfl) gP FP.kp bP .nil pass0 (pa_cons (pv 0) (pa_cons (pe_callB call_len_seq (by rfl) ml PySem.boot_len (pa_cons (pv 1) pa_nil)) pa_nil))))
      (pss_one (ps_ret (pe_op op_catA (pe_op op_catA (pe_slice sl_tupA (pv 1) po_none (po_some (pv 2))) (pe_tup (pa_cons (pe_call GN hrN (by rfl) gN F.kp bN .nil pass0 (pa_cons (pv 0) (pa_cons (pe_ix ix_tup (pv 1) (pv 2) (fun _ _ => rfl)) pa_nil))) pa_nil))) (pe_slice sl_tupA (pv 1) (po_some (pe_op op_add (pv 2) (pe_int))) po_none))))) pss_nil)
      (pss_cons (ps_if (PW.pt (pw_or (pt_val (pe_callB call_isi (by rfl) mi (by decide +kernel) (pa_cons (pv 1) (pa_cons (pe_bltn (v := .ty "bool") (by rfl) mb boot_bool rfl) pa_nil)))) (pw_or1 (pt_cmpR op_isN (pv 1) (pe_non) (nomark _))))) (pss_one (ps_ret (pe_ix ix_list (pe_lst (pa_cons (pe_int) (pa_cons (pe_int) (pa_cons (pe_non) (pa_cons (pe_bl) (pa_cons (pe_bl) (pa_cons (pe_str) (pa_cons (pe_str) (pa_cons (pe_tup pa_nil) pa_nil))))))))) (pe_call GP hr1 (by rfl) gP FP.kp bP .nil pass0 (pa_cons (pv 0) (pa_cons (pe_int) pa_nil))) (fun _ _ => rfl)))) pss_nil)
      (pss_cons (ps_if (pt_val (pe_callB call_isi (by rfl) mi (by decide +kernel) (pa_cons (pv 1) (pa_cons (pe_bltn (v := .ty "int") (by rfl) mn boot_int rfl) pa_nil)))) (pss_one (ps_ret (pe_ix ix_list (pe_lst (pa_cons (pe_op op_modN (pe_op op_add (pv 1) (pe_int)) (pe_op op_powB (pe_int) (pe_int))) (pa_cons (pe_op op_sub (pe_int) (pv 1)) (pa_cons (pe_op op_modN (pe_op op_mul (pe_int) (pv 1)) (pe_op op_powB (pe_int) (pe_int))) (pa_cons (pe_callTy call_str_int (by rfl) ms boot_str (pa_cons (pv 1) pa_nil)) (pa_cons (pe_cmpR op_eq (pv 1) (pe_int) (nomark _)) pa_nil)))))) (pe_call GP hr1 (by rfl) gP FP.kp bP .nil pass0 (pa_cons (pv 0) (pa_cons (pe_int) pa_nil))) (fun _ _ => rfl)))) pss_nil)
      (pss_cons (ps_if (pt_val (pe_callB call_isi (by rfl) mi (by decide +kernel) (pa_cons (pv 1) (pa_cons (pe_bltn (v := .ty "str") (by rfl) ms boot_str rfl) pa_nil)))) (pss_cons (ps_set (i := 3) scNear.nd rfl (.inl rfl) (pe_call GP hr1 (by rfl) gP FP.kp bP .nil pass0 (pa_cons (pv 0) (pa_cons (pe_int) pa_nil))))
      (pss_one (ps_ret (pe_ix ix_list (pe_lst (pa_cons (pe_op op_add_str (pv 1) (pe_str)) (pa_cons (pe_op op_add_str (pv 1) (pe_str)) (pa_cons (pe_slice sl_str (pv 1) po_none (po_some (pe_un un_neg pe_int))) (pa_cons (pe_revS (pv 1)) (pa_cons (pe_tup (pa_cons (pv 1) pa_nil)) pa_nil)))))) (pv 3) (fun _ _ => rfl))))) pss_nil)
      (pss_one (ps_ret (pe_ix ix_list (pe_lst (pa_cons (pe_tup (pa_cons (pv 1) pa_nil)) (pa_cons (pe_op op_catA (pv 1) (pe_tup (pa_cons pe_int pa_nil))) (pa_cons (pe_slice sl_tupA (pv 1) po_none (po_some (pe_un un_neg pe_int))) (pa_cons (Rv.pe_revT (pv 1)) (pa_cons (pe_tup pa_nil) pa_nil)))))) (pe_call GP hr1 (by rfl) gP FP.kp bP .nil pass0 (pa_cons (pv 0) (pa_cons (pe_int) pa_nil))) (fun _ _ => rfl)))))))), ?_⟩
    obtain ⟨hxs0, hh⟩ := hA.is
    have fin : ∀ H2 v m, But h H H2 → HandAt H2 h m → m ≤ n + 2 * D + 2 → Nb H2 v d (wr d).length D → Q v H2 := fun H2 v m b A hm nb => q H2 v b (A.mono hm) nb
    cases vd with
    | non =>
      refine ⟨_, rfl, .non, .ty "tuple", .type "NoneType", .type "tuple", false, rfl, .ty _, .base .non, kit_ty (by decide +kernel), _, rfl, iteF (iteF ?_)⟩
      refine ⟨_, rfl, .non, .ty "bool", .type "NoneType", .type "bool", false, rfl, .ty _, .base .non, kit_ty (by decide +kernel), _, rfl, iteF ⟨_, rfl, rfl, _, rfl, iteT ?_⟩⟩
      refine ⟨Nat.zero_le _, fun pt npt => ⟨by show 8 ≤ sizeLine; omega, fun pL nL => ?_⟩⟩
      have hA1 := hA.same (same_upd (o := HO.tup []) npt)
      have npL := ne_hand hA1 nL
      refine ⟨_, rfl, h, 8, n, rfl, hA1.same (same_upd nL), by omega, by omega, by omega, fun H9 k9 b9 A9 k90 k91 => ?_⟩
      obtain ⟨v9, ev9, vm9⟩ := atI_in (xs := ([.int 0, .int 1, .non, .bl true, .bl false, .str "", .str "-", .ref pt] : List V)) k90 (by show k9 < 8; exact k91)
      obtain ⟨_, hhz⟩ := (hA1.same (same_upd (o := HO.lst ([.int 0, .int 1, .non, .bl true, .bl false, .str "", .str "-", .ref pt] : List V)) nL)).is
      have kz : KeepT (upd H pt (.tup [])) H9 := (Same.keepT (same_upd nL)).trans (but_keep b9 hhz)
      refine ⟨pL, _, k9, v9, rfl, rfl, SqL.of (but_at b9 upd_same npL), ev9, fin H9 v9 _ ((Same.but (same_upd npt)).trans ((Same.but (same_upd nL)).trans b9)) A9 (by omega) ?_⟩
      simp only [List.mem_cons, List.mem_nil_iff, or_false] at vm9
      rcases vm9 with e | e | e | e | e | e | e | e <;> subst e
      · exact nb_int (by decide)
      · exact nb_int (by decide)
      · exact nb_non
      · exact nb_bl
      · exact nb_bl
      · exact nb_str (by decide +kernel) (by have : (dbl (tl (Str.ofString ""))).length = 0 := by decide +kernel
                                             omega)
      · exact nb_str (by decide +kernel) (by have : (dbl (tl (Str.ofString "-"))).length = 1 := by decide +kernel
                                             omega)
      · exact nb_tup (kz _ _ upd_same) .nil (fun _ z => by cases z) (fun _ z => by cases z) (by show 1 + 1 ≤ _; omega)
    | bl c =>
      refine ⟨_, rfl, .bl c, .ty "tuple", .type "bool", .type "tuple", false, rfl, .ty _, .base (.bl c), kit_ty (by decide +kernel), _, rfl, iteF (iteF ?_)⟩
      refine ⟨_, rfl, .bl c, .ty "bool", .type "bool", .type "bool", true, rfl, .ty _, .base (.bl c), kit_ty (by decide +kernel), _, rfl, iteT (iteT ?_)⟩
      refine ⟨Nat.zero_le _, fun pt npt => ⟨by show 8 ≤ sizeLine; omega, fun pL nL => ?_⟩⟩
      have hA1 := hA.same (same_upd (o := HO.tup []) npt)
      have npL := ne_hand hA1 nL
      refine ⟨_, rfl, h, 8, n, rfl, hA1.same (same_upd nL), by omega, by omega, by omega, fun H9 k9 b9 A9 k90 k91 => ?_⟩
      obtain ⟨v9, ev9, vm9⟩ := atI_in (xs := ([.int 0, .int 1, .non, .bl true, .bl false, .str "", .str "-", .ref pt] : List V)) k90 (by show k9 < 8; exact k91)
      obtain ⟨_, hhz⟩ := (hA1.same (same_upd (o := HO.lst ([.int 0, .int 1, .non, .bl true, .bl false, .str "", .str "-", .ref pt] : List V)) nL)).is
      have kz : KeepT (upd H pt (.tup [])) H9 := (Same.keepT (same_upd nL)).trans (but_keep b9 hhz)
      refine ⟨pL, _, k9, v9, rfl, rfl, SqL.of (but_at b9 upd_same npL), ev9, fin H9 v9 _ ((Same.but (same_upd npt)).trans ((Same.but (same_upd nL)).trans b9)) A9 (by omega) ?_⟩
      simp only [List.mem_cons, List.mem_nil_iff, or_false] at vm9
      rcases vm9 with e | e | e | e | e | e | e | e <;> subst e
      · exact nb_int (by decide)
      · exact nb_int (by decide)
      · exact nb_non
      · exact nb_bl
      · exact nb_bl
      · exact nb_str (by decide +kernel) (by have : (dbl (tl (Str.ofString ""))).length = 0 := by decide +kernel
                                             omega)
      · exact nb_str (by decide +kernel) (by have : (dbl (tl (Str.ofString "-"))).length = 1 := by decide +kernel
                                             omega)
      · exact nb_tup (kz _ _ upd_same) .nil (fun _ z => by cases z) (fun _ z => by cases z) (by show 1 + 1 ≤ _; omega)
    | int i =>
      refine ⟨_, rfl, .int i, .ty "tuple", .type "int", .type "tuple", false, rfl, .ty _, .base (.int i), kit_ty (by decide +kernel), _, rfl, iteF (iteF ?_)⟩
      refine ⟨_, rfl, .int i, .ty "bool", .type "int", .type "bool", false, rfl, .ty _, .base (.int i), kit_ty (by decide +kernel), _, rfl, iteF ⟨_, rfl, rfl, _, rfl, iteF ?_⟩⟩
      refine ⟨_, rfl, .int i, .ty "int", .type "int", .type "int", true, rfl, .ty _, .base (.int i), kit_ty (by decide +kernel), _, rfl, iteT ?_⟩
      have hi : i.natAbs < 10 ^ 40 := by cases ok with | int _ h => exact h
      have lg : i.natAbs.log2 < 1920 := lg40 hi
      have f0 : (10 : Int) ^ (40 : Int).toNat ≠ 0 := by decide
      have g0 : (10 : Int) ^ (39 : Int).toNat ≠ 0 := by decide
      refine ⟨_, rfl, i, 1, rfl, rfl, 10, 40, rfl, rfl, ⟨by decide, by decide +kernel⟩, _, _, rfl, rfl, f0, _, rfl, 0, i, rfl, rfl, _, rfl, 10, i, rfl, rfl, .inl ⟨by decide, by decide⟩, 10, 39, rfl, rfl, ⟨by decide, by decide +kernel⟩, _, _, rfl, rfl, g0, _, rfl, i, rfl, lg, _, rfl, rfl, by show 5 ≤ sizeLine; omega, fun pL nL => ?_⟩
      have npL := ne_hand hA nL
      refine ⟨_, rfl, h, 5, n, rfl, hA.same (same_upd nL), by omega, by omega, by omega, fun H9 k9 b9 A9 k90 k91 => ?_⟩
      obtain ⟨v9, ev9, vm9⟩ := atI_in (xs := ([.int ((i + 1).fmod ((10 : Int) ^ (40 : Int).toNat)), .int (0 - i), .int ((10 * i).fmod ((10 : Int) ^ (39 : Int).toNat)), .str (num i), .bl (decide (V.int i = V.int 1))] : List V)) k90 (by show k9 < 5; exact k91)
      obtain ⟨_, hhz⟩ := (hA.same (same_upd (o := HO.lst ([.int ((i + 1).fmod ((10 : Int) ^ (40 : Int).toNat)), .int (0 - i), .int ((10 * i).fmod ((10 : Int) ^ (39 : Int).toNat)), .str (num i), .bl (decide (V.int i = V.int 1))] : List V)) nL)).is
      have kz : KeepT H H9 := (Same.keepT (same_upd nL)).trans (but_keep b9 hhz)
      refine ⟨pL, _, k9, v9, rfl, rfl, SqL.of (but_at b9 upd_same npL), ev9, fin H9 v9 _ ((But.refl h H).trans ((Same.but (same_upd nL)).trans b9)) A9 (by omega) ?_⟩
      simp only [List.mem_cons, List.mem_nil_iff, or_false] at vm9
      rcases vm9 with e | e | e | e | e <;> subst e
      · exact nb_int (fmod_abs (i + 1) 40 40 (by decide) (by omega))
      · exact nb_int (by omega)
      · exact nb_int (fmod_abs (10 * i) 39 40 (by decide) (by omega))
      · refine nb_str (num_signs i) ?_
        have e1 := dbl_len (sgn i)
        have e2 := sgn_len hi
        show (dbl (sgn i)).length + 2 ≤ (sgn i).length + 44
        omega
      · exact nb_bl
    | str z =>
      refine ⟨_, rfl, .str z, .ty "tuple", .type "str", .type "tuple", false, rfl, .ty _, .base (.str z), kit_ty (by decide +kernel), _, rfl, iteF (iteF ?_)⟩
      refine ⟨_, rfl, .str z, .ty "bool", .type "str", .type "bool", false, rfl, .ty _, .base (.str z), kit_ty (by decide +kernel), _, rfl, iteF ⟨_, rfl, rfl, _, rfl, iteF ?_⟩⟩
      refine ⟨_, rfl, .str z, .ty "int", .type "str", .type "int", false, rfl, .ty _, .base (.str z), kit_ty (by decide +kernel), _, rfl, iteF ?_⟩
      refine ⟨_, rfl, .str z, .ty "str", .type "str", .type "str", true, rfl, .ty _, .base (.str z), kit_ty (by decide +kernel), _, rfl, iteT ?_⟩
      have zok : ∀ c ∈ tl z, 32 ≤ c ∧ c ≤ 126 ∧ c ≠ 37 := by cases ok with | str _ h => exact h
      have wz : (wr (.str z)).length = (dbl (tl z)).length + 2 := by
        show (dbl (tl z) ++ [34]).length + 1 = _
        rw [List.length_append, List.length_singleton]
      have dc := dbl_count (tl z)
      have zl := len_tl z
      have l1 : (Str.ofString "\"").length = 1 := by decide +kernel
      have l2 : (Str.ofString " ").length = 1 := by decide +kernel
      have t1 : tl (Str.ofString "\"") = [34] := by decide +kernel
      have t2 : tl (Str.ofString " ") = [32] := by decide +kernel
      refine ⟨_, rfl, h, 5, n, rfl, hA, by omega, by omega, by omega, fun H1 k1 b1 A1 k10 k11 => ?_⟩
      refine ⟨_, rfl, _, _, rfl, rfl, by rw [l1]; omega, _, rfl, _, _, rfl, rfl, by rw [l2]; omega, _, rfl, _, rfl, -1, rfl, z, rfl, by omega, _, rfl, z, rfl, by omega, _, rfl, by show 1 ≤ sizeLine; omega, fun pt npt => ⟨by show 5 ≤ sizeLine; omega, fun pL nL => ?_⟩⟩
      obtain ⟨v9, ev9, vm9⟩ := atI_in (xs := ([.str (z ++ Str.ofString "\""), .str (z ++ Str.ofString " "), .str (cutS z none (some (-1))), .str (revS z), .ref pt] : List V)) k10 (by show k1 < 5; exact k11)
      refine ⟨_, rfl, pL, _, k1, v9, rfl, rfl, SqL.of upd_same, ev9, fin _ v9 _ (b1.trans ((Same.but (same_upd npt)).trans (Same.but (same_upd nL)))) ((A1.same (same_upd npt)).same (same_upd nL)) (by omega) ?_⟩
      simp only [List.mem_cons, List.mem_nil_iff, or_false] at vm9
      rw [wz]
      rcases vm9 with e | e | e | e | e <;> subst e
      · refine nb_str (fun c hc => ?_) ?_
        · rw [tl_append, t1] at hc
          rcases List.mem_append.mp hc with e | e
          · exact zok c e
          · rw [List.mem_singleton.mp e]
            decide
        · rw [tl_append, t1, dbl_count, List.length_append, List.count_append]
          show (tl z).length + 1 + ((tl z).count 34 + 1) + 2 ≤ _
          omega
      · refine nb_str (fun c hc => ?_) ?_
        · rw [tl_append, t2] at hc
          rcases List.mem_append.mp hc with e | e
          · exact zok c e
          · rw [List.mem_singleton.mp e]
            decide
        · rw [tl_append, t2, dbl_count, List.length_append, List.count_append]
          show (tl z).length + 1 + ((tl z).count 34 + 0) + 2 ≤ _
          omega
      · have et : tl (cutS z none (some (-1))) = (tl z).take (HT.sIx z.length z.length (some (-1))) := rfl
        refine nb_str (fun c hc => zok c (List.mem_of_mem_take (et ▸ hc))) ?_
        rw [et, dbl_count]
        have q1 := (List.take_sublist (HT.sIx z.length z.length (some (-1))) (tl z)).length_le
        have q2 := (List.take_sublist (HT.sIx z.length z.length (some (-1))) (tl z)).count_le 34
        omega
      · have et : tl (revS z) = (tl z).reverse := rfl
        refine nb_str (fun c hc => zok c (List.mem_reverse.mp (et ▸ hc))) ?_
        rw [et, dbl_count, List.length_reverse, List.count_reverse]
        omega
      · refine nb_tup (same_upd nL _ _ upd_same) (.cons (.str z) .nil) (fun y hy => by rw [List.mem_singleton.mp hy]; exact ok) (fun y hy => by rw [List.mem_singleton.mp hy]; exact Nat.zero_le _) ?_
        rw [wrF_wt (by simp)]
        show (wr (.str z)).length + 1 + 0 + 1 ≤ _
        rw [wz]
        omega
    | tup ha hx =>
      rename_i a xs ds
      have okd : ∀ e ∈ ds, Ok e := by cases ok with | tup h => exact h
      have dpd : PyData.depthAll ds + 1 ≤ D := dp
      have lenx := hx.len
      have wD : (wr (.tuple ds)).length = (wrF ds).length + 1 := rfl
      have wF := wrF_le ds
      have wG := wt_le ds
      have dl : ds.length ≤ Wt ds := wt_len ds
      have nah : a ≠ h := fun e => by rw [e, hh] at ha; cases ha
      refine ⟨_, rfl, .ref a, .ty "tuple", .type "tuple", .type "tuple", true, rfl, .ty _, .base (.tup ha), kit_ty (by decide +kernel), _, rfl, iteT ?_⟩
      refine ⟨_, rfl, Nat.zero_le _, fun pe npe => ?_⟩
      have ke := same_upd (o := HO.tup []) npe
      have hAe := hA.same ke
      have hae := ke _ _ ha
      have hxe := hx.keep (Same.keepT ke)
      have bE := Same.but (h := h) ke
      have hpe : (upd H pe (.tup [])) pe = some (.tup []) := upd_same
      generalize (upd H pe (.tup [])) = He at hAe hae hxe bE hpe
      refine ⟨.tuple ds, .tuple [], .tup (SqT.of hae) (vdAll_dp hxe), .tup (SqT.of hpe) .nil, shaped_ok ok (by omega), by decide +kernel, _, rfl, ?_⟩
      by_cases hd : ds = []
      · subst hd
        have hx0 : xs = [] := List.length_eq_zero_iff.mp lenx
        subst hx0
        rw [show (!PyData.eqv (.tuple []) (.tuple [])) = false by decide +kernel]
        refine iteF (iteF ?_)
        obtain ⟨Hx, rfl⟩ : ∃ Hx, Hx = He := ⟨_, rfl⟩
        have hax := hae
        have bx := bE
        have Ax := hAe
        obtain ⟨m, rfl⟩ : ∃ m, m = n := ⟨_, rfl⟩
        refine ⟨_, rfl, .ref a, .ty "bool", .type "tuple", .type "bool", false, rfl, .ty _, .base (.tup hax), kit_ty (by decide +kernel), _, rfl, iteF ⟨_, rfl, rfl, _, rfl, iteF ?_⟩⟩
        refine ⟨_, rfl, .ref a, .ty "int", .type "tuple", .type "int", false, rfl, .ty _, .base (.tup hax), kit_ty (by decide +kernel), _, rfl, iteF ?_⟩
        refine ⟨_, rfl, .ref a, .ty "str", .type "tuple", .type "str", false, rfl, .ty _, .base (.tup hax), kit_ty (by decide +kernel), _, rfl, iteF ?_⟩
        refine ⟨_, rfl, by show 1 ≤ sizeLine; omega, fun t1 nt1 => ?_⟩
        have k1 := same_upd (o := HO.tup [V.ref a]) nt1
        refine ⟨_, rfl, by show 1 ≤ sizeLine; omega, fun t2 nt2 => ?_⟩
        have k2 := same_upd (o := HO.tup [V.int 0]) nt2
        have ha2 := k2 _ _ (k1 _ _ hax)
        refine ⟨a, t2, [], [.int 0], rfl, rfl, SqT.of ha2, SqT.of upd_same, by show 0 + 1 ≤ _; omega, fun _ => ?_, fun e1 => absurd rfl e1, fun e1 => absurd rfl e1⟩
        refine ⟨_, rfl, _, rfl, -1, rfl, a, [], rfl, SqT.of ha2, fun _ => ?_, fun e1 => absurd ⟨rfl, rfl⟩ e1⟩
        refine ⟨_, rfl, a, [], rfl, SqT.of ha2, fun t5 nt5 => ?_⟩
        have k5 := same_upd (o := HO.tup ([] : List V).reverse) nt5
        refine ⟨Nat.zero_le _, fun t6 nt6 => ⟨by show 5 ≤ sizeLine; omega, fun pL nL => ?_⟩⟩
        have k6 := same_upd (o := HO.tup []) nt6
        have s6 := ((k1.trans k2).trans k5).trans k6
        have g1 := k6 _ _ (k5 _ _ (k2 _ _ (upd_same (H := Hx) (a := t1) (o := HO.tup [V.ref a]))))
        have g3 := k6 _ _ (k5 _ _ (upd_same (H := upd Hx t1 (.tup [V.ref a])) (a := t2) (o := HO.tup [V.int 0])))
        have g5 := k6 _ _ (upd_same (H := upd (upd Hx t1 (.tup [V.ref a])) t2 (.tup [V.int 0])) (a := t5) (o := HO.tup ([] : List V).reverse))
        have g6 : (upd (upd (upd (upd Hx t1 (.tup [V.ref a])) t2 (.tup [V.int 0])) t5 (.tup ([] : List V).reverse)) t6 (.tup [])) t6 = some (.tup []) := upd_same
        have gx := s6 _ _ hax
        generalize upd (upd (upd (upd Hx t1 (.tup [V.ref a])) t2 (.tup [V.int 0])) t5 (.tup ([] : List V).reverse)) t6 (.tup []) = G at nL s6 g1 g3 g5 g6 gx
        have AG := Ax.same s6
        have npL := ne_hand AG nL
        refine ⟨_, rfl, h, 5, m, rfl, AG.same (same_upd nL), by omega, by omega, by omega, fun H9 k9 b9 A9 k90 k91 => ?_⟩
        obtain ⟨v9, ev9, vm9⟩ := atI_in (xs := ([.ref t1, .ref t2, .ref a, .ref t5, .ref t6] : List V)) k90 (by show k9 < 5; exact k91)
        obtain ⟨_, hhz⟩ := (AG.same (same_upd (o := HO.lst ([.ref t1, .ref t2, .ref a, .ref t5, .ref t6] : List V)) nL)).is
        have kz : KeepT G H9 := (Same.keepT (same_upd nL)).trans (but_keep b9 hhz)
        refine ⟨pL, _, k9, v9, rfl, rfl, SqL.of (but_at b9 upd_same npL), ev9, fin H9 v9 _ ((bx.trans (Same.but s6)).trans ((Same.but (same_upd nL)).trans b9)) A9 (by omega) ?_⟩
        simp only [List.mem_cons, List.mem_nil_iff, or_false] at vm9
        have w0 : (wr (.tuple [])).length = 2 := rfl
        rcases vm9 with e | e | e | e | e <;> subst e
        · refine nb_tup (kz _ _ g1) (.cons (.tup (kz _ _ gx) .nil) .nil) (fun y hy => by rw [List.mem_singleton.mp hy]; exact ok) (fun y hy => by rw [List.mem_singleton.mp hy]; exact dp) ?_
          show 3 + 1 ≤ _
          omega
        · refine nb_tup (kz _ _ g3) (.cons (.int 0) .nil) (fun y hy => by rw [List.mem_singleton.mp hy]; exact .int 0 (by decide)) (fun y hy => by rw [List.mem_singleton.mp hy]; exact Nat.zero_le _) ?_
          have e1 : (wrF [PyData.int 0]).length = 2 := by decide +kernel
          omega
        · exact nb_tup (kz _ _ gx) .nil (fun _ z => by cases z) (fun _ z => by cases z) (by show 1 + 1 ≤ _; omega)
        · exact nb_tup (kz _ _ g5) .nil (fun _ z => by cases z) (fun _ z => by cases z) (by show 1 + 1 ≤ _; omega)
        · exact nb_tup (kz _ _ g6) .nil (fun _ z => by cases z) (fun _ z => by cases z) (by show 1 + 1 ≤ _; omega)
      · have xne : xs ≠ [] := fun e => hd (List.length_eq_zero_iff.mp (by rw [← lenx, e]; rfl))
        rw [show (!PyData.eqv (.tuple ds) (.tuple [])) = true by
          cases ds with
          | nil => exact absurd rfl hd
          | cons y r => simp [PyData.eqv, PyData.eqvAll]]
        refine iteT ⟨_, rfl, h, 4, n, rfl, hAe, by omega, by decide, by decide, fun H1 q1 b1 A1 q10 q11 => ⟨q1, 0, rfl, rfl, _, rfl, ?_⟩⟩
        have bb1 := bE.trans b1
        have ha1 := b1.1 a _ nah hae
        obtain ⟨_, hhe⟩ := hAe.is
        have hx1 := hxe.keep (but_keep b1 hhe)
        refine ite2 (fun _ => ?_) (fun _ => ?_)
        · refine ⟨_, rfl, _, rfl, a, _, rfl, .inr (SqT.of ha1), h, _, n + 1, rfl, A1, by omega, by have := List.length_pos_iff.mpr xne; omega, by rw [lenx]; omega, fun H2 j0 b2 A2 j00 j01 => ?_⟩
          obtain ⟨j, rfl⟩ := Int.eq_ofNat_of_zero_le j00
          have hj : j < xs.length := Int.ofNat_lt.mp j01
          have hjd : j < ds.length := by omega
          have ha2 := b2.1 a _ nah ha1
          obtain ⟨_, hh1⟩ := A1.is
          have hx2 := hx1.keep (but_keep b2 hh1)
          refine ⟨_, rfl, _, rfl, (j : Int), rfl, a, xs, rfl, SqT.of ha2, fun e1 => absurd e1.2 (by rw [HT.sIx_nat]; omega), fun _ p1 np1 => ?_⟩
          have ec : cutV xs none (some (j : Int)) = xs.take j := by
            unfold cutV
            rw [HT.sIx_none, HT.sIx_nat, List.drop_zero, show min j xs.length - 0 = j by omega]
          rw [ec]
          have c1 := same_upd (o := HO.tup (xs.take j)) np1
          have np1h := ne_hand A2 np1
          obtain ⟨D', rfl⟩ : ∃ D', D = D' + 1 := ⟨D - 1, by omega⟩
          obtain ⟨dj, edj, vdj⟩ := (hx2.keep (Same.keepT c1)).get j (List.getElem?_eq_getElem hj)
          have mdj : dj ∈ ds := List.mem_of_getElem? edj
          have ddj := depthAll_mem mdj
          have wdj := wt_mem mdj
          refine ⟨_, rfl, _, rfl, _, rfl, a, xs, (j : Int), xs[j], rfl, rfl, SqT.of (c1 _ _ ha2), atI_nat (j := j) (List.getElem?_eq_getElem hj), ?_⟩
          refine ⟨h, xs[j], dj, n + 1 + 1, rfl, by omega, A2.same c1, vdj, okd dj mdj, by omega, by omega, by omega, fun H4 x4 b4 A4 nb4 => ⟨by show 1 ≤ sizeLine; omega, fun p2 np2 => ?_⟩⟩
          have c2 := same_upd (o := HO.tup [x4]) np2
          obtain ⟨d4, vd4, ok4, dp4, wl4⟩ := nb4.ex
          obtain ⟨_, hh2⟩ := (A2.same c1).is
          have kA : KeepT H2 (upd H4 p2 (.tup [x4])) := (Same.keepT c1).trans ((but_keep b4 hh2).trans (Same.keepT c2))
          have hp1 : (upd H4 p2 (.tup [x4])) p1 = some (.tup (xs.take j)) := c2 _ _ (but_at b4 upd_same np1h)
          have hp2 : (upd H4 p2 (.tup [x4])) p2 = some (.tup [x4]) := upd_same
          have bA : But h H (upd H4 p2 (.tup [x4])) := (((bb1.trans b2).trans (Same.but c1)).trans b4).trans (Same.but c2)
          have AA := A4.same c2
          have vd4' := vd4.keep (Same.keepT c2)
          generalize (upd H4 p2 (.tup [x4])) = H5 at kA hp1 hp2 bA AA vd4'
          have done : ∀ Hf pf, KeepT H2 Hf → But h H Hf → HandAt Hf h (n + 1 + 1 + 2 * D' + 2) → KeepT H5 Hf → Hf pf = some (.tup (xs.take j ++ [x4] ++ xs.drop (j + 1))) → Q (.ref pf) Hf := fun Hf pf k2 bf Af k5 hf => by
            have hxf := hx2.keep k2
            refine fin Hf _ _ bf Af (by omega) (nb_tup hf (VdAll.app (VdAll.app (VdAll.take j hxf) (.cons (vd4'.keep k5) .nil)) (VdAll.drop (j + 1) hxf)) (fun y hy => ?_) (fun y hy => ?_) ?_)
            · rcases List.mem_append.mp hy with z | z
              · rcases List.mem_append.mp z with z | z
                · exact okd y (List.mem_of_mem_take z)
                · rw [List.mem_singleton.mp z]
                  exact ok4
              · exact okd y (List.mem_of_mem_drop z)
            · rcases List.mem_append.mp hy with z | z
              · rcases List.mem_append.mp z with z | z
                · have := depthAll_mem (List.mem_of_mem_take z)
                  omega
                · rw [List.mem_singleton.mp z]
                  exact dp4
              · have := depthAll_mem (List.mem_of_mem_drop z)
                omega
            · rw [wrF_wt (by simp), wt_app, wt_app]
              have e1 := wt_cut ds j
              have e2 : ds.drop j = dj :: ds.drop (j + 1) := by
                rw [List.drop_eq_getElem_cons hjd]
                congr 1
                exact Option.some.inj ((List.getElem?_eq_getElem hjd).symm.trans edj)
              rw [e2] at e1
              have e3 : Wt (dj :: ds.drop (j + 1)) = (wr dj).length + 1 + Wt (ds.drop (j + 1)) := rfl
              have e4 : Wt [d4] = (wr d4).length + 1 + 0 := rfl
              omega
          refine ⟨p1, p2, xs.take j, [x4], rfl, rfl, SqT.of hp1, SqT.of hp2, by rw [List.length_take, List.length_singleton]; omega, fun e0 => ?_, fun _ e1 => absurd e1 (by simp), fun _ _ p3 np3 => ?_⟩
          · have bl := bA
            have Al := AA
            have hpl := hp2
            have done : ∀ Hf pf, KeepT H2 Hf → But h H Hf → HandAt Hf h (n + 1 + 1 + 2 * D' + 2) → KeepT H5 Hf → Hf pf = some (.tup ([x4] ++ xs.drop (j + 1))) → Q (.ref pf) Hf := fun Hf pf k2 bf Af k5 hf => done Hf pf k2 bf Af k5 (by rw [e0, List.nil_append]; exact hf)
            have hal : H5 a = some (.tup xs) := kA _ _ ha2
            refine ⟨_, rfl, _, rfl, (j : Int), 1, rfl, rfl, (j : Int) + 1, rfl, a, xs, rfl, SqT.of hal, fun e1 => absurd e1.1 (by
              rw [show ((j : Int) + 1) = ((j + 1 : Nat) : Int) by omega, HT.sIx_nat]
              omega), fun _ p4 np4 => ?_⟩
            have k4 := same_upd (o := HO.tup (cutV xs (some ((j : Int) + 1)) none)) np4
            have ed : cutV xs (some ((j : Int) + 1)) none = xs.drop (j + 1) := by
              unfold cutV
              rw [show ((j : Int) + 1) = ((j + 1 : Nat) : Int) by omega, HT.sIx_nat, HT.sIx_none, show min (j + 1) xs.length = j + 1 by omega, List.take_of_length_le (by rw [List.length_drop]; omega)]
            rw [ed] at k4 ⊢
            refine ⟨p2, p4, [x4], xs.drop (j + 1), rfl, rfl, SqT.of (k4 _ _ hpl), SqT.of upd_same, by simp only [List.length_append, List.length_take, List.length_drop, List.length_singleton, List.length_nil]; omega, fun e1 => absurd e1 (by simp), fun _ e1 => ?_, fun _ _ p5 np5 => ?_⟩
            · refine done _ p2 (kA.trans (Same.keepT k4)) (bl.trans (Same.but k4)) (Al.same k4) (Same.keepT k4) ?_
              have hq4 := k4 _ _ hpl
              rw [e1] at hq4 ⊢
              rw [List.append_nil]
              exact hq4
            · have k5 := same_upd (o := HO.tup ([x4] ++ xs.drop (j + 1))) np5
              exact done _ p5 (kA.trans (Same.keepT (k4.trans k5))) (bl.trans (Same.but (k4.trans k5))) (Al.same (k4.trans k5)) (Same.keepT (k4.trans k5)) upd_same
          · have c3 := same_upd (o := HO.tup (xs.take j ++ [x4])) np3
            have bl := bA.trans (Same.but c3)
            have Al := AA.same c3
            have hpl : (upd H5 p3 (.tup (xs.take j ++ [x4]))) p3 = some (.tup (xs.take j ++ [x4])) := upd_same
            have kB := kA.trans (Same.keepT c3)
            have k35 := Same.keepT c3
            generalize (upd H5 p3 (.tup (xs.take j ++ [x4]))) = H6 at bl Al hpl kB k35
            have hal : H6 a = some (.tup xs) := kB _ _ ha2
            refine ⟨_, rfl, _, rfl, (j : Int), 1, rfl, rfl, (j : Int) + 1, rfl, a, xs, rfl, SqT.of hal, fun e1 => absurd e1.1 (by
              rw [show ((j : Int) + 1) = ((j + 1 : Nat) : Int) by omega, HT.sIx_nat]
              omega), fun _ p4 np4 => ?_⟩
            have k4 := same_upd (o := HO.tup (cutV xs (some ((j : Int) + 1)) none)) np4
            have ed : cutV xs (some ((j : Int) + 1)) none = xs.drop (j + 1) := by
              unfold cutV
              rw [show ((j : Int) + 1) = ((j + 1 : Nat) : Int) by omega, HT.sIx_nat, HT.sIx_none, show min (j + 1) xs.length = j + 1 by omega, List.take_of_length_le (by rw [List.length_drop]; omega)]
            rw [ed] at k4 ⊢
            refine ⟨p3, p4, (xs.take j ++ [x4]), xs.drop (j + 1), rfl, rfl, SqT.of (k4 _ _ hpl), SqT.of upd_same, by simp only [List.length_append, List.length_take, List.length_drop, List.length_singleton, List.length_nil]; omega, fun e1 => absurd e1 (by simp), fun _ e1 => ?_, fun _ _ p5 np5 => ?_⟩
            · refine done _ p3 (kB.trans (Same.keepT k4)) (bl.trans (Same.but k4)) (Al.same k4) (k35.trans (Same.keepT k4)) ?_
              have hq4 := k4 _ _ hpl
              rw [e1] at hq4 ⊢
              rw [List.append_nil]
              exact hq4
            · have k5 := same_upd (o := HO.tup ((xs.take j ++ [x4]) ++ xs.drop (j + 1))) np5
              exact done _ p5 (kB.trans (Same.keepT (k4.trans k5))) (bl.trans (Same.but (k4.trans k5))) (Al.same (k4.trans k5)) (k35.trans (Same.keepT (k4.trans k5))) upd_same
        · obtain ⟨Hx, rfl⟩ : ∃ Hx, Hx = H1 := ⟨_, rfl⟩
          have hax := ha1
          have hxx := hx1
          have bx := bb1
          have Ax := A1
          obtain ⟨m, hm⟩ : ∃ m, m = n + 1 := ⟨_, rfl⟩
          rw [← hm] at Ax
          refine ⟨_, rfl, .ref a, .ty "bool", .type "tuple", .type "bool", false, rfl, .ty _, .base (.tup hax), kit_ty (by decide +kernel), _, rfl, iteF ⟨_, rfl, rfl, _, rfl, iteF ?_⟩⟩
          refine ⟨_, rfl, .ref a, .ty "int", .type "tuple", .type "int", false, rfl, .ty _, .base (.tup hax), kit_ty (by decide +kernel), _, rfl, iteF ?_⟩
          refine ⟨_, rfl, .ref a, .ty "str", .type "tuple", .type "str", false, rfl, .ty _, .base (.tup hax), kit_ty (by decide +kernel), _, rfl, iteF ?_⟩
          refine ⟨_, rfl, by show 1 ≤ sizeLine; omega, fun t1 nt1 => ?_⟩
          have k1 := same_upd (o := HO.tup [V.ref a]) nt1
          refine ⟨_, rfl, by show 1 ≤ sizeLine; omega, fun t2 nt2 => ?_⟩
          have k2 := same_upd (o := HO.tup [V.int 0]) nt2
          have ha2 := k2 _ _ (k1 _ _ hax)
          refine ⟨a, t2, xs, [.int 0], rfl, rfl, SqT.of ha2, SqT.of upd_same, by rw [lenx]; show _ + 1 ≤ _; omega, fun e1 => absurd e1 xne, fun _ e1 => absurd e1 (by simp), fun _ _ t3 nt3 => ?_⟩
          have k3 := same_upd (o := HO.tup (xs ++ [.int 0])) nt3
          have nw : ¬ (HT.sIx xs.length 0 none = 0 ∧ HT.sIx xs.length xs.length (some (-1)) = xs.length) := fun e => by
            have e2 : HT.sIx xs.length xs.length (some (-1)) = xs.length - 1 := by
              show (if (-1 : Int) < 0 then ((-1 : Int) + (xs.length : Int)).toNat else min (-1 : Int).toNat xs.length) = _
              rw [if_pos (by decide)]
              omega
            have e3 := e.2
            rw [e2] at e3
            have := List.length_pos_iff.mpr xne
            omega
          refine ⟨_, rfl, _, rfl, -1, rfl, a, xs, rfl, SqT.of (k3 _ _ ha2), fun e1 => absurd e1 nw, fun _ t4 nt4 => ?_⟩
          have k4 := same_upd (o := HO.tup (cutV xs none (some (-1)))) nt4
          refine ⟨_, rfl, a, xs, rfl, SqT.of (k4 _ _ (k3 _ _ ha2)), fun t5 nt5 => ?_⟩
          have k5 := same_upd (o := HO.tup xs.reverse) nt5
          refine ⟨Nat.zero_le _, fun t6 nt6 => ⟨by show 5 ≤ sizeLine; omega, fun pL nL => ?_⟩⟩
          have k6 := same_upd (o := HO.tup []) nt6
          have s6 := ((((k1.trans k2).trans k3).trans k4).trans k5).trans k6
          have g1 := k6 _ _ (k5 _ _ (k4 _ _ (k3 _ _ (k2 _ _ (upd_same (H := Hx) (a := t1) (o := HO.tup [V.ref a]))))))
          have g3 := k6 _ _ (k5 _ _ (k4 _ _ (upd_same (H := upd (upd Hx t1 (.tup [V.ref a])) t2 (.tup [V.int 0])) (a := t3) (o := HO.tup (xs ++ [.int 0])))))
          have g4 := k6 _ _ (k5 _ _ (upd_same (H := upd (upd (upd Hx t1 (.tup [V.ref a])) t2 (.tup [V.int 0])) t3 (.tup (xs ++ [.int 0]))) (a := t4) (o := HO.tup (cutV xs none (some (-1))))))
          have g5 := k6 _ _ (upd_same (H := upd (upd (upd (upd Hx t1 (.tup [V.ref a])) t2 (.tup [V.int 0])) t3 (.tup (xs ++ [.int 0]))) t4 (.tup (cutV xs none (some (-1))))) (a := t5) (o := HO.tup xs.reverse))
          have g6 : (upd (upd (upd (upd (upd (upd Hx t1 (.tup [V.ref a])) t2 (.tup [V.int 0])) t3 (.tup (xs ++ [.int 0]))) t4 (.tup (cutV xs none (some (-1))))) t5 (.tup xs.reverse)) t6 (.tup [])) t6 = some (.tup []) := upd_same
          have gx := s6 _ _ hax
          generalize upd (upd (upd (upd (upd (upd Hx t1 (.tup [V.ref a])) t2 (.tup [V.int 0])) t3 (.tup (xs ++ [.int 0]))) t4 (.tup (cutV xs none (some (-1))))) t5 (.tup xs.reverse)) t6 (.tup []) = G at nL s6 g1 g3 g4 g5 g6 gx
          have AG := Ax.same s6
          have npL := ne_hand AG nL
          refine ⟨_, rfl, h, 5, m, rfl, AG.same (same_upd nL), by omega, by omega, by omega, fun H9 k9 b9 A9 k90 k91 => ?_⟩
          obtain ⟨v9, ev9, vm9⟩ := atI_in (xs := ([.ref t1, .ref t3, .ref t4, .ref t5, .ref t6] : List V)) k90 (by show k9 < 5; exact k91)
          obtain ⟨_, hhz⟩ := (AG.same (same_upd (o := HO.lst ([.ref t1, .ref t3, .ref t4, .ref t5, .ref t6] : List V)) nL)).is
          have kz : KeepT G H9 := (Same.keepT (same_upd nL)).trans (but_keep b9 hhz)
          refine ⟨pL, _, k9, v9, rfl, rfl, SqL.of (but_at b9 upd_same npL), ev9, fin H9 v9 _ ((bx.trans (Same.but s6)).trans ((Same.but (same_upd nL)).trans b9)) A9 (by omega) ?_⟩
          simp only [List.mem_cons, List.mem_nil_iff, or_false] at vm9
          have hz9 := (hxx.keep (Same.keepT s6)).keep kz
          rcases vm9 with e | e | e | e | e <;> subst e
          · refine nb_tup (kz _ _ g1) (.cons (.tup (kz _ _ gx) hz9) .nil) (fun y hy => by rw [List.mem_singleton.mp hy]; exact ok) (fun y hy => by rw [List.mem_singleton.mp hy]; exact dp) ?_
            rw [wrF_wt (by simp)]
            show (wr (.tuple ds)).length + 1 + 0 + 1 ≤ _
            omega
          · refine nb_tup (kz _ _ g3) (VdAll.snoc (.int 0) hz9) (fun y hy => ?_) (fun y hy => ?_) ?_
            · rcases List.mem_append.mp hy with z | z
              · exact okd y z
              · rw [List.mem_singleton.mp z]
                exact .int 0 (by decide)
            · rcases List.mem_append.mp hy with z | z
              · have := depthAll_mem z
                omega
              · rw [List.mem_singleton.mp z]
                exact Nat.zero_le _
            · rw [wrF_wt (by simp), wt_app]
              have e1 : Wt [PyData.int 0] = 2 := by decide +kernel
              rw [e1]
              omega
          · have cz : VdAll H9 (cutV xs none (some (-1))) ((ds.drop 0).take (HT.sIx xs.length xs.length (some (-1)) - 0)) := VdAll.take _ (VdAll.drop 0 hz9)
            refine nb_tup (kz _ _ g4) cz (fun y hy => okd y (List.mem_of_mem_drop (List.mem_of_mem_take hy))) (fun y hy => ?_) ?_
            · have := depthAll_mem (List.mem_of_mem_drop (List.mem_of_mem_take hy))
              omega
            · have e1 := wrF_le ((ds.drop 0).take (HT.sIx xs.length xs.length (some (-1)) - 0))
              have e2 := wt_cut (ds.drop 0) (HT.sIx xs.length xs.length (some (-1)) - 0)
              rw [List.drop_zero] at e1 e2 ⊢
              omega
          · refine nb_tup (kz _ _ g5) hz9.rev (fun y hy => okd y (List.mem_reverse.mp hy)) (fun y hy => ?_) ?_
            · have := depthAll_mem (List.mem_reverse.mp hy)
              omega
            · have e1 := wrF_le ds.reverse
              rw [wt_rev] at e1
              omega
          · exact nb_tup (kz _ _ g6) .nil (fun _ z => by cases z) (fun _ z => by cases z) (by show 1 + 1 ≤ _; omega)

theorem ok_near {f fP : Addr} {fd fdP : FuncData} (F : FnP K "_law_near" sNear f fd) (gN : mg "_law_near" = some (.ref f))
    (FP : FnP K "_law_pick" sPick fP fdP) (gP : mg "_law_pick" = some (.ref fP)) (GP : FnOk P w K mg base CX0 1 fP fdP ["hand", "many"] spPick)
    (mi : mg "isinstance" = none) (mt : mg "tuple" = none) (mb : mg "bool" = none) (mn : mg "int" = none) (ms : mg "str" = none) (ml : mg "len" = none) : ∀ D, FnOk P w K mg base CX0 (1 + D) f fd ["hand", "value"] (spN D)
  | 0 => fn_none
  | D + 1 => ok_nearS D F gN (ok_near F gN FP gP GP mi mt mb mn ms ml D) FP gP GP mi mt mb mn ms ml
end
end Vl

set_option maxHeartbeats 4000000
namespace Vl
open PySem PySem.Spec PyProof.Rows L2 TL Gk
abbrev sLaw : Stmt := top 27
theorem scLaw : FnScope ["script", "hand", "turn", "some", "one", "other", "spoilt", "told", "behind", "thing", "k"] ["script"] (defScope sLaw) := ⟨rfl, rfl, rfl, by decide +kernel, rfl, by decide +kernel, by decide +kernel⟩
def spLaw (K : PySem.W.Frag) : Sp := fun vs H Q _ => ∃ (a : Addr) (ns : List Int), vs = [.ref a] ∧ SqL K H a (ns.map V.int) ∧ ns.length ≤ 63 ∧ ∀ H', Q (.bl true) H'
/-- a value of the law's list -/
structure Fine (d : PyData) : Prop where
  ok : Ok d
  dp : d.depth ≤ 4
  wl : (wr d).length ≤ 1843
theorem joinL_len : ∀ ls : List (List Nat), (joinL [] ls).length = (ls.map List.length).sum
  | [] => rfl
  | [p] => by simp [joinL]
  | p :: q :: r => by
    have ih := joinL_len (q :: r)
    show (p ++ ([] ++ joinL [] (q :: r))).length = _
    rw [List.nil_append, List.length_append, ih]
    simp
theorem Fine.sm {d : PyData} (f : Fine d) : SmA d := sm_of f.ok (by have := f.wl; omega)
theorem Fine.sz {d : PyData} (f : Fine d) : sz d ≤ 4000 := by
  have h1 := sz_of f.ok
  have h2 := f.wl
  omega
section
variable {P : Program} {w : World} {K : PySem.W.Frag} {mg : Str → Option Value} {base : Heap}
theorem known_law {f fD fV fN fS fB fX fT fA fP : Addr} {fd fdD fdV fdN fdS fdB fdX fdT fdA fdP : FuncData} (F : FnP K "law" sLaw f fd)
    (FD : FnP K "_law_dealt" sDealt fD fdD) (gD : mg "_law_dealt" = some (.ref fD)) (GD : FnOk P w K mg base CX0 1 fD fdD ["script"] (spDealt K))
    (FV : FnP K "_law_any_value" sValue fV fdV) (gV : mg "_law_any_value" = some (.ref fV)) (GV : FnOk P w K mg base CX0 6 fV fdV ["hand", "deep"] (spValue 3))
    (FN : FnP K "_law_near" sNear fN fdN) (gN : mg "_law_near" = some (.ref fN)) (GN : FnOk P w K mg base CX0 5 fN fdN ["hand", "value"] (spNear 3))
    (FS : FnP K "shown" sShown fS fdS) (gS : mg "shown" = some (.ref fS)) (GS : FnOk P w K mg base CX0 8 fS fdS ["value"] spShown)
    (FB : FnP K "_law_beginnings_right" sRight fB fdB) (gB : mg "_law_beginnings_right" = some (.ref fB)) (GB : FnOk P w K mg base CX0 8 fB fdB ["written"] spRight)
    (FX : FnP K "_law_spoilt" sSpoilt fX fdX) (gX : mg "_law_spoilt" = some (.ref fX)) (GX : FnOk P w K mg base CX0 2 fX fdX ["hand", "written"] spSpoilt)
    (FT : FnP K "_law_told" sTold fT fdT) (gT : mg "_law_told" = some (.ref fT)) (GT : FnOk P w K mg base CX0 7 fT fdT ["written"] spTold)
    (FA : FnP K "_law_alphabet" sAlpha fA fdA) (gA : mg "_law_alphabet" = some (.ref fA)) (GA : FnOk P w K mg base CX0 1 fA fdA [] spAlpha)
    (FP : FnP K "_law_pick" sPick fP fdP) (gP : mg "_law_pick" = some (.ref fP)) (GP : FnOk P w K mg base CX0 1 fP fdP ["hand", "many"] spPick)
    (mr : mg "range" = none) (ml : mg "len" = none) (mp : mg "repr" = none) : Known P w K mg base 9 f fd ["script"] (spLaw K) := by
  have bD : Binds K fdD ["script"] [] := FD.bindsN fun _ _ _ _ _ _ us hl => match us, hl with | [_], _ => rfl
  have bV : Binds K fdV ["hand", "deep"] [] := FV.bindsN fun _ _ _ _ _ _ us hl => match us, hl with | [_, _], _ => rfl
  have bN : Binds K fdN ["hand", "value"] [] := FN.bindsN fun _ _ _ _ _ _ us hl => match us, hl with | [_, _], _ => rfl
  have bS : Binds K fdS ["value"] [] := FS.bindsN fun _ _ _ _ _ _ us hl => match us, hl with | [_], _ => rfl
  have bB : Binds K fdB ["written"] [] := FB.bindsN fun _ _ _ _ _ _ us hl => match us, hl with | [_], _ => rfl
  have bX : Binds K fdX ["hand", "written"] [] := FX.bindsN fun _ _ _ _ _ _ us hl => match us, hl with | [_, _], _ => rfl
  have bT : Binds K fdT ["written"] [] := FT.bindsN fun _ _ _ _ _ _ us hl => match us, hl with | [_], _ => rfl
  have bA : Binds K fdA [] [] := FA.bindsN fun _ _ _ _ _ _ us hl => match us, hl with | [], _ => rfl
  have bP : Binds K fdP ["hand", "many"] [] := FP.bindsN fun _ _ _ _ _ _ us hl => match us, hl with | [_, _], _ => rfl
  refine known_of F scLaw (fun vs H Q E h => ?_) (fun cdv A outer s H vs Q E hg hr h => ?_)
  · obtain ⟨a, ns, rfl, _⟩ := h
    rfl
  · obtain ⟨a, ns, rfl, hS, hlen, q⟩ := h
    have hs := szl
    have hr1 : Room 1 _ := hr.mono (by decide)
    have hrV : Room 6 _ := hr.mono (by decide)
    have hrN : Room 5 _ := hr.mono (by decide)
    have hrX : Room 2 _ := hr.mono (by decide)
    have hrT : Room 7 _ := hr.mono (by decide)
    have hrS : Room 8 _ := hr
    have hrB : Room 8 _ := hr
    have hrU := hr.units
    have hg1 : (A.deeper (envOfC "law" (defScope sLaw) s.heap.objs.size f cdv)).guards = some [] := hg
    have hu : (A.deeper (envOfC "law" (defScope sLaw) s.heap.objs.size f cdv)).units + 200 < cLine := by
      have := hr.un
      omega
    refine ⟨_, PSs.nox (pss_cons (ps_set (i := 1) scLaw.nd rfl (.inr rfl) (pe_call GD hr1 (by rfl) gD FD.kp bD .nil pass0 (pa_cons (pv 0) pa_nil)))
      (C8.pss_cut (ps_setLc (i := 3) (own := [("turn", 2)]) (g := gName 2) (tt := tYes) rfl scLaw.nd rfl rfl (sw_true rfl rfl rfl (by decide +kernel)) (pi_range1 (by rfl) mr (pa_cons (pe_int) pa_nil)) (blkOk_by (own := [("turn", 2)]) (N := ["script", "hand", "turn", "some", "one", "other", "spoilt", "told", "behind", "thing", "k"]) (sc := defScope sLaw) (by decide +kernel)) (fun _ _ _ _ _ => pg_name (i := 2) scLaw.nd rfl (Or.inl rfl)) (fun _ _ _ _ _ => pts_nil) (fun _ _ _ _ _ => pe_call GV hrV (by rfl) gV FV.kp bV .nil pass0 (pa_cons (pv 1) (pa_cons (pe_int) pa_nil))))
      (C8.pss_cut (ps_set (i := 3) scLaw.nd rfl (.inl rfl) (pe_op op_cat (pv 3) (pe_lc (own := [("thing", 9)]) (g := gName 9) (tt := tYes) rfl scLaw.nd (pi_list (pv 3)) (blkOk_by (own := [("thing", 9)]) (N := ["script", "hand", "turn", "some", "one", "other", "spoilt", "told", "behind", "thing", "k"]) (sc := defScope sLaw) (by decide +kernel)) (fun _ _ _ _ _ => pg_name (i := 9) scLaw.nd rfl (Or.inl rfl)) (fun _ _ _ _ _ => pts_nil) (fun _ _ _ _ _ => pe_call GN hrN (by rfl) gN FN.kp bN .nil pass0 (pa_cons (pv 1) (pa_cons (pv 9) pa_nil))))))
      (pss_cons (ps_for PassesOwn.never rfl (pi_list (pv 3)) (pg_name (i := 4) scLaw.nd rfl (.inl rfl)) (pss_cons (ps_for PassesOwn.never rfl (pi_list (pv 3)) (pg_name (i := 5) scLaw.nd rfl (.inl rfl)) (pss_one (ps_if (pt_cmpR op_ne (pe_cmpR op_eq (pe_call GS hrS (by rfl) gS FS.kp bS .nil pass0 (pa_cons (pv 4) pa_nil)) (pe_call GS hrS (by rfl) gS FS.kp bS .nil pass0 (pa_cons (pv 5) pa_nil)) (nomark _)) (pe_cmpR op_eq (pe_callB (call_reprV hg1 hu) (by rfl) mp boot_repr (pa_cons (pv 4) pa_nil)) (pe_callB (call_reprV hg1 hu) (by rfl) mp boot_repr (pa_cons (pv 5) pa_nil)) (nomark _)) (nomark _)) (pss_one (ps_ret pe_bl)) pss_nil)))
      (pss_cons (ps_if (pt_cmpR op_ne (pe_call GS hrS (by rfl) gS FS.kp bS .nil pass0 (pa_cons (pe_tup (pa_cons (pv 4) (pa_cons (pe_ix ix_list (pv 3) (pe_int) (fun _ _ => rfl)) pa_nil))) pa_nil)) (pe_op op_add_str (pe_op op_add_str (pe_op op_add_str (pe_op op_add_str (pe_str) (pe_call GS hrS (by rfl) gS FS.kp bS .nil pass0 (pa_cons (pv 4) pa_nil))) (pe_str)) (pe_call GS hrS (by rfl) gS FS.kp bS .nil pass0 (pa_cons (pe_ix ix_list (pv 3) (pe_int) (fun _ _ => rfl)) pa_nil))) (pe_str)) (nomark _)) (pss_one (ps_ret pe_bl)) pss_nil)
      (pss_cons (ps_if (pt_cmpR op_ne (pe_call GS hrS (by rfl) gS FS.kp bS .nil pass0 (pa_cons (pe_tup (pa_cons (pv 4) pa_nil)) pa_nil)) (pe_op op_add_str (pe_op op_add_str (pe_str) (pe_call GS hrS (by rfl) gS FS.kp bS .nil pass0 (pa_cons (pv 4) pa_nil))) (pe_str)) (nomark _)) (pss_one (ps_ret pe_bl)) pss_nil)
      (pss_cons (ps_if (pt_not (pt_val (pe_call GB hrB (by rfl) gB FB.kp bB .nil pass0 (pa_cons (pe_slice sl_str (pe_call GS hrS (by rfl) gS FS.kp bS .nil pass0 (pa_cons (pv 4) pa_nil)) po_none (po_some pe_int)) pa_nil)))) (pss_one (ps_ret pe_bl)) pss_nil)
      (pss_cons (ps_set (i := 6) scLaw.nd rfl (.inl rfl) (pe_call GX hrX (by rfl) gX FX.kp bX .nil pass0 (pa_cons (pv 1) (pa_cons (pe_call GS hrS (by rfl) gS FS.kp bS .nil pass0 (pa_cons (pv 4) pa_nil)) pa_nil))))
      (pss_cons (ps_set (i := 7) scLaw.nd rfl (.inl rfl) (pe_call GT hrT (by rfl) gT FT.kp bT .nil pass0 (pa_cons (pv 6) pa_nil)))
      (pss_cons (ps_if (PW.pt (pw_and (pt_cmpR op_eq (pe_ix ix_tup (pv 7) (pe_int) (fun _ _ => rfl)) (pe_str) (nomark _)) (pw_and1 (pt_cmpR op_ne (pe_call GS hrS (by rfl) gS FS.kp bS .nil pass0 (pa_cons (pe_ix ix_tup (pv 7) (pe_int) (fun _ _ => rfl)) pa_nil)) (pv 6) (nomark _))))) (pss_one (ps_ret pe_bl)) pss_nil)
      (pss_one (ps_if (PW.pt (pw_and (pt_cmpR op_eq (pe_ix ix_tup (pv 7) (pe_int) (fun _ _ => rfl)) (pe_str) (nomark _)) (pw_and1 (pt_cmpR op_lt (pe_ix ix_tup (pv 7) (pe_int) (fun _ _ => rfl)) (pe_callB call_len_str (by rfl) ml PySem.boot_len (pa_cons (pv 6) pa_nil)) (nomark _))))) (pss_one (ps_for PassesOwn.never rfl (pi_range1 (by rfl) mr (pa_cons (pe_int) pa_nil)) (pg_name (i := 2) scLaw.nd rfl (.inl rfl)) (pss_cons (ps_set (i := 8) scLaw.nd rfl (.inl rfl) (pe_join pe_str (pe_lc (own := [("k", 10)]) (g := gName 10) (tt := tYes) rfl scLaw.nd (pi_range1 (by rfl) mr (pa_cons (pe_call GP hr1 (by rfl) gP FP.kp bP .nil pass0 (pa_cons (pv 1) (pa_cons (pe_int) pa_nil))) pa_nil)) (blkOk_by (own := [("k", 10)]) (N := ["script", "hand", "turn", "some", "one", "other", "spoilt", "told", "behind", "thing", "k"]) (sc := defScope sLaw) (by decide +kernel)) (fun _ _ _ _ _ => pg_name (i := 10) scLaw.nd rfl (Or.inl rfl)) (fun _ _ _ _ _ => pts_nil) (fun _ _ _ _ _ => pe_ix ix_str (pe_call0 GA hr1 (by rfl) gA FA.kp bA .nil pass0) (pe_call GP hr1 (by rfl) gP FP.kp bP .nil pass0 (pa_cons (pv 1) (pa_cons (pe_int) pa_nil))) (fun _ _ => rfl)))))
      (pss_one (ps_if (pt_cmpR (op_neD hrU) (pe_call GT hrT (by rfl) gT FT.kp bT .nil pass0 (pa_cons (pe_op op_add_str (pe_slice sl_str (pv 6) po_none (po_some (pe_op op_add (pe_ix ix_tup (pv 7) (pe_int) (fun _ _ => rfl)) (pe_int)))) (pv 8)) pa_nil)) (pv 7) (nomark _)) (pss_one (ps_ret pe_bl)) pss_nil))))) pss_nil))))))))))
      (pss_one (ps_ret pe_bl)))))), ?_⟩
    refine ⟨_, rfl, a, ns, rfl, hS, hlen, fun H1 h s1 nh A1 => ?_⟩
    refine ⟨fun σ' H' => ∃ (L : Addr) (xs : List V) (ds : List PyData), σ' = [some (.ref a), some (.ref h), none, some (.ref L), none, none, none, none, none, none, none] ∧ H' L = some (.lst xs) ∧ VdAll H' xs ds ∧ (∀ d ∈ ds, Good 92 1799 3 d) ∧ ds.length = 6 ∧ L ≠ h ∧ HandAt H' h 27540, ?_, ?_⟩
    · refine ⟨6, rfl, by decide, by decide, fun L nL => ?_⟩
      have nLh := ne_hand A1 nL
      refine lc_range (lo := 0) (n := (6 : Int).toNat) (fun i H' => ∃ xs ds, H' L = some (.lst xs) ∧ VdAll H' xs ds ∧ (∀ d ∈ ds, Good 92 1799 3 d) ∧ ds.length = i ∧ But h H1 H' ∧ HandAt H' h (i * 4590)) ⟨[], [], upd_same, .nil, (fun _ z => by cases z), rfl, Same.but (same_upd nL), A1.same (same_upd nL)⟩ ?_ ?_
      · rintro i H3 hi ⟨xs, ds, hL3, hx3, hg3, hl3, b3, A3⟩
        have hi6 : i < 6 := hi
        obtain ⟨hxs, hhx⟩ := A3.is
        have p3 : pB 3 = 4590 := rfl
        refine ⟨rfl, _, rfl, h, i * 4590, rfl, A3, by omega, fun H4 x d b4 A4 vd gd => ?_⟩
        have hL4 := but_at b4 hL3 nLh
        have k4 : KeepT H3 H4 := but_keep b4 hhx
        have k5 : KeepT H4 (upd H4 L (.lst (xs ++ [x]))) := keep_lst hL4
        refine ⟨xs, hL4, by rw [hx3.len, hl3]; omega, xs ++ [x], ds ++ [d], upd_same, (VdAll.snoc vd (hx3.keep k4)).keep k5, ?_, by rw [List.length_append, hl3]; rfl, (b3.trans b4).put nLh nL, ?_⟩
        · intro u hu
          rcases List.mem_append.mp hu with z | z
          · exact hg3 u z
          · rw [List.mem_singleton.mp z]; exact gd
        · have e5 : (i + 1) * 4590 = i * 4590 + pB 3 := by omega
          rw [e5]
          exact A4.put (b3.trans b4) A1 nL nLh
      · rintro H3 ⟨xs, ds, hL3, hx3, hg3, hl3, b3, A3⟩
        exact ⟨L, xs, ds, rfl, hL3, hx3, hg3, hl3, nLh, A3⟩
    · rintro σ' H2 ⟨L, xs, ds, rfl, hL, hx, hgd, hl6, nLh, A2⟩
      refine ⟨fun σ' H' => ∃ (M : Addr) (zs : List V) (es : List PyData), σ' = [some (.ref a), some (.ref h), none, some (.ref M), none, none, none, none, none, none, none] ∧ H' M = some (.lst zs) ∧ VdAll H' zs es ∧ (∀ d ∈ es, Fine d) ∧ es.length = 12 ∧ M ≠ h ∧ HandAt H' h 27588, ?_, ?_⟩
      · refine ⟨_, rfl, _, rfl, L, rfl, ⟨_, SqL.of hL⟩, fun D nD => ?_⟩
        have nDh := ne_hand A2 nD
        have nLD : L ≠ D := ne_of_none hL nD
        obtain ⟨_, hh2⟩ := A2.is
        refine lc_list (K := K) (a := L) (xs := xs) (fun i H' => ∃ ys es, H' D = some (.lst ys) ∧ VdAll H' ys es ∧ (∀ d ∈ es, Fine d) ∧ es.length = i ∧ But h H2 H' ∧ HandAt H' h (27540 + 8 * i)) ⟨[], [], upd_same, .nil, (fun _ z => by cases z), rfl, Same.but (same_upd nD), A2.same (same_upd nD)⟩ (fun i H' _ ⟨_, _, _, _, _, _, b, _⟩ => SqL.of (but_at b hL nLh)) ?_ ?_
        · rintro i x H3 hxi ⟨ys, es, hD3, hy3, hf3, hl3, b3, A3⟩
          have hi6 : i < xs.length := (List.getElem?_eq_some_iff.mp hxi).1
          rw [hx.len, hl6] at hi6
          obtain ⟨d, hd, vd⟩ := (hx.keep (but_keep b3 hh2)).get i hxi
          have gd := hgd d (List.mem_of_getElem? hd)
          obtain ⟨_, hh3⟩ := A3.is
          refine ⟨rfl, _, rfl, _, rfl, h, x, d, 27540 + 8 * i, rfl, by decide, A3, vd, gd.ok, gd.dp, Nat.le_trans gd.w_ (by decide), by omega, fun H5 y b5 A5 nb => ?_⟩
          obtain ⟨d5, vd5, ok5, dp5, wl5⟩ := nb.ex
          have hD5 := but_at b5 hD3 nDh
          have k5 : KeepT H5 (upd H5 D (.lst (ys ++ [y]))) := keep_lst hD5
          have gw := gd.w_
          refine ⟨ys, hD5, by rw [hy3.len, hl3]; omega, ys ++ [y], es ++ [d5], upd_same, (VdAll.snoc vd5 (hy3.keep (but_keep b5 hh3))).keep k5, ?_, by rw [List.length_append, hl3]; rfl, (b3.trans b5).put nDh nD, ?_⟩
          · intro u hu
            rcases List.mem_append.mp hu with z | z
            · exact hf3 u z
            · rw [List.mem_singleton.mp z]
              exact ⟨ok5, dp5, by omega⟩
          · exact (A5.put (b3.trans b5) A2 nD nDh).mono (by omega)
        · rintro H3 ⟨ys, es, hD3, hy3, hf3, hl3, b3, A3⟩
          rw [hx.len, hl6] at hl3 A3
          refine ⟨L, D, xs, ys, rfl, rfl, but_at b3 hL nLh, hD3, by rw [hx.len, hy3.len, hl6, hl3]; omega, fun M nM => ?_⟩
          have sM := same_upd (o := HO.lst (xs ++ ys)) nM
          refine ⟨M, xs ++ ys, ds ++ es, rfl, upd_same, (VdAll.app (hx.keep (but_keep b3 hh2)) hy3).keep (Same.keepT sM), fun d hd => ?_, by rw [List.length_append, hl6, hl3], ne_hand A3 nM, A3.same sM⟩
          rcases List.mem_append.mp hd with z | z
          · have g := hgd d z
            exact ⟨g.ok, Nat.le_trans g.dp (by decide), Nat.le_trans g.w_ (by decide)⟩
          · exact hf3 d z
      · rintro σ' H3 ⟨M, zs, es, rfl, hM, hz, hf, hl12, nMh, A3⟩
        obtain ⟨_, hh3⟩ := A3.is
        have zl : zs.length = 12 := by rw [hz.len, hl12]
        obtain ⟨x0, ez0⟩ : ∃ x0, zs[0]? = some x0 := ⟨zs[0], List.getElem?_eq_getElem (by omega)⟩
        obtain ⟨d0, ed0, _⟩ := hz.get 0 ez0
        have f0 := hf d0 (List.mem_of_getElem? ed0)
        have at_ : ∀ {H'}, But h H3 H' → H' M = some (.lst zs) ∧ VdAll H' zs es := fun b => ⟨but_at b hM nMh, hz.keep (but_keep b hh3)⟩
        refine ⟨_, rfl, M, rfl, ⟨_, SqL.of hM⟩, for_list (K := K) (a := M) (xs := zs) (fun i σ H' => ∃ (y2 y4 y5 y6 y7 y8 : Option V), σ = [some (.ref a), some (.ref h), y2, some (.ref M), y4, y5, y6, y7, y8, none, none] ∧ But h H3 H' ∧ HandAt H' h (27588 + 30 * i))
          ⟨_, _, _, _, _, _, rfl, But.refl h H3, A3⟩ (fun i σ H' _ ⟨_, _, _, _, _, _, _, b, _⟩ => SqL.of (at_ b).1) ?_ ?_⟩
        · rintro i x σ H4 hxi ⟨y2, y4, y5, y6, y7, y8, rfl, b4, A4⟩
          have hi12 : i < 12 := by
            have := (List.getElem?_eq_some_iff.mp hxi).1
            omega
          obtain ⟨d, ed, _⟩ := hz.get i hxi
          have fd_ := hf d (List.mem_of_getElem? ed)
          have wd := fd_.wl
          have wd0 := f0.wl
          -- for other in some
          refine ⟨_, rfl, M, rfl, ⟨_, SqL.of (at_ b4).1⟩, for_list (K := K) (a := M) (xs := zs) (fun j σ H' => ∃ (y5 : Option V), σ = [some (.ref a), some (.ref h), y2, some (.ref M), some x, y5, y6, y7, y8, none, none] ∧ Same H4 H')
            ⟨_, rfl, fun _ _ e => e⟩ (fun j σ H' _ ⟨_, _, sm⟩ => SqL.of (sm _ _ (at_ b4).1)) ?_ ?_⟩
          · rintro j x' σ H5 hxj ⟨y5, rfl, sm⟩
            have bb := b4.trans (Same.but sm)
            obtain ⟨dx, edx, vdx⟩ := (at_ bb).2.get i hxi
            have edd : dx = d := Option.some.inj (edx.symm.trans ed)
            subst edd
            obtain ⟨d', ed', vd'⟩ := (at_ bb).2.get j hxj
            have fd' := hf d' (List.mem_of_getElem? ed')
            have wd' := fd'.wl
            have z1 := fd_.sz
            have z2 := fd'.sz
            have r1l := shown_len fd_.ok
            have r2l := shown_len fd'.ok
            refine ⟨_, rfl, x, dx, rfl, vdx, fd_.sm, by omega, by omega, fun H6 r1 s6 hr1 => ?_⟩
            refine ⟨_, rfl, x', d', rfl, vd'.keep (Same.keepT s6), fd'.sm, by omega, by omega, fun H7 r2 s7 hr2 => ?_⟩
            have s57 := s6.trans s7
            refine ⟨rfl, _, rfl, x, dx, rfl, vdx.keep (Same.keepT s57), showable_of fd_.sm fd_.ok, by have := fd_.dp; omega, by omega, ?_⟩
            refine ⟨_, rfl, x', d', rfl, vd'.keep (Same.keepT s57), showable_of fd'.sm fd'.ok, by have := fd'.dp; omega, by omega, ?_⟩
            refine ⟨rfl, rfl, _, rfl, ?_⟩
            have e1 : decide (V.str r1 = V.str r2) = decide (V.str dx.shown = V.str d'.shown) := decide_eq_decide.mpr (by
              constructor
              · intro e
                have e2 : r1 = r2 := V.str.inj e
                rw [(alike fd_.ok fd'.ok).mp (by rw [← hr1, ← hr2, e2])]
              · intro e
                have e2 := (alike fd_.ok fd'.ok).mpr (V.str.inj e)
                rw [str_ext (hr1.trans (e2.trans hr2.symm))])
            show if (!decide (V.bl (decide (V.str r1 = V.str r2)) = V.bl (decide (V.str dx.shown = V.str d'.shown)))) = true then _ else _
            rw [e1, show (!decide (V.bl (decide (V.str dx.shown = V.str d'.shown)) = V.bl (decide (V.str dx.shown = V.str d'.shown)))) = false by simp]
            exact iteF ⟨_, rfl, sm.trans s57⟩
          · rintro σ H5 ⟨y5', rfl, sm5⟩
            have bb := b4.trans (Same.but sm5)
            obtain ⟨hM5, hz5⟩ := at_ bb
            have A5 := A4.same sm5
            obtain ⟨dx, edx, vdx⟩ := hz5.get i hxi
            have edd : dx = d := Option.some.inj (edx.symm.trans ed)
            subst edd
            obtain ⟨dy, edy, vd0⟩ := hz5.get 0 ez0
            have edd : dy = d0 := Option.some.inj (edy.symm.trans ed0)
            subst edd
            have z1 := fd_.sz
            have z0 := f0.sz
            have t40 : tl (Str.ofString "(") = [40] := by decide +kernel
            have t32 : tl (Str.ofString " ") = [32] := by decide +kernel
            have t41 : tl (Str.ofString ")") = [41] := by decide +kernel
            have q40 : (Str.ofString "(").length = 1 := by decide +kernel
            have q32 : (Str.ofString " ").length = 1 := by decide +kernel
            have q41 : (Str.ofString ")").length = 1 := by decide +kernel
            have okP : Ok (.tuple [dx, dy]) := .tup fun u hu => by
              rcases List.mem_cons.mp hu with e | e
              · rw [e]; exact fd_.ok
              · rw [List.mem_singleton.mp e]; exact f0.ok
            have okS : Ok (.tuple [dx]) := .tup fun u hu => by rw [List.mem_singleton.mp hu]; exact fd_.ok
            have wP : wr (.tuple [dx, dy]) = [40] ++ (wr dx ++ ([32] ++ (wr dy ++ [41]))) := rfl
            have wS : wr (.tuple [dx]) = [40] ++ (wr dx ++ [41]) := rfl
            have lP : (wr (.tuple [dx, dy])).length ≤ 4000 := by
              rw [wP]
              simp only [List.length_append, List.length_singleton]
              omega
            have lS : (wr (.tuple [dx])).length ≤ 4000 := by
              rw [wS]
              simp only [List.length_append, List.length_singleton]
              omega
            have zP := sz_of okP
            have zS := sz_of okS
            have nq : ∀ {u v : Str}, u = v → (!decide (V.str u = V.str v)) = false := fun e => by rw [e]; simp
            -- two in a tuple
            refine ⟨_, rfl, _, rfl, M, _, 0, x0, rfl, rfl, SqL.of hM5, atI_nat (j := 0) ez0, by show 2 ≤ sizeLine; omega, fun p2 np2 => ?_⟩
            have c2 := same_upd (o := HO.tup [x, x0]) np2
            refine ⟨.ref p2, .tuple [dx, dy], rfl, .tup upd_same (.cons (vdx.keep (Same.keepT c2)) (.cons (vd0.keep (Same.keepT c2)) .nil)), sm_of okP (by omega), by omega, by omega, fun H6 r s6 hr => ?_⟩
            have k6 := c2.trans s6
            refine ⟨_, rfl, x, dx, rfl, vdx.keep (Same.keepT k6), fd_.sm, by omega, by omega, fun H7 r1 s7 hr1 => ?_⟩
            have rl1 : r1.length ≤ 1843 := by rw [len_tl, hr1]; exact wd
            refine ⟨_, _, rfl, rfl, by rw [q40]; omega, _, _, rfl, rfl, by rw [app_len, q40, q32]; omega, _, rfl, M, _, 0, x0, rfl, rfl, SqL.of (s7 _ _ (k6 _ _ hM5)), atI_nat (j := 0) ez0, ?_⟩
            have k7 := k6.trans s7
            refine ⟨x0, dy, rfl, vd0.keep (Same.keepT k7), f0.sm, by omega, by omega, fun H8 r2 s8 hr2 => ?_⟩
            have rl2 : r2.length ≤ 1843 := by rw [len_tl, hr2]; exact wd0
            refine ⟨_, _, rfl, rfl, by rw [app_len, app_len, q40, q32]; omega, _, _, rfl, rfl, by rw [app_len, app_len, app_len, q40, q32, q41]; omega, rfl, _, rfl, ?_⟩
            rw [nq (u := r) (v := Str.ofString "(" ++ r1 ++ Str.ofString " " ++ r2 ++ Str.ofString ")") (str_ext (by
              rw [hr, wP, tl_append, tl_append, tl_append, tl_append, t40, t32, t41, hr1, hr2]
              simp))]
            have k8 := k7.trans s8
            -- one in a tuple
            refine iteF ⟨_, rfl, by show 1 ≤ sizeLine; omega, fun p3 np3 => ?_⟩
            have c3 := same_upd (o := HO.tup [x]) np3
            refine ⟨.ref p3, .tuple [dx], rfl, .tup upd_same (.cons (vdx.keep (Same.keepT (k8.trans c3))) .nil), sm_of okS (by omega), by omega, by omega, fun H9 r3 s9 hr3 => ?_⟩
            have k9 := (k8.trans c3).trans s9
            refine ⟨_, rfl, x, dx, rfl, vdx.keep (Same.keepT k9), fd_.sm, by omega, by omega, fun H10 r4 s10 hr4 => ?_⟩
            have rl4 : r4.length ≤ 1843 := by rw [len_tl, hr4]; exact wd
            refine ⟨_, _, rfl, rfl, by rw [q40]; omega, _, _, rfl, rfl, by rw [app_len, q40, q41]; omega, rfl, _, rfl, ?_⟩
            rw [nq (u := r3) (v := Str.ofString "(" ++ r4 ++ Str.ofString ")") (str_ext (by
              rw [hr3, wS, tl_append, tl_append, t40, t41, hr4]
              simp))]
            have k10 := k9.trans s10
            -- all beginnings
            refine iteF ⟨_, rfl, x, dx, rfl, vdx.keep (Same.keepT k10), fd_.sm, by omega, by omega, fun H11 r5 s11 hr5 => ?_⟩
            have rl5 : r5.length ≤ 1843 := by rw [len_tl, hr5]; exact wd
            have et5 : tl (cutS r5 none (some 200)) = (wr dx).take 200 := by rw [← hr5]; exact tl_head r5 200
            have k11 := k10.trans s11
            refine ⟨200, rfl, r5, rfl, by omega, _, rfl, by rw [len_tl, et5, List.length_take]; omega, ?_, fun H12 s12 => ⟨_, rfl, iteF ?_⟩⟩
            · intro m hm
              rw [et5] at hm ⊢
              have hm2 := hm
              rw [List.length_take] at hm2
              rw [List.take_take, show min m 200 = m by omega]
              exact begins fd_.ok (by omega)
            have k12 := k11.trans s12
            -- spoilt
            refine ⟨_, rfl, _, rfl, x, dx, rfl, vdx.keep (Same.keepT k12), fd_.sm, by omega, by omega, fun H13 r6 s13 hr6 => ?_⟩
            have rl6 : r6.length ≤ 1843 := by rw [len_tl, hr6]; exact wd
            have k13 := k12.trans s13
            refine ⟨h, r6, _, rfl, A5.same k13, by omega, by omega, fun H14 z b14 A14 zl => ?_⟩
            have zl2 := len_tl z
            have b314 := (bb.trans (Same.but k13)).trans b14
            refine ⟨_, rfl, z, rfl, by omega, fun d9 g9 H15 p9 x9 s15 np9 hp9 vd9 => ?_, fun n9 g9 H15 p9 s15 np9 hp9 => ?_⟩
            · obtain ⟨ew, ok9⟩ := go_is g9
              have hwl : (wr d9).length ≤ 100000 := by rw [← ew]; omega
              have hsz := sz_of ok9
              refine ⟨_, rfl, p9, _, 0, .str "told", rfl, rfl, SqT.of hp9, atI_nat (j := 0) rfl, rfl, _, rfl, ?_⟩
              rw [show decide (V.str (Str.ofString "told") = V.str (Str.ofString "told")) = true from decide_eq_true rfl]
              refine iteT ⟨_, rfl, p9, _, 1, x9, rfl, rfl, SqT.of hp9, atI_nat (j := 1) rfl, x9, d9, rfl, vd9, sm_of ok9 (by omega), by omega, by omega, fun H16 r9 s16 hr9 => ?_⟩
              refine ⟨_, rfl, rfl, _, rfl, ?_⟩
              rw [nq (u := r9) (v := z) (str_ext (by rw [hr9, ew]))]
              refine iteF ⟨_, rfl, p9, _, 0, .str "told", rfl, rfl, SqT.of (s16 _ _ hp9), atI_nat (j := 0) rfl, rfl, _, rfl, ?_⟩
              rw [show decide (V.str (Str.ofString "told") = V.str (Str.ofString "refused")) = false by decide +kernel]
              exact iteF (iteF ⟨_, _, _, _, _, _, rfl, b314.trans (Same.but (s15.trans s16)), (A14.same (s15.trans s16)).mono (by omega)⟩)
            · refine ⟨_, rfl, p9, _, 0, .str "refused", rfl, rfl, SqT.of hp9, atI_nat (j := 0) rfl, rfl, _, rfl, ?_⟩
              rw [show decide (V.str (Str.ofString "refused") = V.str (Str.ofString "told")) = false by decide +kernel]
              refine iteF (iteF ⟨_, rfl, p9, _, 0, .str "refused", rfl, rfl, SqT.of hp9, atI_nat (j := 0) rfl, rfl, _, rfl, ?_⟩)
              rw [show decide (V.str (Str.ofString "refused") = V.str (Str.ofString "refused")) = true from decide_eq_true rfl]
              have np9h : p9 ≠ h := ne_hand A14 np9
              have A15 := A14.same s15
              have b315 := b314.trans (Same.but s15)
              refine iteT ⟨_, rfl, p9, _, 1, .int (n9 : Int), rfl, rfl, SqT.of hp9, atI_nat (j := 1) rfl, _, rfl, z, rfl, by omega, _, _, rfl, rfl, _, rfl, ite2 (fun e => ?_) (fun _ => ⟨_, _, _, _, _, _, rfl, b315, A15.mono (by omega)⟩)⟩
              have hn9 : n9 < (tl z).length := by
                have := of_decide_eq_true e
                omega
              refine ⟨3, rfl, by decide, by decide, for_range (lo := 0) (n := (3 : Int).toNat) (fun t σ H' => ∃ (y2 y8 : Option V), σ = [some (.ref a), some (.ref h), y2, some (.ref M), some x, y5', some (.str z), some (.ref p9), y8, none, none] ∧ But h H15 H' ∧ HandAt H' h (27588 + 30 * i + 3 + 9 * t))
                ⟨_, _, rfl, But.refl h H15, A15⟩ ?_ ?_⟩
              · rintro t σ H16 ht ⟨y2, y8, rfl, b16, A16⟩
                have ht3 : t < 3 := ht
                refine ⟨⟨_, rfl⟩, _, rfl, h, 9, _, rfl, A16, by omega, by decide, by decide, fun H17 k17 b17 A17 k170 k171 => ?_⟩
                obtain ⟨c, rfl⟩ := Int.eq_ofNat_of_zero_le k170
                refine ⟨_, rfl, by omega, by omega, fun D nD => ?_⟩
                have nDh := ne_hand A17 nD
                refine lc_range (lo := 0) (n := (c : Int).toNat) (fun j H' => ∃ bs : List Str, H' D = some (.lst (bs.map V.str)) ∧ bs.length = j ∧ (∀ y ∈ bs, y.length = 1) ∧ But h H17 H' ∧ HandAt H' h (27588 + 30 * i + 3 + 9 * t + 1 + j))
                  ⟨[], upd_same, rfl, (fun _ y => by cases y), Same.but (same_upd nD), A17.same (same_upd nD)⟩ ?_ ?_
                · rintro j H18 hj ⟨bs, hD, hl, h1, b18, A18⟩
                  have hj8 : j < 8 := by omega
                  refine ⟨rfl, rfl, fun al hal hals => ?_⟩
                  refine ⟨_, rfl, h, 94, _, rfl, A18, by omega, by decide, by decide, fun H19 k19 b19 A19 k190 k191 => ?_⟩
                  obtain ⟨e4, x4, mm4⟩ := atI_in (xs := al.cps.toList) k190 (by rw [Array.length_toList]; show k19 < (al.length : Int); omega)
                  refine ⟨al, k19, e4, rfl, rfl, by omega, x4, _, but_at b19 hD nDh, by rw [List.length_map]; omega, bs ++ [⟨#[e4]⟩], ?_, ?_, ?_, (b18.trans b19).put nDh nD, ?_⟩
                  · rw [upd_same, List.map_append]
                    rfl
                  · rw [List.length_append, hl]
                    rfl
                  · intro y hy
                    rcases List.mem_append.mp hy with w | w
                    · exact h1 y w
                    · rw [List.mem_singleton.mp w]
                      rfl
                  · exact (A19.put (b18.trans b19) A17 nD nDh).mono (by omega)
                · rintro H18 ⟨bs, hD, hl, h1, b18, A18⟩
                  have hb8 : bs.length ≤ 8 := by omega
                  have hsum : ∀ ys : List Str, (∀ y ∈ ys, y.length = 1) → (ys.map (·.length)).sum = ys.length := by
                    intro ys
                    induction ys with
                    | nil => intro _; rfl
                    | cons y r ih =>
                      intro hy
                      rw [List.map_cons, List.sum_cons, ih fun w hw => hy w (List.mem_cons_of_mem _ hw), hy y (List.mem_cons_self ..), List.length_cons]
                      omega
                  have e0 : (Str.ofString "").length = 0 := by decide +kernel
                  have t0 : tl (Str.ofString "") = [] := by decide +kernel
                  have jl : (Txt.join (Str.ofString "") bs).length ≤ 8 := by
                    rw [len_tl, join_eq, tl_join, t0, joinL_len]
                    have e5 : ((bs.map tl).map List.length) = bs.map (·.length) := by
                      rw [List.map_map]
                      exact List.map_congr_left fun y _ => (len_tl y).symm
                    rw [e5, hsum bs h1]
                    exact hb8
                  refine ⟨_, D, bs, rfl, rfl, .inl (SqL.of hD), by rw [hsum bs h1, e0]; omega, ?_⟩
                  generalize Txt.join (Str.ofString "") bs = bh at jl
                  have hp18 : H18 p9 = _ := but_at ((b16.trans b17).trans b18) hp9 np9h
                  have cl6 := cutS_length z none (some ((n9 : Int) + 1))
                  refine ⟨_, rfl, _, rfl, p9, _, 1, .int (n9 : Int), rfl, rfl, SqT.of hp18, atI_nat (j := 1) rfl, _, 1, rfl, rfl, (n9 : Int) + 1, rfl, z, rfl, by omega, _, rfl, _, _, rfl, rfl, by omega, ?_⟩
                  have et : tl (cutS z none (some ((n9 : Int) + 1)) ++ bh) = (tl z).take (n9 + 1) ++ tl bh := by
                    rw [tl_append, show ((n9 : Int) + 1) = ((n9 + 1 : Nat) : Int) by omega, tl_head]
                  have g10 := goE_local hn9 (tl bh) g9
                  rw [← et] at g10
                  refine ⟨_, rfl, by rw [app_len]; omega, fun d10 gg => absurd g10 (go_or gg), fun n10 gg H20 p10 s20 np10 hp10 => ?_⟩
                  have en : n10 = n9 := goE_once gg g10
                  subst en
                  refine ⟨_, rfl, .tuple [.str "refused", .int (n10 : Int)], .tuple [.str "refused", .int (n10 : Int)], .tup (SqT.of hp10) (.cons (.str _) (.cons (.int _) .nil)), .tup (SqT.of (s20 _ _ hp18)) (.cons (.str _) (.cons (.int _) .nil)), sh2 n10, sh2 n10, _, rfl, ?_⟩
                  have ee : PyData.eqv (.tuple [.str "refused", .int (n10 : Int)]) (.tuple [.str "refused", .int (n10 : Int)]) = true := by simp [PyData.eqv, PyData.eqvAll]
                  rw [ee]
                  exact iteF ⟨_, _, rfl, ((b16.trans b17).trans b18).trans (Same.but s20), (A18.same s20).mono (by omega)⟩
              · rintro σ H16 ⟨y2, y8, rfl, b16, A16⟩
                exact ⟨_, _, _, _, _, _, rfl, b315.trans b16, A16.mono (by omega)⟩
        · rintro σ H4 ⟨y2, y4, y5, y6, y7, y8, rfl, b4, A4⟩
          exact q H4
end
end Vl

set_option maxHeartbeats 0
namespace Vl
open PySem PySem.Spec PyProof.Rows L2 Gk
def mkD (x : Str) (i : Nat) : He.DefD := ⟨(x, none), x, x, defArgs (top i), defBody (top i), defScope (top i), [], []⟩
def dNoV : He.DefD := ⟨("NoValue", some "__init__"), "__init__", "NoValue.__init__", defArgs sInit, defBody sInit, defScope sInit, [], []⟩
def fn : List He.DefD := [mkD "shown" 6, mkD "_shown_flat" 7, mkD "read" 8, mkD "_close_tuples" 9, mkD "_read_flat" 10, mkD "_behind_number" 11, mkD "_read_text" 12, mkD "_behind_plain_signs" 13, mkD "_is_plain" 14, mkD "_law_dealt" 17, mkD "_law_pick" 18, mkD "_law_alphabet" 19, mkD "_law_long_number" 20, mkD "_law_any_text" 21, mkD "_law_any_value" 22, mkD "_law_spoilt" 23, mkD "_law_near" 24, mkD "_law_told" 25, mkD "_law_beginnings_right" 26, mkD "law" 27, dNoV, mkD "is_sign" 15]
def fa : List He.Fa := [.glo "shown", .glo "_shown_flat", .glo "read", .glo "_close_tuples", .glo "_read_flat", .glo "_behind_number", .glo "_read_text", .glo "_behind_plain_signs", .glo "_is_plain", .glo "_law_dealt", .glo "_law_pick", .glo "_law_alphabet", .glo "_law_long_number", .glo "_law_any_text", .glo "_law_any_value", .glo "_law_spoilt", .glo "_law_near", .glo "_law_told", .glo "_law_beginnings_right", .glo "law", .int "MOST_FIGURES" 40, .int "PERCENT" 37, .glo "SIGNS", .glo "NoValue", .noat "NoValue" "at", .meth "NoValue" "__init__", .free "len", .free "isinstance", .free "tuple", .free "reversed", .free "range", .free "str", .free "int", .free "bool", .free "ord", .free "list", .free "abs", .free "repr", .glo "is_sign"]
def ts : List He.Tab := [(fun K => He.ga K "SIGNS", ["-", "+", "!"])]
def kvs : List (Str × He.Dv) := [("-", .non), ("+", .bl true), ("!", .bl false)]
/-- the class of a refusal: what the rules ask of it -/
def oexB (K : PySem.W.Frag) (C : Addr) : Bool := match K.lookup C with
  | some ⟨.type t, _, .cls cd, sl⟩ => (match cd.mro, sl.toList with
    | .ref C' :: bm, [_, _, _, _, some (.builtin n), _] => decide (t = "type") && (decide (C' = C) && (decide (n = "ValueError.__new__") && (!cd.hasDel && (cd.hasDict && PySem.HandSPX.refsVE bm))))
    | _, _ => false)
  | _ => false
theorem oexB_ok {K : PySem.W.Frag} {C : Addr} (h : oexB K C = true) : ∃ nm q N bs bm sn sub ab col dd k0 k1 k2 k3 k5, K.lookup C = some (excClassObj nm q C N bs bm true sn sub ab col dd k0 k1 k2 k3 k5 "ValueError.__new__") ∧ PySem.HandSPX.refsVE bm = true := by
  unfold oexB at h
  split at h
  · rename_i t od cd sl e
    split at h
    · rename_i C' bm k0 k1 k2 k3 n k5 em es
      obtain ⟨h1, h⟩ := He.ba h
      obtain ⟨h2, h⟩ := He.ba h
      obtain ⟨h3, h⟩ := He.ba h
      obtain ⟨h4, h⟩ := He.ba h
      obtain ⟨h5, h6⟩ := He.ba h
      have e1 := of_decide_eq_true h1
      have e2 := of_decide_eq_true h2
      have e3 := of_decide_eq_true h3
      subst e1 e2 e3
      obtain ⟨nm, bs, mro, ns, qn, hd, sn, sub, ab, col, del⟩ := cd
      have e4 : del = false := by simpa using h4
      have e5 : hd = true := h5
      have e6 : mro = .ref C' :: bm := em
      subst e4 e5 e6
      have e7 : sl = #[k0, k1, k2, k3, some (.builtin "ValueError.__new__"), k5] := by
        rw [← es]
      subst e7
      exact ⟨_, _, _, _, bm, _, _, _, _, _, _, _, _, _, _, e, h6⟩
    · cases h
  · cases h
def ex (K : PySem.W.Frag) : Bool := He.valsB K (He.ga K "SIGNS") kvs && (oexB K (He.ga K "NoValue") && (decide (PySem.W.findIn K (.ref (He.ga K "NoValue")) "__setattr__" = some (some (.builtin "object.__setattr__"))) && (decide (PySem.W.subIn K (.ref (He.ga K "NoValue")) (.type "BaseException") = some true) &&
  (decide (PySem.W.typeIn K (.ref (He.ga K "NoValue")) = some (.type "type")) && (PySem.W.keepIn K (.ref (He.ga K "NoValue")) && (xfB K (He.ga K "NoValue") && decide (PySem.W.exmOne K (.ref (He.ga K "NoValue")) (.ref (He.ga K "NoValue")) = some true)))))))
abbrev R : PySem.W.OpenRow := PySem.W.OpenLaw.row PySem.Challenge.rw_eventledger_k03_whole_writings_begin_and
abbrev hk : PySem.W.Hook := He.hookX 5 fa fn ts [] ex
def ob (s : PySem.W.SharedT) : He.AlX := He.obsX 5 fa fn ts [] ex (HandSHeadRun.getT s)
theorem ob_eq (s : PySem.W.SharedT) : ob s = hk.obs s.abs := He.obsX_eq (HandSHeadRun.getT_eq s)
abbrev loose : List Str := ["NoValue", "MOST_FIGURES", "PERCENT", "SIGNS", "shown", "_shown_flat", "read", "_close_tuples", "_read_flat", "_behind_number", "_read_text", "_behind_plain_signs", "_is_plain", "is_sign", "_law_dealt", "_law_pick", "_law_alphabet", "_law_long_number", "_law_any_text", "_law_any_value", "_law_spoilt", "_law_near", "_law_told", "_law_beginnings_right"]
theorem run_no (w : World) : HandSHeadRun.RunEq R (PySem.W.view R.prog [27]) hk ob 3000 loose (w.withFollow "special-get-raises" false) := by
  intro os
  kernel_rfl
theorem run_yes (w : World) : HandSHeadRun.RunEq R (PySem.W.view R.prog [27]) hk ob 3000 loose (w.withFollow "special-get-raises" true) := by
  intro os
  kernel_rfl
theorem run (w : World) : HandSHeadRun.RunEq R (PySem.W.view R.prog [27]) hk ob 3000 loose w :=
  PySem.W.byRow2 "special-get-raises" (P := fun w => HandSHeadRun.RunEq R (PySem.W.view R.prog [27]) hk ob 3000 loose w) run_no run_yes w
theorem facts {P : Program} {w : World} {K : PySem.W.Frag} {h : Heap} {mg : Str → Option Value} {f : Addr} (X : K.In h) (G : h.Ns mainGlobals mg) (hfa : mg ("law" : Str) = some (.ref f)) (cx : He.SaysX fa fn ts [] ex w h K) :
    ∃ fd : FuncData, (∀ (s : Shared) (v : Value), BindsTo s fd ⟨[v], []⟩ [("script", v)]) ∧ ∀ base : Heap, K.In base → base.Ns mainGlobals mg → Known P w K mg base 9 f fd ["script"] (spLaw K) := by
  have c := cx.t.d
  obtain ⟨fd0, F0⟩ := c.def_ 0 (d := mkD "shown" 6) rfl
  obtain ⟨fd1, F1⟩ := c.def_ 1 (d := mkD "_shown_flat" 7) rfl
  obtain ⟨fd2, F2⟩ := c.def_ 2 (d := mkD "read" 8) rfl
  obtain ⟨fd3, F3⟩ := c.def_ 3 (d := mkD "_close_tuples" 9) rfl
  obtain ⟨fd4, F4⟩ := c.def_ 4 (d := mkD "_read_flat" 10) rfl
  obtain ⟨fd5, F5⟩ := c.def_ 5 (d := mkD "_behind_number" 11) rfl
  obtain ⟨fd6, F6⟩ := c.def_ 6 (d := mkD "_read_text" 12) rfl
  obtain ⟨fd7, F7⟩ := c.def_ 7 (d := mkD "_behind_plain_signs" 13) rfl
  obtain ⟨fd8, F8⟩ := c.def_ 8 (d := mkD "_is_plain" 14) rfl
  obtain ⟨fd9, F9⟩ := c.def_ 9 (d := mkD "_law_dealt" 17) rfl
  obtain ⟨fd10, F10⟩ := c.def_ 10 (d := mkD "_law_pick" 18) rfl
  obtain ⟨fd11, F11⟩ := c.def_ 11 (d := mkD "_law_alphabet" 19) rfl
  obtain ⟨fd12, F12⟩ := c.def_ 12 (d := mkD "_law_long_number" 20) rfl
  obtain ⟨fd13, F13⟩ := c.def_ 13 (d := mkD "_law_any_text" 21) rfl
  obtain ⟨fd14, F14⟩ := c.def_ 14 (d := mkD "_law_any_value" 22) rfl
  obtain ⟨fd15, F15⟩ := c.def_ 15 (d := mkD "_law_spoilt" 23) rfl
  obtain ⟨fd16, F16⟩ := c.def_ 16 (d := mkD "_law_near" 24) rfl
  obtain ⟨fd17, F17⟩ := c.def_ 17 (d := mkD "_law_told" 25) rfl
  obtain ⟨fd18, F18⟩ := c.def_ 18 (d := mkD "_law_beginnings_right" 26) rfl
  obtain ⟨fd19, F19⟩ := c.def_ 19 (d := mkD "law" 27) rfl
  obtain ⟨fdI, FI⟩ := c.def_ 20 (d := dNoV) rfl
  obtain ⟨fdS, FS⟩ := c.def_ 21 (d := mkD "is_sign" 15) rfl
  have gS := He.glo_ok X G (c.fact 38 (f := .glo "is_sign") rfl)
  have e := hfa.symm.trans (He.glo_ok X G (c.fact 19 (f := .glo "law") rfl))
  cases e
  have b := FunD.bindsA (ps := ["script"]) F19 fun _ _ _ _ _ _ us hl => match us, hl with | [_], _ => rfl
  have g0 := He.glo_ok X G (c.fact 0 (f := .glo "shown") rfl)
  have g1 := He.glo_ok X G (c.fact 1 (f := .glo "_shown_flat") rfl)
  have g2 := He.glo_ok X G (c.fact 2 (f := .glo "read") rfl)
  have g3 := He.glo_ok X G (c.fact 3 (f := .glo "_close_tuples") rfl)
  have g4 := He.glo_ok X G (c.fact 4 (f := .glo "_read_flat") rfl)
  have g5 := He.glo_ok X G (c.fact 5 (f := .glo "_behind_number") rfl)
  have g6 := He.glo_ok X G (c.fact 6 (f := .glo "_read_text") rfl)
  have g7 := He.glo_ok X G (c.fact 7 (f := .glo "_behind_plain_signs") rfl)
  have g8 := He.glo_ok X G (c.fact 8 (f := .glo "_is_plain") rfl)
  have g9 := He.glo_ok X G (c.fact 9 (f := .glo "_law_dealt") rfl)
  have g10 := He.glo_ok X G (c.fact 10 (f := .glo "_law_pick") rfl)
  have g11 := He.glo_ok X G (c.fact 11 (f := .glo "_law_alphabet") rfl)
  have g12 := He.glo_ok X G (c.fact 12 (f := .glo "_law_long_number") rfl)
  have g13 := He.glo_ok X G (c.fact 13 (f := .glo "_law_any_text") rfl)
  have g14 := He.glo_ok X G (c.fact 14 (f := .glo "_law_any_value") rfl)
  have g15 := He.glo_ok X G (c.fact 15 (f := .glo "_law_spoilt") rfl)
  have g16 := He.glo_ok X G (c.fact 16 (f := .glo "_law_near") rfl)
  have g17 := He.glo_ok X G (c.fact 17 (f := .glo "_law_told") rfl)
  have g18 := He.glo_ok X G (c.fact 18 (f := .glo "_law_beginnings_right") rfl)
  have mMost := He.int_ok X G (c.fact 20 (f := .int "MOST_FIGURES" 40) rfl)
  have mPerc := He.int_ok X G (c.fact 21 (f := .int "PERCENT" 37) rfl)
  have mSign := He.glo_ok X G (c.fact 22 (f := .glo "SIGNS") rfl)
  have mlen := He.free_ok X G (c.fact 26 (f := .free "len") rfl)
  have misi := He.free_ok X G (c.fact 27 (f := .free "isinstance") rfl)
  have mtup := He.free_ok X G (c.fact 28 (f := .free "tuple") rfl)
  have mrev := He.free_ok X G (c.fact 29 (f := .free "reversed") rfl)
  have mran := He.free_ok X G (c.fact 30 (f := .free "range") rfl)
  have mstr := He.free_ok X G (c.fact 31 (f := .free "str") rfl)
  have mint := He.free_ok X G (c.fact 32 (f := .free "int") rfl)
  have mboo := He.free_ok X G (c.fact 33 (f := .free "bool") rfl)
  have mord := He.free_ok X G (c.fact 34 (f := .free "ord") rfl)
  have mlis := He.free_ok X G (c.fact 35 (f := .free "list") rfl)
  have mabs := He.free_ok X G (c.fact 36 (f := .free "abs") rfl)
  have mrep := He.free_ok X G (c.fact 37 (f := .free "repr") rfl)
  obtain ⟨es, n, kd⟩ := cx.t.tab 0 (t := (fun K => He.ga K "SIGNS", ["-", "+", "!"])) rfl
  obtain ⟨vb, y1⟩ := He.ba cx.more
  obtain ⟨yo, y1⟩ := He.ba y1
  obtain ⟨ys, y1⟩ := He.ba y1
  obtain ⟨yb, y1⟩ := He.ba y1
  obtain ⟨yt, y1⟩ := He.ba y1
  obtain ⟨yk, y1⟩ := He.ba y1
  obtain ⟨yx, ym⟩ := He.ba y1
  have sg : SignsE K w mg := ⟨⟨_, es, n, kd, mSign, He.valsB_ok vb (q := ("-", .non)) (List.mem_cons_self ..), He.valsB_ok vb (q := ("+", .bl true)) (List.mem_cons_of_mem _ (List.mem_cons_self ..)), He.valsB_ok vb (q := ("!", .bl false)) (List.mem_cons_of_mem _ (List.mem_cons_of_mem _ (List.mem_cons_self ..))),
    fun z h1 h2 h3 => tab_out cx.t (i := 0) (t := (fun K => He.ga K "SIGNS", ["-", "+", "!"])) rfl (by simp [h1, h2, h3])⟩⟩
  have mI := He.meth_ok (c.fact 25 (f := .meth "NoValue" "__init__") rfl)
  have T : NoV K mg (He.ga K "NoValue") (He.ma K (He.ga K "NoValue") "__init__") fdI := ⟨⟨oexB_ok yo, of_decide_eq_true ys, of_decide_eq_true yb, of_decide_eq_true yt, yk⟩, He.glo_ok X G (c.fact 23 (f := .glo "NoValue") rfl), He.noat_ok (c.fact 24 (f := .noat "NoValue" "at") rfl), mI.at_, beq_iff_eq.mp mI.fn, FI⟩
  have XC : XfC K (He.ga K "NoValue") := xfB_ok yx
  have te := of_decide_eq_true ym
  refine ⟨fd19, fun s v => b s [v] rfl, fun base _ _ => ?_⟩
  have G1 : FnOk P w K mg base CX0 1 _ fd1 ["value"] spFlat := ok_flat F1 mstr misi
  have G0 : FnOk P w K mg base CX0 2 _ fd0 ["value"] spShown := ok_shown F0 F1 g1 G1 misi mtup mrev mran mlen
  have GS : FnOk P w K mg base CX0 1 _ fdS ["sign"] spSign := ok_sign FS mord mPerc
  have G8 : FnOk P w K mg base CX0 2 _ fd8 ["sign"] spPlain := ok_plain F8 FS gS GS
  have G7 : FnOk P w K mg base CX0 3 _ fd7 ["text", "at"] spBehind := ok_behind F7 F8 g8 G8
  have G6 := ok_textE (P := P) (w := w) (base := base) (k := 0) T F6 F7 g7 G7
  have G5 : FnOk P w K mg base CX0 1 _ fd5 ["text", "at"] spNumber := ok_number F5 mMost
  have G4 := ok_readflatE (P := P) (w := w) (base := base) T F4 F6 g6 G6 F5 g5 (G5.mono (by decide)) sg mint
  have G3 : FnOk P w K mg base CX0 1 _ fd3 ["text", "at", "lists"] spCloseE := ok_closeE F3 mlen mtup
  have G2 := ok_readE (P := P) (w := w) (base := base) T F2 F3 g3 (G3.mono (by decide)) F4 g4 G4 mlen
  have G9 : FnOk P w K mg base CX0 1 _ fd9 ["script"] (spDealt K) := ok_dealt F9 mlis
  have G10 : FnOk P w K mg base CX0 1 _ fd10 ["hand", "many"] spPick := ok_pick F10 mlen mabs
  have G11 : FnOk P w K mg base CX0 1 _ fd11 [] spAlpha := ok_alpha F11
  have G12 : FnOk P w K mg base CX0 2 _ fd12 ["hand"] spLong := ok_long F12 F10 g10 G10 mran
  have G13 : FnOk P w K mg base CX0 2 _ fd13 ["hand", "most"] spAText := ok_atext F13 F11 g11 G11 F10 g10 G10 mran
  have G14 := ok_value (P := P) (w := w) (base := base) F14 g14 F10 g10 G10 F12 g12 G12 F13 g13 G13 mint mtup mran
  have G15 : FnOk P w K mg base CX0 2 _ fd15 ["hand", "written"] spSpoilt := ok_spoilt F15 F11 g11 G11 F10 g10 G10 mlen
  have G16 := ok_near (P := P) (w := w) (base := base) F16 g16 F10 g10 G10 misi mtup mboo mint mstr mlen
  have G17 := ok_told (P := P) (w := w) (base := base) T XC te F17 F2 g2 G2
  have G18 := ok_right (P := P) (w := w) (base := base) F18 F17 g17 G17 F0 g0 (G0.mono (by decide)) mran mlen
  exact known_law F19 F9 g9 G9 F14 g14 (G14 4) F16 g16 (G16 4) F0 g0 (G0.mono (by decide)) F18 g18 G18 F15 g15 G15 F17 g17 G17 F11 g11 G11 F10 g10 G10 mran mlen mrep
end Vl
open PySem PySem.W PySem.Calls PyProof.Rows
theorem PySem.Challenge.cw_eventledger_k03_whole_writings_begin_and_holds : PySem.Challenge.rw_eventledger_k03_whole_writings_begin_and.Holds := by
  w_on; o_law
  refine HandSHeadRun.head_any (r := OpenLaw.row PySem.Challenge.rw_eventledger_k03_whole_writings_begin_and) (q := view (OpenLaw.row PySem.Challenge.rw_eventledger_k03_whole_writings_begin_and).prog [27]) (H := Vl.hk) (ob := Vl.ob) (M := 3000) (loose := Vl.loose) (d := HandSHeadRun.topDef (OpenLaw.row PySem.Challenge.rw_eventledger_k03_whole_writings_begin_and).prog 27) (kwd := []) Vl.ob_eq
    (by kernel_rfl) (fun s => by kernel_rfl) Vl.run (by kernel_rfl) (by kernel_rfl) (by kernel_rfl) (by rfl) (by first | assumption | decide +kernel) (by decide +kernel) ⟨rfl, rfl, rfl, rfl, rfl, by decide +kernel⟩ ?hw ?hc
  case hw => w_witness2
  case hc =>
    refine Gk.walk_known (l := PySem.Challenge.rw_eventledger_k03_whole_writings_begin_and) (n := 63) (k := 9) (x := "script") rfl (by decide) (by kernel_rfl) ⟨rfl, by decide, by decide⟩ ?F
    intro w mg fa h Y G hmg0
    obtain ⟨K, KX, c⟩ := Y
    have hmg : mg ("law" : PySem.Str) = some (.ref fa) := by
      have e : (HandSHeadRun.topDef (OpenLaw.row PySem.Challenge.rw_eventledger_k03_whole_writings_begin_and).prog 27).name = ("law" : PySem.Str) := by kernel_rfl
      rw [← e]
      exact hmg0
    obtain ⟨fd, hb, hF⟩ := Vl.facts (P := (PySem.Challenge.rw_eventledger_k03_whole_writings_begin_and).prog) (w := w) KX G hmg c
    exact ⟨K, fd, Vl.spLaw K, KX, hb, fun H a ns hl _ hS => ⟨a, ns, rfl, hS, hl, fun _ => rfl⟩, hF⟩
