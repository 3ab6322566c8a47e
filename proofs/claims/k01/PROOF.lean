import PyProof.Rows.All
import Wide.All
import OpenK.AllK
import Wide.FinOn
import HandS.ForMost
import KE.IntTextLaws
import PyProof.Rows.StrDigitsNeg
import HandS.More
import HandS.Replace
import HandS.ReplaceLit
import HandS.Codes
import HandS.IsInst
import HandS.RevRange
import HandS.Conv
import HandS.Defaults
import HandS.Style
import PyProof.IsRules
import HandS.ReplaceList
import KE.KEqSeq
import HandS.Text
import PyProof.ReprRoads
import HandS.Base
import HandS.Call
import HandS.Head0
import HandS.Ends
import HandS.HeadEnd
import HandS.HeadHook3
import KE.KStateDown
import HandS.Words
import HandS.WordsExc
import HandS.Head1
import HandS.Head2
import HandS.HeadHook1
import HandS.HeadHook2
import HandS.HeadHook4
import Lean
import PySem.Challenge.RW_eventledger_k01_values_written
set_option Elab.async false
set_option linter.all false
set_option maxRecDepth 100000
namespace Vl
open PySem PySem.Spec PyProof.Rows L2 TL
/-! ### values in a heap -/
mutual
inductive Vd (H : Hp) : V → PyData → Prop
  | non : Vd H .non .none
  | bl (b : Bool) : Vd H (.bl b) (.bool b)
  | int (i : Int) : Vd H (.int i) (.int i)
  | str (x : Str) : Vd H (.str x) (.str x)
  | tup {a : Addr} {xs : List V} {ds : List PyData} : H a = some (.tup xs) → VdAll H xs ds → Vd H (.ref a) (.tuple ds)
inductive VdAll (H : Hp) : List V → List PyData → Prop
  | nil : VdAll H [] []
  | cons {v : V} {vs : List V} {d : PyData} {ds : List PyData} : Vd H v d → VdAll H vs ds → VdAll H (v :: vs) (d :: ds)
end
def KeepT (H H' : Hp) : Prop := ∀ b xs, H b = some (.tup xs) → H' b = some (.tup xs)
theorem KeepT.refl (H : Hp) : KeepT H H := fun _ _ e => e
theorem KeepT.trans {H H1 H2 : Hp} (a : KeepT H H1) (b : KeepT H1 H2) : KeepT H H2 := fun c x e => b c x (a c x e)
theorem Same.keepT {H H' : Hp} (s : Same H H') : KeepT H H' := fun b xs e => s b _ e
mutual
theorem Vd.keep {H H' : Hp} (k : KeepT H H') : ∀ {v : V} {d : PyData}, Vd H v d → Vd H' v d
  | _, _, .non => .non
  | _, _, .bl b => .bl b
  | _, _, .int i => .int i
  | _, _, .str x => .str x
  | _, _, .tup h r => .tup (k _ _ h) (VdAll.keep k r)
theorem VdAll.keep {H H' : Hp} (k : KeepT H H') : ∀ {vs : List V} {ds : List PyData}, VdAll H vs ds → VdAll H' vs ds
  | _, _, .nil => .nil
  | _, _, .cons h r => .cons (Vd.keep k h) (VdAll.keep k r)
end
theorem VdAll.len {H : Hp} : ∀ {vs : List V} {ds : List PyData}, VdAll H vs ds → vs.length = ds.length
  | _, _, .nil => rfl
  | _, _, .cons _ r => congrArg Nat.succ r.len
theorem VdAll.snoc {H : Hp} {v : V} {d : PyData} (h : Vd H v d) : ∀ {vs : List V} {ds : List PyData}, VdAll H vs ds → VdAll H (vs ++ [v]) (ds ++ [d])
  | _, _, .nil => .cons h .nil
  | _, _, .cons a r => .cons a (VdAll.snoc h r)
theorem VdAll.get {H : Hp} : ∀ {vs : List V} {ds : List PyData} (i : Nat) {v : V}, VdAll H vs ds → vs[i]? = some v → ∃ d, ds[i]? = some d ∧ Vd H v d
  | _, _, _, _, .nil, e => by simp at e
  | _, _, 0, _, .cons a r, e => ⟨_, rfl, by cases e; exact a⟩
  | _, _, i + 1, _, .cons a r, e => r.get i e
/-! ### the writing -/
abbrev num (n : Int) : Str := Str.ofString (toString n)
def sgn (i : Int) : List Nat := tl (num i)
def dbl : List Nat → List Nat
  | [] => []
  | c :: r => if c = 34 then 34 :: 34 :: dbl r else c :: dbl r
mutual
def wr : PyData → List Nat
  | .none => [45]
  | .bool b => [if b then 43 else 33]
  | .int i => sgn i
  | .str z => 34 :: (dbl (tl z) ++ [34])
  | .tuple ds => 40 :: wrF ds
  | .list _ => []
  | .dict _ => []
def wrF : List PyData → List Nat
  | [] => [41]
  | d :: r => wr d ++ wrT r
def wrT : List PyData → List Nat
  | [] => [41]
  | d :: r => 32 :: (wr d ++ wrT r)
end
mutual
def sz : PyData → Nat
  | .tuple ds => 2 + szAll ds
  | .none => 1
  | .bool _ => 1
  | .int _ => 1
  | .str _ => 1
  | .list _ => 1
  | .dict _ => 1
def szAll : List PyData → Nat
  | [] => 0
  | d :: r => sz d + 1 + szAll r
end
/-- values that are written -/
inductive Ok : PyData → Prop
  | non : Ok .none
  | bl (b : Bool) : Ok (.bool b)
  | int (i : Int) (h : i.natAbs < 10 ^ 40) : Ok (.int i)
  | str (z : Str) (h : ∀ c ∈ tl z, 32 ≤ c ∧ c ≤ 126 ∧ c ≠ 37) : Ok (.str z)
  | tup {ds : List PyData} (h : ∀ d ∈ ds, Ok d) : Ok (.tuple ds)
/-! ### reading, sign by sign -/
def cnt : Nat → List Nat → Nat
  | 0, _ => 0
  | _ + 1, [] => 0
  | m + 1, c :: r => if 48 ≤ c ∧ c ≤ 57 then 1 + cnt m r else 0
def figs : List Nat → Nat
  | [] => 0
  | c :: r => if 49 ≤ c ∧ c ≤ 57 then 1 + cnt 39 r else 0
def numLen : List Nat → Nat
  | [] => 0
  | c :: r => if c = 48 then 1 else if c = 45 then (if figs r = 0 then 0 else 1 + figs r) else figs (c :: r)
def plain (c : Nat) : Prop := 32 ≤ c ∧ c ≤ 126 ∧ c ≠ 34 ∧ c ≠ 37
instance (c : Nat) : Decidable (plain c) := inferInstanceAs (Decidable (_ ∧ _))
inductive TR where
  | ok (v : List Nat) (n : Nat)
  | err (n : Nat)
def TR.up (p : List Nat) (k : Nat) : TR → TR
  | .ok v n => .ok (p ++ v) (n + k)
  | .err n => .err (n + k)
def txtM : List Nat → TR
  | [] => .err 0
  | [c] => if c = 34 then .ok [] 1 else if plain c then .err 1 else .err 0
  | c :: e :: r => if c = 34 then (if e = 34 then (txtM r).up [34] 2 else .ok [] 1) else if plain c then (txtM (e :: r)).up [c] 1 else .err 0
inductive Flat : List Nat → PyData → Nat → Prop
  | txt {r v : List Nat} {n : Nat} : txtM r = .ok v n → Flat (34 :: r) (.str ⟨v.toArray⟩) (n + 1)
  | num {l : List Nat} {n : Nat} {i : Int} : l.head? ≠ some 34 → numLen l = n → 0 < n → n ≤ 41 → intText? ⟨(l.take n).toArray⟩ = some i → Flat l (.int i) n
  | minus {r : List Nat} : numLen (45 :: r) = 0 → Flat (45 :: r) .none 1
  | plus {r : List Nat} : Flat (43 :: r) (.bool true) 1
  | bang {r : List Nat} : Flat (33 :: r) (.bool false) 1
mutual
inductive Go (L : List Nat) : Nat → List (List PyData) → PyData → Prop
  | more {at_ : Nat} {st : List (List PyData)} {d : PyData} : L[at_]? = some 40 → L[at_ + 1]? ≠ some 41 → Go L (at_ + 1) ([] :: st) d → Go L at_ st d
  | empty {at_ : Nat} {st : List (List PyData)} {d : PyData} : L[at_]? = some 40 → L[at_ + 1]? = some 41 → Cl L (at_ + 1) ([] :: st) d → Go L at_ st d
  | flat {at_ n : Nat} {top : List PyData} {st : List (List PyData)} {v d : PyData} : L[at_]? ≠ some 40 → Flat (L.drop at_) v n → Cl L (at_ + n) ((top ++ [v]) :: st) d → Go L at_ (top :: st) d
inductive Cl (L : List Nat) : Nat → List (List PyData) → PyData → Prop
  | close {at_ : Nat} {top nx : List PyData} {st : List (List PyData)} {d : PyData} : L[at_]? = some 41 → Cl L (at_ + 1) ((nx ++ [.tuple top]) :: st) d → Cl L at_ (top :: nx :: st) d
  | done {at_ : Nat} {d : PyData} : at_ = L.length → Cl L at_ [[d]] d
  | sep {at_ : Nat} {top nx : List PyData} {st : List (List PyData)} {d : PyData} : L[at_]? = some 32 → Go L (at_ + 1) (top :: nx :: st) d → Cl L at_ (top :: nx :: st) d
end
/-! ### what is written is read -/
def Aft (l : List Nat) : Prop := l.head? = none ∨ l.head? = some 32 ∨ l.head? = some 41
theorem drop_at {L r : List Nat} {k c : Nat} (h : L.drop k = c :: r) : L[k]? = some c := by
  have e := List.getElem?_drop (xs := L) (i := k) (j := 0)
  rw [h] at e
  exact e.symm
theorem drop_next {L p r : List Nat} {k : Nat} (h : L.drop k = p ++ r) : L.drop (k + p.length) = r := by
  rw [← List.drop_drop, h, List.drop_left]
theorem cnt_digits : ∀ (ds rest : List Nat) (m : Nat), (∀ c ∈ ds, 48 ≤ c ∧ c ≤ 57) → ds.length ≤ m → (∀ c, rest.head? = some c → ¬ (48 ≤ c ∧ c ≤ 57)) → cnt m (ds ++ rest) = ds.length
  | [], rest, m, _, _, hr => by
    cases m with
    | zero => rfl
    | succ m =>
      cases rest with
      | nil => rfl
      | cons c r =>
        show (if 48 ≤ c ∧ c ≤ 57 then 1 + cnt m r else 0) = 0
        rw [if_neg (hr c rfl)]
  | c :: ds, rest, 0, _, hl, _ => by simp at hl
  | c :: ds, rest, m + 1, hd, hl, hr => by
    show (if 48 ≤ c ∧ c ≤ 57 then 1 + cnt m (ds ++ rest) else 0) = ds.length + 1
    rw [if_pos (hd c (List.mem_cons_self ..)), cnt_digits ds rest m (fun x hx => hd x (List.mem_cons_of_mem _ hx)) (by simpa using hl) hr]
    omega
theorem Aft.noDigit {l : List Nat} (h : Aft l) : ∀ c, l.head? = some c → ¬ (48 ≤ c ∧ c ≤ 57) := fun c e => by
  rcases h with h | h | h
  · rw [h] at e; cases e
  · rw [h] at e; cases e; omega
  · rw [h] at e; cases e; omega
theorem numL_head : ∀ n : Nat, 0 < n → ∃ c r, numL n = c :: r ∧ 49 ≤ c ∧ c ≤ 57 := by
  intro n
  induction n using Nat.strongRecOn with
  | _ n ih =>
    intro h0
    by_cases h : n < 10
    · exact ⟨48 + n, [], numL_lt h, by omega, by omega⟩
    · obtain ⟨c, r, e, h1, h2⟩ := ih (n / 10) (by omega) (by omega)
      exact ⟨c, r ++ [48 + n % 10], by rw [numL_step (by omega), e]; rfl, h1, h2⟩
theorem figs_num {n : Nat} {rest : List Nat} (h0 : 0 < n) (h : n < 10 ^ 40) (ha : Aft rest) : figs (numL n ++ rest) = (numL n).length := by
  obtain ⟨c, r, e, h1, h2⟩ := numL_head n h0
  have hl := numL_len (n := n) (k := 40) (by decide) h
  have hd := numL_digits n
  rw [e] at hl hd ⊢
  show (if 49 ≤ c ∧ c ≤ 57 then 1 + cnt 39 (r ++ rest) else 0) = r.length + 1
  rw [if_pos ⟨h1, h2⟩, cnt_digits r rest 39 (fun x hx => hd x (List.mem_cons_of_mem _ hx)) (by simpa using hl) ha.noDigit]
  omega
theorem sgn_pos (n : Nat) : sgn (n : Int) = numL n := tl_num n
theorem sgn_neg {n : Nat} (h : 0 < n) : sgn (-(n : Int)) = 45 :: numL n := by
  show tl (Str.ofString (toString (-(n : Int)))) = _
  rw [toString_neg (by omega), show (0 - -(n : Int)) = (n : Int) by omega, tl_ofString, String.toList_append, List.map_append, ← tl_ofString (toString (n : Int)), tl_num]
  rfl
theorem flat_int {i : Int} {rest : List Nat} (h : i.natAbs < 10 ^ 40) (ha : Aft rest) : Flat (sgn i ++ rest) (.int i) (sgn i).length ∧ ∃ c r, sgn i = c :: r ∧ c ≠ 40 ∧ c ≠ 41 := by
  by_cases h0 : 0 ≤ i
  · obtain ⟨n, rfl⟩ := Int.eq_ofNat_of_zero_le h0
    have hn : n < 10 ^ 40 := h
    have hl := numL_len (n := n) (k := 40) (by decide) hn
    have e : sgn (n : Int) = numL n := sgn_pos n
    have hv : intText? ⟨((numL n ++ rest).take (numL n).length).toArray⟩ = some (n : Int) := by
      rw [List.take_left, ← tl_num n]
      exact int_num (by omega)
    rcases Nat.eq_zero_or_pos n with z | z
    · subst z
      have e0 : numL 0 = [48] := numL_lt (by decide)
      rw [e]
      rw [e0] at hv ⊢
      exact ⟨.num (by simp) rfl (by decide) (by decide) hv, 48, [], rfl, by decide, by decide⟩
    · have hf := figs_num z hn ha
      obtain ⟨c, r, ec, h1, h2⟩ := numL_head n z
      rw [e]
      refine ⟨.num ?_ ?_ (by rw [ec]; exact Nat.succ_pos _) (by omega) hv, c, r, ec, by omega, by omega⟩
      · rw [ec]
        intro q
        have : c = 34 := Option.some.inj q
        omega
      · rw [ec] at hf ⊢
        show (if c = 48 then 1 else if c = 45 then _ else figs (c :: (r ++ rest))) = _
        rw [if_neg (by omega), if_neg (by omega)]
        exact hf
  · obtain ⟨n, hn0, rfl⟩ : ∃ n : Nat, 0 < n ∧ i = -(n : Int) := ⟨i.natAbs, by omega, by omega⟩
    have hn : n < 10 ^ 40 := by simpa using h
    have hl := numL_len (n := n) (k := 40) (by decide) hn
    have e := sgn_neg hn0
    have hf := figs_num hn0 hn ha
    rw [e]
    refine ⟨.num (by simp) ?_ (Nat.succ_pos _) (by rw [List.length_cons]; omega) ?_, 45, _, rfl, by decide, by decide⟩
    · show (if (45 : Nat) = 48 then 1 else if (45 : Nat) = 45 then (if figs (numL n ++ rest) = 0 then 0 else 1 + figs (numL n ++ rest)) else figs (45 :: (numL n ++ rest))) = (numL n).length + 1
      rw [if_neg (by decide), if_pos rfl, hf, if_neg (by have := List.length_pos_iff.mpr (numL_ne n); omega)]
      omega
    · rw [List.take_left]
      have q := intText_neg (x := ⟨(45 :: numL n).toArray⟩) (cs := numL n) rfl (numL_digits n) (numL_ne n) (by show (45 :: numL n).toArray.size ≤ 4300; simp; omega)
      rw [q, show NumText.digitsVal (numL n) = n from numL_val n]
theorem txtM_dbl : ∀ (s rest : List Nat), (∀ c ∈ s, 32 ≤ c ∧ c ≤ 126 ∧ c ≠ 37) → rest.head? ≠ some 34 → txtM (dbl s ++ 34 :: rest) = .ok s ((dbl s).length + 1)
  | [], rest, _, hr => by
    show txtM (34 :: rest) = _
    cases rest with
    | nil => rfl
    | cons e r =>
      have he : e ≠ 34 := fun z => hr (by rw [z]; rfl)
      show (if (34 : Nat) = 34 then (if e = 34 then _ else TR.ok [] 1) else _) = _
      rw [if_pos rfl, if_neg he]
      rfl
  | c :: s, rest, hs, hr => by
    have ih := txtM_dbl s rest (fun x hx => hs x (List.mem_cons_of_mem _ hx)) hr
    have hc := hs c (List.mem_cons_self ..)
    by_cases h : c = 34
    · have e : dbl (c :: s) = 34 :: 34 :: dbl s := if_pos h
      rw [e]
      show (if (34 : Nat) = 34 then (if (34 : Nat) = 34 then (txtM (dbl s ++ 34 :: rest)).up [34] 2 else _) else _) = _
      rw [if_pos rfl, if_pos rfl, ih, h]
      rfl
    · have e : dbl (c :: s) = c :: dbl s := if_neg h
      rw [e]
      have hp : plain c := ⟨hc.1, hc.2.1, h, hc.2.2⟩
      have key : ∀ (x : Nat) (r : List Nat), txtM (c :: x :: r) = (txtM (x :: r)).up [c] 1 := fun x r => by
        show (if c = 34 then _ else if plain c then (txtM (x :: r)).up [c] 1 else _) = _
        rw [if_neg h, if_pos hp]
      have step : txtM (c :: dbl s ++ 34 :: rest) = (txtM (dbl s ++ 34 :: rest)).up [c] 1 := by
        cases hd : dbl s with
        | nil => exact key 34 rest
        | cons x r => exact key x (r ++ 34 :: rest)
      rw [step, ih]
      rfl
theorem flat_of {d : PyData} (h : Ok d) (hf : ∀ ds, d ≠ .tuple ds) {rest : List Nat} (ha : Aft rest) : Flat (wr d ++ rest) d (wr d).length ∧ ∃ c r, wr d = c :: r ∧ c ≠ 40 ∧ c ≠ 41 := by
  cases h with
  | non =>
    refine ⟨.minus ?_, 45, [], rfl, by decide, by decide⟩
    show (if (45 : Nat) = 48 then 1 else if (45 : Nat) = 45 then (if figs rest = 0 then 0 else 1 + figs rest) else figs (45 :: rest)) = 0
    have e : figs rest = 0 := by
      cases rest with
      | nil => rfl
      | cons c r =>
        have := ha.noDigit c rfl
        show (if 49 ≤ c ∧ c ≤ 57 then _ else 0) = 0
        rw [if_neg (by omega)]
    rw [if_neg (by decide), if_pos rfl, if_pos e]
  | bl b =>
    cases b with
    | true => exact ⟨.plus, 43, [], rfl, by decide, by decide⟩
    | false => exact ⟨.bang, 33, [], rfl, by decide, by decide⟩
  | int i h => exact flat_int h ha
  | str z h =>
    have hr : rest.head? ≠ some 34 := fun e => by
      rcases ha with q | q | q
      · rw [q] at e; cases e
      · rw [q] at e; cases e
      · rw [q] at e; cases e
    have t := txtM_dbl (tl z) rest h hr
    have f := Flat.txt t
    have e1 : (⟨(tl z).toArray⟩ : Str) = z := mk_tl z
    rw [e1] at f
    refine ⟨?_, 34, _, rfl, by decide, by decide⟩
    have e2 : wr (.str z) ++ rest = 34 :: (dbl (tl z) ++ 34 :: rest) := by
      show 34 :: (dbl (tl z) ++ [34]) ++ rest = _
      simp
    have e3 : (wr (.str z)).length = (dbl (tl z)).length + 1 + 1 := by
      show (34 :: (dbl (tl z) ++ [34])).length = _
      simp
    rw [e2, e3]
    exact f
  | tup h => exact absurd rfl (hf _)
theorem wr_head {d : PyData} (h : Ok d) : ∃ c r, wr d = c :: r ∧ c ≠ 41 := by
  by_cases hf : ∃ ds, d = .tuple ds
  · obtain ⟨ds, rfl⟩ := hf
    exact ⟨40, wrF ds, rfl, by decide⟩
  · obtain ⟨_, c, r, e, _, h2⟩ := flat_of h (fun ds e => hf ⟨ds, e⟩) (rest := []) (.inl rfl)
    exact ⟨c, r, e, h2⟩
theorem aft_T (r : List PyData) (rest : List Nat) : Aft (wrT r ++ rest) := by
  cases r with
  | nil => exact .inr (.inr rfl)
  | cons d r => exact .inr (.inl rfl)
theorem go_wr {L : List Nat} {d : PyData} (h : Ok d) : ∀ (k : Nat) (rest : List Nat) (top : List PyData) (st : List (List PyData)) (r : PyData), L.drop k = wr d ++ rest → Aft rest → Cl L (k + (wr d).length) ((top ++ [d]) :: st) r → Go L k (top :: st) r := by
  have flatc : ∀ {d : PyData}, Ok d → (∀ ds, d ≠ .tuple ds) → ∀ (k : Nat) (rest : List Nat) (top : List PyData) (st : List (List PyData)) (r : PyData), L.drop k = wr d ++ rest → Aft rest → Cl L (k + (wr d).length) ((top ++ [d]) :: st) r → Go L k (top :: st) r := by
    intro d h hf k rest top st r e ha q
    obtain ⟨f, c, t, ec, h1, _⟩ := flat_of h hf ha
    refine .flat ?_ (by rw [e]; exact f) q
    have e2 : L.drop k = c :: (t ++ rest) := by rw [e, ec]; rfl
    rw [drop_at e2]
    exact fun z => h1 (Option.some.inj z)
  induction h with
  | non => exact flatc .non (fun _ e => by cases e)
  | bl b => exact flatc (.bl b) (fun _ e => by cases e)
  | int i h => exact flatc (.int i h) (fun _ e => by cases e)
  | str z h => exact flatc (.str z h) (fun _ e => by cases e)
  | @tup ds hd ih =>
    intro k rest top st r e ha q
    have tail : ∀ (rs : List PyData), (∀ d ∈ rs, d ∈ ds) → ∀ (k' : Nat) (acc : List PyData), L.drop k' = wrT rs ++ rest → Cl L (k' + (wrT rs).length) ((top ++ [.tuple (acc ++ rs)]) :: st) r → Cl L k' (acc :: top :: st) r := by
      intro rs
      induction rs with
      | nil =>
        intro _ k' acc e q
        rw [List.append_nil] at q
        exact .close (drop_at (show L.drop k' = 41 :: rest from e)) q
      | cons d rs ih2 =>
        intro hm k' acc e q
        have e0 : L.drop k' = 32 :: (wr d ++ (wrT rs ++ rest)) := by
          rw [e]
          show 32 :: (wr d ++ wrT rs) ++ rest = _
          simp
        have e1 : L.drop (k' + 1) = wr d ++ (wrT rs ++ rest) := drop_next (p := [32]) e0
        have e2 : L.drop (k' + 1 + (wr d).length) = wrT rs ++ rest := drop_next e1
        refine .sep (drop_at e0) (ih d (hm d (List.mem_cons_self ..)) _ _ _ _ _ e1 (aft_T rs rest) (ih2 (fun x hx => hm x (List.mem_cons_of_mem _ hx)) _ _ e2 ?_))
        have e3 : k' + 1 + (wr d).length + (wrT rs).length = k' + (wrT (d :: rs)).length := by
          show _ = k' + (32 :: (wr d ++ wrT rs)).length
          rw [List.length_cons, List.length_append]
          omega
        rw [e3, List.append_assoc]
        exact q
    cases ds with
    | nil =>
      have e0 : L.drop k = 40 :: (41 :: rest) := e
      have e1 : L.drop (k + 1) = 41 :: rest := drop_next (p := [40]) e0
      exact .empty (drop_at e0) (drop_at e1) (.close (drop_at e1) q)
    | cons d rs =>
      have e0 : L.drop k = 40 :: (wr d ++ (wrT rs ++ rest)) := by
        rw [e]
        show 40 :: (wr d ++ wrT rs) ++ rest = _
        simp
      have e1 : L.drop (k + 1) = wr d ++ (wrT rs ++ rest) := drop_next (p := [40]) e0
      have e2 : L.drop (k + 1 + (wr d).length) = wrT rs ++ rest := drop_next e1
      obtain ⟨c, t, ec, hc⟩ := wr_head (hd d (List.mem_cons_self ..))
      have e1' : L.drop (k + 1) = c :: (t ++ (wrT rs ++ rest)) := by rw [e1, ec]; rfl
      refine .more (drop_at e0) (by rw [drop_at e1']; exact fun z => hc (Option.some.inj z)) (ih d (List.mem_cons_self ..) _ _ _ _ _ e1 (aft_T rs rest) (tail rs (fun x hx => List.mem_cons_of_mem _ hx) _ _ e2 ?_))
      have e3 : k + 1 + (wr d).length + (wrT rs).length = k + (wr (.tuple (d :: rs))).length := by
        show _ = k + (40 :: (wr d ++ wrT rs)).length
        rw [List.length_cons, List.length_append]
        omega
      rw [e3]
      exact q
theorem go_all {d : PyData} (h : Ok d) : Go (wr d) 0 [[]] d :=
  go_wr h 0 [] [] [] d (by simp) (.inl rfl) (.done (by simp))
end Vl

set_option maxHeartbeats 2000000
namespace Vl
open PySem PySem.Spec PyProof.Rows L2 TL CwR
/-- x is b, of a truth, a number, a text -/
def flatP : V → Bool
  | .non => true | .bl _ => true | .int _ => true | .str _ => true | _ => false
theorem op_isT {X : Cx} : OpR X (compareOp .Is) (fun x y H Q => ∃ b : Bool, y = .bl b ∧ flatP x = true ∧ Q (.bl (decide (x = .bl b))) H) := by
  intro pins s σ H x y v u Q I rx ry h
  obtain ⟨b, rfl, hf, q⟩ := h
  cases (show u = Value.bool b from ry)
  cases x with
  | non =>
    cases (show v = Value.none from rx)
    exact wpAny_is_other (by cases b <;> rfl) (fun z => by cases z) ⟨.bl false, H, I, rfl, by simpa using q⟩
  | bl a =>
    cases (show v = Value.bool a from rx)
    by_cases e : a = b
    · subst e
      exact wpAny_is_self rfl ⟨.bl true, H, I, rfl, by simpa using q⟩
    · exact wpAny_is_other rfl (fun z => e (Value.bool.inj z)) ⟨.bl false, H, I, rfl, by simpa [e] using q⟩
  | int i =>
    obtain ⟨t, rfl⟩ := rx
    exact wpAny_is_other (by cases b <;> rfl) (fun z => by cases z) ⟨.bl false, H, I, rfl, by simpa using q⟩
  | str z =>
    obtain ⟨t, rfl⟩ := rx
    exact wpAny_is_other (by cases b <;> rfl) (fun z => by cases z) ⟨.bl false, H, I, rfl, by simpa using q⟩
  | _ => cases hf
/-- a written dict, asked by a text that is there -/
theorem ix_kd {X : Cx} {d : Addr} {es : Array DictEntry} {n : Nat} (D : KDict X.K X.w d es n) : IxR X (fun x y H Q => ∃ (z : Str) (u0 : Value) (v0 : V), x = .ref d ∧ y = .str z ∧ PySem.W.nsIn X.K d z = some (some u0) ∧ RelV v0 u0 ∧ Q v0 H) := by
  intro value slice pins s σ H x y v u Q I rx ry h hs
  have hx : x = .ref d := by obtain ⟨_, _, _, e, _⟩ := h; exact e
  have hg := op_item_kd D pins s σ H x y v u Q I rx ry h
  subst hx
  cases rx
  exact tail_any (kd_type D I) PySem.slot_dict_getitem.lookup hg hs
/-- 'x' + e, behind the text a token is out -/
theorem pe_litAdd {X : Cx} {b : Expr} {tb : TE} {x : Str} {j : Nat} {cp bp : Pos} (hb : PET X b tb) :
    PE X (.BinOp (.Constant (.str x) j cp) .Add b bp) (tOp (fun u v H Q => ∃ i k, u = .str i ∧ v = .str k ∧ i.length + k.length ≤ sizeLine ∧ Q (.str (i ++ k)) H) (tC (.str x)) tb) := by
  refine ⟨fun pins s σ H Q I h => wpAny_BinOp (Calls.Constant_str ?_)⟩
  have I1 : Inv X pins σ H { s with toks := s.toks + 1 } := I.tok _
  refine thn (hb pins { s with toks := s.toks + 1 } σ H _ (Nat.succ_le_succ (Nat.zero_le _)) I1 h) fun u s2 q => ?_
  obtain ⟨y, H2, I2, r2, q2⟩ := q
  exact op_add_str pins s2 σ H2 (.str x) y (.str x s.toks) u Q I2 ⟨_, rfl⟩ r2 q2
end Vl

set_option maxHeartbeats 2000000
namespace Vl
open PySem PySem.Spec PyProof.Rows L2 TL CwR PySem.StrLaws
def top (i : Nat) : Stmt := PySem.Challenge.pw_eventledger_k01_values_written.main.body.getD i (.Pass ⟨0, 0, 0, 0⟩)
abbrev FnP (K : PySem.W.Frag) (x : Str) (st : Stmt) (f : Addr) (fd : FuncData) : Prop := FunD K x x (defArgs st) (defBody st) (defScope st) [] [] f fd
abbrev sShown : Stmt := top 6
abbrev sFlat : Stmt := top 7
theorem same_upd {H : Hp} {p : Addr} {o : HO} (h : H p = none) : Same H (upd H p o) := fun b x e => by
  rw [upd_ne (ne_of_none e h)]
  exact e
theorem szl : sizeLine = 16777216 := by decide
theorem app_len (x y : Str) : (x ++ y).length = x.length + y.length := by
  rw [len_tl, tl_append, List.length_append, ← len_tl, ← len_tl]
theorem dbl_repl : ∀ l : List Nat, replL [34] [34, 34] l = dbl l
  | [] => replL_nil
  | c :: r => by
    by_cases h : c = 34
    · have e : dbl (c :: r) = 34 :: 34 :: dbl r := if_pos h
      rw [e, replL_hit (by simp) (by rw [h]; rfl)]
      show [34, 34] ++ replL [34] [34, 34] r = _
      rw [dbl_repl r]
      rfl
    · have e : dbl (c :: r) = c :: dbl r := if_neg h
      rw [e, replL_miss (by intro q; exact h (List.cons.inj q).1), dbl_repl r]
theorem dbl_len : ∀ l : List Nat, (dbl l).length ≤ 2 * l.length
  | [] => Nat.le_refl _
  | c :: r => by
    have ih := dbl_len r
    show (if c = 34 then 34 :: 34 :: dbl r else c :: dbl r).length ≤ 2 * (r.length + 1)
    by_cases h : c = 34
    · rw [if_pos h]
      show (dbl r).length + 1 + 1 ≤ _
      omega
    · rw [if_neg h]
      show (dbl r).length + 1 ≤ _
      omega
/-- the sizes that a value may have -/
def Sm : PyData → Prop
  | .int i => i.natAbs.log2 < 1920
  | .str z => z.length ≤ 1000000
  | _ => True
def spFlat : Sp := fun vs H Q _ => ∃ (x : V) (d : PyData), vs = [x] ∧ Vd H x d ∧ Sm d ∧ (∀ ds, d ≠ .tuple ds) ∧ ∀ r : Str, tl r = wr d → Q (.str r) H
theorem scFlat : FnScope ["value"] ["value"] (defScope sFlat) := ⟨rfl, rfl, rfl, by decide +kernel, rfl, by decide +kernel, by decide +kernel⟩
section
variable {P : Program} {w : World} {K : PySem.W.Frag} {mg : Str → Option Value} {base : Heap}
theorem ok_flat {f : Addr} {fd : FuncData} {k : Nat} (F : FnP K "_shown_flat" sFlat f fd) (ms : mg "str" = none) (mi : mg "isinstance" = none) : FnOk P w K mg base CX0 (k + 1) f fd ["value"] spFlat := by
  refine F.ok scFlat (fun vs H Q E h => ?_) (fun cdv A outer s H vs Q E hr h => ?_)
  · obtain ⟨x, d, rfl, _⟩ := h
    rfl
  · obtain ⟨x, d, rfl, hv, hs, ht, q⟩ := h
    refine ⟨_, PSs.nox (pss_cons (ps_if (pt_cmpR op_isN (pv 0) pe_non (nomark _)) (pss_one (ps_ret pe_str)) pss_nil)
      (pss_cons (ps_if (pt_cmpR op_isT (pv 0) pe_bl (nomark _)) (pss_one (ps_ret pe_str)) pss_nil)
      (pss_cons (ps_if (pt_cmpR op_isT (pv 0) pe_bl (nomark _)) (pss_one (ps_ret pe_str)) pss_nil)
      (pss_cons (ps_if (pt_val (pe_callB call_isi (by rfl) mi (by decide +kernel) (pa_cons (pv 0) (pa_cons (pe_bltn (v := .ty "str") (by rfl) ms boot_str rfl) pa_nil))))
          (pss_one (ps_ret (pe_op op_add_str (pe_litAdd (pet_replC (pv 0) (by decide +kernel))) pe_str))) pss_nil)
      (pss_one (ps_ret (pe_callTy call_str_int (by rfl) ms boot_str (pa_cons (pv 0) pa_nil)))))))), ?_⟩
    have hz := szl
    have l1 : (Str.ofString "\"").length = 1 := by decide +kernel
    have l2 : (Str.ofString "\"\"").length = 2 := by decide +kernel
    have t1 : tl (Str.ofString "\"") = [34] := by decide +kernel
    have t2 : tl (Str.ofString "\"\"") = [34, 34] := by decide +kernel
    cases hv with
    | non => exact ⟨_, rfl, rfl, _, rfl, iteT (q _ (by decide +kernel))⟩
    | bl b =>
      cases b with
      | true => exact ⟨_, rfl, rfl, _, rfl, iteF ⟨_, rfl, true, rfl, rfl, _, rfl, iteT (q _ (by decide +kernel))⟩⟩
      | false => exact ⟨_, rfl, rfl, _, rfl, iteF ⟨_, rfl, true, rfl, rfl, _, rfl, iteF ⟨_, rfl, false, rfl, rfl, _, rfl, iteT (q _ (by decide +kernel))⟩⟩⟩
    | int i =>
      refine ⟨_, rfl, rfl, _, rfl, iteF ⟨_, rfl, true, rfl, rfl, _, rfl, iteF ⟨_, rfl, false, rfl, rfl, _, rfl, iteF ?_⟩⟩⟩
      refine ⟨_, rfl, .int i, .ty "str", .type "int", .type "str", false, rfl, .ty _, .base (.int i), kit_ty (by decide +kernel), _, rfl, iteF ?_⟩
      exact ⟨_, rfl, i, rfl, hs, q _ rfl⟩
    | str z =>
      refine ⟨_, rfl, rfl, _, rfl, iteF ⟨_, rfl, true, rfl, rfl, _, rfl, iteF ⟨_, rfl, false, rfl, rfl, _, rfl, iteF ?_⟩⟩⟩
      refine ⟨_, rfl, .str z, .ty "str", .type "str", .type "str", true, rfl, .ty _, .base (.str z), kit_ty (by decide +kernel), _, rfl, iteT ?_⟩
      have hs' : z.length ≤ 1000000 := hs
      have rl : tl (Txt.replace z (Str.ofString "\"") (Str.ofString "\"\"")) = dbl (tl z) := by
        have e := replace_list (x := z) (y := Str.ofString "\"") (z := Str.ofString "\"\"") (by rw [l1]; exact Nat.le_refl 1)
        have e2 : tl (Txt.replace z (Str.ofString "\"") (Str.ofString "\"\"")) = replL (tl (Str.ofString "\"")) (tl (Str.ofString "\"\"")) (tl z) := e
        rw [e2, t1, t2, dbl_repl]
      have rn : (Txt.replace z (Str.ofString "\"") (Str.ofString "\"\"")).length ≤ 2000000 := by
        rw [len_tl, rl]
        have := dbl_len (tl z)
        have := len_tl z
        omega
      refine ⟨_, rfl, z, rfl, ?_, _, _, rfl, rfl, ?_, _, _, rfl, rfl, ?_, q _ ?_⟩
      · rw [l2]; omega
      · rw [l1]; omega
      · rw [app_len, l1]; omega
      · rw [tl_append, tl_append, t1, rl]
        show [34] ++ dbl (tl z) ++ [34] = 34 :: (dbl (tl z) ++ [34])
        simp
    | tup h r => exact absurd rfl (ht _)
end
end Vl

set_option maxHeartbeats 4000000
namespace Vl
open PySem PySem.Spec PyProof.Rows L2 TL CwR PySem.StrLaws
/-! ### what waits -/
inductive It where
  | txt (t : Str)
  | val (d : PyData)
def It.w : It → List Nat
  | .txt t => tl t
  | .val d => wr d
def It.m : It → Nat
  | .txt _ => 1
  | .val d => sz d
inductive Itm (H : Hp) : V → It → Prop
  | txt {p : Addr} {t : Str} : H p = some (.tup [.str t, .bl true]) → t.length ≤ 1 → Itm H (.ref p) (.txt t)
  | val {p : Addr} {v : V} {d : PyData} : H p = some (.tup [v, .bl false]) → Vd H v d → Itm H (.ref p) (.val d)
inductive Stk (H : Hp) : List V → List It → Prop
  | nil : Stk H [] []
  | snoc {xs : List V} {its : List It} {x : V} {it : It} : Stk H xs its → Itm H x it → Stk H (xs ++ [x]) (its ++ [it])
theorem Itm.keep {H H' : Hp} (k : KeepT H H') {x : V} {it : It} (h : Itm H x it) : Itm H' x it := by
  cases h with
  | txt a b => exact .txt (k _ _ a) b
  | val a b => exact .val (k _ _ a) (b.keep k)
theorem Stk.keep {H H' : Hp} (k : KeepT H H') {xs : List V} {its : List It} (h : Stk H xs its) : Stk H' xs its := by
  induction h with
  | nil => exact .nil
  | snoc _ i ih => exact .snoc ih (i.keep k)
theorem Stk.last {H : Hp} {xs : List V} {its : List It} (h : Stk H xs its) (ne : xs ≠ []) : ∃ xs0 x its0 it, xs = xs0 ++ [x] ∧ its = its0 ++ [it] ∧ Stk H xs0 its0 ∧ Itm H x it := by
  cases h with
  | nil => exact absurd rfl ne
  | snoc a b => exact ⟨_, _, _, _, rfl, rfl, a, b⟩
theorem Stk.len {H : Hp} {xs : List V} {its : List It} (h : Stk H xs its) : xs.length = its.length := by
  induction h with
  | nil => rfl
  | snoc _ _ ih => rw [List.length_append, List.length_append, ih]; rfl
def wAll (its : List It) : List Nat := its.reverse.flatMap It.w
def mAll (its : List It) : Nat := (its.map It.m).sum
theorem wAll_snoc (its : List It) (it : It) : wAll (its ++ [it]) = it.w ++ wAll its := by
  unfold wAll
  rw [List.reverse_append]
  rfl
theorem mAll_snoc (its : List It) (it : It) : mAll (its ++ [it]) = mAll its + it.m := by
  unfold mAll
  rw [List.map_append, List.sum_append]
  show _ + (it.m + 0) = _
  omega
theorem sz_pos (d : PyData) : 1 ≤ sz d := by
  cases d <;> (first | exact Nat.le_refl 1 | (show 1 ≤ 2 + _; omega))
theorem mAll_len : ∀ its : List It, its.length ≤ mAll its
  | [] => Nat.le_refl 0
  | it :: r => by
    have ih := mAll_len r
    have h : 1 ≤ it.m := by
      cases it with
      | txt _ => exact Nat.le_refl 1
      | val d => exact sz_pos d
    unfold mAll at ih ⊢
    rw [List.map_cons, List.sum_cons, List.length_cons]
    omega
theorem szAll_drop (ds : List PyData) {i : Nat} {d : PyData} (h : ds[i]? = some d) : szAll (ds.drop i) = sz d + 1 + szAll (ds.drop (i + 1)) := by
  have hi : i < ds.length := (List.getElem?_eq_some_iff.mp h).1
  have e : ds.drop i = d :: ds.drop (i + 1) := by
    rw [List.drop_eq_getElem_cons hi]
    congr 1
    exact (List.getElem?_eq_some_iff.mp h).2
  rw [e]
  rfl
theorem wrT_drop (ds : List PyData) {i : Nat} {d : PyData} (h : ds[i]? = some d) : wrT (ds.drop i) = 32 :: (wr d ++ wrT (ds.drop (i + 1))) := by
  have hi : i < ds.length := (List.getElem?_eq_some_iff.mp h).1
  have e : ds.drop i = d :: ds.drop (i + 1) := by
    rw [List.drop_eq_getElem_cons hi]
    congr 1
    exact (List.getElem?_eq_some_iff.mp h).2
  rw [e]
  rfl
theorem wrF_zero (ds : List PyData) {d : PyData} (h : ds[0]? = some d) : wrF ds = wr d ++ wrT (ds.drop 1) := by
  cases ds with
  | nil => cases h
  | cons x r =>
    have e : x = d := Option.some.inj h
    rw [e]
    rfl
def flat (ps : List Str) : List Nat := (ps.map tl).flatten
theorem flat_snoc (ps : List Str) (p : Str) : flat (ps ++ [p]) = flat ps ++ tl p := by
  unfold flat
  rw [List.map_append, List.flatten_append]
  simp
theorem flat_len (ps : List Str) : (ps.map Str.length).sum = (flat ps).length := by
  unfold flat
  rw [List.length_flatten, List.map_map]
  exact congrArg List.sum (List.map_congr_left fun p _ => len_tl p)
theorem joinL_nil : ∀ l : List (List Nat), joinL [] l = l.flatten
  | [] => rfl
  | [p] => by simp [joinL]
  | p :: q :: r => by
    show p ++ ([] ++ joinL [] (q :: r)) = _
    rw [joinL_nil (q :: r)]
    simp
/-- all that the value holds is small -/
inductive SmA : PyData → Prop
  | flat {d : PyData} (h : Sm d) (n : ∀ ds, d ≠ .tuple ds) : SmA d
  | tup {ds : List PyData} (h : ∀ d ∈ ds, SmA d) : SmA (.tuple ds)
def It.ok : It → Prop
  | .txt _ => True
  | .val d => SmA d
def spShown : Sp := fun vs H Q _ => ∃ (x : V) (d : PyData), vs = [x] ∧ Vd H x d ∧ SmA d ∧ sz d ≤ 1000000 ∧ (wr d).length ≤ 4000000 ∧ ∀ H' r, Same H H' → tl r = wr d → Q (.str r) H'
theorem scShown : FnScope ["value", "pieces", "waiting", "thing", "is_written", "at"] ["value"] (defScope sShown) := ⟨rfl, rfl, rfl, by decide +kernel, rfl, by decide +kernel, by decide +kernel⟩
theorem keep_lst {H : Hp} {a : Addr} {xs ys : List V} (h : H a = some (.lst xs)) : KeepT H (upd H a (.lst ys)) := fun b zs e => by
  have n : b ≠ a := fun q => by rw [q, h] at e; cases e
  rw [upd_ne n]
  exact e
theorem same_put {H0 H : Hp} {a : Addr} {o : HO} (s : Same H0 H) (n : H0 a = none) : Same H0 (upd H a o) := fun b x e => by
  rw [upd_ne (ne_of_none e n)]
  exact s b x e
theorem szAll_le (ds : List PyData) : ∀ k, szAll (ds.drop k) ≤ szAll ds := by
  induction ds with
  | nil => intro k; rw [List.drop_nil]; exact Nat.le_refl _
  | cons d r ih =>
    intro k
    cases k with
    | zero => exact Nat.le_refl _
    | succ k =>
      show szAll (r.drop k) ≤ sz d + 1 + szAll r
      have := ih k
      omega
theorem Vd.kind {K : PySem.W.Frag} {H : Hp} {v : V} {d : PyData} (h : Vd H v d) : (∃ a ys ds, v = .ref a ∧ d = .tuple ds ∧ H a = some (.tup ys) ∧ VdAll H ys ds) ∨
    ((∀ ds, d ≠ .tuple ds) ∧ ∃ tv, TyX K H v tv ∧ PySem.W.kitOne K tv (.type "tuple") = some false) := by
  cases h with
  | non => exact .inr ⟨(fun _ e => by cases e), .type "NoneType", .base .non, kit_ty (by decide +kernel)⟩
  | bl b => exact .inr ⟨(fun _ e => by cases e), .type "bool", .base (.bl b), kit_ty (by decide +kernel)⟩
  | int i => exact .inr ⟨(fun _ e => by cases e), .type "int", .base (.int i), kit_ty (by decide +kernel)⟩
  | str z => exact .inr ⟨(fun _ e => by cases e), .type "str", .base (.str z), kit_ty (by decide +kernel)⟩
  | tup a r => exact .inl ⟨_, _, _, rfl, rfl, a, r⟩
theorem SmA.sm {d : PyData} (h : SmA d) (n : ∀ ds, d ≠ .tuple ds) : Sm d := by
  cases h with
  | flat h _ => exact h
  | tup h => exact absurd rfl (n _)
theorem SmA.get {ds : List PyData} (h : SmA (.tuple ds)) : ∀ d ∈ ds, SmA d := by
  cases h with
  | flat _ n => exact absurd rfl (n _)
  | tup h => exact h
theorem szAll_len : ∀ ds : List PyData, ds.length ≤ szAll ds
  | [] => Nat.le_refl 0
  | d :: r => by
    have := szAll_len r
    show r.length + 1 ≤ sz d + 1 + szAll r
    omega
theorem wrF_end {ds : List PyData} {n : Nat} (h : ds.length = n) : (if n = n ∧ 0 < n then wrF ds else wrT (ds.drop (n - n))) = wrF ds := by
  by_cases h0 : 0 < n
  · rw [if_pos ⟨rfl, h0⟩]
  · have e : ds = [] := List.length_eq_zero_iff.mp (by omega)
    rw [if_neg (fun q => h0 q.2), e, List.drop_nil]
    rfl
/-- between two turns of the loop over what waits -/
def ShW (x : V) (pa wa : Addr) (d : PyData) (H : Hp) (m : Nat) (σ : L2.St) (H' : Hp) : Prop :=
  ∃ (ps : List Str) (xs : List V) (its : List It) (y3 y4 y5 : Option V), σ = [some x, some (.ref pa), some (.ref wa), y3, y4, y5] ∧ H' pa = some (.lst (ps.map V.str)) ∧ H' wa = some (.lst xs) ∧ Stk H' xs its ∧ flat ps ++ wAll its = wr d ∧
    (∀ it ∈ its, it.ok) ∧ Same H H' ∧ ps.length + mAll its ≤ sz d ∧ m = mAll its
def TuW (x : V) (pa wa a : Addr) (ps : List Str) (its0 : List It) (ds : List PyData) (n : Nat) (H H1 : Hp) (i : Nat) (σ : L2.St) (H' : Hp) : Prop :=
  ∃ (xs : List V) (its : List It) (y5 : Option V), σ = [some x, some (.ref pa), some (.ref wa), some (.ref a), some (.bl false), y5] ∧ H' pa = some (.lst (ps.map V.str)) ∧ H' wa = some (.lst xs) ∧ Stk H' xs its ∧
    wAll its = (if i = n ∧ 0 < n then wrF ds else wrT (ds.drop (n - i))) ++ wAll its0 ∧ (∀ it ∈ its, it.ok) ∧ Same H H' ∧ KeepT H1 H' ∧ mAll its ≤ mAll its0 + 1 + szAll (ds.drop (n - i))
section
variable {P : Program} {w : World} {K : PySem.W.Frag} {mg : Str → Option Value} {base : Heap}
theorem ok_shown {f fF : Addr} {fd fdF : FuncData} {k : Nat} (F : FnP K "shown" sShown f fd) (FF : FnP K "_shown_flat" sFlat fF fdF) (gF : mg "_shown_flat" = some (.ref fF)) (GF : FnOk P w K mg base CX0 k fF fdF ["value"] spFlat)
    (mi : mg "isinstance" = none) (mt : mg "tuple" = none) (mv : mg "reversed" = none) (mr : mg "range" = none) (ml : mg "len" = none) : FnOk P w K mg base CX0 (k + 1) f fd ["value"] spShown := by
  have bF : Binds K fdF ["value"] [] := FF.bindsN fun _ _ _ _ _ _ us hl => match us, hl with | [_], _ => rfl
  refine F.ok scShown (fun vs H Q E h => ?_) (fun cdv A outer s H vs Q E hr h => ?_)
  · obtain ⟨x, d, rfl, _⟩ := h
    rfl
  · obtain ⟨x, d, rfl, hv, hs, hn, hw, q⟩ := h
    have hz := szl
    refine ⟨_, PSs.nox (pss_cons (ps_set (i := 1) scShown.nd rfl (.inl rfl) (pe_lst pa_nil))
      (pss_cons (ps_set (i := 2) scShown.nd rfl (.inl rfl) (pe_lst (pa_cons (pe_tup (pa_cons (pv 0) (pa_cons (pe_bl) pa_nil))) pa_nil)))
      (pss_cons (ps_while PassesOwn.never (pt_truth (pv 2) (by intro _; rfl)) (pss_cons (ps_asg (pe_bm0 PySem.F.plainAttrs_list PySem.F.slot_list_pop PySem.F.type_list_pop mt_pop (pv 2)) (pg_tup rfl (pgs_cons (pg_name (i := 3) scShown.nd rfl (.inl rfl)) (pgs_cons (pg_name (i := 4) scShown.nd rfl (.inl rfl)) pgs_nil))))
      (pss_one (ps_if (pt_val (pv 4)) (pss_one (ps_expr (pe_bm PySem.F.plainAttrs_list PySem.F.slot_list_append PySem.F.type_list_append mt_append (pv 1) (pa_cons (pv 3) pa_nil)))) (pss_one (ps_if (pt_val (pe_callB call_isi (by rfl) mi (by decide +kernel) (pa_cons (pv 3) (pa_cons (pe_bltn (v := .ty "tuple") (by rfl) mt PyProof.Rows.boot_tuple rfl) pa_nil)))) (pss_cons (ps_expr (pe_bm PySem.F.plainAttrs_list PySem.F.slot_list_append PySem.F.type_list_append mt_append (pv 1) (pa_cons (pe_str) pa_nil)))
      (pss_cons (ps_expr (pe_bm PySem.F.plainAttrs_list PySem.F.slot_list_append PySem.F.type_list_append mt_append (pv 2) (pa_cons (pe_tup (pa_cons (pe_str) (pa_cons (pe_bl) pa_nil))) pa_nil)))
      (pss_one (ps_for PassesOwn.never rfl (pi_revR (by rfl) mv (prg_1 (by rfl) mr (pe_callB call_len_seq (by rfl) ml PySem.boot_len (pa_cons (pv 3) pa_nil)))) (pg_name (i := 5) scShown.nd rfl (.inl rfl)) (pss_cons (ps_expr (pe_bm PySem.F.plainAttrs_list PySem.F.slot_list_append PySem.F.type_list_append mt_append (pv 2) (pa_cons (pe_tup (pa_cons (pe_ix ix_tup (pv 3) (pv 5) (fun _ _ => rfl)) (pa_cons (pe_bl) pa_nil))) pa_nil)))
      (pss_one (ps_if (pt_cmpR op_gt (pv 5) (pe_int) (nomark _)) (pss_one (ps_expr (pe_bm PySem.F.plainAttrs_list PySem.F.slot_list_append PySem.F.type_list_append mt_append (pv 2) (pa_cons (pe_tup (pa_cons (pe_str) (pa_cons (pe_bl) pa_nil))) pa_nil)))) pss_nil))))))) (pss_one (ps_expr (pe_bm PySem.F.plainAttrs_list PySem.F.slot_list_append PySem.F.type_list_append mt_append (pv 1) (pa_cons (pe_call GF hr (by rfl) gF FF.kp bF .nil pass0 (pa_cons (pv 3) pa_nil)) pa_nil))))))))))
      (pss_one (ps_ret (pe_join pe_str (pv 1))))))), ?_⟩
    refine ⟨Nat.zero_le _, fun pa npa => ?_⟩
    refine ⟨_, rfl, by show 2 ≤ sizeLine; omega, fun p np => ⟨by show 1 ≤ sizeLine; omega, fun wa nwa => ?_⟩⟩
    have s0 : Same H (upd (upd (upd H pa (.lst [])) p (.tup [x, .bl false])) wa (.lst [.ref p])) := ((same_upd npa).trans (same_upd np)).trans (same_upd nwa)
    have hpa0 : upd (upd (upd H pa (.lst [])) p (.tup [x, .bl false])) wa (.lst [.ref p]) pa = some (.lst []) := by
      have e1 : (upd H pa (.lst [])) pa = some (.lst []) := upd_same
      exact same_upd nwa _ _ (same_upd np _ _ e1)
    have hp0 : upd (upd (upd H pa (.lst [])) p (.tup [x, .bl false])) wa (.lst [.ref p]) p = some (.tup [x, .bl false]) := same_upd nwa _ _ upd_same
    have nwa0 : H wa = none := ((same_upd npa).trans (same_upd np)).free nwa
    have npw : pa ≠ wa := fun e => by
      have e1 : (upd H pa (.lst [])) pa = some (.lst []) := upd_same
      have e2 := same_upd (o := HO.tup [x, .bl false]) np _ _ e1
      rw [e] at e2
      rw [e, e2] at nwa
      cases nwa
    refine ⟨ShW x pa wa d H, ⟨mAll [.val d], [], [.ref p], [.val d], none, none, none, rfl, hpa0, upd_same, .snoc (xs := []) (its := []) .nil (.val hp0 (hv.keep (Same.keepT s0))), ?_, ?_, s0, ?_, rfl⟩, ?_⟩
    · show [] ++ (wr d ++ []) = wr d
      simp
    · intro it hit
      rw [List.mem_singleton.mp hit]
      exact hs
    · show 0 + (sz d + 0) ≤ sz d
      omega
    rintro m σ H' ⟨ps, xs, its, y3, y4, y5, rfl, hp, hwt, stk, hfl, hok, sm, hlen, rfl⟩
    refine ⟨_, rfl, _, .inl ⟨xs, SqL.of hwt, rfl⟩, ?_⟩
    by_cases ne : xs = []
    · subst ne
      have hi : its = [] := by
        have := stk.len
        exact List.length_eq_zero_iff.mp this.symm
      subst hi
      refine iteF ?_
      have hfl' : flat ps = wr d := by
        have e0 : wAll [] = [] := rfl
        rw [e0, List.append_nil] at hfl
        exact hfl
      refine ⟨⟨_, rfl⟩, _, rfl, Str.ofString "", pa, ps, rfl, rfl, .inl (SqL.of hp), ?_, q _ _ sm ?_⟩
      · have l0 : (Str.ofString "").length = 0 := by decide +kernel
        rw [l0, flat_len, hfl']
        omega
      · have t0 : tl (Str.ofString "") = [] := by decide +kernel
        rw [join_eq, tl_join, t0, joinL_nil]
        exact hfl'
    · obtain ⟨xs0, x1, its0, it, rfl, rfl, st0, im⟩ := stk.last ne
      have e1 : (!(xs0 ++ [x1]).isEmpty) = true := by simp
      rw [e1]
      refine iteT ⟨fun σ' H' => ∃ m', m' < mAll (its0 ++ [it]) ∧ ShW x pa wa d H m' σ' H', fun _ _ h => h, ?_⟩
      have hm := mAll_snoc its0 it
      have hwf := wAll_snoc its0 it
      have ml0 := mAll_len its0
      have lx := st0.len
      have nwp : wa ≠ pa := npw.symm
      have hdl : (xs0 ++ [x1]).dropLast = xs0 := List.dropLast_concat
      have hlast : (xs0 ++ [x1])[(xs0 ++ [x1]).length - 1]? = some x1 := by simp
      have kt : KeepT H' (upd H' wa (.lst (xs0 ++ [x1]).dropLast)) := keep_lst hwt
      have hp1 : upd H' wa (.lst (xs0 ++ [x1]).dropLast) pa = some (.lst (ps.map V.str)) := by rw [upd_ne npw]; exact hp
      have hw1 : upd H' wa (.lst (xs0 ++ [x1]).dropLast) wa = some (.lst xs0) := by rw [upd_same, hdl]
      have sm1 : Same H (upd H' wa (.lst (xs0 ++ [x1]).dropLast)) := same_put sm nwa0
      have st1 := st0.keep kt
      have im1 := im.keep kt
      refine ⟨_, rfl, .inl ⟨rfl, _, SqL.of hwt⟩, wa, _, x1, rfl, rfl, hwt, hlast, ?_⟩
      generalize upd H' wa (.lst (xs0 ++ [x1]).dropLast) = H1 at kt hp1 hw1 sm1 st1 im1
      cases im1 with
      | txt ht hl =>
        rename_i p1 t
        refine ⟨p1, _, rfl, .inl (.inl ht), rfl, _, _, rfl, _, _, rfl, rfl, ?_⟩
        refine ⟨_, rfl, _, rfl, iteT ⟨_, rfl, .inl ⟨rfl, _, SqL.of hp1⟩, _, rfl, pa, _, _, rfl, rfl, hp1, ?_, ?_⟩⟩
        · rw [List.length_map]
          omega
        · have hm1 : It.m (.txt t) = 1 := rfl
          refine ⟨mAll its0, by omega, ps ++ [t], xs0, its0, _, _, _, rfl, ?_, ?_, st1.keep (keep_lst hp1), ?_, fun u hu => hok u (List.mem_append_left _ hu), same_put sm1 npa, ?_, rfl⟩
          · rw [upd_same, List.map_append]; rfl
          · rw [upd_ne nwp]; exact hw1
          · rw [flat_snoc, List.append_assoc, ← hfl, hwf]
            rfl
          · rw [List.length_append]
            show ps.length + 1 + mAll its0 ≤ sz d
            omega
      | val ht hv1 =>
        rename_i p1 v1 d1
        have hd1 : SmA d1 := hok _ (List.mem_append_right _ (List.mem_singleton.mpr rfl))
        have hm1 : It.m (.val d1) = sz d1 := rfl
        have hw1' : It.w (.val d1) = wr d1 := rfl
        have sp1 := sz_pos d1
        refine ⟨p1, _, rfl, .inl (.inl ht), rfl, _, _, rfl, _, _, rfl, rfl, ?_⟩
        refine ⟨_, rfl, _, rfl, iteF ?_⟩
        have l40 : tl (Str.ofString "(") = [40] := by decide +kernel
        have l41 : tl (Str.ofString ")") = [41] := by decide +kernel
        have l32 : tl (Str.ofString " ") = [32] := by decide +kernel
        rcases hv1.kind (K := K) with ⟨a, ys, ds, rfl, rfl, ha, hys⟩ | ⟨hnt, tv, hty, hkit⟩
        · refine ⟨_, rfl, .ref a, .ty "tuple", .type "tuple", .type "tuple", true, rfl, .ty _, .base (.tup ha), kit_ty (by decide +kernel), _, rfl, iteT ?_⟩
          have hsz : sz (.tuple ds) = 2 + szAll ds := rfl
          have hyl := hys.len
          -- the bracket
          refine ⟨_, rfl, .inl ⟨rfl, _, SqL.of hp1⟩, pa, _, _, rfl, rfl, hp1, by rw [List.length_map]; omega, ?_⟩
          have kt2 : KeepT H1 (upd H1 pa (.lst (ps.map V.str ++ [V.str (Str.ofString "(")]))) := keep_lst hp1
          have hp2 : upd H1 pa (.lst (ps.map V.str ++ [V.str (Str.ofString "(")])) pa = some (.lst ((ps ++ [Str.ofString "("]).map V.str)) := by rw [upd_same, List.map_append]; rfl
          have hw2 : upd H1 pa (.lst (ps.map V.str ++ [V.str (Str.ofString "(")])) wa = some (.lst xs0) := by rw [upd_ne nwp]; exact hw1
          have sm2 : Same H (upd H1 pa (.lst (ps.map V.str ++ [V.str (Str.ofString "(")]))) := same_put sm1 npa
          have st2 := st1.keep kt2
          generalize upd H1 pa (.lst (ps.map V.str ++ [V.str (Str.ofString "(")])) = H2 at kt2 hp2 hw2 sm2 st2
          -- its end
          refine ⟨_, rfl, .inl ⟨rfl, _, SqL.of hw2⟩, by show 2 ≤ sizeLine; omega, fun p3 np3 => ?_⟩
          have e3 := same_upd (o := HO.tup [.str (Str.ofString ")"), .bl true]) np3
          have hw3 := e3 _ _ hw2
          have hp3 := e3 _ _ hp2
          refine ⟨wa, _, _, rfl, rfl, hw3, by omega, ?_⟩
          have kt4 := kt2.trans ((Same.keepT e3).trans (keep_lst (ys := xs0 ++ [.ref p3]) hw3))
          have hp4 : upd (upd H2 p3 (.tup [.str (Str.ofString ")"), .bl true])) wa (.lst (xs0 ++ [.ref p3])) pa = some (.lst ((ps ++ [Str.ofString "("]).map V.str)) := by rw [upd_ne npw]; exact hp3
          have sm4 : Same H (upd (upd H2 p3 (.tup [.str (Str.ofString ")"), .bl true])) wa (.lst (xs0 ++ [.ref p3]))) := same_put (sm2.trans e3) nwa0
          have st4 : Stk (upd (upd H2 p3 (.tup [.str (Str.ofString ")"), .bl true])) wa (.lst (xs0 ++ [.ref p3]))) (xs0 ++ [.ref p3]) (its0 ++ [.txt (Str.ofString ")")]) :=
            .snoc (st2.keep ((Same.keepT e3).trans (keep_lst hw3))) (.txt (keep_lst hw3 _ _ upd_same) (by decide +kernel))
          have hw4 : upd (upd H2 p3 (.tup [.str (Str.ofString ")"), .bl true])) wa (.lst (xs0 ++ [.ref p3])) wa = some (.lst (xs0 ++ [.ref p3])) := upd_same
          generalize upd (upd H2 p3 (.tup [.str (Str.ofString ")"), .bl true])) wa (.lst (xs0 ++ [.ref p3])) = H4 at kt4 hp4 sm4 st4 hw4
          have ha4 := kt4 _ _ ha
          have hys4 := hys.keep kt4
          have w41 : It.w (.txt (Str.ofString ")")) = [41] := l41
          have m41 : It.m (.txt (Str.ofString ")")) = 1 := rfl
          have szA := szAll_le ds
          refine ⟨_, rfl, a, ys, rfl, .inr (SqT.of ha4), (ys.length : Int), rfl, by omega, by omega, by omega, ?_, ?_⟩
          · have := szAll_len ds
            omega
          refine for_rangeC (lo := 0 + (((ys.length : Int) - 0).toNat : Int) - 1) (c := -1) (n := ((ys.length : Int) - 0).toNat) (fun i σ H' => TuW x pa wa a (ps ++ [Str.ofString "("]) its0 ds ys.length H H4 i σ H') ⟨_, _, _, rfl, hp4, hw4, st4, ?_, ?_, sm4, KeepT.refl _, ?_⟩ ?_ ?_
          · rw [wAll_snoc, w41, if_neg (by omega), Nat.sub_zero, hyl, List.drop_length]
            rfl
          · intro u hu
            rcases List.mem_append.mp hu with q | q
            · exact hok u (List.mem_append_left _ q)
            · rw [List.mem_singleton.mp q]
              exact True.intro
          · rw [mAll_snoc, m41]
            omega
          · rintro i σ H5 hi ⟨xs5, its5, y5, rfl, hp5, hw5, st5, hwa5, hok5, sm5, kt5, hm5⟩
            have hi' : i < ys.length := by omega
            have hkl : ys.length - 1 - i < ys.length := by omega
            have ek : (0 + (((ys.length : Int) - 0).toNat : Int) - 1) + ((i : Nat) : Int) * (-1) = ((ys.length - 1 - i : Nat) : Int) := by omega
            have hv5 : ys[ys.length - 1 - i]? = some ys[ys.length - 1 - i] := List.getElem?_eq_getElem hkl
            obtain ⟨d5, hd5, vd5⟩ := hys4.get _ hv5
            have ha5 := kt5 _ _ ha4
            have hs5 := hd1.get d5 (List.mem_of_getElem? hd5)
            have szd := szAll_drop ds hd5
            have szl := szAll_le ds (ys.length - i)
            have e1 : ys.length - 1 - i + 1 = ys.length - i := by omega
            rw [e1] at szd
            have lx5 := st5.len
            have ml5 := mAll_len its5
            rw [if_neg (by omega)] at hwa5
            refine ⟨_, rfl, .inl ⟨rfl, _, SqL.of hw5⟩, _, rfl, _, rfl, a, ys, ((ys.length - 1 - i : Nat) : Int), _, rfl, congrArg V.int ek, SqT.of ha5, atI_nat hv5, by show 2 ≤ sizeLine; omega, fun p6 np6 => ?_⟩
            have e6 := same_upd (o := HO.tup [ys[ys.length - 1 - i], .bl false]) np6
            have hw6 := e6 _ _ hw5
            refine ⟨wa, _, _, rfl, rfl, hw6, by omega, ?_⟩
            have k7 : KeepT H5 (upd (upd H5 p6 (.tup [ys[ys.length - 1 - i], .bl false])) wa (.lst (xs5 ++ [.ref p6]))) := (Same.keepT e6).trans (keep_lst hw6)
            have hp7 : upd (upd H5 p6 (.tup [ys[ys.length - 1 - i], .bl false])) wa (.lst (xs5 ++ [.ref p6])) pa = some (.lst ((ps ++ [Str.ofString "("]).map V.str)) := by rw [upd_ne npw]; exact e6 _ _ hp5
            have hw7 : upd (upd H5 p6 (.tup [ys[ys.length - 1 - i], .bl false])) wa (.lst (xs5 ++ [.ref p6])) wa = some (.lst (xs5 ++ [.ref p6])) := upd_same
            have sm7 : Same H (upd (upd H5 p6 (.tup [ys[ys.length - 1 - i], .bl false])) wa (.lst (xs5 ++ [.ref p6]))) := same_put (sm5.trans e6) nwa0
            have st7 : Stk (upd (upd H5 p6 (.tup [ys[ys.length - 1 - i], .bl false])) wa (.lst (xs5 ++ [.ref p6]))) (xs5 ++ [.ref p6]) (its5 ++ [.val d5]) :=
              .snoc (st5.keep k7) (.val (keep_lst hw6 _ _ upd_same) (vd5.keep (kt5.trans k7)))
            generalize upd (upd H5 p6 (.tup [ys[ys.length - 1 - i], .bl false])) wa (.lst (xs5 ++ [.ref p6])) = H7 at k7 hp7 hw7 sm7 st7
            have hok7 : ∀ it ∈ its5 ++ [It.val d5], it.ok := fun u hu => by
              rcases List.mem_append.mp hu with q | q
              · exact hok5 u q
              · rw [List.mem_singleton.mp q]
                exact hs5
            have hmv : It.m (.val d5) = sz d5 := rfl
            have hwv : It.w (.val d5) = wr d5 := rfl
            refine ⟨_, rfl, _, 0, rfl, rfl, _, rfl, ite2 (fun e => ?_) (fun e => ?_)⟩
            · have e0 : (0 : Int) < (0 + (((ys.length : Int) - 0).toNat : Int) - 1) + ((i : Nat) : Int) * (-1) := of_decide_eq_true e
              rw [ek] at e0
              refine ⟨_, rfl, .inl ⟨rfl, _, SqL.of hw7⟩, by show 2 ≤ sizeLine; omega, fun p8 np8 => ?_⟩
              have e8 := same_upd (o := HO.tup [.str (Str.ofString " "), .bl true]) np8
              have hw8 := e8 _ _ hw7
              refine ⟨wa, _, _, rfl, rfl, hw8, ?_, ?_⟩
              · rw [List.length_append]
                show xs5.length + 1 < sizeLine
                omega
              have k9 : KeepT H7 (upd (upd H7 p8 (.tup [.str (Str.ofString " "), .bl true])) wa (.lst (xs5 ++ [.ref p6] ++ [.ref p8]))) := (Same.keepT e8).trans (keep_lst hw8)
              refine ⟨_, its5 ++ [.val d5] ++ [.txt (Str.ofString " ")], _, rfl, by rw [upd_ne npw]; exact e8 _ _ hp7, upd_same, .snoc (st7.keep k9) (.txt (keep_lst hw8 _ _ upd_same) (by decide +kernel)), ?_, ?_, same_put (sm7.trans e8) nwa0, (kt5.trans k7).trans k9, ?_⟩
              · have w32 : It.w (.txt (Str.ofString " ")) = [32] := l32
                rw [wAll_snoc, wAll_snoc, hwa5, w32, hwv, if_neg (by omega), show ys.length - (i + 1) = ys.length - 1 - i by omega, wrT_drop ds hd5, e1]
                simp
              · intro u hu
                rcases List.mem_append.mp hu with q | q
                · exact hok7 u q
                · rw [List.mem_singleton.mp q]
                  exact True.intro
              · have m32 : It.m (.txt (Str.ofString " ")) = 1 := rfl
                rw [mAll_snoc, mAll_snoc, m32, hmv, show ys.length - (i + 1) = ys.length - 1 - i by omega, szd]
                omega
            · have e0 : ¬ (0 : Int) < (0 + (((ys.length : Int) - 0).toNat : Int) - 1) + ((i : Nat) : Int) * (-1) := fun h => e (decide_eq_true h)
              rw [ek] at e0
              have ei : ys.length - 1 - i = 0 := by omega
              refine ⟨_, its5 ++ [.val d5], _, rfl, hp7, hw7, st7, ?_, hok7, sm7, kt5.trans k7, ?_⟩
              · rw [ei] at hd5
                rw [wAll_snoc, hwa5, hwv, if_pos (by omega), wrF_zero ds hd5, show ys.length - i = 1 by omega]
                simp
              · rw [mAll_snoc, hmv, show ys.length - (i + 1) = ys.length - 1 - i by omega, szd]
                omega
          · rintro σ H5 ⟨xs5, its5, y5, rfl, hp5, hw5, st5, hwa5, hok5, sm5, kt5, hm5⟩
            rw [show ((ys.length : Int) - 0).toNat = ys.length by omega] at hwa5 hm5
            rw [wrF_end hyl.symm] at hwa5
            have szl := szAll_le ds (ys.length - ys.length)
            refine ⟨mAll its5, by omega, ps ++ [Str.ofString "("], xs5, its5, _, _, _, rfl, hp5, hw5, st5, ?_, hok5, sm5, ?_, rfl⟩
            · rw [flat_snoc, l40, hwa5, ← hfl, hwf, hw1']
              show _ = flat ps ++ (40 :: wrF ds ++ wAll its0)
              simp
            · rw [List.length_append]
              show ps.length + 1 + mAll its5 ≤ sz d
              omega
        · refine ⟨_, rfl, v1, .ty "tuple", tv, .type "tuple", false, rfl, .ty _, hty, hkit, _, rfl, iteF ?_⟩
          refine ⟨_, rfl, .inl ⟨rfl, _, SqL.of hp1⟩, _, rfl, v1, d1, rfl, hv1, hd1.sm hnt, hnt, fun r hr => ?_⟩
          refine ⟨pa, _, _, rfl, rfl, hp1, by rw [List.length_map]; omega, ?_⟩
          refine ⟨mAll its0, by omega, ps ++ [r], xs0, its0, _, _, _, rfl, ?_, ?_, st1.keep (keep_lst hp1), ?_, fun u hu => hok u (List.mem_append_left _ hu), same_put sm1 npa, ?_, rfl⟩
          · rw [upd_same, List.map_append]; rfl
          · rw [upd_ne nwp]; exact hw1
          · rw [flat_snoc, List.append_assoc, ← hfl, hwf, hr]
            rfl
          · rw [List.length_append]
            show ps.length + 1 + mAll its0 ≤ sz d
            omega
end
end Vl

set_option maxHeartbeats 4000000
namespace Vl
open PySem PySem.Spec PyProof.Rows L2 TL CwR PySem.StrLaws
/-! ### one sign of a text -/
def sg (t : Str) (k : Nat) : Str := cutS t (some (k : Int)) (some ((k : Int) + 1))
theorem tl_cut (t : Str) (a b : Nat) : tl (cutS t (some (a : Int)) (some (b : Int))) = ((tl t).drop a).take (b - a) := by
  show ((tl t).drop (HT.sIx t.length 0 (some (a : Int)))).take (HT.sIx t.length t.length (some (b : Int)) - HT.sIx t.length 0 (some (a : Int))) = _
  rw [HT.sIx_nat, HT.sIx_nat]
  have hl := len_tl t
  by_cases h : a ≤ t.length
  · rw [Nat.min_eq_left h]
    by_cases h2 : b ≤ t.length
    · rw [Nat.min_eq_left h2]
    · rw [Nat.min_eq_right (show t.length ≤ b by omega), List.take_of_length_le (i := t.length - a) (by rw [List.length_drop]; omega), List.take_of_length_le (i := b - a) (by rw [List.length_drop]; omega)]
  · rw [Nat.min_eq_right (show t.length ≤ a by omega), List.drop_eq_nil_of_le (show (tl t).length ≤ t.length by omega), List.drop_eq_nil_of_le (show (tl t).length ≤ a by omega), List.take_nil, List.take_nil]
theorem tl_sg (t : Str) (k : Nat) : tl (sg t k) = ((tl t).drop k).take 1 := by
  have e := tl_cut t k (k + 1)
  rw [show k + 1 - k = 1 by omega] at e
  exact e
theorem take1 (l : List Nat) (k : Nat) : (l.drop k).take 1 = (match l[k]? with | some c => [c] | none => []) := by
  cases h : l[k]? with
  | none =>
    rw [List.drop_eq_nil_of_le (List.getElem?_eq_none_iff.mp h)]
    rfl
  | some c =>
    have hk : k < l.length := (List.getElem?_eq_some_iff.mp h).1
    rw [List.drop_eq_getElem_cons hk]
    show [l[k]] = [c]
    rw [(List.getElem?_eq_some_iff.mp h).2]
theorem tl_sg' (t : Str) (k : Nat) : tl (sg t k) = (match (tl t)[k]? with | some c => [c] | none => []) := (tl_sg t k).trans (take1 _ k)
theorem sg_eq {t c1 : Str} {k c : Nat} (h : tl c1 = [c]) : (V.str (sg t k) = V.str c1) ↔ (tl t)[k]? = some c := by
  constructor
  · intro e
    have e2 := congrArg tl (V.str.inj e)
    rw [tl_sg', h] at e2
    cases hk : (tl t)[k]? with
    | none => rw [hk] at e2; cases e2
    | some d =>
      rw [hk] at e2
      rw [(List.cons.inj e2).1]
  · intro e
    refine congrArg V.str (ext_tl ?_)
    rw [tl_sg', e, h]
theorem sg_len (t : Str) (k : Nat) : (sg t k).length ≤ 1 := by
  rw [len_tl, tl_sg, List.length_take]
  omega
def plainLen : List Nat → Nat
  | [] => 0
  | c :: r => if plain c then 1 + plainLen r else 0
def plainB (z : Str) : Bool := match tl z with
  | [c] => decide (plain c)
  | _ => false
theorem plainLen_le : ∀ l : List Nat, plainLen l ≤ l.length
  | [] => Nat.le_refl 0
  | c :: r => by
    have := plainLen_le r
    show (if plain c then 1 + plainLen r else 0) ≤ r.length + 1
    by_cases h : plain c
    · rw [if_pos h]; omega
    · rw [if_neg h]; omega
theorem plainLen_at (l : List Nat) (k : Nat) : plainLen (l.drop k) = (match l[k]? with | some c => (if plain c then 1 + plainLen (l.drop (k + 1)) else 0) | none => 0) := by
  cases h : l[k]? with
  | none =>
    rw [List.drop_eq_nil_of_le (List.getElem?_eq_none_iff.mp h)]
    rfl
  | some c =>
    have hk : k < l.length := (List.getElem?_eq_some_iff.mp h).1
    rw [List.drop_eq_getElem_cons hk, (List.getElem?_eq_some_iff.mp h).2]
    rfl
theorem lt1 (a c : Nat) : decide ([a] < [c]) = decide (a < c) := by
  rw [Bool.eq_iff_iff, decide_eq_true_iff, decide_eq_true_iff]
  constructor
  · intro h
    cases h with
    | rel r => exact r
    | cons r => cases r
  · intro h
    exact List.Lex.rel h
abbrev sPlain : Stmt := top 14
abbrev sBehind : Stmt := top 13
theorem scPlain : FnScope ["sign"] ["sign"] (defScope sPlain) := ⟨rfl, rfl, rfl, by decide +kernel, rfl, by decide +kernel, by decide +kernel⟩
theorem scBehind : FnScope ["text", "at"] ["text", "at"] (defScope sBehind) := ⟨rfl, rfl, rfl, by decide +kernel, rfl, by decide +kernel, by decide +kernel⟩
def spPlain : Sp := fun vs H Q _ => ∃ z : Str, vs = [.str z] ∧ z.length ≤ 1 ∧ Q (.bl (plainB z)) H
def spBehind : Sp := fun vs H Q _ => ∃ (t : Str) (k : Nat), vs = [.str t, .int (k : Int)] ∧ t.length ≤ sizeLine ∧ Q (.int ((k + plainLen ((tl t).drop k) : Nat) : Int)) H
abbrev sSign : Stmt := top 15
theorem scSign : FnScope ["sign"] ["sign"] (defScope sSign) := ⟨rfl, rfl, rfl, by decide +kernel, rfl, by decide +kernel, by decide +kernel⟩
/-- one of the signs that texts have -/
def signB (z : Str) : Bool := match tl z with
  | [c] => decide (32 ≤ c ∧ c ≤ 126 ∧ c ≠ 37)
  | _ => false
def spSign : Sp := fun vs H Q _ => ∃ z : Str, vs = [.str z] ∧ z.length ≤ 1 ∧ Q (.bl (signB z)) H
theorem one_or {z : Str} (hl : z.length ≤ 1) : tl z = [] ∨ ∃ c, tl z = [c] := by
  have := len_tl z
  cases h : tl z with
  | nil => exact .inl rfl
  | cons c r =>
    rw [h, List.length_cons] at this
    exact .inr ⟨c, by rw [List.length_eq_zero_iff.mp (show r.length = 0 by omega)]⟩
section
variable {P : Program} {w : World} {K : PySem.W.Frag} {mg : Str → Option Value} {base : Heap}
theorem ok_sign {f : Addr} {fd : FuncData} {k : Nat} (F : FnP K "is_sign" sSign f fd) (mo : mg "ord" = none) (gP : ∃ t, mg "PERCENT" = some (.int 37 t)) : FnOk P w K mg base CX0 (k + 1) f fd ["sign"] spSign := by
  obtain ⟨tm, gP⟩ := gP
  refine F.ok scSign (fun vs H Q E h => ?_) (fun cdv A outer s H vs Q E hr h => ?_)
  · obtain ⟨x, rfl, _⟩ := h
    rfl
  · obtain ⟨z, rfl, hl, q⟩ := h
    refine ⟨_, PSs.nox (pss_one (ps_ret (pe_and (pe_chain op_le_str op_le_str pe_str (pv 0) pe_str) (pe_one (pe_cmpR op_ne (pe_callB call_ord (by rfl) mo (by decide +kernel) (pa_cons (pv 0) pa_nil)) (pe_glob (v := .int 37) (by rfl) gP ⟨_, rfl⟩) (nomark _)))))), ?_⟩
    have t32 : (Str.ofString " ").cps.toList = [32] := by decide +kernel
    have t126 : (Str.ofString "~").cps.toList = [126] := by decide +kernel
    refine ⟨_, rfl, _, z, rfl, rfl, _, rfl, ?_⟩
    rcases one_or hl with e | ⟨c, e⟩
    · have e' : z.cps.toList = [] := e
      have d1 : decide (z.cps.toList < (Str.ofString " ").cps.toList) = true := by rw [e', t32]; decide
      have ep : signB z = false := by unfold signB; rw [e]
      rw [d1]
      refine iteF ⟨false, rfl, iteF ?_⟩
      rw [ep] at q
      exact q
    · have e' : z.cps.toList = [c] := e
      have ep : signB z = decide (32 ≤ c ∧ c ≤ 126 ∧ c ≠ 37) := by unfold signB; rw [e]
      rw [ep] at q
      have d1 : decide (z.cps.toList < (Str.ofString " ").cps.toList) = decide (c < 32) := by rw [e', t32]; exact lt1 c 32
      have d2 : decide ((Str.ofString "~").cps.toList < z.cps.toList) = decide (126 < c) := by rw [e', t126]; exact lt1 126 c
      rw [d1]
      by_cases h1 : c < 32
      · rw [decide_eq_true h1]
        refine iteF ⟨false, rfl, iteF ?_⟩
        rw [decide_eq_false (fun h : 32 ≤ c ∧ c ≤ 126 ∧ c ≠ 37 => by have := h.1; omega)] at q
        exact q
      · rw [decide_eq_false h1]
        refine iteT ⟨z, _, rfl, rfl, _, rfl, ?_⟩
        rw [d2]
        by_cases h2 : 126 < c
        · rw [decide_eq_true h2]
          refine iteF ?_
          rw [decide_eq_false (fun h : 32 ≤ c ∧ c ≤ 126 ∧ c ≠ 37 => by have := h.2.1; omega)] at q
          exact q
        · rw [decide_eq_false h2]
          refine iteT ⟨_, rfl, z, rfl, ?_, rfl, ?_⟩
          · rw [len_tl, e]; rfl
          · have g : (z.cps.getD 0 0) = c := by
              have : z = ⟨#[c]⟩ := ext_tl e
              rw [this]
              rfl
            rw [g]
            by_cases h4 : c = 37
            · rw [decide_eq_false (fun h : 32 ≤ c ∧ c ≤ 126 ∧ c ≠ 37 => h.2.2 h4)] at q
              have d4 : decide (V.int (c : Int) = V.int 37) = true := decide_eq_true (by rw [h4]; rfl)
              rw [d4]
              exact q
            · rw [decide_eq_true (show 32 ≤ c ∧ c ≤ 126 ∧ c ≠ 37 from ⟨by omega, by omega, h4⟩)] at q
              have d4 : decide (V.int (c : Int) = V.int 37) = false := decide_eq_false (fun h => h4 (by have := V.int.inj h; omega))
              rw [d4]
              exact q
theorem ok_plain {f fS : Addr} {fd fdS : FuncData} {k : Nat} (F : FnP K "_is_plain" sPlain f fd) (FS : FnP K "is_sign" sSign fS fdS) (gS : mg "is_sign" = some (.ref fS)) (GS : FnOk P w K mg base CX0 k fS fdS ["sign"] spSign) : FnOk P w K mg base CX0 (k + 1) f fd ["sign"] spPlain := by
  have bS : Binds K fdS ["sign"] [] := FS.bindsN fun _ _ _ _ _ _ us hl => match us, hl with | [_], _ => rfl
  refine F.ok scPlain (fun vs H Q E h => ?_) (fun cdv A outer s H vs Q E hr h => ?_)
  · obtain ⟨x, rfl, _⟩ := h
    rfl
  · obtain ⟨z, rfl, hl, q⟩ := h
    refine ⟨_, PSs.nox (pss_one (ps_ret (pe_and (pe_call GS hr (by rfl) gS FS.kp bS .nil pass0 (pa_cons (pv 0) pa_nil)) (pe_one (pe_cmpR op_ne (pv 0) pe_str (nomark _)))))), ?_⟩
    have t34 : tl (Str.ofString "\"") = [34] := by decide +kernel
    refine ⟨_, rfl, z, rfl, hl, _, rfl, ?_⟩
    rcases one_or hl with e | ⟨c, e⟩
    · have es : signB z = false := by unfold signB; rw [e]
      have ep : plainB z = false := by unfold plainB; rw [e]
      rw [ep] at q
      rw [es]
      exact iteF q
    · have es : signB z = decide (32 ≤ c ∧ c ≤ 126 ∧ c ≠ 37) := by unfold signB; rw [e]
      have ep : plainB z = decide (plain c) := by unfold plainB; rw [e]
      rw [ep] at q
      rw [es]
      by_cases h0 : 32 ≤ c ∧ c ≤ 126 ∧ c ≠ 37
      · rw [decide_eq_true h0]
        refine iteT ⟨_, rfl, rfl, ?_⟩
        have d3 : (!decide (V.str z = V.str (Str.ofString "\""))) = decide (plain c) := by
          have d4 : decide (V.str z = V.str (Str.ofString "\"")) = decide (c = 34) := decide_eq_decide.mpr ⟨fun h => by
            have h' := congrArg tl (V.str.inj h)
            rw [e, t34] at h'
            exact (List.cons.inj h').1, fun h => congrArg V.str (ext_tl (by rw [e, t34, h]))⟩
          rw [d4]
          by_cases h3 : c = 34
          · rw [decide_eq_true h3, decide_eq_false (fun h : plain c => h.2.2.1 h3)]
            rfl
          · rw [decide_eq_false h3, decide_eq_true (show plain c from ⟨h0.1, h0.2.1, h3, h0.2.2⟩)]
            rfl
        show Q (.bl (!decide (V.str z = V.str (Str.ofString "\"")))) H
        rw [d3]
        exact q
      · rw [decide_eq_false h0]
        rw [decide_eq_false (fun h : plain c => h0 ⟨h.1, h.2.1, h.2.2.2⟩)] at q
        exact iteF q
theorem ok_behind {f fP : Addr} {fd fdP : FuncData} {k : Nat} (F : FnP K "_behind_plain_signs" sBehind f fd) (FP : FnP K "_is_plain" sPlain fP fdP) (gP : mg "_is_plain" = some (.ref fP)) (GP : FnOk P w K mg base CX0 k fP fdP ["sign"] spPlain) : FnOk P w K mg base CX0 (k + 1) f fd ["text", "at"] spBehind := by
  have bP : Binds K fdP ["sign"] [] := FP.bindsN fun _ _ _ _ _ _ us hl => match us, hl with | [_], _ => rfl
  refine F.ok scBehind (fun vs H Q E h => ?_) (fun cdv A outer s H vs Q E hr h => ?_)
  · obtain ⟨t, n, rfl, _⟩ := h
    rfl
  · obtain ⟨t, n, rfl, hz, q⟩ := h
    have hl := len_tl t
    refine ⟨_, PSs.nox (pss_cons (ps_while PassesOwn.never (pt_val (pe_call GP hr (by rfl) gP FP.kp bP .nil pass0 (pa_cons (pe_slice sl_str (pv 0) (po_some (pv 1)) (po_some (pe_op op_add (pv 1) pe_int))) pa_nil)))
        (pss_one (ps_aug (i := 1) scBehind.nd rfl (.inl rfl) pe_int ip_add))) (pss_one (ps_ret (pv 1)))), ?_⟩
    refine ⟨fun m σ H' => H' = H ∧ ∃ j : Nat, σ = [some (.str t), some (.int (j : Int))] ∧ j + plainLen ((tl t).drop j) = n + plainLen ((tl t).drop n) ∧ m = (tl t).length - j, ⟨_, rfl, n, rfl, rfl, rfl⟩, ?_⟩
    rintro m σ H' ⟨rfl, j, rfl, ej, rfl⟩
    have sl : (sg t j).length ≤ 1 := sg_len t j
    have pa := plainLen_at (tl t) j
    refine ⟨_, rfl, _, rfl, (j : Int), rfl, _, rfl, (j : Int), 1, rfl, rfl, (j : Int) + 1, rfl, t, rfl, hz, sg t j, rfl, sl, _, rfl, ?_⟩
    have et := tl_sg' t j
    cases hj : (tl t)[j]? with
    | none =>
      rw [hj] at et pa
      have eb : plainB (sg t j) = false := by unfold plainB; rw [et]
      rw [eb]
      refine iteF ⟨_, rfl, ?_⟩
      rw [← ej, pa] at q
      exact q
    | some c =>
      rw [hj] at et pa
      have eb : plainB (sg t j) = decide (plain c) := by unfold plainB; rw [et]
      rw [eb]
      have hjl : j < (tl t).length := (List.getElem?_eq_some_iff.mp hj).1
      by_cases hp : plain c
      · rw [decide_eq_true hp]
        have pa' : plainLen ((tl t).drop j) = 1 + plainLen ((tl t).drop (j + 1)) := by
          rw [pa]
          exact if_pos hp
        refine iteT ⟨fun σ' H2 => ∃ m', m' < (tl t).length - j ∧ H2 = H' ∧ ∃ j : Nat, σ' = [some (.str t), some (.int (j : Int))] ∧ j + plainLen ((tl t).drop j) = n + plainLen ((tl t).drop n) ∧ m' = (tl t).length - j, fun _ _ h => h, ?_⟩
        refine ⟨_, rfl, (j : Int), 1, rfl, rfl, _, ?_, rfl, j + 1, rfl, by omega, rfl⟩
        omega
      · rw [decide_eq_false hp]
        have pa' : plainLen ((tl t).drop j) = 0 := by
          rw [pa]
          exact if_neg hp
        refine iteF ⟨_, rfl, ?_⟩
        rw [← ej, pa'] at q
        exact q
end
end Vl

set_option maxHeartbeats 4000000
namespace Vl
open PySem PySem.Spec PyProof.Rows L2 TL CwR PySem.StrLaws
abbrev sNumber : Stmt := top 11
abbrev sText : Stmt := top 12
theorem scNumber : FnScope ["text", "at", "first", "behind"] ["text", "at"] (defScope sNumber) := ⟨rfl, rfl, rfl, by decide +kernel, rfl, by decide +kernel, by decide +kernel⟩
theorem scText : FnScope ["text", "at", "pieces", "end"] ["text", "at"] (defScope sText) := ⟨rfl, rfl, rfl, by decide +kernel, rfl, by decide +kernel, by decide +kernel⟩
def spNumber : Sp := fun vs H Q _ => ∃ (t : Str) (k : Nat), vs = [.str t, .int (k : Int)] ∧ t.length ≤ sizeLine ∧ k ≤ 2 * sizeLine ∧ Q (.int ((k + numLen ((tl t).drop k) : Nat) : Int)) H
def spText : Sp := fun vs H Q _ => ∃ (t : Str) (k : Nat) (v : List Nat) (n : Nat), vs = [.str t, .int (k : Int)] ∧ t.length ≤ sizeLine ∧ txtM ((tl t).drop k) = .ok v n ∧
  ∀ H' p r, Same H H' → H p = none → tl r = v → H' p = some (.tup [.str r, .int ((k + n : Nat) : Int)]) → Q (.ref p) H'
/-- a figure between two -/
theorem fig_at {t lo hi : Str} {a b : Nat} (hlo : lo.cps.toList = [a]) (hhi : hi.cps.toList = [b]) (k : Nat) :
    (!decide ((sg t k).cps.toList < lo.cps.toList)) = (match (tl t)[k]? with | some c => decide (a ≤ c) | none => false) ∧ (!decide (hi.cps.toList < (sg t k).cps.toList)) = (match (tl t)[k]? with | some c => decide (c ≤ b) | none => true) := by
  have e : (sg t k).cps.toList = _ := tl_sg' t k
  rw [e, hlo, hhi]
  cases (tl t)[k]? with
  | none =>
    refine ⟨?_, ?_⟩
    · show (!decide (([] : List Nat) < [a])) = false
      have h : ([] : List Nat) < [a] := List.Lex.nil
      rw [decide_eq_true h]
      rfl
    · show (!decide ([b] < ([] : List Nat))) = true
      rw [decide_eq_false (by intro h; cases h)]
      rfl
  | some c =>
    refine ⟨?_, ?_⟩
    · show (!decide ([c] < [a])) = decide (a ≤ c)
      rw [lt1, ← decide_not]
      exact decide_eq_decide.mpr (by omega)
    · show (!decide ([b] < [c])) = decide (c ≤ b)
      rw [lt1, ← decide_not]
      exact decide_eq_decide.mpr (by omega)
theorem cnt_at (m : Nat) (l : List Nat) (k : Nat) : cnt (m + 1) (l.drop k) = (match l[k]? with | some c => (if 48 ≤ c ∧ c ≤ 57 then 1 + cnt m (l.drop (k + 1)) else 0) | none => 0) := by
  cases h : l[k]? with
  | none =>
    rw [List.drop_eq_nil_of_le (List.getElem?_eq_none_iff.mp h)]
    rfl
  | some c =>
    have hk : k < l.length := (List.getElem?_eq_some_iff.mp h).1
    rw [List.drop_eq_getElem_cons hk, (List.getElem?_eq_some_iff.mp h).2]
    rfl
theorem figs_at (l : List Nat) (k : Nat) : figs (l.drop k) = (match l[k]? with | some c => (if 49 ≤ c ∧ c ≤ 57 then 1 + cnt 39 (l.drop (k + 1)) else 0) | none => 0) := by
  cases h : l[k]? with
  | none =>
    rw [List.drop_eq_nil_of_le (List.getElem?_eq_none_iff.mp h)]
    rfl
  | some c =>
    have hk : k < l.length := (List.getElem?_eq_some_iff.mp h).1
    rw [List.drop_eq_getElem_cons hk, (List.getElem?_eq_some_iff.mp h).2]
    rfl
/-- a number's length from its first figure's place -/
theorem numLen_at (l : List Nat) (k : Nat) (h0 : l[k]? ≠ some 48) : numLen (l.drop k) = (if l[k]? = some 45 then (if figs (l.drop (k + 1)) = 0 then 0 else 1 + figs (l.drop (k + 1))) else figs (l.drop k)) := by
  cases h : l[k]? with
  | none =>
    rw [List.drop_eq_nil_of_le (List.getElem?_eq_none_iff.mp h), if_neg (by simp)]
    rfl
  | some c =>
    have hk : k < l.length := (List.getElem?_eq_some_iff.mp h).1
    have e : l.drop k = c :: l.drop (k + 1) := by rw [List.drop_eq_getElem_cons hk, (List.getElem?_eq_some_iff.mp h).2]
    rw [e]
    have hc : c ≠ 48 := fun z => h0 (by rw [h, z])
    show (if c = 48 then 1 else if c = 45 then (if figs (l.drop (k + 1)) = 0 then 0 else 1 + figs (l.drop (k + 1))) else figs (c :: l.drop (k + 1))) = _
    rw [if_neg hc]
    by_cases h5 : c = 45
    · subst h5
      rw [if_pos rfl, if_pos rfl]
    · rw [if_neg h5, if_neg (fun z => h5 (Option.some.inj z))]
section
variable {P : Program} {w : World} {K : PySem.W.Frag} {mg : Str → Option Value} {base : Heap}
theorem ok_number {f : Addr} {fd : FuncData} {k : Nat} (F : FnP K "_behind_number" sNumber f fd) (gM : ∃ t, mg "MOST_FIGURES" = some (.int 40 t)) : FnOk P w K mg base CX0 (k + 1) f fd ["text", "at"] spNumber := by
  obtain ⟨tm, gM⟩ := gM
  refine F.ok scNumber (fun vs H Q E h => ?_) (fun cdv A outer s H vs Q E hr h => ?_)
  · obtain ⟨t, n, rfl, _⟩ := h
    rfl
  · obtain ⟨t, n, rfl, hz, hn, q⟩ := h
    have hs := szl
    refine ⟨_, PSs.nox (pss_cons (ps_if (pt_cmpR op_eq (pe_slice sl_str (pv 0) (po_some (pv 1)) (po_some (pe_op op_add (pv 1) pe_int))) pe_str (nomark _)) (pss_one (ps_ret (pe_op op_add (pv 1) pe_int))) pss_nil)
      (C8.pss_cut (ps_set (i := 2) scNumber.nd rfl (.inl rfl) (pe_ifExp (pt_cmpR op_eq (pe_slice sl_str (pv 0) (po_some (pv 1)) (po_some (pe_op op_add (pv 1) pe_int))) pe_str (nomark _)) (pe_op op_add (pv 1) pe_int) (pv 1)))
      (pss_cons (ps_if (pt_not (pt_chain op_le_str op_le_str pe_str (pe_slice sl_str (pv 0) (po_some (pv 2)) (po_some (pe_op op_add (pv 2) pe_int))) pe_str)) (pss_one (ps_ret (pv 1))) pss_nil)
      (pss_cons (ps_set (i := 3) scNumber.nd rfl (.inl rfl) (pe_op op_add (pv 2) pe_int))
      (pss_cons (ps_while PassesOwn.never (PW.pt (pw_and (pt_cmpR op_lt (pv 3) (pe_op op_add (pv 2) (pe_glob (v := .int 40) (by rfl) gM ⟨_, rfl⟩)) (nomark _)) (pw_and1 (pt_chain op_le_str op_le_str pe_str (pe_slice sl_str (pv 0) (po_some (pv 3)) (po_some (pe_op op_add (pv 3) pe_int))) pe_str))))
        (pss_one (ps_aug (i := 3) scNumber.nd rfl (.inl rfl) pe_int ip_add)))
      (pss_one (ps_ret (pv 3)))))))), ?_⟩
    have t48 : tl (Str.ofString "0") = [48] := by decide +kernel
    have t45 : tl (Str.ofString "-") = [45] := by decide +kernel
    have c49 : (Str.ofString "1").cps.toList = [49] := by decide +kernel
    have c57 : (Str.ofString "9").cps.toList = [57] := by decide +kernel
    have c48 : (Str.ofString "0").cps.toList = [48] := by decide +kernel
    refine ⟨_, rfl, _, rfl, (n : Int), rfl, _, rfl, (n : Int), 1, rfl, rfl, (n : Int) + 1, rfl, t, rfl, hz, rfl, _, rfl, ite2 (fun e => ?_) (fun e => ?_)⟩
    · have e0 : (tl t)[n]? = some 48 := (sg_eq t48).mp (of_decide_eq_true e)
      have en : numLen ((tl t).drop n) = 1 := by
        have hk : n < (tl t).length := (List.getElem?_eq_some_iff.mp e0).1
        rw [List.drop_eq_getElem_cons hk, (List.getElem?_eq_some_iff.mp e0).2]
        rfl
      rw [en] at q
      exact ⟨_, rfl, (n : Int), 1, rfl, rfl, q⟩
    · have e0 : (tl t)[n]? ≠ some 48 := fun h => e (decide_eq_true ((sg_eq t48).mpr h))
      have en := numLen_at (tl t) n e0
      refine ⟨fun σ' H' => H' = H ∧ ∃ fst : Nat, σ' = [some (.str t), some (.int (n : Int)), some (.int (fst : Int)), none] ∧ fst ≤ n + 1 ∧ n ≤ fst ∧ numLen ((tl t).drop n) = (if figs ((tl t).drop fst) = 0 then 0 else fst - n + figs ((tl t).drop fst)), ?_, ?_⟩
      · refine ⟨_, rfl, _, rfl, (n : Int), rfl, _, rfl, (n : Int), 1, rfl, rfl, (n : Int) + 1, rfl, t, rfl, hz, rfl, _, rfl, ite2 (fun e => ?_) (fun e => ?_)⟩
        · have e1 : (tl t)[n]? = some 45 := (sg_eq t45).mp (of_decide_eq_true e)
          refine ⟨_, rfl, (n : Int), 1, rfl, rfl, rfl, n + 1, rfl, Nat.le_refl _, by omega, ?_⟩
          rw [en, if_pos e1, show n + 1 - n = 1 by omega]
        · have e1 : (tl t)[n]? ≠ some 45 := fun h => e (decide_eq_true ((sg_eq t45).mpr h))
          refine ⟨_, rfl, rfl, n, rfl, by omega, Nat.le_refl _, ?_⟩
          rw [en, if_neg e1, Nat.sub_self]
          by_cases hf : figs ((tl t).drop n) = 0
          · rw [if_pos hf, hf]
          · rw [if_neg hf, Nat.zero_add]
      · rintro σ' H' ⟨rfl, fst, rfl, f1, f0, ef⟩
        obtain ⟨g1, g2⟩ := fig_at (t := t) c49 c57 fst
        have fa := figs_at (tl t) fst
        refine ⟨_, rfl, _, rfl, (fst : Int), rfl, _, rfl, (fst : Int), 1, rfl, rfl, (fst : Int) + 1, rfl, t, rfl, hz, _, sg t fst, rfl, rfl, _, rfl, ?_⟩
        have back : figs ((tl t).drop fst) = 0 → Q (.int (n : Int)) H' := fun h => by
          rw [ef, if_pos h] at q
          exact q
        rw [g1]
        cases hc : (tl t)[fst]? with
        | none =>
          rw [hc] at fa
          refine iteF ⟨_, rfl, iteT ⟨_, rfl, back fa⟩⟩
        | some c =>
          rw [hc] at fa g2
          have fa' : figs ((tl t).drop fst) = (if 49 ≤ c ∧ c ≤ 57 then 1 + cnt 39 ((tl t).drop (fst + 1)) else 0) := fa
          show if decide (49 ≤ c) = true then _ else _
          by_cases h1 : 49 ≤ c
          · rw [decide_eq_true h1]
            refine iteT ⟨sg t fst, _, rfl, rfl, _, rfl, ?_⟩
            rw [g2]
            show if (!decide (c ≤ 57)) = true then _ else _
            by_cases h2 : c ≤ 57
            · refine iteNS h2 ?_
              rw [if_pos ⟨h1, h2⟩] at fa'
              rw [fa', if_neg (by omega)] at ef
              refine ⟨_, rfl, (fst : Int), 1, rfl, rfl, ?_⟩
              refine ⟨fun m σ H2 => H2 = H' ∧ ∃ j : Nat, σ = [some (.str t), some (.int (n : Int)), some (.int (fst : Int)), some (.int ((fst + 1 + j : Nat) : Int))] ∧ j ≤ 39 ∧ j + cnt (39 - j) ((tl t).drop (fst + 1 + j)) = cnt 39 ((tl t).drop (fst + 1)) ∧ m = 39 - j, ⟨39, rfl, 0, rfl, by omega, by simp, rfl⟩, ?_⟩
              rintro m σ H2 ⟨rfl, j, rfl, j39, ej, rfl⟩
              have fin : cnt (39 - j) ((tl t).drop (fst + 1 + j)) = 0 → Q (.int ((fst + 1 + j : Nat) : Int)) H2 := fun h => by
                have e1 : n + numLen ((tl t).drop n) = fst + 1 + j := by omega
                rw [e1] at q
                exact q
              refine ⟨_, rfl, _, rfl, (fst : Int), 40, rfl, rfl, _, _, rfl, rfl, _, rfl, ite2 (fun e => ?_) (fun e => ?_)⟩
              · have hj : j < 39 := by
                  have := of_decide_eq_true e
                  omega
                obtain ⟨k1, k2⟩ := fig_at (t := t) c48 c57 (fst + 1 + j)
                have ca := cnt_at (38 - j) (tl t) (fst + 1 + j)
                rw [show 38 - j + 1 = 39 - j by omega] at ca
                refine ⟨_, rfl, _, rfl, ((fst + 1 + j : Nat) : Int), rfl, _, rfl, ((fst + 1 + j : Nat) : Int), 1, rfl, rfl, ((fst + 1 + j : Nat) : Int) + 1, rfl, t, rfl, hz, _, sg t (fst + 1 + j), rfl, rfl, _, rfl, ?_⟩
                rw [k1]
                cases hd : (tl t)[fst + 1 + j]? with
                | none =>
                  rw [hd] at ca
                  exact iteF ⟨_, rfl, iteF ⟨_, rfl, fin ca⟩⟩
                | some c2 =>
                  rw [hd] at ca k2
                  have ca' : cnt (39 - j) ((tl t).drop (fst + 1 + j)) = (if 48 ≤ c2 ∧ c2 ≤ 57 then 1 + cnt (38 - j) ((tl t).drop (fst + 1 + j + 1)) else 0) := ca
                  show if decide (48 ≤ c2) = true then _ else _
                  by_cases q1 : 48 ≤ c2
                  · rw [decide_eq_true q1]
                    refine iteT ⟨sg t (fst + 1 + j), _, rfl, rfl, _, rfl, ?_⟩
                    rw [k2]
                    show if decide (c2 ≤ 57) = true then _ else _
                    by_cases q2 : c2 ≤ 57
                    · rw [if_pos ⟨q1, q2⟩] at ca'
                      rw [decide_eq_true q2]
                      refine iteT ⟨fun σ' H3 => ∃ m', m' < 39 - j ∧ H3 = H2 ∧ ∃ j : Nat, σ' = [some (.str t), some (.int (n : Int)), some (.int (fst : Int)), some (.int ((fst + 1 + j : Nat) : Int))] ∧ j ≤ 39 ∧ j + cnt (39 - j) ((tl t).drop (fst + 1 + j)) = cnt 39 ((tl t).drop (fst + 1)) ∧ m' = 39 - j, fun _ _ h => h, ?_⟩
                      refine ⟨_, rfl, ((fst + 1 + j : Nat) : Int), 1, rfl, rfl, 39 - (j + 1), by omega, rfl, j + 1, rfl, by omega, ?_, rfl⟩
                      rw [show 39 - (j + 1) = 38 - j by omega, show fst + 1 + (j + 1) = fst + 1 + j + 1 by omega]
                      omega
                    · rw [if_neg (fun h => q2 h.2)] at ca'
                      rw [decide_eq_false q2]
                      exact iteF ⟨_, rfl, fin ca'⟩
                  · rw [if_neg (fun h => q1 h.1)] at ca'
                    rw [decide_eq_false q1]
                    exact iteF ⟨_, rfl, iteF ⟨_, rfl, fin ca'⟩⟩
              · have hj : j = 39 := by
                  rcases Nat.lt_or_ge j 39 with h | h
                  · exact absurd (decide_eq_true (show (((fst + 1 + j : Nat) : Int)) < (fst : Int) + 40 by omega)) e
                  · omega
                refine iteF ⟨_, rfl, fin ?_⟩
                rw [hj]
                rfl
            · rw [decide_eq_false h2]
              rw [if_neg (fun h => h2 h.2)] at fa'
              exact iteT ⟨_, rfl, back fa'⟩
          · rw [decide_eq_false h1]
            rw [if_neg (fun h => h1 h.1)] at fa'
            exact iteF ⟨_, rfl, iteT ⟨_, rfl, back fa'⟩⟩
end
end Vl

set_option maxHeartbeats 4000000
namespace Vl
open PySem PySem.Spec PyProof.Rows L2 TL CwR PySem.StrLaws
/-- up to the first sign that isn't plain -/
theorem txtM_split : ∀ (l v : List Nat) (n : Nat), txtM l = .ok v n → ∃ r, l.drop (plainLen l) = 34 :: r ∧
    ((r.head? ≠ some 34 ∧ v = l.take (plainLen l) ∧ n = plainLen l + 1) ∨ ∃ r' v' n', r = 34 :: r' ∧ txtM r' = .ok v' n' ∧ v = l.take (plainLen l) ++ 34 :: v' ∧ n = plainLen l + 2 + n')
  | [], v, n, h => by cases h
  | [c], v, n, h => by
    have h' : (if c = 34 then TR.ok [] 1 else if plain c then .err 1 else .err 0) = .ok v n := h
    by_cases h1 : c = 34
    · rw [if_pos h1] at h'
      cases h'
      subst h1
      have e : plainLen [34] = 0 := rfl
      rw [e]
      exact ⟨[], rfl, .inl ⟨by simp, rfl, rfl⟩⟩
    · rw [if_neg h1] at h'
      by_cases h2 : plain c
      · rw [if_pos h2] at h'; cases h'
      · rw [if_neg h2] at h'; cases h'
  | c :: e :: r, v, n, h => by
    have h' : (if c = 34 then (if e = 34 then (txtM r).up [34] 2 else TR.ok [] 1) else if plain c then (txtM (e :: r)).up [c] 1 else .err 0) = .ok v n := h
    by_cases h1 : c = 34
    · rw [if_pos h1] at h'
      subst h1
      have ep : plainLen (34 :: e :: r) = 0 := rfl
      rw [ep]
      by_cases h2 : e = 34
      · rw [if_pos h2] at h'
        subst h2
        cases ht : txtM r with
        | err m => rw [ht] at h'; cases h'
        | ok v' n' =>
          rw [ht] at h'
          cases h'
          exact ⟨34 :: r, rfl, .inr ⟨r, v', n', rfl, ht, rfl, by omega⟩⟩
      · rw [if_neg h2] at h'
        cases h'
        exact ⟨e :: r, rfl, .inl ⟨fun z => h2 (Option.some.inj z), rfl, rfl⟩⟩
    · rw [if_neg h1] at h'
      by_cases h2 : plain c
      · rw [if_pos h2] at h'
        have ep : plainLen (c :: e :: r) = plainLen (e :: r) + 1 := by
          show (if plain c then 1 + plainLen (e :: r) else 0) = _
          rw [if_pos h2]
          omega
        cases ht : txtM (e :: r) with
        | err m => rw [ht] at h'; cases h'
        | ok v' n' =>
          rw [ht] at h'
          cases h'
          obtain ⟨r2, e2, q⟩ := txtM_split (e :: r) v' n' ht
          rw [ep]
          refine ⟨r2, e2, ?_⟩
          rcases q with ⟨q1, q2, q3⟩ | ⟨r', v2, n2, q1, q2, q3, q4⟩
          · exact .inl ⟨q1, by rw [q2]; rfl, by omega⟩
          · exact .inr ⟨r', v2, n2, q1, q2, by rw [q3]; rfl, by omega⟩
      · rw [if_neg h2] at h'; cases h'
theorem txtM_len : ∀ (l v : List Nat) (n : Nat), txtM l = .ok v n → v.length + 1 ≤ n ∧ n ≤ l.length
  | [], v, n, h => by cases h
  | [c], v, n, h => by
    have h' : (if c = 34 then TR.ok [] 1 else if plain c then .err 1 else .err 0) = .ok v n := h
    by_cases h1 : c = 34
    · rw [if_pos h1] at h'
      cases h'
      exact ⟨Nat.le_refl 1, Nat.le_refl 1⟩
    · rw [if_neg h1] at h'
      by_cases h2 : plain c
      · rw [if_pos h2] at h'; cases h'
      · rw [if_neg h2] at h'; cases h'
  | c :: e :: r, v, n, h => by
    have h' : (if c = 34 then (if e = 34 then (txtM r).up [34] 2 else TR.ok [] 1) else if plain c then (txtM (e :: r)).up [c] 1 else .err 0) = .ok v n := h
    have el : (c :: e :: r).length = r.length + 2 := rfl
    by_cases h1 : c = 34
    · rw [if_pos h1] at h'
      by_cases h2 : e = 34
      · rw [if_pos h2] at h'
        cases ht : txtM r with
        | err m => rw [ht] at h'; cases h'
        | ok v' n' =>
          rw [ht] at h'
          cases h'
          have := txtM_len r v' n' ht
          rw [el]
          refine ⟨?_, by omega⟩
          show v'.length + 1 + 1 ≤ _
          omega
      · rw [if_neg h2] at h'
        cases h'
        rw [el]
        exact ⟨Nat.le_refl 1, by omega⟩
    · rw [if_neg h1] at h'
      by_cases h2 : plain c
      · rw [if_pos h2] at h'
        cases ht : txtM (e :: r) with
        | err m => rw [ht] at h'; cases h'
        | ok v' n' =>
          rw [ht] at h'
          cases h'
          have := txtM_len (e :: r) v' n' ht
          have e2 : (e :: r).length = r.length + 1 := rfl
          rw [el]
          refine ⟨?_, by omega⟩
          show v'.length + 1 + 1 ≤ _
          omega
      · rw [if_neg h2] at h'; cases h'
section
variable {P : Program} {w : World} {K : PySem.W.Frag} {mg : Str → Option Value} {base : Heap}
theorem ok_text {f fB : Addr} {fd fdB : FuncData} {k : Nat} (F : FnP K "_read_text" sText f fd) (FB : FnP K "_behind_plain_signs" sBehind fB fdB) (gB : mg "_behind_plain_signs" = some (.ref fB)) (GB : FnOk P w K mg base CX0 k fB fdB ["text", "at"] spBehind) : FnOk P w K mg base CX0 (k + 1) f fd ["text", "at"] spText := by
  have bB : Binds K fdB ["text", "at"] [] := FB.bindsN fun _ _ _ _ _ _ us hl => match us, hl with | [_, _], _ => rfl
  refine F.ok scText (fun vs H Q E h => ?_) (fun cdv A outer s H vs Q E hr h => ?_)
  · obtain ⟨t, n, v, m, rfl, _⟩ := h
    rfl
  · obtain ⟨t, k0, v, n, rfl, hz, ht, q⟩ := h
    have hs := szl
    have hl := len_tl t
    have t34 : tl (Str.ofString "\"") = [34] := by decide +kernel
    have l34 : (Str.ofString "\"").length = 1 := by decide +kernel
    refine ⟨_, PSs.nox (pss_cons (ps_set (i := 2) scText.nd rfl (.inl rfl) (pe_lst pa_nil))
      (pss_one (ps_while PassesOwn.never (pt_val pe_bl) (pss_cons (ps_set (i := 3) scText.nd rfl (.inl rfl) (pe_call GB hr (by rfl) gB FB.kp bB .nil pass0 (pa_cons (pv 0) (pa_cons (pv 1) pa_nil))))
      (pss_cons (ps_expr (pe_bm PySem.F.plainAttrs_list PySem.F.slot_list_append PySem.F.type_list_append mt_append (pv 2) (pa_cons (pe_slice sl_str (pv 0) (po_some (pv 1)) (po_some (pv 3))) pa_nil)))
      (pss_cons (ps_if (pt_cmpR op_ne (pe_slice sl_str (pv 0) (po_some (pv 3)) (po_some (pe_op op_add (pv 3) (pe_int)))) (pe_str) (nomark _)) (pss_one ps_never) pss_nil)
      (pss_cons (ps_if (pt_cmpR op_ne (pe_slice sl_str (pv 0) (po_some (pe_op op_add (pv 3) (pe_int))) (po_some (pe_op op_add (pv 3) (pe_int)))) (pe_str) (nomark _)) (pss_one (ps_ret (pe_tup (pa_cons (pe_join pe_str (pv 2)) (pa_cons (pe_op op_add (pv 3) (pe_int)) pa_nil))))) pss_nil)
      (pss_cons (ps_expr (pe_bm PySem.F.plainAttrs_list PySem.F.slot_list_append PySem.F.type_list_append mt_append (pv 2) (pa_cons (pe_str) pa_nil)))
      (pss_one (ps_set (i := 1) scText.nd rfl (.inl rfl) (pe_op op_add (pv 3) (pe_int)))))))))))), ?_⟩
    refine ⟨Nat.zero_le _, fun pa npa => ?_⟩
    refine ⟨fun m σ H' => ∃ (j : Nat) (ps : List Str) (v' : List Nat) (n' : Nat) (y3 : Option V), σ = [some (.str t), some (.int (j : Int)), some (.ref pa), y3] ∧ H' pa = some (.lst (ps.map V.str)) ∧ Same H H' ∧ txtM ((tl t).drop j) = .ok v' n' ∧ flat ps ++ v' = v ∧ j + n' = k0 + n ∧ ps.length ≤ j ∧ m = n',
      ⟨n, k0, [], v, n, none, rfl, upd_same, same_upd npa, ht, rfl, rfl, Nat.zero_le _, rfl⟩, ?_⟩
    rintro m σ H' ⟨j, ps, v', n', y3, rfl, hp, sm, htj, hfl, hjn, hpl, rfl⟩
    obtain ⟨r, hr1, hcase⟩ := txtM_split _ _ _ htj
    have hlen := txtM_len _ _ _ htj
    rw [List.length_drop] at hlen
    have hpl2 : plainLen ((tl t).drop j) ≤ (tl t).length - j := by
      have := plainLen_le ((tl t).drop j)
      rw [List.length_drop] at this
      exact this
    refine ⟨_, rfl, iteT ⟨fun σ' H2 => ∃ m', m' < m ∧ ∃ (j : Nat) (ps : List Str) (v' : List Nat) (n' : Nat) (y3 : Option V), σ' = [some (.str t), some (.int (j : Int)), some (.ref pa), y3] ∧ H2 pa = some (.lst (ps.map V.str)) ∧ Same H H2 ∧ txtM ((tl t).drop j) = .ok v' n' ∧ flat ps ++ v' = v ∧ j + n' = k0 + n ∧ ps.length ≤ j ∧ m' = n', fun _ _ h => h, ?_⟩⟩
    have hvl := txtM_len _ _ _ ht
    rw [List.length_drop] at hvl
    obtain ⟨e, he⟩ : ∃ e, e = j + plainLen ((tl t).drop j) := ⟨_, rfl⟩
    have hde : (tl t).drop e = 34 :: r := by rw [he, ← List.drop_drop]; exact hr1
    have he0 : (tl t)[e]? = some 34 := drop_at hde
    have hde1 : (tl t).drop (e + 1) = r := drop_next (p := [34]) hde
    have hpc : tl (cutS t (some (j : Int)) (some (e : Int))) = ((tl t).drop j).take (plainLen ((tl t).drop j)) := by
      rw [tl_cut, show e - j = plainLen ((tl t).drop j) by omega]
    refine ⟨_, rfl, _, rfl, t, j, rfl, hz, ?_⟩
    rw [← he]
    refine ⟨_, rfl, .inl ⟨rfl, _, SqL.of hp⟩, _, rfl, _, rfl, (j : Int), rfl, _, rfl, (e : Int), rfl, t, rfl, hz, pa, _, _, rfl, rfl, hp, by rw [List.length_map]; omega, ?_⟩
    have hp1 : upd H' pa (.lst (ps.map V.str ++ [V.str (cutS t (some (j : Int)) (some (e : Int)))])) pa = some (.lst ((ps ++ [cutS t (some (j : Int)) (some (e : Int))]).map V.str)) := by rw [upd_same, List.map_append]; rfl
    have sm1 : Same H (upd H' pa (.lst (ps.map V.str ++ [V.str (cutS t (some (j : Int)) (some (e : Int)))]))) := same_put sm npa
    generalize upd H' pa (.lst (ps.map V.str ++ [V.str (cutS t (some (j : Int)) (some (e : Int)))])) = H1 at hp1 sm1
    refine ⟨_, rfl, _, rfl, (e : Int), rfl, _, rfl, (e : Int), 1, rfl, rfl, (e : Int) + 1, rfl, t, rfl, hz, rfl, _, rfl, iteNS ((sg_eq t34).mpr he0) ?_⟩
    refine ⟨_, rfl, _, rfl, (e : Int), 1, rfl, rfl, ((e + 1 : Nat) : Int), rfl, _, rfl, (e : Int), 2, rfl, rfl, ((e + 1 : Nat) : Int) + 1, rfl, t, rfl, hz, rfl, _, rfl, ?_⟩
    have hsg : (V.str (sg t (e + 1)) = V.str (Str.ofString "\"")) ↔ r.head? = some 34 := by
      rw [sg_eq t34, ← hde1, ← List.head?_drop]
    show if (!decide (V.str (sg t (e + 1)) = V.str (Str.ofString "\""))) = true then _ else _
    rcases hcase with ⟨q1, q2, q3⟩ | ⟨r', v2, n2, q1, q2, q3, q4⟩
    · have hd : decide (V.str (sg t (e + 1)) = V.str (Str.ofString "\"")) = false := decide_eq_false (fun h => q1 (hsg.mp h))
      rw [hd]
      refine iteT ?_
      have hfin : flat (ps ++ [cutS t (some (j : Int)) (some (e : Int))]) = v := by
        rw [flat_snoc, hpc, ← q2]
        exact hfl
      refine ⟨⟨_, rfl⟩, _, rfl, Str.ofString "", pa, ps ++ [cutS t (some (j : Int)) (some (e : Int))], rfl, rfl, .inl (SqL.of hp1), ?_, _, rfl, (e : Int), 1, rfl, rfl, by show 2 ≤ sizeLine; omega, fun p np => ?_⟩
      · have l0 : (Str.ofString "").length = 0 := by decide +kernel
        rw [l0, flat_len, hfin]
        omega
      · refine q _ p (Txt.join (Str.ofString "") (ps ++ [cutS t (some (j : Int)) (some (e : Int))])) (sm1.trans (same_upd np)) (sm1.free np) ?_ ?_
        · have t0 : tl (Str.ofString "") = [] := by decide +kernel
          rw [join_eq, tl_join, t0, joinL_nil]
          exact hfin
        · rw [upd_same]
          have e1 : ((k0 + n : Nat) : Int) = (e : Int) + 1 := by omega
          rw [e1]
    · have hd : decide (V.str (sg t (e + 1)) = V.str (Str.ofString "\"")) = true := decide_eq_true (hsg.mpr (by rw [q1]; rfl))
      rw [hd]
      refine iteF ?_
      refine ⟨_, rfl, .inl ⟨rfl, _, SqL.of hp1⟩, pa, _, _, rfl, rfl, hp1, by rw [List.length_map, List.length_append]; show ps.length + 1 < sizeLine; omega, ?_⟩
      have hde2 : (tl t).drop (e + 2) = r' := by
        rw [q1] at hde1
        exact drop_next (p := [34]) hde1
      refine ⟨_, rfl, (e : Int), 2, rfl, rfl, n2, by omega, e + 2, ps ++ [cutS t (some (j : Int)) (some (e : Int))] ++ [Str.ofString "\""], v2, n2, _, rfl, ?_, same_put sm1 npa, by rw [hde2]; exact q2, ?_, by omega, ?_, rfl⟩
      · rw [upd_same, List.map_append (l₂ := [Str.ofString "\""])]
        rfl
      · rw [flat_snoc, flat_snoc, hpc, t34, ← hfl, q3]
        simp
      · rw [List.length_append, List.length_append]
        show ps.length + 1 + 1 ≤ e + 2
        omega
end
end Vl

set_option maxHeartbeats 4000000
namespace Vl
open PySem PySem.Spec PyProof.Rows L2 TL CwR PySem.StrLaws
abbrev sReadFlat : Stmt := top 10
abbrev sClose : Stmt := top 9
abbrev sRead : Stmt := top 8
theorem scReadFlat : FnScope ["text", "at", "sign", "behind"] ["text", "at"] (defScope sReadFlat) := ⟨rfl, rfl, rfl, by decide +kernel, rfl, by decide +kernel, by decide +kernel⟩
theorem scClose : FnScope ["text", "at", "lists", "closed"] ["text", "at", "lists"] (defScope sClose) := ⟨rfl, rfl, rfl, by decide +kernel, rfl, by decide +kernel, by decide +kernel⟩
theorem scRead : FnScope ["text", "lists", "at", "value"] ["text"] (defScope sRead) := ⟨rfl, rfl, rfl, by decide +kernel, rfl, by decide +kernel, by decide +kernel⟩
structure Signs (K : PySem.W.Frag) (w : World) (mg : Str → Option Value) : Prop where
  ex : ∃ (d : Addr) (es : Array DictEntry) (n : Nat), KDict K w d es n ∧ mg "SIGNS" = some (.ref d) ∧ (∃ u, PySem.W.nsIn K d "-" = some (some u) ∧ RelV .non u) ∧ (∃ u, PySem.W.nsIn K d "+" = some (some u) ∧ RelV (.bl true) u) ∧ (∃ u, PySem.W.nsIn K d "!" = some (some u) ∧ RelV (.bl false) u)
def spReadFlat : Sp := fun vs H Q _ => ∃ (t : Str) (k n : Nat) (d : PyData), vs = [.str t, .int (k : Int)] ∧ t.length ≤ 10000000 ∧ k ≤ t.length ∧ Flat ((tl t).drop k) d n ∧
  ∀ H' p x, Same H H' → H p = none → H' p = some (.tup [x, .int ((k + n : Nat) : Int)]) → Vd H' x d → Q (.ref p) H'
section
variable {P : Program} {w : World} {K : PySem.W.Frag} {mg : Str → Option Value} {base : Heap}
theorem ok_readflat {f fT fN : Addr} {fd fdT fdN : FuncData} {k : Nat} (F : FnP K "_read_flat" sReadFlat f fd) (FT : FnP K "_read_text" sText fT fdT) (gT : mg "_read_text" = some (.ref fT)) (GT : FnOk P w K mg base CX0 k fT fdT ["text", "at"] spText)
    (FN : FnP K "_behind_number" sNumber fN fdN) (gN : mg "_behind_number" = some (.ref fN)) (GN : FnOk P w K mg base CX0 k fN fdN ["text", "at"] spNumber) (S : Signs K w mg) (mi : mg "int" = none) :
    FnOk P w K mg base CX0 (k + 1) f fd ["text", "at"] spReadFlat := by
  have bT : Binds K fdT ["text", "at"] [] := FT.bindsN fun _ _ _ _ _ _ us hl => match us, hl with | [_, _], _ => rfl
  have bN : Binds K fdN ["text", "at"] [] := FN.bindsN fun _ _ _ _ _ _ us hl => match us, hl with | [_, _], _ => rfl
  obtain ⟨dS, es, nS, D, gS, ⟨u1, e1, r1⟩, ⟨u2, e2, r2⟩, ⟨u3, e3, r3⟩⟩ := S.ex
  refine F.ok scReadFlat (fun vs H Q E h => ?_) (fun cdv A outer s H vs Q E hr h => ?_)
  · obtain ⟨t, k, n, d, rfl, _⟩ := h
    rfl
  · obtain ⟨t, k0, n, d, rfl, hz, hk, hf, q⟩ := h
    have hs := szl
    have t34 : tl (Str.ofString "\"") = [34] := by decide +kernel
    refine ⟨_, PSs.nox (pss_cons (ps_set (i := 2) scReadFlat.nd rfl (.inl rfl) (pe_slice sl_str (pv 0) (po_some (pv 1)) (po_some (pe_op op_add (pv 1) (pe_int)))))
      (pss_cons (ps_if (pt_cmpR op_eq (pv 2) (pe_str) (nomark _)) (pss_one (ps_ret (pe_call GT hr (by rfl) gT FT.kp bT .nil pass0 (pa_cons (pv 0) (pa_cons (pe_op op_add (pv 1) (pe_int)) pa_nil))))) pss_nil)
      (pss_cons (ps_set (i := 3) scReadFlat.nd rfl (.inl rfl) (pe_call GN hr (by rfl) gN FN.kp bN .nil pass0 (pa_cons (pv 0) (pa_cons (pv 1) pa_nil))))
      (pss_cons (ps_if (pt_cmpR op_gt (pv 3) (pv 1) (nomark _)) (pss_one (ps_ret (pe_tup (pa_cons (pe_callTy call_int_str (by rfl) mi (by decide +kernel) (pa_cons (pe_slice sl_str (pv 0) (po_some (pv 1)) (po_some (pv 3))) pa_nil)) (pa_cons (pv 3) pa_nil))))) pss_nil)
      (pss_cons (ps_if (pt_cmpR (op_in_kd D) (pv 2) (pe_glob (v := .ref dS) (by rfl) gS rfl) (by rfl)) (pss_one (ps_ret (pe_tup (pa_cons (pe_ix (ix_kd D) (pe_glob (v := .ref dS) (by rfl) gS rfl) (pv 2) (fun _ _ => rfl)) (pa_cons (pe_op op_add (pv 1) (pe_int)) pa_nil))))) pss_nil)
      (pss_one (ps_never))))))), ?_⟩
    refine ⟨_, rfl, _, rfl, (k0 : Int), rfl, _, rfl, (k0 : Int), 1, rfl, rfl, (k0 : Int) + 1, rfl, t, rfl, by omega, ?_⟩
    refine ⟨_, rfl, rfl, _, rfl, ?_⟩
    show if decide (V.str (sg t k0) = V.str (Str.ofString "\"")) = true then _ else _
    have dq : decide (V.str (sg t k0) = V.str (Str.ofString "\"")) = decide ((tl t)[k0]? = some 34) := decide_eq_decide.mpr (sg_eq t34)
    rw [dq]
    obtain ⟨l, hl⟩ : ∃ l, (tl t).drop k0 = l := ⟨_, rfl⟩
    rw [hl] at hf
    cases hf with
    | txt ht =>
      rename_i r v n'
      have hc : (tl t)[k0]? = some 34 := drop_at hl
      have hd : decide ((tl t)[k0]? = some 34) = true := decide_eq_true hc
      rw [hd]
      have hl1 : (tl t).drop (k0 + 1) = r := drop_next (p := [34]) hl
      refine iteT ⟨_, rfl, _, rfl, (k0 : Int), 1, rfl, rfl, t, k0 + 1, v, n', rfl, by omega, by rw [hl1]; exact ht, fun H' p z sm np hz2 hp => ?_⟩
      have ez : (⟨v.toArray⟩ : Str) = z := ext_tl hz2.symm
      rw [ez] at q
      refine q H' p (.str z) sm np ?_ (.str z)
      rw [hp]
      congr 6
      omega
    | num h34 hnl hn0 hn41 hint =>
      rename_i i
      have hc : (tl t)[k0]? ≠ some 34 := by rw [← List.head?_drop, hl]; exact h34
      have hd : decide ((tl t)[k0]? = some 34) = false := decide_eq_false hc
      rw [hd]
      refine iteF ⟨_, rfl, _, rfl, t, k0, rfl, by omega, by omega, ?_⟩
      rw [hl, hnl]
      refine ⟨_, rfl, _, rfl, ((k0 + n : Nat) : Int), (k0 : Int), rfl, rfl, _, rfl, ?_⟩
      have hd2 : decide ((k0 : Int) < ((k0 + n : Nat) : Int)) = true := decide_eq_true (by omega)
      rw [hd2]
      have hcut : cutS t (some (k0 : Int)) (some ((k0 + n : Nat) : Int)) = ⟨(l.take n).toArray⟩ := ext_tl (by
        rw [tl_cut, hl, show k0 + n - k0 = n by omega])
      refine iteT ⟨_, rfl, _, rfl, (k0 : Int), rfl, _, rfl, ((k0 + n : Nat) : Int), rfl, t, rfl, by omega, _, i, rfl, by rw [hcut]; exact hint, ?_, _, rfl, by show 2 ≤ sizeLine; omega, fun p np => ?_⟩
      · rw [len_tl, tl_cut, List.length_take]
        omega
      · exact q _ p (.int i) (same_upd np) np upd_same (.int i)
    | minus hn =>
      rename_i r
      have hc : (tl t)[k0]? = some 45 := drop_at hl
      have hd : decide ((tl t)[k0]? = some 34) = false := decide_eq_false (by rw [hc]; intro z; cases z)
      rw [hd]
      have hsg : sg t k0 = Str.ofString "-" := ext_tl (by rw [tl_sg', hc]; decide +kernel)
      refine iteF ⟨_, rfl, _, rfl, t, k0, rfl, by omega, by omega, ?_⟩
      have hnum : numLen (45 :: r) = 0 := hn
      rw [hl, hnum]
      refine ⟨_, rfl, _, rfl, ((k0 + 0 : Nat) : Int), (k0 : Int), rfl, rfl, _, rfl, ?_⟩
      have hd2 : decide ((k0 : Int) < ((k0 + 0 : Nat) : Int)) = false := decide_eq_false (by omega)
      rw [hd2]
      refine iteF ⟨_, rfl, sg t k0, some u1, rfl, rfl, by rw [hsg]; exact e1, _, rfl, iteT ?_⟩
      refine ⟨_, rfl, sg t k0, u1, .non, rfl, rfl, by rw [hsg]; exact e1, r1, _, rfl, (k0 : Int), 1, rfl, rfl, by show 2 ≤ sizeLine; omega, fun p np => ?_⟩
      exact q _ p .non (same_upd np) np upd_same .non
    | plus =>
      rename_i r
      have hc : (tl t)[k0]? = some 43 := drop_at hl
      have hd : decide ((tl t)[k0]? = some 34) = false := decide_eq_false (by rw [hc]; intro z; cases z)
      rw [hd]
      have hsg : sg t k0 = Str.ofString "+" := ext_tl (by rw [tl_sg', hc]; decide +kernel)
      refine iteF ⟨_, rfl, _, rfl, t, k0, rfl, by omega, by omega, ?_⟩
      have hnum : numLen (43 :: r) = 0 := by simp [numLen, figs]
      rw [hl, hnum]
      refine ⟨_, rfl, _, rfl, ((k0 + 0 : Nat) : Int), (k0 : Int), rfl, rfl, _, rfl, ?_⟩
      have hd2 : decide ((k0 : Int) < ((k0 + 0 : Nat) : Int)) = false := decide_eq_false (by omega)
      rw [hd2]
      refine iteF ⟨_, rfl, sg t k0, some u2, rfl, rfl, by rw [hsg]; exact e2, _, rfl, iteT ?_⟩
      refine ⟨_, rfl, sg t k0, u2, (.bl true), rfl, rfl, by rw [hsg]; exact e2, r2, _, rfl, (k0 : Int), 1, rfl, rfl, by show 2 ≤ sizeLine; omega, fun p np => ?_⟩
      exact q _ p (.bl true) (same_upd np) np upd_same (.bl true)
    | bang =>
      rename_i r
      have hc : (tl t)[k0]? = some 33 := drop_at hl
      have hd : decide ((tl t)[k0]? = some 34) = false := decide_eq_false (by rw [hc]; intro z; cases z)
      rw [hd]
      have hsg : sg t k0 = Str.ofString "!" := ext_tl (by rw [tl_sg', hc]; decide +kernel)
      refine iteF ⟨_, rfl, _, rfl, t, k0, rfl, by omega, by omega, ?_⟩
      have hnum : numLen (33 :: r) = 0 := by simp [numLen, figs]
      rw [hl, hnum]
      refine ⟨_, rfl, _, rfl, ((k0 + 0 : Nat) : Int), (k0 : Int), rfl, rfl, _, rfl, ?_⟩
      have hd2 : decide ((k0 : Int) < ((k0 + 0 : Nat) : Int)) = false := decide_eq_false (by omega)
      rw [hd2]
      refine iteF ⟨_, rfl, sg t k0, some u3, rfl, rfl, by rw [hsg]; exact e3, _, rfl, iteT ?_⟩
      refine ⟨_, rfl, sg t k0, u3, (.bl false), rfl, rfl, by rw [hsg]; exact e3, r3, _, rfl, (k0 : Int), 1, rfl, rfl, by show 2 ≤ sizeLine; omega, fun p np => ?_⟩
      exact q _ p (.bl false) (same_upd np) np upd_same (.bl false)
end
end Vl

set_option maxHeartbeats 4000000
namespace Vl
open PySem PySem.Spec PyProof.Rows L2 TL CwR PySem.StrLaws
/-! ### lists of lists -/
inductive Sk (H : Hp) : List Addr → List (List PyData) → Prop
  | nil : Sk H [] []
  | cons {a : Addr} {as : List Addr} {xs : List V} {ds : List PyData} {st : List (List PyData)} : H a = some (.lst xs) → VdAll H xs ds → a ∉ as → Sk H as st → Sk H (a :: as) (ds :: st)
theorem Sk.len {H : Hp} {as : List Addr} {st : List (List PyData)} (h : Sk H as st) : as.length = st.length := by
  induction h with
  | nil => rfl
  | cons _ _ _ _ ih => exact congrArg Nat.succ ih
theorem Sk.put {H H' : Hp} {as : List Addr} {st : List (List PyData)} (h : Sk H as st) (k : KeepT H H') (e : ∀ b ∈ as, H' b = H b) : Sk H' as st := by
  induction h with
  | nil => exact .nil
  | cons h1 h2 h3 _ ih => exact .cons ((e _ (List.mem_cons_self ..)).trans h1) (h2.keep k) h3 (ih fun b hb => e b (List.mem_cons_of_mem _ hb))
theorem Sk.is {H : Hp} {as : List Addr} {st : List (List PyData)} (h : Sk H as st) : ∀ b ∈ as, ∃ xs, H b = some (.lst xs) := by
  induction h with
  | nil => intro b hb; cases hb
  | cons h1 _ _ _ ih =>
    intro b hb
    rcases List.mem_cons.mp hb with e | hb
    · rw [e]; exact ⟨_, h1⟩
    · exact ih b hb
/-- the object L holds the lists, the outer ones first; all are newer than H0 -/
structure LS (H0 H : Hp) (L : Addr) (as : List Addr) (st : List (List PyData)) : Prop where
  at_ : H L = some (.lst (as.reverse.map V.ref))
  sk : Sk H as st
  out : L ∉ as
  newL : H0 L = none
  new : ∀ a ∈ as, H0 a = none
  same : Same H0 H
def Few (k : Nat) (st : List (List PyData)) : Prop := st ≠ [] ∧ st.length ≤ k + 1 ∧ ∀ ds ∈ st, ds.length ≤ k
theorem LS.laid {H0 H : Hp} {L : Addr} {as : List Addr} {st : List (List PyData)} (l : LS H0 H L as st) {p : Addr} {o : HO} (np : H p = none) : LS H0 (upd H p o) L as st := by
  have s := same_upd (o := o) np
  refine ⟨s _ _ l.at_, l.sk.put (Same.keepT s) fun b hb => ?_, l.out, l.newL, l.new, l.same.trans s⟩
  obtain ⟨xs, e⟩ := l.sk.is b hb
  rw [e]
  exact s _ _ e
/-- something is put behind the innermost list -/
theorem LS.push {H0 H : Hp} {L a : Addr} {as : List Addr} {xs : List V} {ds : List PyData} {st : List (List PyData)} {x : V} {d : PyData} (l : LS H0 H L (a :: as) (ds :: st)) (ha : H a = some (.lst xs)) (hx : VdAll H xs ds) (hv : Vd H x d) :
    LS H0 (upd H a (.lst (xs ++ [x]))) L (a :: as) ((ds ++ [d]) :: st) := by
  have nL : L ≠ a := fun e => l.out (by rw [e]; exact List.mem_cons_self ..)
  have k : KeepT H (upd H a (.lst (xs ++ [x]))) := keep_lst ha
  refine ⟨by rw [upd_ne nL]; exact l.at_, ?_, l.out, l.newL, l.new, same_put l.same (l.new a (List.mem_cons_self ..))⟩
  cases l.sk with
  | cons h1 h2 h3 h4 =>
    refine .cons upd_same ((VdAll.snoc hv hx).keep k) h3 (h4.put k fun b hb => ?_)
    rw [upd_ne (fun e => h3 (by rw [← e]; exact hb))]
theorem LS.top {H0 H : Hp} {L : Addr} {as : List Addr} {ds : List PyData} {st : List (List PyData)} (l : LS H0 H L as (ds :: st)) : ∃ a as' xs, as = a :: as' ∧ H a = some (.lst xs) ∧ VdAll H xs ds := by
  obtain ⟨_, sk, _, _, _, _⟩ := l
  cases sk with
  | cons h1 h2 h3 h4 => exact ⟨_, _, _, rfl, h1, h2⟩
theorem rev_ref (a : Addr) (as : List Addr) : (a :: as).reverse.map V.ref = as.reverse.map V.ref ++ [V.ref a] := by
  rw [List.reverse_cons, List.map_append]
  rfl
def spClose : Sp := fun vs H Q _ => ∃ (t : Str) (k : Nat) (L : Addr) (H0 : Hp) (as : List Addr) (st : List (List PyData)) (d : PyData), vs = [.str t, .int (k : Int), .ref L] ∧ t.length ≤ 10000000 ∧ LS H0 H L as st ∧ Few k st ∧ k ≤ t.length ∧ Cl (tl t) k st d ∧
  ∀ H' k' as' st', LS H0 H' L as' st' → Few k' st' → k' ≤ t.length → k ≤ k' → Cl (tl t) k' st' d → (st'.length = 1 ∨ (tl t)[k']? ≠ some 41) → Q (.int (k' : Int)) H'
section
variable {P : Program} {w : World} {K : PySem.W.Frag} {mg : Str → Option Value} {base : Heap}
theorem ok_close {f : Addr} {fd : FuncData} {k : Nat} (F : FnP K "_close_tuples" sClose f fd) (ml : mg "len" = none) (mt : mg "tuple" = none) : FnOk P w K mg base CX0 (k + 1) f fd ["text", "at", "lists"] spClose := by
  refine F.ok scClose (fun vs H Q E h => ?_) (fun cdv A outer s H vs Q E hr h => ?_)
  · obtain ⟨t, k, L, H0, as, st, d, rfl, _⟩ := h
    rfl
  · obtain ⟨t, k0, L, H0, as, st, d, rfl, hz, hL, hF, hk, hC, q⟩ := h
    have hs := szl
    have hl := len_tl t
    have t41 : tl (Str.ofString ")") = [41] := by decide +kernel
    refine ⟨_, PSs.nox (pss_cons (ps_while PassesOwn.never (PW.pt (pw_and (pt_cmpR op_gt (pe_callB call_len_seq (by rfl) ml PySem.boot_len (pa_cons (pv 2) pa_nil)) (pe_int) (nomark _)) (pw_and1 (pt_cmpR op_eq (pe_slice sl_str (pv 0) (po_some (pv 1)) (po_some (pe_op op_add (pv 1) (pe_int)))) (pe_str) (nomark _))))) (pss_cons (ps_set (i := 3) scClose.nd rfl (.inl rfl) (pe_callTy call_tuple_of (by rfl) mt PyProof.Rows.boot_tuple (pa_cons (pe_bm0 PySem.F.plainAttrs_list PySem.F.slot_list_pop PySem.F.type_list_pop mt_pop (pv 2)) pa_nil)))
      (pss_cons (ps_expr (pe_bm PySem.F.plainAttrs_list PySem.F.slot_list_append PySem.F.type_list_append mt_append (pe_ix ix_list (pv 2) (pe_un un_neg pe_int) (fun _ _ => rfl)) (pa_cons (pv 3) pa_nil)))
      (pss_one (ps_aug (i := 1) scClose.nd rfl (.inl rfl) (pe_int) ip_add)))))
      (pss_one (ps_ret (pv 1)))), ?_⟩
    refine ⟨fun m σ H' => ∃ (k' : Nat) (as' : List Addr) (st' : List (List PyData)) (y3 : Option V), σ = [some (.str t), some (.int (k' : Int)), some (.ref L), y3] ∧ LS H0 H' L as' st' ∧ Few k' st' ∧ k' ≤ t.length ∧ k0 ≤ k' ∧ Cl (tl t) k' st' d ∧ m = st'.length,
      ⟨st.length, k0, as, st, none, rfl, hL, hF, hk, Nat.le_refl _, hC, rfl⟩, ?_⟩
    rintro m σ H' ⟨k', as', st', y3, rfl, hL', hF', hk', hkk, hC', rfl⟩
    have hlen := hL'.sk.len
    obtain ⟨hne, hn1, hn2⟩ := hF'
    have fin : (st'.length = 1 ∨ (tl t)[k']? ≠ some 41) → Q (.int (k' : Int)) H' := fun h => q H' k' as' st' hL' ⟨hne, hn1, hn2⟩ hk' hkk hC' h
    refine ⟨_, rfl, L, _, rfl, .inl (SqL.of hL'.at_), _, 1, rfl, rfl, _, rfl, ite2 (fun e => ?_) (fun e => ?_)⟩
    · have h1 : 1 < st'.length := by
        have e1 := of_decide_eq_true e
        rw [List.length_map, List.length_reverse, hlen] at e1
        exact Int.ofNat_lt.mp e1
      refine ⟨_, rfl, _, rfl, (k' : Int), rfl, _, rfl, (k' : Int), 1, rfl, rfl, (k' : Int) + 1, rfl, t, rfl, by omega, rfl, _, rfl, ite2 (fun e2 => ?_) (fun e2 => ?_)⟩
      · have h41 : (tl t)[k']? = some 41 := (sg_eq t41).mp (of_decide_eq_true e2)
        have hklt : k' < (tl t).length := (List.getElem?_eq_some_iff.mp h41).1
        cases hC' with
        | done hd => exact absurd h1 (by simp)
        | sep h32 _ => rw [h41] at h32; cases h32
        | @close _ top nx st2 _ _ hC2 =>
          obtain ⟨a, as2, xs, rfl, ha, hxs⟩ := hL'.top
          cases hL'.sk with
          | cons s1 s2 s3 s4 =>
          cases s4 with
          | @cons b as3 ys _ _ b1 b2 b3 b4 =>
          rw [ha] at s1
          cases s1
          have nba : b ≠ a := fun e => s3 (by rw [← e]; exact List.mem_cons_self ..)
          have nLa : L ≠ a := fun e => hL'.out (by rw [e]; exact List.mem_cons_self ..)
          have nLb : L ≠ b := fun e => hL'.out (by rw [e]; exact List.mem_cons_of_mem _ (List.mem_cons_self ..))
          have hat := hL'.at_
          rw [rev_ref] at hat
          refine ⟨fun σ' H2 => ∃ m', m' < (top :: nx :: st2).length ∧ ∃ (k' : Nat) (as' : List Addr) (st' : List (List PyData)) (y3 : Option V), σ' = [some (.str t), some (.int (k' : Int)), some (.ref L), y3] ∧ LS H0 H2 L as' st' ∧ Few k' st' ∧ k' ≤ t.length ∧ k0 ≤ k' ∧ Cl (tl t) k' st' d ∧ m' = st'.length, fun _ _ h => h, ?_⟩
          have hdl : ((b :: as3).reverse.map V.ref ++ [V.ref a]).dropLast = (b :: as3).reverse.map V.ref := List.dropLast_concat
          refine ⟨_, rfl, .inl ⟨rfl, _, SqL.of hat⟩, L, _, .ref a, rfl, rfl, hat, by simp, ?_⟩
          have kL : KeepT H' (upd H' L (.lst ((b :: as3).reverse.map V.ref ++ [V.ref a]).dropLast)) := keep_lst hat
          have hL1 : LS H0 (upd H' L (.lst ((b :: as3).reverse.map V.ref ++ [V.ref a]).dropLast)) L (b :: as3) (nx :: st2) := by
            refine ⟨by rw [upd_same, hdl], (Sk.cons b1 b2 b3 b4).put kL fun c hc => ?_, fun h => hL'.out (List.mem_cons_of_mem _ h), hL'.newL, fun c hc => hL'.new c (List.mem_cons_of_mem _ hc), same_put hL'.same hL'.newL⟩
            rw [upd_ne (fun e => hL'.out (by rw [← e]; exact List.mem_cons_of_mem _ hc))]
          have ha1 : upd H' L (.lst ((b :: as3).reverse.map V.ref ++ [V.ref a]).dropLast) a = some (.lst xs) := by rw [upd_ne nLa.symm]; exact ha
          have hx1 := hxs.keep kL
          have hb1 : upd H' L (.lst ((b :: as3).reverse.map V.ref ++ [V.ref a]).dropLast) b = some (.lst ys) := by rw [upd_ne nLb.symm]; exact b1
          have hy1 := b2.keep kL
          generalize upd H' L (.lst ((b :: as3).reverse.map V.ref ++ [V.ref a]).dropLast) = H1 at hL1 ha1 hx1 hb1 hy1
          refine ⟨a, xs, rfl, .inl ⟨SqL.of ha1, fun p np => ?_⟩⟩
          have sp := same_upd (o := HO.tup xs) np
          have hL2 : LS H0 (upd H1 p (.tup xs)) L (b :: as3) (nx :: st2) := hL1.laid np
          have hb2 := sp _ _ hb1
          have hy2 := hy1.keep (Same.keepT sp)
          have hv2 : Vd (upd H1 p (.tup xs)) (.ref p) (.tuple top) := .tup upd_same (hx1.keep (Same.keepT sp))
          have hat2 := hL2.at_
          rw [rev_ref] at hat2
          generalize upd H1 p (.tup xs) = H2 at hL2 hb2 hy2 hv2 hat2
          have hnx := hn2 nx (List.mem_cons_of_mem _ (List.mem_cons_self ..))
          refine ⟨_, rfl, 1, rfl, L, _, -1, .ref b, rfl, rfl, SqL.of hat2, atI_last _ _, .inl ⟨rfl, _, SqL.of hb2⟩, _, rfl, b, _, _, rfl, rfl, hb2, by rw [hy2.len]; omega, ?_⟩
          refine ⟨_, rfl, (k' : Int), 1, rfl, rfl, (nx :: st2).length, Nat.lt_succ_self _, k' + 1, b :: as3, (nx ++ [.tuple top]) :: st2, _, rfl, hL2.push hb2 hy2 hv2, ⟨by simp, ?_, ?_⟩, by omega, by omega, hC2, rfl⟩
          · have e3 : (top :: nx :: st2).length = st2.length + 2 := rfl
            show st2.length + 1 ≤ k' + 1 + 1
            omega
          · intro ds hds
            rcases List.mem_cons.mp hds with e3 | e3
            · rw [e3, List.length_append]
              show nx.length + 1 ≤ k' + 1
              omega
            · have := hn2 ds (List.mem_cons_of_mem _ (List.mem_cons_of_mem _ e3))
              omega
      · exact ⟨_, rfl, fin (.inr fun h => e2 (decide_eq_true ((sg_eq t41).mpr h)))⟩
    · have h1 : st'.length = 1 := by
        have hpos : 0 < st'.length := List.length_pos_iff.mpr hne
        rcases Nat.lt_or_ge 1 st'.length with h | h
        · refine absurd (decide_eq_true ?_) e
          rw [List.length_map, List.length_reverse, hlen]
          exact Int.ofNat_lt.mpr h
        · omega
      exact iteF ⟨_, rfl, fin (.inl h1)⟩
end
end Vl

set_option maxHeartbeats 4000000
namespace Vl
open PySem PySem.Spec PyProof.Rows L2 TL CwR PySem.StrLaws
def spRead : Sp := fun vs H Q _ => ∃ (t : Str) (d : PyData), vs = [.str t] ∧ t.length ≤ 10000000 ∧ Go (tl t) 0 [[]] d ∧ ∀ H' x, Same H H' → Vd H' x d → Q x H'
theorem cnt_le : ∀ (m : Nat) (l : List Nat), cnt m l ≤ l.length
  | 0, _ => Nat.zero_le _
  | _ + 1, [] => Nat.le_refl 0
  | m + 1, c :: r => by
    have := cnt_le m r
    show (if 48 ≤ c ∧ c ≤ 57 then 1 + cnt m r else 0) ≤ r.length + 1
    by_cases h : 48 ≤ c ∧ c ≤ 57
    · rw [if_pos h]; omega
    · rw [if_neg h]; omega
theorem figs_le : ∀ l : List Nat, figs l ≤ l.length
  | [] => Nat.le_refl 0
  | c :: r => by
    have := cnt_le 39 r
    show (if 49 ≤ c ∧ c ≤ 57 then 1 + cnt 39 r else 0) ≤ r.length + 1
    by_cases h : 49 ≤ c ∧ c ≤ 57
    · rw [if_pos h]; omega
    · rw [if_neg h]; omega
theorem numLen_le : ∀ l : List Nat, numLen l ≤ l.length
  | [] => Nat.le_refl 0
  | c :: r => by
    have h1 := figs_le r
    have h2 := figs_le (c :: r)
    show (if c = 48 then 1 else if c = 45 then (if figs r = 0 then 0 else 1 + figs r) else figs (c :: r)) ≤ r.length + 1
    by_cases a : c = 48
    · rw [if_pos a]; omega
    · rw [if_neg a]
      by_cases b : c = 45
      · rw [if_pos b]
        by_cases e : figs r = 0
        · rw [if_pos e]; omega
        · rw [if_neg e]; omega
      · rw [if_neg b]; exact h2
theorem LS.mono {H0 H H' : Hp} {L : Addr} {as : List Addr} {st : List (List PyData)} (l : LS H0 H L as st) (s : Same H H') : LS H0 H' L as st := by
  refine ⟨s _ _ l.at_, l.sk.put (Same.keepT s) fun b hb => ?_, l.out, l.newL, l.new, l.same.trans s⟩
  obtain ⟨xs, e⟩ := l.sk.is b hb
  rw [e]
  exact s _ _ e
theorem LS.open {H0 H : Hp} {L p : Addr} {as : List Addr} {st : List (List PyData)} (l : LS H0 H L as st) (np : H p = none) : LS H0 (upd (upd H p (.lst [])) L (.lst (as.reverse.map V.ref ++ [V.ref p]))) L (p :: as) ([] :: st) := by
  have s := same_upd (o := HO.lst []) np
  have l1 := l.mono s
  have nLp : L ≠ p := fun e => by rw [← e, l.at_] at np; cases np
  have npas : p ∉ as := fun h => by
    obtain ⟨xs, e⟩ := l.sk.is p h
    rw [e] at np
    cases np
  refine ⟨by rw [upd_same, rev_ref], .cons (xs := []) (by rw [upd_ne nLp.symm, upd_same]) .nil npas (l1.sk.put (keep_lst l1.at_) fun b hb => ?_), ?_, l.newL, ?_, same_put l1.same l.newL⟩
  · rw [upd_ne (fun e => l.out (by rw [← e]; exact hb))]
  · intro h
    rcases List.mem_cons.mp h with e | h
    · exact nLp e
    · exact l.out h
  · intro b hb
    rcases List.mem_cons.mp hb with e | hb
    · rw [e]; exact l.same.free np
    · exact l.new b hb
theorem flat_ne {l : List Nat} {d : PyData} {n : Nat} (h : Flat l d n) : l ≠ [] ∧ 1 ≤ n ∧ n ≤ l.length := by
  cases h with
  | txt h =>
    have := txtM_len _ _ _ h
    rw [List.length_cons]
    exact ⟨by simp, by omega, by omega⟩
  | num h1 h2 h3 h4 h5 =>
    have := numLen_le l
    refine ⟨fun e => ?_, by omega, by omega⟩
    rw [e] at h2
    have : numLen [] = 0 := rfl
    omega
  | minus => exact ⟨by simp, Nat.le_refl 1, by simp⟩
  | plus => exact ⟨by simp, Nat.le_refl 1, by simp⟩
  | bang => exact ⟨by simp, Nat.le_refl 1, by simp⟩
section
variable {P : Program} {w : World} {K : PySem.W.Frag} {mg : Str → Option Value} {base : Heap}
theorem ok_read {f fC fF : Addr} {fd fdC fdF : FuncData} {k : Nat} (F : FnP K "read" sRead f fd) (FC : FnP K "_close_tuples" sClose fC fdC) (gC : mg "_close_tuples" = some (.ref fC)) (GC : FnOk P w K mg base CX0 k fC fdC ["text", "at", "lists"] spClose)
    (FF : FnP K "_read_flat" sReadFlat fF fdF) (gF : mg "_read_flat" = some (.ref fF)) (GF : FnOk P w K mg base CX0 k fF fdF ["text", "at"] spReadFlat) (ml : mg "len" = none) : FnOk P w K mg base CX0 (k + 1) f fd ["text"] spRead := by
  have bC : Binds K fdC ["text", "at", "lists"] [] := FC.bindsN fun _ _ _ _ _ _ us hl => match us, hl with | [_, _, _], _ => rfl
  have bF : Binds K fdF ["text", "at"] [] := FF.bindsN fun _ _ _ _ _ _ us hl => match us, hl with | [_, _], _ => rfl
  refine F.ok scRead (fun vs H Q E h => ?_) (fun cdv A outer s H vs Q E hr h => ?_)
  · obtain ⟨t, d, rfl, _⟩ := h
    rfl
  · obtain ⟨t, d, rfl, hz, hG, q⟩ := h
    have hs := szl
    have hl := len_tl t
    have t40 : tl (Str.ofString "(") = [40] := by decide +kernel
    have t41 : tl (Str.ofString ")") = [41] := by decide +kernel
    have t32 : tl (Str.ofString " ") = [32] := by decide +kernel
    refine ⟨_, PSs.nox (pss_cons (ps_set (i := 1) scRead.nd rfl (.inl rfl) (pe_lst (pa_cons (pe_lst pa_nil) pa_nil)))
      (pss_cons (ps_set (i := 2) scRead.nd rfl (.inl rfl) (pe_int))
      (pss_cons (ps_while PassesOwn.never (pt_val pe_bl) (C8.pss_cut (ps_if (pt_cmpR op_eq (pe_slice sl_str (pv 0) (po_some (pv 2)) (po_some (pe_op op_add (pv 2) (pe_int)))) (pe_str) (nomark _)) (pss_cons (ps_expr (pe_bm PySem.F.plainAttrs_list PySem.F.slot_list_append PySem.F.type_list_append mt_append (pv 1) (pa_cons (pe_lst pa_nil) pa_nil)))
      (pss_cons (ps_aug (i := 2) scRead.nd rfl (.inl rfl) (pe_int) ip_add)
      (pss_one (ps_if (pt_cmpR op_ne (pe_slice sl_str (pv 0) (po_some (pv 2)) (po_some (pe_op op_add (pv 2) (pe_int)))) (pe_str) (nomark _)) (pss_one ps_continue) pss_nil)))) (pss_cons (ps_asg (pe_call GF hr (by rfl) gF FF.kp bF .nil pass0 (pa_cons (pv 0) (pa_cons (pv 2) pa_nil))) (pg_tup rfl (pgs_cons (pg_name (i := 3) scRead.nd rfl (.inl rfl)) (pgs_cons (pg_name (i := 2) scRead.nd rfl (.inl rfl)) pgs_nil))))
      (pss_one (ps_expr (pe_bm PySem.F.plainAttrs_list PySem.F.slot_list_append PySem.F.type_list_append mt_append (pe_ix ix_list (pv 1) (pe_un un_neg pe_int) (fun _ _ => rfl)) (pa_cons (pv 3) pa_nil))))))
      (pss_cons (ps_set (i := 2) scRead.nd rfl (.inl rfl) (pe_call GC hr (by rfl) gC FC.kp bC .nil pass0 (pa_cons (pv 0) (pa_cons (pv 2) (pa_cons (pv 1) pa_nil)))))
      (pss_cons (ps_if (pt_cmpR op_eq (pe_callB call_len_seq (by rfl) ml PySem.boot_len (pa_cons (pv 1) pa_nil)) (pe_int) (nomark _)) (pss_one ps_break) pss_nil)
      (pss_cons (ps_if (pt_cmpR op_ne (pe_slice sl_str (pv 0) (po_some (pv 2)) (po_some (pe_op op_add (pv 2) (pe_int)))) (pe_str) (nomark _)) (pss_one ps_never) pss_nil)
      (pss_one (ps_aug (i := 2) scRead.nd rfl (.inl rfl) (pe_int) ip_add)))))))
      (pss_cons (ps_if (pt_cmpR op_lt (pv 2) (pe_callB call_len_str (by rfl) ml PySem.boot_len (pa_cons (pv 0) pa_nil)) (nomark _)) (pss_one ps_never) pss_nil)
      (pss_one (ps_ret (pe_ix ix_list (pe_ix ix_list (pv 1) (pe_int) (fun _ _ => rfl)) (pe_int) (fun _ _ => rfl)))))))), ?_⟩
    refine ⟨Nat.zero_le _, fun a na => ⟨by show 1 ≤ sizeLine; omega, fun L nL => ?_⟩⟩
    have sa := same_upd (o := HO.lst []) na
    have sL := same_upd (o := HO.lst [V.ref a]) nL
    have naL : L ≠ a := fun e => by rw [e, upd_same] at nL; cases nL
    have hL0 : LS H (upd (upd H a (.lst [])) L (.lst [.ref a])) L [a] [[]] :=
      ⟨upd_same, .cons (sL _ _ upd_same) .nil (by simp) .nil, by simpa using naL, sa.free nL, fun c hc => by rw [List.mem_singleton.mp hc]; exact na, sa.trans sL⟩
    refine ⟨fun m σ H' => ∃ (k : Nat) (as : List Addr) (st : List (List PyData)) (y3 : Option V), σ = [some (.str t), some (.ref L), some (.int (k : Int)), y3] ∧ LS H H' L as st ∧ Few k st ∧ k ≤ t.length ∧ Go (tl t) k st d ∧ m = t.length - k,
      ⟨t.length - 0, 0, [a], [[]], none, rfl, hL0, ⟨by simp, by simp, by simp⟩, Nat.zero_le _, hG, rfl⟩, ?_⟩
    rintro m σ H' ⟨k, as, st, y3, rfl, hL, ⟨f1, f2, f3⟩, hk, hg, rfl⟩
    refine ⟨_, rfl, iteT ⟨fun σ' H2 => ∃ m', m' < t.length - k ∧ ∃ (k : Nat) (as : List Addr) (st : List (List PyData)) (y3 : Option V), σ' = [some (.str t), some (.ref L), some (.int (k : Int)), y3] ∧ LS H H2 L as st ∧ Few k st ∧ k ≤ t.length ∧ Go (tl t) k st d ∧ m' = t.length - k, fun _ _ h => h, ?_⟩⟩
    refine ⟨fun σ' H2 => ∃ (k2 : Nat) (as : List Addr) (st : List (List PyData)) (y3 : Option V), σ' = [some (.str t), some (.ref L), some (.int (k2 : Int)), y3] ∧ LS H H2 L as st ∧ Few k2 st ∧ k2 ≤ t.length ∧ k < k2 ∧ Cl (tl t) k2 st d, ?_, ?_⟩
    · refine ⟨_, rfl, _, rfl, (k : Int), rfl, _, rfl, (k : Int), 1, rfl, rfl, (k : Int) + 1, rfl, t, rfl, by omega, rfl, _, rfl, ?_⟩
      show if decide (V.str (sg t k) = V.str (Str.ofString "(")) = true then _ else _
      rw [show decide (V.str (sg t k) = V.str (Str.ofString "(")) = decide ((tl t)[k]? = some 40) from decide_eq_decide.mpr (sg_eq t40)]
      cases hg with
      | more h40 h41 hg2 =>
        have hkl : k < (tl t).length := (List.getElem?_eq_some_iff.mp h40).1
        rw [decide_eq_true h40]
        refine iteT ⟨_, rfl, .inl ⟨rfl, _, SqL.of hL.at_⟩, Nat.zero_le _, fun p np => ?_⟩
        have hLp := (hL.laid (o := HO.lst []) np).at_
        refine ⟨L, _, _, rfl, rfl, hLp, by rw [List.length_map, List.length_reverse, hL.sk.len]; omega, ?_⟩
        have hLo := hL.open np
        refine ⟨_, rfl, (k : Int), 1, rfl, rfl, ?_⟩
        refine ⟨_, rfl, _, rfl, ((k + 1 : Nat) : Int), rfl, _, rfl, ((k + 1 : Nat) : Int), 1, rfl, rfl, ((k + 1 : Nat) : Int) + 1, rfl, t, rfl, by omega, rfl, _, rfl, ?_⟩
        show if (!decide (V.str (sg t (k + 1)) = V.str (Str.ofString ")"))) = true then _ else _
        rw [decide_eq_false (fun h => h41 ((sg_eq t41).mp h))]
        refine iteT ?_
        refine ⟨t.length - (k + 1), by omega, k + 1, p :: as, [] :: st, _, rfl, hLo, ⟨by simp, ?_, ?_⟩, by omega, hg2, rfl⟩
        · show st.length + 1 ≤ k + 1 + 1
          omega
        · intro ds hds
          rcases List.mem_cons.mp hds with e | e
          · rw [e]; exact Nat.zero_le _
          · have := f3 ds e; omega
      | empty h40 h41 hc2 =>
        have hkl : k < (tl t).length := (List.getElem?_eq_some_iff.mp h40).1
        rw [decide_eq_true h40]
        refine iteT ⟨_, rfl, .inl ⟨rfl, _, SqL.of hL.at_⟩, Nat.zero_le _, fun p np => ?_⟩
        have hLp := (hL.laid (o := HO.lst []) np).at_
        refine ⟨L, _, _, rfl, rfl, hLp, by rw [List.length_map, List.length_reverse, hL.sk.len]; omega, ?_⟩
        have hLo := hL.open np
        refine ⟨_, rfl, (k : Int), 1, rfl, rfl, ?_⟩
        refine ⟨_, rfl, _, rfl, ((k + 1 : Nat) : Int), rfl, _, rfl, ((k + 1 : Nat) : Int), 1, rfl, rfl, ((k + 1 : Nat) : Int) + 1, rfl, t, rfl, by omega, rfl, _, rfl, iteNS ((sg_eq t41).mpr h41) ?_⟩
        refine ⟨k + 1, p :: as, [] :: st, _, rfl, hLo, ⟨by simp, ?_, ?_⟩, by omega, by omega, hc2⟩
        · show st.length + 1 ≤ k + 1 + 1
          omega
        · intro ds hds
          rcases List.mem_cons.mp hds with e | e
          · rw [e]; exact Nat.zero_le _
          · have := f3 ds e; omega
      | @flat _ n top st2 v _ h40 hf hc2 =>
        obtain ⟨hne, hn1, hn2⟩ := flat_ne hf
        rw [List.length_drop] at hn2
        rw [decide_eq_false h40]
        refine iteF ⟨_, rfl, _, rfl, t, k, n, v, rfl, hz, hk, hf, fun H3 p x sm np hp hv => ?_⟩
        have hL3 := hL.mono sm
        obtain ⟨a3, as3, xs3, rfl, ha3, hx3⟩ := hL3.top
        have hat := hL3.at_
        rw [rev_ref] at hat
        have hf3 := f3 top (List.mem_cons_self ..)
        refine ⟨p, _, rfl, .inl (.inl hp), rfl, _, _, rfl, _, _, rfl, rfl, ?_⟩
        refine ⟨_, rfl, 1, rfl, L, _, -1, .ref a3, rfl, rfl, SqL.of hat, atI_last _ _, .inl ⟨rfl, _, SqL.of ha3⟩, _, rfl, a3, _, _, rfl, rfl, ha3, by rw [hx3.len]; omega, ?_⟩
        refine ⟨k + n, a3 :: as3, (top ++ [v]) :: st2, _, rfl, hL3.push ha3 hx3 hv, ⟨by simp, ?_, ?_⟩, by omega, by omega, hc2⟩
        · have e3 : (top :: st2).length = st2.length + 1 := rfl
          show st2.length + 1 ≤ k + n + 1
          omega
        · intro ds hds
          rcases List.mem_cons.mp hds with e | e
          · rw [e, List.length_append]
            show top.length + 1 ≤ k + n
            omega
          · have := f3 ds (List.mem_cons_of_mem _ e); omega
    · rintro σ' H2 ⟨k2, as2, st2, y4, rfl, hL2, ⟨g1, g2, g3⟩, hk2, hkk, hc⟩
      refine ⟨_, rfl, _, rfl, _, rfl, t, k2, L, H, as2, st2, d, rfl, hz, hL2, ⟨g1, g2, g3⟩, hk2, hc, fun H3 k3 as3 st3 hL3 hF3 hk3 hkk3 hc3 hor => ?_⟩
      have hlen := hL3.sk.len
      obtain ⟨p1, p2, p3⟩ := hF3
      refine ⟨_, rfl, L, _, rfl, .inl (SqL.of hL3.at_), rfl, _, rfl, ite2 (fun e => ?_) (fun e => ?_)⟩
      · have h1 : st3.length = 1 := by
          have e1 := V.int.inj (of_decide_eq_true e)
          rw [List.length_map, List.length_reverse, hlen] at e1
          omega
        cases hc3 with
        | close _ _ => exact absurd h1 (by simp)
        | sep _ _ => exact absurd h1 (by simp)
        | done hd =>
          refine ⟨_, rfl, _, rfl, t, rfl, by omega, _, _, rfl, rfl, _, rfl, ?_⟩
          rw [decide_eq_false (show ¬ ((k3 : Int) < (t.length : Int)) by omega)]
          refine iteF ?_
          obtain ⟨a3, as4, xs3, rfl, ha3, hx3⟩ := hL3.top
          have e4 : as4 = [] := List.length_eq_zero_iff.mp (by simpa using hlen)
          subst e4
          cases hx3 with
          | cons hv hr =>
          cases hr
          exact ⟨_, rfl, L, _, 0, .ref a3, rfl, rfl, SqL.of hL3.at_, atI_nat (j := 0) rfl, a3, _, 0, _, rfl, rfl, SqL.of ha3, atI_nat (j := 0) rfl, q H3 _ hL3.same hv⟩
      · have h1 : st3.length ≠ 1 := fun h => by
          refine e (decide_eq_true (congrArg V.int ?_))
          rw [List.length_map, List.length_reverse, hlen, h]
          rfl
        have h41 : (tl t)[k3]? ≠ some 41 := by
          rcases hor with h | h
          · exact absurd h h1
          · exact h
        cases hc3 with
        | close h _ => exact absurd h h41
        | done _ => exact absurd rfl h1
        | sep h32 hg2 =>
          have hkl : k3 < (tl t).length := (List.getElem?_eq_some_iff.mp h32).1
          refine ⟨_, rfl, _, rfl, (k3 : Int), rfl, _, rfl, (k3 : Int), 1, rfl, rfl, (k3 : Int) + 1, rfl, t, rfl, by omega, rfl, _, rfl, iteNS ((sg_eq t32).mpr h32) ?_⟩
          refine ⟨_, rfl, (k3 : Int), 1, rfl, rfl, t.length - (k3 + 1), by omega, k3 + 1, as3, _, _, rfl, hL3, ⟨p1, by omega, fun ds hds => by have := p3 ds hds; omega⟩, by omega, hg2, rfl⟩
end
end Vl

set_option maxHeartbeats 2000000
namespace Vl
open PySem PySem.Spec PyProof.Rows L2 TL
/-! ### great powers -/
def CPowB (i j : Int) : Prop := 0 ≤ j ∧ (Builtin.Int.intBits i : Int) * j ≤ 2 ^ 27
theorem op_powB {X : Cx} : OpR X (binaryOp .Pow) (rI CPowB fun i j => .int (i ^ j.toNat)) := opI fun _ _ _ _ _ _ _ hc q => pow_int hc.1 hc.2 q
abbrev sDealt : Stmt := top 17
abbrev sPick : Stmt := top 18
/-! ### the hand -/
/-- all but the object at h is as it was, its first item stays -/
def But (h : Addr) (H H' : Hp) : Prop := (∀ b o, b ≠ h → H b = some o → H' b = some o) ∧ ∀ x xs, H h = some (.lst (x :: xs)) → ∃ ys, H' h = some (.lst (x :: ys))
theorem But.refl (h : Addr) (H : Hp) : But h H H := ⟨fun _ _ _ e => e, fun _ xs e => ⟨xs, e⟩⟩
theorem But.trans {h : Addr} {H H1 H2 : Hp} (a : But h H H1) (b : But h H1 H2) : But h H H2 := ⟨fun c o n e => b.1 c o n (a.1 c o n e), fun x xs e => by
  obtain ⟨ys, e1⟩ := a.2 x xs e
  exact b.2 x ys e1⟩
theorem Same.but {h : Addr} {H H' : Hp} (a : Same H H') : But h H H' := ⟨fun b o _ e => a b o e, fun x xs e => ⟨xs, a _ _ e⟩⟩
theorem but_upd {h : Addr} {H : Hp} {x : V} {xs ys : List V} (hh : H h = some (.lst (x :: xs))) : But h H (upd H h (.lst (x :: ys))) := ⟨fun b y n e => by
  rw [upd_ne n]
  exact e, fun z zs e => by
  rw [hh] at e
  cases e
  exact ⟨ys, upd_same⟩⟩
theorem But.free {h p : Addr} {H H' : Hp} (b : But h H H') (n : p ≠ h) (e : H' p = none) : H p = none := by
  cases q : H p with
  | none => rfl
  | some o =>
    rw [b.1 p o n q] at e
    cases e
theorem But.put {h p : Addr} {H H' : Hp} {o : HO} (b : But h H H') (n : p ≠ h) (e : H p = none) : But h H (upd H' p o) := ⟨fun c x nc q => by
  rw [upd_ne (fun z => by rw [z, e] at q; cases q)]
  exact b.1 c x nc q, fun x xs q => by
  obtain ⟨ys, e1⟩ := b.2 x xs q
  exact ⟨ys, by rw [upd_ne n.symm]; exact e1⟩⟩
def HandAt (H : Hp) (h : Addr) (n : Nat) : Prop := ∃ (l : Addr) (ns : List Int) (t c : Int), H h = some (.lst [.ref l, .int t, .int c]) ∧ H l = some (.lst (ns.map V.int)) ∧ l ≠ h ∧ ns.length ≤ 63 ∧ 0 ≤ t ∧ t ≤ (n : Int) ∧ 0 ≤ c
theorem HandAt.mono {H : Hp} {h : Addr} {n m : Nat} (a : HandAt H h n) (k : n ≤ m) : HandAt H h m := by
  obtain ⟨l, ns, t, c, h1, h2, h3, h4, h5, h6, h7⟩ := a
  exact ⟨l, ns, t, c, h1, h2, h3, h4, h5, by omega, h7⟩
theorem HandAt.same {H H' : Hp} {h : Addr} {n : Nat} (a : HandAt H h n) (s : Same H H') : HandAt H' h n := by
  obtain ⟨l, ns, t, c, h1, h2, r⟩ := a
  exact ⟨l, ns, t, c, s _ _ h1, s _ _ h2, r⟩
theorem HandAt.is {H : Hp} {h : Addr} {n : Nat} (a : HandAt H h n) : ∃ xs, H h = some (.lst xs) := by
  obtain ⟨l, ns, t, c, h1, _⟩ := a
  exact ⟨_, h1⟩
/-- something that was not there is written -/
theorem HandAt.put {H H' : Hp} {h p : Addr} {m n : Nat} {o : HO} (a : HandAt H' h n) (b : But h H H') (a0 : HandAt H h m) (np : H p = none) (n0 : p ≠ h) : HandAt (upd H' p o) h n := by
  obtain ⟨l, ns, t, c, e1, e2, r⟩ := a
  obtain ⟨l0, ns0, t0, c0, f1, f2, _⟩ := a0
  obtain ⟨ys, e3⟩ := b.2 _ _ f1
  rw [e1] at e3
  have el : l = l0 := V.ref.inj (List.cons.inj (HO.lst.inj (Option.some.inj e3))).1
  have nlp : l ≠ p := fun e => by
    rw [← el, e, np] at f2
    cases f2
  exact ⟨l, ns, t, c, by rw [upd_ne n0.symm]; exact e1, by rw [upd_ne nlp]; exact e2, r⟩
theorem scDealt : FnScope ["script"] ["script"] (defScope sDealt) := ⟨rfl, rfl, rfl, by decide +kernel, rfl, by decide +kernel, by decide +kernel⟩
theorem scPick : FnScope ["hand", "many", "digit", "turn", "cell", "mixed"] ["hand", "many"] (defScope sPick) := ⟨rfl, rfl, rfl, by decide +kernel, rfl, by decide +kernel, by decide +kernel⟩
def spDealt (K : PySem.W.Frag) : Sp := fun vs H Q _ => ∃ (a : Addr) (ns : List Int), vs = [.ref a] ∧ SqL K H a (ns.map V.int) ∧ ns.length ≤ 63 ∧ ∀ H' h, Same H H' → H h = none → HandAt H' h 0 → Q (.ref h) H'
def spPick : Sp := fun vs H Q _ => ∃ (h : Addr) (many : Int) (n : Nat), vs = [.ref h, .int many] ∧ HandAt H h n ∧ n ≤ 1000000 ∧ 0 < many ∧ many ≤ 100000000 ∧ ∀ H' d, But h H H' → HandAt H' h (n + 1) → 0 ≤ d → d < many → Q (.int d) H'
theorem cut_map (ns : List Int) (lo hi : Option Int) : ∃ ms : List Int, cutV (ns.map V.int) lo hi = ms.map V.int ∧ ms.length ≤ ns.length := by
  refine ⟨(ns.drop (HT.sIx (ns.map V.int).length 0 lo)).take (HT.sIx (ns.map V.int).length (ns.map V.int).length hi - HT.sIx (ns.map V.int).length 0 lo), ?_, ?_⟩
  · unfold cutV
    rw [List.map_take, List.map_drop]
  · rw [List.length_take, List.length_drop]
    omega
theorem dpAll_ints {K : PySem.W.Frag} {H : Hp} : ∀ ns : List Int, DpAll K H (ns.map V.int) (ns.map PyData.int)
  | [] => .nil
  | n :: r => .cons (.int n) (dpAll_ints r)
section
variable {P : Program} {w : World} {K : PySem.W.Frag} {mg : Str → Option Value} {base : Heap}
theorem ok_dealt {f : Addr} {fd : FuncData} {k : Nat} (F : FnP K "_law_dealt" sDealt f fd) (ml : mg "list" = none) : FnOk P w K mg base CX0 (k + 1) f fd ["script"] (spDealt K) := by
  refine F.ok scDealt (fun vs H Q E h => ?_) (fun cdv A outer s H vs Q E hr h => ?_)
  · obtain ⟨a, ns, rfl, _⟩ := h
    rfl
  · obtain ⟨a, ns, rfl, hS, hl, q⟩ := h
    refine ⟨_, PSs.nox (pss_one (ps_ret (pe_lst (pa_cons (pe_callTy call_list_of (by rfl) ml (by decide +kernel) (pa_cons (pe_slice sl_list (pv 0) po_none (po_some pe_int)) pa_nil)) (pa_cons pe_int (pa_cons pe_int pa_nil)))))), ?_⟩
    obtain ⟨ms, em, lm⟩ := cut_map ns none (some 63)
    refine ⟨_, rfl, 63, rfl, a, _, rfl, hS, fun p np => ⟨p, _, rfl, .inl (SqL.of upd_same), fun l nl => ⟨by show 3 ≤ sizeLine; decide, fun h nh => ?_⟩⟩⟩
    have s1 := (same_upd (o := HO.lst (cutV (ns.map V.int) none (some 63))) np)
    have s2 := (same_upd (o := HO.lst (cutV (ns.map V.int) none (some 63))) nl)
    have s3 := (same_upd (o := HO.lst [.ref l, .int 0, .int 0]) nh)
    have sm := (s1.trans s2).trans s3
    have nlh : l ≠ h := fun e => by
      rw [← e, upd_same] at nh
      cases nh
    refine q _ h sm ((s1.trans s2).free nh) ⟨l, ms, 0, 0, upd_same, ?_, nlh, by omega, Int.le_refl _, Int.le_refl _, Int.le_refl _⟩
    rw [upd_ne nlh, upd_same, em]
theorem pw_ne : (((10 : Int) ^ (60 : Int).toNat) ^ (60 : Int).toNat) ^ (9 : Int).toNat ≠ 0 := by decide +kernel
theorem pw_pos : 0 < (((10 : Int) ^ (60 : Int).toNat) ^ (60 : Int).toNat) ^ (9 : Int).toNat := by decide +kernel
theorem ok_pick {f : Addr} {fd : FuncData} {k : Nat} (F : FnP K "_law_pick" sPick f fd) (ml : mg "len" = none) (ma : mg "abs" = none) : FnOk P w K mg base CX0 (k + 1) f fd ["hand", "many"] spPick := by
  refine F.ok scPick (fun vs H Q E h => ?_) (fun cdv A outer s H vs Q E hr h => ?_)
  · obtain ⟨h, m, n, rfl, _⟩ := h
    rfl
  · obtain ⟨h, m, n, rfl, ⟨l, ns, t, c, hh, hl, nlh, ln, t0, tn, c0⟩, hn, m0, m1, q⟩ := h
    refine ⟨_, PSs.nox (pss_cons (ps_if (pt_cmpR op_gt (pe_ix ix_list (pv 0) pe_int (fun _ _ => rfl)) pe_int (nomark _))
        (pss_cons (ps_set (i := 2) scPick.nd rfl (.inl rfl) (pe_op op_modN (pe_ix ix_list (pv 0) pe_int (fun _ _ => rfl)) (pv 1)))
        (pss_cons (ps_asg (pe_op op_fdivN (pe_ix ix_list (pv 0) pe_int (fun _ _ => rfl)) (pv 1)) (pg_sub (pv 0) pe_int set_list))
        (pss_one (ps_ret (pv 2))))) pss_nil)
      (pss_cons (ps_set (i := 3) scPick.nd rfl (.inl rfl) (pe_ix ix_list (pv 0) pe_int (fun _ _ => rfl)))
      (pss_cons (ps_asg (pe_op op_add (pv 3) pe_int) (pg_sub (pv 0) pe_int set_list))
      (pss_cons (ps_set (i := 4) scPick.nd rfl (.inl rfl) (pe_op op_add (pe_op op_mul pe_int (pv 3)) pe_int))
      (C8.pss_cut (ps_if (pt_cmpR (op_neD hr.units) (pe_ix ix_list (pv 0) pe_int (fun _ _ => rfl)) (pe_lst pa_nil) (nomark _))
        (pss_one (ps_set (i := 4) scPick.nd rfl (.inl rfl) (pe_ix ix_list (pe_ix ix_list (pv 0) pe_int (fun _ _ => rfl)) (pe_op op_modN (pv 3) (pe_callB call_len_seq (by rfl) ml PySem.boot_len (pa_cons (pe_ix ix_list (pv 0) pe_int (fun _ _ => rfl)) pa_nil))) (fun _ _ => rfl)))) pss_nil)
      (C8.pss_cut (ps_if (PW.pt (pw_and (pt_cmpR op_lt (pv 3) (pe_callB call_len_seq (by rfl) ml PySem.boot_len (pa_cons (pe_ix ix_list (pv 0) pe_int (fun _ _ => rfl)) pa_nil)) (nomark _))
          (pw_and1 (pt_cmpR op_ge (pe_callB call_abs (by rfl) ma (by decide +kernel) (pa_cons (pv 4) pa_nil)) (pe_op op_pow pe_int pe_int) (nomark _)))))
        (pss_cons (ps_set (i := 4) scPick.nd rfl (.inl rfl) (pe_op op_modN (pe_callB call_abs (by rfl) ma (by decide +kernel) (pa_cons (pv 4) pa_nil)) (pe_op op_powB (pe_op op_powB (pe_op op_powB pe_int pe_int) pe_int) pe_int)))
        (pss_cons (ps_asg (pe_op op_fdivN (pv 4) (pv 1)) (pg_sub (pv 0) pe_int set_list))
        (pss_one (ps_ret (pe_op op_modN (pv 4) (pv 1)))))) pss_nil)
      (pss_cons (ps_set (i := 5) scPick.nd rfl (.inl rfl) (pe_op op_modN (pe_op op_mul (pe_op op_add (pe_op op_add (pe_op op_modN (pv 4) pe_int) (pe_op op_mul pe_int (pv 3))) pe_int) pe_int) pe_int))
      (pss_cons (ps_set (i := 5) scPick.nd rfl (.inl rfl) (pe_op op_modN (pe_op op_add (pe_op op_add (pe_op op_mul (pv 5) (pv 5)) (pe_op op_mul pe_int (pv 3))) pe_int) pe_int))
      (pss_one (ps_ret (pe_op op_modN (pe_op op_fdivN (pe_op op_modN (pe_op op_mul (pv 5) (pe_op op_add (pe_op op_modN (pv 5) pe_int) pe_int)) pe_int) pe_int) (pv 1)))))))))))), ?_⟩
    have dm : ∀ x : Int, 0 ≤ x.fmod m ∧ x.fmod m < m := fun x => ⟨Int.fmod_nonneg_of_pos x m0, Int.fmod_lt_of_pos x m0⟩
    have mN : m ≠ 0 := by omega
    have mB : m.natAbs < 1073741824 := by omega
    have dp : ∀ x : Int, 0 ≤ x → 0 ≤ x.fdiv m := fun x h => by
      rw [Int.fdiv_eq_ediv_of_nonneg x (by omega)]
      exact Int.ediv_nonneg h (by omega)
    -- hand[2] > 0
    refine ⟨_, rfl, h, _, 2, .int c, rfl, rfl, SqL.of hh, atI_nat (j := 2) rfl, c, 0, rfl, rfl, _, rfl, ite2 (fun e => ?_) (fun e => ?_)⟩
    · have hc : 0 < c := of_decide_eq_true e
      refine ⟨_, rfl, h, _, 2, .int c, rfl, rfl, SqL.of hh, atI_nat (j := 2) rfl, _, rfl, c, m, rfl, rfl, mN, ?_⟩
      refine ⟨_, rfl, h, _, 2, .int c, rfl, rfl, SqL.of hh, atI_nat (j := 2) rfl, _, rfl, c, m, rfl, rfl, ⟨mN, mB⟩, _, rfl, h, _, 2, 2, rfl, rfl, hh, rfl, ?_⟩
      refine ⟨_, rfl, q _ _ (but_upd hh) ⟨l, ns, t, c.fdiv m, upd_same, ?_, nlh, ln, t0, by omega, dp c c0⟩ (dm c).1 (dm c).2⟩
      rw [upd_ne nlh]
      exact hl
    · refine ⟨_, rfl, h, _, 1, .int t, rfl, rfl, SqL.of hh, atI_nat (j := 1) rfl, ?_⟩
      refine ⟨_, rfl, t, 1, rfl, rfl, _, rfl, h, _, 1, 1, rfl, rfl, hh, rfl, ?_⟩
      refine ⟨_, rfl, 31, t, rfl, rfl, .inl (by decide), _, 7, rfl, rfl, ?_⟩
      have hh1 : (upd H h (.lst (([.ref l, .int t, .int c] : List V).set 1 (.int (t + 1))))) h = some (.lst [.ref l, .int (t + 1), .int c]) := upd_same
      have hl1 : (upd H h (.lst (([.ref l, .int t, .int c] : List V).set 1 (.int (t + 1))))) l = some (.lst (ns.map V.int)) := by
        rw [upd_ne nlh]
        exact hl
      have b1 : But h H (upd H h (.lst (([.ref l, .int t, .int c] : List V).set 1 (.int (t + 1))))) := but_upd hh
      generalize (upd H h (.lst (([.ref l, .int t, .int c] : List V).set 1 (.int (t + 1))))) = H1 at hh1 hl1 b1
      refine ⟨fun σ' H' => ∃ cell, σ' = [some (.ref h), some (.int m), none, some (.int t), some (.int cell), none] ∧ H' h = some (.lst [.ref l, .int (t + 1), .int c]) ∧ H' l = some (.lst (ns.map V.int)) ∧ But h H H', ?_, ?_⟩
      · refine ⟨_, rfl, h, _, 0, .ref l, rfl, rfl, SqL.of hh1, atI_nat (j := 0) rfl, Nat.zero_le _, fun p np => ?_⟩
        have hh2 : (upd H1 p (.lst [])) h = some (.lst [.ref l, .int (t + 1), .int c]) := by rw [upd_ne (ne_of_none hh1 np)]; exact hh1
        have hl2 : (upd H1 p (.lst [])) l = some (.lst (ns.map V.int)) := by rw [upd_ne (ne_of_none hl1 np)]; exact hl1
        have b2 : But h H (upd H1 p (.lst [])) := b1.trans (Same.but (same_upd np))
        have hp2 : (upd H1 p (.lst [])) p = some (.lst []) := upd_same
        generalize (upd H1 p (.lst [])) = H2 at hh2 hl2 b2 hp2
        refine ⟨.list (ns.map PyData.int), .list [], .lst (SqL.of hl2) (dpAll_ints ns), .lst (SqL.of hp2) .nil, PySem.W.ke_shaped_ints ns, by decide +kernel, _, rfl, ite2 (fun e => ?_) (fun e => ?_)⟩
        · have n0 : 0 < ns.length := by
            cases ns with
            | nil => exact absurd e (by decide +kernel)
            | cons x r => exact Nat.succ_pos _
          have hlen : ((ns.map V.int).length : Int) ≠ 0 := by rw [List.length_map]; omega
          have f0 : 0 ≤ t.fmod ((ns.map V.int).length : Int) := Int.fmod_nonneg_of_pos t (by rw [List.length_map]; omega)
          have f1 : t.fmod ((ns.map V.int).length : Int) < ((ns.map V.int).length : Int) := Int.fmod_lt_of_pos t (by rw [List.length_map]; omega)
          obtain ⟨j, ej⟩ := Int.eq_ofNat_of_zero_le f0
          have hj : j < ns.length := by
            rw [ej, List.length_map] at f1
            exact Int.ofNat_lt.mp f1
          refine ⟨_, rfl, h, _, 0, .ref l, rfl, rfl, SqL.of hh2, atI_nat (j := 0) rfl, _, rfl, _, rfl, h, _, 0, .ref l, rfl, rfl, SqL.of hh2, atI_nat (j := 0) rfl, l, _, rfl, .inl (SqL.of hl2), t, _, rfl, rfl, hlen, l, _, (j : Int), .int ns[j], rfl, congrArg V.int ej, SqL.of hl2, atI_nat (j := j) ?_, ns[j], rfl, hh2, hl2, b2⟩
          rw [List.getElem?_map, List.getElem?_eq_getElem hj]
          rfl
        · exact ⟨_, rfl, hh2, hl2, b2⟩
      · rintro σ' H' ⟨cell, rfl, hh3, hl3, b3⟩
        refine ⟨fun σ2 H2 => σ2 = [some (.ref h), some (.int m), none, some (.int t), some (.int cell), none] ∧ H2 = H', ?_, ?_⟩
        · refine ⟨_, rfl, _, rfl, h, _, 0, .ref l, rfl, rfl, SqL.of hh3, atI_nat (j := 0) rfl, l, _, rfl, .inl (SqL.of hl3), t, _, rfl, rfl, _, rfl, ite2 (fun e => ?_) (fun e => ?_)⟩
          · refine ⟨_, rfl, cell, rfl, 10, 18, rfl, rfl, ⟨by decide, by decide, by decide⟩, _, _, rfl, rfl, _, rfl, ite2 (fun e2 => ?_) (fun e2 => ⟨rfl, rfl⟩)⟩
            refine ⟨_, rfl, cell, rfl, 10, 60, rfl, rfl, ⟨by decide, by decide +kernel⟩, _, 60, rfl, rfl, ⟨by decide, by decide +kernel⟩, _, 9, rfl, rfl, ⟨by decide, by decide +kernel⟩, _, _, rfl, rfl, pw_ne, ?_⟩
            obtain ⟨c2, ec⟩ : ∃ c2, c2 = (if cell < 0 then -cell else cell).fmod ((((10 : Int) ^ (60 : Int).toNat) ^ (60 : Int).toNat) ^ (9 : Int).toNat) := ⟨_, rfl⟩
            have c1 : 0 ≤ c2 := by
              rw [ec]
              exact Int.fmod_nonneg_of_pos _ pw_pos
            have ec' := congrArg V.int ec.symm
            refine ⟨_, rfl, _, rfl, c2, m, ec', rfl, ⟨mN, mB⟩, _, rfl, h, _, 2, 2, rfl, rfl, hh3, rfl, ?_⟩
            refine ⟨_, rfl, _, rfl, c2, m, ec', rfl, mN, q _ _ (b3.trans (but_upd hh3)) ⟨l, ns, t + 1, c2.fdiv m, upd_same, ?_, nlh, ln, by omega, by omega, dp c2 c1⟩ (dm c2).1 (dm c2).2⟩
            rw [upd_ne nlh]
            exact hl3
          · exact iteF ⟨rfl, rfl⟩
        · rintro σ2 H2 ⟨rfl, rfl⟩
          obtain ⟨x1, e1⟩ : ∃ x1, x1 = cell.fmod 2147483579 := ⟨_, rfl⟩
          obtain ⟨x2, e2⟩ : ∃ x2, x2 = ((x1 + 50021 * t + 3) * 69621).fmod 2147483647 := ⟨_, rfl⟩
          obtain ⟨x3, e3⟩ : ∃ x3, x3 = (x2 * x2 + 48271 * t + 19).fmod 2147483563 := ⟨_, rfl⟩
          have r3 := Int.fmod_nonneg_of_pos ((x1 + 50021 * t + 3) * 69621) (b := 2147483647) (by decide)
          have r4 := Int.fmod_lt_of_pos ((x1 + 50021 * t + 3) * 69621) (b := 2147483647) (by decide)
          have r5 := Int.fmod_nonneg_of_pos (x2 * x2 + 48271 * t + 19) (b := 2147483563) (by decide)
          have r6 := Int.fmod_lt_of_pos (x2 * x2 + 48271 * t + 19) (b := 2147483563) (by decide)
          rw [← e2] at r3 r4
          rw [← e3] at r5 r6
          have e1' := congrArg V.int e1.symm
          have e2' := congrArg V.int e2.symm
          have e3' := congrArg V.int e3.symm
          refine ⟨_, rfl, cell, 2147483579, rfl, rfl, (show (2147483579 : Int) ≠ 0 by decide), _, rfl, 50021, t, rfl, rfl, .inl (by decide), x1, _, e1', rfl, _, 3, rfl, rfl, x1 + 50021 * t + 3, 69621, rfl, rfl, .inr (by decide), _, 2147483647, rfl, rfl, (show (2147483647 : Int) ≠ 0 by decide), ?_⟩
          refine ⟨_, rfl, _, rfl, x2, x2, e2', e2', .inl (by omega), _, rfl, 48271, t, rfl, rfl, .inl (by decide), _, _, rfl, rfl, _, 19, rfl, rfl, _, 2147483563, rfl, rfl, (show (2147483563 : Int) ≠ 0 by decide), ?_⟩
          refine ⟨_, rfl, _, rfl, x3, 32749, e3', rfl, (show (32749 : Int) ≠ 0 by decide), _, 5, rfl, rfl, x3, _, e3', rfl, .inl (by omega), _, 2147483629, rfl, rfl, (show (2147483629 : Int) ≠ 0 by decide), _, 32, rfl, rfl, ⟨by decide, by decide⟩, _, rfl, _, m, rfl, rfl, mN, ?_⟩
          exact q _ _ b3 ⟨l, ns, t + 1, c, hh3, hl3, nlh, ln, by omega, by omega, c0⟩ (dm _).1 (dm _).2
end
end Vl

set_option maxHeartbeats 4000000
namespace Vl
open PySem PySem.Spec PyProof.Rows L2 TL
abbrev sAlpha : Stmt := top 19
abbrev sLong : Stmt := top 20
abbrev sAText : Stmt := top 21
theorem scAlpha : FnScope ["some"] [] (defScope sAlpha) := ⟨rfl, rfl, rfl, by decide +kernel, rfl, by decide +kernel, by decide +kernel⟩
theorem scLong : FnScope ["hand", "total", "k"] ["hand"] (defScope sLong) := ⟨rfl, rfl, rfl, by decide +kernel, rfl, by decide +kernel, by decide +kernel⟩
theorem scAText : FnScope ["hand", "most", "signs", "found", "k", "sign"] ["hand", "most"] (defScope sAText) := ⟨rfl, rfl, rfl, by decide +kernel, rfl, by decide +kernel, by decide +kernel⟩
def sgOk (c : Nat) : Prop := 32 ≤ c ∧ c ≤ 126 ∧ c ≠ 37
instance (c : Nat) : Decidable (sgOk c) := inferInstanceAs (Decidable (_ ∧ _))
theorem atI_in {α : Type} {xs : List α} {d : Int} (h0 : 0 ≤ d) (h1 : d < (xs.length : Int)) : ∃ v, atI xs d = some v ∧ v ∈ xs := by
  obtain ⟨j, rfl⟩ := Int.eq_ofNat_of_zero_le h0
  have hj : j < xs.length := Int.ofNat_lt.mp h1
  exact ⟨xs[j], atI_nat (List.getElem?_eq_getElem hj), List.getElem_mem hj⟩
theorem ne_hand {H : Hp} {h p : Addr} {n : Nat} (A : HandAt H h n) (np : H p = none) : p ≠ h := fun e => by
  obtain ⟨xs, ex⟩ := A.is
  rw [e, ex] at np
  cases np
theorem but_at {h p : Addr} {H H' : Hp} {o : HO} (b : But h H H') (hp : H p = some o) (n : p ≠ h) : H' p = some o := b.1 p o n hp
def spAlpha : Sp := fun vs H Q _ => vs = [] ∧ ∀ al : Str, al.length = 94 → (∀ c ∈ tl al, sgOk c) → Q (.str al) H
def spLong : Sp := fun vs H Q _ => ∃ (h : Addr) (n : Nat), vs = [.ref h] ∧ HandAt H h n ∧ n ≤ 900000 ∧ ∀ H' (i : Int), But h H H' → HandAt H' h (n + 44) → i.natAbs < 10 ^ 40 → Q (.int i) H'
def spAText : Sp := fun vs H Q _ => ∃ (h : Addr) (most n : Nat), vs = [.ref h, .int (most : Int)] ∧ HandAt H h n ∧ n ≤ 900000 ∧ 1 ≤ most ∧ most ≤ 1000 ∧ ∀ H' z, But h H H' → HandAt H' h (n + 2 + 2 * most) → z.length ≤ most → (∀ c ∈ tl z, sgOk c) → Q (.str z) H'
theorem long_vals {a b : Int} {x : V} (h : x ∈ ([.int 1, .int (1 + a), .int (1 + b), .int 40] : List V)) (a0 : 0 ≤ a) (a1 : a < 5) (b0 : 0 ≤ b) (b1 : b < 40) : ∃ v : Nat, x = .int (v : Int) ∧ v ≤ 40 := by
  rcases List.mem_cons.mp h with e | h
  · exact ⟨1, e, by omega⟩
  rcases List.mem_cons.mp h with e | h
  · exact ⟨(1 + a).toNat, by rw [e]; congr 1; omega, by omega⟩
  rcases List.mem_cons.mp h with e | h
  · exact ⟨(1 + b).toNat, by rw [e]; congr 1; omega, by omega⟩
  rcases List.mem_cons.mp h with e | h
  · exact ⟨40, e, by omega⟩
  · cases h
theorem one_vals {x : V} (h : x ∈ ([.int 1, .int (-1)] : List V)) : x = .int 1 ∨ x = .int (-1) := by
  rcases List.mem_cons.mp h with e | h
  · exact .inl e
  · exact .inr (List.mem_singleton.mp h)
theorem text_vals {a : Int} {x : V} {m : Nat} (h : x ∈ ([.int 0, .int 1, .int a] : List V)) (hm : 1 ≤ m) (a0 : 0 ≤ a) (a1 : a ≤ m) : ∃ v : Nat, x = .int (v : Int) ∧ v ≤ m := by
  rcases List.mem_cons.mp h with e | h
  · exact ⟨0, e, by omega⟩
  rcases List.mem_cons.mp h with e | h
  · exact ⟨1, e, by omega⟩
  rcases List.mem_cons.mp h with e | h
  · exact ⟨a.toNat, by rw [e]; congr 1; omega, by omega⟩
  · cases h
theorem sign_vals {c : Nat} {x : V} (hc : sgOk c) (h : x ∈ ([.str (Str.ofString "\""), .str (Str.ofString " "), .str ⟨#[c]⟩, .str ⟨#[c]⟩] : List V)) : ∃ z : Str, x = .str z ∧ z.length = 1 ∧ ∀ e ∈ tl z, sgOk e := by
  rcases List.mem_cons.mp h with e | h
  · exact ⟨_, e, by decide +kernel, by decide +kernel⟩
  rcases List.mem_cons.mp h with e | h
  · exact ⟨_, e, by decide +kernel, by decide +kernel⟩
  have q : ∃ z : Str, (V.str ⟨#[c]⟩) = .str z ∧ z.length = 1 ∧ ∀ e ∈ tl z, sgOk e := ⟨_, rfl, rfl, fun e he => by rw [List.mem_singleton.mp (show e ∈ [c] from he)]; exact hc⟩
  rcases List.mem_cons.mp h with e | h
  · rw [e]; exact q
  rcases List.mem_cons.mp h with e | h
  · rw [e]; exact q
  · cases h
section
variable {P : Program} {w : World} {K : PySem.W.Frag} {mg : Str → Option Value} {base : Heap}
theorem ok_alpha {f : Addr} {fd : FuncData} {k : Nat} (F : FnP K "_law_alphabet" sAlpha f fd) : FnOk P w K mg base CX0 (k + 1) f fd [] spAlpha := by
  refine F.ok scAlpha (fun vs H Q E h => ?_) (fun cdv A outer s H vs Q E hr h => ?_)
  · obtain ⟨rfl, _⟩ := h
    rfl
  · obtain ⟨rfl, q⟩ := h
    refine ⟨_, PSs.nox (pss_cons (ps_set (i := 0) scAlpha.nd rfl (.inl rfl) pe_str) (pss_one (ps_ret (pe_op op_add_str (pv 0) pe_str)))), ?_⟩
    refine ⟨_, rfl, _, _, rfl, rfl, by decide +kernel, q _ ?_ ?_⟩
    · decide +kernel
    · decide +kernel
theorem ok_long {f fP : Addr} {fd fdP : FuncData} {k : Nat} (F : FnP K "_law_long_number" sLong f fd) (FP : FnP K "_law_pick" sPick fP fdP) (gP : mg "_law_pick" = some (.ref fP)) (GP : FnOk P w K mg base CX0 k fP fdP ["hand", "many"] spPick) (mr : mg "range" = none) :
    FnOk P w K mg base CX0 (k + 1) f fd ["hand"] spLong := by
  have bP : Binds K fdP ["hand", "many"] [] := FP.bindsN fun _ _ _ _ _ _ us hl => match us, hl with | [_, _], _ => rfl
  refine F.ok scLong (fun vs H Q E h => ?_) (fun cdv A outer s H vs Q E hr h => ?_)
  · obtain ⟨h, n, rfl, _⟩ := h
    rfl
  · obtain ⟨h, n, rfl, hA, hn, q⟩ := h
    have hs := szl
    refine ⟨_, PSs.nox (pss_cons (ps_set (i := 1) scLong.nd rfl (.inl rfl) (pe_int))
      (pss_cons (ps_for PassesOwn.never rfl (pi_range1 (by rfl) mr (pa_cons (pe_ix ix_list (pe_lst (pa_cons (pe_int) (pa_cons (pe_op op_add (pe_int) (pe_call GP hr (by rfl) gP FP.kp bP .nil pass0 (pa_cons (pv 0) (pa_cons (pe_int) pa_nil)))) (pa_cons (pe_op op_add (pe_int) (pe_call GP hr (by rfl) gP FP.kp bP .nil pass0 (pa_cons (pv 0) (pa_cons (pe_int) pa_nil)))) (pa_cons (pe_int) pa_nil))))) (pe_call GP hr (by rfl) gP FP.kp bP .nil pass0 (pa_cons (pv 0) (pa_cons (pe_int) pa_nil))) (fun _ _ => rfl)) pa_nil)) (pg_name (i := 2) scLong.nd rfl (.inl rfl)) (pss_one (ps_set (i := 1) scLong.nd rfl (.inl rfl) (pe_op op_add (pe_op op_mul (pe_int) (pv 1)) (pe_call GP hr (by rfl) gP FP.kp bP .nil pass0 (pa_cons (pv 0) (pa_cons (pe_int) pa_nil)))))))
      (pss_one (ps_ret (pe_op op_mul (pv 1) (pe_ix ix_list (pe_lst (pa_cons (pe_int) (pa_cons (pe_un un_neg pe_int) pa_nil))) (pe_call GP hr (by rfl) gP FP.kp bP .nil pass0 (pa_cons (pv 0) (pa_cons (pe_int) pa_nil))) (fun _ _ => rfl))))))), ?_⟩
    refine ⟨_, rfl, h, 5, n, rfl, hA, by omega, by omega, by omega, fun H1 d1 b1 A1 d10 d11 => ⟨1, d1, rfl, rfl, _, rfl, h, 40, _, rfl, A1, by omega, by omega, by omega, fun H2 d2 b2 A2 d20 d21 => ⟨1, d2, rfl, rfl, by show 4 ≤ sizeLine; omega, fun p np => ?_⟩⟩⟩
    have nph := ne_hand A2 np
    refine ⟨_, rfl, h, 4, _, rfl, A2.same (same_upd np), by omega, by omega, by omega, fun H3 d3 b3 A3 d30 d31 => ?_⟩
    obtain ⟨v, ev, vm⟩ := atI_in (xs := ([.int 1, .int (1 + d1), .int (1 + d2), .int 40] : List V)) d30 (by show d3 < 4; exact d31)
    obtain ⟨c, rfl, c1⟩ := long_vals vm d10 d11 d20 d21
    have bb : But h H H3 := ((b1.trans b2).trans (Same.but (same_upd np))).trans b3
    refine ⟨p, _, d3, _, rfl, rfl, SqL.of (but_at b3 upd_same nph), ev, (c : Int), rfl, by omega, by omega, ?_⟩
    refine for_range (lo := 0) (n := (c : Int).toNat) (fun i σ H' => ∃ (t : Int) (y : Option V), σ = [some (.ref h), some (.int t), y] ∧ 0 ≤ t ∧ t < ((10 ^ i : Nat) : Int) ∧ HandAt H' h (n + 3 + i) ∧ But h H H') ⟨0, none, rfl, Int.le_refl 0, by decide, A3, bb⟩ ?_ ?_
    · rintro i σ H' hi ⟨t, y, rfl, t0, t1, Ai, bi⟩
      refine ⟨_, rfl, 10, t, rfl, rfl, .inl (by decide), _, rfl, h, 10, _, rfl, Ai, by omega, by omega, by omega, fun H4 d4 b4 A4 d40 d41 => ?_⟩
      refine ⟨10 * t, d4, rfl, rfl, 10 * t + d4, some (.int (0 + (i : Int))), rfl, by omega, ?_, A4, bi.trans b4⟩
      rw [Nat.pow_succ]
      omega
    · rintro σ H' ⟨t, y, rfl, t0, t1, Ai, bi⟩
      have hc : (c : Int).toNat ≤ 40 := by omega
      have tb : t < ((10 ^ 40 : Nat) : Int) := Int.lt_of_lt_of_le t1 (Int.ofNat_le.mpr (Nat.pow_le_pow_right (by decide) hc))
      refine ⟨_, rfl, 1, rfl, by show 2 ≤ sizeLine; omega, fun p2 np2 => ?_⟩
      have nph2 := ne_hand Ai np2
      refine ⟨_, rfl, h, 2, _, rfl, Ai.same (same_upd np2), by omega, by omega, by omega, fun H5 d5 b5 A5 d50 d51 => ?_⟩
      obtain ⟨v5, ev5, vm5⟩ := atI_in (xs := ([.int 1, .int (-1)] : List V)) d50 (by show d5 < 2; exact d51)
      have bb5 : But h H H5 := (bi.trans (Same.but (same_upd np2))).trans b5
      rcases one_vals vm5 with rfl | rfl
      · exact ⟨p2, _, d5, _, rfl, rfl, SqL.of (but_at b5 upd_same nph2), ev5, t, 1, rfl, rfl, .inr (by decide), q H5 _ bb5 (A5.mono (by omega)) (by omega)⟩
      · exact ⟨p2, _, d5, _, rfl, rfl, SqL.of (but_at b5 upd_same nph2), ev5, t, -1, rfl, rfl, .inr (by decide), q H5 _ bb5 (A5.mono (by omega)) (by omega)⟩
theorem ok_atext {f fA fP : Addr} {fd fdA fdP : FuncData} {k : Nat} (F : FnP K "_law_any_text" sAText f fd) (FA : FnP K "_law_alphabet" sAlpha fA fdA) (gA : mg "_law_alphabet" = some (.ref fA)) (GA : FnOk P w K mg base CX0 k fA fdA [] spAlpha)
    (FP : FnP K "_law_pick" sPick fP fdP) (gP : mg "_law_pick" = some (.ref fP)) (GP : FnOk P w K mg base CX0 k fP fdP ["hand", "many"] spPick) (mr : mg "range" = none) : FnOk P w K mg base CX0 (k + 1) f fd ["hand", "most"] spAText := by
  have bA : Binds K fdA [] [] := FA.bindsN fun _ _ _ _ _ _ us hl => match us, hl with | [], _ => rfl
  have bP : Binds K fdP ["hand", "many"] [] := FP.bindsN fun _ _ _ _ _ _ us hl => match us, hl with | [_, _], _ => rfl
  refine F.ok scAText (fun vs H Q E h => ?_) (fun cdv A outer s H vs Q E hr h => ?_)
  · obtain ⟨h, m, n, rfl, _⟩ := h
    rfl
  · obtain ⟨h, m, n, rfl, hA, hn, m1, m2, q⟩ := h
    have hs := szl
    refine ⟨_, PSs.nox (pss_cons (ps_par (i := 2) (j := 3) rfl scAText.nd rfl rfl (by decide) rfl rfl (pa_cons (pe_call0 GA hr (by rfl) gA FA.kp bA .nil pass0) (pa_cons (pe_str) pa_nil)) (by rfl))
      (pss_cons (ps_for PassesOwn.never rfl (pi_range1 (by rfl) mr (pa_cons (pe_ix ix_list (pe_lst (pa_cons (pe_int) (pa_cons (pe_int) (pa_cons (pe_call GP hr (by rfl) gP FP.kp bP .nil pass0 (pa_cons (pv 0) (pa_cons (pe_op op_add (pv 1) (pe_int)) pa_nil))) pa_nil)))) (pe_call GP hr (by rfl) gP FP.kp bP .nil pass0 (pa_cons (pv 0) (pa_cons (pe_int) pa_nil))) (fun _ _ => rfl)) pa_nil)) (pg_name (i := 4) scAText.nd rfl (.inl rfl)) (pss_cons (ps_set (i := 5) scAText.nd rfl (.inl rfl) (pe_ix ix_str (pv 2) (pe_call GP hr (by rfl) gP FP.kp bP .nil pass0 (pa_cons (pv 0) (pa_cons (pe_int) pa_nil))) (fun _ _ => rfl)))
      (pss_one (ps_set (i := 3) scAText.nd rfl (.inl rfl) (pe_op op_add_str (pv 3) (pe_ix ix_list (pe_lst (pa_cons (pe_str) (pa_cons (pe_str) (pa_cons (pv 5) (pa_cons (pv 5) pa_nil))))) (pe_call GP hr (by rfl) gP FP.kp bP .nil pass0 (pa_cons (pv 0) (pa_cons (pe_int) pa_nil))) (fun _ _ => rfl)))))))
      (pss_one (ps_ret (pv 3))))), ?_⟩
    refine ⟨rfl, fun al hal hals => ⟨_, _, rfl, ?_⟩⟩
    refine ⟨_, rfl, _, rfl, (m : Int), 1, rfl, rfl, h, (m : Int) + 1, n, rfl, hA, by omega, by omega, by omega, fun H1 d1 b1 A1 d10 d11 => ⟨by show 3 ≤ sizeLine; omega, fun p np => ?_⟩⟩
    have nph := ne_hand A1 np
    refine ⟨_, rfl, h, 3, _, rfl, A1.same (same_upd np), by omega, by omega, by omega, fun H3 d3 b3 A3 d30 d31 => ?_⟩
    obtain ⟨v, ev, vm⟩ := atI_in (xs := ([.int 0, .int 1, .int d1] : List V)) d30 (by show d3 < 3; exact d31)
    obtain ⟨c, rfl, c1⟩ := text_vals vm m1 d10 (by omega)
    have bb : But h H H3 := (b1.trans (Same.but (same_upd np))).trans b3
    refine ⟨p, _, d3, _, rfl, rfl, SqL.of (but_at b3 upd_same nph), ev, (c : Int), rfl, by omega, by omega, ?_⟩
    refine for_range (lo := 0) (n := (c : Int).toNat) (fun i σ H' => ∃ (z : Str) (y4 y5 : Option V), σ = [some (.ref h), some (.int (m : Int)), some (.str al), some (.str z), y4, y5] ∧ z.length ≤ i ∧ (∀ e ∈ tl z, sgOk e) ∧ HandAt H' h (n + 2 + 2 * i) ∧ But h H H') ⟨_, _, _, rfl, by decide +kernel, by decide +kernel, A3, bb⟩ ?_ ?_
    · rintro i σ H' hi ⟨z, y4, y5, rfl, hz, hzs, Ai, bi⟩
      refine ⟨_, rfl, _, rfl, h, 94, _, rfl, Ai, by omega, by omega, by omega, fun H4 d4 b4 A4 d40 d41 => ?_⟩
      obtain ⟨e4, x4, mm4⟩ := atI_in (xs := al.cps.toList) d40 (by rw [Array.length_toList]; show d4 < (al.length : Int); omega)
      have ok4 := hals e4 mm4
      refine ⟨al, d4, e4, rfl, rfl, by omega, x4, ?_⟩
      refine ⟨_, rfl, _, rfl, _, rfl, by show 4 ≤ sizeLine; omega, fun p2 np2 => ?_⟩
      have nph2 := ne_hand A4 np2
      refine ⟨_, rfl, h, 4, _, rfl, A4.same (same_upd np2), by omega, by omega, by omega, fun H6 d6 b6 A6 d60 d61 => ?_⟩
      obtain ⟨v6, x6, m6⟩ := atI_in (xs := ([.str (Str.ofString "\""), .str (Str.ofString " "), .str ⟨#[e4]⟩, .str ⟨#[e4]⟩] : List V)) d60 (by show d6 < 4; exact d61)
      obtain ⟨g6, rfl, l6, s6⟩ := sign_vals ok4 m6
      refine ⟨p2, _, d6, _, rfl, rfl, SqL.of (but_at b6 upd_same nph2), x6, z, g6, rfl, rfl, by omega, z ++ g6, some (.int (0 + (i : Int))), some (.str ⟨#[e4]⟩), rfl, ?_, ?_, ?_, ?_⟩
      · rw [app_len]
        omega
      · intro e he
        rw [tl_append] at he
        rcases List.mem_append.mp he with q | q
        · exact hzs e q
        · exact s6 e q
      · exact A6.mono (by omega)
      · exact ((bi.trans b4).trans (Same.but (same_upd np2))).trans b6
    · rintro σ H' ⟨z, y4, y5, rfl, hz, hzs, Ai, bi⟩
      exact ⟨_, rfl, q H' z bi (Ai.mono (by omega)) (by omega) hzs⟩
end
end Vl

set_option maxHeartbeats 4000000
namespace Vl
open PySem PySem.Spec PyProof.Rows L2 TL
abbrev sValue : Stmt := top 22
theorem scValue : FnScope ["hand", "deep", "way", "k"] ["hand", "deep"] (defScope sValue) := ⟨rfl, rfl, rfl, by decide +kernel, rfl, by decide +kernel, by decide +kernel⟩
def pB : Nat → Nat
  | 0 => 54
  | D + 1 => 54 + 4 * pB D
def sB : Nat → Nat
  | 0 => 1
  | D + 1 => 2 + 3 * (sB D + 1)
def wB : Nat → Nat
  | 0 => 44
  | D + 1 => 44 + 3 * (wB D + 1)
theorem pB_le (D : Nat) : 54 ≤ pB D := by cases D <;> (first | exact Nat.le_refl _ | (show 54 ≤ 54 + _; omega))
theorem sB_le (D : Nat) : 1 ≤ sB D := by cases D <;> (first | exact Nat.le_refl _ | (show 1 ≤ 2 + _; omega))
theorem wB_le (D : Nat) : 44 ≤ wB D := by cases D <;> (first | exact Nat.le_refl _ | (show 44 ≤ 44 + _; omega))
structure Good (s w D : Nat) (d : PyData) : Prop where
  ok : Ok d
  sm : SmA d
  s_ : sz d ≤ s
  w_ : (wr d).length ≤ w
  dp : d.depth ≤ D
theorem Good.mono {s w D s' w' D' : Nat} {d : PyData} (g : Good s w D d) (h1 : s ≤ s') (h2 : w ≤ w') (h3 : D ≤ D') : Good s' w' D' d := ⟨g.ok, g.sm, Nat.le_trans g.s_ h1, Nat.le_trans g.w_ h2, Nat.le_trans g.dp h3⟩
theorem dbl_le (l : List Nat) : (dbl l).length ≤ 2 * l.length := dbl_len l
theorem sgn_len {i : Int} (h : i.natAbs < 10 ^ 40) : (sgn i).length ≤ 41 := by
  by_cases h0 : 0 ≤ i
  · obtain ⟨n, rfl⟩ := Int.eq_ofNat_of_zero_le h0
    rw [sgn_pos]
    have := numL_len (n := n) (k := 40) (by decide) h
    omega
  · obtain ⟨n, hn0, rfl⟩ : ∃ n : Nat, 0 < n ∧ i = -(n : Int) := ⟨i.natAbs, by omega, by omega⟩
    rw [sgn_neg hn0, List.length_cons]
    have := numL_len (n := n) (k := 40) (by decide) (by simpa using h)
    omega
theorem log_small {n : Nat} (h : n < 10 ^ 40) : n.log2 < 1920 := by
  by_cases h0 : n = 0
  · subst h0; decide
  · exact (Nat.log2_lt h0).mpr (Nat.lt_of_lt_of_le h (Nat.le_trans (show 10 ^ 40 ≤ 2 ^ 256 by decide) (Nat.pow_le_pow_right (by decide) (by decide))))
theorem good_int {i : Int} (h : i.natAbs < 10 ^ 40) : Good 1 44 0 (.int i) :=
  ⟨.int i h, .flat (log_small h) (fun _ e => by cases e), Nat.le_refl 1, Nat.le_trans (sgn_len h) (by decide), Nat.le_refl 0⟩
theorem good_str {z : Str} (h : ∀ c ∈ tl z, sgOk c) (hl : z.length ≤ 20) : Good 1 44 0 (.str z) := by
  refine ⟨.str z h, .flat (Nat.le_trans hl (by decide)) (fun _ e => by cases e), Nat.le_refl 1, ?_, Nat.le_refl 0⟩
  show (34 :: (dbl (tl z) ++ [34])).length ≤ 44
  have := dbl_len (tl z)
  have := len_tl z
  rw [List.length_cons, List.length_append]
  show (dbl (tl z)).length + 1 + 1 ≤ 44
  omega
theorem good_non : Good 1 44 0 .none := ⟨.non, .flat True.intro (fun _ e => by cases e), Nat.le_refl 1, by decide, Nat.le_refl 0⟩
theorem good_bl (b : Bool) : Good 1 44 0 (.bool b) := ⟨.bl b, .flat True.intro (fun _ e => by cases e), Nat.le_refl 1, by cases b <;> decide, Nat.le_refl 0⟩
theorem szAll_bound {s : Nat} : ∀ ds : List PyData, (∀ d ∈ ds, sz d ≤ s) → szAll ds ≤ ds.length * (s + 1)
  | [], _ => Nat.zero_le _
  | d :: r, h => by
    have ih := szAll_bound r fun x hx => h x (List.mem_cons_of_mem _ hx)
    have := h d (List.mem_cons_self ..)
    show sz d + 1 + szAll r ≤ (r.length + 1) * (s + 1)
    rw [Nat.succ_mul]
    omega
theorem wrT_bound {w : Nat} : ∀ ds : List PyData, (∀ d ∈ ds, (wr d).length ≤ w) → (wrT ds).length ≤ 1 + ds.length * (w + 1)
  | [], _ => Nat.le_add_right 1 _
  | d :: r, h => by
    have ih := wrT_bound r fun x hx => h x (List.mem_cons_of_mem _ hx)
    have := h d (List.mem_cons_self ..)
    show (32 :: (wr d ++ wrT r)).length ≤ 1 + (r.length + 1) * (w + 1)
    rw [List.length_cons, List.length_append, Nat.succ_mul]
    omega
theorem wrF_bound {w : Nat} (ds : List PyData) (h : ∀ d ∈ ds, (wr d).length ≤ w) : (wrF ds).length ≤ 1 + ds.length * (w + 1) := by
  cases ds with
  | nil => exact Nat.le_add_right 1 _
  | cons d r =>
    have ih := wrT_bound r fun x hx => h x (List.mem_cons_of_mem _ hx)
    have := h d (List.mem_cons_self ..)
    show (wr d ++ wrT r).length ≤ 1 + (r.length + 1) * (w + 1)
    rw [List.length_append, Nat.succ_mul]
    omega
theorem depthAll_le {D : Nat} : ∀ ds : List PyData, (∀ d ∈ ds, d.depth ≤ D) → PyData.depthAll ds ≤ D
  | [], _ => Nat.zero_le _
  | d :: r, h => by
    have ih := depthAll_le r fun x hx => h x (List.mem_cons_of_mem _ hx)
    have := h d (List.mem_cons_self ..)
    show max d.depth (PyData.depthAll r) ≤ D
    omega
theorem good_tup {s w D n : Nat} {ds : List PyData} (h : ∀ d ∈ ds, Good s w D d) (hn : ds.length ≤ n) : Good (2 + n * (s + 1)) (2 + n * (w + 1)) (D + 1) (.tuple ds) := by
  refine ⟨.tup fun d hd => (h d hd).ok, .tup fun d hd => (h d hd).sm, ?_, ?_, ?_⟩
  · have := szAll_bound ds fun d hd => (h d hd).s_
    show 2 + szAll ds ≤ _
    exact Nat.add_le_add_left (Nat.le_trans this (Nat.mul_le_mul_right _ hn)) 2
  · have := wrF_bound ds fun d hd => (h d hd).w_
    show (wrF ds).length + 1 ≤ _
    have := Nat.mul_le_mul_right (w + 1) hn
    omega
  · show PyData.depthAll ds + 1 ≤ D + 1
    have := depthAll_le ds fun d hd => (h d hd).dp
    omega
theorem but_keep {h : Addr} {H H' : Hp} {xs : List V} (b : But h H H') (hh : H h = some (.lst xs)) : KeepT H H' := fun c ys e => b.1 c _ (fun q => by rw [q, hh] at e; cases e) e
def spValue (D : Nat) : Sp := fun vs H Q _ => ∃ (h : Addr) (n : Nat), vs = [.ref h, .int (D : Int)] ∧ HandAt H h n ∧ n + pB D ≤ 900000 ∧ ∀ H' x d, But h H H' → HandAt H' h (n + pB D) → Vd H' x d → Good (sB D) (wB D) D d → Q x H'
def spV : Nat → Sp
  | 0 => fun _ _ _ _ => False
  | D + 1 => spValue D
theorem way_vals {x : V} (h : x ∈ ([.non, .bl true, .bl false] : List V)) (H : Hp) : ∃ d, Vd H x d ∧ Good 1 44 0 d := by
  rcases List.mem_cons.mp h with e | h
  · exact ⟨_, by rw [e]; exact .non, good_non⟩
  rcases List.mem_cons.mp h with e | h
  · exact ⟨_, by rw [e]; exact .bl true, good_bl true⟩
  rcases List.mem_cons.mp h with e | h
  · exact ⟨_, by rw [e]; exact .bl false, good_bl false⟩
  · cases h
theorem num_vals {x : V} {a b : Int} (h : x ∈ ([.int 0, .int a, .int b] : List V)) (ha : a.natAbs < 10 ^ 40) (hb : b.natAbs < 10 ^ 40) (H : Hp) : ∃ d, Vd H x d ∧ Good 1 44 0 d := by
  rcases List.mem_cons.mp h with e | h
  · exact ⟨_, by rw [e]; exact .int 0, good_int (by decide)⟩
  rcases List.mem_cons.mp h with e | h
  · exact ⟨_, by rw [e]; exact .int a, good_int ha⟩
  rcases List.mem_cons.mp h with e | h
  · exact ⟨_, by rw [e]; exact .int b, good_int hb⟩
  · cases h
section
variable {P : Program} {w : World} {K : PySem.W.Frag} {mg : Str → Option Value} {base : Heap}
theorem ok_valueS {f fP fL fT : Addr} {fd fdP fdL fdT : FuncData} (D : Nat) (F : FnP K "_law_any_value" sValue f fd) (gV : mg "_law_any_value" = some (.ref f)) (GV : FnOk P w K mg base CX0 (2 + D) f fd ["hand", "deep"] (spV D))
    (FP : FnP K "_law_pick" sPick fP fdP) (gP : mg "_law_pick" = some (.ref fP)) (GP : FnOk P w K mg base CX0 1 fP fdP ["hand", "many"] spPick)
    (FL : FnP K "_law_long_number" sLong fL fdL) (gL : mg "_law_long_number" = some (.ref fL)) (GL : FnOk P w K mg base CX0 2 fL fdL ["hand"] spLong)
    (FT : FnP K "_law_any_text" sAText fT fdT) (gT : mg "_law_any_text" = some (.ref fT)) (GT : FnOk P w K mg base CX0 2 fT fdT ["hand", "most"] spAText)
    (mi : mg "int" = none) (mt : mg "tuple" = none) (mr : mg "range" = none) : FnOk P w K mg base CX0 (2 + D + 1) f fd ["hand", "deep"] (spValue D) := by
  have bV : Binds K fd ["hand", "deep"] [] := F.bindsN fun _ _ _ _ _ _ us hl => match us, hl with | [_, _], _ => rfl
  have bP : Binds K fdP ["hand", "many"] [] := FP.bindsN fun _ _ _ _ _ _ us hl => match us, hl with | [_, _], _ => rfl
  have bL : Binds K fdL ["hand"] [] := FL.bindsN fun _ _ _ _ _ _ us hl => match us, hl with | [_], _ => rfl
  have bT : Binds K fdT ["hand", "most"] [] := FT.bindsN fun _ _ _ _ _ _ us hl => match us, hl with | [_, _], _ => rfl
  refine F.ok scValue (fun vs H Q E h => ?_) (fun cdv A outer s H vs Q E hr h => ?_)
  · obtain ⟨h, n, rfl, _⟩ := h
    rfl
  · obtain ⟨h, n, rfl, hA, hn, q⟩ := h
    have hs := szl
    have hr1 : Room 1 _ := hr.mono (show 1 ≤ 2 + D by omega)
    have hr2 : Room 2 _ := hr.mono (show 2 ≤ 2 + D by omega)
    have hp := pB_le D
    have hsB := sB_le D
    have hwB := wB_le D
    refine ⟨_, PSs.nox (pss_cons (ps_set (i := 2) scValue.nd rfl (.inl rfl) (pe_call GP hr1 (by rfl) gP FP.kp bP .nil pass0 (pa_cons (pv 0) (pa_cons (pe_ix ix_list (pe_lst (pa_cons (pe_int) (pa_cons (pe_int) pa_nil))) (pe_callTy call_int1 (by rfl) mi boot_int (pa_cons (pe_cmpR op_gt (pv 1) (pe_int) (nomark _)) pa_nil)) (fun _ _ => rfl)) pa_nil))))
      (pss_cons (ps_if (pt_cmpR op_lt (pv 2) (pe_int) (nomark _)) (pss_one (ps_ret (pe_ix ix_list (pe_lst (pa_cons (pe_non) (pa_cons (pe_bl) (pa_cons (pe_bl) pa_nil)))) (pv 2) (fun _ _ => rfl)))) pss_nil)
      (pss_cons (ps_if (pt_cmpR op_lt (pv 2) (pe_int) (nomark _)) (pss_one (ps_ret (pe_ix ix_list (pe_lst (pa_cons (pe_int) (pa_cons (pe_call GP hr1 (by rfl) gP FP.kp bP .nil pass0 (pa_cons (pv 0) (pa_cons (pe_int) pa_nil))) (pa_cons (pe_call GL hr2 (by rfl) gL FL.kp bL .nil pass0 (pa_cons (pv 0) pa_nil)) pa_nil)))) (pe_op op_sub (pv 2) (pe_int)) (fun _ _ => rfl)))) pss_nil)
      (pss_cons (ps_if (pt_cmpR op_lt (pv 2) (pe_int) (nomark _)) (pss_one (ps_ret (pe_call GT hr2 (by rfl) gT FT.kp bT .nil pass0 (pa_cons (pv 0) (pa_cons (pe_int) pa_nil))))) pss_nil)
      (pss_one (ps_ret (pe_callTy call_tuple_of (by rfl) mt PyProof.Rows.boot_tuple (pa_cons (pe_lc (own := [("k", 3)]) (g := gName 3) (tt := tYes) rfl scValue.nd (pi_range1 (by rfl) mr (pa_cons (pe_call GP hr1 (by rfl) gP FP.kp bP .nil pass0 (pa_cons (pv 0) (pa_cons (pe_int) pa_nil))) pa_nil)) (blkOk_by (own := [("k", 3)]) (N := ["hand", "deep", "way", "k"]) (sc := defScope sValue) (by decide +kernel)) (fun _ _ _ _ _ => pg_name (i := 3) scValue.nd rfl (Or.inl rfl)) (fun _ _ _ _ _ => pts_nil) (fun _ _ _ _ _ => pe_call GV hr (by rfl) gV F.kp bV .nil pass0 (pa_cons (pv 0) (pa_cons (pe_op op_sub (pv 1) (pe_int)) pa_nil)))) pa_nil)))))))), ?_⟩
    have fin : ∀ H' x d k, But h H H' → HandAt H' h k → k ≤ n + pB D → Vd H' x d → Good 1 44 0 d → Q x H' := fun H' x d k b A hk vd g => q H' x d b (A.mono hk) vd (g.mono hsB hwB (Nat.zero_le _))
    -- way
    refine ⟨_, rfl, by show 2 ≤ sizeLine; omega, fun p np => ⟨_, rfl, _, 0, rfl, rfl, .inr ⟨_, rfl, ?_⟩⟩⟩
    obtain ⟨m, em, m0, m1, md⟩ : ∃ m : Int, atI ([.int 8, .int 12] : List V) (if decide ((0 : Int) < (D : Int)) = true then 1 else 0) = some (.int m) ∧ 8 ≤ m ∧ m ≤ 12 ∧ (D = 0 → m = 8) := by
      by_cases h0 : (0 : Int) < (D : Int)
      · rw [decide_eq_true h0, if_pos rfl]
        exact ⟨12, atI_nat (j := 1) rfl, by omega, by omega, by omega⟩
      · rw [decide_eq_false h0, if_neg (by decide)]
        exact ⟨8, atI_nat (j := 0) rfl, by omega, by omega, by omega⟩
    have nph := ne_hand hA np
    refine ⟨p, _, _, .int m, rfl, rfl, SqL.of upd_same, em, h, m, n, rfl, hA.same (same_upd np), by omega, by omega, by omega, fun H1 w1 b1 A1 w10 w11 => ?_⟩
    have bb1 : But h H H1 := (Same.but (same_upd np)).trans b1
    refine ⟨_, rfl, w1, 3, rfl, rfl, _, rfl, ite2 (fun e => ?_) (fun e => ?_)⟩
    · have e1 : w1 < 3 := of_decide_eq_true e
      refine ⟨by show 3 ≤ sizeLine; omega, fun p2 np2 => ?_⟩
      obtain ⟨v, ev, vm⟩ := atI_in (xs := ([.non, .bl true, .bl false] : List V)) w10 (by show w1 < 3; exact e1)
      obtain ⟨d, vd, gd⟩ := way_vals vm (upd H1 p2 (.lst [.non, .bl true, .bl false]))
      exact ⟨_, rfl, p2, _, w1, v, rfl, rfl, SqL.of upd_same, ev, fin _ _ _ _ (bb1.trans (Same.but (same_upd np2))) (A1.same (same_upd np2)) (by omega) vd gd⟩
    have e1 : ¬ w1 < 3 := fun h => e (decide_eq_true h)
    refine ⟨_, rfl, w1, 6, rfl, rfl, _, rfl, ite2 (fun e => ?_) (fun e => ?_)⟩
    · have e2 : w1 < 6 := of_decide_eq_true e
      refine ⟨_, rfl, h, 12, _, rfl, A1, by omega, by omega, by omega, fun H2 d2 b2 A2 d20 d21 => ?_⟩
      refine ⟨_, rfl, h, _, rfl, A2, by omega, fun H3 i3 b3 A3 hi3 => ⟨by show 3 ≤ sizeLine; omega, fun p3 np3 => ?_⟩⟩
      have hw : 0 ≤ w1 - 3 := by omega
      obtain ⟨v, ev, vm⟩ := atI_in (xs := ([.int 0, .int d2, .int i3] : List V)) hw (by show w1 - 3 < 3; omega)
      obtain ⟨d, vd, gd⟩ := num_vals vm (by omega) hi3 (upd H3 p3 (.lst [.int 0, .int d2, .int i3]))
      exact ⟨_, rfl, w1, 3, rfl, rfl, p3, _, w1 - 3, v, rfl, rfl, SqL.of upd_same, ev, fin _ _ _ _ (((bb1.trans b2).trans b3).trans (Same.but (same_upd np3))) (A3.same (same_upd np3)) (by omega) vd gd⟩
    have e2 : ¬ w1 < 6 := fun h => e (decide_eq_true h)
    refine ⟨_, rfl, w1, 8, rfl, rfl, _, rfl, ite2 (fun e => ?_) (fun e => ?_)⟩
    · refine ⟨_, rfl, h, 20, _, rfl, A1, by omega, by omega, by omega, fun H2 z b2 A2 hz hzs => ?_⟩
      exact fin _ _ _ _ (bb1.trans b2) A2 (by omega) (.str z) (good_str hzs hz)
    have e3 : ¬ w1 < 8 := fun h => e (decide_eq_true h)
    cases D with
    | zero =>
      have := md rfl
      omega
    | succ D =>
      have hpB : pB (D + 1) = 54 + 4 * pB D := rfl
      have hpD := pB_le D
      refine ⟨_, rfl, h, 4, _, rfl, A1, by omega, by omega, by omega, fun H2 d2 b2 A2 d20 d21 => ⟨d2, rfl, by omega, by omega, fun L nL => ?_⟩⟩
      have nLh := ne_hand A2 nL
      refine lc_range (lo := 0) (n := d2.toNat) (fun i H' => ∃ xs ds, H' L = some (.lst xs) ∧ VdAll H' xs ds ∧ (∀ d ∈ ds, Good (sB D) (wB D) D d) ∧ ds.length = i ∧ But h H H' ∧ HandAt H' h (n + 2 + i * pB D) ∧ But h H2 H') ⟨[], [], upd_same, .nil, (fun _ h => by cases h), rfl, (bb1.trans b2).trans (Same.but (same_upd nL)), ?_, Same.but (same_upd nL)⟩ ?_ ?_
      · rw [Nat.zero_mul]
        exact A2.same (same_upd nL)
      · rintro i H3 hi ⟨xs, ds, hL3, hx3, hg3, hl3, b3, A3, b5⟩
        have hi4 : i ≤ 3 := by omega
        have him : i * pB D ≤ 3 * pB D := Nat.mul_le_mul_right _ hi4
        obtain ⟨hxs, hhx⟩ := A3.is
        refine ⟨rfl, _, rfl, _, rfl, ((D + 1 : Nat) : Int), 1, rfl, rfl, h, n + 2 + i * pB D, ?_, A3, by omega, fun H4 x d b4 A4 vd gd => ?_⟩
        · show [V.ref h, V.int (((D + 1 : Nat) : Int) - 1)] = [V.ref h, V.int (D : Int)]
          rw [show (((D + 1 : Nat) : Int) - 1) = (D : Int) by omega]
        have hL4 := but_at b4 hL3 nLh
        have k4 : KeepT H3 H4 := but_keep b4 hhx
        have k5 : KeepT H4 (upd H4 L (.lst (xs ++ [x]))) := keep_lst hL4
        refine ⟨xs, hL4, by rw [hx3.len, hl3]; omega, xs ++ [x], ds ++ [d], upd_same, (VdAll.snoc vd (hx3.keep k4)).keep k5, ?_, by rw [List.length_append, hl3]; rfl, ?_, ?_, (b5.trans b4).put nLh nL⟩
        · intro u hu
          rcases List.mem_append.mp hu with q | q
          · exact hg3 u q
          · rw [List.mem_singleton.mp q]; exact gd
        · exact (b3.trans b4).put nLh (((bb1.trans b2)).free nLh nL)
        · have e5 : n + 2 + (i + 1) * pB D = n + 2 + i * pB D + pB D := by rw [Nat.succ_mul]; omega
          rw [e5]
          exact A4.put (b5.trans b4) A2 nL nLh
      · rintro H3 ⟨xs, ds, hL3, hx3, hg3, hl3, b3, A3, b5⟩
        refine ⟨L, xs, rfl, .inl ⟨SqL.of hL3, fun p3 np3 => ?_⟩⟩
        have s3 := same_upd (o := HO.tup xs) np3
        have hl4 : ds.length ≤ 3 := by omega
        have hm3 : d2.toNat * pB D ≤ 3 * pB D := Nat.mul_le_mul_right _ (by omega)
        refine q _ _ (.tuple ds) (b3.trans (Same.but s3)) ((A3.same s3).mono (by omega)) (.tup upd_same (hx3.keep (Same.keepT s3))) ((good_tup hg3 hl4).mono (Nat.le_refl _) ?_ (Nat.le_refl _))
        show 2 + 3 * (wB D + 1) ≤ 44 + 3 * (wB D + 1)
        omega
end
end Vl

set_option maxHeartbeats 4000000
namespace Vl
open PySem PySem.Spec PyProof.Rows L2 TL CwR PySem.StrLaws
abbrev sWriting : Stmt := top 23
theorem scWr : FnScope ["value", "part"] ["value"] (defScope sWriting) := ⟨rfl, rfl, rfl, by decide +kernel, rfl, by decide +kernel, by decide +kernel⟩
theorem joinL_wrT : ∀ (d : PyData) (ds : List PyData), joinL [32] ((d :: ds).map wr) ++ [41] = wr d ++ wrT ds
  | d, [] => by
    show wr d ++ [41] = wr d ++ [41]
    rfl
  | d, e :: r => by
    show (wr d ++ ([32] ++ joinL [32] ((e :: r).map wr))) ++ [41] = wr d ++ (32 :: (wr e ++ wrT r))
    rw [← joinL_wrT e r]
    simp
theorem joinL_wrF (ds : List PyData) : joinL [32] (ds.map wr) ++ [41] = wrF ds := by
  cases ds with
  | nil => rfl
  | cons d r => exact joinL_wrT d r
theorem wr_len_all : ∀ ds : List PyData, ((ds.map wr).map List.length).sum + ds.length ≤ (wrT ds).length
  | [] => Nat.zero_le _
  | d :: r => by
    have ih := wr_len_all r
    show (wr d).length + ((r.map wr).map List.length).sum + (r.length + 1) ≤ (32 :: (wr d ++ wrT r)).length
    rw [List.length_cons, List.length_append]
    omega
theorem wrT_wrF (ds : List PyData) : (wrT ds).length ≤ (wrF ds).length + 1 := by
  cases ds with
  | nil => show 1 ≤ 1 + 1; omega
  | cons d r =>
    show (32 :: (wr d ++ wrT r)).length ≤ (wr d ++ wrT r).length + 1
    rw [List.length_cons]
    exact Nat.le_refl _
theorem depth_mem : ∀ (ds : List PyData) {d : PyData}, d ∈ ds → d.depth ≤ PyData.depthAll ds
  | e :: r, d, h => by
    show d.depth ≤ max e.depth (PyData.depthAll r)
    rcases List.mem_cons.mp h with q | q
    · rw [q]; omega
    · have := depth_mem r q
      omega
theorem wr_mem_T : ∀ (ds : List PyData) {d : PyData}, d ∈ ds → (wr d).length ≤ (wrT ds).length
  | e :: r, d, h => by
    show (wr d).length ≤ (32 :: (wr e ++ wrT r)).length
    rw [List.length_cons, List.length_append]
    rcases List.mem_cons.mp h with q | q
    · rw [q]; omega
    · have := wr_mem_T r q
      omega
def spWr (D : Nat) : Sp := fun vs H Q _ => ∃ (x : V) (d : PyData), vs = [x] ∧ Vd H x d ∧ SmA d ∧ (wr d).length ≤ 4000000 ∧ d.depth ≤ D ∧ ∀ H' r, Same H H' → tl r = wr d → Q (.str r) H'
def spW : Nat → Sp
  | 0 => fun _ _ _ _ => False
  | D + 1 => spWr D
theorem fn_none {P : Program} {w : World} {K : PySem.W.Frag} {mg : Str → Option Value} {base : Heap} {k : Nat} {f : Addr} {fd : FuncData} {ps : List Str} : FnOk P w K mg base CX0 k f fd ps (fun _ _ _ _ => False) :=
  ⟨fun _ _ _ _ h => h.elim, fun _ _ _ _ _ _ _ _ _ _ _ _ _ h => h.elim⟩
section
variable {P : Program} {w : World} {K : PySem.W.Frag} {mg : Str → Option Value} {base : Heap}
theorem ok_value {f fP fL fT : Addr} {fd fdP fdL fdT : FuncData} (F : FnP K "_law_any_value" sValue f fd) (gV : mg "_law_any_value" = some (.ref f))
    (FP : FnP K "_law_pick" sPick fP fdP) (gP : mg "_law_pick" = some (.ref fP)) (GP : FnOk P w K mg base CX0 1 fP fdP ["hand", "many"] spPick)
    (FL : FnP K "_law_long_number" sLong fL fdL) (gL : mg "_law_long_number" = some (.ref fL)) (GL : FnOk P w K mg base CX0 2 fL fdL ["hand"] spLong)
    (FT : FnP K "_law_any_text" sAText fT fdT) (gT : mg "_law_any_text" = some (.ref fT)) (GT : FnOk P w K mg base CX0 2 fT fdT ["hand", "most"] spAText)
    (mi : mg "int" = none) (mt : mg "tuple" = none) (mr : mg "range" = none) : ∀ D, FnOk P w K mg base CX0 (2 + D) f fd ["hand", "deep"] (spV D)
  | 0 => fn_none
  | D + 1 => ok_valueS D F gV (ok_value F gV FP gP GP FL gL GL FT gT GT mi mt mr D) FP gP GP FL gL GL FT gT GT mi mt mr
theorem ok_writingS {f : Addr} {fd : FuncData} (D k : Nat) (F : FnP K "_law_writing" sWriting f fd) (gW : mg "_law_writing" = some (.ref f)) (GW : FnOk P w K mg base CX0 k f fd ["value"] (spW D))
    (mi : mg "isinstance" = none) (mb : mg "bool" = none) (mn : mg "int" = none) (ms : mg "str" = none) : FnOk P w K mg base CX0 (k + 1) f fd ["value"] (spWr D) := by
  have bW : Binds K fd ["value"] [] := F.bindsN fun _ _ _ _ _ _ us hl => match us, hl with | [_], _ => rfl
  refine F.ok scWr (fun vs H Q E h => ?_) (fun cdv A outer s H vs Q E hr h => ?_)
  · obtain ⟨x, d, rfl, _⟩ := h
    rfl
  · obtain ⟨x, d, rfl, hv, hs, hw, hD, q⟩ := h
    have hz := szl
    refine ⟨_, PSs.nox (pss_cons (ps_if (pt_cmpR op_isN (pv 0) pe_non (nomark _)) (pss_one (ps_ret pe_str)) pss_nil)
      (pss_cons (ps_if (pt_val (pe_callB call_isi (by rfl) mi (by decide +kernel) (pa_cons (pv 0) (pa_cons (pe_bltn (v := .ty "bool") (by rfl) mb boot_bool rfl) pa_nil)))) (pss_one (ps_ret (pe_ix ix_list (pe_lst (pa_cons (pe_str) (pa_cons (pe_str) pa_nil))) (pe_callTy call_int1 (by rfl) mn boot_int (pa_cons (pv 0) pa_nil)) (fun _ _ => rfl)))) pss_nil)
      (pss_cons (ps_if (pt_val (pe_callB call_isi (by rfl) mi (by decide +kernel) (pa_cons (pv 0) (pa_cons (pe_bltn (v := .ty "int") (by rfl) mn boot_int rfl) pa_nil)))) (pss_one (ps_ret (pe_callTy call_str_int (by rfl) ms boot_str (pa_cons (pv 0) pa_nil)))) pss_nil)
      (pss_cons (ps_if (pt_val (pe_callB call_isi (by rfl) mi (by decide +kernel) (pa_cons (pv 0) (pa_cons (pe_bltn (v := .ty "str") (by rfl) ms boot_str rfl) pa_nil)))) (pss_one (ps_ret (pe_op op_add_str (pe_op op_add_str (pe_str) (pe_join pe_str (pe_split (pv 0) pe_str))) (pe_str)))) pss_nil)
      (pss_one (ps_ret (pe_op op_add_str (pe_op op_add_str (pe_str) (pe_join pe_str (pe_lc (own := [("part", 1)]) (g := gName 1) (tt := tYes) rfl scWr.nd (pi_tup (pv 0)) (blkOk_by (own := [("part", 1)]) (N := ["value", "part"]) (sc := defScope sWriting) (by decide +kernel)) (fun _ _ _ _ _ => pg_name (i := 1) scWr.nd rfl (Or.inl rfl)) (fun _ _ _ _ _ => pts_nil) (fun _ _ _ _ _ => pe_call GW hr (by rfl) gW F.kp bW .nil pass0 (pa_cons (pv 1) pa_nil))))) (pe_str)))))))), ?_⟩
    have l1 : (Str.ofString "\"").length = 1 := by decide +kernel
    have l2 : (Str.ofString "\"\"").length = 2 := by decide +kernel
    have t1 : tl (Str.ofString "\"") = [34] := by decide +kernel
    have t2 : tl (Str.ofString "\"\"") = [34, 34] := by decide +kernel
    have sr : Same H H := fun _ _ e => e
    cases hv with
    | non => exact ⟨_, rfl, rfl, _, rfl, iteT (q _ _ sr (by decide +kernel))⟩
    | bl b =>
      refine ⟨_, rfl, rfl, _, rfl, iteF ?_⟩
      refine ⟨_, rfl, .bl b, .ty "bool", .type "bool", .type "bool", true, rfl, .ty _, .base (.bl b), kit_ty (by decide +kernel), _, rfl, iteT ?_⟩
      refine ⟨by show 2 ≤ sizeLine; omega, fun p np => ⟨_, rfl, .inr ⟨b, rfl, ?_⟩⟩⟩
      cases b with
      | true => exact ⟨p, _, 1, _, rfl, rfl, SqL.of upd_same, rfl, q _ _ (same_upd np) (by decide +kernel)⟩
      | false => exact ⟨p, _, 0, _, rfl, rfl, SqL.of upd_same, rfl, q _ _ (same_upd np) (by decide +kernel)⟩
    | int i =>
      refine ⟨_, rfl, rfl, _, rfl, iteF ?_⟩
      refine ⟨_, rfl, .int i, .ty "bool", .type "int", .type "bool", false, rfl, .ty _, .base (.int i), kit_ty (by decide +kernel), _, rfl, iteF ?_⟩
      refine ⟨_, rfl, .int i, .ty "int", .type "int", .type "int", true, rfl, .ty _, .base (.int i), kit_ty (by decide +kernel), _, rfl, iteT ?_⟩
      exact ⟨_, rfl, i, rfl, hs.sm (fun _ e => by cases e), q _ _ sr rfl⟩
    | str z =>
      refine ⟨_, rfl, rfl, _, rfl, iteF ?_⟩
      refine ⟨_, rfl, .str z, .ty "bool", .type "str", .type "bool", false, rfl, .ty _, .base (.str z), kit_ty (by decide +kernel), _, rfl, iteF ?_⟩
      refine ⟨_, rfl, .str z, .ty "int", .type "str", .type "int", false, rfl, .ty _, .base (.str z), kit_ty (by decide +kernel), _, rfl, iteF ?_⟩
      refine ⟨_, rfl, .str z, .ty "str", .type "str", .type "str", true, rfl, .ty _, .base (.str z), kit_ty (by decide +kernel), _, rfl, iteT ?_⟩
      have hs' : z.length ≤ 1000000 := hs.sm (fun _ e => by cases e)
      have rl : tl (Txt.replace z (Str.ofString "\"") (Str.ofString "\"\"")) = dbl (tl z) := by
        have e := replace_list (x := z) (y := Str.ofString "\"") (z := Str.ofString "\"\"") (by rw [l1]; exact Nat.le_refl 1)
        have e2 : tl (Txt.replace z (Str.ofString "\"") (Str.ofString "\"\"")) = replL (tl (Str.ofString "\"")) (tl (Str.ofString "\"\"")) (tl z) := e
        rw [e2, t1, t2, dbl_repl]
      have e34 : Str.ofString "\"" = ⟨#[34]⟩ := by decide +kernel
      have jl : tl (Txt.join (Str.ofString "\"\"") (Txt.split z (Str.ofString "\""))) = dbl (tl z) := by
        rw [join_eq, ← rl, e34, replace_one]
      have jn : (Txt.join (Str.ofString "\"\"") (Txt.split z (Str.ofString "\""))).length ≤ 2000000 := by
        rw [len_tl, jl]
        have := dbl_len (tl z)
        have := len_tl z
        omega
      have sw := split_weight z (Str.ofString "\"") (by rw [l1]; exact Nat.le_refl 1)
      refine ⟨⟨_, rfl⟩, _, rfl, ⟨_, rfl⟩, z, _, rfl, rfl, ?_, by omega, fun p np => ⟨_, p, _, rfl, rfl, .inl (SqL.of upd_same), ?_, ?_⟩⟩
      · rw [l1]; rfl
      · rw [l2]
        omega
      refine ⟨_, _, rfl, rfl, ?_, _, _, rfl, rfl, ?_, q _ _ (same_upd np) ?_⟩
      · rw [l1]; omega
      · rw [app_len, l1]; omega
      · rw [tl_append, tl_append, t1, jl]
        show [34] ++ dbl (tl z) ++ [34] = 34 :: (dbl (tl z) ++ [34])
        simp
    | tup ha hys =>
      rename_i a ys ds
      refine ⟨_, rfl, rfl, _, rfl, iteF ?_⟩
      refine ⟨_, rfl, .ref a, .ty "bool", .type "tuple", .type "bool", false, rfl, .ty _, .base (.tup ha), kit_ty (by decide +kernel), _, rfl, iteF ?_⟩
      refine ⟨_, rfl, .ref a, .ty "int", .type "tuple", .type "int", false, rfl, .ty _, .base (.tup ha), kit_ty (by decide +kernel), _, rfl, iteF ?_⟩
      refine ⟨_, rfl, .ref a, .ty "str", .type "tuple", .type "str", false, rfl, .ty _, .base (.tup ha), kit_ty (by decide +kernel), _, rfl, iteF ?_⟩
      have hyl := hys.len
      have hwF : (wrF ds).length + 1 ≤ 4000000 := hw
      have hla := wr_len_all ds
      have hTF := wrT_wrF ds
      refine ⟨⟨_, rfl⟩, _, rfl, a, rfl, ⟨_, SqT.of ha⟩, fun L nL => ?_⟩
      refine lc_tup (xs := ys) (fun i H' => ∃ zs : List Str, H' L = some (.lst (zs.map V.str)) ∧ zs.map tl = (ds.take i).map wr ∧ Same H H') ⟨[], upd_same, rfl, same_upd nL⟩ (fun i H' hi h => ?_) ?_ ?_
      · obtain ⟨zs, _, _, sm⟩ := h
        exact SqT.of (sm _ _ ha)
      · rintro i x H' hx ⟨zs, hL, hzs, sm⟩
        obtain ⟨d5, hd5, vd5⟩ := hys.get _ hx
        have hmem := List.mem_of_getElem? hd5
        have hid : i < ds.length := (List.getElem?_eq_some_iff.mp hd5).1
        have hzl : zs.length = i := by
          have := congrArg List.length hzs
          simp at this
          omega
        cases D with
        | zero =>
          have : PyData.depthAll ds + 1 ≤ 0 := hD
          omega
        | succ D =>
          have hdp : PyData.depthAll ds + 1 ≤ D + 1 := hD
          have hdm := depth_mem ds hmem
          have hwm := wr_mem_T ds hmem
          refine ⟨rfl, _, rfl, x, d5, rfl, vd5.keep (Same.keepT sm), hs.get d5 hmem, by omega, by omega, fun H2 r s2 hr => ?_⟩
          refine ⟨_, s2 _ _ hL, by rw [List.length_map]; omega, zs ++ [r], ?_, ?_, ?_⟩
          · rw [upd_same, List.map_append]; rfl
          · rw [List.map_append, hzs, List.take_add_one, List.map_append, hd5]
            show _ ++ [tl r] = _ ++ [wr d5]
            rw [hr]
          · exact same_put (sm.trans s2) nL
      · rintro H' ⟨zs, hL, hzs, sm⟩
        rw [hyl, List.take_length] at hzs
        have hzl : zs.length = ds.length := by
          have := congrArg List.length hzs
          simpa using this
        have t32 : tl (Str.ofString " ") = [32] := by decide +kernel
        have l32 : (Str.ofString " ").length = 1 := by decide +kernel
        have t40 : tl (Str.ofString "(") = [40] := by decide +kernel
        have l40 : (Str.ofString "(").length = 1 := by decide +kernel
        have t41 : tl (Str.ofString ")") = [41] := by decide +kernel
        have l41 : (Str.ofString ")").length = 1 := by decide +kernel
        have hsum : (zs.map Str.length).sum = ((ds.map wr).map List.length).sum := by
          rw [← hzs, List.map_map]
          exact congrArg List.sum (List.map_congr_left fun p _ => len_tl p)
        have jt : tl (Txt.join (Str.ofString " ") zs) ++ [41] = wrF ds := by
          rw [join_eq, tl_join, t32, hzs]
          exact joinL_wrF ds
        have jn : (Txt.join (Str.ofString " ") zs).length + 1 = (wrF ds).length := by
          rw [len_tl, ← jt, List.length_append]
          rfl
        refine ⟨Str.ofString " ", L, zs, rfl, rfl, .inl (SqL.of hL), ?_, ?_⟩
        · rw [l32, hsum]
          omega
        refine ⟨_, _, rfl, rfl, ?_, _, _, rfl, rfl, ?_, q _ _ sm ?_⟩
        · rw [l40]; omega
        · rw [app_len, l40, l41]; omega
        · rw [tl_append, tl_append, t40, t41, List.append_assoc, jt]
          rfl
theorem ok_writing {f : Addr} {fd : FuncData} (F : FnP K "_law_writing" sWriting f fd) (gW : mg "_law_writing" = some (.ref f))
    (mi : mg "isinstance" = none) (mb : mg "bool" = none) (mn : mg "int" = none) (ms : mg "str" = none) : ∀ D, FnOk P w K mg base CX0 D f fd ["value"] (spW D)
  | 0 => fn_none
  | D + 1 => ok_writingS D D F gW (ok_writing F gW mi mb mn ms D) mi mb mn ms
end
end Vl

set_option autoImplicit false
set_option maxHeartbeats 2000000
namespace Gk
open PySem PySem.Spec PyProof.Rows L2 PySem.W PySem.Calls
/-- what a def keeps where it is known that no guard is up -/
structure Known (P : Program) (w : World) (K : PySem.W.Frag) (mg : Str → Option Value) (base : Heap) (k : Nat) (f : Addr) (fd : FuncData) (ps : List Str) (sp : Sp) : Prop where
  run : ∀ (A : Around) (outer : List Env) (s : Shared) (H : Hp) (args : Args) (us : List Value) (vs : List V) (Q : VK) (E : XK),
    A.guards = some [] → Room k A → Env0 P w K mg base A outer s H → BindsTo s fd args (ps.zip us) → Vals vs us → sp vs H Q E →
      codeAny (model P w) A (.call (.ref f) args) (CR CX0 outer P w H s Q E) s
variable {P : Program} {w : World} {K : PySem.W.Frag} {mg : Str → Option Value} {base : Heap}
theorem known_of {x qual : Str} {params : Arguments} {body : List Stmt} {scope : Scope} {dvs : List V} {kws : List (Str × V)} {f : Addr} {fd : FuncData} {N ps : List Str} {k : Nat} {sp : Sp}
    (F : FunD K x qual params body scope dvs kws f fd) (S : FnScope N ps scope) (len : ∀ vs H Q E, sp vs H Q E → vs.length = ps.length)
    (walk : ∀ (cdv : Value) (A : Around) (outer : List Env) (s : Shared) (H : Hp) (vs : List V) (Q : VK) (E : XK), A.guards = some [] → Room k (A.deeper (envOfC qual scope s.heap.objs.size f cdv)) → sp vs H Q E →
      ∃ t, PSs (cxOf CX0 P w K mg base N qual scope f cdv A outer s H E) body t ∧ t { nx := fun _ H1 => Q .non H1, rt := Q } (L2.start N vs) H) :
    Known P w K mg base (k + 1) f fd ps sp := by
  obtain ⟨⟨oc, od, dV, kV, doc, pm, an, cdv, ct, osl, rfl, lk, hcd, _, _⟩, _⟩ := F
  refine ⟨fun A outer s H args us vs Q E hg hr e0 hb r hsp => ?_⟩
  have hl := len vs H Q E hsp
  have KX := Frag.In.keeps e0.mod.kin fun b o e => (e0.bs b o e).1
  have lim := Heap.NoLimit.keeps e0.mod.nolimit fun b o e => (e0.bs b o e).1
  refine codeAny_call_function hr.depth (KX f _ lk) rfl S.co S.gen rfl (codeRec_of KX hcd) (hb _ _ _ _ ?_)
  refine wpAny_newFunctionEnv_cells S.kind (fun y hy => ?_) fun env he s1 ic => ?_
  · obtain ⟨n, v⟩ := y
    rcases S.par n (List.of_mem_zip hy).1 with q | q
    · exact .inl q
    · exact .inr ⟨q, cellsFrom_some scope.names (s.heap.objs.size + 1) [] (.inl q)⟩
  · subst he
    refine ⟨Heap.NoLimit.keeps lim ic.toInCall.keep, codeAny_func ?_⟩
    obtain ⟨t, ht, hq⟩ := walk cdv A outer s H vs Q E hg (hr.deeper _) hsp
    have I := inv_start (CX := CX0) (E := E) S hr.hd e0 hl r ic
    refine wpAny_mono (ht.run [] s1 (L2.start N vs) H _ I hq) (fun fl s' hs => ?_) fun e s' hs => hs
    cases fl with
    | ret u =>
      obtain ⟨v, σ', H', J, rv, q⟩ := hs
      exact ⟨v, H', J.os, J.bare, J.base, J.hok, rv, q⟩
    | next =>
      obtain ⟨σ', H', J, q⟩ := hs
      exact ⟨.non, H', J.os, J.bare, J.base, J.hok, rfl, q⟩
    | _ =>
      obtain ⟨_, _, _, q⟩ := hs
      exact q.elim
end Gk

set_option autoImplicit false
set_option maxHeartbeats 2000000
namespace Gk
open PySem PySem.Spec PyProof.Rows L2 PySem.W PySem.Calls
theorem call_known {P : Program} {w : World} {K : PySem.W.Frag} {mg mb : Str → Option Value} {k : Nat} {fa a : Addr} {fd : FuncData} {x : Str} {sp : Sp} {s₁ : Shared} {vs : List Value} {ns : List Int}
    (KX : K.In s₁.heap) (hns : s₁.heap.Ns mainGlobals mg) (hb : s₁.heap.Ns builtinsNs mb) (hbb : ∀ x : Str, x ≠ Str.ofString "__name__" → mb x = bootBuiltins x) (hlim : s₁.heap.NoLimit) (hg : s₁.gens = #[])
    (ha : s₁.heap.get? a = some { cls := .type "list", data := .seq vs.toArray }) (hi : IntsAre vs ns) (hl : ns.length ≤ sizeLine) (hr : Room k callerA)
    (F : ∀ base : Heap, K.In base → base.Ns mainGlobals mg → Known P w K mg base k fa fd [x] sp) (hbind : ∀ (s : Shared) (u : Value), BindsTo s fd ⟨[u], []⟩ [(x, u)])
    (hsp : ∀ H : Hp, Only H → SqL K H a (ns.map V.int) → sp [.ref a] H (fun v _ => v = .bl true) (fun _ _ _ => False)) :
    codeAny (model P w) callerA (.call (.ref fa) ⟨[.ref a], []⟩) (fun r s' => r = .ok (.ret (.bool true)) ∧ OldK s₁.heap s'.heap ∧ s'.os = s₁.os ∧ AllBare s'.gens) s₁ := by
  have rv := vals_ints hi
  have lenV := IntsAre.length hi
  have core : ∀ H : Hp, Only H → SqL K H a (ns.map V.int) → HOk P w H s₁.heap → (∀ b, H b ≠ none → b = a) → (H a ≠ none → List.lookup a K = none) →
      codeAny (model P w) callerA (.call (.ref fa) ⟨[.ref a], []⟩) (fun r s' => r = .ok (.ret (.bool true)) ∧ OldK s₁.heap s'.heap ∧ s'.os = s₁.os ∧ AllBare s'.gens) s₁ := by
    intro H hO hS hok hA hK
    have out : ∀ {b : Addr} {u : HO}, H b = some u → b = a ∧ List.lookup a K = none := fun {b u} q => by
      have e := hA b fun z => by rw [q] at z; cases z
      subst e
      exact ⟨rfl, hK fun z => by rw [q] at z; cases z⟩
    have noD : ∀ {b : Addr} {o : Obj} {es : Array DictEntry} {ep : Nat}, s₁.heap.get? b = some o → o.data = .dict es ep → H b = none := fun {b o es ep} e d => by
      cases q : H b with
      | none => rfl
      | some u =>
        obtain ⟨rfl, _⟩ := out q
        rw [ha] at e
        cases e
        cases d
    have nsK : ∀ {b : Addr} {m : Str → Option Value}, s₁.heap.Ns b m → (hidT s₁.heap H).Ns b m := fun {b m} ⟨o, es, ep, e, d, r⟩ => ⟨o, es, ep, hidT_get e (noD e d), d, r⟩
    have hKb : K.In (hidT s₁.heap H) := fun b o e => by
      refine hidT_get (KX b o e) ?_
      cases q : H b with
      | none => rfl
      | some u =>
        obtain ⟨rfl, z⟩ := out q
        rw [z] at e
        cases e
    obtain ⟨mc, h1, h2⟩ := hlim
    have hM : Mod K mg (hidT s₁.heap H) := ⟨hKb, nsK hns, ⟨mb, nsK hb, hbb⟩, ⟨mc, nsK h1, h2⟩⟩
    have e0 : Env0 P w K mg (hidT s₁.heap H) callerA [] s₁ H := ⟨rfl, hM, fun b o e => of_hidT e, Nat.le_of_eq (hidT_size s₁.heap H), True.intro, (fun b z => by cases z), hok, AllBare.of_eq hg⟩
    refine codeAny_mono ((F _ hKb (nsK hns)).run callerA [] s₁ H ⟨[.ref a], []⟩ [.ref a] [.ref a] (fun v _ => v = .bl true) (fun _ _ _ => False) rfl hr e0 (hbind s₁ (.ref a)) (.cons rfl .nil) (hsp H hO hS)) ?_
    intro r s' h
    cases r with
    | error e => exact h.elim
    | ok fl =>
      cases fl with
      | ret u =>
        obtain ⟨v, H', os, bare, un, hok', r', q⟩ := h
        have q' : v = .bl true := q
        subst q'
        cases (show u = Value.bool true from r')
        refine ⟨rfl, OldK.of_keep fun b o e => ?_, os, bare⟩
        cases q : H b with
        | none => exact un.keep b o e q (by intro z; cases z) (by intro z; cases z)
        | some u =>
          rcases hO b with z | ⟨ob, xs, z⟩
          · rw [q] at z; cases z
          · have e1 := (hok b _ z).1
            have e2 := (hok' b _ (un.frzs b ob _ z)).1
            rw [e] at e1
            cases e1
            exact e2
      | _ => exact h.elim
  cases hk : List.lookup a K with
  | none =>
    refine core (fun b => if b = a then some (.frz { cls := .type "list", data := .seq vs.toArray } (.lst (ns.map V.int))) else none) (fun b => ?_) (.inl (.inr ⟨_, if_pos rfl⟩)) (fun b u z => ?_) (fun b z => ?_) fun _ => hk
    · by_cases e : b = a
      · exact .inr ⟨_, _, if_pos e⟩
      · exact .inl (if_neg e)
    · by_cases e : b = a
      · subst e
        have z2 := (if_pos rfl).symm.trans z
        cases z2
        exact ⟨ha, by rw [List.length_map]; exact hl, vs, 0, rv, ha⟩
      · have z2 := (if_neg e).symm.trans z
        cases z2
    · by_cases e : b = a
      · exact e
      · exact absurd (if_neg e) z
  | some o =>
    have e := KX a o hk
    rw [ha] at e
    cases e
    refine core (fun _ => none) (fun _ => .inl rfl) (.inr ⟨_, vs.toArray, 0, hk, rfl, rfl, rfl, ?_, rv⟩) (fun b u z => by cases z) (fun b z => absurd rfl z) fun z => absurd rfl z
    rw [List.size_toArray, lenV]
    exact hl
theorem walk_known {l : OpenLaw} {n k : Nat} {q : Program} {loose : List Str} {XP : (Str → Option Value) → Heap → Prop} {YP : World → Heap → Prop} {d : DefRec} {x : Str}
    (hn : l.most = some n) (hn2 : n ≤ sizeLine) (hdf : d.params.defaults = []) (hr : Room k callerA)
    (F : ∀ (w : World) (mg : Str → Option Value) (fa : Addr) (h : Heap), YP w h → h.Ns mainGlobals mg → mg d.name = some (.ref fa) →
      ∃ (K : PySem.W.Frag) (fd : FuncData) (sp : Sp), K.In h ∧ (∀ (s : Shared) (u : Value), BindsTo s fd ⟨[u], []⟩ [(x, u)]) ∧
        (∀ (H : Hp) (a : Addr) (ns : List Int), ns.length ≤ n → Only H → SqL K H a (ns.map V.int) → sp [.ref a] H (fun v _ => v = .bl true) (fun _ _ _ => False)) ∧
        ∀ base : Heap, K.In base → base.Ns mainGlobals mg → Known l.prog w K mg base k fa fd [x] sp) :
    WalkO q loose XP YP l.row.toRowW d [] fun f vs => call f vs := by
  refine Att.attach_call hn hdf fun w s₀ s₁ mg mb fa o pm cd doc a vs ns G Y ho hd hcd hmg hobj hints hlen hg => ?_
  obtain ⟨K, fd, sp, KX, hb, hsp, hF⟩ := F w mg fa s₁.heap Y G.T.g hmg
  exact call_known KX G.T.g G.T.b G.T.builtins G.T.nolimit hg hobj hints (Nat.le_trans hlen hn2) hr hF hb fun H hO hS => hsp H a ns hlen hO hS
end Gk

set_option autoImplicit false
set_option maxHeartbeats 2000000
namespace Vl
open PySem PySem.Spec PyProof.Rows L2 TL CwR PySem.StrLaws
mutual
theorem Vd.reads {P : Program} {w : World} {H : Hp} {h : Heap} (ok : HOk P w H h) : ∀ {x : V} {d : PyData} {u : Value}, Vd H x d → RelV x u → Reads h u d []
  | _, _, _, .non, e => by cases (show _ = Value.none from e); exact .none
  | _, _, _, .bl b, e => by cases (show _ = Value.bool b from e); exact .bool b
  | _, _, _, .int i, e => by obtain ⟨t, rfl⟩ := e; exact .int i t
  | _, _, _, .str x, e => by obtain ⟨t, rfl⟩ := e; exact .str x t
  | _, _, _, .tup (a := a) ha r, e => by
    cases (show _ = Value.ref a from e)
    obtain ⟨_, its, rv, o, e1, e2, n, e3⟩ := ok a _ ha
    exact .tuple e1 e2 e3 (VdAll.reads ok r rv)
theorem VdAll.reads {P : Program} {w : World} {H : Hp} {h : Heap} (ok : HOk P w H h) : ∀ {xs : List V} {ds : List PyData} {us : List Value}, VdAll H xs ds → Vals xs us → ReadsAll h us ds []
  | _, _, _, .nil, e => by cases e; exact .nil
  | _, _, _, .cons a r, e => by
    cases e with
    | cons e1 e2 => exact ReadsAll.cons (as := []) (bs := []) (Vd.reads ok a e1) (VdAll.reads ok r e2)
end
theorem call_reprV {X : Cx} (hg : X.A.guards = some []) (hu : X.A.units + 200 < cLine) : CallR X (.builtin "repr") (fun xs H Q => ∃ (x : V) (d : PyData), xs = [x] ∧ Vd H x d ∧ d.showable = true ∧ d.depth ≤ 60 ∧ d.shown.length ≤ sizeLine ∧ Q (.str d.shown) H) := by
  rintro pins s σ H xs us Q I r ⟨x, d, rfl, hv, hs, hd, hl, q⟩
  cases r with
  | cons r1 r2 =>
  cases r2
  cases hv with
  | non =>
    cases (show _ = Value.none from r1)
    exact PySem.P.repr_of_none ⟨.str (PyData.shown .none), H, I.tok _, ⟨_, rfl⟩, q⟩
  | bl b =>
    cases (show _ = Value.bool b from r1)
    exact PySem.P.repr_of_bool ⟨.str (PyData.shown (.bool b)), H, I.tok _, ⟨_, rfl⟩, q⟩
  | int i =>
    obtain ⟨t, rfl⟩ := r1
    exact PySem.P.repr_of_int (of_decide_eq_true hs) ⟨.str (PyData.shown (.int i)), H, I.tok _, ⟨_, rfl⟩, q⟩
  | str z =>
    obtain ⟨t, rfl⟩ := r1
    exact PySem.P.repr_of_str ⟨.str (PyData.shown (.str z)), H, I.tok _, ⟨_, rfl⟩, q⟩ hl
  | tup ha hr =>
    rename_i a ys ds
    cases (show _ = Value.ref a from r1)
    refine repr_of_reads' (Vd.reads I.hok (.tup ha hr) (show RelV (V.ref a) (Value.ref a) from rfl)) hs (fun _ z => by cases z) hg (by omega) (fun _ _ e => e) (fun h' u tk hk => ⟨.str (PyData.shown (.tuple ds)), H, I.kept hk, ⟨u, rfl⟩, q⟩) hl
/-! ### how long what is shown is -/
theorem joinL_lenV (S : List Nat) : ∀ ps : List (List Nat), (joinL S ps).length ≤ (ps.map List.length).sum + ps.length * S.length
  | [] => Nat.zero_le _
  | [p] => by
    show p.length ≤ p.length + 0 + 1 * S.length
    omega
  | p :: q :: r => by
    have ih := joinL_lenV S (q :: r)
    show (p ++ (S ++ joinL S (q :: r))).length ≤ p.length + ((q :: r).map List.length).sum + ((q :: r).length + 1) * S.length
    rw [List.length_append, List.length_append, Nat.succ_mul]
    omega
theorem showable_of : ∀ {d : PyData}, SmA d → Ok d → d.showable = true := by
  intro d h
  induction h with
  | flat hs n =>
    intro ok
    cases ok with
    | int i hi => exact decide_eq_true hs
    | tup h => exact absurd rfl (n _)
    | _ => rfl
  | tup h ih =>
    rename_i ds
    intro ok
    cases ok with
    | tup hk =>
    have all : ∀ l : List PyData, (∀ d ∈ l, d.showable = true) → PyData.showableAll l = true := by
      intro l
      induction l with
      | nil => intro _; rfl
      | cons a r ihl =>
        intro hh
        show (a.showable && PyData.showableAll r) = true
        rw [hh a (List.mem_cons_self ..), ihl fun x hx => hh x (List.mem_cons_of_mem _ hx)]
        rfl
    exact all ds fun d hd => ih d hd (hk d hd)
theorem reprText_lenV (z : Str) (h : ∀ c ∈ tl z, 32 ≤ c ∧ c ≤ 126 ∧ c ≠ 37) : (reprText z).length ≤ 2 + 10 * z.length := by
  have e := foldl_repr_len (reprQuote z) z.cps.toList #[reprQuote z] fun c hc => by
    have := h c hc
    have : (127 : Nat) < 16 ^ 8 := by decide
    omega
  show (reprText z).cps.size ≤ _
  unfold reprText
  rw [← Array.foldl_toList]
  show (Array.push _ _).size ≤ _
  rw [Array.size_push]
  have l1 : (#[reprQuote z] : Array Nat).size = 1 := rfl
  have l2 : z.cps.toList.length = z.length := Array.length_toList
  omega
theorem dbl_ge : ∀ l : List Nat, l.length ≤ (dbl l).length
  | [] => Nat.le_refl _
  | c :: r => by
    have ih := dbl_ge r
    show r.length + 1 ≤ (if c = 34 then 34 :: 34 :: dbl r else c :: dbl r).length
    by_cases h : c = 34
    · rw [if_pos h]
      show _ ≤ (dbl r).length + 1 + 1
      omega
    · rw [if_neg h]
      show _ ≤ (dbl r).length + 1
      omega
theorem shownAll_eq : ∀ l : List PyData, PyData.shownAll l = l.map PyData.shown
  | [] => rfl
  | a :: r => by
    show a.shown :: PyData.shownAll r = a.shown :: r.map PyData.shown
    rw [shownAll_eq r]
theorem shown_len : ∀ {d : PyData}, Ok d → d.shown.length ≤ 10 * (wr d).length := by
  intro d h
  induction h with
  | non => decide +kernel
  | bl b => cases b <;> decide +kernel
  | int i hi =>
    have e : (PyData.shown (.int i)).length = (sgn i).length := len_tl (num i)
    show _ ≤ 10 * (sgn i).length
    omega
  | str z hz =>
    have e := reprText_lenV z hz
    have e2 := dbl_ge (tl z)
    have e3 := len_tl z
    show (reprText z).length ≤ 10 * (34 :: (dbl (tl z) ++ [34])).length
    rw [List.length_cons, List.length_append]
    show _ ≤ 10 * ((dbl (tl z)).length + 1 + 1)
    omega
  | tup h ih =>
    rename_i ds
    show (tupleText (PyData.shownAll ds)).length ≤ 10 * (40 :: wrF ds).length
    rw [shownAll_eq, List.length_cons]
    have hw := wr_len_all ds
    have hT := wrT_wrF ds
    have hsum : ∀ l : List PyData, (∀ d ∈ l, d.shown.length ≤ 10 * (wr d).length) → ((l.map PyData.shown).map Str.length).sum ≤ 10 * ((l.map wr).map List.length).sum := by
      intro l
      induction l with
      | nil => intro _; exact Nat.le_refl 0
      | cons a r ihl =>
        intro hh
        have h1 := hh a (List.mem_cons_self ..)
        have h2 := ihl fun x hx => hh x (List.mem_cons_of_mem _ hx)
        show a.shown.length + ((r.map PyData.shown).map Str.length).sum ≤ 10 * ((wr a).length + ((r.map wr).map List.length).sum)
        omega
    have hs := hsum ds ih
    have hj := joinL_lenV (tl (Str.ofString ", ")) ((ds.map PyData.shown).map tl)
    have hj2 : (((ds.map PyData.shown).map tl).map List.length) = ((ds.map PyData.shown).map Str.length) := by
      rw [List.map_map]
      exact List.map_congr_left fun p _ => (len_tl p).symm
    have t2 : (tl (Str.ofString ", ")).length = 2 := by decide +kernel
    have l1 : (Str.ofString "(").length = 1 := by decide +kernel
    have l2 : (Str.ofString (if ((ds.map PyData.shown).length == 1) = true then ",)" else ")")).length ≤ 2 := by
      by_cases e : ((ds.map PyData.shown).length == 1) = true
      · rw [if_pos e]; decide +kernel
      · rw [if_neg e]; decide +kernel
    have lj : ((Str.ofString ", ").join (ds.map PyData.shown)).length = (joinL (tl (Str.ofString ", ")) ((ds.map PyData.shown).map tl)).length := by
      rw [len_tl, tl_join]
    rw [hj2, t2, List.length_map, List.length_map] at hj
    unfold tupleText
    rw [app_len, app_len, l1, lj]
    cases ds with
    | nil =>
      have e1 : (wrF []).length = 1 := rfl
      have e0 : (joinL (tl (Str.ofString ", ")) (List.map tl (List.map PyData.shown []))).length = 0 := rfl
      omega
    | cons a r =>
      rw [List.length_cons] at hw hj
      omega
end Vl

set_option autoImplicit false
set_option maxHeartbeats 4000000
namespace Vl
open PySem PySem.Spec PyProof.Rows L2 TL CwR PySem.StrLaws
abbrev sDeep : Stmt := top 24
theorem scDeep : FnScope ["hand", "thing", "k"] ["hand"] (defScope sDeep) := ⟨rfl, rfl, rfl, by decide +kernel, rfl, by decide +kernel, by decide +kernel⟩
def spDeep : Sp := fun vs H Q _ => ∃ (h : Addr) (n : Nat), vs = [.ref h] ∧ HandAt H h n ∧ n + 100 ≤ 900000 ∧ ∀ H' x d, But h H H' → HandAt H' h (n + 100) → Vd H' x d → Good 101 145 20 d → Q x H'
theorem in3 {x a b c : V} (h : x ∈ ([a, b, c] : List V)) : x = a ∨ x = b ∨ x = c := by
  rcases List.mem_cons.mp h with e | h
  · exact .inl e
  rcases List.mem_cons.mp h with e | h
  · exact .inr (.inl e)
  rcases List.mem_cons.mp h with e | h
  · exact .inr (.inr e)
  · cases h
theorem good_in {s w D : Nat} {d : PyData} (g : Good s w D d) {ds : List PyData} (hs : szAll ds ≤ s + 3) (hw : (wrF ds).length ≤ w + 4) (ho : ∀ e ∈ ds, Ok e ∧ SmA e ∧ e.depth ≤ D) : Good (s + 5) (w + 5) (D + 1) (.tuple ds) := by
  refine ⟨.tup fun e he => (ho e he).1, .tup fun e he => (ho e he).2.1, ?_, ?_, ?_⟩
  · show 2 + szAll ds ≤ _
    omega
  · show (wrF ds).length + 1 ≤ _
    omega
  · have := depthAll_le ds fun e he => (ho e he).2.2
    show PyData.depthAll ds + 1 ≤ D + 1
    omega
theorem good1 {s w D : Nat} {d : PyData} (g : Good s w D d) : Good (s + 5) (w + 5) (D + 1) (.tuple [d]) := by
  have h1 := g.s_
  have h2 := g.w_
  refine good_in g ?_ ?_ fun e he => ?_
  · show sz d + 1 + 0 ≤ _
    omega
  · show (wr d ++ [41]).length ≤ _
    rw [List.length_append]
    show _ + 1 ≤ _
    omega
  · rw [List.mem_singleton.mp he]
    exact ⟨g.ok, g.sm, g.dp⟩
theorem good2 {s w D : Nat} {d : PyData} (g : Good s w D d) : Good (s + 5) (w + 5) (D + 1) (.tuple [.none, d]) := by
  have h1 := g.s_
  have h2 := g.w_
  refine good_in g ?_ ?_ fun e he => ?_
  · show 1 + 1 + (sz d + 1 + 0) ≤ _
    omega
  · show (wr d ++ [41]).length + 1 + 1 ≤ w + 4
    rw [List.length_append]
    show (wr d).length + 1 + 1 + 1 ≤ w + 4
    omega
  · rcases List.mem_cons.mp he with q | q
    · rw [q]
      exact ⟨good_non.ok, good_non.sm, Nat.zero_le _⟩
    · rw [List.mem_singleton.mp q]
      exact ⟨g.ok, g.sm, g.dp⟩
theorem good3 {s w D : Nat} {d : PyData} (g : Good s w D d) : Good (s + 5) (w + 5) (D + 1) (.tuple [d, .str (Str.ofString "")]) := by
  have h1 := g.s_
  have h2 := g.w_
  have t0 : tl (Str.ofString "") = [] := by decide +kernel
  have g0 : Good 1 44 0 (.str (Str.ofString "")) := good_str (by rw [t0]; intro c hc; cases hc) (by decide +kernel)
  refine good_in g ?_ ?_ fun e he => ?_
  · show sz d + 1 + (1 + 1 + 0) ≤ _
    omega
  · show (wr d ++ (32 :: ((34 :: (dbl (tl (Str.ofString "")) ++ [34])) ++ [41]))).length ≤ _
    rw [t0, List.length_append]
    show _ + 4 ≤ _
    omega
  · rcases List.mem_cons.mp he with q | q
    · rw [q]
      exact ⟨g.ok, g.sm, g.dp⟩
    · rw [List.mem_singleton.mp q]
      exact ⟨g0.ok, g0.sm, Nat.zero_le _⟩
section
variable {P : Program} {w : World} {K : PySem.W.Frag} {mg : Str → Option Value} {base : Heap}
theorem ok_deep {f fP fV : Addr} {fd fdP fdV : FuncData} (F : FnP K "_law_deep" sDeep f fd) (FP : FnP K "_law_pick" sPick fP fdP) (gP : mg "_law_pick" = some (.ref fP)) (GP : FnOk P w K mg base CX0 1 fP fdP ["hand", "many"] spPick)
    (FV : FnP K "_law_any_value" sValue fV fdV) (gV : mg "_law_any_value" = some (.ref fV)) (GV : FnOk P w K mg base CX0 3 fV fdV ["hand", "deep"] (spValue 0)) (mr : mg "range" = none) : FnOk P w K mg base CX0 4 f fd ["hand"] spDeep := by
  have bP : Binds K fdP ["hand", "many"] [] := FP.bindsN fun _ _ _ _ _ _ us hl => match us, hl with | [_, _], _ => rfl
  have bV : Binds K fdV ["hand", "deep"] [] := FV.bindsN fun _ _ _ _ _ _ us hl => match us, hl with | [_, _], _ => rfl
  refine F.ok scDeep (fun vs H Q E h => ?_) (fun cdv A outer s H vs Q E hr h => ?_)
  · obtain ⟨h, n, rfl, _⟩ := h
    rfl
  · obtain ⟨h, n, rfl, hA, hn, q⟩ := h
    have hs := szl
    have hr1 : Room 1 _ := hr.mono (by decide)
    have hr3 : Room 3 _ := hr.mono (by decide)
    refine ⟨_, PSs.nox (pss_cons (ps_set (i := 1) scDeep.nd rfl (.inl rfl) (pe_call GV hr3 (by rfl) gV FV.kp bV .nil pass0 (pa_cons (pv 0) (pa_cons (pe_int) pa_nil))))
      (pss_cons (ps_for PassesOwn.never rfl (pi_range1 (by rfl) mr (pa_cons (pe_op op_add (pe_int) (pe_call GP hr1 (by rfl) gP FP.kp bP .nil pass0 (pa_cons (pv 0) (pa_cons (pe_int) pa_nil)))) pa_nil)) (pg_name (i := 2) scDeep.nd rfl (.inl rfl)) (pss_one (ps_set (i := 1) scDeep.nd rfl (.inl rfl) (pe_ix ix_list (pe_lst (pa_cons (pe_tup (pa_cons (pv 1) pa_nil)) (pa_cons (pe_tup (pa_cons (pe_non) (pa_cons (pv 1) pa_nil))) (pa_cons (pe_tup (pa_cons (pv 1) (pa_cons (pe_str) pa_nil))) pa_nil)))) (pe_call GP hr1 (by rfl) gP FP.kp bP .nil pass0 (pa_cons (pv 0) (pa_cons (pe_int) pa_nil))) (fun _ _ => rfl)))))
      (pss_one (ps_ret (pv 1))))), ?_⟩
    have p0 : pB 0 = 54 := rfl
    refine ⟨_, rfl, h, n, rfl, hA, by omega, fun H1 x1 d1 b1 A1 v1 g1 => ?_⟩
    refine ⟨_, rfl, h, 2, _, rfl, A1, by omega, by omega, by omega, fun H2 k2 b2 A2 k20 k21 => ?_⟩
    have kt2 : KeepT H1 H2 := by
      obtain ⟨hxs, hhx⟩ := A1.is
      exact but_keep b2 hhx
    refine ⟨19, k2, rfl, rfl, 19 + k2, rfl, by omega, by omega, ?_⟩
    refine for_range (lo := 0) (n := (19 + k2).toNat) (fun i σ H' => ∃ (x : V) (d : PyData) (y : Option V), σ = [some (.ref h), some x, y] ∧ Vd H' x d ∧ Good (1 + 5 * i) (44 + 5 * i) i d ∧ HandAt H' h (n + 55 + i) ∧ But h H H') ⟨x1, d1, none, rfl, v1.keep kt2, g1, A2.mono (by omega), b1.trans b2⟩ ?_ ?_
    · rintro i σ H' hi ⟨x, d, y, rfl, vd, gd, A, b⟩
      refine ⟨_, rfl, by show 1 ≤ sizeLine; omega, fun p1 np1 => ⟨_, rfl, by show 2 ≤ sizeLine; omega, fun p2 np2 => ⟨_, rfl, by show 2 ≤ sizeLine; omega, fun p3 np3 => ⟨by show 3 ≤ sizeLine; omega, fun p4 np4 => ?_⟩⟩⟩⟩
      have s1 := same_upd (o := HO.tup [x]) np1
      have s2 := same_upd (o := HO.tup [.non, x]) np2
      have s3 := same_upd (o := HO.tup [x, .str (Str.ofString "")]) np3
      have s4 := same_upd (o := HO.lst [.ref p1, .ref p2, .ref p3]) np4
      have A4 := (((A.same s1).same s2).same s3).same s4
      have k4 := Same.keepT (((s1.trans s2).trans s3).trans s4)
      have h1 := (((s2.trans s3).trans s4)) _ _ (upd_same (H := H') (a := p1) (o := HO.tup [x]))
      have h2 := ((s3.trans s4)) _ _ (upd_same (a := p2) (o := HO.tup [.non, x]))
      have h3 := s4 _ _ (upd_same (a := p3) (o := HO.tup [x, .str (Str.ofString "")]))
      have n4 : p4 ≠ h := ne_hand (((A.same s1).same s2).same s3) np4
      have bb := b.trans (Same.but (((s1.trans s2).trans s3).trans s4))
      have vd4 := vd.keep k4
      refine ⟨_, rfl, h, 3, _, rfl, A4, by omega, by omega, by omega, fun H5 k5 b5 A5 k50 k51 => ?_⟩
      obtain ⟨hxs, hhx⟩ := A4.is
      have kt5 := but_keep b5 hhx
      obtain ⟨v, ev, vm⟩ := atI_in (xs := ([.ref p1, .ref p2, .ref p3] : List V)) k50 (by show k5 < 3; exact k51)
      have vd5 := vd4.keep kt5
      refine ⟨p4, _, k5, v, rfl, rfl, SqL.of (but_at b5 upd_same n4), ev, ?_⟩
      have A6 := A5.mono (show n + 55 + i + 1 ≤ n + 55 + (i + 1) by omega)
      have e1 : 1 + 5 * (i + 1) = 1 + 5 * i + 5 := by omega
      have e2 : 44 + 5 * (i + 1) = 44 + 5 * i + 5 := by omega
      rcases in3 vm with rfl | rfl | rfl
      · exact ⟨_, _, _, rfl, .tup (kt5 _ _ h1) (.cons vd5 .nil), by rw [e1, e2]; exact good1 gd, A6, bb.trans b5⟩
      · exact ⟨_, _, _, rfl, .tup (kt5 _ _ h2) (.cons .non (.cons vd5 .nil)), by rw [e1, e2]; exact good2 gd, A6, bb.trans b5⟩
      · exact ⟨_, _, _, rfl, .tup (kt5 _ _ h3) (.cons vd5 (.cons (.str _) .nil)), by rw [e1, e2]; exact good3 gd, A6, bb.trans b5⟩
    · rintro σ H' ⟨x, d, y, rfl, vd, gd, A, b⟩
      have hm : (19 + k2).toNat ≤ 20 := by omega
      exact ⟨_, rfl, q _ _ d b (A.mono (by omega)) vd (gd.mono (by omega) (by omega) hm)⟩
end
end Vl

set_option autoImplicit false
set_option maxHeartbeats 4000000
namespace Vl
open PySem PySem.Spec PyProof.Rows L2 TL CwR PySem.StrLaws Gk
abbrev sLaw : Stmt := top 25
theorem scLaw : FnScope ["script", "hand", "some", "thing", "written", "turn"] ["script"] (defScope sLaw) := ⟨rfl, rfl, rfl, by decide +kernel, rfl, by decide +kernel, by decide +kernel⟩
def spLaw (K : PySem.W.Frag) : Sp := fun vs H Q _ => ∃ (a : Addr) (ns : List Int), vs = [.ref a] ∧ SqL K H a (ns.map V.int) ∧ ns.length ≤ 63 ∧ ∀ H', Q (.bl true) H'
theorem tl_same {x y : Str} (h : tl x = tl y) : x = y := by
  cases x
  cases y
  congr
  exact Array.toList_inj.mp h
theorem cut8 (xs : List V) (x : V) (h : xs.length = 8) : cutV (xs ++ [x]) none (some 8) = xs := by
  have e0 : HT.sIx (xs ++ [x]).length 0 none = 0 := HT.sIx_none _ _
  have e1 : HT.sIx (xs ++ [x]).length (xs ++ [x]).length (some 8) = min 8 (xs ++ [x]).length := HT.sIx_nat _ _ 8
  unfold cutV
  rw [e0, e1, List.length_append, h]
  show List.take 8 (List.drop 0 (xs ++ [x])) = xs
  rw [List.drop_zero, ← h, List.take_left]
section
variable {P : Program} {w : World} {K : PySem.W.Frag} {mg : Str → Option Value} {base : Heap}
theorem known_law {f fD fV fP fS fW fR : Addr} {fd fdD fdV fdP fdS fdW fdR : FuncData} (F : FnP K "law" sLaw f fd)
    (FD : FnP K "_law_dealt" sDealt fD fdD) (gD : mg "_law_dealt" = some (.ref fD)) (GD : FnOk P w K mg base CX0 1 fD fdD ["script"] (spDealt K))
    (FV : FnP K "_law_any_value" sValue fV fdV) (gV : mg "_law_any_value" = some (.ref fV)) (GV : FnOk P w K mg base CX0 7 fV fdV ["hand", "deep"] (spValue 4))
    (FP : FnP K "_law_deep" sDeep fP fdP) (gP : mg "_law_deep" = some (.ref fP)) (GP : FnOk P w K mg base CX0 4 fP fdP ["hand"] spDeep)
    (FS : FnP K "shown" sShown fS fdS) (gS : mg "shown" = some (.ref fS)) (GS : FnOk P w K mg base CX0 21 fS fdS ["value"] spShown)
    (FW : FnP K "_law_writing" sWriting fW fdW) (gW : mg "_law_writing" = some (.ref fW)) (GW : FnOk P w K mg base CX0 21 fW fdW ["value"] (spWr 20))
    (FR : FnP K "read" sRead fR fdR) (gR : mg "read" = some (.ref fR)) (GR : FnOk P w K mg base CX0 21 fR fdR ["text"] spRead)
    (mr : mg "range" = none) (mt : mg "tuple" = none) (ml : mg "len" = none) (mp : mg "repr" = none) : Known P w K mg base 22 f fd ["script"] (spLaw K) := by
  have bD : Binds K fdD ["script"] [] := FD.bindsN fun _ _ _ _ _ _ us hl => match us, hl with | [_], _ => rfl
  have bV : Binds K fdV ["hand", "deep"] [] := FV.bindsN fun _ _ _ _ _ _ us hl => match us, hl with | [_, _], _ => rfl
  have bP : Binds K fdP ["hand"] [] := FP.bindsN fun _ _ _ _ _ _ us hl => match us, hl with | [_], _ => rfl
  have bS : Binds K fdS ["value"] [] := FS.bindsN fun _ _ _ _ _ _ us hl => match us, hl with | [_], _ => rfl
  have bW : Binds K fdW ["value"] [] := FW.bindsN fun _ _ _ _ _ _ us hl => match us, hl with | [_], _ => rfl
  have bR : Binds K fdR ["text"] [] := FR.bindsN fun _ _ _ _ _ _ us hl => match us, hl with | [_], _ => rfl
  refine known_of F scLaw (fun vs H Q E h => ?_) (fun cdv A outer s H vs Q E hg hr h => ?_)
  · obtain ⟨a, ns, rfl, _⟩ := h
    rfl
  · obtain ⟨a, ns, rfl, hS, hlen, q⟩ := h
    have hs := szl
    have hr1 : Room 1 _ := hr.mono (by decide)
    have hrV : Room 7 _ := hr.mono (by decide)
    have hrP : Room 4 _ := hr.mono (by decide)
    have hrS : Room 21 _ := hr
    have hrW : Room 21 _ := hr
    have hrR : Room 21 _ := hr
    have hg1 : (A.deeper (envOfC "law" (defScope sLaw) s.heap.objs.size f cdv)).guards = some [] := hg
    have hu : (A.deeper (envOfC "law" (defScope sLaw) s.heap.objs.size f cdv)).units + 200 < cLine := by
      have := hr.un
      omega
    refine ⟨_, PSs.nox (pss_cons (ps_set (i := 1) scLaw.nd rfl (.inr rfl) (pe_call GD hr1 (by rfl) gD FD.kp bD .nil pass0 (pa_cons (pv 0) pa_nil)))
      (pss_cons (ps_set (i := 2) scLaw.nd rfl (.inl rfl) (pe_op op_cat (pe_lc (own := [("turn", 5)]) (g := gName 5) (tt := tYes) rfl scLaw.nd (pi_range1 (by rfl) mr (pa_cons (pe_int) pa_nil)) (blkOk_by (own := [("turn", 5)]) (N := ["script", "hand", "some", "thing", "written", "turn"]) (sc := defScope sLaw) (by decide +kernel)) (fun _ _ _ _ _ => pg_name (i := 5) scLaw.nd rfl (Or.inl rfl)) (fun _ _ _ _ _ => pts_nil) (fun _ _ _ _ _ => pe_call GV hrV (by rfl) gV FV.kp bV .nil pass0 (pa_cons (pv 1) (pa_cons (pe_int) pa_nil)))) (pe_lst (pa_cons (pe_call GP hrP (by rfl) gP FP.kp bP .nil pass0 (pa_cons (pv 1) pa_nil)) pa_nil))))
      (pss_cons (ps_for PassesOwn.never rfl (pi_list (pe_op op_cat (pv 2) (pe_lst (pa_cons (pe_callTy call_tuple_of (by rfl) mt PyProof.Rows.boot_tuple (pa_cons (pe_slice sl_list (pv 2) po_none (po_some pe_int)) pa_nil)) pa_nil)))) (pg_name (i := 3) scLaw.nd rfl (.inl rfl)) (pss_cons (ps_set (i := 4) scLaw.nd rfl (.inl rfl) (pe_call GS hrS (by rfl) gS FS.kp bS .nil pass0 (pa_cons (pv 3) pa_nil)))
      (pss_one (ps_if (PW.pt (pw_or (pt_cmpR op_ne (pv 4) (pe_call GW hrW (by rfl) gW FW.kp bW .nil pass0 (pa_cons (pv 3) pa_nil)) (nomark _)) (pw_or1 (PW.pt (pw_and (pt_cmpR op_le (pe_callB call_len_str (by rfl) ml PySem.boot_len (pa_cons (pv 4) pa_nil)) (pe_int) (nomark _)) (pw_and1 (pt_cmpR op_ne (pe_callB (call_reprV hg1 hu) (by rfl) mp boot_repr (pa_cons (pe_call GR hrR (by rfl) gR FR.kp bR .nil pass0 (pa_cons (pv 4) pa_nil)) pa_nil)) (pe_callB (call_reprV hg1 hu) (by rfl) mp boot_repr (pa_cons (pv 3) pa_nil)) (nomark _)))))))) (pss_one (ps_ret pe_bl)) pss_nil))))
      (pss_one (ps_ret pe_bl))))), ?_⟩
    refine ⟨_, rfl, a, ns, rfl, hS, hlen, fun H1 h s1 nh A1 => ?_⟩
    have p4 : pB 4 = 18414 := rfl
    refine ⟨8, rfl, by omega, by omega, fun L nL => ?_⟩
    have nLh := ne_hand A1 nL
    refine lc_range (lo := 0) (n := (8 : Int).toNat) (fun i H' => ∃ xs ds, H' L = some (.lst xs) ∧ VdAll H' xs ds ∧ (∀ d ∈ ds, Good 281 5444 4 d) ∧ ds.length = i ∧ But h H1 H' ∧ HandAt H' h (i * 18414)) ⟨[], [], upd_same, .nil, (fun _ z => by cases z), rfl, Same.but (same_upd nL), A1.same (same_upd nL)⟩ ?_ ?_
    · rintro i H3 hi ⟨xs, ds, hL3, hx3, hg3, hl3, b3, A3⟩
      have hi4 : i < 8 := hi
      obtain ⟨hxs, hhx⟩ := A3.is
      refine ⟨rfl, _, rfl, h, i * 18414, rfl, A3, by omega, fun H4 x d b4 A4 vd gd => ?_⟩
      have hL4 := but_at b4 hL3 nLh
      have k4 : KeepT H3 H4 := but_keep b4 hhx
      have k5 : KeepT H4 (upd H4 L (.lst (xs ++ [x]))) := keep_lst hL4
      refine ⟨xs, hL4, by rw [hx3.len, hl3]; omega, xs ++ [x], ds ++ [d], upd_same, (VdAll.snoc vd (hx3.keep k4)).keep k5, ?_, by rw [List.length_append, hl3]; rfl, (b3.trans b4).put nLh nL, ?_⟩
      · intro u hu
        rcases List.mem_append.mp hu with z | z
        · exact hg3 u z
        · rw [List.mem_singleton.mp z]; exact gd
      · have e5 : (i + 1) * 18414 = i * 18414 + pB 4 := by omega
        rw [e5]
        exact A4.put (b3.trans b4) A1 nL nLh
    · rintro H3 ⟨xs, ds, hL3, hx3, hg3, hl3, b3, A3⟩
      have hl8 : ds.length = 8 := hl3
      obtain ⟨hxs, hhx⟩ := A3.is
      refine ⟨_, rfl, h, _, rfl, A3, by show (8 : Int).toNat * 18414 + 100 ≤ 900000; decide, fun H4 x9 d9 b4 A4 v9 g9 => ⟨by show 1 ≤ sizeLine; omega, fun p np => ?_⟩⟩
      have hL4 := but_at b4 hL3 nLh
      have k4 : KeepT H3 H4 := but_keep b4 hhx
      have sp := same_upd (o := HO.lst [x9]) np
      refine ⟨L, p, xs, [x9], rfl, rfl, sp _ _ hL4, upd_same, ?_, fun p2 np2 => ?_⟩
      · rw [hx3.len, hl8]
        show 8 + 1 ≤ sizeLine
        omega
      have sp2 := same_upd (o := HO.lst (xs ++ [x9])) np2
      have hx5 : VdAll (upd (upd H4 p (.lst [x9])) p2 (.lst (xs ++ [x9]))) (xs ++ [x9]) (ds ++ [d9]) := (VdAll.snoc v9 (hx3.keep k4)).keep (Same.keepT (sp.trans sp2))
      have hp2 : upd (upd H4 p (.lst [x9])) p2 (.lst (xs ++ [x9])) p2 = some (.lst (xs ++ [x9])) := upd_same
      have hx3' : VdAll (upd (upd H4 p (.lst [x9])) p2 (.lst (xs ++ [x9]))) xs ds := (hx3.keep k4).keep (Same.keepT (sp.trans sp2))
      generalize upd (upd H4 p (.lst [x9])) p2 (.lst (xs ++ [x9])) = H5 at hx5 hp2 hx3'
      have hxl : xs.length = 8 := by rw [hx3.len, hl8]
      refine ⟨_, rfl, _, rfl, 8, rfl, p2, _, rfl, SqL.of hp2, fun p5 np5 => ?_⟩
      have ec := cut8 xs x9 hxl
      rw [ec]
      have sp5 := same_upd (o := HO.lst xs) np5
      refine ⟨p5, _, rfl, .inl ⟨SqL.of upd_same, fun l nl => ⟨by show 1 ≤ sizeLine; omega, fun p6 np6 => ?_⟩⟩⟩
      have sl := same_upd (o := HO.tup xs) nl
      have sp6 := same_upd (o := HO.lst [V.ref l]) np6
      refine ⟨p2, p6, _, _, rfl, rfl, (((sp5.trans sl).trans sp6)) _ _ hp2, upd_same, ?_, fun p7 np7 => ?_⟩
      · rw [List.length_append, hxl]
        show 8 + 1 + 1 ≤ sizeLine
        omega
      have sp7 := same_upd (o := HO.lst ((xs ++ [x9]) ++ [.ref l])) np7
      have S := ((sp5.trans sl).trans sp6).trans sp7
      have hl7 := (sp6.trans sp7) _ _ (upd_same (H := upd H5 p5 (.lst xs)) (a := l) (o := HO.tup xs))
      have ht7 := VdAll.snoc (.tup hl7 (hx3'.keep (Same.keepT S))) (hx5.keep (Same.keepT S))
      have hp7 : upd (upd (upd (upd H5 p5 (.lst xs)) l (.tup xs)) p6 (.lst [.ref l])) p7 (.lst ((xs ++ [x9]) ++ [.ref l])) p7 = some (.lst ((xs ++ [x9]) ++ [.ref l])) := upd_same
      generalize upd (upd (upd (upd H5 p5 (.lst xs)) l (.tup xs)) p6 (.lst [.ref l])) p7 (.lst ((xs ++ [x9]) ++ [.ref l])) = H7 at hp7 ht7 S
      have allG : ∀ d ∈ (ds ++ [d9]) ++ [.tuple ds], Good 3000 50000 20 d := by
        intro d hd
        rcases List.mem_append.mp hd with z | z
        · rcases List.mem_append.mp z with y | y
          · exact (hg3 d y).mono (by decide) (by decide) (by decide)
          · rw [List.mem_singleton.mp y]
            exact g9.mono (by decide) (by decide) (by decide)
        · rw [List.mem_singleton.mp z]
          exact (good_tup hg3 (Nat.le_of_eq hl8)).mono (by decide) (by decide) (by decide)
      refine ⟨p7, rfl, ⟨_, SqL.of hp7⟩, ?_⟩
      refine for_list (K := K) (xs := (xs ++ [x9]) ++ [.ref l]) (fun i σ H' => (∃ y3 y4 y5 : Option V, σ = [some (.ref a), some (.ref h), some (.ref p2), y3, y4, y5]) ∧ Same H7 H') ⟨⟨_, _, _, rfl⟩, fun _ _ e => e⟩ (fun i σ H' hi g => SqL.of (g.2 _ _ hp7)) ?_ ?_
      · rintro i x σ H8 hx ⟨⟨y3, y4, y5, rfl⟩, s8⟩
        obtain ⟨d, hd, vd0⟩ := ht7.get _ hx
        have gd := allG d (List.mem_of_getElem? hd)
        have vd := vd0.keep (Same.keepT s8)
        have hsz := gd.s_
        have hwr := gd.w_
        refine ⟨_, rfl, x, d, rfl, vd, gd.sm, by omega, by omega, fun H9 r s9 hr => ?_⟩
        have vd9 := vd.keep (Same.keepT s9)
        refine ⟨_, rfl, _, rfl, x, d, rfl, vd9, gd.sm, by omega, gd.dp, fun H10 r2 s10 hr2 => ?_⟩
        have er : r2 = r := tl_same (hr2.trans hr.symm)
        subst er
        have vd10 := vd9.keep (Same.keepT s10)
        have hlen : r2.length = (wr d).length := by rw [len_tl, hr]
        refine ⟨rfl, ?_⟩
        have e0 : (!decide (V.str r2 = V.str r2)) = false := by simp
        rw [e0]
        refine ⟨_, rfl, iteF ?_⟩
        refine ⟨_, rfl, r2, rfl, by omega, _, 4000, rfl, rfl, _, rfl, ?_⟩
        refine ite2 (fun e => ?_) (fun _ => ?_)
        · have e4 : (r2.length : Int) ≤ 4000 := of_decide_eq_true e
          have hsl := shown_len gd.ok
          have hsh := showable_of gd.sm gd.ok
          refine ⟨_, rfl, r2, d, rfl, by omega, ?_, fun H11 x11 s11 v11 => ?_⟩
          · rw [hr]
            exact go_all gd.ok
          refine ⟨x11, d, rfl, v11, hsh, Nat.le_trans gd.dp (by decide), by omega, ?_⟩
          refine ⟨_, rfl, x, d, rfl, vd10.keep (Same.keepT s11), hsh, Nat.le_trans gd.dp (by decide), by omega, rfl, ?_⟩
          have e1 : (!decide (V.str d.shown = V.str d.shown)) = false := by simp
          rw [e1]
          exact ⟨_, rfl, iteF ⟨⟨_, _, _, rfl⟩, ((s8.trans s9).trans s10).trans s11⟩⟩
        · exact iteF ⟨⟨_, _, _, rfl⟩, (s8.trans s9).trans s10⟩
      · rintro σ H8 ⟨⟨y3, y4, y5, rfl⟩, s8⟩
        exact q _
end
end Vl

set_option maxHeartbeats 0
namespace Vl
open PySem PySem.Spec PyProof.Rows L2 Gk
def mkD (x : Str) (i : Nat) : He.DefD := ⟨(x, none), x, x, defArgs (top i), defBody (top i), defScope (top i), [], []⟩
def fn : List He.DefD := [mkD "shown" 6, mkD "_shown_flat" 7, mkD "read" 8, mkD "_close_tuples" 9, mkD "_read_flat" 10, mkD "_behind_number" 11, mkD "_read_text" 12, mkD "_behind_plain_signs" 13, mkD "_is_plain" 14,
  mkD "_law_dealt" 17, mkD "_law_pick" 18, mkD "_law_alphabet" 19, mkD "_law_long_number" 20, mkD "_law_any_text" 21, mkD "_law_any_value" 22, mkD "_law_writing" 23, mkD "_law_deep" 24, mkD "law" 25, mkD "is_sign" 15]
def fa : List He.Fa := [.glo "shown", .glo "_shown_flat", .glo "read", .glo "_close_tuples", .glo "_read_flat", .glo "_behind_number", .glo "_read_text", .glo "_behind_plain_signs", .glo "_is_plain",
  .glo "_law_dealt", .glo "_law_pick", .glo "_law_alphabet", .glo "_law_long_number", .glo "_law_any_text", .glo "_law_any_value", .glo "_law_writing", .glo "_law_deep", .glo "law",
  .int "MOST_FIGURES" 40, .int "PERCENT" 37, .glo "SIGNS",
  .free "len", .free "isinstance", .free "tuple", .free "reversed", .free "range", .free "str", .free "int", .free "bool", .free "ord", .free "list", .free "abs", .free "repr", .glo "is_sign"]
def ts : List He.Tab := [(fun K => He.ga K "SIGNS", ["-", "+", "!"])]
def kvs : List (Str × He.Dv) := [("-", .non), ("+", .bl true), ("!", .bl false)]
def ex (K : PySem.W.Frag) : Bool := He.valsB K (He.ga K "SIGNS") kvs
abbrev R : PySem.W.OpenRow := PySem.W.OpenLaw.row PySem.Challenge.rw_eventledger_k01_values_written
abbrev hk : PySem.W.Hook := He.hookX 4 fa fn ts [] ex
def ob (s : PySem.W.SharedT) : He.AlX := He.obsX 4 fa fn ts [] ex (HandSHeadRun.getT s)
theorem ob_eq (s : PySem.W.SharedT) : ob s = hk.obs s.abs := He.obsX_eq (HandSHeadRun.getT_eq s)
abbrev loose : List Str := ["NoValue", "MOST_FIGURES", "PERCENT", "SIGNS", "shown", "_shown_flat", "read", "_close_tuples", "_read_flat", "_behind_number", "_read_text", "_behind_plain_signs", "_is_plain", "is_sign",
  "_law_dealt", "_law_pick", "_law_alphabet", "_law_long_number", "_law_any_text", "_law_any_value", "_law_writing", "_law_deep"]
theorem run_no (w : World) : HandSHeadRun.RunEq R (PySem.W.view R.prog [25]) hk ob 2000 loose (w.withFollow "special-get-raises" false) := by
  intro os
  kernel_rfl
theorem run_yes (w : World) : HandSHeadRun.RunEq R (PySem.W.view R.prog [25]) hk ob 2000 loose (w.withFollow "special-get-raises" true) := by
  intro os
  kernel_rfl
theorem run (w : World) : HandSHeadRun.RunEq R (PySem.W.view R.prog [25]) hk ob 2000 loose w :=
  PySem.W.byRow2 "special-get-raises" (P := fun w => HandSHeadRun.RunEq R (PySem.W.view R.prog [25]) hk ob 2000 loose w) run_no run_yes w
theorem facts {P : Program} {w : World} {K : PySem.W.Frag} {h : Heap} {mg : Str → Option Value} {f : Addr} (X : K.In h) (G : h.Ns mainGlobals mg) (hfa : mg ("law" : Str) = some (.ref f)) (cx : He.SaysX fa fn ts [] ex w h K) :
    ∃ fd : FuncData, (∀ (s : Shared) (v : Value), BindsTo s fd ⟨[v], []⟩ [("script", v)]) ∧ ∀ base : Heap, K.In base → base.Ns mainGlobals mg → Known P w K mg base 22 f fd ["script"] (spLaw K) := by
  have c := cx.t.d
  obtain ⟨fd0, F0⟩ := c.def_ 0 (d := mkD "shown" 6) rfl
  obtain ⟨fd1, F1⟩ := c.def_ 1 (d := mkD "_shown_flat" 7) rfl
  obtain ⟨fd2, F2⟩ := c.def_ 2 (d := mkD "read" 8) rfl
  obtain ⟨fd3, F3⟩ := c.def_ 3 (d := mkD "_close_tuples" 9) rfl
  obtain ⟨fd4, F4⟩ := c.def_ 4 (d := mkD "_read_flat" 10) rfl
  obtain ⟨fd5, F5⟩ := c.def_ 5 (d := mkD "_behind_number" 11) rfl
  obtain ⟨fd6, F6⟩ := c.def_ 6 (d := mkD "_read_text" 12) rfl
  obtain ⟨fd7, F7⟩ := c.def_ 7 (d := mkD "_behind_plain_signs" 13) rfl
  obtain ⟨fd8, F8⟩ := c.def_ 8 (d := mkD "_is_plain" 14) rfl
  obtain ⟨fd9, F9⟩ := c.def_ 9 (d := mkD "_law_dealt" 17) rfl
  obtain ⟨fd10, F10⟩ := c.def_ 10 (d := mkD "_law_pick" 18) rfl
  obtain ⟨fd11, F11⟩ := c.def_ 11 (d := mkD "_law_alphabet" 19) rfl
  obtain ⟨fd12, F12⟩ := c.def_ 12 (d := mkD "_law_long_number" 20) rfl
  obtain ⟨fd13, F13⟩ := c.def_ 13 (d := mkD "_law_any_text" 21) rfl
  obtain ⟨fd14, F14⟩ := c.def_ 14 (d := mkD "_law_any_value" 22) rfl
  obtain ⟨fd15, F15⟩ := c.def_ 15 (d := mkD "_law_writing" 23) rfl
  obtain ⟨fd16, F16⟩ := c.def_ 16 (d := mkD "_law_deep" 24) rfl
  obtain ⟨fd, F⟩ := c.def_ 17 (d := mkD "law" 25) rfl
  obtain ⟨fdS, FS⟩ := c.def_ 18 (d := mkD "is_sign" 15) rfl
  have gS := He.glo_ok X G (c.fact 33 (f := .glo "is_sign") rfl)
  have e := hfa.symm.trans (He.glo_ok X G (c.fact 17 (f := .glo "law") rfl))
  cases e
  have b := FunD.bindsA (ps := ["script"]) F fun _ _ _ _ _ _ us hl => match us, hl with | [_], _ => rfl
  have g0 := He.glo_ok X G (c.fact 0 (f := .glo "shown") rfl)
  have g1 := He.glo_ok X G (c.fact 1 (f := .glo "_shown_flat") rfl)
  have g2 := He.glo_ok X G (c.fact 2 (f := .glo "read") rfl)
  have g3 := He.glo_ok X G (c.fact 3 (f := .glo "_close_tuples") rfl)
  have g4 := He.glo_ok X G (c.fact 4 (f := .glo "_read_flat") rfl)
  have g5 := He.glo_ok X G (c.fact 5 (f := .glo "_behind_number") rfl)
  have g6 := He.glo_ok X G (c.fact 6 (f := .glo "_read_text") rfl)
  have g7 := He.glo_ok X G (c.fact 7 (f := .glo "_behind_plain_signs") rfl)
  have g8 := He.glo_ok X G (c.fact 8 (f := .glo "_is_plain") rfl)
  have g9 := He.glo_ok X G (c.fact 9 (f := .glo "_law_dealt") rfl)
  have g10 := He.glo_ok X G (c.fact 10 (f := .glo "_law_pick") rfl)
  have g11 := He.glo_ok X G (c.fact 11 (f := .glo "_law_alphabet") rfl)
  have g12 := He.glo_ok X G (c.fact 12 (f := .glo "_law_long_number") rfl)
  have g13 := He.glo_ok X G (c.fact 13 (f := .glo "_law_any_text") rfl)
  have g14 := He.glo_ok X G (c.fact 14 (f := .glo "_law_any_value") rfl)
  have g15 := He.glo_ok X G (c.fact 15 (f := .glo "_law_writing") rfl)
  have g16 := He.glo_ok X G (c.fact 16 (f := .glo "_law_deep") rfl)
  have mMost := He.int_ok X G (c.fact 18 (f := .int "MOST_FIGURES" 40) rfl)
  have mPerc := He.int_ok X G (c.fact 19 (f := .int "PERCENT" 37) rfl)
  have mSign := He.glo_ok X G (c.fact 20 (f := .glo "SIGNS") rfl)
  have mlen := He.free_ok X G (c.fact 21 (f := .free "len") rfl)
  have misi := He.free_ok X G (c.fact 22 (f := .free "isinstance") rfl)
  have mtup := He.free_ok X G (c.fact 23 (f := .free "tuple") rfl)
  have mrev := He.free_ok X G (c.fact 24 (f := .free "reversed") rfl)
  have mran := He.free_ok X G (c.fact 25 (f := .free "range") rfl)
  have mstr := He.free_ok X G (c.fact 26 (f := .free "str") rfl)
  have mint := He.free_ok X G (c.fact 27 (f := .free "int") rfl)
  have mboo := He.free_ok X G (c.fact 28 (f := .free "bool") rfl)
  have mord := He.free_ok X G (c.fact 29 (f := .free "ord") rfl)
  have mlis := He.free_ok X G (c.fact 30 (f := .free "list") rfl)
  have mabs := He.free_ok X G (c.fact 31 (f := .free "abs") rfl)
  have mrep := He.free_ok X G (c.fact 32 (f := .free "repr") rfl)
  obtain ⟨es, n, kd⟩ := cx.t.tab 0 (t := (fun K => He.ga K "SIGNS", ["-", "+", "!"])) rfl
  have vb := cx.more
  have sg : Signs K w mg := ⟨⟨_, es, n, kd, mSign, He.valsB_ok vb (q := ("-", .non)) (List.mem_cons_self ..), He.valsB_ok vb (q := ("+", .bl true)) (List.mem_cons_of_mem _ (List.mem_cons_self ..)), He.valsB_ok vb (q := ("!", .bl false)) (List.mem_cons_of_mem _ (List.mem_cons_of_mem _ (List.mem_cons_self ..)))⟩⟩
  refine ⟨fd, fun s v => b s [v] rfl, fun base _ _ => ?_⟩
  have G1 : FnOk P w K mg base CX0 1 _ fd1 ["value"] spFlat := ok_flat F1 mstr misi
  have G0 : FnOk P w K mg base CX0 2 _ fd0 ["value"] spShown := ok_shown F0 F1 g1 G1 misi mtup mrev mran mlen
  have GS : FnOk P w K mg base CX0 1 _ fdS ["sign"] spSign := ok_sign FS mord mPerc
  have G8 : FnOk P w K mg base CX0 2 _ fd8 ["sign"] spPlain := ok_plain F8 FS gS GS
  have G7 : FnOk P w K mg base CX0 3 _ fd7 ["text", "at"] spBehind := ok_behind F7 F8 g8 G8
  have G6 : FnOk P w K mg base CX0 4 _ fd6 ["text", "at"] spText := ok_text F6 F7 g7 G7
  have G5 : FnOk P w K mg base CX0 1 _ fd5 ["text", "at"] spNumber := ok_number F5 mMost
  have G4 : FnOk P w K mg base CX0 5 _ fd4 ["text", "at"] spReadFlat := ok_readflat F4 F6 g6 G6 F5 g5 (G5.mono (by decide)) sg mint
  have G3 : FnOk P w K mg base CX0 1 _ fd3 ["text", "at", "lists"] spClose := ok_close F3 mlen mtup
  have G2 : FnOk P w K mg base CX0 6 _ fd2 ["text"] spRead := ok_read F2 F3 g3 (G3.mono (by decide)) F4 g4 G4 mlen
  have G9 : FnOk P w K mg base CX0 1 _ fd9 ["script"] (spDealt K) := ok_dealt F9 mlis
  have G10 : FnOk P w K mg base CX0 1 _ fd10 ["hand", "many"] spPick := ok_pick F10 mlen mabs
  have G11 : FnOk P w K mg base CX0 1 _ fd11 [] spAlpha := ok_alpha F11
  have G12 : FnOk P w K mg base CX0 2 _ fd12 ["hand"] spLong := ok_long F12 F10 g10 G10 mran
  have G13 : FnOk P w K mg base CX0 2 _ fd13 ["hand", "most"] spAText := ok_atext F13 F11 g11 G11 F10 g10 G10 mran
  have G14 := ok_value (P := P) (w := w) (base := base) F14 g14 F10 g10 G10 F12 g12 G12 F13 g13 G13 mint mtup mran
  have G15 := ok_writing (P := P) (w := w) (base := base) F15 g15 misi mboo mint mstr
  have G16 : FnOk P w K mg base CX0 4 _ fd16 ["hand"] spDeep := ok_deep F16 F10 g10 G10 F14 g14 (G14 1) mran
  exact known_law F F9 g9 G9 F14 g14 (G14 5) F16 g16 G16 F0 g0 (G0.mono (by decide)) F15 g15 (G15 21) F2 g2 (G2.mono (by decide)) mran mtup mlen mrep
end Vl
open PySem PySem.W PySem.Calls PyProof.Rows
theorem PySem.Challenge.cw_eventledger_k01_values_written_holds : PySem.Challenge.rw_eventledger_k01_values_written.Holds := by
  w_on; o_law
  refine HandSHeadRun.head_any (r := OpenLaw.row PySem.Challenge.rw_eventledger_k01_values_written) (q := view (OpenLaw.row PySem.Challenge.rw_eventledger_k01_values_written).prog [25]) (H := Vl.hk) (ob := Vl.ob) (M := 2000) (loose := Vl.loose) (d := HandSHeadRun.topDef (OpenLaw.row PySem.Challenge.rw_eventledger_k01_values_written).prog 25) (kwd := []) Vl.ob_eq
    (by kernel_rfl) (fun s => by kernel_rfl) Vl.run (by kernel_rfl) (by kernel_rfl) (by kernel_rfl) (by rfl) (by first | assumption | decide +kernel) (by decide +kernel) ⟨rfl, rfl, rfl, rfl, rfl, by decide +kernel⟩ ?hw ?hc
  case hw => w_witness2
  case hc =>
    refine Gk.walk_known (l := PySem.Challenge.rw_eventledger_k01_values_written) (n := 63) (k := 22) (x := "script") rfl (by decide) (by kernel_rfl) ⟨rfl, by decide, by decide⟩ ?F
    intro w mg fa h Y G hmg0
    obtain ⟨K, KX, c⟩ := Y
    have hmg : mg ("law" : PySem.Str) = some (.ref fa) := by
      have e : (HandSHeadRun.topDef (OpenLaw.row PySem.Challenge.rw_eventledger_k01_values_written).prog 25).name = ("law" : PySem.Str) := by kernel_rfl
      rw [← e]
      exact hmg0
    obtain ⟨fd, hb, hF⟩ := Vl.facts (P := (PySem.Challenge.rw_eventledger_k01_values_written).prog) (w := w) KX G hmg c
    exact ⟨K, fd, Vl.spLaw K, KX, hb, fun H a ns hl _ hS => ⟨a, ns, rfl, hS, hl, fun _ => rfl⟩, hF⟩
