import PyProof.Rows.All
import Wide.All
import OpenK.AllK
import Wide.FinOn
import HandS.ForMost
import HandS.Wide
import HandS.IsInst
import HandS.Defaults
import HandS.OwnEq
import HandS.Zip
import HandS.Style
import HandS.SetFor
import KE.RegKIsAll
import HandS.FStr
import HandS.NoneIn
import HandS.Exc
import HandS.TryOnly
import HandS.ExcOwn
import HandS.WordsExc
import HandS.ExcIs
import HandS.Walk
import HandS.TupSets
import HandS.SetBool
import KE.GoesMore
import HandS.DictComp
import HandS.TupMul
import HandS.Dict
import HandS.TryMany
import HandS.ExcInit
import HandS.ExcField
import KE.KExcLine
import HandS.TupAny
import KE.KExcIs
import HandS.Conv
import KE.KDictKeyed
import KE.KDictList
import KE.SortData
import HandS.Set
import HandS.TupSets
import KE.KDictSum
import HandS.Conv
import KE.SortData
import HandS.Conv
import HandS.More
import HandS.Deep
import HandS.RaiseMore
import KE.KDictDisplayH
import HandS.Iter
import HandS.Dict
import HandS.Walk
import KE.KDictSum
import HandS.Nested
import HandS.NestedK
import HandS.Lambda
import HandS.EndTab
import HandS.Deep
import PySem.Challenge.RW_farbetween_k67_side_by_side
set_option Elab.async false
set_option linter.all false
set_option maxRecDepth 100000
namespace Fb
open PySem PySem.Spec PyProof.Rows L2
section
variable {X : Cx} {K : PySem.W.Frag} {e : Expr} {ta : TE} {f : Str} {pos : Pos}
theorem ix_listK (hK : X.K = K) : IxR X (rIxL K) := hK ▸ ix_list
theorem ix_tupK (hK : X.K = K) : IxR X (rIxT K) := hK ▸ ix_tup
end
/-- what isinstance asks of a class -/
structure TyIns (K : PySem.W.Frag) (C : Addr) : Prop where
  ha : PySem.W.findIn K (.ref C) "__class__" = some (some (.builtin "object.__class__"))
  hn : PySem.W.specialIn K (.builtin "object.__class__") "__get__" = some (some (.builtin "getset_descriptor.__get__"))
  htk : PySem.W.takesIn K (.builtin "object.__class__") = some true
  hm : PySem.W.mroIn K C (.type "object") = some true
theorem same_upd {H : Hp} {p : Addr} {o : HO} (h : H p = none) : Same H (upd H p o) := fun b x e => by
  rw [upd_ne (ne_of_none e h)]
  exact e
/-- over a new object that has been stored into once more -/
theorem same_over {G H : Hp} {p : Addr} {o : HO} (s : Same G H) (h : G p = none) : Same G (upd H p o) := fun b x e => by
  rw [upd_ne (ne_of_none e h)]
  exact s _ _ e
theorem sqL_new {K : PySem.W.Frag} {H : Hp} {p : Addr} {xs : List V} : SqL K (upd H p (.lst xs)) p xs := .inl (.inl upd_same)
/-- the heap without what stands at a -/
def hid (a : Addr) (H : Hp) : Hp := fun b => if b = a then none else H b
theorem hid_same {a : Addr} {H : Hp} : Same (hid a H) H := fun b o e => by
  unfold hid at e
  by_cases h : b = a
  · rw [if_pos h] at e; cases e
  · rw [if_neg h] at e; exact e
theorem hid_ne {a b : Addr} {H : Hp} (h : b ≠ a) : hid a H b = H b := if_neg h
theorem hid_self {a : Addr} {H : Hp} : hid a H a = none := if_pos rfl
theorem hid_mono {a : Addr} {H H' : Hp} (s : Same H H') : Same (hid a H) (hid a H') := fun b o e => by
  by_cases h : b = a
  · rw [h, hid_self] at e; cases e
  · rw [hid_ne h] at e ⊢; exact s _ _ e
theorem hid_upd {a : Addr} {H : Hp} {o : HO} : hid a (upd H a o) = hid a H := by
  funext b
  by_cases h : b = a
  · rw [h, hid_self, hid_self]
  · rw [hid_ne h, hid_ne h, upd_ne h]
theorem hid_updN {a p : Addr} {H : Hp} {o : HO} (h : p ≠ a) : hid a (upd H p o) = upd (hid a H) p o := by
  funext b
  by_cases hb : b = a
  · rw [hb, hid_self, upd_ne (Ne.symm h), hid_self]
  · rw [hid_ne hb]
    by_cases hp : b = p
    · rw [hp, upd_same, upd_same]
    · rw [upd_ne hp, upd_ne hp, hid_ne hb]
theorem tb : ¬ (("top" : Str) = "bottom") := by decide +kernel
def flds (q : Rat) : List (Str × V) := putF "bottom" (.int (q.den : Int)) (putF "top" (.int q.num) [])
def IsShare (C : Addr) (H : Hp) (v : V) (q : Rat) : Prop := ∃ p dx, v = .ref p ∧ H p = some (.ins C dx (flds q))
theorem IsShare.mono {C : Addr} {H H' : Hp} {v : V} {q : Rat} (h : IsShare C H v q) (s : Same H H') : IsShare C H' v q := by
  obtain ⟨p, dx, e, h⟩ := h
  exact ⟨p, dx, e, s _ _ h⟩
theorem gcd_step (a b : Int) : Int.gcd b (a.fmod b) = Int.gcd a b := by
  have e : a.fmod b = a - b * a.fdiv b := Int.fmod_def a b
  rw [e, Int.gcd_sub_mul_left_right, Int.gcd_comm]
theorem fmod_lt (a b : Int) (h : b ≠ 0) : (a.fmod b).natAbs < b.natAbs := by
  rw [Int.fmod_eq_emod]
  have h1 := Int.emod_nonneg a h
  have h2 := Int.emod_lt a h
  split
  · omega
  · rename_i z
    have h3 : ¬ b ∣ a := fun d => z (.inr d)
    have h4 : a % b ≠ 0 := fun e => h3 (Int.dvd_of_emod_eq_zero e)
    have h5 : ¬ 0 ≤ b := fun d => z (.inl d)
    omega
/-- the divisor that brings t over b to lowest terms, its sign the bottom's -/
def cut (t b : Int) : Int := if b < 0 then -(Int.gcd t b : Int) else (Int.gcd t b : Int)
theorem gcd_pos {t b : Int} (h : b ≠ 0) : 0 < Int.gcd t b := Int.gcd_pos_of_ne_zero_right _ h
theorem cut_ne {t b : Int} (h : b ≠ 0) : cut t b ≠ 0 := by
  have := gcd_pos (t := t) h
  unfold cut
  split <;> omega
theorem cut_top {t b : Int} (h : b ≠ 0) : t.fdiv (cut t b) = (Rat.divInt t b).num := by
  have d : (Int.gcd t b : Int) ∣ t := Int.gcd_dvd_left t b
  rw [Rat.num_divInt, Int.gcd_comm b t]
  unfold cut
  by_cases hb : b < 0
  · rw [if_pos hb, Int.sign_eq_neg_one_of_neg hb, Int.fdiv_eq_ediv_of_dvd (Int.neg_dvd.mpr d), Int.ediv_neg, Int.neg_one_mul, Int.neg_ediv_of_dvd d]
  · rw [if_neg hb, Int.sign_eq_one_of_pos (by omega), Int.one_mul, Int.fdiv_eq_ediv_of_dvd d]
end Fb
namespace Fb
open PySem PySem.Spec PyProof.Rows L2
structure Bd (n : Nat) (q : Rat) : Prop where
  num : q.num.natAbs < 2 ^ n
  den : q.den < 2 ^ n
theorem Bd.mono {n m : Nat} {q : Rat} (h : Bd n q) (l : n ≤ m) : Bd m q :=
  ⟨Nat.lt_of_lt_of_le h.num (Nat.pow_le_pow_right (by decide) l), Nat.lt_of_lt_of_le h.den (Nat.pow_le_pow_right (by decide) l)⟩
theorem Bd.pos {n : Nat} {q : Rat} (h : Bd n q) : 0 < n := by
  have := h.den
  have := q.den_pos
  cases n with
  | zero => simp at *; omega
  | succ n => omega
theorem divInt_num_le {t b : Int} (h : b ≠ 0) : (Rat.divInt t b).num.natAbs ≤ t.natAbs := by
  have d : (cut t b) ∣ t := by
    have d := Int.gcd_dvd_left t b
    unfold cut
    split
    · exact Int.neg_dvd.mpr d
    · exact d
  have e : (Rat.divInt t b).num * cut t b = t := by
    rw [← cut_top h, Int.fdiv_eq_ediv_of_dvd d, Int.ediv_mul_cancel d]
  have e2 := congrArg Int.natAbs e
  rw [Int.natAbs_mul] at e2
  have := cut_ne (t := t) h
  rw [← e2]
  exact Nat.le_mul_of_pos_right _ (by omega)
theorem divInt_den_le {t b : Int} (h : b ≠ 0) : (Rat.divInt t b).den ≤ b.natAbs := by
  rw [Rat.den_divInt, if_neg h]
  exact Nat.div_le_self _ _
theorem Bd.divInt {t b : Int} {n : Nat} (h : b ≠ 0) (ht : t.natAbs < 2 ^ n) (hb : b.natAbs < 2 ^ n) : Bd n (Rat.divInt t b) :=
  ⟨Nat.lt_of_le_of_lt (divInt_num_le h) ht, Nat.lt_of_le_of_lt (divInt_den_le h) hb⟩
theorem den_ne (q : Rat) : (q.den : Int) ≠ 0 := by
  have := q.den_pos
  omega
theorem den_abs {n : Nat} {q : Rat} (h : Bd n q) : (q.den : Int).natAbs < 2 ^ n := by
  have := h.den
  omega
theorem dens_ne (x y : Rat) : (x.den : Int) * (y.den : Int) ≠ 0 := Int.mul_ne_zero (den_ne x) (den_ne y)
theorem rat_add (x y : Rat) : Rat.divInt (x.num * (y.den : Int) + y.num * (x.den : Int)) ((x.den : Int) * (y.den : Int)) = x + y := by
  rw [Rat.add_def', ← Int.natCast_mul, Rat.divInt_ofNat]
theorem rat_sub (x y : Rat) : Rat.divInt (x.num * (y.den : Int) - y.num * (x.den : Int)) ((x.den : Int) * (y.den : Int)) = x - y := by
  rw [Rat.sub_def', ← Int.natCast_mul, Rat.divInt_ofNat]
theorem sum_lt {a b : Int} {n : Nat} (ha : a.natAbs < 2 ^ n) (hb : b.natAbs < 2 ^ n) : (a + b).natAbs < 2 ^ (n + 1) := by
  rw [Nat.pow_succ]
  omega
theorem sub_lt {a b : Int} {n : Nat} (ha : a.natAbs < 2 ^ n) (hb : b.natAbs < 2 ^ n) : (a - b).natAbs < 2 ^ (n + 1) := by
  rw [Nat.pow_succ]
  omega
theorem up {a : Int} {n m : Nat} (ha : a.natAbs < 2 ^ n) (h : n ≤ m) : a.natAbs < 2 ^ m := Nat.lt_of_lt_of_le ha (Nat.pow_le_pow_right (by decide) h)
theorem Bd.add {n m : Nat} {x y : Rat} (hx : Bd n x) (hy : Bd m y) : Bd (n + m + 1) (x + y) := by
  rw [← rat_add]
  refine .divInt (dens_ne x y) (sum_lt (wide_lt hx.num (den_abs hy)) ?_) (up (wide_lt (den_abs hx) (den_abs hy)) (by omega))
  have := wide_lt hy.num (den_abs hx)
  rw [Nat.add_comm] at this
  exact this
theorem Bd.sub {n m : Nat} {x y : Rat} (hx : Bd n x) (hy : Bd m y) : Bd (n + m + 1) (x - y) := by
  rw [← rat_sub]
  refine .divInt (dens_ne x y) (sub_lt (wide_lt hx.num (den_abs hy)) ?_) (up (wide_lt (den_abs hx) (den_abs hy)) (by omega))
  have := wide_lt hy.num (den_abs hx)
  rw [Nat.add_comm] at this
  exact this
def rsum : List Rat → Rat
  | [] => 0
  | q :: r => q + rsum r
theorem rsum_append : ∀ (a b : List Rat), rsum (a ++ b) = rsum a + rsum b
  | [], b => (Rat.zero_add _).symm
  | q :: r, b => by
    show q + rsum (r ++ b) = q + rsum r + rsum b
    rw [rsum_append r b, Rat.add_assoc]
theorem divInt_add_same (a b d : Int) : Rat.divInt (a + b) d = Rat.divInt a d + Rat.divInt b d := by
  by_cases h : d = 0
  · subst h
    simp [Rat.zero_add]
  · rw [Rat.divInt_add_divInt _ _ h h, ← Int.add_mul, Rat.divInt_mul_right h]
theorem tops_one {L : Nat} {q : Rat} (h0 : 0 < L) (hd : q.den ∣ L) : Rat.divInt (q.num * ((L / q.den : Nat) : Int)) (L : Int) = q := by
  obtain ⟨k, rfl⟩ := hd
  have hk : k ≠ 0 := fun z => by
    subst z
    simp at h0
  rw [Nat.mul_div_cancel_left _ q.den_pos, Int.natCast_mul, Rat.divInt_mul_right (by omega), Rat.num_divInt_den]
/-- n bounds each share, N their number -/
structure Few (n N : Nat) (qs : List Rat) : Prop where
  bd : ∀ q ∈ qs, Bd n q
  len : qs.length ≤ N
  small : n * N ≤ 8000
  most : N ≤ 999
  pos : 0 < n
def AllAre {α : Type} (R : V → α → Prop) (vs : List V) (xs : List α) : Prop := vs.length = xs.length ∧ ∀ (i : Nat) (v : V) (x : α), vs[i]? = some v → xs[i]? = some x → R v x
theorem AllAre.nil {α : Type} {R : V → α → Prop} : AllAre R [] [] := ⟨rfl, fun i v x h => by simp at h⟩
theorem AllAre.at {α : Type} {R : V → α → Prop} {vs : List V} {xs : List α} {i : Nat} {v : V} (h : AllAre R vs xs) (e : vs[i]? = some v) : ∃ x, xs[i]? = some x ∧ R v x := by
  have hi : i < xs.length := by
    have := (List.getElem?_eq_some_iff.mp e).1
    rw [← h.1]
    exact this
  exact ⟨xs[i], List.getElem?_eq_getElem hi, h.2 i v _ e (List.getElem?_eq_getElem hi)⟩
theorem AllAre.imp {α : Type} {R R' : V → α → Prop} {vs : List V} {xs : List α} (h : AllAre R vs xs) (f : ∀ v x, R v x → R' v x) : AllAre R' vs xs := ⟨h.1, fun i v x a b => f _ _ (h.2 i v x a b)⟩
theorem AllAre.cons {α : Type} {R : V → α → Prop} {v : V} {x : α} {vs : List V} {xs : List α} (r : R v x) (h : AllAre R vs xs) : AllAre R (v :: vs) (x :: xs) := by
  refine ⟨by simp [h.1], fun i a b h1 h2 => ?_⟩
  cases i with
  | zero =>
    simp at h1 h2
    subst h1; subst h2
    exact r
  | succ i =>
    simp at h1 h2
    exact h.2 i a b h1 h2
theorem AllAre.append {α : Type} {R : V → α → Prop} : ∀ {vs us : List V} {xs ys : List α}, AllAre R vs xs → AllAre R us ys → AllAre R (vs ++ us) (xs ++ ys)
  | [], us, [], ys, _, h => h
  | v :: vs, us, x :: xs, ys, h, h' => by
    have t : AllAre R vs xs := ⟨by simpa using h.1, fun i a b h1 h2 => h.2 (i + 1) a b (by simpa using h1) (by simpa using h2)⟩
    exact .cons (h.2 0 v x rfl rfl) (t.append h')
  | [], _, _ :: _, _, h, _ => by simp [AllAre] at h
  | _ :: _, _, [], _, h, _ => by simp [AllAre] at h
theorem AllAre.snoc {α : Type} {R : V → α → Prop} {v : V} {x : α} {vs : List V} {xs : List α} (h : AllAre R vs xs) (r : R v x) : AllAre R (vs ++ [v]) (xs ++ [x]) := h.append (.cons r .nil)
theorem AllAre.take {α : Type} {R : V → α → Prop} {vs : List V} {xs : List α} (n : Nat) (h : AllAre R vs xs) : AllAre R (vs.take n) (xs.take n) := by
  refine ⟨by simp [h.1], fun i a b h1 h2 => ?_⟩
  rw [List.getElem?_take] at h1 h2
  split at h1
  · rw [if_pos (by assumption)] at h2
    exact h.2 i a b h1 h2
  · cases h1
theorem AllAre.drop {α : Type} {R : V → α → Prop} {vs : List V} {xs : List α} (n : Nat) (h : AllAre R vs xs) : AllAre R (vs.drop n) (xs.drop n) := by
  refine ⟨by simp [h.1], fun i a b h1 h2 => ?_⟩
  rw [List.getElem?_drop] at h1 h2
  exact h.2 _ a b h1 h2
theorem AllAre.reverse {α : Type} {R : V → α → Prop} {vs : List V} {xs : List α} (h : AllAre R vs xs) : AllAre R vs.reverse xs.reverse := by
  refine ⟨by simp [h.1], fun i a b h1 h2 => ?_⟩
  have l1 := (List.getElem?_eq_some_iff.mp h1).1
  have l2 := (List.getElem?_eq_some_iff.mp h2).1
  rw [List.length_reverse] at l1 l2
  rw [List.getElem?_reverse l1] at h1
  rw [List.getElem?_reverse l2, ← h.1] at h2
  exact h.2 _ a b h1 h2
/-- a list of shares -/
def IsShares (C : Addr) (H : Hp) (v : V) (qs : List Rat) : Prop := ∃ p vs, v = .ref p ∧ H p = some (.lst vs) ∧ AllAre (IsShare C H) vs qs
theorem IsShares.mono {C : Addr} {H H' : Hp} {v : V} {qs : List Rat} (h : IsShares C H v qs) (s : Same H H') : IsShares C H' v qs := by
  obtain ⟨p, vs, e, h, a⟩ := h
  exact ⟨p, vs, e, s _ _ h, a.imp fun _ _ r => r.mono s⟩
/-- [e for x in xs]: what is told of the i-th item is told of it to the end -/
theorem lc_all {K : PySem.W.Frag} {a : Addr} {xs : List V} {g : TG} {te : TE} {vs : List Nat} {σ : L2.St} {H1 : Hp} {D : Addr} {Qd : Hp → Prop} (R : Nat → V → Hp → Prop) (mono : ∀ i v H H', Same H H' → R i v H → R i v H')
    (hD : H1 D = none) (hS : SqL K H1 a xs) (hz : xs.length ≤ 1000)
    (hs : ∀ i x H (k : V → Hp → Prop), xs[i]? = some x → Same H1 (hid D H) → (∃ ys, H D = some (.lst ys)) → (∀ y H4, Same H H4 → R i y (hid D H4) → k y H4) → g x (wipe σ vs) H fun σ2 H2 => wipe σ2 vs = wipe σ vs ∧ te σ2 H2 k)
    (hd : ∀ H ys, Same H1 (hid D H) → H D = some (.lst ys) → ys.length = xs.length → (∀ i y, ys[i]? = some y → R i y (hid D H)) → Qd H) :
    ∃ W : Nat → Nat → Hp → Prop, (∃ m, W 0 m (upd H1 D (.lst []))) ∧ ∀ i m H, W i m H →
      ((Itl K a).stop i H ∧ Qd H) ∨ ((Itl K a).go i H ∧ ∃ Nx : Hp → Prop, (∀ H', Nx H' → ∃ m', m' < m ∧ W (i + 1) m' H') ∧ ∀ x H', (Itl K a).yld i H x H' → g x (wipe σ vs) H' fun σ2 H2 => wipe σ2 vs = wipe σ vs ∧ tYes σ2 H2 fun b H3 =>
        if b = true then te σ2 H3 fun y H4 => ∃ acc, H4 D = some (.lst acc) ∧ acc.length < sizeLine ∧ Nx (upd H4 D (.lst (acc ++ [y]))) else Nx H3) := by
  refine lc_list (xs := xs) (fun i H => ∃ ys, Same H1 (hid D H) ∧ H D = some (.lst ys) ∧ ys.length = i ∧ ∀ j y, ys[j]? = some y → R j y (hid D H)) ⟨[], ?_, upd_same, rfl, fun j y h => by simp at h⟩ (fun i H _ h => ?_) (fun i x H hx h => ?_) (fun H h => ?_)
  · intro b o e
    rw [hid_ne (ne_of_none e hD), upd_ne (ne_of_none e hD)]
    exact e
  · obtain ⟨ys, s, _⟩ := h
    exact (s.trans hid_same).seq hS
  · obtain ⟨ys, s, e, l, r⟩ := h
    have hi : i < xs.length := (List.getElem?_eq_some_iff.mp hx).1
    refine hs i x H (fun y H4 => ∃ acc, H4 D = some (.lst acc) ∧ acc.length < sizeLine ∧ ∃ ys, Same H1 (hid D (upd H4 D (.lst (acc ++ [y])))) ∧ (upd H4 D (.lst (acc ++ [y]))) D = some (.lst ys) ∧ ys.length = i + 1 ∧ ∀ j y', ys[j]? = some y' → R j y' (hid D (upd H4 D (.lst (acc ++ [y]))))) hx s ⟨_, e⟩ fun y H4 s4 ry => ?_
    refine ⟨ys, s4 _ _ e, small1000 (by omega), ys ++ [y], ?_, upd_same, by simp [l], fun j y' h => ?_⟩
    · rw [hid_upd]
      exact s.trans (hid_mono s4)
    · rw [hid_upd]
      by_cases hj : j < ys.length
      · rw [List.getElem?_append_left hj] at h
        exact mono _ _ _ _ (hid_mono s4) (r j y' h)
      · rw [List.getElem?_append_right (by omega)] at h
        have hj2 : j - ys.length = 0 := by
          have := (List.getElem?_eq_some_iff.mp h).1
          simp at this
          omega
        rw [hj2] at h
        simp at h
        subst h
        have : j = i := by omega
        rw [this]
        exact ry
  · obtain ⟨ys, s, e, l, r⟩ := h
    exact hd H ys s e l r
end Fb
namespace Fb
open PySem PySem.Spec PyProof.Rows L2
/-- the well at a, good for n draws more -/
def WellAt (H : Hp) (a : Addr) (n : Nat) : Prop := ∃ w0 w1 w2 : Int, H a = some (.lst [.int w0, .int w1, .int w2]) ∧ 0 ≤ w1 ∧ w1 < 2147483647 ∧ 0 ≤ w2 ∧ w2 + (n : Int) ≤ 1099511627776
theorem WellAt.mono {H : Hp} {a : Addr} {n m : Nat} (h : WellAt H a n) (l : m ≤ n) : WellAt H a m := by
  obtain ⟨w0, w1, w2, e, a1, a2, a3, a4⟩ := h
  exact ⟨w0, w1, w2, e, a1, a2, a3, by omega⟩
theorem WellAt.same {H H' : Hp} {a : Addr} {n : Nat} (h : WellAt H a n) (s : Same H H') : WellAt H' a n := by
  obtain ⟨w0, w1, w2, e, r⟩ := h
  exact ⟨w0, w1, w2, s _ _ e, r⟩
theorem WellAt.ne {H : Hp} {a p : Addr} {n : Nat} (h : WellAt H a n) (e : H p = none) : p ≠ a := by
  obtain ⟨w0, w1, w2, ea, _⟩ := h
  intro z
  rw [z, ea] at e
  cases e
/-- what the seven primes are -/
theorem primes7 {k : Int} (h0 : 0 ≤ k) (h7 : k < 7) : ∃ p : Int, atI [V.int 2147483647, V.int 2147483629, V.int 2147483587, V.int 2147483579, V.int 2147483563, V.int 2147483549, V.int 2147483543] k = some (.int p) ∧ 0 < p ∧ p < 2147483648 := by
  have : k = 0 ∨ k = 1 ∨ k = 2 ∨ k = 3 ∨ k = 4 ∨ k = 5 ∨ k = 6 := by omega
  rcases this with e | e | e | e | e | e | e <;> subst e <;> exact ⟨_, rfl, by decide, by decide⟩
theorem atI_get {α : Type} {xs : List α} {i : Int} (h0 : 0 ≤ i) (h : i < xs.length) : ∃ x, atI xs i = some x ∧ xs[i.toNat]? = some x := by
  have hl : i.toNat < xs.length := by omega
  have g := List.getElem?_eq_getElem hl
  have e : ((i.toNat : Nat) : Int) = i := by omega
  have q := atI_nat g
  rw [e] at q
  exact ⟨_, q, g⟩
/-- a share's two numbers, as a tuple -/
def IsTup2 (H : Hp) (v : V) (t b : Int) : Prop := ∃ p, v = .ref p ∧ H p = some (.tup [.int t, .int b])
theorem IsTup2.mono {H H' : Hp} {v : V} {t b : Int} (h : IsTup2 H v t b) (s : Same H H') : IsTup2 H' v t b := by
  obtain ⟨p, e, h⟩ := h
  exact ⟨p, e, s _ _ h⟩
theorem IsTup2.dp {K : PySem.W.Frag} {H : Hp} {v : V} {t b : Int} (h : IsTup2 H v t b) : Dp K H v (.tuple [.int t, .int b]) := by
  obtain ⟨p, rfl, h⟩ := h
  exact .tup (.inl (.inl h)) (.cons (.int _) (.cons (.int _) .nil))
/-- objects of other kinds than the well's are not hidden with it -/
theorem hid_keep {H : Hp} {a p : Addr} {n : Nat} {o : HO} (w : WellAt H a n) (h : H p = some o) (ho : ∀ xs, o ≠ .lst xs) : hid a H p = some o := by
  obtain ⟨w0, w1, w2, e, _⟩ := w
  rw [hid_ne]
  · exact h
  · intro z
    rw [z, e] at h
    cases h
    exact ho _ rfl
theorem IsTup2.hid {H : Hp} {a : Addr} {n : Nat} {v : V} {t b : Int} (w : WellAt H a n) (h : IsTup2 H v t b) : IsTup2 (hid a H) v t b := by
  obtain ⟨p, e, h⟩ := h
  exact ⟨p, e, hid_keep w h (fun _ => nofun)⟩
theorem IsShare.hid {C : Addr} {H : Hp} {a : Addr} {n : Nat} {v : V} {q : Rat} (w : WellAt H a n) (h : IsShare C H v q) : IsShare C (hid a H) v q := by
  obtain ⟨p, dx, e, h⟩ := h
  exact ⟨p, dx, e, hid_keep w h (fun _ => nofun)⟩
theorem pow_small {i : Int} (h0 : 0 ≤ i) (h : i < 18446744073709551616) : CPow i 5 := ⟨by decide, by decide, by omega⟩
end Fb
namespace Fb
open PySem PySem.Spec PyProof.Rows L2
/-- a new object beside the well -/
theorem well_new {H : Hp} {a p : Addr} {n : Nat} {o : HO} (w : WellAt H a n) (np : H p = none) : WellAt (upd H p o) a n ∧ Same (hid a H) (hid a (upd H p o)) :=
  ⟨w.same (same_upd np), hid_mono (same_upd np)⟩
theorem sqL_hid {K : PySem.W.Frag} {H : Hp} {a p : Addr} {n : Nat} {xs : List V} (w : WellAt H a n) (np : H p = none) : SqL K (hid a (upd H p (.lst xs))) p xs := by
  rw [hid_updN (w.ne np)]
  exact sqL_new
theorem divInt_self (q : Rat) : Rat.divInt q.num (q.den : Int) = q := Rat.num_divInt_den q
end Fb
namespace Fb
open PySem PySem.Spec PyProof.Rows L2
theorem hid2_upd {a D : Addr} {H : Hp} {o : HO} (h : D ≠ a) : hid D (hid a (upd H D o)) = hid D (hid a H) := by
  rw [hid_updN h, hid_upd]
theorem WellAt.upd {H : Hp} {a D : Addr} {n : Nat} {o : HO} (w : WellAt H a n) (h : D ≠ a) : WellAt (L2.upd H D o) a n := by
  obtain ⟨w0, w1, w2, e, r⟩ := w
  exact ⟨w0, w1, w2, by rw [upd_ne h.symm]; exact e, r⟩
/-- [e for x in range(..)], each turn at most c draws: what is told of each item stays -/
theorem lc_wellR {lo : Int} {n : Nat} {g : TG} {te : TE} {vs : List Nat} {σ : L2.St} {H1 : Hp} {D a : Addr} {Qd : Hp → Prop} (R : V → Hp → Prop) (mono : ∀ v H H', Same H H' → R v H → R v H') (c f : Nat)
    (hD : H1 D = none) (hw : WellAt H1 a (f + c * n)) (hn : n ≤ 1000)
    (hs : ∀ i H m (k : V → Hp → Prop), i < n → WellAt H a (m + c) → Same (hid a H1) (hid D (hid a H)) → (∃ ys, H D = some (.lst ys)) → (∀ y H4, Same (hid a H) (hid a H4) → WellAt H4 a m → R y (hid D (hid a H4)) → k y H4) →
      g (.int (lo + i)) (wipe σ vs) H fun σ2 H2 => wipe σ2 vs = wipe σ vs ∧ te σ2 H2 k)
    (hd : ∀ H ys, Same (hid a H1) (hid D (hid a H)) → WellAt H a f → H D = some (.lst ys) → ys.length = n → (∀ y ∈ ys, R y (hid D (hid a H))) → Qd H) :
    ∃ W : Nat → Nat → Hp → Prop, (∃ m, W 0 m (upd H1 D (.lst []))) ∧ ∀ i m H, W i m H →
      ((Itr lo n).stop i H ∧ Qd H) ∨ ((Itr lo n).go i H ∧ ∃ Nx : Hp → Prop, (∀ H', Nx H' → ∃ m', m' < m ∧ W (i + 1) m' H') ∧ ∀ x H', (Itr lo n).yld i H x H' → g x (wipe σ vs) H' fun σ2 H2 => wipe σ2 vs = wipe σ vs ∧ tYes σ2 H2 fun b H3 =>
        if b = true then te σ2 H3 fun y H4 => ∃ acc, H4 D = some (.lst acc) ∧ acc.length < sizeLine ∧ Nx (upd H4 D (.lst (acc ++ [y]))) else Nx H3) := by
  have nD : D ≠ a := hw.ne hD
  refine lc_range (fun i H => ∃ ys, Same (hid a H1) (hid D (hid a H)) ∧ WellAt H a (f + c * (n - i)) ∧ H D = some (.lst ys) ∧ ys.length = i ∧ ∀ y ∈ ys, R y (hid D (hid a H))) ⟨[], ?_, hw.upd nD, upd_same, rfl, fun y h => by simp at h⟩ (fun i H hi h => ?_) (fun H h => ?_)
  · rw [hid2_upd nD]
    intro b o e
    have hb : b ≠ D := fun z => by
      rw [z, hid_ne nD, hD] at e
      cases e
    rw [hid_ne hb]
    exact e
  · obtain ⟨ys, s, w, e, l, r⟩ := h
    have ec : f + c * (n - i) = (f + c * (n - (i + 1))) + c := by
      have : n - i = (n - (i + 1)) + 1 := by omega
      rw [this, Nat.mul_succ]
      omega
    rw [ec] at w
    refine hs i H _ (fun y H4 => ∃ acc, H4 D = some (.lst acc) ∧ acc.length < sizeLine ∧ ∃ ys, Same (hid a H1) (hid D (hid a (upd H4 D (.lst (acc ++ [y]))))) ∧ WellAt (upd H4 D (.lst (acc ++ [y]))) a (f + c * (n - (i + 1))) ∧ (upd H4 D (.lst (acc ++ [y]))) D = some (.lst ys) ∧ ys.length = i + 1 ∧ ∀ y' ∈ ys, R y' (hid D (hid a (upd H4 D (.lst (acc ++ [y])))))) hi w s ⟨_, e⟩ fun y H4 s4 w4 ry => ?_
    have e4 : H4 D = some (.lst ys) := by
      have := s4 D (.lst ys) (by rw [hid_ne nD]; exact e)
      rw [hid_ne nD] at this
      exact this
    refine ⟨ys, e4, small1000 (by omega), ys ++ [y], ?_, w4.upd nD, upd_same, by simp [l], fun y' h => ?_⟩
    · rw [hid2_upd nD]
      exact s.trans (hid_mono s4)
    · rw [hid2_upd nD]
      rcases List.mem_append.mp h with h | h
      · exact mono _ _ _ (hid_mono s4) (r y' h)
      · have : y' = y := by simpa using h
        rw [this]
        exact ry
  · obtain ⟨ys, s, w, e, l, r⟩ := h
    rw [Nat.sub_self, Nat.mul_zero] at w
    exact hd H ys s w e l r
/-- what is no list is not hidden with a list -/
theorem hid_no {H : Hp} {D p : Addr} {o : HO} (e : ∃ ys, H D = some (.lst ys)) (h : H p = some o) (ho : ∀ xs, o ≠ .lst xs) : hid D H p = some o := by
  obtain ⟨ys, e⟩ := e
  rw [hid_ne]
  · exact h
  · intro z
    rw [z, e] at h
    cases h
    exact ho _ rfl
theorem AllAre.of_ix {α : Type} {R : V → α → Prop} {ys : List V} {xs : List α} (l : ys.length = xs.length) (h : ∀ (i : Nat) y, ys[i]? = some y → ∃ x, xs[i]? = some x ∧ R y x) : AllAre R ys xs := ⟨l, fun i v x a b => by
  obtain ⟨x', e, r⟩ := h i v a
  rw [e] at b
  cases b
  exact r⟩
theorem AllAre.mem {α : Type} {R : V → α → Prop} {ys : List V} {xs : List α} (h : AllAre R ys xs) {x : α} (hx : x ∈ xs) : ∃ y, R y x := by
  obtain ⟨i, hi, e⟩ := List.mem_iff_getElem.mp hx
  have hl : i < ys.length := by rw [h.1]; exact hi
  exact ⟨ys[i], h.2 i _ x (List.getElem?_eq_getElem hl) (by rw [List.getElem?_eq_getElem hi, e])⟩
end Fb
namespace Fb
open PySem PySem.Spec PyProof.Rows L2
theorem cut_from {xs : List V} {k : Nat} (h : k ≤ xs.length) : cutV xs (some (k : Int)) none = xs.drop k := by
  unfold cutV
  rw [HT.sIx_nat, HT.sIx_none, Nat.min_eq_left h]
  exact List.take_of_length_le (by rw [List.length_drop]; exact Nat.le_refl _)
theorem cut_to {xs : List V} {k : Nat} (h : k ≤ xs.length) : cutV xs none (some (k : Int)) = xs.take k := by
  unfold cutV
  rw [HT.sIx_nat, HT.sIx_none, Nat.min_eq_left h]
  rfl
/-- a share with its bound -/
def Sh (C : Addr) (n : Nat) (G : Hp) (v : V) (q : Rat) : Prop := IsShare C G v q ∧ Bd n q
theorem Sh.mono {C : Addr} {n : Nat} {G G' : Hp} {v : V} {q : Rat} (h : Sh C n G v q) (s : Same G G') : Sh C n G' v q := ⟨h.1.mono s, h.2⟩
theorem AllAre.few {C : Addr} {n N : Nat} {G : Hp} {vs : List V} {qs : List Rat} (h : AllAre (Sh C n G) vs qs) (l : vs.length ≤ N) (s : n * N ≤ 8000) (m : N ≤ 999) (p : 0 < n) : Few n N qs :=
  ⟨fun q hq => by obtain ⟨y, hy⟩ := h.mem hq; exact hy.2, by rw [← h.1]; exact l, s, m, p⟩
end Fb
namespace Fb
open PySem PySem.Spec PyProof.Rows L2
theorem none_back {H H' : Hp} {a p : Addr} {f : Nat} (s : Same (hid a H) (hid a H')) (w : WellAt H' a f) (h : H' p = none) : H p = none := by
  have hp : p ≠ a := w.ne h
  cases e : H p with
  | none => rfl
  | some o =>
    have := s p o (by rw [hid_ne hp]; exact e)
    rw [hid_ne hp, h] at this
    cases this
/-- a list of weights of the law's own, beside the well -/
structure WtAt (H : Hp) (a : Addr) (m : Nat) (B : Int) (f : Nat) (pw : Addr) (ns : List Int) (H' : Hp) : Prop where
  new : H pw = none
  ne : pw ≠ a
  at_ : H' pw = some (.lst (ns.map V.int))
  len : ns.length = m
  bd : ∀ x ∈ ns, 0 ≤ x ∧ x ≤ B
  same : Same (hid a H) (hid pw (hid a H'))
  well : WellAt H' a f
theorem WtAt.set {H : Hp} {a : Addr} {m : Nat} {B : Int} {f : Nat} {pw : Addr} {ns : List Int} {H1 : Hp} (h : WtAt H a m B f pw ns H1) (j : Nat) {v : Int} (v0 : 0 ≤ v) (v1 : v ≤ B) : WtAt H a m B f pw (ns.set j v) (upd H1 pw (.lst ((ns.map V.int).set j (.int v)))) := by
  refine ⟨h.new, h.ne, by rw [upd_same, ← List.map_set], by rw [List.length_set, h.len], fun x hx => ?_, by rw [hid2_upd h.ne]; exact h.same, h.well.upd h.ne⟩
  rcases List.mem_or_eq_of_mem_set hx with e | e
  · exact h.bd x e
  · subst e
    exact ⟨v0, v1⟩
/-- a heap as the law draws it -/
structure HeapOk (qs : List Rat) : Prop where
  nn : ∀ q ∈ qs, 0 ≤ q
  den : ∃ S : Nat, 0 < S ∧ S ≤ 1000 ∧ ∀ q ∈ qs, q.den ∣ S
  one : rsum qs = 1
theorem den_dvd_bot {t : Int} {S : Nat} (h : 0 < S) : (Rat.divInt t (S : Int)).den ∣ S := by
  rw [Rat.den_divInt, if_neg (by omega)]
  simp only [Int.natAbs_natCast]
  refine Nat.div_dvd_of_dvd ?_
  have := Int.gcd_dvd_left (S : Int) t
  exact Int.natCast_dvd_natCast.mp this
end Fb
namespace Fb
open PySem PySem.Spec PyProof.Rows L2
section
variable {X : Cx}
/-- a list against [] -/
def rNil (K : PySem.W.Frag) (g : Bool → Bool) : R2 := fun x y H Q => ∃ a c xs, x = .ref a ∧ y = .ref c ∧ SqL K H a xs ∧ SqL K H c [] ∧ Q (.bl (g xs.isEmpty)) H
theorem op_neNil (hu : X.A.units < cLine) : OpR X (compareOp .NotEq) (rNil X.K not) := by
  intro pins s σ H x y v u Q I rx ry h
  obtain ⟨a, c, xs, rfl, rfl, ha, hc, q⟩ := h
  cases rx
  cases ry
  obtain ⟨its, r, hl, _⟩ := I.list ha
  obtain ⟨its2, r2, hl2, _⟩ := I.list hc
  cases r2
  show wpAny (model X.prog X.w) X.A (richCompare .NotEq (.ref a) (.ref c)) (EP X pins σ Q) X.xe s
  cases r with
  | nil => exact SeqAt.RcNeAt.lists (e := fun _ => true) hl.isList hl2.isList rfl hu (fun j h => absurd h (by simp)) X.prog X.w X.xe _ ⟨.bl false, H, I, rfl, q⟩
  | cons _ _ => exact SeqAt.RcNeAt.lists_lengths hl.isList hl2.isList (by simp) hu X.prog X.w X.xe _ ⟨.bl true, H, I, rfl, q⟩
end
def IsPr (H : Hp) (v : V) (q : Rat) : Prop := IsTup2 H v q.num (q.den : Int)
theorem IsPr.mono {H H' : Hp} {v : V} {q : Rat} (h : IsPr H v q) (s : Same H H') : IsPr H' v q := IsTup2.mono h s
def IsPrs (H : Hp) (v : V) (qs : List Rat) : Prop := ∃ p vs, v = .ref p ∧ H p = some (.lst vs) ∧ AllAre (IsPr H) vs qs
theorem IsPrs.mono {H H' : Hp} {v : V} {qs : List Rat} (h : IsPrs H v qs) (s : Same H H') : IsPrs H' v qs := by
  obtain ⟨p, vs, e, h, a⟩ := h
  exact ⟨p, vs, e, s _ _ h, a.imp fun _ _ r => r.mono s⟩
/-- tuples stay -/
def TS (H H' : Hp) : Prop := ∀ p xs, H p = some (.tup xs) → H' p = some (.tup xs)
theorem TS.trans {H H1 H2 : Hp} (a : TS H H1) (b : TS H1 H2) : TS H H2 := fun p xs h => b p xs (a p xs h)
theorem TS.same {H H' : Hp} (s : Same H H') : TS H H' := fun p xs h => s p _ h
theorem TS.well {H H' : Hp} {a : Addr} {n : Nat} (w : WellAt H a n) (s : Same (hid a H) (hid a H')) : TS H H' := fun p xs h => hid_same _ _ (s p _ (hid_keep w h (fun _ => nofun)))
theorem TS.lst {H : Hp} {p : Addr} {ys : List V} {o : HO} (h : H p = some (.lst ys)) : TS H (upd H p o) := fun b xs e => by
  rw [upd_ne (fun z => by rw [z, h] at e; cases e)]
  exact e
theorem IsPr.ts {H H' : Hp} {v : V} {q : Rat} (h : IsPr H v q) (s : TS H H') : IsPr H' v q := by
  obtain ⟨p, e, h⟩ := h
  exact ⟨p, e, s _ _ h⟩
theorem IsTup2.ts {H H' : Hp} {v : V} {t b : Int} (h : IsTup2 H v t b) (s : TS H H') : IsTup2 H' v t b := by
  obtain ⟨p, e, h⟩ := h
  exact ⟨p, e, s _ _ h⟩
/-- a list of m pairs -/
def VecAt (H : Hp) (p : Addr) (m : Nat) (h : Nat → Rat) : Prop := ∃ vs, H p = some (.lst vs) ∧ vs.length = m ∧ ∀ (i : Nat) v, vs[i]? = some v → IsPr H v (h i)
theorem VecAt.ts {H H' : Hp} {p : Addr} {m : Nat} {h : Nat → Rat} (v : VecAt H p m h) (s : TS H H') (e : H' p = H p) : VecAt H' p m h := by
  obtain ⟨vs, ev, l, r⟩ := v
  exact ⟨vs, by rw [e]; exact ev, l, fun i v hv => (r i v hv).ts s⟩
theorem VecAt.at {H : Hp} {p : Addr} {m : Nat} {h : Nat → Rat} (v : VecAt H p m h) {j : Nat} (hj : j < m) : ∃ vs x, H p = some (.lst vs) ∧ vs.length = m ∧ vs[j]? = some x ∧ IsPr H x (h j) := by
  obtain ⟨vs, ev, l, r⟩ := v
  have hj' : j < vs.length := by omega
  exact ⟨vs, _, ev, l, List.getElem?_eq_getElem hj', r j _ (List.getElem?_eq_getElem hj')⟩
def put (h : Nat → Rat) (j : Nat) (z : Rat) : Nat → Rat := fun i => if i = j then z else h i
theorem VecAt.set {H : Hp} {p : Addr} {m : Nat} {h : Nat → Rat} {vs : List V} {j : Nat} {x : V} {z : Rat} (v : VecAt H p m h) (e : H p = some (.lst vs)) (hx : IsPr H x z) : VecAt (upd H p (.lst (vs.set j x))) p m (put h j z) := by
  obtain ⟨vs', ev, l, r⟩ := v
  rw [e] at ev
  cases ev
  have s : TS H (upd H p (.lst (vs.set j x))) := TS.lst e
  refine ⟨_, upd_same, by rw [List.length_set, l], fun i y hy => ?_⟩
  unfold put
  rw [List.getElem?_set] at hy
  by_cases hij : j = i
  · subst hij
    rw [if_pos rfl] at hy
    rw [if_pos rfl]
    split at hy
    · cases hy
      exact hx.ts s
    · cases hy
  · rw [if_neg hij] at hy
    rw [if_neg (fun z => hij z.symm)]
    exact (r i y hy).ts s
def rsumN (n : Nat) (f : Nat → Rat) : Rat := rsum ((List.range n).map f)
theorem rsumN_succ (n : Nat) (f : Nat → Rat) : rsumN (n + 1) f = rsumN n f + f n := by
  unfold rsumN
  rw [List.range_succ, List.map_append, rsum_append]
  show _ + (f n + 0) = _
  rw [Rat.add_zero]
theorem rsumN_zero {n : Nat} {f : Nat → Rat} (h : ∀ i, i < n → f i = 0) : rsumN n f = 0 := by
  induction n with
  | zero => rfl
  | succ n ih => rw [rsumN_succ, ih fun i hi => h i (by omega), h n (by omega), Rat.add_zero]
theorem rsumN_nn {n : Nat} {f : Nat → Rat} (h : ∀ i, i < n → 0 ≤ f i) : 0 ≤ rsumN n f := by
  induction n with
  | zero => exact Rat.le_refl
  | succ n ih =>
    rw [rsumN_succ]
    have h1 := ih fun i hi => h i (by omega)
    have h2 := h n (by omega)
    grind
theorem rsumN_ge {n : Nat} {f : Nat → Rat} (h : ∀ i, i < n → 0 ≤ f i) {j : Nat} (hj : j < n) : f j ≤ rsumN n f := by
  induction n with
  | zero => omega
  | succ n ih =>
    rw [rsumN_succ]
    have h2 := h n (by omega)
    have h3 := rsumN_nn fun i (hi : i < n) => h i (by omega)
    by_cases e : j = n
    · subst e
      grind
    · have := ih (fun i hi => h i (by omega)) (by omega)
      grind
structure FillM (m k : Nat) (p q : Nat → Rat) (S : Nat) (h g : Nat → Rat) (T : Nat → Nat → Rat) (sp : List (Nat × Nat)) : Prop where
  row : ∀ x, x < m → h x + rsumN k (T x) = p x
  col : ∀ y, y < k → g y + rsumN m (fun x => T x y) = q y
  h0 : ∀ x, x < m → 0 ≤ h x ∧ h x ≤ 1 ∧ (h x).den ∣ S
  g0 : ∀ y, y < k → 0 ≤ g y ∧ g y ≤ 1 ∧ (g y).den ∣ S
  t0 : ∀ x y, x < m → y < k → 0 ≤ T x y ∧ T x y ≤ 1 ∧ (T x y).den ∣ S
  done : ∀ x y, x < m → y < k → (x, y) ∉ sp → h x = 0 ∨ g y = 0
  todo : ∀ xy ∈ sp, T xy.1 xy.2 = 0
  inb : ∀ xy ∈ sp, xy.1 < m ∧ xy.2 < k
  nd : sp.Nodup
end Fb
namespace Fb
open PySem PySem.Spec PyProof.Rows L2
theorem nodup_inj {α : Type} {l : List α} (nd : l.Nodup) {i j : Nat} {x : α} (hi : l[i]? = some x) (hj : l[j]? = some x) : i = j := by
  obtain ⟨i1, i2⟩ := List.getElem?_eq_some_iff.mp hi
  obtain ⟨j1, j2⟩ := List.getElem?_eq_some_iff.mp hj
  have p := List.pairwise_iff_getElem.mp nd
  rcases Nat.lt_trichotomy i j with h | h | h
  · exact absurd (i2.trans j2.symm) (p i j i1 j1 h)
  · exact h
  · exact absurd (j2.trans i2.symm) (p j i j1 i1 h)
structure FillAt (H0 : Hp) (a : Addr) (f m k : Nat) (ph pw pp ps : Addr) (rs : List Addr) (h g : Nat → Rat) (T : Nat → Nat → Rat) (sp : List (Nat × Nat)) (H : Hp) : Prop where
  same : Same (hid a H0) (hid a H)
  well : WellAt H a f
  new : ∀ p ∈ ph :: pw :: pp :: ps :: rs, H0 p = none ∧ p ≠ a
  dis : (ph :: pw :: pp :: ps :: rs).Nodup
  have_ : VecAt H ph m h
  want : VecAt H pw k g
  tab : H pp = some (.lst (rs.map V.ref))
  rlen : rs.length = m
  rows : ∀ (x : Nat) r, rs[x]? = some r → VecAt H r k (T x)
  spots : ∃ sv, H ps = some (.lst sv) ∧ AllAre (fun v (xy : Nat × Nat) => IsTup2 H v (xy.1 : Int) (xy.2 : Int)) sv sp
section
variable {H0 : Hp} {a : Addr} {f f' m k : Nat} {ph pw pp ps : Addr} {rs : List Addr} {h g : Nat → Rat} {T : Nat → Nat → Rat} {sp : List (Nat × Nat)} {H H' : Hp}
/-- tuples stay and the lists of filling stay -/
theorem FillAt.keep (F : FillAt H0 a f m k ph pw pp ps rs h g T sp H) (s : Same (hid a H) (hid a H')) (w : WellAt H' a f') : FillAt H0 a f' m k ph pw pp ps rs h g T sp H' := by
  have t := TS.well F.well s
  have e : ∀ p ∈ ph :: pw :: pp :: ps :: rs, ∀ o, H p = some o → H' p = some o := fun p hp o ho => by
    have := s p o (by rw [hid_ne (F.new p hp).2]; exact ho)
    rwa [hid_ne (F.new p hp).2] at this
  have v : ∀ p ∈ ph :: pw :: pp :: ps :: rs, ∀ n d, VecAt H p n d → VecAt H' p n d := fun p hp n d hv => by
    obtain ⟨vs, ev, l, r⟩ := hv
    exact ⟨vs, e p hp _ ev, l, fun i v hv => (r i v hv).ts t⟩
  refine ⟨F.same.trans s, w, F.new, F.dis, v _ (by simp) _ _ F.have_, v _ (by simp) _ _ F.want, e _ (by simp) _ F.tab, F.rlen, fun x r hr => v r ?_ _ _ (F.rows x r hr), ?_⟩
  · have := List.mem_of_getElem? hr
    simp [this]
  · obtain ⟨sv, es, as⟩ := F.spots
    exact ⟨sv, e _ (by simp) _ es, as.imp fun _ _ r => r.ts t⟩
/-- one of the lists of filling is set -/
theorem FillAt.upd_ (F : FillAt H0 a f m k ph pw pp ps rs h g T sp H) {p : Addr} {ys : List V} {o : HO} (hp : p ∈ ph :: pw :: pp :: ps :: rs) (e : H p = some (.lst ys)) :
    Same (hid a H0) (hid a (upd H p o)) ∧ WellAt (upd H p o) a f ∧ TS H (upd H p o) := by
  obtain ⟨n0, na⟩ := F.new p hp
  refine ⟨fun b u eb => ?_, F.well.upd na, TS.lst e⟩
  have hb : b ≠ p := fun z => by
    rw [z, hid_ne na, n0] at eb
    cases eb
  rw [hid_updN na, upd_ne hb]
  exact F.same b u eb
theorem AllAre.erase {α : Type} {R : V → α → Prop} {vs : List V} {xs : List α} (h : AllAre R vs xs) (n : Nat) : AllAre R (vs.eraseIdx n) (xs.eraseIdx n) := by
  rw [List.eraseIdx_eq_take_drop_succ, List.eraseIdx_eq_take_drop_succ]
  exact (h.take n).append (h.drop (n + 1))
end
end Fb
namespace Fb
open PySem PySem.Spec PyProof.Rows L2
theorem VecAt.same {H H' : Hp} {p : Addr} {m : Nat} {h : Nat → Rat} (v : VecAt H p m h) (s : Same H H') : VecAt H' p m h := by
  obtain ⟨vs, ev, l, r⟩ := v
  exact ⟨vs, s _ _ ev, l, fun i v hv => (r i v hv).mono s⟩
def at0 (l : List Rat) (i : Nat) : Rat := l.getD i 0
theorem at0_of {l : List Rat} {i : Nat} {z : Rat} (h : l[i]? = some z) : at0 l i = z := by
  unfold at0
  rw [List.getD_eq_getElem?_getD, h]
  rfl
theorem at0_mem {l : List Rat} {i : Nat} (h : i < l.length) : at0 l i ∈ l := by
  rw [at0_of (List.getElem?_eq_getElem h)]
  exact List.getElem_mem h
theorem rsumN_at0 (l : List Rat) : rsumN l.length (at0 l) = rsum l := by
  unfold rsumN
  congr 1
  refine List.ext_getElem (by simp) fun i h1 h2 => ?_
  simp only [List.getElem_map, List.getElem_range]
  exact at0_of (List.getElem?_eq_getElem h2)
/-- the spots of filling, row by row -/
def spotsTo (k : Nat) : Nat → List (Nat × Nat)
  | 0 => []
  | x + 1 => spotsTo k x ++ (List.range k).map fun y => (x, y)
theorem spotsTo_mem {k x y : Nat} : ∀ {m : Nat}, (x, y) ∈ spotsTo k m ↔ x < m ∧ y < k
  | 0 => by simp [spotsTo]
  | m + 1 => by
    rw [spotsTo, List.mem_append, spotsTo_mem, List.mem_map]
    simp only [List.mem_range, Prod.mk.injEq]
    constructor
    · rintro (h | ⟨y', h1, h2, h3⟩)
      · omega
      · omega
    · intro h
      by_cases e : x < m
      · exact .inl ⟨e, h.2⟩
      · exact .inr ⟨y, h.2, by omega, rfl⟩
theorem spotsTo_nodup (k : Nat) : ∀ m, (spotsTo k m).Nodup
  | 0 => by simp [spotsTo]
  | m + 1 => by
    rw [spotsTo]
    refine List.nodup_append.mpr ⟨spotsTo_nodup k m, ?_, fun a ha b hb => ?_⟩
    · refine List.pairwise_map.mpr (List.Pairwise.imp (fun h z => h ?_) List.nodup_range)
      simpa using z
    · obtain ⟨x, y⟩ := a
      have h1 := spotsTo_mem.mp ha
      obtain ⟨y', _, rfl⟩ := List.mem_map.mp hb
      intro z
      cases z
      omega
theorem heap_le1 {l : List Rat} (h : HeapOk l) {q : Rat} (hq : q ∈ l) : q ≤ 1 := by
  obtain ⟨i, hi, e⟩ := List.mem_iff_getElem.mp hq
  have := rsumN_ge (n := l.length) (f := at0 l) (fun j hj => h.nn _ (at0_mem hj)) hi
  rw [rsumN_at0, h.one, at0_of (List.getElem?_eq_getElem hi), e] at this
  exact this
theorem FillM.start {pl ql : List Rat} (hp : HeapOk pl) (hq : HeapOk ql) : ∃ S : Nat, 0 < S ∧ S ≤ 1000000 ∧ FillM pl.length ql.length (at0 pl) (at0 ql) S (at0 pl) (at0 ql) (fun _ _ => 0) (spotsTo ql.length pl.length) := by
  obtain ⟨S1, a1, a2, a3⟩ := hp.den
  obtain ⟨S2, b1, b2, b3⟩ := hq.den
  refine ⟨S1 * S2, Nat.mul_pos a1 b1, Nat.mul_le_mul a2 b2, fun x _ => ?_, fun y _ => ?_, fun x hx => ?_, fun y hy => ?_, fun _ _ _ _ => ?_, fun x y hx hy hn => absurd (spotsTo_mem.mpr ⟨hx, hy⟩) hn, fun _ _ => rfl, fun xy h => spotsTo_mem.mp h, spotsTo_nodup _ _⟩
  · rw [rsumN_zero fun _ _ => rfl, Rat.add_zero]
  · rw [rsumN_zero fun _ _ => rfl, Rat.add_zero]
  · have := at0_mem hx
    exact ⟨hp.nn _ this, heap_le1 hp this, Nat.dvd_trans (a3 _ this) (Nat.dvd_mul_right _ _)⟩
  · have := at0_mem hy
    exact ⟨hq.nn _ this, heap_le1 hq this, Nat.dvd_trans (b3 _ this) (Nat.dvd_mul_left _ _)⟩
  · exact ⟨Rat.le_refl, by decide, Nat.one_dvd _⟩
theorem FillAt.ext {H0 : Hp} {a : Addr} {f m k : Nat} {ph pw pp ps : Addr} {rs : List Addr} {h g : Nat → Rat} {T : Nat → Nat → Rat} {sp more : List (Nat × Nat)} {H : Hp} (F : FillAt H0 a f m k ph pw pp ps rs h g T sp H) {sv ys : List V} (e : H ps = some (.lst sv)) (hy : AllAre (fun v (xy : Nat × Nat) => IsTup2 H v (xy.1 : Int) (xy.2 : Int)) ys more) :
    FillAt H0 a f m k ph pw pp ps rs h g T (sp ++ more) (upd H ps (.lst (sv ++ ys))) := by
  obtain ⟨s, w, t⟩ := F.upd_ (o := .lst (sv ++ ys)) (by simp) e
  have d := F.dis
  simp only [List.nodup_cons, List.mem_cons, not_or] at d
  have n1 : ph ≠ ps := d.1.2.2.1
  have n2 : pw ≠ ps := d.2.1.2.1
  have n3 : pp ≠ ps := d.2.2.1.1
  refine ⟨s, w, F.new, F.dis, F.have_.ts t (upd_ne n1), F.want.ts t (upd_ne n2), by rw [upd_ne n3]; exact F.tab, F.rlen, fun x' r' hr' => (F.rows x' r' hr').ts t (upd_ne fun z => d.2.2.2.1 (z ▸ List.mem_of_getElem? hr')), ?_⟩
  obtain ⟨sv', es, as⟩ := F.spots
  rw [e] at es
  cases es
  exact ⟨_, upd_same, (as.append hy).imp fun _ _ r => r.ts t⟩
end Fb
namespace Fb
open PySem PySem.Spec PyProof.Rows L2
theorem seq_fin {t u : L2.TS} {D : L2.Ends} {σ : L2.St} {H : Hp} (M : L2.St → Hp → Prop) (h2 : ∀ σ H, M σ H → u D σ H) (h1 : (∀ σ H, M σ H → u D σ H) → t { D with nx := u D } σ H) : tSeq t u D σ H := h1 h2
end Fb
namespace Fb
open PySem PySem.Spec PyProof.Rows L2
section
variable {J : It} {n : Nat} {G : Hp → Prop} {Y : Nat → Hp → V → Hp → Prop}
/-- [e for .. in ..] that only makes, over any walk -/
theorem lc_allW (w : Walk J n G Y) {g : TG} {te : TE} {vs : List Nat} {σ : L2.St} {H1 : Hp} {D : Addr} {Qd : Hp → Prop} (R : Nat → V → Hp → Prop) (mono : ∀ i v H H', Same H H' → R i v H → R i v H')
    (hD : H1 D = none) (hS : ∀ H, Same H1 H → G H) (hz : n ≤ 1000)
    (hs : ∀ i x H H' (k : V → Hp → Prop), i < n → Same H1 (hid D H) → (∃ ys, H D = some (.lst ys)) → Y i H x H' → (∀ y H4, Same H H4 → R i y (hid D H4) → k y H4) → g x (wipe σ vs) H' fun σ2 H2 => wipe σ2 vs = wipe σ vs ∧ te σ2 H2 k)
    (hd : ∀ H ys, Same H1 (hid D H) → H D = some (.lst ys) → ys.length = n → (∀ i y, ys[i]? = some y → R i y (hid D H)) → Qd H) :
    ∃ W : Nat → Nat → Hp → Prop, (∃ m, W 0 m (upd H1 D (.lst []))) ∧ ∀ i m H, W i m H →
      (J.stop i H ∧ Qd H) ∨ (J.go i H ∧ ∃ Nx : Hp → Prop, (∀ H', Nx H' → ∃ m', m' < m ∧ W (i + 1) m' H') ∧ ∀ x H', J.yld i H x H' → g x (wipe σ vs) H' fun σ2 H2 => wipe σ2 vs = wipe σ vs ∧ tYes σ2 H2 fun b H3 =>
        if b = true then te σ2 H3 fun y H4 => ∃ acc, H4 D = some (.lst acc) ∧ acc.length < sizeLine ∧ Nx (upd H4 D (.lst (acc ++ [y]))) else Nx H3) := by
  refine lc_it w (fun i H => ∃ ys, Same H1 (hid D H) ∧ H D = some (.lst ys) ∧ ys.length = i ∧ ∀ j y, ys[j]? = some y → R j y (hid D H)) ⟨[], ?_, upd_same, rfl, fun j y h => by simp at h⟩ (fun i H _ h => ?_) (fun i x H H' hi h y => ?_) (fun H h => ?_)
  · intro b o e
    rw [hid_ne (ne_of_none e hD), upd_ne (ne_of_none e hD)]
    exact e
  · obtain ⟨ys, s, _⟩ := h
    exact hS H (s.trans hid_same)
  · obtain ⟨ys, s, e, l, r⟩ := h
    refine hs i x H H' (fun y H4 => ∃ acc, H4 D = some (.lst acc) ∧ acc.length < sizeLine ∧ ∃ ys, Same H1 (hid D (upd H4 D (.lst (acc ++ [y])))) ∧ (upd H4 D (.lst (acc ++ [y]))) D = some (.lst ys) ∧ ys.length = i + 1 ∧ ∀ j y', ys[j]? = some y' → R j y' (hid D (upd H4 D (.lst (acc ++ [y]))))) hi s ⟨_, e⟩ y fun y H4 s4 ry => ?_
    refine ⟨ys, s4 _ _ e, small1000 (by omega), ys ++ [y], ?_, upd_same, by simp [l], fun j y' h => ?_⟩
    · rw [hid_upd]
      exact s.trans (hid_mono s4)
    · rw [hid_upd]
      by_cases hj : j < ys.length
      · rw [List.getElem?_append_left hj] at h
        exact mono _ _ _ _ (hid_mono s4) (r j y' h)
      · rw [List.getElem?_append_right (by omega)] at h
        have hj2 : j - ys.length = 0 := by
          have := (List.getElem?_eq_some_iff.mp h).1
          simp at this
          omega
        rw [hj2] at h
        simp at h
        subst h
        have : j = i := by omega
        rw [this]
        exact ry
  · obtain ⟨ys, s, e, l, r⟩ := h
    exact hd H ys s e l r
/-- the second clause's own loop -/
theorem lc_inner (w : Walk J n G Y) {g1 : TG} {tt1 : TT} {te : TE} {vs1 : List Nat} {σ2 : L2.St} {H4 : Hp} {D : Addr} {Nx : Hp → Prop} (Pv : Nat → Hp → Prop) (h0 : Pv 0 H4) (hG : ∀ j H, j ≤ n → Pv j H → G H)
    (hs : ∀ j x H H', j < n → Pv j H → Y j H x H' → g1 x (wipe σ2 vs1) H' fun σ3 H5 => wipe σ3 vs1 = wipe σ2 vs1 ∧ tt1 σ3 H5 fun b H6 =>
      if b = true then te σ3 H6 fun y H7 => ∃ acc, H7 D = some (.lst acc) ∧ acc.length < sizeLine ∧ Pv (j + 1) (upd H7 D (.lst (acc ++ [y]))) else Pv (j + 1) H6) (hd : ∀ H, Pv n H → Nx H) :
    ∃ W1 : Nat → Nat → Hp → Prop, (∃ m, W1 0 m H4) ∧ ∀ j k H, W1 j k H →
      (J.stop j H ∧ Nx H) ∨ (J.go j H ∧ ∃ Nx1 : Hp → Prop, (∀ H', Nx1 H' → ∃ k', k' < k ∧ W1 (j + 1) k' H') ∧ ∀ x H', J.yld j H x H' → g1 x (wipe σ2 vs1) H' fun σ3 H5 => wipe σ3 vs1 = wipe σ2 vs1 ∧ tt1 σ3 H5 fun b H6 =>
        if b = true then te σ3 H6 fun y H7 => ∃ acc, H7 D = some (.lst acc) ∧ acc.length < sizeLine ∧ Nx1 (upd H7 D (.lst (acc ++ [y]))) else Nx1 H6) := by
  refine ⟨fun i m H => m = n - i ∧ i ≤ n ∧ Pv i H, ⟨n, by simp, Nat.zero_le _, h0⟩, ?_⟩
  rintro i m H ⟨rfl, hi, p⟩
  have q := hG i H hi p
  by_cases hlt : i < n
  · exact .inr ⟨w.goes i H hlt q, Pv (i + 1), fun H' p' => ⟨n - (i + 1), by omega, rfl, hlt, p'⟩, fun x H' y => hs i x H H' hlt p (w.yields i H x H' hlt q y)⟩
  · have e : i = n := by omega
    subst e
    exact .inl ⟨w.stops H q, hd H p⟩
/-- the items of one turn of the first clause -/
def Block (R : Nat → V → Hp → Prop) (m : Nat) (b : List V) (H : Hp) : Prop := b.length = m ∧ ∀ (j : Nat) y, b[j]? = some y → R j y H
theorem Block.mono {R : Nat → V → Hp → Prop} {m : Nat} {b : List V} {H H' : Hp} (mono : ∀ j v H H', Same H H' → R j v H → R j v H') (s : Same H H') (h : Block R m b H) : Block R m b H' := ⟨h.1, fun j y hy => mono j y H H' s (h.2 j y hy)⟩
/-- what the second clause's source is, seen from the i-th turn of the first -/
def InC (m : Nat) (R : Nat → V → Hp → Prop) (g1 : TG) (te : TE) (vs1 : List Nat) (D : Addr) (H : Hp) (σ2 : L2.St) (J1 : It) (H4 : Hp) : Prop :=
  Same H H4 ∧ ∃ (G1 : Hp → Prop) (Y1 : Nat → Hp → V → Hp → Prop), Walk J1 m G1 Y1 ∧ (∀ H5, Same (hid D H4) (hid D H5) → (∃ ys, H5 D = some (.lst ys)) → G1 H5) ∧
    ∀ j x1 H5 H6 (k : V → Hp → Prop), j < m → Same (hid D H4) (hid D H5) → (∃ ys, H5 D = some (.lst ys)) → Y1 j H5 x1 H6 → (∀ y H7, Same H5 H7 → R j y (hid D H7) → k y H7) →
      g1 x1 (wipe σ2 vs1) H6 fun σ3 H8 => wipe σ3 vs1 = wipe σ2 vs1 ∧ te σ3 H8 k
theorem lc2_all (w : Walk J n G Y) {g g1 : TG} {wi1 : TI} {te : TE} {vs vs1 : List Nat} {σ : L2.St} {H1 : Hp} {D : Addr} {Qd : Hp → Prop} (m : Nat → Nat) (R : Nat → Nat → V → Hp → Prop) (mono : ∀ i j v H H', Same H H' → R i j v H → R i j v H')
    (M : Nat) (hm : ∀ i, i < n → m i ≤ M) (hnM : n * M ≤ 999) (hD : H1 D = none) (hS : ∀ H, Same H1 H → G H)
    (hs : ∀ i x H H' (kk : L2.St → It → Hp → Prop), i < n → Same H1 (hid D H) → (∃ ys, H D = some (.lst ys)) → Y i H x H' → (∀ σ2 J1 H4, InC (m i) (R i) g1 te vs1 D H σ2 J1 H4 → kk σ2 J1 H4) →
      g x (wipe σ vs) H' fun σ2 H2 => wipe σ2 vs = wipe σ vs ∧ wi1 σ2 H2 (kk σ2))
    (hd : ∀ H (bs : List (List V)), Same H1 (hid D H) → H D = some (.lst bs.flatten) → bs.length = n → (∀ (i : Nat) b, bs[i]? = some b → Block (R i) (m i) b (hid D H)) → Qd H) :
    ∃ W : Nat → Nat → Hp → Prop, (∃ m, W 0 m (upd H1 D (.lst []))) ∧ ∀ i m H, W i m H →
      (J.stop i H ∧ Qd H) ∨ (J.go i H ∧ ∃ Nx : Hp → Prop, (∀ H', Nx H' → ∃ m', m' < m ∧ W (i + 1) m' H') ∧ ∀ x H', J.yld i H x H' → g x (wipe σ vs) H' fun σ2 H2 => wipe σ2 vs = wipe σ vs ∧ tYes σ2 H2 fun b H3 =>
        if b = true then wi1 σ2 H3 fun J1 H4 => ∃ W1 : Nat → Nat → Hp → Prop, (∃ m, W1 0 m H4) ∧ ∀ j k H, W1 j k H →
          (J1.stop j H ∧ Nx H) ∨ (J1.go j H ∧ ∃ Nx1 : Hp → Prop, (∀ H', Nx1 H' → ∃ k', k' < k ∧ W1 (j + 1) k' H') ∧ ∀ x H', J1.yld j H x H' → g1 x (wipe σ2 vs1) H' fun σ3 H5 => wipe σ3 vs1 = wipe σ2 vs1 ∧ tYes σ3 H5 fun b H6 =>
            if b = true then te σ3 H6 fun y H7 => ∃ acc, H7 D = some (.lst acc) ∧ acc.length < sizeLine ∧ Nx1 (upd H7 D (.lst (acc ++ [y]))) else Nx1 H6)
        else Nx H3) := by
  have fl : ∀ (bs : List (List V)), (∀ (i : Nat) b, bs[i]? = some b → b.length ≤ M) → bs.flatten.length ≤ bs.length * M := fun bs => by
    induction bs with
    | nil => intro _; simp
    | cons b r ih =>
      intro h
      have h1 := h 0 b rfl
      have h2 := ih fun i b hb => h (i + 1) b hb
      rw [List.flatten_cons, List.length_append, List.length_cons, Nat.succ_mul]
      omega
  let Pv : Nat → Hp → Prop := fun i H => ∃ bs : List (List V), Same H1 (hid D H) ∧ H D = some (.lst bs.flatten) ∧ bs.length = i ∧ ∀ (i : Nat) b, bs[i]? = some b → Block (R i) (m i) b (hid D H)
  refine ⟨fun i m H => m = n - i ∧ i ≤ n ∧ Pv i H, ⟨n, by simp, Nat.zero_le _, [], ?_, upd_same, rfl, fun i b h => by simp at h⟩, ?_⟩
  · intro b o e
    rw [hid_ne (ne_of_none e hD), upd_ne (ne_of_none e hD)]
    exact e
  rintro i mm H ⟨rfl, hi, p⟩
  obtain ⟨bs, s, e, l, r⟩ := id p
  have q := hS H (s.trans hid_same)
  by_cases hlt : i < n
  · refine .inr ⟨w.goes i H hlt q, Pv (i + 1), fun H' p' => ⟨n - (i + 1), by omega, rfl, hlt, p'⟩, fun x H' y => ?_⟩
    refine hs i x H H' _ hlt s ⟨_, e⟩ (w.yields i H x H' hlt q y) fun σ2 J1 H4 inc => ?_
    obtain ⟨s4, G1, Y1, w1, hG1, hs1⟩ := inc
    have e4 := s4 _ _ e
    refine lc_inner w1 (fun j H5 => ∃ b : List V, Same (hid D H4) (hid D H5) ∧ H5 D = some (.lst (bs.flatten ++ b)) ∧ Block (R i) j b (hid D H5)) ⟨[], Same.refl _, by rw [List.append_nil]; exact e4, rfl, fun j y h => by simp at h⟩ (fun j H5 _ h => ?_) (fun j x1 H5 H6 hj h y1 => ?_) (fun H5 h => ?_)
    · obtain ⟨b, s5, e5, _⟩ := h
      exact hG1 H5 s5 ⟨_, e5⟩
    · obtain ⟨b, s5, e5, b5⟩ := h
      refine hs1 j x1 H5 H6 _ hj s5 ⟨_, e5⟩ y1 fun y H7 s7 ry => ?_
      refine ⟨_, s7 _ _ e5, small1000 ?_, b ++ [y], ?_, ?_, ?_⟩
      · have h1 := fl bs fun i b hb => by
          have hi' : i < n := by
            have := (List.getElem?_eq_some_iff.mp hb).1
            omega
          rw [(r i b hb).1]
          exact hm i hi'
        have h2 : b.length < M := by
          have := hm i hlt
          rw [b5.1]
          omega
        have h3 : (i + 1) * M ≤ n * M := Nat.mul_le_mul_right _ hlt
        rw [Nat.succ_mul] at h3
        rw [List.length_append]
        rw [l] at h1
        omega
      · rw [hid_upd]
        exact s5.trans (hid_mono s7)
      · rw [upd_same, List.append_assoc]
      · rw [hid_upd]
        refine ⟨by rw [List.length_append, b5.1]; rfl, fun j' y' h => ?_⟩
        by_cases hj' : j' < b.length
        · rw [List.getElem?_append_left hj'] at h
          exact mono _ _ _ _ _ (hid_mono s7) (b5.2 j' y' h)
        · rw [List.getElem?_append_right (by omega)] at h
          have hj2 : j' - b.length = 0 := by
            have := (List.getElem?_eq_some_iff.mp h).1
            simp at this
            omega
          rw [hj2] at h
          simp at h
          subst h
          have hb := b5.1
          have : j' = j := by omega
          rw [this]
          exact ry
    · obtain ⟨b, s5, e5, b5⟩ := h
      refine ⟨bs ++ [b], s.trans ((hid_mono s4).trans s5), by rw [e5]; simp, by simp [l], fun i' b' h => ?_⟩
      by_cases hi' : i' < bs.length
      · rw [List.getElem?_append_left hi'] at h
        exact (r i' b' h).mono (mono i') ((hid_mono s4).trans s5)
      · rw [List.getElem?_append_right (by omega)] at h
        have hj2 : i' - bs.length = 0 := by
          have := (List.getElem?_eq_some_iff.mp h).1
          simp at this
          omega
        rw [hj2] at h
        simp at h
        subst h
        have : i' = i := by omega
        rw [this]
        exact b5
  · have e' : i = n := by omega
    subst e'
    exact .inl ⟨w.stops H q, hd H bs s e l r⟩
end
theorem wipe_in {σ : L2.St} {i : Nat} : ∀ {vs : List Nat}, i ∈ vs → (wipe σ vs)[i]? = if i < σ.length then some none else none
  | v :: vs, h => by
    unfold wipe
    rw [List.getElem?_set, wipe_length]
    by_cases e : v = i
    · subst e
      rw [if_pos rfl]
    · rw [if_neg e]
      exact wipe_in ((List.mem_cons.mp h).resolve_left fun z => e z.symm)
theorem wipe_eq {σ σ' : L2.St} {vs : List Nat} (hl : σ'.length = σ.length) (h : ∀ i, i ∉ vs → σ'[i]? = σ[i]?) : wipe σ' vs = wipe σ vs := by
  refine List.ext_getElem? fun i => ?_
  by_cases hi : i ∈ vs
  · rw [wipe_in hi, wipe_in hi, hl]
  · rw [wipe_out hi, wipe_out hi, h i hi]
theorem wipe2 {σ : L2.St} {vs : List Nat} {i j : Nat} {x y : Option V} (hi : i ∈ vs) (hj : j ∈ vs) : wipe (((wipe σ vs).set i x).set j y) vs = wipe σ vs := by
  refine wipe_eq (by rw [List.length_set, List.length_set, wipe_length]) fun l hl => ?_
  have n1 : i ≠ l := fun e => hl (e ▸ hi)
  have n2 : j ≠ l := fun e => hl (e ▸ hj)
  rw [List.getElem?_set_ne n2, List.getElem?_set_ne n1, wipe_out hl]
theorem look_out {σ : L2.St} {vs : List Nat} {i j l : Nat} {x y o : Option V} (h : σ[l]? = some o) (hl : l ∉ vs) (n1 : i ≠ l) (n2 : j ≠ l) : (((wipe σ vs).set i x).set j y)[l]? = some o := by
  rw [List.getElem?_set_ne n2, List.getElem?_set_ne n1, wipe_out hl, h]
theorem look_1 {σ : L2.St} {vs : List Nat} {i j : Nat} {x y : Option V} (hl : i < σ.length) (n : j ≠ i) : (((wipe σ vs).set i x).set j y)[i]? = some x := by
  rw [List.getElem?_set_ne n, List.getElem?_set_self (by rw [wipe_length]; exact hl)]
theorem look_2 {σ : L2.St} {vs : List Nat} {i j : Nat} {x y : Option V} (hl : j < σ.length) : (((wipe σ vs).set i x).set j y)[j]? = some y := by
  rw [List.getElem?_set_self (by rw [List.length_set, wipe_length]; exact hl)]
theorem look_len {σ : L2.St} {vs : List Nat} {i j n : Nat} {x y : Option V} (hl : σ.length = n) : (((wipe σ vs).set i x).set j y).length = n := by
  rw [List.length_set, List.length_set, wipe_length, hl]
/-- rows put one behind the other -/
theorem AllAre.flatten {α : Type} {R : V → α → Prop} : ∀ {bs : List (List V)} {xss : List (List α)}, bs.length = xss.length → (∀ (i : Nat) b xs, bs[i]? = some b → xss[i]? = some xs → AllAre R b xs) → AllAre R bs.flatten xss.flatten
  | [], [], _, _ => .nil
  | b :: bs, xs :: xss, l, h => by
    rw [List.flatten_cons, List.flatten_cons]
    exact (h 0 b xs rfl rfl).append (AllAre.flatten (by simpa using l) fun i b xs h1 h2 => h (i + 1) b xs h1 h2)
  | [], _ :: _, l, _ => by simp at l
  | _ :: _, [], l, _ => by simp at l
theorem den_add {a b : Rat} {S : Nat} (h0 : 0 < S) (ha : a.den ∣ S) (hb : b.den ∣ S) : (a + b).den ∣ S := by
  have e : a + b = Rat.divInt (a.num * ((S / a.den : Nat) : Int) + b.num * ((S / b.den : Nat) : Int)) (S : Int) := by
    rw [divInt_add_same, tops_one h0 ha, tops_one h0 hb]
  rw [e]
  exact den_dvd_bot h0
end Fb
namespace Fb
open PySem PySem.Spec PyProof.Rows L2
structure Nice (S M : Nat) (q : Rat) : Prop where
  den : q.den ∣ S
  abs : q.num.natAbs ≤ M * q.den
theorem Nice.mono {S S' M M' : Nat} {q : Rat} (h : Nice S M q) (d : S ∣ S') (l : M ≤ M') : Nice S' M' q := ⟨Nat.dvd_trans h.den d, Nat.le_trans h.abs (Nat.mul_le_mul_right _ l)⟩
theorem Nice.bd {S M n : Nat} {q : Rat} (h : Nice S M q) (S0 : 0 < S) (h1 : S < 2 ^ n) (h2 : M * S < 2 ^ n) : Bd n q := by
  have l := Nat.le_of_dvd S0 h.den
  exact ⟨Nat.lt_of_le_of_lt (Nat.le_trans h.abs (Nat.mul_le_mul_left _ l)) h2, Nat.lt_of_le_of_lt l h1⟩
theorem divInt_cross {t b : Int} {q : Rat} (hb : b ≠ 0) (h : Rat.divInt t b = q) : q.num * b = t * (q.den : Int) := by
  have e : Rat.divInt q.num (q.den : Int) = Rat.divInt t b := by rw [divInt_self, h]
  exact (Rat.divInt_eq_divInt_iff (den_ne q) hb).mp e
theorem Nice.of {t : Int} {b S M : Nat} (hb : 0 < b) (d : b ∣ S) (h : t.natAbs ≤ M * b) : Nice S M (Rat.divInt t (b : Int)) := by
  refine ⟨Nat.dvd_trans (den_dvd_bot hb) d, ?_⟩
  have e := divInt_cross (t := t) (b := (b : Int)) (by omega) rfl
  generalize Rat.divInt t (b : Int) = q at e
  have e2 := congrArg Int.natAbs e
  rw [Int.natAbs_mul, Int.natAbs_mul, Int.natAbs_natCast, Int.natAbs_natCast] at e2
  have h3 : q.num.natAbs * b ≤ (M * q.den) * b := by
    rw [e2, Nat.mul_right_comm]
    exact Nat.mul_le_mul_right _ h
  exact Nat.le_of_mul_le_mul_right h3 hb
theorem Nice.add {S M N : Nat} {x y : Rat} (S0 : 0 < S) (hx : Nice S M x) (hy : Nice S N y) : Nice S (M + N) (x + y) := by
  refine ⟨den_add S0 hx.den hy.den, ?_⟩
  have e := divInt_cross (dens_ne x y) (rat_add x y)
  generalize x + y = q at e
  have e2 := congrArg Int.natAbs e
  rw [Int.natAbs_mul, Int.natAbs_mul, Int.natAbs_mul, Int.natAbs_natCast, Int.natAbs_natCast, Int.natAbs_natCast] at e2
  have h1 : (x.num * (y.den : Int) + y.num * (x.den : Int)).natAbs ≤ (M + N) * (x.den * y.den) := by
    refine Nat.le_trans (Int.natAbs_add_le _ _) ?_
    rw [Int.natAbs_mul, Int.natAbs_mul, Int.natAbs_natCast, Int.natAbs_natCast, Nat.add_mul]
    refine Nat.add_le_add ?_ ?_
    · rw [← Nat.mul_assoc]
      exact Nat.mul_le_mul_right _ hx.abs
    · rw [Nat.mul_comm x.den, ← Nat.mul_assoc]
      exact Nat.mul_le_mul_right _ hy.abs
  have h3 : q.num.natAbs * (x.den * y.den) ≤ ((M + N) * q.den) * (x.den * y.den) := by
    rw [e2, Nat.mul_right_comm]
    exact Nat.mul_le_mul_right _ h1
  exact Nat.le_of_mul_le_mul_right h3 (Nat.mul_pos x.den_pos y.den_pos)
theorem Nice.neg {S M : Nat} {x : Rat} (h : Nice S M x) : Nice S M (-x) := by
  refine ⟨by rw [Rat.neg_den]; exact h.den, ?_⟩
  rw [Rat.neg_num, Rat.neg_den, Int.natAbs_neg]
  exact h.abs
theorem Nice.sub {S M N : Nat} {x y : Rat} (S0 : 0 < S) (hx : Nice S M x) (hy : Nice S N y) : Nice S (M + N) (x - y) := by
  rw [Rat.sub_eq_add_neg]
  exact hx.add S0 hy.neg
end Fb
namespace Fb
open PySem PySem.Spec PyProof.Rows L2
theorem units1 {u : Nat} (h : u + 64 < cLine) : u + 1 < cLine := by omega
theorem units2 {u : Nat} (h : u + 64 < cLine) : u + 2 < cLine := by omega
section
variable {P : Program} {w : World}
/-- objects known by keys: their hash, and what the model asks of two of them -/
structure Known (P : Program) (w : World) (κ : Type) [DecidableEq κ] where
  at_ : Heap → κ → Addr → Prop
  hf : κ → Int
  eq_ : ∀ {A : Around} {E : Value → Shared → Prop} {s : Shared} {k l : κ} {b c : Addr} {Q : Bool → Shared → Prop}, A.units < cLine → at_ s.heap k b → at_ s.heap l c → Q (decide (k = l)) s → wpAny (model P w) A (eqBool (.ref b) (.ref c)) Q E s
  unseen : ∀ {A : Around} {E : Value → Shared → Prop} {s : Shared} {k : κ} {b : Addr} {ys : List Value} {Q : Bool → Shared → Prop}, at_ s.heap k b → (∀ y ∈ ys, ∃ l c, y = Value.ref c ∧ at_ s.heap l c) → Q false s → wpAny (model P w) A (searchCouldBeSeen (.ref b) ys) Q E s
  byVal : ∀ {A : Around} {E : Value → Shared → Prop} {s : Shared} {k : κ} {b : Addr} {Q : Bool → Shared → Prop}, at_ s.heap k b → (∀ r, Q r s) → wpAny (model P w) A (hashByValue 8 (.ref b)) Q E s
  stays : ∀ {h h' : Heap} {k : κ} {a b : Addr} {o : Obj} {es : Array (Int × Value)} {ep : Nat} {t : SetTable}, at_ h k b → h.get? a = some o → o.data = .set es ep t → Heap.SameBut a h h' → at_ h' k b
  keeps : ∀ {h h' : Heap} {k : κ} {b : Addr}, at_ h k b → (∀ c o, h.get? c = some o → h'.get? c = some o) → at_ h' k b
variable {κ : Type} [DecidableEq κ] (N : Known P w κ)
def entries (L : List (Addr × κ)) : List (Int × Value) := L.map fun p => (N.hf p.2, Value.ref p.1)
/-- a set of them, with its table -/
structure KSet (h : Heap) (a : Addr) (L : List (Addr × κ)) (es : Array (Int × Value)) (ep : Nat) (t : SetTable) : Prop where
  obj : ∃ o, h.get? a = some o ∧ o.ExactSet ∧ o.data = .set es ep t
  ents : es.toList = entries N L
  tab : TabOk t (L.map fun p => N.hf p.2)
  once : (L.map (·.2)).Nodup
  all : ∀ p ∈ L, N.at_ h p.2 p.1
  ld : w.params.followText "set-order" = true ∨ t.led = true
  room : L.length * 5 < t.mask * 3
  few : L.length < 64
variable {N}
theorem entries_len {L : List (Addr × κ)} {es : Array (Int × Value)} (h : es.toList = entries N L) : es.size = L.length := by
  rw [← Array.length_toList, h]
  exact List.length_map ..
theorem entries_at {L : List (Addr × κ)} {es : Array (Int × Value)} (h : es.toList = entries N L) {i : Nat} {p : Addr × κ} (hp : L[i]? = some p) : es[i]? = some (N.hf p.2, Value.ref p.1) := by
  rw [← Array.getElem?_toList, h, entries, List.getElem?_map, hp]
  rfl
theorem fits_by {t : SetTable} {n : Nat} (h1 : t.place.size = n) (h2 : t.dummies = #[]) (h3 : n ≤ t.mask) : t.fits n = true := by
  simp only [SetTable.fits, SetTable.fill, h2, Bool.and_eq_true, beq_iff_eq, decide_eq_true_eq]
  exact ⟨h1, by show t.place.size + 0 ≤ t.mask; omega⟩
variable {h₀ : Heap} {a : Addr} {L : List (Addr × κ)} {es : Array (Int × Value)} {ep : Nat} {t : SetTable}
theorem KSet.fit {s : Shared} (R : KSet N s.heap a L es ep t) : t.fits es.size = true := by
  have e1 := R.tab.sz
  have e2 := entries_len R.ents
  have e3 := R.room
  rw [List.length_map] at e1
  exact fits_by (by omega) R.tab.dm (by omega)
theorem not_gave {t : SetTable} (h : MaskOk t.mask) : ¬ t.gaveWay = true := by
  unfold SetTable.gaveWay
  rw [mask_odd h]
  decide
/-- the probe's way from its c-th place on -/
abbrev wayP (m : Nat) (h : Int) (c : Nat) : SetTable.Probe := nth m (runAt m (SetTable.bits h % (m + 1)) (SetTable.bits h)) c
theorem nth_clean (m : Nat) : ∀ (n : Nat) (p : SetTable.Probe), p.dummy = none → (nth m p n).dummy = none
  | 0, _, h => h
  | n + 1, p, h => nth_clean m n (adv m p) (by unfold adv; split <;> exact h)
theorem wayP_from (m : Nat) (h : Int) (c q : Nat) : nth m (wayP m h c) q = wayP m h (c + q) := (nth_add m c _ q).symm
/-- what is asked of the search -/
structure Ask (N : Known P w κ) (L : List (Addr × κ)) (t : SetTable) (k : κ) (K : Nat) : Prop where
  fuel : K < 10 * SetTable.turns t.mask
  empty : way t.mask (N.hf k) K ∉ t.place.toList
  full : ∀ c, c < K → way t.mask (N.hf k) c ∈ t.place.toList
theorem seek {A : Around} {E : Value → Shared → Prop} {s : Shared} (R : KSet N s.heap a L es ep t) {x : Addr} {k : κ} (hx : N.at_ s.heap k x) (hu : A.units < cLine) {K : Nat} (W : Ask N L t k K) {Q : SetFound → Shared → Prop}
    (yes : k ∈ L.map (·.2) → Q (.there none) s) (no : k ∉ L.map (·.2) → Q (.free (way t.mask (N.hf k) K) false) s) (m : Nat) :
    ∀ (c f : Nat) (st : Option SetTable.Probe), K - c = m → m < f → c ≤ K → st.getD (t.probeStart (N.hf k)) = wayP t.mask (N.hf k) c →
      (∀ (i : Nat) p, L[i]? = some p → p.2 = k → ∃ d, c ≤ d ∧ d < K ∧ t.place.toList[i]? = some (way t.mask (N.hf k) d)) → wpAny (model P w) A (setSearchFrom a (.ref x) (N.hf k) true f st) Q E s := by
  induction m using Nat.strongRecOn with
  | ind m ih =>
  intro c f st hm hf hc hst ahead
  obtain ⟨o, ho, hex, hd⟩ := R.obj
  cases f with
  | zero => omega
  | succ f =>
  rw [setSearchFrom_succ]
  refine wpAny_bind (wpAny_setState_of ho hd R.fit ?_)
  dsimp only
  refine wp_if_neg (not_gave R.tab.mok) ?_
  try refine wpAny_bind (wpAny_pure ?_)
  have J : ∀ q, (nth t.mask (wayP t.mask (N.hf k) c) q).j = way t.mask (N.hf k) (c + q) := fun q => congrArg SetTable.Probe.j (wayP_from t.mask (N.hf k) c q)
  have at_h : ∀ (i : Nat) p, L[i]? = some p → (fun i => (es[i]?.map (·.1)).getD 0) i = N.hf p.2 := fun i p hp => by
    dsimp only
    rw [entries_at R.ents hp]
    rfl
  have end_ : c + (K - c) = K := by omega
  have g := go_spec t R.tab.ris R.tab.dm (fun i => (es[i]?.map (·.1)).getD 0) (N.hf k) (10 * SetTable.turns t.mask) (K - c) (wayP t.mask (N.hf k) c) (nth_clean _ _ _ rfl) (by have := W.fuel; omega)
    (fun q hq => by rw [J]; exact W.full _ (by omega)) (by rw [J, end_]; exact W.empty)
  rcases g with ⟨q, i, hq, hi, hh, before, met⟩ | ⟨none_, met⟩
  · have met' : t.probe (fun i => (es[i]?.map (·.1)).getD 0) (N.hf k) (st.getD (t.probeStart (N.hf k))) = some (.candidate (way t.mask (N.hf k) (c + q)) i (wayP t.mask (N.hf k) (c + (q + 1)))) := by
      rw [hst, ← J, ← wayP_from]
      exact met
    rw [met']
    dsimp only
    rw [J] at hi
    have il : i < L.length := by
      have e1 := (List.getElem?_eq_some_iff.mp hi).1
      have e2 := R.tab.sz
      rw [List.length_map] at e2
      rw [Array.length_toList] at e1
      omega
    have hp := List.getElem?_eq_getElem il
    generalize L[i] = p at hp
    have pm := List.mem_of_getElem? hp
    have live := slot_live R.tab.ris hi
    have tail : wpAny (model P w) A (searchRest a (.ref x) (N.hf k) true f es t (way t.mask (N.hf k) (c + q)) i (wayP t.mask (N.hf k) (c + (q + 1)))) Q E s := by
      unfold searchRest
      rw [entries_at R.ents hp]
      dsimp only
      refine wpAny_bind (wpAny_holding (N.eq_ hu (R.all p pm) hx ?_))
      refine wpAny_bind (wpAny_setState_of ho hd R.fit ?_)
      dsimp only
      by_cases e : p.2 = k
      · exact wp_if_pos (by simp [e]) (wpAny_pure (yes (List.mem_map.mpr ⟨p, pm, e⟩)))
      · refine wp_if_neg (by simp [e]) ?_
        try refine wpAny_bind (wpAny_pure ?_)
        rw [sameMem]
        dsimp only
        simp only [if_true, live, entries_at R.ents hp]
        refine wpAny_bind (wpAny_isSame_ref_self (wpAny_bind (wpAny_pure ?_)))
        simp only [if_true]
        refine wp_if_neg (by simp [e]) ?_
        refine ih (K - (c + (q + 1))) (by omega) (c + (q + 1)) f _ rfl (by omega) (by omega) rfl fun i' p' hp' hk' => ?_
        obtain ⟨d, d1, d2, d3⟩ := ahead i' p' hp' hk'
        refine ⟨d, ?_, d2, d3⟩
        have n1 : ¬ d < c + q := fun z => before (d - c) i' (by omega) (by rw [J, show c + (d - c) = d by omega]; exact d3) ((at_h i' p' hp').trans (congrArg N.hf hk'))
        have n2 : d ≠ c + q := fun z => by
          rw [z] at d3
          have l2 := slot_live R.tab.ris d3
          rw [live] at l2
          cases l2
          rw [hp] at hp'
          cases hp'
          exact e hk'
        omega
    by_cases hl : t.led = true
    · refine wp_if_neg (by simp [hl]) ?_
      try refine wpAny_bind (wpAny_pure ?_)
      exact tail
    · refine wp_if_pos (by simp [hl]) ?_
      refine wpAny_bind (N.unseen hx (fun y hy => ?_) ?_)
      · obtain ⟨e, he, rfl⟩ := List.mem_map.mp hy
        have he : e ∈ es.toList := by
          have : e ∈ es ∧ e.1 = N.hf k := by simpa using he
          simpa using this.1
        rw [R.ents] at he
        obtain ⟨p', hp', rfl⟩ := List.mem_map.mp he
        exact ⟨p'.2, p'.1, rfl, R.all p' hp'⟩
      · refine wp_if_neg (by decide) ?_
        try refine wpAny_bind (wpAny_pure ?_)
        exact tail
  · have met' : t.probe (fun i => (es[i]?.map (·.1)).getD 0) (N.hf k) (st.getD (t.probeStart (N.hf k))) = some (.empty (way t.mask (N.hf k) K) none) := by
      have e : way t.mask (N.hf k) K = (nth t.mask (wayP t.mask (N.hf k) c) (K - c)).j := by rw [J, end_]
      rw [hst, e]
      exact met
    rw [met']
    dsimp only
    refine wpAny_pure (no fun hk => ?_)
    obtain ⟨p, pm, e⟩ := List.mem_map.mp hk
    obtain ⟨i, hi, ei⟩ := List.getElem_of_mem pm
    have hp : L[i]? = some p := by rw [List.getElem?_eq_getElem hi, ei]
    obtain ⟨d, d1, d2, d3⟩ := ahead i p hp e
    exact none_ (d - c) i (by omega) (by rw [J, show c + (d - c) = d by omega]; exact d3) ((at_h i p hp).trans (congrArg N.hf e))
theorem search {A : Around} {E : Value → Shared → Prop} {s : Shared} (R : KSet N s.heap a L es ep t) {x : Addr} {k : κ} (hx : N.at_ s.heap k x) (hu : A.units < cLine) {Q : SetFound → Shared → Prop} (yes : k ∈ L.map (·.2) → Q (.there none) s)
    (no : ∀ K, Ask N L t k K → k ∉ L.map (·.2) → Q (.free (way t.mask (N.hf k) K) false) s) : wpAny (model P w) A (setSearch a (.ref x) (N.hf k) true) Q E s := by
  have rm := R.room
  obtain ⟨K, k1, k2, k3⟩ := R.tab.first (by rw [List.length_map]; omega) (N.hf k)
  have W : Ask N L t k K := ⟨k1, k2, k3⟩
  have small : K < 100000 := by
    have : 10 * SetTable.turns t.mask ≤ 1420 := by
      unfold SetTable.turns
      rcases R.tab.mok with e | e | e <;> omega
    omega
  unfold setSearch
  refine seek R hx hu W yes (no K W) (K - 0) 0 100000 none rfl (by omega) (Nat.zero_le _) rfl fun i p hp hk => ?_
  have il : i < t.place.toList.length := by
    have e1 := (List.getElem?_eq_some_iff.mp hp).1
    have e2 := R.tab.sz
    rw [List.length_map] at e2
    rw [Array.length_toList]
    omega
  have hj := List.getElem?_eq_getElem il
  obtain ⟨d, d1, d2⟩ := R.tab.before k2 (i := i) (by rw [List.getElem?_map, hp, ← hk]; rfl) hj
  exact ⟨d, Nat.zero_le _, d1, by rw [hj, d2]⟩
theorem filterMap_ix {α : Type} (L : List α) : ∀ n, n ≤ L.length → (List.range n).filterMap (fun i => L[i]?) = L.take n
  | 0, _ => rfl
  | n + 1, h => by
    have hl : n < L.length := h
    have e := List.getElem?_eq_getElem hl
    rw [List.range_succ, List.filterMap_append, filterMap_ix L n (Nat.le_of_lt hl), List.take_add_one, e]
    simp [List.filterMap, e]
theorem reorder (order : List Nat) (hs : es.toList = entries N L) (hp : ∀ i ∈ order, i < L.length) :
    order.filterMap (fun i => es[i]?) = entries N (order.filterMap fun i => L[i]?) ∧ ((order.filterMap fun i => L[i]?).map fun p => N.hf p.2) = order.map fun i => (es.map (·.1)).getD i 0 := by
  induction order with
  | nil => exact ⟨rfl, rfl⟩
  | cons i r ih =>
    have hi := hp i List.mem_cons_self
    obtain ⟨e1, e2⟩ := ih fun j hj => hp j (List.mem_cons_of_mem _ hj)
    have g := List.getElem?_eq_getElem hi
    have ge := entries_at hs g
    refine ⟨?_, ?_⟩
    · rw [List.filterMap_cons_some ge, List.filterMap_cons_some g, e1]
      rfl
    · rw [List.filterMap_cons_some g, List.map_cons, List.map_cons, e2]
      congr 1
      have e5 : (es.map (·.1))[i]? = some (N.hf (L[i]).2) := by
        rw [Array.getElem?_map, ge]
        rfl
      simp [Array.getD_eq_getD_getElem?, e5]
theorem relay {A : Around} {E : Value → Shared → Prop} {s : Shared} {o : Obj} (ho : s.heap.get? a = some o) (hex : o.ExactSet) (hd : o.data = .set es ep t) (he : es.toList = entries N L) (hz : t.place.size = es.size) (hdm : t.dummies = #[]) (hle : es.size ≤ t.mask)
    (once : (L.map (·.2)).Nodup) (all : ∀ p ∈ L, N.at_ s.heap p.2 p.1) (ld : w.params.followText "set-order" = true ∨ t.led = true) (few : L.length < 64) {want M : Nat}
    (hw : SetTable.sizeAbove want - 1 = M) (hM : MaskOk M) (h128 : SetTable.sizeAbove want ≤ 128) (room : L.length * 5 < M * 3) {Q : Unit → Shared → Prop}
    (q : ∀ h' L' es' ep' t', Heap.SameBut a s.heap h' → KSet N h' a L' es' ep' t' → L'.Perm L → Q () { s with heap := h' }) : wpAny (model P w) A (setRelay a want) Q E s := by
  have ln := entries_len he
  obtain ⟨t', order, e, hp, T, em, el, epl, ed⟩ := relaid_ok t (hs := es.map (·.1)) (wanted := want) hw hM (by rw [Array.size_map, ln]; omega)
  rw [Array.size_map, ln] at hp
  obtain ⟨r1, r2⟩ := reorder order.toList he fun i hi => List.mem_range.mp (hp.mem_iff.mp hi)
  rw [← r2] at T
  have pm : (order.toList.filterMap fun i => L[i]?).Perm L := by
    have := hp.filterMap fun i => L[i]?
    rw [filterMap_ix L _ (Nat.le_refl _), List.take_length] at this
    exact this
  generalize (order.toList.filterMap fun i => L[i]?) = L2 at r1 T pm
  have r1 : (order.filterMap (es[·]?)).toList = entries N L2 := by
    rw [Array.toList_filterMap]
    exact r1
  have hs2 : (order.filterMap (es[·]?)).size = es.size := by rw [entries_len r1, pm.length_eq, ln]
  rw [setRelay_eq]
  refine wpAny_bind (wpAny_setState_of ho hd (fits_by hz hdm hle) ?_)
  dsimp only
  refine wp_if_neg (by rw [sizeLine_eq]; omega) ?_
  try refine wpAny_bind (wpAny_pure ?_)
  rw [e]
  dsimp only
  refine wpAny_bind ?_
  refine wp_if_neg (by rw [hs2]; simp) ?_
  try refine wpAny_bind (wpAny_pure ?_)
  refine wpAny_pure ?_
  dsimp only
  refine wpAny_storeSet_of ho hd ?_ (by rw [hs2, ln, sizeLine_eq]; omega)
  have sb : Heap.SameBut a s.heap (s.heap.update a (Obj.putSet (order.filterMap (es[·]?)) t')) := Heap.SameBut.update ..
  exact q _ L2 _ (ep + 1) t' sb ⟨⟨_, store_at ho hd, ⟨hex.1, hex.2.1, hex.2.2⟩, rfl⟩, r1, T, (pm.map (·.2)).nodup_iff.mpr once, fun p hm => N.stays (all p (pm.mem_iff.mp hm)) ho hd sb, by rw [el]; exact ld, by rw [pm.length_eq, em]; exact room, by rw [pm.length_eq]; exact few⟩ pm
theorem add_key {A : Around} {E : Value → Shared → Prop} {s : Shared} (R : KSet N s.heap a L es ep t) {x : Addr} {k : κ} (hx : N.at_ s.heap k x) (hu : A.units < cLine) (few : L.length + 1 < 64) {Q : Bool → Shared → Prop}
    (q : ∀ b h' L' es' ep' t', Heap.SameBut a s.heap h' → KSet N h' a L' es' ep' t' → (k ∈ L.map (·.2) → L' = L) → (k ∉ L.map (·.2) → L'.Perm ((x, k) :: L)) → Q b { s with heap := h' }) :
    wpAny (model P w) A (setAddHashed a (.ref x) (N.hf k)) Q E s := by
  obtain ⟨o, ho, hex, hd⟩ := R.obj
  have ln := entries_len R.ents
  have rm := R.room
  unfold setAddHashed
  refine wpAny_holding ?_
  rw [show (100000 : Nat) = 99999 + 1 from rfl, setAddHashedIn_succ]
  refine wpAny_bind (wpAny_setState_of ho hd R.fit ?_)
  dsimp only
  refine wp_if_neg (by simp [byScan, Value.scannable]) ?_
  try refine wpAny_bind (wpAny_pure ?_)
  refine wpAny_bind (search R hx hu (fun hm => ?_) fun K W hm => ?_)
  · exact wpAny_pure (q false s.heap L es ep t (Heap.SameBut.refl a s.heap) R (fun _ => rfl) fun z => absurd hm z)
  · dsimp only
    refine wpAny_bind (wpAny_setState_of ho hd R.fit ?_)
    dsimp only
    obtain ⟨q1, q2, q3, q4, q5, q6, _, _, q9⟩ := R.tab.put W.empty W.full
    generalize t.put (way t.mask (N.hf k) K) = tp at q1 q3 q4 q5 q9 ⊢
    obtain ⟨t0, i⟩ := tp
    dsimp only at q1 q3 q4 q5 q9 ⊢
    subst q1
    generalize SetTable.below t.place (way t.mask (N.hf k) K) = i at q2 q3 ⊢
    have either : ∀ (r : Bool), ∃ t1 : SetTable, (if r = true then t0 else { t0 with plain := false }) = t1 ∧ t1.place = t0.place ∧ t1.dummies = t0.dummies ∧ t1.mask = t0.mask ∧ t1.led = t0.led ∧ t1.fill = t0.fill := fun r => by
      cases r
      · exact ⟨_, rfl, rfl, rfl, rfl, rfl, rfl⟩
      · exact ⟨_, rfl, rfl, rfl, rfl, rfl, rfl⟩
    have goOn : ∀ r, wpAny (model P w) A (do
        storeSet a (SetTable.insertAt es i (N.hf k, Value.ref x)) (if r = true then t0 else { t0 with plain := false })
        if !false && (if r = true then t0 else { t0 with plain := false }).tooFull then setRelay a (SetTable.grown (es.size + 1))
        return true) Q E s := fun r => ?_
    · by_cases hpl : t0.plain = true
      · first
          | (refine wpAny_bind ?_; refine wp_if_pos hpl ?_; exact N.byVal hx goOn)
          | exact wp_if_pos hpl (wpAny_bind (N.byVal hx goOn))
      · first
          | (refine wpAny_bind ?_; refine wp_if_neg hpl ?_; exact wpAny_pure (goOn true))
          | exact wp_if_neg hpl (wpAny_bind (wpAny_pure (goOn true)))
    obtain ⟨t1, et, f1, f2, f3, f4, f5⟩ := either r
    rw [et]
    have q3 : TabOk t1 _ := ⟨by rw [f1]; exact q3.ris, by rw [f2]; exact q3.dm, by rw [f1]; exact q3.sz, by rw [f3]; exact q3.mok, by rw [f1, f3]; exact q3.bd, by rw [f1, f3]; exact q3.reach⟩
    rw [← f3] at q4
    rw [← f4] at q5
    rw [← f5] at q9
    clear f1 f2 f3 f4 f5 et either
    have he : (SetTable.insertAt es i (N.hf k, Value.ref x)).toList = entries N (L.take i ++ (x, k) :: L.drop i) := by
      rw [SetTable.toList_insertAt, R.ents]
      simp only [entries, List.map_append, List.map_cons, List.map_take, List.map_drop]
    have pm := put_perm L i (x, k)
    rw [show (L.map fun p => N.hf p.2).take i ++ N.hf k :: (L.map fun p => N.hf p.2).drop i = (L.take i ++ (x, k) :: L.drop i).map (fun p => N.hf p.2) by simp only [List.map_append, List.map_cons, List.map_take, List.map_drop]] at q3
    generalize SetTable.insertAt es i (N.hf k, Value.ref x) = es1 at he ⊢
    generalize L.take i ++ (x, k) :: L.drop i = L1 at pm q3 he
    have l1 : L1.length = L.length + 1 := pm.length_eq
    have z1 : es1.size = L.length + 1 := by rw [entries_len he, l1]
    have once1 : (L1.map (·.2)).Nodup := (pm.map (·.2)).nodup_iff.mpr (List.nodup_cons.mpr ⟨hm, R.once⟩)
    refine wpAny_bind (wpAny_storeSet_of ho hd ?_ (by rw [z1, sizeLine_eq]; omega))
    have sb : Heap.SameBut a s.heap (s.heap.update a (Obj.putSet es1 t1)) := Heap.SameBut.update ..
    have ho1 := store_at (es' := es1) (t' := t1) ho hd
    generalize s.heap.update a (Obj.putSet es1 t1) = h1 at sb ho1 ⊢
    have all1 : ∀ p ∈ L1, N.at_ h1 p.2 p.1 := fun p hp => by
      rcases List.mem_cons.mp (pm.mem_iff.mp hp) with rfl | hp
      · exact N.stays hx ho hd sb
      · exact N.stays (R.all p hp) ho hd sb
    have ld1 : w.params.followText "set-order" = true ∨ t1.led = true := by rw [q5]; exact R.ld
    have full : t1.tooFull = true ↔ (L.length + 1) * 5 ≥ t.mask * 3 := by
      unfold SetTable.tooFull
      rw [decide_eq_true_eq, q9, List.length_map, q4]
    by_cases hf : t1.tooFull = true
    · first
        | (refine wpAny_bind ?_; refine wp_if_pos (by simp [hf]) ?_)
        | (refine wp_if_pos (by simp [hf]) ?_; refine wpAny_bind ?_)
      have hf := full.mp hf
      have sz1 : t1.place.size = es1.size := by
        have := q3.sz
        rw [List.length_map, l1] at this
        rw [this, z1]
      have two : (t.mask = 7 ∧ L.length = 4) ∨ (t.mask = 31 ∧ L.length = 18) := by
        rcases R.tab.mok with e | e | e <;> rw [e] at hf rm <;> omega
      rw [ln]
      have grow : ∀ M, SetTable.sizeAbove (SetTable.grown (L.length + 1)) - 1 = M → MaskOk M → SetTable.sizeAbove (SetTable.grown (L.length + 1)) ≤ 128 → (L.length + 1) * 5 < M * 3 →
          wpAny (model P w) A (setRelay a (SetTable.grown (L.length + 1))) (fun _ s' => wpAny (model P w) A (pure true) Q E s') E { s with heap := h1 } := fun M g1 g2 g3 g4 =>
        relay (s := { s with heap := h1 }) ho1 ⟨hex.1, hex.2.1, hex.2.2⟩ rfl he sz1 q3.dm (by rw [z1, q4]; rcases two with ⟨_, _⟩ | ⟨_, _⟩ <;> omega) once1 all1 ld1 (by omega) g1 g2 g3 (by rw [l1]; exact g4)
          fun h2 L2 es2 ep2 t2 sb2 R2 pm2 => wpAny_pure (q true h2 L2 es2 ep2 t2 (sb.trans sb2) R2 (fun z => absurd z hm) fun _ => pm2.trans pm)
      rcases two with ⟨_, e⟩ | ⟨_, e⟩
      · exact grow 31 (by rw [e, size_20]) (.inr (.inl rfl)) (by rw [e, size_20]; decide) (by omega)
      · exact grow 127 (by rw [e, size_76]) (.inr (.inr rfl)) (by rw [e, size_76]; decide) (by omega)
    · first
        | refine wp_if_neg (by simp [hf]) ?_
        | (refine wpAny_bind ?_; refine wp_if_neg (by simp [hf]) ?_; refine wpAny_pure ?_)
      have hf : ¬ (L.length + 1) * 5 ≥ t.mask * 3 := fun z => hf (full.mpr z)
      exact wpAny_pure (q true h1 L1 es1 (ep + 1) t1 sb ⟨⟨_, ho1, ⟨hex.1, hex.2.1, hex.2.2⟩, rfl⟩, he, q3, once1, all1, ld1, by rw [l1, q4]; omega, by omega⟩ (fun z => absurd z hm) fun _ => pm)
theorem fresh_set {h : Heap} (ho : h.get? a = some { cls := .type "set", dict := none, data := .set #[] 0 (.fresh 0 0 (!w.params.followText "set-order")) }) : KSet N h a [] #[] 0 (.fresh 0 0 (!w.params.followText "set-order")) := by
  refine ⟨⟨_, ho, ⟨rfl, rfl, rfl⟩, rfl⟩, rfl, ⟨?_, rfl, rfl, .inl rfl, fun x h => ?_, fun i h j e => ?_⟩, List.nodup_nil, fun p h => ?_, ?_, by show 0 * 5 < 7 * 3; decide, by show 0 < 64; decide⟩
  · exact .nil
  · cases h
  · cases e
  · cases h
  · cases w.params.followText "set-order"
    · exact .inr rfl
    · exact .inl rfl
end
section
variable {P : Program} {w : World}
theorem items_plain {ks : List Key} {vs : List Value} (h : ItemsAre (mixKind P w) ks vs) : ∀ v ∈ vs, (∃ i t, v = Value.int i t) ∨ ∃ x t, v = Value.str x t := by
  induction h with
  | nil => intro v hv; cases hv
  | cons h1 _ ih =>
    intro v hv
    rcases List.mem_cons.mp hv with rfl | hv
    · rcases keyIs_shape h1 with ⟨i, t, _, e⟩ | ⟨x, t, _, e⟩
      · exact .inl ⟨i, t, e⟩
      · exact .inr ⟨x, t, e⟩
    · exact ih v hv
theorem plain_cls {v : Value} (h : (∃ i t, v = Value.int i t) ∨ ∃ x t, v = Value.str x t) (n : Nat) : ofAClassStatement n v = pure false := by
  rcases h with ⟨i, t, rfl⟩ | ⟨x, t, rfl⟩ <;> cases n <;> rfl
theorem plain_hash {v : Value} (h : (∃ i t, v = Value.int i t) ∨ ∃ x t, v = Value.str x t) (n : Nat) : ∃ r, hashByValue n v = pure r := by
  rcases h with ⟨i, t, rfl⟩ | ⟨x, t, rfl⟩
  · exact ⟨_, hashByValue_scannable n rfl⟩
  · exact ⟨_, hashByValue_scannable n rfl⟩
theorem tup_cls {A : Around} {E : Value → Shared → Prop} {s : Shared} {k : List Key} {b : Addr} {Q : Bool → Shared → Prop} (hk : IsTupleKey (mixKind P w) s.heap k b) (q : Q false s) : wpAny (model P w) A (ofAClassStatement 8 (.ref b)) Q E s := by
  have ty := hk.typeIs
  obtain ⟨o, its, n, ho, _, hd, hi⟩ := hk
  unfold ofAClassStatement
  refine wpAny_bind (wpAny_typeOf ty ?_)
  dsimp only
  simp only [show (("tuple" : String) == "tuple") = true by decide, if_true, Bool.not_true, Bool.false_eq_true, if_false]
  try refine wpAny_bind (wpAny_pure ?_)
  try simp only [Bool.not_true, Bool.false_eq_true, if_false]
  show wpAny _ _ (seqItems? (.ref b) >>= _) _ _ s
  refine wpAny_bind (wpAny_seqItems ho hd ?_)
  dsimp only
  refine wpAny_bind ?_
  show wpAny _ _ (forIn its _ _) _ _ s
  rw [← Array.forIn_toList]
  refine wpAny_forIn_list _ (fun rest r s' => r.1 = none ∧ s' = s ∧ ∀ v ∈ rest, (∃ i t, v = Value.int i t) ∨ ∃ x t, v = Value.str x t) _ ?_ ?_ _ _ ⟨rfl, rfl, items_plain hi⟩
  · rintro v rest r s' ⟨_, rfl, al⟩
    rw [plain_cls (al v List.mem_cons_self)]
    refine wpAny_bind (wpAny_pure ?_)
    simp only [Bool.false_eq_true, if_false]
    exact wpAny_pure ⟨rfl, rfl, fun u hu => al u (List.mem_cons_of_mem _ hu)⟩
  · rintro ⟨r1, r2⟩ s' ⟨hr, rfl, _⟩
    simp only at hr
    subst hr
    exact wpAny_pure q
theorem tup_byVal {A : Around} {E : Value → Shared → Prop} {s : Shared} {k : List Key} {b : Addr} {Q : Bool → Shared → Prop} (hk : IsTupleKey (mixKind P w) s.heap k b) (q : ∀ r, Q r s) : wpAny (model P w) A (hashByValue 8 (.ref b)) Q E s := by
  have ty := hk.typeIs
  obtain ⟨o, its, n, ho, _, hd, hi⟩ := hk
  unfold hashByValue
  refine wpAny_bind (wpAny_specialOf ty F.slot_tuple_hash.lookup ?_)
  show wpAny _ _ (seqItems? (.ref b) >>= _) _ _ s
  refine wpAny_bind (wpAny_seqItems ho hd ?_)
  refine wpAny_bind ?_
  show wpAny _ _ (forIn its _ _) _ _ s
  rw [← Array.forIn_toList]
  refine wpAny_forIn_list _ (fun rest r s' => s' = s ∧ ∀ v ∈ rest, (∃ i t, v = Value.int i t) ∨ ∃ x t, v = Value.str x t) _ ?_ ?_ _ _ ⟨rfl, items_plain hi⟩
  · rintro v rest r s' ⟨rfl, al⟩
    obtain ⟨c, e⟩ := plain_hash (al v List.mem_cons_self) 7
    rw [e]
    refine wpAny_bind (wpAny_pure ?_)
    cases c
    · simp only [Bool.not_false, if_true]
      exact wpAny_pure (wpAny_pure (q false))
    · simp only [Bool.not_true, Bool.false_eq_true, if_false]
      exact wpAny_pure ⟨rfl, fun u hu => al u (List.mem_cons_of_mem _ hu)⟩
  · rintro ⟨r1, r2⟩ s' ⟨rfl, _⟩
    cases r1
    · exact wpAny_pure (q _)
    · exact wpAny_pure (q _)
theorem tup_unseen {A : Around} {E : Value → Shared → Prop} {s : Shared} {k : List Key} {b : Addr} {ys : List Value} {Q : Bool → Shared → Prop} (hk : IsTupleKey (mixKind P w) s.heap k b) (hy : ∀ y ∈ ys, ∃ l c, y = Value.ref c ∧ IsTupleKey (mixKind P w) s.heap l c) (q : Q false s) :
    wpAny (model P w) A (searchCouldBeSeen (.ref b) ys) Q E s := by
  unfold searchCouldBeSeen
  refine wpAny_bind (wpAny_forIn_list _ (fun rest r s' => r.1 = none ∧ s' = s ∧ ∀ y ∈ rest, ∃ l c, y = Value.ref c ∧ IsTupleKey (mixKind P w) s.heap l c) _ ?_ ?_ _ _ ⟨rfl, rfl, hy⟩)
  · rintro v rest r s' ⟨_, rfl, al⟩
    obtain ⟨l, c, rfl, hc⟩ := al v List.mem_cons_self
    have more : ∀ y ∈ rest, ∃ l c, y = Value.ref c ∧ IsTupleKey (mixKind P w) s'.heap l c := fun u hu => al u (List.mem_cons_of_mem _ hu)
    dsimp only
    by_cases hv : (b == c || (carriedByValue (.ref b) && carriedByValue (.ref c))) = true
    · exact wp_if_pos hv (wpAny_pure ⟨rfl, rfl, more⟩)
    · refine wp_if_neg hv (wpAny_bind (wpAny_eqIsQuiet_tuple hk ?_))
      simp only [Bool.not_true, Bool.false_eq_true, if_false]
      refine wpAny_bind (wpAny_eqIsQuiet_tuple hc ?_)
      simp only [Bool.not_true, Bool.false_eq_true, if_false]
      refine wpAny_bind (tup_cls hk ?_)
      simp only [Bool.false_eq_true, if_false]
      refine wpAny_bind (tup_cls hc ?_)
      simp only [Bool.false_eq_true, if_false]
      exact wpAny_pure ⟨rfl, rfl, more⟩
  · rintro ⟨r1, r2⟩ s' ⟨hr, rfl, _⟩
    simp only at hr
    subst hr
    exact wpAny_pure q
/-- tuples of ints and texts are known by what they hold -/
def mixT (P : Program) (w : World) : Known P w (List Key) where
  at_ := fun h k b => IsTupleKey (mixKind P w) h k b
  hf := tupleKeyHash (mixKind P w)
  eq_ := fun hu hb hc q => wpAny_eqBool_tuple hu hb hc q
  unseen := fun hb hy q => tup_unseen hb hy q
  byVal := fun hb q => tup_byVal hb q
  stays := fun {h h' k a b o es ep t} hb ho hd sb => by
    obtain ⟨o', its, n, e, c, d, i⟩ := hb
    have ne : b ≠ a := by
      rintro rfl
      rw [ho] at e
      cases e
      rw [hd] at d
      cases d
    exact ⟨o', its, n, (sb.2 b ne).trans e, c, d, i⟩
  keeps := fun {h h' k b} hb hk => by
    obtain ⟨o', its, n, e, c, d, i⟩ := hb
    exact ⟨o', its, n, hk b o' e, c, d, i⟩
end
end Fb
namespace Fb
open PySem PySem.Spec PyProof.Rows L2
abbrev Keyed := List (Addr × List Key)
/-- what the set's object tells by itself -/
def MSet (P : Program) (w : World) (h : Heap) (a : Addr) (L : Keyed) : Prop := ∃ es ep t, (∃ o, h.get? a = some o ∧ o.ExactSet ∧ o.data = .set es ep t) ∧ es.toList = entries (mixT P w) L ∧ TabOk t (L.map fun p => (mixT P w).hf p.2) ∧ (L.map (·.2)).Nodup ∧
  (w.params.followText "set-order" = true ∨ t.led = true) ∧ L.length * 5 < t.mask * 3 ∧ L.length < 64
def MSetO (P : Program) (w : World) (a : Addr) (L : Keyed) : HO := .ext fun h => MSet P w h a L
theorem KSet.bare {P : Program} {w : World} {h : Heap} {a : Addr} {L : Keyed} {es : Array (Int × Value)} {ep : Nat} {t : SetTable} (R : KSet (mixT P w) h a L es ep t) : MSet P w h a L := ⟨es, ep, t, R.obj, R.ents, R.tab, R.once, R.ld, R.room, R.few⟩
theorem MSet.with {P : Program} {w : World} {h : Heap} {a : Addr} {L : Keyed} (R : MSet P w h a L) (al : ∀ p ∈ L, (mixT P w).at_ h p.2 p.1) : ∃ es ep t, KSet (mixT P w) h a L es ep t := by
  obtain ⟨es, ep, t, r1, r2, r3, r4, r5, r6, r7⟩ := R
  exact ⟨es, ep, t, r1, r2, r3, r4, al, r5, r6, r7⟩
theorem MSet.ok {P : Program} {w : World} {H : Hp} {h : Heap} {a : Addr} {L : Keyed} (R : MSet P w h a L) : ObjOk P w H h a (MSetO P w a L) := by
  have ⟨_, _, _, ⟨o, ho, _⟩, _⟩ := R
  refine ⟨R, ⟨o, ho⟩, fun h1 h2 p k => ?_⟩
  obtain ⟨es, ep, t, ⟨o', ho', r⟩, q⟩ := (show MSet P w h1 a L from p)
  exact ⟨es, ep, t, ⟨o', k o' ho', r⟩, q⟩
theorem keys_of {P : Program} {w : World} : ∀ {ks : List Key} {us : List Value}, Vals (ks.map kV) us → ItemsAre (mixKind P w) ks us
  | [], _, .nil => .nil
  | .inl i :: ks, _, .cons r q => by
    obtain ⟨t, rfl⟩ := r
    exact .cons (by show Value.isInt i (Value.int i t) = true; simp [Value.isInt]) (keys_of q)
  | .inr x :: ks, _, .cons r q => by
    obtain ⟨t, rfl⟩ := r
    exact .cons (by show Value.isStrOf x (Value.str x t) = true; simp [Value.isStrOf]) (keys_of q)
section
variable {X : Cx} {pins : List (Addr × Obj)} {σ : L2.St} {H : Hp} {s : Shared}
theorem mix_at (I : Inv X pins σ H s) {b : Addr} {k : List Key} (h : H b = some (.tup (k.map kV))) : (mixT X.prog X.w).at_ s.heap k b := by
  obtain ⟨_, its, r, o, ho, hc, n, hd⟩ := (show ObjOk X.prog X.w H s.heap b (.tup (k.map kV)) from I.hok b _ h)
  exact ⟨o, its.toArray, n, ho, hc, hd, by simpa using keys_of r⟩
/-- set.add -/
theorem add_mix {A : Around} {E : Value → Shared → Prop} {D b : Addr} {L : Keyed} {k : List Key} {Q : Value → Shared → Prop} (hA : A.units + 1 < cLine) (I : Inv X pins σ H s) (hD : H D = some (MSetO X.prog X.w D L)) (hb : H b = some (.tup (k.map kV))) (al : ∀ p ∈ L, H p.1 = some (.tup (p.2.map kV))) (few : L.length + 1 < 64)
    (q : ∀ s' L', (k ∈ L.map (·.2) → L' = L) → (k ∉ L.map (·.2) → L'.Perm ((b, k) :: L)) → Inv X pins σ (upd H D (MSetO X.prog X.w D L')) s' → Q .none s') : wpAny (model X.prog X.w) A (call (.builtin "set.add") [.ref D, .ref b]) Q E s := by
  obtain ⟨es, ep, t, R⟩ := MSet.with (I.hok D _ hD).1 fun p hp => mix_at I (al p hp)
  have kb := mix_at I hb
  obtain ⟨o, ho, hex, hd⟩ := R.obj
  have ty : s.TypeIs (.ref D) "set" := ⟨o, ho, hex.1⟩
  refine wpAny_call_entry F.slot_set_add ty F.entry_set_add ?_ (F.args_set_add_2 _ _)
  unfold Builtin.«set.add» Builtin.Frozenset.oneOther
  simp only [List.isEmpty_nil, bind_assoc]
  unfold Builtin.Frozenset.addrOf setAdd
  refine wpAny_bind (wpAny_pure ?_)
  try dsimp only
  refine wpAny_bind (wpAny_pure ?_)
  try dsimp only
  refine wpAny_bind (wpAny_holding ?_)
  refine wpAny_bind (wpAny_pyHash_tuple (by show A.in1.units < cLine; exact hA) kb ?_)
  refine add_key (N := mixT X.prog X.w) (s := { s with toks := s.toks + (k.length + 1) }) R kb (by show A.in1.units < cLine; exact hA) few fun r h' L' es' ep' t' sb R' y n => ?_
  show wpAny _ _ (ret Value.none) _ _ _
  refine wpAny_pure ⟨_, rfl, q _ L' y n ?_⟩
  have he : ∃ u, h'.get? D = some u := by
    obtain ⟨o', ho', _⟩ := R'.obj
    exact ⟨o', ho'⟩
  exact I.write (e := D) (t' := s.toks + (k.length + 1)) (by rw [hD]; trivial) (.inl rfl) (fun c u hc hu => (sb.2 c hc).trans hu) he R'.bare.ok
end
section
variable {X : Cx}
/-- {elt for target in iter if ..}, elt a tuple of ints and texts -/
def tScM (P : Program) (w : World) (wi : TI) (g : TG) (tt : TT) (te : TE) (vs : List Nat) : TE := fun σ H Q => wi σ H fun J H1 => ∀ D, H1 D = none → ∃ W : Nat → Nat → Hp → Prop, (∃ m, W 0 m (upd H1 D (MSetO P w D []))) ∧ ∀ i m H, W i m H →
  (J.stop i H ∧ Q (.ref D) H) ∨ (J.go i H ∧ ∃ Nx : Hp → Prop, (∀ H', Nx H' → ∃ m', m' < m ∧ W (i + 1) m' H') ∧ ∀ x H', J.yld i H x H' → g x (wipe σ vs) H' fun σ2 H2 => wipe σ2 vs = wipe σ vs ∧ tt σ2 H2 fun b H3 =>
    if b = true then te σ2 H3 fun y H4 => ∃ (c : Addr) (k : List Key) (L : Keyed), y = .ref c ∧ H4 c = some (.tup (k.map kV)) ∧ H4 D = some (MSetO P w D L) ∧ (∀ p ∈ L, H4 p.1 = some (.tup (p.2.map kV))) ∧ L.length + 1 < 64 ∧
      ∀ L', (k ∈ L.map (·.2) → L' = L) → (k ∉ L.map (·.2) → L'.Perm ((c, k) :: L)) → Nx (upd H4 D (MSetO P w D L')) else Nx H3)
theorem mset_new {P : Program} {w : World} {H : Hp} {h : Heap} : ObjOk P w H (h.push { cls := .type "set", dict := none, data := .set #[] 0 (.fresh 0 0 (!w.params.followText "set-order")) }) h.objs.size (MSetO P w h.objs.size []) :=
  (fresh_set (N := mixT P w) (Heap.get?_push_size _ rfl)).bare.ok
theorem pe_scM {elt tg iter : Expr} {ifs : List Expr} {scope : Scope} {own : List (Str × Nat)} {pos : Pos} {wi : TI} {g : TG} {tt : TT} {te : TE} (hu : X.A.units + 1 < cLine) (hc : X.calm = true) (hN : X.N.Nodup) (hi : PI X tg iter wi) (ok : BlkOk X.N X.env.scope scope own)
    (hg : ∀ (s : Shared) (H : Hp) (C : Addr) (cl : List (Str × Addr)) (fp : List Addr), PG (X.blk s H scope (compEnvC scope cl C X.env) fp) tg g)
    (ht : ∀ (s : Shared) (H : Hp) (C : Addr) (cl : List (Str × Addr)) (fp : List Addr), PTs (X.blk s H scope (compEnvC scope cl C X.env) fp) ifs tt)
    (he : ∀ (s : Shared) (H : Hp) (C : Addr) (cl : List (Str × Addr)) (fp : List Addr), PE (X.blk s H scope (compEnvC scope cl C X.env) fp) elt te)
    (hs : ∀ x, foldedSetIterable iter X.env x = pure x := by intro _; rfl) : PE X (.SetComp elt [⟨tg, iter, ifs, 0⟩] scope pos) (tScM X.prog X.w wi g tt te (own.map (·.2))) := by
  refine ⟨fun pins s σ H Q I h => ?_⟩
  rw [PpSet.eval_SetComp]
  have free : ∀ y ∈ scope.names, y.2 = .free → ∃ c, X.env.cells.lookup y.1 = some c := fun y hy e => (ok.free y hy e).elim (fun k => I.ok.has _ (.inl k)) fun k => I.ok.has _ (.inr k)
  refine wpAny_comprehension_free (use := none) rfl hs (closure_ok free) ok.kind (fun y hy e => by rw [ok.uniq y hy, e]) (thn (hi.run pins s σ H _ I h) fun xv s1 hx => thn hx fun itv s2 h2 => ?_)
  obtain ⟨it, fp, tn, J, H2, rfl, I2, T, st2, f2, q⟩ := h2
  refine PpSet.newSet_ok (newEnv_comp ?_)
  have nD : H2 s2.heap.objs.size = none := I2.hok.fresh (Nat.le_refl _)
  obtain ⟨W, ⟨m0, w0⟩, turn⟩ := q _ nD
  have I3 : Inv X pins σ (upd H2 s2.heap.objs.size (MSetO X.prog X.w s2.heap.objs.size [])) { s2 with heap := s2.heap.push { cls := .type "set", dict := none, data := .set #[] 0 (.fresh 0 0 (!X.w.params.followText "set-order")) } } :=
    I2.laid (t' := s2.toks) (fun b o e => Heap.get?_push_of_some _ e) (Nat.le_refl _) mset_new
  have small : ∀ b ∈ fp, b < s2.heap.objs.size := fun b hb => (T.obj _ _ st2 b hb).elim fun o e => Heap.lt_size e.1
  have size3 : (s2.heap.push { cls := .type "set", dict := none, data := .set #[] 0 (.fresh 0 0 (!X.w.params.followText "set-order")) }).objs.size = s2.heap.objs.size + 1 := Heap.size_push ..
  have st3 : tn 0 (s2.heap.push { cls := .type "set", dict := none, data := .set #[] 0 (.fresh 0 0 (!X.w.params.followText "set-order")) }) := T.keep _ _ _ st2 fun b _ o e => Heap.get?_push_of_some _ e
  generalize hD : s2.heap.objs.size = D at *
  generalize hs3 : ({ s2 with heap := s2.heap.push { cls := .type "set", dict := none, data := .set #[] 0 (.fresh 0 0 (!X.w.params.followText "set-order")) } } : Shared) = s3 at *
  have h3 : s3.heap = s2.heap.push { cls := .type "set", dict := none, data := .set #[] 0 (.fresh 0 0 (!X.w.params.followText "set-order")) } := by rw [← hs3]
  have f3 : ∀ b ∈ fp, FpOk X pins (upd H2 D (MSetO X.prog X.w D [])) b ∧ b < s3.heap.objs.size := fun b hb => by
    have l := small b hb
    refine ⟨⟨?_, (f2 b hb).2⟩, by rw [h3, size3]; exact Nat.lt_succ_of_lt l⟩
    rw [upd_ne (Nat.ne_of_lt l)]
    exact (f2 b hb).1
  have I4 := block_start I3 ok hN f3
  have n0 : ∀ b ∈ fp, (upd H2 D (MSetO X.prog X.w D [])) b = none := fun b hb => (f3 b hb).1.1
  generalize hH3 : upd H2 D (MSetO X.prog X.w D []) = H3 at *
  have pg := hg s3 H3 s3.heap.objs.size (cellsFrom (s3.heap.objs.size + 1) scope.names (cloFrom X.env.cells scope.names [])) fp
  have pt := ht s3 H3 s3.heap.objs.size (cellsFrom (s3.heap.objs.size + 1) scope.names (cloFrom X.env.cells scope.names [])) fp
  have pe := he s3 H3 s3.heap.objs.size (cellsFrom (s3.heap.objs.size + 1) scope.names (cloFrom X.env.cells scope.names [])) fp
  have top : (compEnvC scope (cellsFrom (s3.heap.objs.size + 1) scope.names (cloFrom X.env.cells scope.names [])) s3.heap.objs.size X.env).locals = s3.heap.objs.size := rfl
  show codeAny _ _ (.compStart (.SetComp elt [⟨tg, iter, ifs, 0⟩] scope pos) 0 (.ref it) (.ref D) (compEnvC scope (cellsFrom (s3.heap.objs.size + 1) scope.names (cloFrom X.env.cells scope.names [])) s3.heap.objs.size X.env)) _ { s3 with heap := pushCells (s3.heap.push { cls := .type "dict", data := .dict #[] }) scope.names }
  generalize compEnvC scope (cellsFrom (s3.heap.objs.size + 1) scope.names (cloFrom X.env.cells scope.names [])) s3.heap.objs.size X.env = ce at I4 pg pt pe top ⊢
  have st4 : tn 0 ({ s3 with heap := pushCells (s3.heap.push { cls := .type "dict", data := .dict #[] }) scope.names } : Shared).heap := T.keep _ _ _ (h3 ▸ st3) fun b _ o e => pushCells_keeps _ _ _ _ (Heap.get?_push_of_some _ e)
  generalize ({ s3 with heap := pushCells (s3.heap.push { cls := .type "dict", data := .dict #[] }) scope.names } : Shared) = s4 at I4 st4 ⊢
  have fps : ∀ {σ' : L2.St} {H' : Hp} {s' : Shared}, Inv (X.blk s3 H3 scope ce fp) [] σ' H' s' → (∀ b ∈ fp, H' b = none) → ∀ b ∈ fp, FpOk (X.blk s3 H3 scope ce fp) [] H' b := fun {σ' H' s'} I' hn b hb =>
    ⟨hn b hb, (I'.ok.exf b hb).1, I'.ok.exfs b hb, .inl hb, fun x c e => (I'.ok.exf b hb).2 x c e, fun p hp => absurd (show p ∈ ([] : List (Addr × Obj)) ++ [] from hp) (by simp)⟩
  have loop : codeAny (model X.prog X.w) X.A (.compLoop (.SetComp elt [⟨tg, iter, ifs, 0⟩] scope pos) 0 (.ref it) (.ref D) ce) (compPost (model X.prog X.w) X.A X.xe none (EP X pins σ Q) (.ref D) s3.heap.objs.size) s4 := by
    refine PpSet.compLoopS_any (fun n s' => ∃ i H', Inv (X.blk s3 H3 scope ce fp) [] (wipe σ (own.map (·.2))) H' s' ∧ tn i s'.heap ∧ (∀ b ∈ fp, H' b = none) ∧ W i n H') ?_ m0 ⟨0, H3, I4, st4, n0, w0⟩
    rintro n s5 ⟨i, H5, I5, st5, n5, w5⟩
    rcases turn i n H5 w5 with ⟨stop, fin⟩ | ⟨go, Nx, next, step⟩
    · refine thnF (T.done (X.blk s3 H3 scope ce fp) rfl rfl rfl hc i [] s5 _ H5 (fun _ _ => False) I5 (fps I5 n5) st5 stop) fun r s6 ⟨hr, I6⟩ => ?_
      subst hr
      have I7 : Inv X pins σ H5 s6 := I3.call' (ch := fp) I6.os I6.base I6.hok I6.bare fun b hb => let f := (f3 b hb).1; ⟨f.2.2.2.1, f.2.1, f.2.2.2.2.1, f.2.2.2.2.2⟩
      have nC : H5 s3.heap.objs.size = none := by
        have := (show H5 ce.locals = none from I6.free)
        rwa [top] at this
      obtain ⟨m, hn, _⟩ := I6.loc
      have hn : s6.heap.Ns s3.heap.objs.size m := by
        have := (show s6.heap.Ns ce.locals m from hn)
        rwa [top] at this
      obtain ⟨g0, g1, g2, g3, g4, g5⟩ := I3.fpOk (Nat.le_refl _) nC
      exact ⟨m, hn, fun h'' sb => ⟨.ref D, H5, I7.turned (t' := s6.toks) (fun b o hb e => (sb.2 b hb).trans e) g0 g1 g3 g4 g5, rfl, fin⟩⟩
    · refine thnF (T.item (X.blk s3 H3 scope ce fp) rfl rfl rfl hc i [] s5 _ H5 (fun _ _ => False) I5 (fps I5 n5) st5 go) fun r s6 ⟨u, hr, h6⟩ => ?_
      subst hr
      refine thnF h6 fun _ s7 ⟨x, H7, I7, r7, y7, st7, n7⟩ => ?_
      refine thnF (pg.run _ s7 _ H7 x u _ (I7.pinned (fps I7 n7) (T.obj _ _ st7)) r7 (step x H7 y7)) fun _ s8 ⟨σ8, H8, I8, hw8, q8⟩ => ?_
      refine thnF (pt.run _ s8 σ8 H8 _ I8 q8) fun b s9 ⟨H9, I9, q9⟩ => ?_
      have on : ∀ {s' : Shared} {H' : Hp}, Inv (X.blk s3 H3 scope ce fp) ([] ++ pinsAt fp s7.heap) σ8 H' s' → Nx H' → ∃ m, m < n ∧ ∃ i H', Inv (X.blk s3 H3 scope ce fp) [] (wipe σ (own.map (·.2))) H' s' ∧ tn i s'.heap ∧ (∀ b ∈ fp, H' b = none) ∧ W i m H' := fun {s' H'} I' nx => by
        obtain ⟨m', hm, w'⟩ := next H' nx
        have pin : ∀ b ∈ fp, ∀ o, s7.heap.get? b = some o → s'.heap.get? b = some o ∧ H' b = none := fun b hb o e =>
          let z := I'.pin (b, o) (List.mem_append_right _ (List.mem_append_right _ (mem_pinsAt hb e)))
          ⟨z.1, z.2.1⟩
        refine ⟨m', hm, i + 1, H', (I'.unpinned (pins := [])).weak (by rw [← hw8, wipe_length]) (fun j v e => ?_), T.keep _ _ _ st7 fun b hb o e => (pin b hb o e).1, fun b hb => ?_, w'⟩
        · rw [← hw8] at e
          exact (wipe_some e).1
        · obtain ⟨o, e, _⟩ := T.obj _ _ st7 b hb
          exact (pin b hb o e).2
      cases b with
      | false =>
        simp only [Bool.false_eq_true, if_false] at q9 ⊢
        exact on I9 q9
      | true =>
        simp only [if_true] at q9 ⊢
        refine thnF (pe.run _ s9 σ8 H9 _ I9 q9) fun z s10 ⟨yv, H10, I10, r10, c, k, L, ey, ec, eD, al, few, nx⟩ => ?_
        subst ey
        cases r10
        exact add_mix (X := X.blk s3 H3 scope ce fp) hu I10 eD ec al few fun s11 L' y' n' I11 => on I11 (nx L' y' n')
  exact PpSet.codeAny_compStart_set loop (T.self X.A 0 _ _ _ st4 loop)
/-- how many it has -/
theorem call_lenM : CallR X (.builtin "len") (fun xs H Q => ∃ (a : Addr) (L : Keyed), xs = [.ref a] ∧ H a = some (MSetO X.prog X.w a L) ∧ Q (.int L.length) H) := by
  intro pins s σ H xs us Q I r h
  obtain ⟨a, L, rfl, ha, q⟩ := h
  obtain ⟨u, rfl, ru⟩ := vals1 r
  cases ru
  obtain ⟨es, ep, t, ⟨o, ho, hex, hd⟩, he, T, _, _, room, few⟩ := (I.hok a _ ha).1
  have ln := entries_len he
  have sz := T.sz
  rw [List.length_map] at sz
  refine call_len_set ho hex hd (fits_by (by omega) T.dm (by omega)) (by omega) ?_
  refine ⟨.int L.length, H, I.kept (t' := s.toks + 1 + 1) fun _ _ e => e, ⟨s.toks + 1, ?_⟩, q⟩
  rw [ln]
end
end Fb
namespace Fb
open PySem PySem.Spec PyProof.Rows L2
abbrev RS := Int × Str
def rsLt (a b : RS) : Bool := decide (a.1 < b.1) || (decide (a.1 = b.1) && decide (a.2.cps.toList < b.2.cps.toList))
theorem rsLt_iff {a b : RS} : rsLt a b = true ↔ a.1 < b.1 ∨ (a.1 = b.1 ∧ a.2.cps.toList < b.2.cps.toList) := by
  simp [rsLt]
theorem rsLt_irr (a : RS) : rsLt a a = false := by
  cases h : rsLt a a with
  | false => rfl
  | true =>
    rcases rsLt_iff.mp h with h | ⟨_, h⟩
    · omega
    · exact absurd h (List.lt_irrefl _)
theorem rsLt_trans {a b c : RS} (h1 : rsLt a b = true) (h2 : rsLt b c = true) : rsLt a c = true := by
  rcases rsLt_iff.mp h1 with h1 | ⟨e1, h1⟩ <;> rcases rsLt_iff.mp h2 with h2 | ⟨e2, h2⟩ <;> refine rsLt_iff.mpr ?_
  · left; omega
  · left; omega
  · left; omega
  · right; exact ⟨by omega, List.lt_trans h1 h2⟩
theorem str_ext {x y : Str} (h : x.cps.toList = y.cps.toList) : x = y := by
  cases x
  cases y
  congr 1
  exact Array.ext' h
theorem rsLt_total {a b : RS} (h1 : rsLt a b = false) (h2 : rsLt b a = false) : a = b := by
  have n1 : ¬ (a.1 < b.1 ∨ (a.1 = b.1 ∧ a.2.cps.toList < b.2.cps.toList)) := fun h => by rw [rsLt_iff.mpr h] at h1; cases h1
  have n2 : ¬ (b.1 < a.1 ∨ (b.1 = a.1 ∧ b.2.cps.toList < a.2.cps.toList)) := fun h => by rw [rsLt_iff.mpr h] at h2; cases h2
  have e1 : a.1 = b.1 := by
    have : ¬ a.1 < b.1 := fun h => n1 (.inl h)
    have : ¬ b.1 < a.1 := fun h => n2 (.inl h)
    omega
  have l1 : ¬ a.2.cps.toList < b.2.cps.toList := fun h => n1 (.inr ⟨e1, h⟩)
  have l2 : ¬ b.2.cps.toList < a.2.cps.toList := fun h => n2 (.inr ⟨e1.symm, h⟩)
  have e2 : a.2 = b.2 := str_ext (List.le_antisymm (List.not_lt.mp l2) (List.not_lt.mp l1))
  exact Prod.ext e1 e2
/-- how many of l stand before k -/
def rk (l : List RS) (k : RS) : Int := (l.countP fun x => rsLt x k : Nat)
theorem countP_le {α : Type} {p q : α → Bool} : ∀ {l : List α}, (∀ x ∈ l, p x = true → q x = true) → l.countP p ≤ l.countP q
  | [], _ => Nat.le_refl _
  | x :: l, h => by
    have ih := countP_le (p := p) (q := q) (l := l) fun y hy => h y (List.mem_cons_of_mem _ hy)
    have hx := h x List.mem_cons_self
    rw [List.countP_cons, List.countP_cons]
    cases e : p x
    · simp only [Bool.false_eq_true, if_false]
      omega
    · rw [hx e]
      omega
theorem countP_lt {α : Type} {p q : α → Bool} : ∀ {l : List α}, (∀ x ∈ l, p x = true → q x = true) → (∃ x ∈ l, p x = false ∧ q x = true) → l.countP p < l.countP q
  | [], _, h => by simp at h
  | x :: l, h, ⟨y, hy, py, qy⟩ => by
    have le := countP_le (p := p) (q := q) (l := l) fun y hy => h y (List.mem_cons_of_mem _ hy)
    have hx := h x List.mem_cons_self
    rw [List.countP_cons, List.countP_cons]
    rcases List.mem_cons.mp hy with rfl | hy
    · rw [py, qy]
      simp only [Bool.false_eq_true, if_false, if_true]
      omega
    · have lt := countP_lt (p := p) (q := q) (l := l) (fun y hy => h y (List.mem_cons_of_mem _ hy)) ⟨y, hy, py, qy⟩
      cases e : p x
      · simp only [Bool.false_eq_true, if_false]
        omega
      · rw [hx e]
        omega
theorem rk_lt {l : List RS} {a b : RS} (ha : a ∈ l) (hb : b ∈ l) : decide (rk l a < rk l b) = rsLt a b := by
  cases h : rsLt a b with
  | true =>
    refine decide_eq_true ?_
    have := countP_lt (p := fun x => rsLt x a) (q := fun x => rsLt x b) (l := l) (fun x _ hx => rsLt_trans hx h) ⟨a, ha, rsLt_irr a, h⟩
    unfold rk
    omega
  | false =>
    refine decide_eq_false ?_
    have : (l.countP fun x => rsLt x b) ≤ l.countP fun x => rsLt x a := by
      cases h2 : rsLt b a with
      | true => exact countP_le fun x _ hx => rsLt_trans hx h2
      | false => rw [rsLt_total h h2]; exact Nat.le_refl _
    unfold rk
    omega
section
variable {P : Program} {w : World}
/-- v is a tuple of the room and the sign of k, and a tuple -/
def StepIn (P : Program) (w : World) (h : Heap) (v : Value) (k : RS) : Prop :=
  ∃ (t wa : Addr) (o : Obj) (n : Nat) (t1 t2 : Tok) (ks : List Key), v = .ref t ∧ h.get? t = some o ∧ o.cls = .type "tuple" ∧ o.data = .seq #[.int k.1 t1, .str k.2 t2, .ref wa] n ∧ IsTupleKey (mixKind P w) h ks wa
theorem StepIn.keeps {h h' : Heap} {v : Value} {k : RS} (x : StepIn P w h v k) (kp : ∀ b o, h.get? b = some o → o.cls = .type "tuple" → h'.get? b = some o) : StepIn P w h' v k := by
  obtain ⟨t, wa, o, n, t1, t2, ks, e, ho, hc, hd, o3, it3, n3, ho3, hc3, r3⟩ := x
  exact ⟨t, wa, o, n, t1, t2, ks, e, kp _ _ ho hc, hc, hd, o3, it3, n3, kp _ _ ho3 hc3, hc3, r3⟩
theorem firsts {h : Heap} {kf : Value → RS} : ∀ vs : List Value, (∀ v ∈ vs, StepIn P w h v (kf v)) → ∃ fs : List Value, PySem.W.KatTups h vs fs ∧ fs.length = vs.length ∧ ∀ f ∈ fs, ∃ i t, f = Value.int i t
  | [], _ => ⟨[], PySem.W.KatTups.nil, rfl, fun f hf => by cases hf⟩
  | v :: vs, x => by
    obtain ⟨fs, k, hl, hi⟩ := firsts vs fun u hu => x u (List.mem_cons_of_mem _ hu)
    obtain ⟨t, wa, o, n, t1, t2, ks, rfl, ho, hc, hd, _⟩ := x v List.mem_cons_self
    refine ⟨.int _ t1 :: fs, PySem.W.KatTups.cons ho hc hd rfl k, by rw [List.length_cons, List.length_cons, hl], fun f hf => ?_⟩
    rcases List.mem_cons.mp hf with rfl | hf
    · exact ⟨_, _, rfl⟩
    · exact hi f hf
theorem kind_steps {A : Around} {E : Value → Shared → Prop} {s : Shared} {vs : List Value} {kf : Value → RS} {r : Value → Int} (h2 : 2 ≤ vs.length) (hu : A.units < cLine) (x : ∀ v ∈ vs, StepIn P w s.heap v (kf v)) (one : ∀ v ∈ vs, ∀ u ∈ vs, kf v = kf u → v = u)
    (hr : ∀ v ∈ vs, ∀ u ∈ vs, decide (r v < r u) = rsLt (kf v) (kf u)) (Q : SortKind → Shared → Prop) (h : ∀ κ, TS.Cmp P w A s κ (pairsOf vs) r → Q κ s) : wpAny (model P w) A (keyKind' vs.toArray) Q E s := by
  obtain ⟨fs, k, hl, hi⟩ := firsts vs x
  refine PySem.W.kat_kind (T := Value.type "int") k (by omega) (fun f hf => ?_) rfl (h _ ?_)
  · obtain ⟨i, t, rfl⟩ := hi f hf
    exact PySem.W.Looks.of_pure rfl
  · intro p q hp hq Q' E' hQ
    rw [pairsOf_toList] at hp hq
    have mp := (mem_zip_self hp).2
    have mq := (mem_zip_self hq).2
    have hQ : Q' (rsLt (kf p.1) (kf q.1)) s := by
      rw [← hr _ mp _ mq]
      exact hQ
    have same := one _ mp _ mq
    obtain ⟨t, wa, o, n, t1, t2, ks, e1, ho, hc, hd, kw⟩ := x _ mp
    obtain ⟨t', wa', o', n', t1', t2', ks', e2, ho', hc', hd', kw'⟩ := x _ mq
    rw [e1, e2]
    rw [e1, e2] at same
    have same : kf p.1 = kf q.1 → t = t' := fun e => by
      rw [e1, e2] at e
      have := same e
      cases this
      rfl
    generalize kf p.1 = a at *
    generalize kf q.1 = b at *
    refine PySem.W.kat_lt ho hd ho' hd' ?_
    show PySem.W.KatLex P w A true false Q' [(.int a.1 t1, .int b.1 t1'), (.str a.2 t2, .str b.2 t2'), (.ref wa, .ref wa')] 0 s
    refine PySem.W.kat_cons (wpAny_eqBool_int ?_)
    refine PySem.W.kat_go (fun e => PySem.W.kat_yes ?_) (fun e => PySem.W.kat_no ?_)
    · have e := of_decide_eq_true e
      refine PySem.W.kat_cons (wpAny_eqBool_str ?_)
      refine PySem.W.kat_go (fun e' => PySem.W.kat_yes ?_) (fun e' => PySem.W.kat_no ?_)
      · have e' := of_decide_eq_true e'
        have ab : a = b := Prod.ext e e'
        have tt := same ab
        subst tt
        rw [ho] at ho'
        cases ho'
        rw [hd] at hd'
        have hw : wa = wa' := by
          have := (Data.seq.inj hd').1
          simp at this
          exact this.2.2
        subst hw
        rw [ab, rsLt_irr] at hQ
        refine PySem.W.kat_cons (wpAny_eqBool_tuple hu kw kw ?_)
        refine PySem.W.kat_go (fun _ => PySem.W.kat_yes (PySem.W.kat_nil hQ)) (fun z => ?_)
        rw [decide_eq_true rfl] at z
        cases z
      · show wpAny _ _ (oneLt' false _ _) _ _ _
        refine PySem.W.kat_one _ _ (lt_str ?_)
        have : rsLt a b = decide (a.2.cps.toList < b.2.cps.toList) := by
          unfold rsLt
          rw [decide_eq_false (by omega), decide_eq_true e]
          rfl
        rw [this] at hQ
        exact hQ
    · show wpAny _ _ (oneLt' true _ _) _ _ _
      refine oneLt_int ?_
      have ne : ¬ a.1 = b.1 := by simpa using e
      have : rsLt a b = decide (a.1 < b.1) := by
        unfold rsLt
        rw [decide_eq_false ne, Bool.false_and, Bool.or_false]
      rw [this] at hQ
      exact hQ
theorem sort_steps {A : Around} {E : Value → Shared → Prop} {s : Shared} {a : Addr} {vs : List Value} {n : Nat} {Q : PySem.Fin → Shared → Prop} {kf : Value → RS} (ho : s.heap.get? a = some (seqObj "list" vs.toArray n)) (h64 : vs.length < 64) (hu : A.units < cLine)
    (x : ∀ v ∈ vs, StepIn P w s.heap v (kf v)) (one : ∀ v ∈ vs, ∀ u ∈ vs, kf v = kf u → v = u)
    (h : ∀ out : Array Value, out.toList.Perm vs → out.toList.Pairwise (fun u v => rsLt (kf v) (kf u) = false) → Q (.done (.ret .none)) { s with heap := sortedHeap s.heap a vs out }) : wpAny (model P w) A (Builtin.«list.sort» ⟨[.ref a], []⟩) Q E s := by
  have keep : ∀ b o, s.heap.get? b = some o → o.cls = .type "tuple" → (TS.midHeap s.heap a vs).get? b = some o := fun b o e hc => by
    refine TS.midHeap_old ?_ e
    rintro rfl
    rw [ho] at e
    cases e
    exact absurd (Value.type.inj hc) (by decide)
  have hr : ∀ v ∈ vs, ∀ u ∈ vs, decide (rk (vs.map kf) (kf v) < rk (vs.map kf) (kf u)) = rsLt (kf v) (kf u) := fun v hv u hu => rk_lt (List.mem_map_of_mem hv) (List.mem_map_of_mem hu)
  refine SK.plain_sort (r := fun v => rk (vs.map kf) (kf v)) ho h64 (fun h2 Q' hQ => ?_) fun ps out h1 h2 h3 => ?_
  · exact kind_steps (s := { s with heap := TS.midHeap s.heap a vs }) h2 hu (fun v hv => (x v hv).keeps keep) one hr Q' hQ
  · obtain ⟨p, o⟩ := TS.out_rank (r := fun v => rk (vs.map kf) (kf v)) h1 h2 h3
    refine h out p (List.Pairwise.imp_of_mem (fun {u v} hu hv hle => ?_) o)
    rw [← hr v (p.mem_iff.mp hv) u (p.mem_iff.mp hu)]
    exact decide_eq_false (by omega)
end
section
variable {X : Cx}
theorem step_in {pins : List (Addr × Obj)} {σ : L2.St} {H : Hp} {s : Shared} (I : Inv X pins σ H s) {t wa : Addr} {k : RS} {ks : List Key} (h : H t = some (.tup [.int k.1, .str k.2, .ref wa])) (hw : H wa = some (.tup (ks.map kV))) : StepIn X.prog X.w s.heap (.ref t) k := by
  obtain ⟨_, its, r, o, ho, hc, n, hd⟩ := (show ObjOk X.prog X.w H s.heap t _ from I.hok t _ h)
  cases r with
  | cons r1 r =>
  cases r with
  | cons r2 r =>
  cases r with
  | cons r3 r =>
  cases r
  obtain ⟨t1, rfl⟩ := r1
  obtain ⟨t2, rfl⟩ := r2
  cases r3
  exact ⟨t, wa, o, n, t1, t2, ks, rfl, ho, hc, hd, mix_at I hw⟩
/-- sorted(xs), xs a list of steps, no two of the same room and sign -/
def rSortS (K : PySem.W.Frag) : List V → Hp → VK → Prop := fun vs H Q => ∃ (a : Addr) (xs : List V) (kf : V → RS), vs = [V.ref a] ∧ SqL K H a xs ∧ xs.length < 64 ∧ (∀ x ∈ xs, ∃ t wa ks, x = .ref t ∧ H t = some (.tup [.int (kf x).1, .str (kf x).2, .ref wa]) ∧ H wa = some (.tup (List.map kV ks))) ∧
  (∀ x ∈ xs, ∀ y ∈ xs, kf x = kf y → x = y) ∧ ∀ (ys : List V) (p : Addr), ys.Perm xs → ys.Pairwise (fun x y => rsLt (kf y) (kf x) = false) → H p = none → Q (.ref p) (upd H p (.lst ys))
theorem cr_sortS (hu : X.A.units + 2 < cLine) : CallR X (.builtin "sorted") (rSortS X.K) := by
  intro pins s σ H vs us Q I r h
  obtain ⟨a, xs, kf, rfl, hs, h64, hx, one, q⟩ := h
  obtain ⟨its, rv, hl, hz⟩ := I.list hs
  rw [Vals.ref1 r]
  obtain ⟨e1, e2⟩ := bkV_refs rv fun x m => by
    obtain ⟨t, _, _, e, _⟩ := hx x m
    exact ⟨t, e⟩
  have st : ∀ v ∈ its, StepIn X.prog X.w s.heap v (kf (bkV v)) := fun v hv => by
    obtain ⟨t, rfl⟩ := e2 v hv
    obtain ⟨t', wa, ks, e, h1, h2⟩ := hx (.ref t) (by rw [e1]; exact List.mem_map.mpr ⟨_, hv, rfl⟩)
    cases e
    exact step_in I h1 h2
  have on : ∀ v ∈ its, ∀ u ∈ its, kf (bkV v) = kf (bkV u) → v = u := fun v hv u hu e => by
    have := one (bkV v) (by rw [e1]; exact List.mem_map_of_mem hv) (bkV u) (by rw [e1]; exact List.mem_map_of_mem hu) e
    obtain ⟨t, rfl⟩ := e2 v hv
    obtain ⟨t', rfl⟩ := e2 u hu
    cases this
    rfl
  have n64 : its.length < 64 := by rw [← rv.length]; exact h64
  refine Calls.call_function_entry kind_sorted plain_sorted entry_sorted (args_sorted1 _) ?_
  unfold Builtin.«sorted»
  refine wpAny_bind (m := checkCount "sorted" 1 1 _) (wpAny_pure ?_)
  refine wpAny_bind (collect_list hl.isList ?_ (by rw [sizeLine_eq]; omega))
  refine wpAny_bind (wpAny_newList ?_ (by rw [sizeLine_eq]; omega))
  have sz : ((s.heap.push (seqObj "list" #[] 0)).update s.heap.objs.size (Obj.mapSeq (· ++ its.toArray))).objs.size = s.heap.objs.size + 1 := (Heap.size_update ..).trans (size_push' _ _)
  have new : (((s.heap.push (seqObj "list" #[] 0)).update s.heap.objs.size (Obj.mapSeq (· ++ its.toArray))).push (seqObj "list" its.toArray 0)).get? (s.heap.objs.size + 1) = some (seqObj "list" its.toArray 0) := sz ▸ Heap.get?_push_size _ rfl
  have old : ∀ b o, s.heap.get? b = some o → (((s.heap.push (seqObj "list" #[] 0)).update s.heap.objs.size (Obj.mapSeq (· ++ its.toArray))).push (seqObj "list" its.toArray 0)).get? b = some o := fun b o e => by
    have l : b < s.heap.objs.size := Heap.lt_size e
    rw [Heap.get?_push_ne _ _ _ (by rw [sz]; exact Nat.ne_of_lt (Nat.lt_succ_of_lt l)), Heap.get?_update_ne _ _ _ _ (Nat.ne_of_lt l), Heap.get?_push_ne _ _ _ (Nat.ne_of_lt l)]
    exact e
  show wpAny _ _ _ _ _ { s with heap := ((s.heap.push (seqObj "list" #[] 0)).update s.heap.objs.size (Obj.mapSeq (· ++ its.toArray))).push (seqObj "list" its.toArray 0) }
  rw [sz]
  refine wpAny_bind (wpAny_holding (wpAny_call_entry slot_list_sort ⟨_, new, rfl⟩ entry_list_sort (sort_steps (kf := fun v => kf (bkV v)) new n64 (by show X.A.units + 2 < cLine; exact hu) (fun v hv => (st v hv).keeps fun b o e _ => old b o e) on fun out a1 a2 => ⟨_, rfl, ?_⟩) (args_list_sort _)))
  refine wpAny_pure ⟨_, rfl, ?_⟩
  obtain ⟨ep, he'⟩ := PyProof.Rows.sortedAll_at s.heap its out
  have h3 : ∀ u ∈ out.toList, ∃ a, u = Value.ref a := fun u hu => e2 u (a1.mem_iff.mp hu)
  have hp : (out.toList.map bkV).Perm xs := by
    rw [e1]
    exact a1.map bkV
  refine ⟨.ref _, upd H (s.heap.objs.size + 1) (.lst (out.toList.map bkV)), I.laid (t' := s.toks) (fun _ _ => PyProof.Rows.sortedAll_old) (Nat.le_succ _) ⟨by rw [hp.length_eq]; exact hz, out.toList, ep, bkV_vals h3, he'⟩, rfl, q _ _ hp ?_ (I.hok.fresh (Nat.le_succ _))⟩
  rw [List.pairwise_map]
  exact a2
end
end Fb
namespace Fb
open PySem PySem.Spec PyProof.Rows L2
open AutoSeq1 (wpAny_loadPart')
set_option maxHeartbeats 1000000 in
theorem meets_enumT (l : Addr) (items : Array Value) :
    Meets (Builtin.«enumerate.__new__» ⟨[.type "enumerate", .ref l], []⟩) (fun _ R s => s.heap.IsTuple l items ∧
      R (.ok (.ret (.ref (s.heap.push { cls := .type "tuple_iterator", data := .fields #[.ref l, .int 0 0] }).objs.size)))
        { s with heap := (s.heap.push { cls := .type "tuple_iterator", data := .fields #[.ref l, .int 0 0] }).push { cls := .type "enumerate", data := .fields #[.none, .bool false, .ref s.heap.objs.size, rawInt 0, .none, .none] } }) :=
  .of_wp fun prog w A R s h => by
    obtain ⟨hp, g, d, tk, os⟩ := s; obtain ⟨hL, h⟩ := h
    have hsub := sub_enumerate
    have q1 : ∀ {A' : Around} {E : Value → Shared → Prop} {Q : Value → Shared → Prop}, Q (.ref hp.objs.size) ⟨hp.push { cls := .type "tuple_iterator", data := .fields #[.ref l, .int 0 0] }, g, d, tk, os⟩ → wpAny (model prog w) A' (pyIter (.ref l)) Q E ⟨hp, g, d, tk, os⟩ :=
      fun q => wpAny_pyIter_tuple hL q
    wp_walk using q1
    refine wpAny_stack_any fun st => wpAny_pure ?_
    split
    · rename_i c _ _ _ _ _
      cases (c == Value.type "enumerate")
      · wp_walk using q1
        exact ⟨_, rfl, h⟩
      · wp_walk using q1
        exact ⟨_, rfl, h⟩
    · wp_walk using q1
      exact ⟨_, rfl, h⟩
theorem call_enumT {prog : Program} {w : World} {A : Around} {E : Value → Shared → Prop} {s : Shared} {l : Addr} {items : Array Value} {Q : Value → Shared → Prop} (hL : s.heap.IsTuple l items)
    (h : ∀ h', IsEnum h' (s.heap.objs.size + 1) s.heap.objs.size 0 .none → h'.IsTupleIter s.heap.objs.size l 0 → h'.objs.size = s.heap.objs.size + 2 →
      (∀ b o, s.heap.get? b = some o → h'.get? b = some o) → Q (.ref (s.heap.objs.size + 1)) { s with heap := h' }) :
    wpAny (model prog w) A (call (.type "enumerate") [.ref l]) Q E s := by
  refine callType_new F.called_enumerate (by decide) (F.typeCall_enumerate_1 _) (F.newCall_enumerate_1 _) (fun obj => F.args_object_init_2 obj _) F.entry_enumerate_new
    (meets_enumT l items) ⟨hL, ?_⟩
  have hz : (s.heap.push { cls := .type "tuple_iterator", data := .fields #[.ref l, .int 0 0] }).objs.size = s.heap.objs.size + 1 := Heap.size_push ..
  show _ ∧ _
  rw [hz]
  have he : IsEnum ((s.heap.push { cls := .type "tuple_iterator", data := .fields #[.ref l, .int 0 0] }).push
      { cls := .type "enumerate", data := .fields #[.none, .bool false, .ref s.heap.objs.size, rawInt 0, .none, .none] }) (s.heap.objs.size + 1) s.heap.objs.size 0 .none := by
    have := Heap.get?_push_size (s.heap.push { cls := .type "tuple_iterator", data := .fields #[.ref l, .int 0 0] })
      (o := { cls := .type "enumerate", data := .fields #[.none, .bool false, .ref s.heap.objs.size, rawInt 0, .none, .none] }) rfl
    rw [hz] at this; exact this
  refine ⟨⟨_, he, rfl⟩, h _ he ⟨_, Heap.get?_push_of_some _ (Heap.get?_push_size _ rfl), rfl, rfl⟩ (by rw [Heap.size_push, hz]) fun b o x => Heap.get?_push_of_some _ (Heap.get?_push_of_some _ x)⟩
/-- the tuple at a, each item in a new pair -/
def IteT (K : PySem.W.Frag) (a : Addr) : It :=
  ⟨fun i H => ∃ (xs : List V) (x : V), SqT K H a xs ∧ xs[i]? = some x, fun i H v H' => ∃ T x, v = .ref T ∧ H T = none ∧ H' = upd H T (.tup [.int (i : Nat), x]) ∧ ∀ xs, SqT K H a xs → xs[i]? = some x, fun i H => ∃ xs : List V, SqT K H a xs ∧ xs.length ≤ i⟩
theorem turn_enumT {P : Program} {w : World} {K : PySem.W.Frag} {elts : List Expr} {kk : Nat} {tpos : Pos} (a e it : Addr) :
    Turn P w K (.Tuple elts kk tpos) (IteT K a) [e, it] e (fun i h => (∃ old, IsEnum h e it ((i : Nat) : Int) old) ∧ h.IsTupleIter it a i ∧ e ≠ it) where
  mem := by simp
  obj := fun i h st b hb => by
    obtain ⟨⟨old, he⟩, ⟨o, ho, hc, hd⟩, _⟩ := st
    have e' : b = e ∨ b = it := by simpa using hb
    rcases e' with z | z
    · rw [z]; exact ⟨_, he, fun v q => nomatch q⟩
    · rw [z]; exact ⟨o, ho, fun v q => by rw [hd] at q; cases q⟩
  keep := fun i h h' st k => let ⟨⟨old, he⟩, hi, hne⟩ := st; ⟨⟨old, k e (by simp) _ he⟩, hi.at fun o q => k it (by simp) o q, hne⟩
  item := by
    intro X hP hw hK hc i pins s σ H E I hf st hg
    subst hP hw hK
    obtain ⟨⟨old, he⟩, hit, hne⟩ := st
    obtain ⟨xs, x, hq, hx⟩ := hg
    obtain ⟨its, rv, p, hz⟩ := I.tuple hq
    obtain ⟨u, hu, ru⟩ := rv.get hx
    have hel : e < s.heap.objs.size := Heap.lt_size he
    have hil : it < s.heap.objs.size := by obtain ⟨_, q, _⟩ := hit; exact Heap.lt_size q
    have pt : s.heap.IsTuple a its.toArray := p
    have hai : a ≠ it := by
      rintro rfl
      obtain ⟨o1, e1, c1, _⟩ := pt
      obtain ⟨o2, e2, c2, _⟩ := hit
      rw [e1] at e2
      cases e2
      rw [c1] at c2
      exact absurd (Value.type.inj c2) (by decide)
    have hea : e ≠ a := by
      rintro rfl
      obtain ⟨o1, e1, c1, _⟩ := pt
      have e2 := e1.symm.trans he
      cases e2
      exact absurd (Value.type.inj c1) (by decide)
    have hil' : i < its.toArray.size := by
      have := (List.getElem?_eq_some_iff.mp hu).1
      simpa using this
    refine wpAny_pyNext_enum_itemD (Draws.tuple (prog := X.prog) (w := X.w) (A := X.A.in1) (show X.A.in1.handled = none from I.ok.hd hc) it a hai its.toArray) he ⟨hit, pt⟩ hil' hne (by simp [hne, hea]) fun x' h' tk hP ho hst hT hsz hk => ?_
    have hux : x' = u := by
      have h1 : its[i]? = some x' := by simpa using hP
      rw [hu] at h1
      exact (Option.some.inj h1).symm
    subst hux
    obtain ⟨hit', _⟩ := hst
    refine ⟨_, rfl, wpAny_letOwnedTupleGo_enum (s := { s with heap := h', toks := tk + 1 }) ho fun h'' he' sb => ?_⟩
    have hT2 : h''.get? s.heap.objs.size = some { cls := .type "tuple", data := .seq #[.int i tk, x'] } := (sb.2 _ (Nat.ne_of_gt hel)).trans hT
    have new : ObjOk X.prog X.w (upd H s.heap.objs.size (.tup [.int (i : Nat), x])) h'' s.heap.objs.size (.tup [.int (i : Nat), x]) :=
      ⟨by show 2 ≤ sizeLine; decide, [.int i tk, x'], .cons ⟨_, rfl⟩ (.cons ru .nil), ⟨_, hT2, rfl, _, rfl⟩⟩
    have I1 : Inv X pins σ (upd H s.heap.objs.size (.tup [.int (i : Nat), x])) { s with heap := h'', toks := tk + 1 } :=
      I.turnedNew (ch := [e, it]) (fun b ob hb q => (sb.2 b (fun z => hb (by simp [z]))).trans (hk b ob (fun z => hb (by simp [z])) (fun z => hb (by simp [z])) q)) hf (Nat.le_refl _) new
    refine ⟨.ref s.heap.objs.size, _, I1, rfl, ⟨_, x, rfl, I.hok.fresh (Nat.le_refl _), rfl, fun ys hy => by rw [I.tuple_inj hy hq]; exact hx⟩, ⟨⟨x', ?_⟩, hit'.at fun o q => (sb.2 it (Ne.symm hne)).trans q, hne⟩, fun b hb => ?_⟩
    · have e1 : ((i + 1 : Nat) : Int) = (i : Int) + 1 := by omega
      rw [e1]; exact he'
    · have hb' : b < s.heap.objs.size := by
        have e' : b = e ∨ b = it := by simpa using hb
        rcases e' with z | z
        · rw [z]; exact hel
        · rw [z]; exact hil
      rw [upd_ne (Nat.ne_of_lt hb')]
      exact (hf b hb).1
  done := by
    intro X hP hw hK hc i pins s σ H E I hf st hg
    subst hP hw hK
    obtain ⟨⟨old, he⟩, hit, hne⟩ := st
    obtain ⟨xs, hq, hx⟩ := hg
    obtain ⟨its, rv, p, hz⟩ := I.tuple hq
    obtain ⟨f0, f1, f2, f3, f4, f5⟩ := hf it (by simp)
    have hl := rv.length
    have hT : s.TypeIs (.ref e) "enumerate" := ⟨_, he, rfl⟩
    unfold pyNext
    refine wpAny_bind (wpAny_attempt (wpAny_callSpecial?_slot (name := Str.ofString "__next__") hT F.slot_enumerate_next
      (wpAny_call_entry F.slot_enumerate_next hT F.entry_enumerate_next ?_ (F.args_enumerate_next_1 _))))
    show wpAny _ _ (field (.ref e) 2 >>= _) _ _ _
    refine wpAny_bind (wpAny_field he rfl (x := .ref it) rfl ?_)
    refine wpAny_bind (wpAny_nextOf_tuple_end (I.ok.hd hc) hit p (by simp; omega) fun h' x he' hx' => ?_)
    obtain ⟨o, ho, hc⟩ := hx'
    refine wpAny_bind (wpAny_isInstance (T := "StopIteration") (b := true) ⟨o, ho, hc⟩ isSubtype_stop ?_)
    exact wpAny_pure ⟨rfl, I.turned (t' := s.toks) (fun b o hb q => he' b o hb q) f0 f1 f3 f4 f5⟩
  self := fun A i s Q E st h => let ⟨⟨_, he⟩, _⟩ := st; wpAny_pyIter_enum he h
def iEnumT (K : PySem.W.Frag) (ta : TA) : TI := fun σ H R => ta σ H fun vs H1 => ∃ a xs, vs = [.ref a] ∧ SqT K H1 a xs ∧ R (IteT K a) H1
theorem pi_enumT {X : Cx} {e : Expr} {ta : TA} {p pos tpos : Pos} {elts : List Expr} {kk : Nat} (hg : Gl X "enumerate") (hm : X.mg "enumerate" = none) (ha : PA X [e] ta) (hs : starEach [e] X.env = [(false, eval e X.env)] := by rfl) :
    PI X (.Tuple elts kk tpos) (.Call (.Name "enumerate" p) [e] [] pos) (iEnumT X.K ta) := by
  refine ⟨fun pins s σ H R I h => ?_⟩
  refine Call_ (ld_blt I hg hm boot_enumerate (PyProof.Rows.callWith_type1 (thn (ha.run pos pins s σ H _ I h) fun us s1 ⟨vs, H1, I1, r1, q1⟩ => ?_) hs rfl))
  obtain ⟨a, xs, ex, hq, q⟩ := q1
  subst ex
  cases r1 with
  | cons r rr =>
    cases rr
    cases r
    obtain ⟨its, rv, p', hz⟩ := I1.tuple hq
    refine call_enumT p' fun h' he hit hsz hk => wpAny_pyIter_enum he ?_
    have I2 : Inv X pins σ H1 { s1 with heap := h' } := I1.kept (t' := s1.toks) hk
    refine ⟨s1.heap.objs.size + 1, [s1.heap.objs.size + 1, s1.heap.objs.size], _, _, H1, rfl, I2, turn_enumT a (s1.heap.objs.size + 1) s1.heap.objs.size, ⟨⟨.none, he⟩, hit, Nat.succ_ne_self _⟩, fun b hb => ?_, q⟩
    have e' : b = s1.heap.objs.size + 1 ∨ b = s1.heap.objs.size := by simpa using hb
    have hle : s1.heap.objs.size ≤ b := by
      rcases e' with z | z
      · rw [z]; exact Nat.le_add_right _ _
      · rw [z]; exact Nat.le_refl _
    exact I1.fpOk hle (I1.hok.fresh hle)
theorem walk_enumT {K : PySem.W.Frag} {a : Addr} {xs : List V} : Walk (IteT K a) xs.length (fun H => SqT K H a xs) (YPair (fun i => some (.int (i : Nat))) (fun i => xs[i]?)) := by
  refine ⟨fun i _ hi q => ⟨xs, xs[i], q, by simp [hi]⟩, fun _ q => ⟨xs, q, Nat.le_refl _⟩, fun i H v H' _ q y => ?_⟩
  obtain ⟨T, x, h1, h2, h3, h4⟩ := y
  exact ⟨T, .int (i : Nat), x, h1, h2, h3, rfl, h4 xs q⟩
section
variable {J : It} {n : Nat} {G : Hp → Prop} {Y : Nat → Hp → V → Hp → Prop}
/-- [e for x in .. if ..]: just those that are let by -/
theorem lc_filtW (w : Walk J n G Y) {g : TG} {tt : TT} {te : TE} {vs : List Nat} {σ : L2.St} {H1 : Hp} {D : Addr} {Qd : Hp → Prop} (t : Nat → Bool) (R : Nat → V → Hp → Prop) (mono : ∀ i v H H', Same H H' → R i v H → R i v H')
    (hD : H1 D = none) (hS : ∀ H, Same H1 H → G H) (hz : n ≤ 1000)
    (hs : ∀ (i : Nat) x H H' (kt : V → Hp → Prop) (kf : Hp → Prop), i < n → Same H1 (hid D H) → (∃ ys, H D = some (.lst ys)) → Y i H x H' → (t i = true → ∀ y H4, Same H H4 → R i y (hid D H4) → kt y H4) → (t i = false → ∀ H4, Same H H4 → kf H4) →
      g x (wipe σ vs) H' fun σ2 H2 => wipe σ2 vs = wipe σ vs ∧ tt σ2 H2 fun b H3 => if b = true then te σ2 H3 kt else kf H3)
    (hd : ∀ H ys, Same H1 (hid D H) → H D = some (.lst ys) → AllAre (fun y i => R i y (hid D H)) ys ((List.range n).filter t) → Qd H) :
    ∃ W : Nat → Nat → Hp → Prop, (∃ m, W 0 m (upd H1 D (.lst []))) ∧ ∀ i m H, W i m H →
      (J.stop i H ∧ Qd H) ∨ (J.go i H ∧ ∃ Nx : Hp → Prop, (∀ H', Nx H' → ∃ m', m' < m ∧ W (i + 1) m' H') ∧ ∀ x H', J.yld i H x H' → g x (wipe σ vs) H' fun σ2 H2 => wipe σ2 vs = wipe σ vs ∧ tt σ2 H2 fun b H3 =>
        if b = true then te σ2 H3 fun y H4 => ∃ acc, H4 D = some (.lst acc) ∧ acc.length < sizeLine ∧ Nx (upd H4 D (.lst (acc ++ [y]))) else Nx H3) := by
  refine lc_it w (fun i H => ∃ ys, Same H1 (hid D H) ∧ H D = some (.lst ys) ∧ AllAre (fun y j => R j y (hid D H)) ys ((List.range i).filter t)) ⟨[], ?_, upd_same, .nil⟩ (fun i H _ h => ?_) (fun i x H H' hi h y => ?_) (fun H h => ?_)
  · intro b o e
    rw [hid_ne (ne_of_none e hD), upd_ne (ne_of_none e hD)]
    exact e
  · obtain ⟨ys, s, _⟩ := h
    exact hS H (s.trans hid_same)
  · obtain ⟨ys, s, e, a⟩ := h
    refine hs i x H H' (fun y H4 => ∃ acc, H4 D = some (.lst acc) ∧ acc.length < sizeLine ∧ ∃ ys, Same H1 (hid D (upd H4 D (.lst (acc ++ [y])))) ∧ (upd H4 D (.lst (acc ++ [y]))) D = some (.lst ys) ∧ AllAre (fun y' j => R j y' (hid D (upd H4 D (.lst (acc ++ [y]))))) ys ((List.range (i + 1)).filter t)) (fun H3 => ∃ ys, Same H1 (hid D H3) ∧ H3 D = some (.lst ys) ∧ AllAre (fun y j => R j y (hid D H3)) ys ((List.range (i + 1)).filter t)) hi s ⟨_, e⟩ y (fun ht y H4 s4 r4 => ?_) (fun hf H4 s4 => ?_)
    · have ll : ys.length < 1000 := by
        have h1 := a.1
        have h2 := List.length_filter_le t (List.range i)
        rw [List.length_range] at h2
        omega
      refine ⟨ys, s4 _ _ e, small1000 (by omega), ys ++ [y], ?_, upd_same, ?_⟩
      · rw [hid_upd]
        exact s.trans (hid_mono s4)
      · rw [hid_upd, List.range_succ, List.filter_append, List.filter_cons_of_pos ht, List.filter_nil]
        exact AllAre.snoc (a.imp fun _ _ r => mono _ _ _ _ (hid_mono s4) r) r4
    · refine ⟨ys, s.trans (hid_mono s4), s4 _ _ e, ?_⟩
      rw [List.range_succ, List.filter_append, List.filter_cons_of_neg (by rw [hf]; exact Bool.false_ne_true), List.filter_nil, List.append_nil]
      exact a.imp fun _ _ r => mono _ _ _ _ (hid_mono s4) r
  · obtain ⟨ys, s, e, a⟩ := h
    exact hd H ys s e a
end
end Fb
namespace Fb
open PySem PySem.Spec PyProof.Rows L2
/-- what the clauses wish of an exception of the body, one after the other; a clause may name the exception (slot i) -/
def wManyN (K : PySem.W.Frag) (Wout : WX) (D : Ends) : List (Value × Option Nat × (Addr → Value → Option Addr → L2.TS)) → WX
  | [] => Wout
  | (c, none, ts) :: r => fun cls d σ H => ∃ b, PySem.W.exmOne K cls c = some b ∧ (b = true → ∀ a, H a = none → ts a cls d D σ H) ∧ (b = false → wManyN K Wout D r cls d σ H)
  | (c, some i, ts) :: r => fun cls d σ H => ∃ b, PySem.W.exmOne K cls c = some b ∧
    (b = true → ∀ a, H a = none → ts a cls d { nx := fun σ' H' => D.nx (σ'.set i none) H', rt := D.rt, bk := fun σ' H' => D.bk (σ'.set i none) H', ct := fun σ' H' => D.ct (σ'.set i none) H' } (σ.set i (some (.ref a))) H) ∧ (b = false → wManyN K Wout D r cls d σ H)
inductive HdsN (X : Cx) : List ExceptHandler → List (Value × Option Nat × (Addr → Value → Option Addr → L2.TS)) → Prop
  | nil : HdsN X [] []
  | cons {x : Str} {c : Value} {ts : Addr → Value → Option Addr → L2.TS} {b₀ : Stmt} {suite : List Stmt} {np pos' : Pos} {hds : List ExceptHandler} {l : List (Value × Option Nat × (Addr → Value → Option Addr → L2.TS))} (hc : Names X x c)
      (hsu : ∀ (a : Addr) (oe : Obj) (cls : Value) (d : Option Addr) (pn : List (Addr × Obj)), Zc cls d oe → (∃ vs, oe.data = .fields vs) → PSs (X.suite a ((a, oe) :: pn)) (b₀ :: suite) (ts a cls d)) (r : HdsN X hds l) :
      HdsN X (.ExceptHandler (some (.Name x np)) none (b₀ :: suite) pos' :: hds) ((c, none, ts) :: l)
  | as {x n : Str} {i : Nat} {c : Value} {ts : Addr → Value → Option Addr → L2.TS} {b₀ : Stmt} {suite : List Stmt} {np pos' : Pos} {hds : List ExceptHandler} {l : List (Value × Option Nat × (Addr → Value → Option Addr → L2.TS))} (hi : X.N[i]? = some n) (hln : X.env.kindOf n = some .local) (hc : Names X x c)
      (hsu : ∀ (a : Addr) (oe : Obj) (cls : Value) (d : Option Addr) (pn : List (Addr × Obj)), Zc cls d oe → (∃ vs, oe.data = .fields vs) → PSs (X.suite a ((a, oe) :: pn)) (b₀ :: suite) (ts a cls d)) (r : HdsN X hds l) :
      HdsN X (.ExceptHandler (some (.Name x np)) (some n) (b₀ :: suite) pos' :: hds) ((c, some i, ts) :: l)
section
variable {X : Cx} {body : List Stmt} {h₀ : ExceptHandler} {hds : List ExceptHandler} {l : List (Value × Option Nat × (Addr → Value → Option Addr → L2.TS))} {pos : Pos} {tb : WX → L2.TS} {Wout : WX}
theorem ps_try_manyN (hs : X.stack = X.env :: X.outer) (hf : X.env.frame = some X.env.locals) (hN : X.N.Nodup) (tk : Takes X Wout)
    (hb : ∀ (W : WX) (pn : List (Addr × Obj)) (xe : Value → Shared → Prop), Takes (X.tr pn xe) W → PassesOwn (model X.prog X.w) X.A X.env xe → PSs (X.tr pn xe) body (tb W))
    (hh : HdsN X (h₀ :: hds) l) : PS X (.Try body (h₀ :: hds) [] [] pos) (fun D σ H => tb (wManyN X.K Wout D l) D σ H) := by
  refine ⟨fun pins s σ H D I h => ?_⟩
  have ok := I.ok
  have hfr : X.A.frames = some (X.env :: X.outer) := by rw [ok.frames, hs]
  refine wpAny_Try_except ?_
  refine wpAny_mono ((hb (wManyN X.K Wout D l) (X.pn ++ pins) (fun e s₁ => wpAny (model X.prog X.w) X.A (noteFrame e X.env) (fun _ s₂ => wpAny (model X.prog X.w) X.A (setFlight e none) (fun _ s₃ =>
    wpAny (model X.prog X.w) X.A (handleBy e X.env (h₀ :: hds)) (SP X pins D) X.xe s₃) X.xe s₂) X.xe s₁) (fun u s' xx => ?_) PassesOwn.looking).run [] s σ H D (I.toTry _) h) (fun f s1 hsp => ?_) (fun e s1 he => he)
  · obtain ⟨a, B, sI, pins', σ', H', cls, d, rfl, J', nb, up, sky, na, os, ag, w⟩ := xx
    have J : Inv X pins σ' H' sI := J'.ofTry ok
    have sky' : Sky B (X.env :: X.outer) a (Zc cls d) X.env.locals s'.heap := by rw [← hs]; exact sky
    show wpAny (model X.prog X.w) X.A (noteFrame (.ref a) X.env) _ _ _
    refine Sky.land Zc.steady hfr hf sky' fun h3 fl3 up3 => ?_
    have J3 : Inv X pins σ' H' { s' with heap := h3 } := J.landed nb fl3.1 (up.trans up3) os ag
    obtain ⟨oe3, vs3, he3, hz3, hd3⟩ := fl3.there
    have nfr : a ∉ frs (X.env :: X.outer) := fun hm => by
      obtain ⟨_, o', e', hnf⟩ := fl3.2.2.1.mem hm
      rw [he3] at e'
      cases e'
      exact hnf _ hd3
    have nL : a ≠ X.env.locals := fun z => nfr (List.mem_filterMap.mpr ⟨X.env, List.mem_cons_self, by rw [hf, z]⟩)
    have nF : a ∉ X.fs := fun hm => by
      obtain ⟨e, he, q⟩ := List.mem_filterMap.mp hm
      exact nfr (List.mem_filterMap.mpr ⟨e, List.mem_cons_of_mem _ he, q⟩)
    have S3 := J3.suite he3 hd3 na nL nF
    have LT : PySem.W.Looks (model X.prog X.w) h3 (typeOf (.ref a)) cls := fun A Q E s k q => wpAny_typeOf_ref (k _ _ he3) (by rw [hz3.1]; exact q)
    have test : ∀ {x : Str} {c : Value} {np : Pos} {Q : Value → Shared → Prop} {E : Value → Shared → Prop}, Names X x c → Q c { s' with heap := h3 } → wpAny (model X.prog X.w) (X.A.mark (some (.ref a))) (eval (.Name x np) X.env) Q E { s' with heap := h3 } := fun {x c np Q E} hc q => by
      obtain ⟨hg, hdbg, hm | ⟨hm, hv, hnn⟩⟩ := hc
      · exact ld_glob (X := X.suite a ((a, oe3) :: (X.pn ++ pins))) S3 hg hm q hdbg
      · exact ld_blt (X := X.suite a ((a, oe3) :: (X.pn ++ pins))) S3 hg hm hv q hnn hdbg
    have go : ∀ {hds' : List ExceptHandler} {l' : List (Value × Option Nat × (Addr → Value → Option Addr → L2.TS))}, HdsN X hds' l' → wManyN X.K Wout D l' cls d σ' H' →
        wpAny (model X.prog X.w) X.A (handleBy (.ref a) X.env hds') (SP X pins D) X.xe { s' with heap := h3 } := by
      intro hds' l' hk
      induction hk with
      | nil =>
        intro w
        refine wpAny_handleBy_nil ?_
        obtain ⟨k1, k2, k3, oe, vs, T, oT, ts', he, hz, hd, h1, hr⟩ := id fl3
        unfold PySem.passOn
        refine wpAny_bind (wpAny_field he hd h1 ?_)
        rw [if_neg (show ¬ ((Value.ref T == Value.none) = true) from by simp)]
        have fin : wpAny (model X.prog X.w) X.A (setFlight (.ref a) X.env.frame) (fun _ s4 => wpAny (model X.prog X.w) X.A (throw (.ref a) : Sem Flow) (SP X pins D) X.xe s4) X.xe { s' with heap := h3 } := by
          rw [hf]
          refine HandSPX.setFlight_upZ fl3 fun h4 hh4 up4 => wpAny_throw (tk _ _ ?_)
          exact ⟨a, B, sI, pins, σ', H', cls, d, rfl, J, nb, (up.trans up3).trans up4, .inr (.inr (by rw [hs]; exact hh4)), na, os, ag, w⟩
        first
          | exact wpAny_bind (wpAny_pure (wpAny_bind fin))
          | exact wpAny_bind fin
      | @cons x c ts b₀ suite np pos' hds2 l2 hc hsu r ih =>
        intro w
        obtain ⟨b, hb1, hyes, hno⟩ := w
        refine wpAny_handleBy_cons (codeAny_handlers_test ?_) (by intro q; cases q)
        have LM := PySem.W.exm_one (M := model X.prog X.w) (J3.kIn) LT hb1
        refine test hc (LM.here ?_)
        cases b with
        | true =>
          refine codeAny_handlers_suite ?_
          refine HandSPX.lands_againZ fl3 fun h4 fl4 up4 => ?_
          have J4 : Inv X pins σ' H' { s' with heap := h4 } := J.landed nb fl4.1 ((up.trans up3).trans up4) os ag
          obtain ⟨oe4, vs4, he4, hz4, hd4⟩ := fl4.there
          have S4 := J4.suite he4 hd4 na nL nF
          refine wpAny_mono ((hsu a oe4 cls d (X.pn ++ pins) hz4 ⟨_, hd4⟩).run [] _ _ H' _ S4 (hyes rfl a na)) (fun f s6 hsp => ?_) (fun _ _ z => False.elim z)
          cases f with
          | next =>
            obtain ⟨σ6, H6, S6, q6⟩ := hsp
            exact ⟨_, _, S6.unsuite ok, q6⟩
          | brk =>
            obtain ⟨σ6, H6, S6, q6⟩ := hsp
            exact ⟨_, _, S6.unsuite ok, q6⟩
          | cont =>
            obtain ⟨σ6, H6, S6, q6⟩ := hsp
            exact ⟨_, _, S6.unsuite ok, q6⟩
          | ret u =>
            obtain ⟨v6, σ6, H6, S6, r6, q6⟩ := hsp
            exact ⟨_, _, _, S6.unsuite ok, r6, q6⟩
        | false =>
          show wpAny _ X.A (handleBy (.ref a) X.env hds2) _ _ _
          exact ih (hno rfl)
      | @as x n i c ts b₀ suite np pos' hds2 l2 hi hln hc hsu r ih =>
        intro w
        obtain ⟨b, hb1, hyes, hno⟩ := w
        refine wpAny_handleBy_cons (codeAny_handlers_test ?_) (by intro q; cases q)
        have LM := PySem.W.exm_one (M := model X.prog X.w) (J3.kIn) LT hb1
        refine test hc (LM.here ?_)
        cases b with
        | true =>
          refine codeAny_handlers_suite_as ?_
          refine HandSPX.lands_againZ fl3 fun h4 fl4 up4 => ?_
          have J4 : Inv X pins σ' H' { s' with heap := h4 } := J.landed nb fl4.1 ((up.trans up3).trans up4) os ag
          obtain ⟨oe4, vs4, he4, hz4, hd4⟩ := fl4.there
          have S4 := J4.suite he4 hd4 na nL nF
          refine store_ok (X := X.suite a ((a, oe4) :: (X.pn ++ pins))) (v := .ref a) S4 hN hi (.inl hln) rfl (fun s5 S5 => ?_) (.inr hln)
          refine wpAny_mono ((hsu a oe4 cls d (X.pn ++ pins) hz4 ⟨_, hd4⟩).run [] s5 _ H' _ S5 (hyes rfl a na)) (fun f s6 hsp => ?_) (fun _ _ z => False.elim z)
          have end_ : ∀ {σ6 : L2.St} {H6 : Hp} {Q : Shared → Prop}, Inv (X.suite a ((a, oe4) :: (X.pn ++ pins))) [] σ6 H6 s6 → (∀ s7, Inv X pins (σ6.set i none) H6 s7 → Q s7) →
              wpAny (model X.prog X.w) X.A (do bindName X.env n .none; unbindBehindTheSuite X.env n pos') (fun _ s7 => Q s7) X.xe s6 := fun {σ6 H6 Q} S6 hq => gone_ok (S6.unsuite ok) hN hi hln hq
          cases f with
          | next =>
            obtain ⟨σ6, H6, S6, q6⟩ := hsp
            exact end_ S6 fun s7 J7 => ⟨_, _, J7, q6⟩
          | brk =>
            obtain ⟨σ6, H6, S6, q6⟩ := hsp
            exact end_ S6 fun s7 J7 => ⟨_, _, J7, q6⟩
          | cont =>
            obtain ⟨σ6, H6, S6, q6⟩ := hsp
            exact end_ S6 fun s7 J7 => ⟨_, _, J7, q6⟩
          | ret u =>
            obtain ⟨v6, σ6, H6, S6, r6, q6⟩ := hsp
            exact end_ S6 fun s7 J7 => ⟨_, _, _, J7, r6, q6⟩
        | false =>
          show wpAny _ X.A (handleBy (.ref a) X.env hds2) _ _ _
          exact ih (hno rfl)
    exact go hh w
  · cases f with
    | next =>
      obtain ⟨σ', H', J', q⟩ := hsp
      exact wpAny_execs_nil ⟨σ', H', J'.ofTry ok, q⟩
    | brk =>
      obtain ⟨σ', H', J', q⟩ := hsp
      exact ⟨σ', H', J'.ofTry ok, q⟩
    | cont =>
      obtain ⟨σ', H', J', q⟩ := hsp
      exact ⟨σ', H', J'.ofTry ok, q⟩
    | ret u =>
      obtain ⟨v, σ', H', J', r, q⟩ := hsp
      exact ⟨v, σ', H', J'.ofTry ok, r, q⟩
end
end Fb
namespace Fb
open PySem PySem.Spec PyProof.Rows L2
section
variable {prog : Program} {w : World} {A : Around} {E : Value → Shared → Prop} {s : Shared} {l : Addr} {xs : Array (Int × Tok)}
theorem sum_intTup {Q : Value → Shared → Prop} (hh : A.handled = none) (hl : s.heap.IsTuple l (intItems xs))
    (h : ∀ h' tk t', (∀ b o, s.heap.get? b = some o → h'.get? b = some o) → Q (.int (preSum (numAt xs) xs.size) t') { s with heap := h', toks := tk }) :
    wpAny (model prog w) A (call (.builtin "sum") [.ref l]) Q E s := by
  have hlt : l < s.heap.objs.size := by obtain ⟨_, e, _⟩ := hl; exact Heap.lt_size e
  refine call_sum_walkG (wpAny_pyIter_tuple hl ?_)
  refine ⟨_, _, _, _, _, _, numAt xs, rfl, Walks.tuple (A := A.in1) hh _ l (Nat.ne_of_lt hlt) (intItems xs), ⟨⟨_, Heap.get?_push_size _ rfl, rfl, rfl⟩, hl.push _⟩, fun b hb => ?_, (fun _ _ => intItems_at), fun h' tk t' hk => ?_⟩
  · show b < (s.heap.push _).objs.size
    rw [Heap.size_push]
    rcases List.mem_cons.mp hb with rfl | hb
    · exact Nat.lt_succ_self _
    · rw [List.mem_singleton.mp hb]
      exact Nat.lt_succ_of_lt hlt
  · have := h h' tk t' fun b o e => hk b o (fun hb => absurd (Heap.lt_size e) ((List.mem_singleton.mp hb) ▸ Nat.lt_irrefl _)) (Heap.get?_push_of_some _ e)
    simpa [intItems] using this
end
def rSumT (K : PySem.W.Frag) : List V → Hp → VK → Prop := fun vs H Q => ∃ (a : Addr) (ns : List Int), vs = [V.ref a] ∧ SqT K H a (ns.map V.int) ∧ Q (.int ns.sum) H
theorem cr_sumT {X : Cx} (hc : X.calm = true) : CallR X (.builtin "sum") (rSumT X.K) := by
  intro pins s σ H vs us Q I r h
  obtain ⟨a, ns, rfl, hs, q⟩ := h
  obtain ⟨its, rv, hl, _⟩ := I.tuple hs
  rw [Vals.ref1 r]
  have hi := rv.ints
  obtain ⟨xs, e⟩ := hi.allInts.items
  have hn : numsOf (intItems xs).toList = ns := by rw [← e]; exact hi.numsOf
  rw [nums_intItems] at hn
  have hl' : s.heap.IsTuple a (intItems xs) := by rw [← e]; exact hl
  refine sum_intTup (I.ok.hd hc) hl' fun h' tk t' hk => ?_
  rw [preSum_eq, List.take_of_length_le (by simp), hn]
  exact ⟨.int _, H, I.kept hk, ⟨_, rfl⟩, q⟩
theorem cr_sumTK {X : Cx} {K : PySem.W.Frag} (hK : X.K = K) (hc : X.calm = true) : CallR X (.builtin "sum") (rSumT K) := hK ▸ cr_sumT hc
end Fb
namespace Fb
open PySem PySem.Spec PyProof.Rows L2
def SqK (K : PySem.W.Frag) (a : Addr) (xs : List V) : Prop := ∃ (o : Obj) (its : Array Value) (n : Nat), K.lookup a = some o ∧ o.cls = .type "tuple" ∧ o.data = .seq its n ∧ its.size ≤ sizeLine ∧ Vals xs its.toList
theorem SqK.sq {K : PySem.W.Frag} {a : Addr} {xs : List V} {H : Hp} (h : SqK K a xs) : SqT K H a xs := .inr h
theorem cut_tok (xs : List V) (k : Nat) : cutV xs none (some (k : Int)) = xs.take k := by
  unfold cutV
  rw [HT.sIx_none, HT.sIx_nat, List.drop_zero, Nat.sub_zero]
  by_cases h : k ≤ xs.length
  · rw [Nat.min_eq_left h]
  · rw [Nat.min_eq_right (by omega), List.take_of_length_le (Nat.le_refl _), List.take_of_length_le (by omega)]
end Fb
namespace Fb
open PySem PySem.Spec PyProof.Rows L2
section
variable {P : Program} {w : World}
/-- v is a tuple of the room and the sign of k -/
def PairIn (P : Program) (w : World) (h : Heap) (v : Value) (k : RS) : Prop :=
  ∃ (t : Addr) (o : Obj) (n : Nat) (t1 t2 : Tok), v = .ref t ∧ h.get? t = some o ∧ o.cls = .type "tuple" ∧ o.data = .seq #[.int k.1 t1, .str k.2 t2] n
theorem PairIn.keeps {h h' : Heap} {v : Value} {k : RS} (x : PairIn P w h v k) (kp : ∀ b o, h.get? b = some o → o.cls = .type "tuple" → h'.get? b = some o) : PairIn P w h' v k := by
  obtain ⟨t, o, n, t1, t2, e, ho, hc, hd⟩ := x
  exact ⟨t, o, n, t1, t2, e, kp _ _ ho hc, hc, hd⟩
end
end Fb
namespace Fb
open PySem PySem.Spec PyProof.Rows L2
/-- a list or a tuple -/
inductive Src where
  | l
  | t
def Src.has (k : Src) (h : Heap) (a : Addr) (xs : Array Value) : Prop := match k with
  | .l => h.IsList a xs
  | .t => h.IsTuple a xs
def Src.sq (k : Src) (K : PySem.W.Frag) (H : Hp) (a : Addr) (xs : List V) : Prop := match k with
  | .l => SqL K H a xs
  | .t => SqT K H a xs
abbrev Src.nm (k : Src) : String := match k with
  | .l => "list_iterator"
  | .t => "tuple_iterator"
theorem Src.get {X : Cx} {k : Src} {pins : List (Addr × Obj)} {σ : L2.St} {H : Hp} {s : Shared} (I : Inv X pins σ H s) {a : Addr} {xs : List V} (h : k.sq X.K H a xs) : ∃ its : List Value, Vals xs its ∧ k.has s.heap a its.toArray ∧ a < s.heap.objs.size := by
  cases k
  · obtain ⟨its, rv, p, _⟩ := I.list h
    exact ⟨its, rv, p.isList, p.lt⟩
  · obtain ⟨its, rv, p, _⟩ := I.tuple h
    obtain ⟨o, ho, _⟩ := id p
    exact ⟨its, rv, p, Heap.lt_size ho⟩
theorem Src.inj {X : Cx} {k : Src} {pins : List (Addr × Obj)} {σ : L2.St} {H : Hp} {s : Shared} (I : Inv X pins σ H s) {a : Addr} {xs ys : List V} (h : k.sq X.K H a xs) (h' : k.sq X.K H a ys) : xs = ys := by
  cases k
  · exact I.list_inj h h'
  · exact I.tuple_inj h h'
end Fb
namespace Fb
open PySem PySem.Spec PyProof.Rows L2
theorem frz_ne {H : Hp} {d b : Addr} {u o x : HO} (h : H d = some u) (e : H b = some x) (n : x ≠ u) : (upd H d o) b = some x := by
  rw [upd_ne fun z => n (by rw [z, h] at e; cases e; rfl)]
  exact e
end Fb
namespace Fb
open PySem PySem.Spec PyProof.Rows L2
abbrev tK (P : Program) (w : World) := PySem.strKind P w
def txtOf (e : Int × Value) : Str := match e.2 with
  | .str x _ => x
  | _ => ""
def TxtE (P : Program) (w : World) (e : Int × Value) : Prop := ∃ x t, e.2 = Value.str x t ∧ e.1 = (tK P w).hash x
/-- entries and a table that hold the texts L -/
structure TTab (P : Program) (w : World) (es : Array (Int × Value)) (t : SetTable) (L : List Str) : Prop where
  all : ∀ e ∈ es.toList, TxtE P w e
  perm : L.Perm (es.toList.map txtOf)
  once : L.Nodup
  room : es.size < scanBound
  fits : t.fits es.size = true
  ris : Ris t.place.toList
  led : w.params.followText "set-order" = true ∨ t.led = true
def TSet (P : Program) (w : World) (h : Heap) (a : Addr) (L : List Str) : Prop := ∃ o es ep t, h.get? a = some o ∧ o.ExactSet ∧ o.data = .set es ep t ∧ TTab P w es t L
section
variable {P : Program} {w : World} {A : Around} {E : Value → Shared → Prop} {s : Shared} {a : Addr} {L : List Str}
theorem TxtE.is {e : Int × Value} (h : TxtE P w e) (x : Str) : (tK P w).is x e.2 = true ↔ txtOf e = x := by
  obtain ⟨y, t, h1, _⟩ := h
  unfold txtOf
  rw [h1]
  show Value.isStrOf x (.str y t) = true ↔ y = x
  simp [Value.isStrOf]
theorem TTab.elems {es : Array (Int × Value)} {t : SetTable} (T : TTab P w es t L) : ElemsOf (tK P w) es.toList := fun e he => by
  obtain ⟨x, tk, h1, h2⟩ := T.all e he
  exact ⟨⟨x, by rw [h1]; show Value.isStrOf x (.str x tk) = true; simp [Value.isStrOf], h2⟩, by rw [h1]; rfl⟩
theorem TTab.mem {es : Array (Int × Value)} {t : SetTable} (T : TTab P w es t L) (x : Str) : x ∈ L ↔ ∃ e ∈ es.toList, (tK P w).is x e.2 = true := by
  rw [T.perm.mem_iff, List.mem_map]
  exact ⟨fun ⟨e, he, q⟩ => ⟨e, he, ((T.all e he).is x).2 q⟩, fun ⟨e, he, q⟩ => ⟨e, he, ((T.all e he).is x).1 q⟩⟩
theorem TTab.len {es : Array (Int × Value)} {t : SetTable} (T : TTab P w es t L) : L.length = es.size := by rw [T.perm.length_eq, List.length_map, Array.length_toList]
/-- storing what was laid -/
theorem tset_store {g : Bool → Sem Unit} (hg : ∀ (b : Bool) (s₁ : Shared) (Q' : Unit → Shared → Prop), Q' () s₁ → wpAny (model P w) A (g b) Q' E s₁) {o : Obj} {es es1 : Array (Int × Value)} {ep : Nat} {t t1 : SetTable} {L1 : List Str} (ho : s.heap.get? a = some o) (hex : o.ExactSet) (hd : o.data = .set es ep t) (T : TTab P w es1 t1 L1)
    {dummy : Bool} {R : Option Bool → Shared → Prop} (hR : ∀ h', Heap.SameBut a s.heap h' → TSet P w h' a L1 → R (some true) { s with heap := h' }) :
    wpAny (model P w) A (do
        storeSet a es1 t1
        if (!dummy && t1.tooFull) = true then do
            g (relayAll t1 es1 (SetTable.grown es1.size)).2.2
            storeSet a (relayAll t1 es1 (SetTable.grown es1.size)).1 (relayAll t1 es1 (SetTable.grown es1.size)).2.1
            pure (some true)
          else pure (some true)) R E s := by
  have one := store_at (es' := es1) (t' := t1) ho hd
  have sb := Heap.SameBut.update s.heap a (Obj.putSet es1 t1)
  refine wpAny_bind (wpAny_storeSet_of ho hd ?_ (fits_of_scanBound T.room))
  by_cases full : (!dummy && t1.tooFull) = true
  · rw [if_pos full]
    have T2 : TTab P w (relayAll t1 es1 (SetTable.grown es1.size)).1 (relayAll t1 es1 (SetTable.grown es1.size)).2.1 L1 := by
      have pm := relayAll_perm t1 es1 (SetTable.grown es1.size)
      have sz : (relayAll t1 es1 (SetTable.grown es1.size)).1.size = es1.size := by rw [← Array.length_toList, pm.length_eq, Array.length_toList]
      exact ⟨fun e he => T.all e (pm.mem_iff.mp he), T.perm.trans (pm.map txtOf).symm, T.once, by rw [sz]; exact T.room, relayAll_fits t1 es1 (SetTable.grown es1.size), relayAll_ris t1 es1 (SetTable.grown es1.size), T.led.imp id fun z => by rw [relayAll_led]; exact z⟩
    refine wpAny_bind (hg _ _ _ (wpAny_bind (wpAny_storeSet_of one rfl ?_ (fits_of_scanBound T2.room))))
    exact wpAny_pure (hR _ (sb.trans (Heap.SameBut.update _ a _)) ⟨_, _, _, _, store_at one rfl, hex, rfl, T2⟩)
  · rw [if_neg full]
    exact wpAny_pure (hR _ sb ⟨_, es1, _, t1, one, hex, rfl, T⟩)
/-- one more -/
def plusT (L : List Str) (x : Str) : List Str := if x ∈ L then L else x :: L
theorem tset_hashed {x : Str} {tk : Tok} {Q : Bool → Shared → Prop} (R : TSet P w s.heap a L) (few : L.length + 1 < scanBound) (hQ : ∀ b h', Heap.SameBut a s.heap h' → TSet P w h' a (plusT L x) → Q b { s with heap := h' }) :
    wpAny (model P w) A (setAddHashed a (.str x tk) ((tK P w).hash x)) Q E s := by
  obtain ⟨o, es, ep, t, ho, hex, hd, T⟩ := R
  have key : (tK P w).is x (.str x tk) = true := by show Value.isStrOf x (.str x tk) = true; simp [Value.isStrOf]
  have sc : (Value.str x tk).scannable = true := rfl
  unfold setAddHashed setAddHashedIn
  refine wpAny_holding (wpAny_bind (wpAny_setState_of ho hd T.fits ?_))
  dsimp only
  rw [byScan_of sc T.room T.elems, if_pos rfl]
  unfold setAddByScan
  refine wpAny_bind (wpAny_bind (wpAny_rule (wpAny_bind (wpAny_setScan_of key ho hd T.fits T.elems ?_))))
  cases at_ : List.findIdx? (fun e => (tK P w).is x e.2) es.toList with
  | some j =>
    obtain ⟨hj, pj, _⟩ := List.findIdx?_eq_some_iff_getElem.mp at_
    have mem : x ∈ L := (T.mem x).2 ⟨_, List.getElem_mem hj, pj⟩
    have q := hQ false s.heap (Heap.SameBut.refl a s.heap) (by unfold plusT; rw [if_pos mem]; exact ⟨o, es, ep, t, ho, hex, hd, T⟩)
    exact wpAny_pure (wpAny_pure q)
  | none =>
    have new : x ∉ L := fun z => by
      obtain ⟨e, he, q⟩ := (T.mem x).1 z
      have c := List.findIdx?_eq_none_iff.mp at_ e he
      rw [q] at c
      cases c
    have pm := layNew_perm t es ((tK P w).hash x) (.str x tk)
    have lf := layNew_fits t es ((tK P w).hash x) (.str x tk)
    have lr := layNew_ris t es ((tK P w).hash x) (.str x tk) T.ris
    have ll := layNew_led t es ((tK P w).hash x) (.str x tk)
    dsimp only
    generalize layNew t es ((tK P w).hash x) (.str x tk) = Z at pm lf lr ll ⊢
    obtain ⟨es1, t1, dummy, gave⟩ := Z
    dsimp only at pm lf lr ll ⊢
    rw [Array.toList_push] at pm
    have pc : es1.toList.Perm (((tK P w).hash x, Value.str x tk) :: es.toList) := pm.trans (List.perm_append_singleton _ _)
    have sz : es1.size = L.length + 1 := by rw [← Array.length_toList, pc.length_eq, List.length_cons, Array.length_toList, T.len]
    have T1 : ∀ t2 : SetTable, t2.fits es1.size = true → Ris t2.place.toList → t2.led = t1.led → TTab P w es1 t2 (plusT L x) := fun t2 f2 r2 l2 => by
      unfold plusT
      rw [if_neg new]
      refine ⟨fun e he => ?_, ?_, List.nodup_cons.mpr ⟨new, T.once⟩, by rw [sz]; exact few, f2, r2, T.led.imp id fun z => by rw [l2, ll]; exact z⟩
      · rcases List.mem_cons.mp (pc.mem_iff.mp he) with rfl | h
        · exact ⟨x, tk, rfl, rfl⟩
        · exact T.all e h
      · exact (List.Perm.cons x T.perm).trans (pc.map txtOf).symm
    have gone : ∀ (b : Bool) (s₁ : Shared) (Q' : Unit → Shared → Prop), Q' () s₁ → wpAny (model P w) A (match b with | true => rule "set.scan.the-table-gave-way" | false => pure ()) Q' E s₁ :=
      fun b s₁ Q' q => by cases b <;> first | exact wpAny_pure q | exact wpAny_rule q
    refine wpAny_bind (gone _ _ _ ?_)
    split
    · refine wpAny_bind ?_
      rw [hashByValue_scannable 8 sc]
      refine wpAny_pure ?_
      refine tset_store ?_ ho hex hd (T1 _ ?_ ?_ ?_) fun h' sb r => ?_
      · intro b s₁ Q' q
        cases b <;> first | exact wpAny_pure q | exact wpAny_rule q
      · first | (split <;> first | exact lf | exact SetTable.fits_plain_off lf) | exact lf
      · first | (split <;> exact lr) | exact lr
      · first | (split <;> rfl) | rfl
      · exact wpAny_pure (hQ true h' sb r)
    · refine wpAny_bind (wpAny_pure ?_)
      rw [if_pos rfl]
      refine tset_store ?_ ho hex hd (T1 _ lf lr rfl) fun h' sb r => ?_
      · intro b s₁ Q' q
        cases b <;> first | exact wpAny_pure q | exact wpAny_rule q
      · exact wpAny_pure (hQ true h' sb r)
theorem TSet.typeIs (R : TSet P w s.heap a L) : s.TypeIs (.ref a) "set" := by
  obtain ⟨o, _, _, _, ho, hex, _⟩ := R
  exact ⟨o, ho, hex.1⟩
/-- set.add -/
theorem tset_add {x : Str} {tk : Tok} {Q : Value → Shared → Prop} (R : TSet P w s.heap a L) (few : L.length + 1 < scanBound) (hQ : ∀ h', Heap.SameBut a s.heap h' → TSet P w h' a (plusT L x) → Q .none { s with heap := h', toks := s.toks + 1 }) :
    wpAny (model P w) A (call (.builtin "set.add") [.ref a, .str x tk]) Q E s := by
  refine wpAny_call_entry F.slot_set_add R.typeIs F.entry_set_add ?_ (F.args_set_add_2 _ _)
  unfold Builtin.«set.add» Builtin.Frozenset.oneOther
  simp only [List.isEmpty_nil, bind_assoc]
  unfold Builtin.Frozenset.addrOf setAdd
  refine wpAny_bind (wpAny_pure ?_)
  try dsimp only
  refine wpAny_bind (wpAny_pure ?_)
  try dsimp only
  refine wpAny_bind (wpAny_holding (wpAny_bind ((tK P w).pyHash (by show Value.isStrOf x (.str x tk) = true; simp [Value.isStrOf]) ?_)))
  refine tset_hashed (s := { s with toks := s.toks + 1 }) R few fun b h' sb r => ?_
  show wpAny _ _ (ret Value.none) _ _ _
  exact wpAny_pure ⟨_, rfl, hQ h' sb r⟩
theorem tset_new {h : Heap} : TSet P w (h.push { cls := .type "set", dict := none, data := .set #[] 0 (.fresh 0 0 (!w.params.followText "set-order")) }) h.objs.size [] :=
  ⟨_, #[], 0, _, Heap.get?_push_size _ rfl, ⟨rfl, rfl, rfl⟩, rfl, (fun e he => by simp at he), .nil, List.nodup_nil, by decide, by rfl, List.Pairwise.nil, by
    show _ ∨ (!w.params.followText "set-order") = true
    cases w.params.followText "set-order"
    · exact .inr rfl
    · exact .inl rfl⟩
/-- sorted -/
theorem txts_of : ∀ l : List Value, (∀ v ∈ l, ∃ k tk, v = Value.str k tk) → StrsAre l (l.map strOf)
  | [], _ => .nil
  | v :: l, h => by
    obtain ⟨k, tk, rfl⟩ := h v List.mem_cons_self
    exact .cons k tk (txts_of l fun u hu => h u (List.mem_cons_of_mem _ hu))
theorem tset_sorted {Q : Value → Shared → Prop} (R : TSet P w s.heap a L) (hh : A.handled = none) (few : L.length < 64)
    (hQ : ∀ s' p (out : Array Value) (c : Nat) (zs : List Str), (∀ b o, s.heap.get? b = some o → s'.heap.get? b = some o) → s'.gens = s.gens → s'.os = s.os → s.heap.objs.size ≤ p → s'.heap.get? p = some (seqObj "list" out c) → StrsAre out.toList zs → sortedS zs = true → zs.Perm L → Q (.ref p) s') :
    wpAny (model P w) A (call (.builtin "sorted") [.ref a]) Q E s := by
  obtain ⟨o, es, ep, t, ho, hex, hd, T⟩ := R
  refine Calls.call_function_entry kind_sorted plain_sorted entry_sorted (args_sorted1 _) ?_
  unfold Builtin.«sorted»
  refine wpAny_bind (m := checkCount "sorted" 1 1 _) (wpAny_pure ?_)
  refine wpAny_bind (collect_set (A := A.in1) hh ⟨o, ho, hex.1, hd⟩ T.fits T.room T.ris T.led fun s1 vs k1 hz g1 o1 pm => ?_)
  have vl : vs.length = L.length := by rw [pm.length_eq, List.length_map, Array.length_toList]; exact T.len.symm
  have sa : StrsAre vs (vs.map strOf) := txts_of vs fun v hv => by
    obtain ⟨e, he, q⟩ := List.mem_map.mp (pm.mem_iff.mp hv)
    obtain ⟨k, tk, h1, _⟩ := T.all e he
    exact ⟨k, tk, by rw [← q]; exact h1⟩
  have pk : (vs.map strOf).Perm L := by
    have q := pm.map strOf
    rw [List.map_map] at q
    refine q.trans (List.Perm.trans (List.Perm.of_eq (List.map_congr_left fun e he => ?_)) T.perm.symm)
    obtain ⟨k, tk, h1, _⟩ := T.all e he
    show strOf e.2 = txtOf e
    unfold txtOf
    rw [h1]
    rfl
  refine wpAny_bind (wpAny_newList ?_ (by rw [vl, sizeLine_eq]; omega))
  have hoL : (s1.heap.push (seqObj "list" vs.toArray 0)).get? s1.heap.objs.size = some (seqObj "list" vs.toArray 0) := Heap.get?_push_size _ rfl
  refine wpAny_bind (wpAny_holding (wpAny_call_entry slot_list_sort ⟨_, hoL, rfl⟩ entry_list_sort (list_sort_treeK strKind_oneLt hoL sa.keysOf (fun v₁ v₂ rest e => keyKind_strs (by rw [← e]; exact sa)) (by rw [vl]; exact few) fun st hp hs => ⟨_, rfl, ?_⟩) (args_list_sort _)))
  obtain ⟨zs, h1, h2, h3⟩ := sorted_out_str sa hp hs
  obtain ⟨c, hc⟩ := sortedHeap_at (vs := vs) (out := (arrOf st).map (·.2)) hoL
  refine wpAny_pure ⟨_, rfl, hQ _ s1.heap.objs.size _ c zs (fun b u e => ?_) g1 o1 hz hc h1 h3 (h2.trans pk)⟩
  have q := k1 b u e
  have lt := Heap.lt_size q
  show (sortedHeap (s1.heap.push (seqObj "list" vs.toArray 0)) s1.heap.objs.size vs ((arrOf st).map (·.2))).get? b = some u
  rw [sortedHeap_old (Nat.ne_of_lt lt) (by rw [size_push']; exact Nat.lt_succ_of_lt lt)]
  exact Heap.get?_push_of_some _ q
end
end Fb
namespace Fb
open PySem PySem.Spec PyProof.Rows L2
/-- the set's object by itself -/
def TSetO (P : Program) (w : World) (a : Addr) (L : List Str) : HO := .ext fun h => TSet P w h a L
theorem TSet.ok {P : Program} {w : World} {H : Hp} {h : Heap} {a : Addr} {L : List Str} (R : TSet P w h a L) : ObjOk P w H h a (TSetO P w a L) := by
  have ⟨o, _, _, _, ho, _⟩ := R
  refine ⟨R, ⟨o, ho⟩, fun h1 h2 p k => ?_⟩
  obtain ⟨o', es, ep, t, ho', r⟩ := (show TSet P w h1 a L from p)
  exact ⟨o', es, ep, t, k o' ho', r⟩
section
variable {X : Cx} {pins : List (Addr × Obj)} {σ : L2.St} {H : Hp} {s : Shared}
theorem tset_of (I : Inv X pins σ H s) {a : Addr} {L : List Str} (h : H a = some (TSetO X.prog X.w a L)) : TSet X.prog X.w s.heap a L := (I.hok a _ h).1
theorem tset_put {A : Around} {E : Value → Shared → Prop} {D : Addr} {L : List Str} {x : Str} {tk : Tok} {Q : Value → Shared → Prop} (I : Inv X pins σ H s) (hD : H D = some (TSetO X.prog X.w D L)) (few : L.length + 1 < scanBound)
    (q : ∀ s', Inv X pins σ (upd H D (TSetO X.prog X.w D (plusT L x))) s' → Q .none s') : wpAny (model X.prog X.w) A (call (.builtin "set.add") [.ref D, .str x tk]) Q E s := by
  refine tset_add (tset_of I hD) few fun h' sb R => q _ ?_
  have there : ∃ u, h'.get? D = some u := by
    obtain ⟨o, _, _, _, ho, _⟩ := R
    exact ⟨o, ho⟩
  exact I.write (e := D) (t' := s.toks + 1) (by rw [hD]; trivial) (.inl rfl) (fun c u hc hu => (sb.2 c hc).trans hu) there R.ok
/-- sorted(texts), texts a set -/
def rSortT2 (P : Program) (w : World) : List V → Hp → VK → Prop := fun vs H Q => ∃ (a : Addr) (L : List Str), vs = [V.ref a] ∧ H a = some (TSetO P w a L) ∧ L.length < 64 ∧ ∀ (zs : List Str) (p : Addr), zs.Perm L → sortedS zs = true → H p = none → Q (.ref p) (upd H p (.lst (zs.map V.str)))
theorem cr_sortT (hc : X.calm = true) : CallR X (.builtin "sorted") (rSortT2 X.prog X.w) := by
  intro pins s σ H vs us Q I r h
  obtain ⟨a, L, rfl, ha, few, q⟩ := h
  rw [Vals.ref1 r]
  refine tset_sorted (tset_of I ha) (I.ok.hd hc) few fun s' p out c zs keep gs os new at_ txt srt pm => ?_
  have nil : H p = none := I.hok.fresh new
  have len : (zs.map V.str).length ≤ sizeLine := by rw [List.length_map, pm.length_eq, sizeLine_eq]; omega
  have J : Inv X pins σ (upd H p (.lst (zs.map V.str))) { s with heap := s'.heap, gens := s'.gens, drawn := s'.drawn, toks := s'.toks } :=
    I.call (ch := []) (Un.laid keep new nil) (I.hok.laid keep new ⟨len, out.toList, c, vals_of_strs txt, at_⟩) (by rw [gs]; exact I.bare) (fun _ z => nomatch z)
  have same : s' = { s with heap := s'.heap, gens := s'.gens, drawn := s'.drawn, toks := s'.toks } := by
    cases s'
    cases s
    cases os
    rfl
  rw [same]
  exact ⟨.ref p, _, J, rfl, q zs p pm srt nil⟩
end
end Fb
namespace Fb
open PySem PySem.Spec PyProof.Rows L2
theorem TSet.mv {P : Program} {w : World} {h h' : Heap} {a : Addr} {L : List Str} (R : TSet P w h a L) (k : ∀ o, h.get? a = some o → h'.get? a = some o) : TSet P w h' a L := by
  obtain ⟨o, es, ep, t, ho, r⟩ := R
  exact ⟨o, es, ep, t, k o ho, r⟩
theorem plus_mem {L : List Str} {x z : Str} : z ∈ plusT L x ↔ z = x ∨ z ∈ L := by
  unfold plusT
  by_cases h : x ∈ L
  · rw [if_pos h]
    exact ⟨.inr, fun c => c.elim (fun e => by rw [e]; exact h) id⟩
  · rw [if_neg h, List.mem_cons]
theorem plus_len {L : List Str} {x : Str} : (plusT L x).length ≤ L.length + 1 := by
  unfold plusT
  split
  · exact Nat.le_succ _
  · exact Nat.le_refl _
section
variable {P : Program} {w : World} {A : Around} {E : Value → Shared → Prop} {s : Shared}
/-- the loop that puts in what a walk gives -/
theorem tset_fill {I : Addr} {fp wr : List Addr} {G : Array GenState → Array GenState → Prop} {n : Nat} {Pv : Nat → Value → Prop} {St : Nat → Shared → Prop} {R : Result → Shared → Prop} (W : WalksS P w A.in1 I fp wr G n Pv St) (S : Addr) (out : S ∉ fp) (zs : List Str) (hn : n = zs.length)
    (few : zs.length + 1 < scanBound) (val : ∀ i v, Pv i v → ∃ x t, zs[i]? = some x ∧ v = .str x t) (res : ∀ s' L, Moved (S :: wr) G s s' → TSet P w s'.heap S L → L.length ≤ n → (∀ x, x ∈ L ↔ x ∈ zs) → R (.ok (.ret .none)) s') :
    ∀ (k i : Nat) (s1 : Shared), n - i = k → i ≤ n → St i s1 → (i = 0 → s1 = s) → (0 < i → Moved (S :: wr) G s s1) → (∃ L, TSet P w s1.heap S L ∧ L.length ≤ i ∧ ∀ x, x ∈ L ↔ x ∈ zs.take i) → codeAny (model P w) A (.builtin "set.update.loop" ⟨[.ref S, .ref I], []⟩) R s1 := by
  have far : S ∉ wr := fun h => out (W.sub _ h)
  have more : ∀ b ∈ wr, b ∈ S :: wr := fun b hb => List.mem_cons_of_mem _ hb
  have join : ∀ {i : Nat} {s1 s2 : Shared}, (i = 0 → s1 = s) → (0 < i → Moved (S :: wr) G s s1) → Moved (S :: wr) G s1 s2 → Moved (S :: wr) G s s2 := fun {i s1 s2} h0 h1 m => by
    by_cases e : i = 0
    · rw [h0 e] at m
      exact m
    · exact Moved.trans W.gtrans (h1 (by omega)) m
  intro k
  induction k with
  | zero =>
    intro i s1 hk hi st h0 h1 ⟨L, T, ln, mm⟩
    obtain rfl : i = n := by omega
    refine codeAny_builtin F.entry_set_update_loop ?_
    rw [Around.under_plainId F.plain_set_update_loop _]
    show wpAny _ A.in1 (pyNext (.ref I) >>= _) _ _ s1
    refine wpAny_bind (W.done s1 _ _ st fun s2 m => ?_)
    show wpAny _ A.in1 (ret Value.none) _ _ s2
    rw [List.take_of_length_le (by omega)] at mm
    exact wpAny_pure (res s2 L (join h0 h1 (m.mono more)) (T.mv fun o e => m.heap S o far e) ln mm)
  | succ k ih =>
    intro i s1 hk hi st h0 h1 ⟨L, T, ln, mm⟩
    have lt : i < n := by omega
    refine codeAny_builtin F.entry_set_update_loop ?_
    rw [Around.under_plainId F.plain_set_update_loop _]
    show wpAny _ A.in1 (pyNext (.ref I) >>= _) _ _ s1
    refine wpAny_bind (W.item i s1 _ _ lt st fun v s2 pv st2 m => ?_)
    obtain ⟨x, t, hx, rfl⟩ := val i v pv
    have T2 : TSet P w s2.heap S L := T.mv fun o e => m.heap S o far e
    show wpAny _ A.in1 (holding [Value.str x t] (setAdd S (.str x t)) >>= _) _ _ s2
    refine wpAny_bind (wpAny_holding ?_)
    unfold setAdd
    refine wpAny_holding (wpAny_bind ((tK P w).pyHash (by show Value.isStrOf x (.str x t) = true; simp [Value.isStrOf]) ?_))
    refine tset_hashed (s := { s2 with toks := s2.toks + 1 }) T2 (by omega) fun b h' sb T3 => ?_
    refine wpAny_pure ⟨plainId_quiet F.plain_set_update_loop _, ih (i + 1) _ (by omega) lt (W.frame _ s2 _ _ st2 (Nat.le_succ _) fun b hb o e => ?_) (fun z => absurd z (Nat.succ_ne_zero i)) (fun _ => ?_) ⟨_, T3, Nat.le_trans plus_len (Nat.succ_le_succ ln), fun z => ?_⟩⟩
    · rw [sb.2 b fun h => out (by rw [← h]; exact hb)]
      exact e
    · refine join h0 h1 ((m.mono more).then_heap (Nat.le_succ _) fun b o hb e => ?_)
      rw [sb.2 b fun h => hb (by rw [h]; exact List.mem_cons_self)]
      exact e
    · rw [plus_mem, mm z, List.take_add_one, hx, List.mem_append]
      show _ ↔ _ ∨ z ∈ [x]
      rw [List.mem_singleton]
      exact Or.comm
/-- a set as set() makes it -/
abbrev bareSet (w : World) : Obj := { cls := .type "set", dict := none, data := .set #[] 0 (.fresh 0 0 (!w.params.followText "set-order")) }
theorem tset_bare {h : Heap} {a : Addr} (e : h.get? a = some (bareSet w)) : TSet P w h a [] :=
  ⟨_, #[], 0, _, e, ⟨rfl, rfl, rfl⟩, rfl, (fun e he => by simp at he), .nil, List.nodup_nil, by decide, by rfl, List.Pairwise.nil, by
    show _ ∨ (!w.params.followText "set-order") = true
    cases w.params.followText "set-order"
    · exact .inr rfl
    · exact .inl rfl⟩
theorem strs_at : ∀ {us : List Value} {zs : List Str} {i : Nat} {v : Value}, StrsAre us zs → us[i]? = some v → ∃ x t, zs[i]? = some x ∧ v = .str x t
  | _, _, _, _, .nil, h => by simp at h
  | _, _, 0, _, .cons x t r, h => by
    cases h
    exact ⟨x, t, rfl, rfl⟩
  | _, _, i + 1, _, .cons x t r, h => by
    obtain ⟨y, u, h1, h2⟩ := strs_at (i := i) r (by simpa using h)
    exact ⟨y, u, by simpa using h1, h2⟩
theorem strs_len : ∀ {us : List Value} {zs : List Str}, StrsAre us zs → us.length = zs.length
  | _, _, .nil => rfl
  | _, _, .cons x t r => by rw [List.length_cons, List.length_cons, strs_len r]
set_option maxRecDepth 100000 in
set_option maxHeartbeats 3200000 in
theorem tset_of_list {l : Addr} {items : Array Value} (zs : List Str) {Q : Value → Shared → Prop} (hh : A.handled = none) (hl : s.heap.IsList l items) (txt : StrsAre items.toList zs) (few : zs.length + 1 < scanBound)
    (fin : ∀ (h' : Heap) (tk : Nat) (L : List Str), TSet P w h' s.heap.objs.size L → L.length ≤ zs.length → (∀ x, x ∈ L ↔ x ∈ zs) → (∀ b o, s.heap.get? b = some o → h'.get? b = some o) → Q (.ref s.heap.objs.size) { s with heap := h', toks := tk }) :
    wpAny (model P w) A (call (.type "set") [.ref l]) Q E s := by
  have len : items.size = zs.length := by
    have := strs_len txt
    rwa [Array.length_toList] at this
  have lS : l < s.heap.objs.size := by
    obtain ⟨_, e, _⟩ := hl
    exact Heap.lt_size e
  obtain ⟨c, tl, hmro⟩ := F.called_set.mro
  have hmade := F.called_set.made
  have hsub := F.called_set.sub
  refine wpAny_call (codeAny_of_tree ?_)
  show wpAny _ _ (callAny (.type "set") _) _ _ _
  refine wpAny_pure ⟨Code.quiet_builtin _ (by decide +kernel), codeAny_builtin F.entry_type_call ?_⟩
  rw [Around.under_plain (weight_type_call_type "set" [.ref l] []) rfl]
  have h1 := F.called_set.notType
  have h2 := F.called_set.canCreate
  have hct := F.typeCall_set_1 (.ref l)
  repeat (any_goals (first | assumption | wp_step))
  refine codeAny_mono (code_set_led1 (.ref l) (E := E) (Q₁ := fun obj s₁ => obj = .ref s.heap.objs.size ∧ s₁ = { s with heap := s.heap.push (bareSet w) }) ⟨rfl, rfl⟩) fun r s₁ hr => ?_
  match r with
  | .error e => exact hr
  | .ok (.ret obj) =>
    obtain ⟨rfl, rfl⟩ := hr
    have new : (s.heap.push (bareSet w)).get? s.heap.objs.size = some (bareSet w) := Heap.get?_push_size _ rfl
    have hT : Shared.TypeIs { s with heap := s.heap.push (bareSet w) } (.ref s.heap.objs.size) "set" := ⟨_, new, rfl⟩
    have hli := F.called_set.init.lookup
    have hbi := F.called_set.init.bind (.ref s.heap.objs.size)
    repeat (any_goals (first | assumption | wp_step))
    refine codeAny_mono (codeAny_call_builtin (R := wants (fun r s₂ => r = .none ∧ ∃ h' tk L, s₂ = { s with heap := h', toks := tk } ∧ TSet P w h' s.heap.objs.size L ∧ L.length ≤ zs.length ∧ (∀ x, x ∈ L ↔ x ∈ zs) ∧ (∀ b o, s.heap.get? b = some o → h'.get? b = some o)) E) F.called_set.init.plain F.entry_set_init (check_set_init_1 hT ?_)) fun r₂ s₂ hr₂ => ?_
    · obtain ⟨ol, hol, hcl, nl, hdl⟩ := hl
      obtain ⟨ocls, odict, odata, oslots⟩ := ol
      simp only at hcl hdl
      subst hcl
      subst hdl
      have old : (s.heap.push (bareSet w)).get? l = some { cls := .type "list", dict := odict, data := .seq items nl, slots := oslots } := Heap.get?_push_of_some _ hol
      have isl : (s.heap.push (bareSet w)).IsList l items := ⟨_, old, rfl, nl, rfl⟩
      have hsls := F.sub_list_set
      have hslf := F.sub_list_frozenset
      have hne : (Value.type "list" == Value.type "dict") = false := by decide
      unfold Builtin.«set.__init__» noKeywords Builtin.Frozenset.updateFrom
      generalize hPI : pyIter = PI
      wp_walk
      subst hPI
      refine wpAny_pyIter_list isl (wpAny_bind (wpAny_runValue ?_))
      have sz : (s.heap.push (bareSet w)).objs.size = s.heap.objs.size + 1 := Heap.size_push ..
      have hd3 : A.in1.in1.in1.handled = none := by simp [hh]
      have apart : l ≠ (s.heap.push (bareSet w)).objs.size := by rw [sz]; exact Nat.ne_of_lt (Nat.lt_succ_of_lt lS)
      have out : s.heap.objs.size ∉ [(s.heap.push (bareSet w)).objs.size, l] := by
        rw [sz]
        simp only [List.mem_cons, List.not_mem_nil, or_false, not_or]
        exact ⟨Nat.ne_of_lt (Nat.lt_succ_self _), Nat.ne_of_gt lS⟩
      refine tset_fill (s := { s with heap := (s.heap.push (bareSet w)).push { cls := .type "list_iterator", data := .fields #[.ref l, .int 0 0] } }) ((Walks.list hd3 _ l apart items).toS) s.heap.objs.size out zs len few
        (fun i v hv => strs_at txt (by rw [Array.getElem?_toList]; exact hv)) (fun s' L m T ln mm => ?_) (items.size - 0) 0 _ (by omega) (Nat.zero_le _) ⟨⟨_, Heap.get?_push_size _ rfl, rfl, rfl⟩, isl.push _⟩ (fun _ => rfl) (fun z => absurd z (Nat.lt_irrefl 0)) ⟨[], tset_bare (Heap.get?_push_of_some _ new), Nat.le_refl 0, fun x => by simp⟩
      obtain ⟨h', g2, d', tk', os'⟩ := s'
      have eg : g2 = s.gens := m.gens
      have ed : d' = s.drawn := m.drawn
      have eo : os' = s.os := m.os
      subst eg
      subst ed
      subst eo
      show wpAny _ _ _ _ _ _
      refine wpAny_pure ?_
      show wpAny _ _ (ret Value.none) _ _ _
      refine wpAny_pure ⟨rfl, h', tk', L, rfl, T, by omega, mm, fun b o e => ?_⟩
      have lt : b < s.heap.objs.size := Heap.lt_size e
      refine m.heap b o ?_ (Heap.get?_push_of_some _ (Heap.get?_push_of_some _ e))
      simp only [List.mem_cons, List.not_mem_nil, or_false, not_or]
      exact ⟨Nat.ne_of_lt lt, by rw [sz]; exact Nat.ne_of_lt (Nat.lt_succ_of_lt lt)⟩
    · match r₂ with
      | .error e => exact hr₂
      | .ok (.ret r) =>
        obtain ⟨rfl, h', tk, L, rfl, T, ln, mm, kp⟩ := hr₂
        repeat (any_goals (first | assumption | wp_step))
        exact fin _ _ _ T ln mm kp
      | .ok .next => exact hr₂.elim
      | .ok .brk => exact hr₂.elim
      | .ok .cont => exact hr₂.elim
  | .ok .next => exact hr.elim
  | .ok .brk => exact hr.elim
  | .ok .cont => exact hr.elim
end
section
variable {X : Cx}
/-- set(xs), xs a list of texts -/
def rSetT (K : PySem.W.Frag) (P : Program) (w : World) : List V → Hp → VK → Prop := fun vs H Q => ∃ (a : Addr) (zs : List Str), vs = [V.ref a] ∧ SqL K H a (zs.map V.str) ∧ zs.length + 1 < scanBound ∧ ∀ (p : Addr) (L : List Str), H p = none → L.length ≤ zs.length → L.Nodup → (∀ x, x ∈ L ↔ x ∈ zs) → Q (.ref p) (upd H p (TSetO P w p L))
theorem call_setT (hc : X.calm = true) : CallR X (.type "set") (rSetT X.K X.prog X.w) := by
  intro pins s σ H vs us Q I r h
  obtain ⟨a, zs, rfl, hs, few, q⟩ := h
  obtain ⟨its, rv, hl, _⟩ := I.list hs
  rw [Vals.ref1 r]
  refine tset_of_list zs (I.ok.hd hc) hl.isList (by simpa using rv.strs) few fun h' tk L T ln mm kp => ?_
  have nd : L.Nodup := by
    obtain ⟨_, _, _, _, _, _, _, tab⟩ := T
    exact tab.once
  exact ⟨.ref s.heap.objs.size, _, I.laid (t' := tk) kp (Nat.le_refl _) T.ok, rfl, q _ L (I.hok.fresh (Nat.le_refl _)) ln nd mm⟩
/-- len of one -/
theorem call_lenT : CallR X (.builtin "len") (fun xs H Q => ∃ (a : Addr) (L : List Str), xs = [.ref a] ∧ H a = some (TSetO X.prog X.w a L) ∧ L.length < 64 ∧ Q (.int L.length) H) := by
  intro pins s σ H xs us Q I r h
  obtain ⟨a, L, rfl, ha, few, q⟩ := h
  obtain ⟨u, rfl, ru⟩ := vals1 r
  cases ru
  obtain ⟨o, es, ep, t, ho, hex, hd, T⟩ := tset_of I ha
  have ln := T.len
  refine call_len_set ho hex hd T.fits (by omega) ?_
  refine ⟨.int L.length, H, I.kept (t' := s.toks + 1 + 1) fun _ _ e => e, ⟨s.toks + 1, ?_⟩, q⟩
  rw [ln]
end
end Fb
namespace Fb
open PySem PySem.Spec PyProof.Rows L2
section
variable {X : Cx}
/-- {elt for target in iter if ..}, elt a text -/
def tScT (P : Program) (w : World) (wi : TI) (g : TG) (tt : TT) (te : TE) (vs : List Nat) : TE := fun σ H Q => wi σ H fun J H1 => ∀ D, H1 D = none → ∃ W : Nat → Nat → Hp → Prop, (∃ m, W 0 m (upd H1 D (TSetO P w D []))) ∧ ∀ i m H, W i m H →
  (J.stop i H ∧ Q (.ref D) H) ∨ (J.go i H ∧ ∃ Nx : Hp → Prop, (∀ H', Nx H' → ∃ m', m' < m ∧ W (i + 1) m' H') ∧ ∀ x H', J.yld i H x H' → g x (wipe σ vs) H' fun σ2 H2 => wipe σ2 vs = wipe σ vs ∧ tt σ2 H2 fun b H3 =>
    if b = true then te σ2 H3 fun y H4 => ∃ (x : Str) (L : List Str), y = .str x ∧ H4 D = some (TSetO P w D L) ∧ L.length + 1 < scanBound ∧ Nx (upd H4 D (TSetO P w D (plusT L x))) else Nx H3)
theorem pe_scT {elt tg iter : Expr} {ifs : List Expr} {scope : Scope} {own : List (Str × Nat)} {pos : Pos} {wi : TI} {g : TG} {tt : TT} {te : TE} (hu : X.A.units + 1 < cLine) (hc : X.calm = true) (hN : X.N.Nodup) (hi : PI X tg iter wi) (ok : BlkOk X.N X.env.scope scope own)
    (hg : ∀ (s : Shared) (H : Hp) (C : Addr) (cl : List (Str × Addr)) (fp : List Addr), PG (X.blk s H scope (compEnvC scope cl C X.env) fp) tg g)
    (ht : ∀ (s : Shared) (H : Hp) (C : Addr) (cl : List (Str × Addr)) (fp : List Addr), PTs (X.blk s H scope (compEnvC scope cl C X.env) fp) ifs tt)
    (he : ∀ (s : Shared) (H : Hp) (C : Addr) (cl : List (Str × Addr)) (fp : List Addr), PE (X.blk s H scope (compEnvC scope cl C X.env) fp) elt te)
    (hs : ∀ x, foldedSetIterable iter X.env x = pure x := by intro _; rfl) : PE X (.SetComp elt [⟨tg, iter, ifs, 0⟩] scope pos) (tScT X.prog X.w wi g tt te (own.map (·.2))) := by
  refine ⟨fun pins s σ H Q I h => ?_⟩
  rw [PpSet.eval_SetComp]
  have free : ∀ y ∈ scope.names, y.2 = .free → ∃ c, X.env.cells.lookup y.1 = some c := fun y hy e => (ok.free y hy e).elim (fun k => I.ok.has _ (.inl k)) fun k => I.ok.has _ (.inr k)
  refine wpAny_comprehension_free (use := none) rfl hs (closure_ok free) ok.kind (fun y hy e => by rw [ok.uniq y hy, e]) (thn (hi.run pins s σ H _ I h) fun xv s1 hx => thn hx fun itv s2 h2 => ?_)
  obtain ⟨it, fp, tn, J, H2, rfl, I2, T, st2, f2, q⟩ := h2
  refine PpSet.newSet_ok (newEnv_comp ?_)
  have nD : H2 s2.heap.objs.size = none := I2.hok.fresh (Nat.le_refl _)
  obtain ⟨W, ⟨m0, w0⟩, turn⟩ := q _ nD
  have I3 : Inv X pins σ (upd H2 s2.heap.objs.size (TSetO X.prog X.w s2.heap.objs.size [])) { s2 with heap := s2.heap.push { cls := .type "set", dict := none, data := .set #[] 0 (.fresh 0 0 (!X.w.params.followText "set-order")) } } :=
    I2.laid (t' := s2.toks) (fun b o e => Heap.get?_push_of_some _ e) (Nat.le_refl _) tset_new.ok
  have small : ∀ b ∈ fp, b < s2.heap.objs.size := fun b hb => (T.obj _ _ st2 b hb).elim fun o e => Heap.lt_size e.1
  have size3 : (s2.heap.push { cls := .type "set", dict := none, data := .set #[] 0 (.fresh 0 0 (!X.w.params.followText "set-order")) }).objs.size = s2.heap.objs.size + 1 := Heap.size_push ..
  have st3 : tn 0 (s2.heap.push { cls := .type "set", dict := none, data := .set #[] 0 (.fresh 0 0 (!X.w.params.followText "set-order")) }) := T.keep _ _ _ st2 fun b _ o e => Heap.get?_push_of_some _ e
  generalize hD : s2.heap.objs.size = D at *
  generalize hs3 : ({ s2 with heap := s2.heap.push { cls := .type "set", dict := none, data := .set #[] 0 (.fresh 0 0 (!X.w.params.followText "set-order")) } } : Shared) = s3 at *
  have h3 : s3.heap = s2.heap.push { cls := .type "set", dict := none, data := .set #[] 0 (.fresh 0 0 (!X.w.params.followText "set-order")) } := by rw [← hs3]
  have f3 : ∀ b ∈ fp, FpOk X pins (upd H2 D (TSetO X.prog X.w D [])) b ∧ b < s3.heap.objs.size := fun b hb => by
    have l := small b hb
    refine ⟨⟨?_, (f2 b hb).2⟩, by rw [h3, size3]; exact Nat.lt_succ_of_lt l⟩
    rw [upd_ne (Nat.ne_of_lt l)]
    exact (f2 b hb).1
  have I4 := block_start I3 ok hN f3
  have n0 : ∀ b ∈ fp, (upd H2 D (TSetO X.prog X.w D [])) b = none := fun b hb => (f3 b hb).1.1
  generalize hH3 : upd H2 D (TSetO X.prog X.w D []) = H3 at *
  have pg := hg s3 H3 s3.heap.objs.size (cellsFrom (s3.heap.objs.size + 1) scope.names (cloFrom X.env.cells scope.names [])) fp
  have pt := ht s3 H3 s3.heap.objs.size (cellsFrom (s3.heap.objs.size + 1) scope.names (cloFrom X.env.cells scope.names [])) fp
  have pe := he s3 H3 s3.heap.objs.size (cellsFrom (s3.heap.objs.size + 1) scope.names (cloFrom X.env.cells scope.names [])) fp
  have top : (compEnvC scope (cellsFrom (s3.heap.objs.size + 1) scope.names (cloFrom X.env.cells scope.names [])) s3.heap.objs.size X.env).locals = s3.heap.objs.size := rfl
  show codeAny _ _ (.compStart (.SetComp elt [⟨tg, iter, ifs, 0⟩] scope pos) 0 (.ref it) (.ref D) (compEnvC scope (cellsFrom (s3.heap.objs.size + 1) scope.names (cloFrom X.env.cells scope.names [])) s3.heap.objs.size X.env)) _ { s3 with heap := pushCells (s3.heap.push { cls := .type "dict", data := .dict #[] }) scope.names }
  generalize compEnvC scope (cellsFrom (s3.heap.objs.size + 1) scope.names (cloFrom X.env.cells scope.names [])) s3.heap.objs.size X.env = ce at I4 pg pt pe top ⊢
  have st4 : tn 0 ({ s3 with heap := pushCells (s3.heap.push { cls := .type "dict", data := .dict #[] }) scope.names } : Shared).heap := T.keep _ _ _ (h3 ▸ st3) fun b _ o e => pushCells_keeps _ _ _ _ (Heap.get?_push_of_some _ e)
  generalize ({ s3 with heap := pushCells (s3.heap.push { cls := .type "dict", data := .dict #[] }) scope.names } : Shared) = s4 at I4 st4 ⊢
  have fps : ∀ {σ' : L2.St} {H' : Hp} {s' : Shared}, Inv (X.blk s3 H3 scope ce fp) [] σ' H' s' → (∀ b ∈ fp, H' b = none) → ∀ b ∈ fp, FpOk (X.blk s3 H3 scope ce fp) [] H' b := fun {σ' H' s'} I' hn b hb =>
    ⟨hn b hb, (I'.ok.exf b hb).1, I'.ok.exfs b hb, .inl hb, fun x c e => (I'.ok.exf b hb).2 x c e, fun p hp => absurd (show p ∈ ([] : List (Addr × Obj)) ++ [] from hp) (by simp)⟩
  have loop : codeAny (model X.prog X.w) X.A (.compLoop (.SetComp elt [⟨tg, iter, ifs, 0⟩] scope pos) 0 (.ref it) (.ref D) ce) (compPost (model X.prog X.w) X.A X.xe none (EP X pins σ Q) (.ref D) s3.heap.objs.size) s4 := by
    refine PpSet.compLoopS_any (fun n s' => ∃ i H', Inv (X.blk s3 H3 scope ce fp) [] (wipe σ (own.map (·.2))) H' s' ∧ tn i s'.heap ∧ (∀ b ∈ fp, H' b = none) ∧ W i n H') ?_ m0 ⟨0, H3, I4, st4, n0, w0⟩
    rintro n s5 ⟨i, H5, I5, st5, n5, w5⟩
    rcases turn i n H5 w5 with ⟨stop, fin⟩ | ⟨go, Nx, next, step⟩
    · refine thnF (T.done (X.blk s3 H3 scope ce fp) rfl rfl rfl hc i [] s5 _ H5 (fun _ _ => False) I5 (fps I5 n5) st5 stop) fun r s6 ⟨hr, I6⟩ => ?_
      subst hr
      have I7 : Inv X pins σ H5 s6 := I3.call' (ch := fp) I6.os I6.base I6.hok I6.bare fun b hb => let f := (f3 b hb).1; ⟨f.2.2.2.1, f.2.1, f.2.2.2.2.1, f.2.2.2.2.2⟩
      have nC : H5 s3.heap.objs.size = none := by
        have := (show H5 ce.locals = none from I6.free)
        rwa [top] at this
      obtain ⟨m, hn, _⟩ := I6.loc
      have hn : s6.heap.Ns s3.heap.objs.size m := by
        have := (show s6.heap.Ns ce.locals m from hn)
        rwa [top] at this
      obtain ⟨g0, g1, g2, g3, g4, g5⟩ := I3.fpOk (Nat.le_refl _) nC
      exact ⟨m, hn, fun h'' sb => ⟨.ref D, H5, I7.turned (t' := s6.toks) (fun b o hb e => (sb.2 b hb).trans e) g0 g1 g3 g4 g5, rfl, fin⟩⟩
    · refine thnF (T.item (X.blk s3 H3 scope ce fp) rfl rfl rfl hc i [] s5 _ H5 (fun _ _ => False) I5 (fps I5 n5) st5 go) fun r s6 ⟨u, hr, h6⟩ => ?_
      subst hr
      refine thnF h6 fun _ s7 ⟨x, H7, I7, r7, y7, st7, n7⟩ => ?_
      refine thnF (pg.run _ s7 _ H7 x u _ (I7.pinned (fps I7 n7) (T.obj _ _ st7)) r7 (step x H7 y7)) fun _ s8 ⟨σ8, H8, I8, hw8, q8⟩ => ?_
      refine thnF (pt.run _ s8 σ8 H8 _ I8 q8) fun b s9 ⟨H9, I9, q9⟩ => ?_
      have on : ∀ {s' : Shared} {H' : Hp}, Inv (X.blk s3 H3 scope ce fp) ([] ++ pinsAt fp s7.heap) σ8 H' s' → Nx H' → ∃ m, m < n ∧ ∃ i H', Inv (X.blk s3 H3 scope ce fp) [] (wipe σ (own.map (·.2))) H' s' ∧ tn i s'.heap ∧ (∀ b ∈ fp, H' b = none) ∧ W i m H' := fun {s' H'} I' nx => by
        obtain ⟨m', hm, w'⟩ := next H' nx
        have pin : ∀ b ∈ fp, ∀ o, s7.heap.get? b = some o → s'.heap.get? b = some o ∧ H' b = none := fun b hb o e =>
          let z := I'.pin (b, o) (List.mem_append_right _ (List.mem_append_right _ (mem_pinsAt hb e)))
          ⟨z.1, z.2.1⟩
        refine ⟨m', hm, i + 1, H', (I'.unpinned (pins := [])).weak (by rw [← hw8, wipe_length]) (fun j v e => ?_), T.keep _ _ _ st7 fun b hb o e => (pin b hb o e).1, fun b hb => ?_, w'⟩
        · rw [← hw8] at e
          exact (wipe_some e).1
        · obtain ⟨o, e, _⟩ := T.obj _ _ st7 b hb
          exact (pin b hb o e).2
      cases b with
      | false =>
        simp only [Bool.false_eq_true, if_false] at q9 ⊢
        exact on I9 q9
      | true =>
        simp only [if_true] at q9 ⊢
        refine thnF (pe.run _ s9 σ8 H9 _ I9 q9) fun z s10 ⟨yv, H10, I10, r10, k, L, ey, eD, few, nx⟩ => ?_
        subst ey
        obtain ⟨tk, rfl⟩ := r10
        exact tset_put (X := X.blk s3 H3 scope ce fp) I10 eD few fun s11 I11 => on I11 (nx)
  exact PpSet.codeAny_compStart_set loop (T.self X.A 0 _ _ _ st4 loop)
theorem plusT_nd {L : List Str} {x : Str} (h : L.Nodup) : (plusT L x).Nodup := by
  unfold plusT
  by_cases c : x ∈ L
  · rw [if_pos c]; exact h
  · rw [if_neg c]; exact List.nodup_cons.mpr ⟨c, h⟩
theorem plusT_mem {L : List Str} {x y : Str} : y ∈ plusT L x ↔ y = x ∨ y ∈ L := by
  unfold plusT
  by_cases c : x ∈ L
  · rw [if_pos c]
    exact ⟨.inr, fun h => h.elim (fun e => e ▸ c) id⟩
  · rw [if_neg c, List.mem_cons]
theorem plusT_len (L : List Str) (x : Str) : (plusT L x).length ≤ L.length + 1 := by
  unfold plusT
  by_cases c : x ∈ L
  · rw [if_pos c]; omega
  · rw [if_neg c]; exact Nat.le_refl _
/-- {f(x) for x in ..}, f a text: all that there are, each once -/
theorem scT_all {P : Program} {w : World} {J : It} {n : Nat} {G : Hp → Prop} {Y : Nat → Hp → V → Hp → Prop} (wk : Walk J n G Y) {g : TG} {te : TE} {vs : List Nat} {σ : L2.St} {H1 : Hp} {D : Addr} {Qd : Hp → Prop} (f : Nat → Str) (hD : H1 D = none) (hS : ∀ H, Same H1 H → G H) (hn : n < 63)
    (hs : ∀ i x H H' (k : V → Hp → Prop), i < n → Same H1 (hid D H) → (∃ L, H D = some (TSetO P w D L)) → Y i H x H' → (∀ H4, Same H H4 → k (.str (f i)) H4) → g x (wipe σ vs) H' fun σ2 H2 => wipe σ2 vs = wipe σ vs ∧ te σ2 H2 k)
    (hd : ∀ H (L : List Str), Same H1 (hid D H) → H D = some (TSetO P w D L) → L.Nodup → (∀ x, x ∈ L ↔ ∃ i, i < n ∧ f i = x) → L.length ≤ n → Qd H) :
    ∃ W : Nat → Nat → Hp → Prop, (∃ m, W 0 m (upd H1 D (TSetO P w D []))) ∧ ∀ i m H, W i m H →
      (J.stop i H ∧ Qd H) ∨ (J.go i H ∧ ∃ Nx : Hp → Prop, (∀ H', Nx H' → ∃ m', m' < m ∧ W (i + 1) m' H') ∧ ∀ x H', J.yld i H x H' → g x (wipe σ vs) H' fun σ2 H2 => wipe σ2 vs = wipe σ vs ∧ tYes σ2 H2 fun b H3 =>
        if b = true then te σ2 H3 fun y H4 => ∃ (x : Str) (L : List Str), y = .str x ∧ H4 D = some (TSetO P w D L) ∧ L.length + 1 < scanBound ∧ Nx (upd H4 D (TSetO P w D (plusT L x))) else Nx H3) := by
  let Pv : Nat → Hp → Prop := fun i H => ∃ L : List Str, Same H1 (hid D H) ∧ H D = some (TSetO P w D L) ∧ L.length ≤ i ∧ L.Nodup ∧ ∀ x, x ∈ L ↔ ∃ j, j < i ∧ f j = x
  have start : Pv 0 (upd H1 D (TSetO P w D [])) := by
    refine ⟨[], fun b o eb => ?_, upd_same, Nat.le_refl _, List.nodup_nil, fun k => ⟨fun h => (by cases h), fun ⟨j, hj, _⟩ => absurd hj (Nat.not_lt_zero _)⟩⟩
    rw [hid_ne (ne_of_none eb hD), upd_ne (ne_of_none eb hD)]
    exact eb
  refine ⟨fun i m H => m = n - i ∧ i ≤ n ∧ Pv i H, ⟨n, by simp, Nat.zero_le _, start⟩, ?_⟩
  rintro i m H ⟨rfl, hi, pv⟩
  obtain ⟨L, sL, eL, lL, nL, kL⟩ := id pv
  have sH : Same H1 H := sL.trans hid_same
  have hG := hS H sH
  have sb : (63 : Nat) < scanBound := by decide
  by_cases hlt : i < n
  · refine .inr ⟨wk.goes i H hlt hG, Pv (i + 1), fun H' p' => ⟨n - (i + 1), by omega, rfl, hlt, p'⟩, fun x H' y => ?_⟩
    refine hs i x H H' (fun y H4 => ∃ (x : Str) (L : List Str), y = .str x ∧ H4 D = some (TSetO P w D L) ∧ L.length + 1 < scanBound ∧ Pv (i + 1) (upd H4 D (TSetO P w D (plusT L x)))) hlt sL ⟨L, eL⟩ (wk.yields i H x H' hlt hG y) fun H4 s4 => ?_
    refine ⟨f i, L, rfl, s4 _ _ eL, by omega, plusT L (f i), ?_, upd_same, by have := plusT_len L (f i); omega, plusT_nd nL, fun k => ?_⟩
    · rw [hid_upd]
      exact sL.trans (hid_mono s4)
    · rw [plusT_mem, kL]
      constructor
      · rintro (rfl | ⟨j, hj, e⟩)
        · exact ⟨i, by omega, rfl⟩
        · exact ⟨j, by omega, e⟩
      · rintro ⟨j, hj, e⟩
        by_cases c : j < i
        · exact .inr ⟨j, c, e⟩
        · have : j = i := by omega
          subst this
          exact .inl e.symm
  · have e : i = n := by omega
    subst e
    exact .inl ⟨wk.stops H hG, hd H L sL eL nL kL lL⟩
end
end Fb
namespace Fb
open PySem PySem.Spec PyProof.Rows L2
/-- a promise that is held where no repr is under way -/
structure FnOkG (P : Program) (w : World) (K : PySem.W.Frag) (mg : Str → Option Value) (base : Heap) (CX : CXT) (k : Nat) (f : Addr) (fd : FuncData) (ps : List Str) (sp : Sp) : Prop where
  ln : ∀ vs H Q E, sp vs H Q E → vs.length = ps.length
  go : ∀ (A : Around) (outer : List Env) (s : Shared) (H : Hp) (args : Args) (us : List Value) (vs : List V) (Q : VK) (E : XK), A.guards = some [] ∧ Room k A ∧ Env0 P w K mg base A outer s H ∧ BindsTo s fd args (ps.zip us) ∧ Vals vs us ∧ sp vs H Q E →
    codeAny (model P w) A (.call (.ref f) args) (CR CX outer P w H s Q E) s
section
variable {P : Program} {w : World} {K : PySem.W.Frag} {mg : Str → Option Value} {base : Heap}
theorem env0_in {A : Around} {outer : List Env} {s : Shared} {H : Hp} (e : Env0 P w K mg base A outer s H) : K.In s.heap ∧ s.heap.NoLimit :=
  have up : ∀ b o, base.get? b = some o → s.heap.get? b = some o := fun b o h => (e.bs b o h).1
  ⟨e.mod.kin.keeps up, e.mod.nolimit.keeps up⟩
/-- how a body ends, as its call's end -/
theorem body_end {CX : CXT} {N : List Str} {qual : Str} {scope : Scope} {f : Addr} {cdv : Value} {A : Around} {outer : List Env} {s s' : Shared} {H : Hp} {E : XK} {Q : VK} {σ : L2.St} {H' : Hp} {v : V} {u : Value}
    (I : Inv (cxOf CX P w K mg base N qual scope f cdv A outer s H E) [] σ H' s') (r : RelV v u) (q : Q v H') : CE outer P w H s Q u s' := ⟨v, H', I.os, I.bare, I.base, I.hok, r, q⟩
/-- a def by its body, where no repr is under way -/
theorem Fun.okG {x qual : Str} {st : Stmt} {f : Addr} {fd : FuncData} {N ps : List Str} {k : Nat} {sp : Sp} (F : Fun K x qual st f fd) (S : FnScope N ps (defScope st)) (ln : ∀ vs H Q E, sp vs H Q E → vs.length = ps.length)
    (body : ∀ (cdv : Value) (A : Around) (outer : List Env) (s : Shared) (H : Hp) (vs : List V) (Q : VK) (E : XK), A.guards = some [] → Room k (A.deeper (envOfC qual (defScope st) s.heap.objs.size f cdv)) → sp vs H Q E →
      ∃ t, PSs (cxOf CX0 P w K mg base N qual (defScope st) f cdv A outer s H E).nox (defBody st) t ∧ t { nx := fun _ H2 => Q .non H2, rt := Q } (start N vs) H) : FnOkG P w K mg base CX0 (k + 1) f fd ps sp where
  ln := ln
  go := by
    rintro A outer s H args us vs Q E ⟨gd, hr, e0, hb, rv, hsp⟩
    obtain ⟨oc, od, kV, doc, pm, an, cdv, ct, osl, rfl, look, rec⟩ := F.ex
    obtain ⟨kin, lim⟩ := env0_in e0
    obtain ⟨t, pss, reads⟩ := body cdv A outer s H vs Q E gd (hr.deeper _) hsp
    have pss := pss.nox
    have par : ∀ y ∈ ps.zip us, (defScope st).names.lookup y.1 = some .local ∨ ((defScope st).names.lookup y.1 = some .cell ∧ ((cellsFrom (s.heap.objs.size + 1) (defScope st).names []).lookup y.1).isSome = true) := by
      intro y hy
      obtain ⟨n, v⟩ := y
      have hn := S.par n (List.of_mem_zip hy).1
      exact hn.imp id fun c => ⟨c, PySem.W.cellsFrom_some _ _ _ (Or.inl c)⟩
    apply codeAny_call_function hr.depth (kin _ _ look) rfl S.co S.gen rfl (PySem.W.codeRec_of kin rec)
    apply hb
    apply wpAny_newFunctionEnv_cells S.kind par
    rintro env rfl s1 inn
    constructor
    · exact lim.keeps inn.toInCall.keep
    apply codeAny_func
    have I0 := inv_start (CX := CX0) (P := P) (w := w) (K := K) (mg := mg) (base := base) (E := E) S hr.hd e0 (ln _ _ _ _ hsp) rv inn
    apply wpAny_mono (pss.run [] s1 (start N vs) H _ I0 reads)
    · intro fl s2 hfl
      match fl, hfl with
      | .ret u, ⟨v, σ2, H2, I2, r2, q2⟩ => exact body_end I2 r2 q2
      | .next, ⟨σ2, H2, I2, q2⟩ => exact body_end (v := .non) (u := .none) I2 rfl q2
      | .brk, ⟨_, _, _, no⟩ => exact no.elim
      | .cont, ⟨_, _, _, no⟩ => exact no.elim
    · exact fun _ _ h => h
end
section
variable {X : Cx} {CX : CXT} {k : Nat} {f : Addr} {fd : FuncData} {ps : List Str} {sp : Sp} {dvs : List V} {ds : List Value} {E : XK} {x : Str} {p pos : Pos} {e : Expr} {es : List Expr} {t : TA}
/-- f(..) of such a def -/
theorem pe_callG (F : FnOkG X.prog X.w X.K X.mg X.base CX k f fd ps sp) (gd : X.A.guards = some []) (hr : Room k X.A) (gl : Gl X x) (gm : X.mg x = some (.ref f)) (kp : PySem.W.keepIn X.K (.ref f) = true) (hb : Binds X.K fd ps ds) (hd : Vals dvs ds) (ex : Passes CX X E)
    (args : PA X (e :: es) t) (hdb : (x == ("__debug__" : Str)) = false := by decide) (he : starEach (e :: es) X.env = (false, eval e X.env) :: starEach es X.env := by rfl) (hpl : (backTo pos (starEach es X.env)).any (·.1) = false := by rfl) :
    PE X (.Call (.Name x p) (e :: es) [] pos) (tCall sp dvs E t) := by
  constructor
  intro pins s σ H Q I reads
  apply wpAny_Call_Name_kw (ld_glob I gl gm ?_ hdb)
  apply PySem.W.callWith_K (h₀ := X.base) I.ok.mod.kin kp ?_ he hpl
  refine thn (args.run pos pins s σ H _ I reads) ?_
  rintro us s1 ⟨vs, H1, I1, r1, q1⟩
  have both : Vals (vs ++ dvs) (us ++ ds) := r1.append hd
  have many : (us ++ ds).length = ps.length := both.length ▸ F.ln _ _ _ _ q1
  refine ⟨I1.kIn, wpAny_call (codeAny_mono (F.go X.A X.stack s1 H1 ⟨us, []⟩ (us ++ ds) (vs ++ dvs) Q E ⟨gd, hr, I1.env0, hb s1 us I1.kIn many, both, q1⟩) ?_)⟩
  intro r s2 end'
  match r, end' with
  | .error e, end' => exact ex pins σ H1 s1 e s2 I1 end'
  | .ok (.ret u), end' => exact I1.after end'
end
section
variable {X : Cx}
/-- repr(x), x data of lists, tuples and single things, or a dict without keys -/
def rRepr (K : PySem.W.Frag) : List V → Hp → VK → Prop := fun xs H Q => ∃ v, xs = [v] ∧ ((∃ d, Dp K H v d ∧ d.showable = true ∧ d.hasDict = false ∧ d.depth ≤ 60 ∧ d.shown.length ≤ sizeLine ∧ Q (.str d.shown) H) ∨ (∃ p, v = .ref p ∧ H p = some (.dK []) ∧ Q (.str (PyData.dict []).shown) H))
theorem call_repr (gd : X.A.guards = some []) (hu : X.A.units + 64 < cLine) : CallR X (.builtin "repr") (rRepr X.K) := by
  intro pins s σ H xs us Q I r h
  obtain ⟨v, rfl, h⟩ := h
  obtain ⟨u, rfl, ru⟩ := vals1 r
  rcases h with ⟨d, hd, sh, nd, dp, sz, q⟩ | ⟨p, rfl, hp, q⟩
  · obtain ⟨as, rd⟩ := Dp.reads I d v u hd ru
    have after : ∀ (h' : Heap) (tk : Tok) (t : Nat), (∀ b o, s.heap.get? b = some o → h'.get? b = some o) → EP X pins σ Q (.str d.shown tk) { s with heap := h', toks := t } := fun h' tk t kp => ⟨.str d.shown, H, I.kept kp, ⟨tk, rfl⟩, q⟩
    have ref : ∀ a, u = .ref a → wpAny (model X.prog X.w) X.A (call (.builtin "repr") [u]) (EP X pins σ Q) X.xe s := by
      rintro a rfl
      exact repr_of_reads' rd sh (fun c => by rw [nd] at c; cases c) gd (by omega) (fun _ _ e => e) (fun h' tk t kp => after h' tk t kp) sz
    cases rd with
    | none => exact PySem.P.repr_of_none (by simpa only [PyData.shown] using after s.heap s.toks (s.toks + 1) fun _ _ e => e)
    | bool b => exact PySem.P.repr_of_bool (by simpa only [PyData.shown] using after s.heap s.toks (s.toks + 1) fun _ _ e => e)
    | int i t => exact PySem.P.repr_of_int (by simpa [PyData.showable] using sh) (by simpa only [PyData.shown] using after s.heap s.toks (s.toks + 1) fun _ _ e => e)
    | str x t => exact PySem.P.repr_of_str (by simpa only [PyData.shown] using after s.heap s.toks (s.toks + 1) fun _ _ e => e) (by simpa only [PyData.shown] using sz)
    | list _ _ _ _ => exact ref _ rfl
    | tuple _ _ _ _ => exact ref _ rfl
    | dict _ _ _ _ _ => exact ref _ rfl
  · cases ru
    obtain ⟨_, ns, vs, kv, o, es, ep, ho, ex, dt, _, prs, _⟩ := I.hok p _ hp
    cases kv
    have e0 : es.toList = [] := by
      cases h0 : es.toList with
      | nil => rfl
      | cons a l =>
        rw [h0] at prs
        cases prs
    have rd : Reads s.heap (.ref p) (.dict []) (p :: [] ++ []) := .dict ho ex.1 dt (by rw [e0]; exact .nil) (by rw [e0]; exact .nil)
    refine repr_of_reads' rd (by rfl) (fun _ c => ?_) gd (by simp [PyData.depth, PyData.depthKv]; omega) (fun _ _ e => e) (fun h' tk t kp => ⟨.str _, H, I.kept kp, ⟨tk, rfl⟩, q⟩) (by decide +kernel)
    have : sysModules = p := by simpa using c
    rw [← this] at ns
    exact absurd ns (by decide)
end
end Fb
namespace Fb
open PySem PySem.Spec PyProof.Rows L2
abbrev Ent := List Key × Addr × Value
/-- what the dict's object holds; that its keys are tuples is told apart -/
def DXo (P : Program) (w : World) (d : Addr) (xs : List Ent) : HO := .ext fun h => xs.length ≤ sizeLine ∧ (d == sysModules) = false ∧ (xs.map (·.1)).Nodup ∧
  ∃ o es ep, h.get? d = some o ∧ o.ExactDict ∧ o.data = .dict es ep ∧ es.toList = xs.map (entryOfKey (tupleKind (mixKind P w)))
def KeysAt (K : PySem.W.Frag) (H : Hp) (xs : List Ent) : Prop := ∀ x ∈ xs, SqT K H x.2.1 (x.1.map kV)
theorem dx_new {P : Program} {w : World} {H : Hp} {h : Heap} {d : Addr} {xs : List Ent} (z : xs.length ≤ sizeLine) (hd : (d == sysModules) = false) (m : h.DictOfH (tupleKind (mixKind P w)) d xs) : ObjOk P w H h d (DXo P w d xs) := by
  obtain ⟨o, es, ep, h1, h2, h3, h4, _, h5⟩ := m
  refine ⟨⟨z, hd, h5, o, es, ep, h1, h2, h3, h4⟩, ⟨o, h1⟩, fun g1 g2 ⟨a1, a2, a3, o', es', ep', b1, b2⟩ k => ⟨a1, a2, a3, o', es', ep', k _ b1, b2⟩⟩
theorem dx_empty {P : Program} {w : World} {H : Hp} (h : Heap) (hb : sysModules < h.objs.size) : ObjOk P w H (h.push { cls := .type "dict", data := .dict #[] }) h.objs.size (DXo P w h.objs.size []) :=
  dx_new (Nat.zero_le _) (beq_eq_false_iff_ne.mpr (Ne.symm (Nat.ne_of_lt hb))) (Heap.DictOfH.new h)
section
variable {X : Cx} {pins : List (Addr × Obj)} {σ : L2.St} {H : Hp} {s : Shared} {d b : Addr} {xs : List Ent} {k : List Key}
theorem sqT_key (I : Inv X pins σ H s) (h : SqT X.K H b (k.map kV)) : (tupleKind (mixKind X.prog X.w)).is s.heap k b := by
  obtain ⟨its, r, ⟨o, h1, h2, n, h3⟩, _⟩ := I.tuple h
  exact ⟨o, its.toArray, n, h1, h2, h3, by simpa using items_are r⟩
theorem dx_rd (I : Inv X pins σ H s) (e : Rd H d (DXo X.prog X.w d xs)) (ks : KeysAt X.K H xs) : xs.length ≤ sizeLine ∧ (d == sysModules) = false ∧ s.heap.DictOfH (tupleKind (mixKind X.prog X.w)) d xs := by
  obtain ⟨⟨a1, a2, a3, o, es, ep, b1, b2, b3, b4⟩, _, _⟩ := e.ok I.hok
  exact ⟨a1, a2, o, es, ep, b1, b2, b3, b4, fun x hx => sqT_key I (ks x hx), a3⟩
end
/-- x not in d -/
def tXNotIn (X : Cx) (ty td : TE) : TE := fun σ H Q => ty σ H fun y H1 => td σ H1 fun x H2 => ∃ d b k xs, x = .ref d ∧ Rd H2 d (DXo X.prog X.w d xs) ∧ KeysAt X.K H2 xs ∧ y = .ref b ∧ SqT X.K H2 b (k.map kV) ∧ Q (.bl (!(atKey xs k).isSome)) H2
/-- d[x] -/
def tXGet (X : Cx) (td ty : TE) : TE := fun σ H Q => td σ H fun x H1 => ty σ H1 fun y H2 => ∃ d b k xs q u v, x = .ref d ∧ Rd H2 d (DXo X.prog X.w d xs) ∧ KeysAt X.K H2 xs ∧ y = .ref b ∧ SqT X.K H2 b (k.map kV) ∧ atKey xs k = some (q, u) ∧ RelV v u ∧ Q v H2
/-- d[x] = v, x a new key -/
def sXPut (X : Cx) (td ty tv : TE) : L2.TS := fun D σ H => tv σ H fun v H1 => td σ H1 fun x H2 => ty σ H2 fun y H3 => ∃ d b k xs, x = .ref d ∧ H3 d = some (DXo X.prog X.w d xs) ∧ KeysAt X.K H3 xs ∧ y = .ref b ∧ SqT X.K H3 b (k.map kV) ∧ xs.length < sizeLine ∧ atKey xs k = none ∧
  ∀ u, RelV v u → D.nx σ (upd H3 d (DXo X.prog X.w d (xs ++ [(k, b, u)])))
section
variable {X : Cx} {o i value : Expr} {pos pos' : Pos} {td ty tv : TE}
theorem pc_xnotin (hu : X.A.units + 1 < cLine) (hi : PE X i ty) (ho : PE X o td) : PC X .NotIn i o (tXNotIn X ty td) := by
  refine ⟨fun pins s σ H Q I h => ?_⟩
  refine thn (hi.run pins s σ H _ I h) fun iv s1 ⟨y, H1, I1, ry, q1⟩ => thn (ho.run pins s1 σ H1 _ I1 q1) fun u s2 ⟨x, H2, I2, rx, d, b, k, xs, ex, hd, ks, ey, hb, q2⟩ => ?_
  subst ex ey
  obtain rfl : u = Value.ref d := rx
  obtain rfl : iv = Value.ref b := ry
  obtain ⟨z, nm, dd⟩ := dx_rd I2 hd ks
  exact wpAny_notIn_heap (tupleKind_room_in1 hu) (sqT_key I2 hb) nm dd ⟨.bl (!(atKey xs k).isSome), H2, I2.tok _, rfl, q2⟩
theorem pe_xget (hu : X.A.units + 1 < cLine) (ho : PE X o td) (hi : PE X i ty) (hs : NoSl i) : PE X (.Subscript o i pos) (tXGet X td ty) := by
  refine ⟨fun pins s σ H Q I h => ?_⟩
  refine subD_of PySem.F.slot_dict_getitem.lookup hs (thn (ho.run pins s σ H _ I h) fun u s1 ⟨x, H1, I1, rx, q1⟩ => thn (hi.run pins s1 σ H1 _ I1 q1) fun iv s2 ⟨y, H2, I2, ry, d, b, k, xs, q, u', v, ex, hd, ks, ey, hb, hk, rv, q2⟩ => ?_)
  subst ex ey
  obtain rfl : u = Value.ref d := rx
  obtain rfl : iv = Value.ref b := ry
  obtain ⟨z, nm, dd⟩ := dx_rd I2 hd ks
  exact ⟨dd.typeIs, wpAny_getItem_heap (tupleKind_room_in1 hu) (sqT_key I2 hb) dd hk ⟨v, H2, I2.tok _, rv, q2⟩⟩
theorem ps_xput (hu : X.A.units + 1 < cLine) (ho : PE X o td) (hi : PE X i ty) (hv : PE X value tv) (hs : swapsWith value (some (.Subscript o i pos')) pos.line X.env = pure false) :
    PS X (.Assign [.Subscript o i pos'] value pos) (sXPut X td ty tv) := by
  refine ⟨fun pins s σ H D I h => ?_⟩
  refine wpAny_Assign_Subscript (thn (hv.run pins s σ H _ I h) fun r s1 ⟨v, H1, I1, rv, q1⟩ => thn (ho.run pins s1 σ H1 _ I1 q1) fun u s2 ⟨x, H2, I2, rx, q2⟩ => thn (hi.run pins s2 σ H2 _ I2 q2) fun iv s3 ⟨y, H3, I3, ry, d, b, k, xs, ex, hd, ks, ey, hb, hl, hk, q3⟩ => ?_) hs
  subst ex ey
  obtain rfl : u = Value.ref d := rx
  obtain rfl : iv = Value.ref b := ry
  obtain ⟨z, nm, dd⟩ := dx_rd I3 (.inl hd) ks
  refine wpAny_setItem_heap (hsz := z) (tupleKind_room_in1 hu) (sqT_key I3 hb) dd fun h' dd' sb => ?_
  rw [storedH_new hk] at dd'
  obtain ⟨q, es, ep, hq, _⟩ := id dd'
  exact ⟨σ, _, d_write I3 (by rw [hd]; exact True.intro) sb ⟨q, hq⟩ (dx_new (by rw [List.length_append, List.length_singleton]; omega) nm dd'), q3 r rv⟩
end
/-- {x: v} -/
def tX1 (X : Cx) (tk tv : TE) : TE := fun σ H Q => ∀ d, H d = none → tk σ (upd H d (DXo X.prog X.w d [])) fun y H1 => tv σ H1 fun v H2 => ∃ b k, H2 d = some (DXo X.prog X.w d []) ∧ y = .ref b ∧ SqT X.K H2 b (k.map kV) ∧ ∀ u, RelV v u → Q (.ref d) (upd H2 d (DXo X.prog X.w d [(k, b, u)]))
theorem pe_x1 {X : Cx} {k v : Expr} {pos : Pos} {tk tv : TE} (hu : X.A.units < cLine) (hk : PE X k tk) (hv : PE X v tv) : PE X (.Dict [some k] [v] pos) (tX1 X tk tv) := by
  refine ⟨fun pins s σ H Q I q => ?_⟩
  have hn := I.hok.fresh (Nat.le_refl s.heap.objs.size)
  have I1 := I.laid (a := s.heap.objs.size) (o := DXo X.prog X.w s.heap.objs.size []) (h' := s.heap.push { cls := .type "dict", data := .dict #[] }) (t' := s.toks) (fun _ _ q => Heap.get?_push_of_some _ q) (Nat.le_refl _) (dx_empty s.heap I.big)
  rw [arm_eval_Dict, zip_pairTrees [some k] [v] X.env pos rfl rfl, dictDisplay_pairs _ (by simp [pairTrees]) (by simp [pairTrees])]
  refine wpAny_bind (wpAny_standAt (wpAny_bind (wpAny_subDictH (knd := tupleKind (mixKind X.prog X.w)) (Q := fun d s' => wpAny (model X.prog X.w) X.A (pure (Value.ref d)) (EP X pins σ Q) X.xe s') (show X.A.units < cLine from hu) (by simp [pairTrees]) ?_)))
  refine pairTrees_cons_walk (thn (hk.run pins _ σ _ _ I1 (q _ hn)) fun u s1 ⟨x, H1, I2, rx, q1⟩ => thn (hv.run pins s1 σ H1 _ I2 q1) fun uv s2 ⟨y, H2, I3, ry, b, ks, hd, ex, hb, q2⟩ => pairTrees_nil_walk ?_)
  subst ex
  obtain rfl : u = Value.ref b := rx
  obtain ⟨z, nm, dd⟩ := dx_rd I3 (.inl hd) (fun _ h => nomatch h)
  refine ⟨[(ks, b, uv)], ⟨rfl, rfl, sqT_key I3 hb, trivial⟩, dd, fun h' tk dd' sb => wpAny_pure ?_⟩
  have dd' : h'.DictOfH (tupleKind (mixKind X.prog X.w)) s.heap.objs.size [(ks, b, uv)] := dd'
  obtain ⟨o, es, ep, hq, _⟩ := id dd'
  exact ⟨.ref s.heap.objs.size, _, d_write I3 (by rw [hd]; exact True.intro) sb ⟨o, hq⟩ (dx_new (by show 1 ≤ sizeLine; decide) nm dd'), rfl, q2 uv ry⟩
/-- the keys of the locked dict at d -/
def Itx (K : PySem.W.Frag) (P : Program) (w : World) (d : Addr) (o : Obj) (xs : List Ent) : It :=
  ⟨fun i H => H d = some (.frz o (DXo P w d xs)) ∧ i < xs.length, fun i H x H' => H' = H ∧ ∃ q, x = .ref q ∧ (xs[i]?).map (·.2.1) = some q, fun i H => H d = some (.frz o (DXo P w d xs)) ∧ xs.length ≤ i⟩
theorem Inv.frzX {X : Cx} {pins : List (Addr × Obj)} {σ : L2.St} {H : Hp} {s : Shared} {d : Addr} {o : Obj} {xs : List Ent} (I : Inv X pins σ H s) (h : H d = some (.frz o (DXo X.prog X.w d xs))) :
    (d == sysModules) = false ∧ s.heap.get? d = some o ∧ o.ExactDict ∧ ∃ (es : Array DictEntry) (ep : Nat), o.data = .dict es ep ∧ es.size = xs.length ∧
      ∀ (i : Nat) (x : Ent), xs[i]? = some x → ∃ (en : DictEntry), es[i]? = some en ∧ en.key = .ref x.2.1 := by
  obtain ⟨hd, ⟨z, hs, _, o', es, ep, ho, hx, hdt, he⟩, _, _⟩ := I.hok d _ h
  rw [hd] at ho
  cases ho
  refine ⟨hs, hd, hx, es, ep, hdt, size_of_entries he, fun i x e => ?_⟩
  have q := entry_at he i
  rw [e] at q
  exact ⟨_, q, rfl⟩
theorem turn_keysX {P : Program} {w : World} {K : PySem.W.Frag} {tg : Expr} {d : Addr} {o : Obj} {es : Array DictEntry} {ep : Nat} {xs : List Ent} (it : Addr) (hod : o.data = .dict es ep) : Turn P w K tg (Itx K P w d o xs) [it] it (fun i h => h.IsKeyIter it d i xs.length ep) where
  mem := by simp
  obj := fun i h st b hb => by
    have e : b = it := by simpa using hb
    subst e
    obtain ⟨oi, e, c, dd⟩ := st
    exact ⟨oi, e, fun v z => by rw [dd] at z; cases z⟩
  keep := fun i h h' st k => st.at fun oi e => k it (by simp) oi e
  item := by
    intro X hP hw hK hc i pins s σ H E I hf st hg
    subst hP hw hK
    obtain ⟨hd, hi⟩ := hg
    obtain ⟨f0, f1, f2, f3, f4, f5⟩ := hf it (by simp)
    obtain ⟨hs, hgd, hx, es', ep', hdt, hsz, ent⟩ := Inv.frzX I hd
    obtain ⟨rfl, rfl⟩ := dict_ep hod hdt
    obtain ⟨x, hkv⟩ : ∃ p, xs[i]? = some p := ⟨xs[i], List.getElem?_eq_getElem hi⟩
    obtain ⟨en, hen, hkey⟩ := ent i x hkv
    refine next_key_item st hgd hdt hsz hen fun h' st' sb => ?_
    have I1 : Inv X pins σ H { s with heap := h' } := I.turned (t' := s.toks) (fun b ob hb e => (sb.2 b hb).trans e) f0 f1 f3 f4 f5
    obtain ⟨oi, e, c, dd⟩ := id st'
    exact ⟨en.key, rfl, go_of (s := { s with heap := h' }) e c dd (by decide) ⟨.ref x.2.1, H, I1, hkey, ⟨rfl, x.2.1, rfl, by rw [hkv]; rfl⟩, st', fun b hb => (hf b hb).1⟩⟩
  done := by
    intro X hP hw hK hc i pins s σ H E I hf st hg
    subst hP hw hK
    obtain ⟨hd, hi⟩ := hg
    obtain ⟨f0, f1, f2, f3, f4, f5⟩ := hf it (by simp)
    obtain ⟨hs, hgd, hx, es', ep', hdt, hsz, ent⟩ := Inv.frzX I hd
    obtain ⟨rfl, rfl⟩ := dict_ep hod hdt
    exact next_key_end (I.ok.hd hc) st hgd hdt hsz hi fun h' eb => ⟨rfl, I.turned (t' := s.toks) (fun b ob hb e => eb b ob hb e) f0 f1 f3 f4 f5⟩
  self := fun A i s Q E st h => by
    refine wpAny_pyIter_slot st.typeIs F.slot_dict_keyiterator_iter (wpAny_call_entry F.slot_dict_keyiterator_iter st.typeIs F.entry_dict_keyiterator_iter ?_ (F.args_dict_keyiterator_iter_1 _))
    show wpAny _ _ (ret (.ref it)) _ _ s
    exact wpAny_pure ⟨_, rfl, "dict_keyiterator", _, st.typeIs, F.slot_dict_keyiterator_next.lookup, h⟩
def iKeysX (X : Cx) (td : TE) : TI := fun σ H R => td σ H fun x H1 => ∃ d o xs, x = .ref d ∧ H1 d = some (.frz o (DXo X.prog X.w d xs)) ∧ R (Itx X.K X.prog X.w d o xs) H1
theorem pi_keysX {X : Cx} {tg e : Expr} {td : TE} (he : PE X e td) : PI X tg e (iKeysX X td) := by
  refine ⟨fun pins s σ H R I h => ?_⟩
  refine thn (he.run pins s σ H _ I h) fun u s1 ⟨x, H1, I1, rx, d, o, xs, ex, hd, q⟩ => ?_
  subst ex
  obtain rfl : u = Value.ref d := rx
  obtain ⟨hs, hgd, hx, es, ep, hdt, hsz, ent⟩ := Inv.frzX I1 hd
  refine iter_keys hs hgd hx hdt (pi_one (tk := s1.toks) I1 _ (turn_keysX _ hdt) ⟨_, Heap.get?_push_size _ rfl, rfl, ?_⟩ q)
  rw [hsz] <;> rfl
theorem walk_keysX {K : PySem.W.Frag} {P : Program} {w : World} {d : Addr} {o : Obj} {xs : List Ent} : Walk (Itx K P w d o xs) xs.length (fun H => H d = some (.frz o (DXo P w d xs))) (fun i H x H' => H' = H ∧ ∃ q, x = .ref q ∧ (xs[i]?).map (·.2.1) = some q) :=
  ⟨fun _ _ hi q => ⟨q, hi⟩, fun _ q => ⟨q, Nat.le_refl _⟩, fun _ _ _ _ _ _ y => y⟩
theorem strs_ix : ∀ {vs : List Value} {zs : List Str}, vs.length = zs.length → (∀ (j : Nat) v z, vs[j]? = some v → zs[j]? = some z → ∃ t, v = .str z t) → StrsAre vs zs
  | [], [], _, _ => .nil
  | [], _ :: _, h, _ => by simp at h
  | _ :: _, [], h, _ => by simp at h
  | v :: vs, z :: zs, h, f => by
    obtain ⟨t, rfl⟩ := f 0 v z rfl rfl
    exact .cons z t (strs_ix (by simpa using h) fun j v z a b => f (j + 1) v z a b)
theorem sd_sorted {prog : Program} {w : World} {A : Around} {E : Value → Shared → Prop} {s : Shared} {d : Addr} {o : Obj} {es : Array DictEntry} {ep : Nat} {zs : List Str} {Q : Value → Shared → Prop} (lo : (d == sysModules) = false) (ho : s.heap.get? d = some o) (hx : o.ExactDict) (hd : o.data = .dict es ep) (hh : A.handled = none)
    (kz : es.size = zs.length) (ka : ∀ (i : Nat) en z, es[i]? = some en → zs[i]? = some z → ∃ t, en.key = .str z t) (few : zs.length < 64)
    (hQ : ∀ (h1 h2 : Heap) (tk : Nat) (out : Array Value) (c : Nat) (ws : List Str), (∀ b o, s.heap.get? b = some o → h1.get? b = some o) → (∀ b o, h1.get? b = some o → h2.get? b = some o) → h2.get? h1.objs.size = some (seqObj "list" out c) → StrsAre out.toList ws → sortedS ws = true → ws.Perm zs → Q (.ref h1.objs.size) { s with heap := h2, toks := tk }) :
    wpAny (model prog w) A (call (.builtin "sorted") [.ref d]) Q E s := by
  refine Calls.call_function_entry kind_sorted plain_sorted entry_sorted (args_sorted1 _) ?_
  unfold Builtin.«sorted»
  refine wpAny_bind (m := checkCount "sorted" 1 1 _) (wpAny_pure ?_)
  refine wpAny_bind (PySem.W.kdu_collect (A := A.in1) (kdl_raw lo hx hd) hh ho (by rw [kz, sizeLine_eq]; omega) fun h' tk acc hk hacc => ?_)
  have vl : acc.toList.length = zs.length := by rw [Array.length_toList, hacc.1, kz]
  have sa : StrsAre acc.toList zs := strs_ix vl fun j v z a b => by
    obtain ⟨en, e1, rfl⟩ := hacc.2 j v (by rw [← Array.getElem?_toList]; exact a)
    exact ka j en z e1 b
  refine wpAny_bind (wpAny_newList ?_ (by rw [vl, sizeLine_eq]; omega))
  have hoL : (h'.push (seqObj "list" acc.toList.toArray 0)).get? h'.objs.size = some (seqObj "list" acc.toList.toArray 0) := Heap.get?_push_size _ rfl
  refine wpAny_bind (wpAny_holding (wpAny_call_entry slot_list_sort ⟨_, hoL, rfl⟩ entry_list_sort (list_sort_treeK strKind_oneLt hoL sa.keysOf (fun v₁ v₂ rest e => keyKind_strs (by rw [← e]; exact sa)) (by rw [vl]; exact few) fun st hp hs => ⟨_, rfl, ?_⟩) (args_list_sort _)))
  obtain ⟨ws, h1, h2, h3⟩ := sorted_out_str sa hp hs
  obtain ⟨c, hc⟩ := sortedHeap_at (vs := acc.toList) (out := (arrOf st).map (·.2)) hoL
  refine wpAny_pure ⟨_, rfl, hQ h' _ _ _ c ws hk (fun b u q => ?_) hc h1 h3 h2⟩
  have lt := Heap.lt_size q
  show (sortedHeap (h'.push (seqObj "list" acc.toList.toArray 0)) h'.objs.size acc.toList ((arrOf st).map (·.2))).get? b = some u
  rw [sortedHeap_old (Nat.ne_of_lt lt) (by rw [size_push']; exact Nat.lt_succ_of_lt lt)]
  exact Heap.get?_push_of_some _ q
theorem pairs_at {prog : Program} {w : World} {es : List DictEntry} {kvs : List (Key × Value)} (h : Pairs (mixKind prog w) es kvs) : ∀ {i : Nat} {en : DictEntry}, es[i]? = some en → ∃ kv, kvs[i]? = some kv ∧ keyIs kv.1 en.key = true ∧ en.val = kv.2 := by
  induction h with
  | nil => intro i en e; simp at e
  | cons a b t ih =>
    intro i en e
    cases i with
    | zero => cases e; exact ⟨_, rfl, a, b⟩
    | succ i => exact ih e
theorem paired_back {α β : Type} {F : α → β → Prop} {l₁ : List α} {l₂ : List β} (h : Paired F l₁ l₂) : ∀ {j : Nat} {x : β}, l₂[j]? = some x → ∃ y, l₁[j]? = some y ∧ F y x := by
  induction h with
  | nil => intro j x e; simp at e
  | cons a t ih =>
    intro j x e
    cases j with
    | zero => cases e; exact ⟨_, rfl, a⟩
    | succ j => exact ih e
def rSortDT (X : Cx) : List V → Hp → VK → Prop := fun vs H Q => ∃ (a : Addr) (kvs : List (Key × V)) (zs : List Str), vs = [V.ref a] ∧ H a = some (.dK kvs) ∧ kvs.map (·.1) = zs.map Sum.inr ∧ zs.length < 64 ∧
  ∀ (ws : List Str) (p : Addr), ws.Perm zs → sortedS ws = true → H p = none → Q (.ref p) (upd H p (.lst (ws.map V.str)))
theorem cr_sortDT {X : Cx} (hc : X.calm = true) : CallR X (.builtin "sorted") (rSortDT X) := by
  intro pins s σ H vs us Q I r h
  obtain ⟨a, kvs, zs, rfl, ha, ek, few, q⟩ := h
  rw [Vals.ref1 r]
  obtain ⟨z, lo, vs, rel, o, es, ep, ho, hx, hd, ko, pr, nd⟩ := dk_of I.hok ha
  have l1 : kvs.length = vs.length := Paired.length rel
  have l2 : es.toList.length = vs.length := pr.length
  have l3 : kvs.length = zs.length := by have := congrArg List.length ek; rwa [List.length_map, List.length_map] at this
  have l4 : es.size = zs.length := by rw [← Array.length_toList]; omega
  refine sd_sorted lo ho hx hd (I.ok.hd hc) l4 (fun i en z e1 e2 => ?_) few fun h1 h2 tk out c ws k1 k2 at_ txt srt pm => ?_
  · obtain ⟨kv, h1, h2, _⟩ := pairs_at pr (by rw [Array.getElem?_toList]; exact e1)
    obtain ⟨p, hp, e, _⟩ := paired_back rel h1
    have q1 : (kvs.map (·.1))[i]? = some p.1 := by rw [List.getElem?_map, hp]; rfl
    rw [ek, List.getElem?_map, e2] at q1
    have q2 : Sum.inr z = p.1 := Option.some.inj q1
    have r := relV_key h2
    rw [← e, ← q2] at r
    exact r
  · have I1 : Inv X pins σ H { s with heap := h1, toks := tk } := I.kept (t' := tk) k1
    have nil : H h1.objs.size = none := I1.hok.fresh (Nat.le_refl _)
    have len : (ws.map V.str).length ≤ sizeLine := by rw [List.length_map, pm.length_eq, sizeLine_eq]; omega
    have J : Inv X pins σ (upd H h1.objs.size (.lst (ws.map V.str))) { s with heap := h2, toks := tk } := I1.laid (a := h1.objs.size) (o := .lst (ws.map V.str)) (h' := h2) (t' := tk) k2 (Nat.le_refl _) ⟨len, out.toList, c, vals_of_strs txt, by simpa using at_⟩
    exact ⟨.ref h1.objs.size, _, J, rfl, q ws _ pm srt nil⟩
end Fb
namespace Fb
open PySem PySem.Spec PyProof.Rows L2 LamX NdefX
theorem nfe_mixed {M : Model} {A : Around} {E : Value → Shared → Prop} {s : Shared} {scope : Scope} {globals : Addr} {closure : List (Str × Addr)} {binds : List (Str × Value)} {qual : Str} {func : Option Addr} {code : Value} {builtins : Addr} {Q : Env → Shared → Prop}
    (hl : ∀ x ∈ binds, scope.names.lookup x.1 = some .local) (hk : scope.kind = .function)
    (hQ : ∀ h', h'.Ns s.heap.objs.size (fun x => binds.reverse.lookup x) → Heap.SameBut s.heap.objs.size (pushCells (s.heap.push { cls := .type "frame", data := .dict #[] }) scope.names) h' →
      Q (newEnv scope s.heap.objs.size globals (cellsFrom (s.heap.objs.size + 1) scope.names closure) qual func code none builtins) { s with heap := h', toks := s.toks + binds.length }) :
    wpAny M A (newFunctionEnv scope globals closure binds qual func code none builtins) Q E s := by
  simp only [newFunctionEnv, Option.isSome_none, Bool.false_eq_true, if_false]
  simp only [newEnv] at hQ
  refine wpAny_bind (wpAny_alloc ?_)
  refine wpAny_bind (wpAny_layCells _ (fun name kind cells => by cases hkc : kind == NameKind.cell <;> simp [hkc]) _ _ _ _ ?_)
  rw [show ({ s with heap := s.heap.push { cls := .type "frame", data := .dict #[] } } : Shared).heap.objs.size = s.heap.objs.size + 1 from Heap.size_push ..]
  refine wpAny_bind ?_
  refine wpAny_forIn_list _
    (fun rest _ s' => ∃ done h', binds = done ++ rest ∧ s' = { s with heap := h', toks := s.toks + done.length } ∧
      h'.Ns s.heap.objs.size (fun x => done.reverse.lookup x) ∧
      Heap.SameBut s.heap.objs.size (pushCells (s.heap.push { cls := .type "frame", data := .dict #[] }) scope.names) h') _ ?_ ?_ binds _
    ⟨[], _, rfl, rfl, (Heap.Ns.new ..).keeps (pushCells_keeps _ _), Heap.SameBut.refl ..⟩
  · rintro ⟨name, v⟩ rest _ s' ⟨done, h', hb, rfl, hns, hsb⟩
    have hk' : Env.kindOf { scope, locals := s.heap.objs.size, globals, cells := cellsFrom (s.heap.objs.size + 1) scope.names closure, qual, func, code, frame := some s.heap.objs.size, builtins } name = some .local :=
      hl (name, v) (by rw [hb]; simp)
    have hp : (({ scope, locals := s.heap.objs.size, globals, cells := cellsFrom (s.heap.objs.size + 1) scope.names closure, qual, func, code, frame := some s.heap.objs.size, builtins } : Env).scope.kind == .class || (({ scope, locals := s.heap.objs.size, globals, cells := cellsFrom (s.heap.objs.size + 1) scope.names closure, qual, func, code, frame := some s.heap.objs.size, builtins } : Env).scope.kind == .module &&
        ({ scope, locals := s.heap.objs.size, globals, cells := cellsFrom (s.heap.objs.size + 1) scope.names closure, qual, func, code, frame := some s.heap.objs.size, builtins } : Env).locals != ({ scope, locals := s.heap.objs.size, globals, cells := cellsFrom (s.heap.objs.size + 1) scope.names closure, qual, func, code, frame := some s.heap.objs.size, builtins } : Env).globals)) = false := by
      show (scope.kind == .class || (scope.kind == .module && _)) = false
      rw [hk]; rfl
    simp only [storeName_local hk' hp]
    refine wpAny_bind (wpAny_nsSet hns fun h'' hns' hsb' => wpAny_pure ⟨done ++ [(name, v)], h'', by simp [hb], ?_, ?_, hsb.trans hsb'⟩)
    · simp [Nat.add_assoc]
    · rw [lookup_reverse_snoc]; exact hns'
  · rintro _ s' ⟨done, h', hb, rfl, hns, hsb⟩
    rw [List.append_nil] at hb; subst hb
    exact wpAny_pure (hQ h' hns hsb)
theorem cf_app : ∀ (names : List (Str × NameKind)) (n : Nat) (acc : List (Str × Addr)), cellsFrom n names acc = cellsFrom n names [] ++ acc
  | [], _, _ => rfl
  | (x, k) :: r, n, acc => by
    unfold cellsFrom
    split
    · rw [cf_app r (n + 1) ((x, n) :: acc), cf_app r (n + 1) [(x, n)], List.append_assoc, List.singleton_append]
    · exact cf_app r n acc
theorem cf_mem : ∀ (names : List (Str × NameKind)) (n : Nat) (x : Str) (c : Addr), (x, c) ∈ cellsFrom n names [] → (x, NameKind.cell) ∈ names
  | [], _, _, _, h => by cases h
  | (y, k) :: r, n, x, c, h => by
    unfold cellsFrom at h
    split at h
    · rename_i hk
      rw [cf_app] at h
      rcases List.mem_append.mp h with h | h
      · exact List.mem_cons_of_mem _ (cf_mem r _ x c h)
      · cases List.mem_singleton.mp h
        rw [eq_of_beq hk]
        exact List.mem_cons_self
    · exact List.mem_cons_of_mem _ (cf_mem r _ x c h)
/-- its names: the parameters, then the captured ones, then its own, of which some are cells -/
structure NScopeC (N ps fr : List Str) (sc : Scope) : Prop where
  kind : sc.kind = .function
  co : sc.isCoroutine = false
  gen : sc.isGenerator = false
  nd : N.Nodup
  pre : N.take (ps.length + fr.length) = ps ++ fr
  par : ∀ x ∈ ps, sc.names.lookup x = some .local
  ocell : ∀ y ∈ sc.names, y.2 = .cell → y.1 ∉ fr
  free : ∀ y ∈ sc.names, y.2 = .free → y.1 ∈ fr
  frk : ∀ x ∈ fr, sc.names.lookup x = some .free
def nscCB (N ps fr : List Str) (sc : Scope) : Bool :=
  decide (sc.kind = .function) && !sc.isCoroutine && !sc.isGenerator && decide N.Nodup && decide (N.take (ps.length + fr.length) = ps ++ fr) && ps.all (fun x => decide (sc.names.lookup x = some .local)) && sc.names.all (fun y => !decide (y.2 = .cell) || !decide (y.1 ∈ fr)) && sc.names.all (fun y => !decide (y.2 = .free) || decide (y.1 ∈ fr)) && fr.all (fun x => decide (sc.names.lookup x = some .free))
theorem nscopeC_by {N ps fr : List Str} {sc : Scope} (h : nscCB N ps fr sc = true) : NScopeC N ps fr sc := by
  unfold nscCB at h
  simp only [Bool.and_eq_true, Bool.not_eq_true', decide_eq_true_eq, List.all_eq_true, Bool.or_eq_true, decide_eq_false_iff_not] at h
  obtain ⟨⟨⟨⟨⟨⟨⟨⟨h1, h2⟩, h3⟩, h4⟩, h5⟩, h6⟩, h7⟩, h8⟩, h9⟩ := h
  exact ⟨h1, h2, h3, h4, h5, h6, fun y hy e => (h7 y hy).elim (fun z => absurd e z) id, fun y hy e => (h8 y hy).elim (fun z => absurd e z) id, h9⟩
abbrev envFC (F : NF) (f L : Addr) : Env := PySem.W.envX F.qual F.scope L f (.ref F.c) (cellsFrom (L + 1) F.scope.names F.cl)
/-- the context of its body, at its entry -/
def ncxC (CX : CXT) (P : Program) (w : World) (K : PySem.W.Frag) (mg : Str → Option Value) (base : Heap) (N : List Str) (F : NF) (f : Addr) (A : Around) (outer : List Env) (s : Shared) (H : Hp) (E : XK) : Cx where
  prog := P
  w := w
  K := K
  mg := mg
  base := base
  A := A.deeper (envFC F f s.heap.objs.size)
  N := N
  s_0 := s
  H_0 := H
  env := envFC F f s.heap.objs.size
  outer := outer
  stack := envFC F f s.heap.objs.size :: outer
  ex := []
  calm := true
  fn := fun x => decide (F.scope.names.lookup x = some .cell)
  pn := []
  xe := fun e s' => wpAny (model P w) (A.deeper (envFC F f s.heap.objs.size)) (leaving (envFC F f s.heap.objs.size) e) (fun _ s'' => CX outer H s E e s'') (fun e' s'' => CX outer H s E e' s'') s'
section
variable {CX : CXT} {P : Program} {w : World} {K : PySem.W.Frag} {mg : Str → Option Value} {base : Heap} {N ps fr : List Str} {F : NF} {f : Addr} {A : Around} {outer : List Env} {s : Shared} {H : Hp} {E : XK} {us : List Value} {vs : List V} {ws : List (Option V)}
theorem inv_startNC {h₁ : Heap} {tk : Nat} (S : NScopeC N ps fr F.scope) (hd : A.handled = none) (e0 : Env0 P w K mg base A outer s H) (hl : vs.length = ps.length) (r : Vals vs us) (C : CellsAt F.cl fr ws s.heap H) (hns : h₁.Ns s.heap.objs.size fun y => (ps.zip us).reverse.lookup y)
    (kp : ∀ b o, s.heap.get? b = some o → h₁.get? b = some o) (oc : CellsOk h₁ (s.heap.objs.size + 1) (cellsFrom (s.heap.objs.size + 1) F.scope.names [])) : Inv (ncxC CX P w K mg base N F f A outer s H E) [] (startF N vs ws) H { s with heap := h₁, toks := tk } := by
  have hpl : ps.length + fr.length ≤ N.length := by
    have q := congrArg List.length S.pre
    rw [List.length_take, List.length_append] at q
    omega
  have noA : ∀ b : Addr, b ∉ (ncxC CX P w K mg base N F f A outer s H E).ex := fun b z => absurd (show b ∈ ([] : List Addr) from z) (by simp)
  have cellK : ∀ {c : Addr} {v : Option Value}, s.heap.IsCell c v → h₁.IsCell c v := fun {c v} ⟨o, ho, hd⟩ => ⟨o, kp _ _ ho, hd⟩
  have split : ∀ {y : Str} {c : Addr}, (cellsFrom (s.heap.objs.size + 1) F.scope.names F.cl).lookup y = some c → (cellsFrom (s.heap.objs.size + 1) F.scope.names []).lookup y = some c ∨ ((cellsFrom (s.heap.objs.size + 1) F.scope.names []).lookup y = none ∧ F.cl.lookup y = some c) := fun {y c} e => by
    rw [cf_app, List.lookup_append] at e
    cases q : (cellsFrom (s.heap.objs.size + 1) F.scope.names []).lookup y with
    | some c' => rw [q] at e; exact .inl e
    | none => rw [q] at e; exact .inr ⟨rfl, e⟩
  have new : ∀ {y : Str} {c : Addr}, (cellsFrom (s.heap.objs.size + 1) F.scope.names []).lookup y = some c → h₁.IsCell c none ∧ s.heap.objs.size + 1 ≤ c := fun e => oc.empty _ _ (PySem.mem_of_lookup e)
  have old : ∀ {y : Str} {c : Addr}, F.cl.lookup y = some c → c < s.heap.objs.size := fun {y c} e => by
    obtain ⟨_, v, o, ho, _⟩ := C.all _ _ e
    exact Heap.lt_size ho
  refine ⟨⟨e0.mod, S.kind, rfl, rfl, Nat.le_refl _, fun x y c h1 h2 => ?_, fun y hy => ?_, fun y c z e => ?_, fun _ => hd, Around.frames_deeper e0.frames, .inr ⟨rfl, rfl⟩, fun b z => absurd z (noA b), e0.bs, e0.bsz, fun b _ _ => noA b,
      fun b z => absurd z (noA b), e0.funs, e0.frf⟩,
    rfl, e0.bare, Un.kept kp, ⟨_, hns, fun i y v e1 e2 e3 => ?_⟩, fun y c e => ?_, e0.hok.fresh (Nat.le_refl _), fun y c e => ?_, fun q hq => absurd (show q ∈ ([] : List (Addr × Obj)) ++ [] from hq) (by simp), e0.hok.kept kp, ?_⟩
  · rcases split h1 with a | ⟨_, a⟩ <;> rcases split h2 with b | ⟨_, b⟩
    · exact name_of_addr oc.apart (PySem.mem_of_lookup a) (PySem.mem_of_lookup b)
    · exact absurd (Nat.lt_of_succ_le (new a).2) (Nat.lt_asymm (old b))
    · exact absurd (Nat.lt_of_succ_le (new b).2) (Nat.lt_asymm (old a))
    · exact C.inj _ _ _ a b
  · have hy : F.scope.names.lookup y = some .cell ∨ F.scope.names.lookup y = some .free := hy
    show ∃ c, (cellsFrom (s.heap.objs.size + 1) F.scope.names F.cl).lookup y = some c
    rw [cf_app, List.lookup_append]
    rcases hy with hy | hy
    · obtain ⟨c, hc⟩ := cell_has (n := s.heap.objs.size + 1) hy
      exact ⟨c, by rw [hc]; rfl⟩
    · obtain ⟨i, hi⟩ := List.mem_iff_getElem?.mp (S.free _ (PySem.mem_of_lookup hy) rfl)
      obtain ⟨c, hc, _⟩ := C.has i y hi
      cases q : (cellsFrom (s.heap.objs.size + 1) F.scope.names []).lookup y with
      | some c' => exact ⟨c', rfl⟩
      | none => exact ⟨c, hc⟩
  · have z : decide (F.scope.names.lookup y = some .cell) = true := z
    obtain ⟨c', hc⟩ := cell_has (n := s.heap.objs.size + 1) (of_decide_eq_true z)
    rcases split e with a | ⟨a, _⟩
    · have := (new a).2
      show s.heap.objs.size ≤ c
      omega
    · rw [hc] at a; cases a
  · have e1 : N[i]? = some y := e1
    have clen := C.len
    unfold startF at e2
    by_cases h1 : i < ps.length
    · have hq : (ps ++ fr)[i]? = some y := by
        rw [← S.pre, List.getElem?_take_of_lt (by omega)]
        exact e1
      rw [List.getElem?_append_left h1] at hq
      rw [List.getElem?_append_left (by rw [List.length_map]; omega), List.getElem?_map] at e2
      have ha : vs[i]? = some v := by
        cases e : vs[i]? with
        | none => rw [e] at e2; cases e2
        | some a => rw [e] at e2; cases e2; rfl
      obtain ⟨u, hu, rv⟩ := r.get ha
      have ndP : ps.Nodup := by
        have q := S.nd.sublist (List.take_sublist (ps.length + fr.length) N)
        rw [S.pre] at q
        exact (List.nodup_append.mp q).1
      exact ⟨u, rv, .inl ⟨S.par y (List.mem_of_getElem? hq), zip_look ndP hq hu⟩⟩
    · rw [List.getElem?_append_right (by rw [List.length_map]; omega), List.length_map] at e2
      by_cases h2 : i < ps.length + fr.length
      · have hq : (ps ++ fr)[i]? = some y := by
          rw [← S.pre, List.getElem?_take_of_lt (by omega)]
          exact e1
        rw [List.getElem?_append_right (by omega)] at hq
        rw [List.getElem?_append_left (by omega), hl] at e2
        obtain ⟨c, hc, hv⟩ := C.has (i - ps.length) y hq
        obtain ⟨u, ru, hu⟩ := hv v e2
        have yf := List.mem_of_getElem? hq
        refine ⟨u, ru, .inr ⟨.inr (S.frk y yf), c, ?_, cellK hu⟩⟩
        show (cellsFrom (s.heap.objs.size + 1) F.scope.names F.cl).lookup y = some c
        rw [cf_app, List.lookup_append]
        cases q : (cellsFrom (s.heap.objs.size + 1) F.scope.names []).lookup y with
        | some c' => exact absurd yf (S.ocell _ (cf_mem _ _ _ _ (PySem.mem_of_lookup q)) rfl)
        | none => exact hc
      · rw [List.getElem?_append_right (by omega), List.getElem?_replicate] at e2
        split at e2 <;> cases e2
  · rcases split e with a | ⟨_, a⟩
    · exact ⟨none, (new a).1⟩
    · obtain ⟨v, z⟩ := (C.all y c a).2
      exact ⟨v, cellK z⟩
  · rcases split e with a | ⟨_, a⟩
    · exact e0.hok.fresh (by have := (new a).2; omega)
    · exact (C.all y c a).1
  · have clen := C.len
    unfold startF
    show _ = N.length
    rw [List.length_append, List.length_append, List.length_map, List.length_replicate]
    omega
end
section
variable {CX : CXT} {P : Program} {w : World} {K : PySem.W.Frag} {mg : Str → Option Value} {base : Heap} {N ps fr : List Str} {F : NF} {f : Addr} {k j : Nat} {sp : List (Option V) → Sp}
/-- THE RULE: a nested def by its body -/
theorem nokC_of (S : NScopeC N ps fr F.scope) (hb : ∀ (doc pm ctv : Value) (us : List Value), us.length = ps.length → bindArgs (F.fd doc pm ctv) ⟨us, []⟩ = pure (ps.zip us)) (len : ∀ ws vs H Q E, sp ws vs H Q E → vs.length = ps.length)
    (hbody : ∀ (A : Around) (outer : List Env) (s : Shared) (H : Hp) (vs : List V) (ws : List (Option V)) (Q : VK) (E : XK), Room k (A.deeper (envFC F f s.heap.objs.size)) → H f = some (FnO f F) → H F.c = some (CodeO F.c F.qual) → ws.length = fr.length → sp ws vs H Q E →
      ∃ t, PSs (ncxC CX P w K mg base N F f A outer s H E) F.body t ∧ t { nx := fun _ H' => Q .non H', rt := Q } (startF N vs ws) H) :
    NOk P w K mg base CX (k + 1) f F ps fr sp := by
  refine ⟨len, fun A outer s H us vs ws Q E hr e0 hf hc C r hsp => ?_⟩
  have hl := len _ _ _ _ _ hsp
  have lim : s.heap.NoLimit := e0.mod.nolimit.keeps fun b o e => (e0.bs b o e).1
  obtain ⟨od, sl, doc, pm, ctv, ho⟩ := fnO_at e0.hok hf
  refine codeAny_call_function hr.depth ho rfl S.co S.gen rfl (codeO_at e0.hok hc) ?_
  rw [hb doc pm ctv us (by rw [← r.length]; exact hl)]
  refine wpAny_pure (nfe_mixed (fun ⟨n, _⟩ hy => S.par n (List.of_mem_zip hy).1) S.kind (fun h₁ hns hsb => ?_))
  have kp : ∀ b o, s.heap.get? b = some o → h₁.get? b = some o := fun b o e => hsb.extBut b o (Nat.ne_of_lt (Heap.lt_size e)) (pushCells_keeps _ _ _ _ (Heap.get?_push_of_some _ e))
  refine ⟨lim.keeps kp, ?_⟩
  show codeAny _ _ (.func F.body (envFC F f s.heap.objs.size)) _ _
  refine codeAny_func ?_
  have oc0 := cellsFrom_ok F.scope.names (s.heap.push { cls := .type "frame", data := .dict #[] }) (s.heap.objs.size + 1) [] ⟨fun _ _ hm => (nomatch hm), List.Pairwise.nil⟩ (by rw [Heap.size_push]; exact Nat.le_refl _)
  rw [Heap.size_push] at oc0
  have oc : CellsOk h₁ (s.heap.objs.size + 1) (cellsFrom (s.heap.objs.size + 1) F.scope.names []) := ⟨fun n c hm => ⟨(oc0.empty n c hm).1.sameBut hsb (Nat.ne_of_gt (Nat.lt_of_succ_le (oc0.empty n c hm).2)), (oc0.empty n c hm).2⟩, oc0.apart⟩
  obtain ⟨t, ht, hq⟩ := hbody A outer s H vs ws Q E (hr.deeper _) hf hc C.len hsp
  have I : Inv (ncxC CX P w K mg base N F f A outer s H E) [] (startF N vs ws) H { s with heap := h₁, toks := s.toks + (ps.zip us).length } := inv_startNC S hr.hd e0 hl r C hns kp oc
  refine wpAny_mono (ht.run [] _ (startF N vs ws) H _ I hq) (fun fl s' hs => ?_) fun e s' hs => hs
  have fin : ∀ {σ' : L2.St} {H' : Hp} {v : V} {u : Value}, Inv (ncxC CX P w K mg base N F f A outer s H E) [] σ' H' s' → L2.RelV v u → Q v H' → CE outer P w H s Q u s' :=
    fun {σ' H' v u} J rv q => ⟨v, H', J.os, J.bare, J.base, J.hok, rv, q⟩
  cases fl with
  | ret u =>
    obtain ⟨v, σ', H', J, rv, q⟩ := hs
    exact fin J rv q
  | next =>
    obtain ⟨σ', H', J, q⟩ := hs
    exact fin (v := V.non) (u := Value.none) J rfl q
  | brk =>
    obtain ⟨_, _, _, q⟩ := hs
    exact False.elim q
  | cont =>
    obtain ⟨_, _, _, q⟩ := hs
    exact False.elim q
end
section
variable {Z : Cx} {pins : List (Addr × Obj)} {σ : L2.St} {H : Hp} {s : Shared} {cl : List (Str × Addr)} {fr : List Str} {ws : List (Option V)}
/-- what the cells held when the running frame began they hold still (the frame is not theirs) -/
theorem cells_later (C : CellsAt cl fr ws Z.s_0.heap Z.H_0) (hx : Z.ex = []) (I : Inv Z pins σ H s) : CellsAt cl fr ws s.heap H := by
  have nx : ∀ c, c ∉ Z.ex := fun c => by rw [hx]; exact List.not_mem_nil
  have kp : ∀ y c, cl.lookup y = some c → ∀ v, Z.s_0.heap.IsCell c v → s.heap.IsCell c v := fun y c e v ⟨o, ho, hd⟩ => by
    obtain ⟨sl, q⟩ := I.base.any ho (C.all y c e).1 (nx c)
    exact ⟨_, q, hd⟩
  refine ⟨C.len, fun y c e => ?_, C.inj, fun i y e => ?_⟩
  · obtain ⟨n, v, z⟩ := C.all y c e
    refine ⟨?_, v, kp y c e v z⟩
    obtain ⟨o, ho, _⟩ := z
    exact I.base.free c o ho n (nx c)
  · obtain ⟨c, hc, hv⟩ := C.has i y e
    refine ⟨c, hc, fun v ev => ?_⟩
    obtain ⟨u, r, z⟩ := hv v ev
    exact ⟨u, r, kp y c hc _ z⟩
end
/-- x(..), x a name that holds the function F handed in -/
def tCallG (F : NF) (f : Addr) (i : Nat) (sp : Sp) (E : XK) (t : TA) : TE := fun σ H Q => σ[i]? = some (some (.ref f)) ∧ H f = some (FnO f F) ∧
  t σ H fun vs H1 => H1 f = some (FnO f F) ∧ H1 F.c = some (CodeO F.c F.qual) ∧ sp vs H1 Q E
theorem pe_callg {Z : Cx} {CX : CXT} {F : NF} {f : Addr} {ps fr : List Str} {i j k : Nat} {x : Str} {ws : List (Option V)} {sp : List (Option V) → Sp} {E : XK} {t : TA} {e : Expr} {es : List Expr} {p pos : Pos}
    (Fn : NOk Z.prog Z.w Z.K Z.mg Z.base CX k f F ps fr sp) (C : CellsAt F.cl fr ws Z.s_0.heap Z.H_0) (hex : Z.ex = []) (hr : Room j Z.A) (hk : k ≤ j) (hx : Passes CX Z E) (hN : Z.N[i]? = some x) (hv : Vis Z.env.scope x) (ha : PA Z (e :: es) t)
    (hd : (x == ("__debug__" : Str)) = false := by decide) (hcd : (x == ("__classdict__" : Str)) = false := by decide)
    (he : starEach (e :: es) Z.env = (false, eval e Z.env) :: starEach es Z.env := by rfl) (hpl : (backTo pos (starEach es Z.env)).any (·.1) = false := by rfl) :
    PE Z (.Call (.Name x p) (e :: es) [] pos) (tCallG F f i (sp ws) E t) := by
  refine ⟨fun pins s σ H Q I h => ?_⟩
  obtain ⟨hs, hf, ht⟩ := h
  refine wpAny_Call_Name_kw (thn ((pe_var (pos := p) hN hv hd hcd).run pins s σ H (fun v H1 => v = .ref f ∧ H1 = H) I ⟨.ref f, hs, rfl, rfl⟩) fun u s1 ⟨v, H1, I1, r1, q1⟩ => ?_)
  obtain ⟨ev, eH⟩ := q1
  subst ev
  rw [eH] at I1
  obtain rfl : u = Value.ref f := r1
  refine PySem.W.callWith_F (first := []) (fnAt_of I1 hf) (thn (ha.run pos pins s1 σ H _ I1 ht) fun us s2 ⟨vs, H2, I2, r, h1, h2, q⟩ => ⟨fnAt_of I2 h1, ?_⟩) he hpl
  show wpAny _ _ (call (.ref f) us) _ _ _
  refine wpAny_call (codeAny_mono (Fn.run Z.A Z.stack s2 H2 us vs ws Q E (hr.mono hk) I2.env0 h1 h2 (cells_later C hex I2) r q) fun r s' hq => ?_)
  cases r with
  | error e => exact hx pins σ H2 s2 e s' I2 hq
  | ok fl =>
    cases fl with
    | ret u => exact I2.after hq
    | next => exact False.elim hq
    | brk => exact False.elim hq
    | cont => exact False.elim hq
/-- x(..), x a def whose promise is told of the very state at the call -/
theorem pe_callS {X : Cx} {CX : CXT} {x : Str} {g : Addr} {k : Nat} {pg : Arguments} {bg : List Stmt} {sg : Scope} {dV kV doc pm cdv ct oc : Value} {an od : Option Addr} {osl : Array (Option Value)} {Ng ps : List Str} {sp : L2.St → Sp} {E : XK} {t : TA} {e : Expr} {es : List Expr} {p pos : Pos}
    (hg : Gl X x) (hm : X.mg x = some (.ref g)) (hk : PySem.W.keepIn X.K (.ref g) = true) (lk : X.K.lookup g = some ⟨oc, od, .func (PySem.W.fnOf x x pg bg sg dV kV doc pm an cdv ct), osl⟩) (hcg : PySem.W.codeIn X.K cdv x = true) (hb : L2.Binds X.K (PySem.W.fnOf x x pg bg sg dV kV doc pm an cdv ct) ps [])
    (Sg : FnScope Ng ps sg) (hr : Room (k + 1) X.A) (hx : Passes CX X E) (ha : PA X (e :: es) t) (len : ∀ σ vs H Q, sp σ vs H Q E → vs.length = ps.length)
    (hbody : ∀ (pins : List (Addr × Obj)) (s : Shared) (σ : L2.St) (H : Hp) (vs : List V) (Q : VK), Inv X pins σ H s → Room k (X.A.deeper (envOfC x sg s.heap.objs.size g cdv)) → sp σ vs H Q E →
      ∃ t, PSs (cxOf CX X.prog X.w X.K X.mg X.base Ng x sg g cdv X.A X.stack s H E) bg t ∧ t { nx := fun _ H' => Q .non H', rt := Q } (L2.start Ng vs) H)
    (hdb : (x == ("__debug__" : Str)) = false := by decide) (he : starEach (e :: es) X.env = (false, eval e X.env) :: starEach es X.env := by rfl) (hpl : (backTo pos (starEach es X.env)).any (·.1) = false := by rfl) :
    PE X (.Call (.Name x p) (e :: es) [] pos) (fun σ H Q => t σ H fun vs H1 => sp σ vs H1 Q E) := by
  refine ⟨fun pins s σ H Q I h => ?_⟩
  refine wpAny_Call_Name_kw (ld_glob I hg hm ?_ hdb)
  refine PySem.W.callWith_K (h₀ := X.base) I.ok.mod.kin hk (thn (ha.run pos pins s σ H _ I h) fun us s1 ⟨vs, H1, I1, r, q⟩ => ⟨I1.kIn, ?_⟩) he hpl
  have hl := len _ _ _ _ q
  have rc : codeAny (model X.prog X.w) X.A (.call (.ref g) ⟨us, []⟩) (CR CX X.stack X.prog X.w H1 s1 Q E) s1 :=
    run_ofS (N := Ng) (ps := ps) lk hcg Sg hr I1.env0 (by
      have b := hb s1 us I1.kIn (by rw [List.append_nil, ← r.length]; exact hl)
      rw [List.append_nil] at b
      exact b) r hl fun hr' => hbody pins s1 σ H1 vs Q I1 hr' q
  refine wpAny_call (codeAny_mono rc fun r s2 hq => ?_)
  cases r with
  | error e => exact hx pins σ H1 s1 e s2 I1 hq
  | ok fl =>
    cases fl with
    | ret u => exact I1.after hq
    | next => exact False.elim hq
    | brk => exact False.elim hq
    | cont => exact False.elim hq
end Fb
namespace Fb
open PySem PySem.Spec PyProof.Rows L2
def topS (i : Nat) : Stmt := PySem.Challenge.pw_farbetween_k67_side_by_side.main.body.getD i (.Pass ⟨0, 0, 0, 0⟩)
abbrev s_m_NoMachine_init : Stmt := inClass (topS 2) 0
abbrev s_m_NoSign_init : Stmt := inClass (topS 3) 0
abbrev s_p_is_whole : Stmt := topS 8
theorem sc_p_is_whole : FnScope ["thing"] ["thing"] (defScope s_p_is_whole) := ⟨rfl, rfl, rfl, by decide +kernel, rfl, by decide +kernel, by decide +kernel⟩
abbrev s_p_is_name : Stmt := topS 9
theorem sc_p_is_name : FnScope ["thing", "letter"] ["thing"] (defScope s_p_is_name) := ⟨rfl, rfl, rfl, by decide +kernel, rfl, by decide +kernel, by decide +kernel⟩
abbrev s_p_common_part : Stmt := topS 11
theorem sc_p_common_part : FnScope ["one", "other"] ["one", "other"] (defScope s_p_common_part) := ⟨rfl, rfl, rfl, by decide +kernel, rfl, by decide +kernel, by decide +kernel⟩
abbrev s_m_Machine_init : Stmt := inClass (topS 14) 0
theorem sc_m_Machine_init : FnScope ["self", "many", "steps", "room", "sign", "weights"] ["self", "many", "steps"] (defScope s_m_Machine_init) := ⟨rfl, rfl, rfl, by decide +kernel, rfl, by decide +kernel, by decide +kernel⟩
abbrev s_m_Machine_eq : Stmt := inClass (topS 14) 1
abbrev s_m_Machine_len : Stmt := inClass (topS 14) 2
abbrev s_p_is_room : Stmt := topS 15
theorem sc_p_is_room : FnScope ["thing", "many"] ["thing", "many"] (defScope s_p_is_room) := ⟨rfl, rfl, rfl, by decide +kernel, rfl, by decide +kernel, by decide +kernel⟩
abbrev s_p_are_weights : Stmt := topS 16
theorem sc_p_are_weights : FnScope ["thing", "many", "weight"] ["thing", "many"] (defScope s_p_are_weights) := ⟨rfl, rfl, rfl, by decide +kernel, rfl, by decide +kernel, by decide +kernel⟩
abbrev s_p_is_step : Stmt := topS 17
theorem sc_p_is_step : FnScope ["thing", "many", "room", "sign", "weights"] ["thing", "many"] (defScope s_p_is_step) := ⟨rfl, rfl, rfl, by decide +kernel, rfl, by decide +kernel, by decide +kernel⟩
abbrev s_p_are_steps : Stmt := topS 18
theorem sc_p_are_steps : FnScope ["thing", "many", "step", "room", "sign", "weights"] ["thing", "many"] (defScope s_p_are_steps) := ⟨rfl, rfl, rfl, by decide +kernel, rfl, by decide +kernel, by decide +kernel⟩
abbrev s_p_lowest : Stmt := topS 19
theorem sc_p_lowest : FnScope ["weights", "common", "weight"] ["weights"] (defScope s_p_lowest) := ⟨rfl, rfl, rfl, by decide +kernel, rfl, by decide +kernel, by decide +kernel⟩
abbrev s_p_doors_of : Stmt := topS 20
theorem sc_p_doors_of : FnScope ["machine", "doors", "room", "sign", "weights"] ["machine"] (defScope s_p_doors_of) := ⟨rfl, rfl, rfl, by decide +kernel, rfl, by decide +kernel, by decide +kernel⟩
abbrev s_p_are_unlike : Stmt := topS 23
theorem sc_p_are_unlike : FnScope ["names", "name"] ["names"] (defScope s_p_are_unlike) := ⟨rfl, rfl, rfl, by decide +kernel, rfl, by decide +kernel, by decide +kernel⟩
abbrev s_p_are_signs : Stmt := topS 24
theorem sc_p_are_signs : FnScope ["thing", "sign"] ["thing"] (defScope s_p_are_signs) := ⟨rfl, rfl, rfl, by decide +kernel, rfl, by decide +kernel, by decide +kernel⟩
abbrev s_p_check_signs : Stmt := topS 25
theorem sc_p_check_signs : FnScope ["thing"] ["thing"] (defScope s_p_check_signs) := ⟨rfl, rfl, rfl, by decide +kernel, rfl, by decide +kernel, by decide +kernel⟩
abbrev s_p_found_machine : Stmt := topS 26
theorem sc_p_found_machine : FnScope ["first", "goals_of", "numbers", "found", "steps", "at", "sign", "goals", "room"] ["first", "goals_of"] (defScope s_p_found_machine) := ⟨rfl, rfl, rfl, by decide +kernel, rfl, by decide +kernel, by decide +kernel⟩
abbrev s_p_sorted_by_sign : Stmt := topS 27
theorem sc_p_sorted_by_sign : FnScope ["goals_by_sign", "sign"] ["goals_by_sign"] (defScope s_p_sorted_by_sign) := ⟨rfl, rfl, rfl, by decide +kernel, rfl, by decide +kernel, by decide +kernel⟩
abbrev s_p_number_new : Stmt := topS 28
theorem sc_p_number_new : FnScope ["numbers", "found", "goals", "thing", "weight"] ["numbers", "found", "goals"] (defScope s_p_number_new) := ⟨rfl, rfl, rfl, by decide +kernel, rfl, by decide +kernel, by decide +kernel⟩
abbrev s_p_weights_of : Stmt := topS 29
theorem sc_p_weights_of : FnScope ["goals", "numbers", "weights", "thing", "weight"] ["goals", "numbers"] (defScope s_p_weights_of) := ⟨rfl, rfl, rfl, by decide +kernel, rfl, by decide +kernel, by decide +kernel⟩
abbrev s_p_beside : Stmt := topS 30
theorem sc_p_beside : FnScope ["shared", "one", "other", "ours", "theirs", "goals_of"] ["shared", "one", "other"] (defScope s_p_beside) := ⟨rfl, rfl, rfl, by decide +kernel, rfl, by decide +kernel, by decide +kernel⟩
abbrev s_p_goals_beside : Stmt := topS 31
theorem sc_p_goals_beside : FnScope ["shared", "pair", "ours", "theirs", "goals", "sign"] ["shared", "pair", "ours", "theirs"] (defScope s_p_goals_beside) := ⟨rfl, rfl, rfl, by decide +kernel, rfl, by decide +kernel, by decide +kernel⟩
abbrev s_p_goals_at_once : Stmt := topS 32
theorem sc_p_goals_at_once : FnScope ["ours", "theirs", "to", "weight", "there", "other"] ["ours", "theirs"] (defScope s_p_goals_at_once) := ⟨rfl, rfl, rfl, by decide +kernel, rfl, by decide +kernel, by decide +kernel⟩
abbrev s_p_goals_of_one : Stmt := topS 33
theorem sc_p_goals_of_one : FnScope ["pair", "ours", "theirs", "x", "y", "near", "far", "here", "there", "to", "weight"] ["pair", "ours", "theirs"] (defScope s_p_goals_of_one) := ⟨rfl, rfl, rfl, by decide +kernel, rfl, by decide +kernel, by decide +kernel⟩
abbrev s_l_well : Stmt := topS 36
theorem sc_l_well : FnScope ["_law_cell"] ["_law_cell"] (defScope s_l_well) := ⟨rfl, rfl, rfl, by decide +kernel, rfl, by decide +kernel, by decide +kernel⟩
abbrev s_l_draw : Stmt := topS 37
theorem sc_l_draw : FnScope ["_law_well_here", "_law_many", "_law_digit", "_law_prime", "_law_number"] ["_law_well_here", "_law_many"] (defScope s_l_draw) := ⟨rfl, rfl, rfl, by decide +kernel, rfl, by decide +kernel, by decide +kernel⟩
abbrev s_l_one : Stmt := topS 38
theorem sc_l_one : FnScope ["_law_well_here", "_law_some"] ["_law_well_here", "_law_some"] (defScope s_l_one) := ⟨rfl, rfl, rfl, by decide +kernel, rfl, by decide +kernel, by decide +kernel⟩
abbrev s_l_names : Stmt := topS 39
theorem sc_l_names : FnScope ["_law_well_here", "_law_many", "_law_some", "_law_at", "_law_found", "_law_last", "_law_word", "_law_k"] ["_law_well_here", "_law_many"] (defScope s_l_names) := ⟨rfl, rfl, rfl, by decide +kernel, rfl, by decide +kernel, by decide +kernel⟩
abbrev s_l_weights : Stmt := topS 40
theorem sc_l_weights : FnScope ["_law_well_here", "_law_many", "_law_way", "_law_found", "_law_k", "_law_at", "_law_room"] ["_law_well_here", "_law_many"] (defScope s_l_weights) := ⟨rfl, rfl, rfl, by decide +kernel, rfl, by decide +kernel, by decide +kernel⟩
abbrev s_l_machine : Stmt := topS 41
theorem sc_l_machine : FnScope ["_law_well_here", "_law_signs", "_law_most", "_law_many", "_law_way", "_law_bare", "_law_few", "_law_steps", "_law_room", "_law_at", "_law_sign"] ["_law_well_here", "_law_signs", "_law_most"] (defScope s_l_machine) := ⟨rfl, rfl, rfl, by decide +kernel, rfl, by decide +kernel, by decide +kernel⟩
abbrev s_l_divided : Stmt := topS 42
theorem sc_l_divided : FnScope ["_law_weights_here", "_law_by_here", "_law_weight", "_law_one_here", "_law_other"] ["_law_weights_here"] (defScope s_l_divided) := ⟨rfl, rfl, rfl, by decide +kernel, rfl, by decide +kernel, by decide +kernel⟩
abbrev s_l_by : Stmt := topS 43
theorem sc_l_by : FnScope ["_law_steps", "_law_room", "_law_here", "_law_sign", "_law_weights_here"] ["_law_steps", "_law_room"] (defScope s_l_by) := ⟨rfl, rfl, rfl, by decide +kernel, rfl, by decide +kernel, by decide +kernel⟩
abbrev s_l_both : Stmt := topS 44
theorem sc_l_both : FnScope ["_law_mine", "_law_yours", "_law_found", "_law_x", "_law_weight", "_law_y", "_law_more"] ["_law_mine", "_law_yours"] (defScope s_l_both) := ⟨rfl, rfl, rfl, by decide +kernel, rfl, by decide +kernel, by decide +kernel⟩
abbrev s_l_onward : Stmt := topS 45
theorem sc_l_onward : FnScope ["_law_shared", "_law_pair", "_law_mine", "_law_yours", "_law_sign", "_law_x", "_law_y", "_law_sums", "_law_found", "_law_some", "_law_to", "_law_weight"] ["_law_shared", "_law_pair", "_law_mine", "_law_yours", "_law_sign"] (defScope s_l_onward) := ⟨rfl, rfl, rfl, by decide +kernel, rfl, by decide +kernel, by decide +kernel⟩
abbrev s_l_due : Stmt := topS 46
theorem sc_l_due : FnScope ["_law_shared", "_law_mine", "_law_yours", "_law_order", "_law_told", "_law_at", "_law_one_here", "_law_other", "_law_sign", "_law_some", "_law_pair", "_law_weight", "_law_steps", "_law_room", "_law_weights_here", "_law_row"] ["_law_shared", "_law_mine", "_law_yours"] (defScope s_l_due) := ⟨rfl, rfl, rfl, by decide +kernel, rfl, by decide +kernel, by decide +kernel⟩
abbrev s_l_said : Stmt := topS 47
theorem sc_l_said : FnScope ["_law_deed", "_law_found"] ["_law_deed"] (defScope s_l_said) := ⟨rfl, rfl, rfl, by decide +kernel, rfl, by decide +kernel, by decide +kernel⟩
abbrev s_l_right : Stmt := topS 48
theorem sc_l_right : FnScope ["_law_well_here", "_law_names_here", "_law_rows", "_law_k", "_law_signs", "_law_shared", "_law_first", "_law_second", "_law_kept", "_law_due_here", "_law_turn", "_law_name", "_law_many", "_law_steps"] ["_law_well_here"] (defScope s_l_right) := ⟨rfl, rfl, rfl, by decide +kernel, rfl, by decide +kernel, by decide +kernel⟩
abbrev s_law : Stmt := topS 49
theorem sc_law : FnScope ["_law_script", "_law_cell"] ["_law_script"] (defScope s_law) := ⟨rfl, rfl, rfl, by decide +kernel, rfl, by decide +kernel, by decide +kernel⟩
abbrev s_n_goals_of : Stmt := (defBody s_p_beside).getD 3 (.Pass ⟨0, 0, 0, 0⟩)
theorem sc_n_goals_of : NScopeC ["thing", "ours", "shared", "theirs", "x", "y"] ["thing"] ["ours", "shared", "theirs"] (defScope s_n_goals_of) := nscopeC_by (by decide +kernel)
set_option maxHeartbeats 4000000 in
structure Txt (K : PySem.W.Frag) (mg : Str → Option Value) where
  c_FarError : Addr
  g_FarError : mg "FarError" = some (.ref c_FarError)
  c_NoMachine : Addr
  g_NoMachine : mg "NoMachine" = some (.ref c_NoMachine)
  c_NoSign : Addr
  g_NoSign : mg "NoSign" = some (.ref c_NoSign)
  c_TooMany : Addr
  g_TooMany : mg "TooMany" = some (.ref c_TooMany)
  c_Machine : Addr
  g_Machine : mg "Machine" = some (.ref c_Machine)
  f_m_NoMachine_init : Addr
  d_m_NoMachine_init : FuncData
  F_m_NoMachine_init : Fun K "__init__" "NoMachine.__init__" s_m_NoMachine_init f_m_NoMachine_init d_m_NoMachine_init
  b_m_NoMachine_init : Binds K d_m_NoMachine_init ["self", "part"] []
  f_m_NoSign_init : Addr
  d_m_NoSign_init : FuncData
  F_m_NoSign_init : Fun K "__init__" "NoSign.__init__" s_m_NoSign_init f_m_NoSign_init d_m_NoSign_init
  b_m_NoSign_init : Binds K d_m_NoSign_init ["self", "sign"] []
  f_p_is_whole : Addr
  d_p_is_whole : FuncData
  F_p_is_whole : Fun K "is_whole" "is_whole" s_p_is_whole f_p_is_whole d_p_is_whole
  b_p_is_whole : Binds K d_p_is_whole ["thing"] []
  g_p_is_whole : mg "is_whole" = some (.ref f_p_is_whole)
  f_p_is_name : Addr
  d_p_is_name : FuncData
  F_p_is_name : Fun K "is_name" "is_name" s_p_is_name f_p_is_name d_p_is_name
  b_p_is_name : Binds K d_p_is_name ["thing"] []
  g_p_is_name : mg "is_name" = some (.ref f_p_is_name)
  f_p_common_part : Addr
  d_p_common_part : FuncData
  F_p_common_part : Fun K "common_part" "common_part" s_p_common_part f_p_common_part d_p_common_part
  b_p_common_part : Binds K d_p_common_part ["one", "other"] []
  g_p_common_part : mg "common_part" = some (.ref f_p_common_part)
  f_m_Machine_init : Addr
  d_m_Machine_init : FuncData
  F_m_Machine_init : Fun K "__init__" "Machine.__init__" s_m_Machine_init f_m_Machine_init d_m_Machine_init
  b_m_Machine_init : Binds K d_m_Machine_init ["self", "many", "steps"] []
  f_m_Machine_eq : Addr
  d_m_Machine_eq : FuncData
  F_m_Machine_eq : Fun K "__eq__" "Machine.__eq__" s_m_Machine_eq f_m_Machine_eq d_m_Machine_eq
  b_m_Machine_eq : Binds K d_m_Machine_eq ["self", "other"] []
  f_m_Machine_len : Addr
  d_m_Machine_len : FuncData
  F_m_Machine_len : Fun K "__len__" "Machine.__len__" s_m_Machine_len f_m_Machine_len d_m_Machine_len
  b_m_Machine_len : Binds K d_m_Machine_len ["self"] []
  f_p_is_room : Addr
  d_p_is_room : FuncData
  F_p_is_room : Fun K "is_room" "is_room" s_p_is_room f_p_is_room d_p_is_room
  b_p_is_room : Binds K d_p_is_room ["thing", "many"] []
  g_p_is_room : mg "is_room" = some (.ref f_p_is_room)
  f_p_are_weights : Addr
  d_p_are_weights : FuncData
  F_p_are_weights : Fun K "are_weights" "are_weights" s_p_are_weights f_p_are_weights d_p_are_weights
  b_p_are_weights : Binds K d_p_are_weights ["thing", "many"] []
  g_p_are_weights : mg "are_weights" = some (.ref f_p_are_weights)
  f_p_is_step : Addr
  d_p_is_step : FuncData
  F_p_is_step : Fun K "is_step" "is_step" s_p_is_step f_p_is_step d_p_is_step
  b_p_is_step : Binds K d_p_is_step ["thing", "many"] []
  g_p_is_step : mg "is_step" = some (.ref f_p_is_step)
  f_p_are_steps : Addr
  d_p_are_steps : FuncData
  F_p_are_steps : Fun K "are_steps" "are_steps" s_p_are_steps f_p_are_steps d_p_are_steps
  b_p_are_steps : Binds K d_p_are_steps ["thing", "many"] []
  g_p_are_steps : mg "are_steps" = some (.ref f_p_are_steps)
  f_p_lowest : Addr
  d_p_lowest : FuncData
  F_p_lowest : Fun K "lowest" "lowest" s_p_lowest f_p_lowest d_p_lowest
  b_p_lowest : Binds K d_p_lowest ["weights"] []
  g_p_lowest : mg "lowest" = some (.ref f_p_lowest)
  f_p_doors_of : Addr
  d_p_doors_of : FuncData
  F_p_doors_of : Fun K "doors_of" "doors_of" s_p_doors_of f_p_doors_of d_p_doors_of
  b_p_doors_of : Binds K d_p_doors_of ["machine"] []
  g_p_doors_of : mg "doors_of" = some (.ref f_p_doors_of)
  f_p_are_unlike : Addr
  d_p_are_unlike : FuncData
  F_p_are_unlike : Fun K "are_unlike" "are_unlike" s_p_are_unlike f_p_are_unlike d_p_are_unlike
  b_p_are_unlike : Binds K d_p_are_unlike ["names"] []
  g_p_are_unlike : mg "are_unlike" = some (.ref f_p_are_unlike)
  f_p_are_signs : Addr
  d_p_are_signs : FuncData
  F_p_are_signs : Fun K "are_signs" "are_signs" s_p_are_signs f_p_are_signs d_p_are_signs
  b_p_are_signs : Binds K d_p_are_signs ["thing"] []
  g_p_are_signs : mg "are_signs" = some (.ref f_p_are_signs)
  f_p_check_signs : Addr
  d_p_check_signs : FuncData
  F_p_check_signs : Fun K "check_signs" "check_signs" s_p_check_signs f_p_check_signs d_p_check_signs
  b_p_check_signs : Binds K d_p_check_signs ["thing"] []
  g_p_check_signs : mg "check_signs" = some (.ref f_p_check_signs)
  f_p_found_machine : Addr
  d_p_found_machine : FuncData
  F_p_found_machine : Fun K "found_machine" "found_machine" s_p_found_machine f_p_found_machine d_p_found_machine
  b_p_found_machine : Binds K d_p_found_machine ["first", "goals_of"] []
  g_p_found_machine : mg "found_machine" = some (.ref f_p_found_machine)
  f_p_sorted_by_sign : Addr
  d_p_sorted_by_sign : FuncData
  F_p_sorted_by_sign : Fun K "sorted_by_sign" "sorted_by_sign" s_p_sorted_by_sign f_p_sorted_by_sign d_p_sorted_by_sign
  b_p_sorted_by_sign : Binds K d_p_sorted_by_sign ["goals_by_sign"] []
  g_p_sorted_by_sign : mg "sorted_by_sign" = some (.ref f_p_sorted_by_sign)
  f_p_number_new : Addr
  d_p_number_new : FuncData
  F_p_number_new : Fun K "number_new" "number_new" s_p_number_new f_p_number_new d_p_number_new
  b_p_number_new : Binds K d_p_number_new ["numbers", "found", "goals"] []
  g_p_number_new : mg "number_new" = some (.ref f_p_number_new)
  f_p_weights_of : Addr
  d_p_weights_of : FuncData
  F_p_weights_of : Fun K "weights_of" "weights_of" s_p_weights_of f_p_weights_of d_p_weights_of
  b_p_weights_of : Binds K d_p_weights_of ["goals", "numbers"] []
  g_p_weights_of : mg "weights_of" = some (.ref f_p_weights_of)
  f_p_beside : Addr
  d_p_beside : FuncData
  F_p_beside : Fun K "beside" "beside" s_p_beside f_p_beside d_p_beside
  b_p_beside : Binds K d_p_beside ["shared", "one", "other"] []
  g_p_beside : mg "beside" = some (.ref f_p_beside)
  f_p_goals_beside : Addr
  d_p_goals_beside : FuncData
  F_p_goals_beside : Fun K "goals_beside" "goals_beside" s_p_goals_beside f_p_goals_beside d_p_goals_beside
  b_p_goals_beside : Binds K d_p_goals_beside ["shared", "pair", "ours", "theirs"] []
  g_p_goals_beside : mg "goals_beside" = some (.ref f_p_goals_beside)
  f_p_goals_at_once : Addr
  d_p_goals_at_once : FuncData
  F_p_goals_at_once : Fun K "goals_at_once" "goals_at_once" s_p_goals_at_once f_p_goals_at_once d_p_goals_at_once
  b_p_goals_at_once : Binds K d_p_goals_at_once ["ours", "theirs"] []
  g_p_goals_at_once : mg "goals_at_once" = some (.ref f_p_goals_at_once)
  f_p_goals_of_one : Addr
  d_p_goals_of_one : FuncData
  F_p_goals_of_one : Fun K "goals_of_one" "goals_of_one" s_p_goals_of_one f_p_goals_of_one d_p_goals_of_one
  b_p_goals_of_one : Binds K d_p_goals_of_one ["pair", "ours", "theirs"] []
  g_p_goals_of_one : mg "goals_of_one" = some (.ref f_p_goals_of_one)
  f_l_well : Addr
  d_l_well : FuncData
  F_l_well : Fun K "_law_well" "_law_well" s_l_well f_l_well d_l_well
  b_l_well : Binds K d_l_well ["_law_cell"] []
  g_l_well : mg "_law_well" = some (.ref f_l_well)
  f_l_draw : Addr
  d_l_draw : FuncData
  F_l_draw : Fun K "_law_draw" "_law_draw" s_l_draw f_l_draw d_l_draw
  b_l_draw : Binds K d_l_draw ["_law_well_here", "_law_many"] []
  g_l_draw : mg "_law_draw" = some (.ref f_l_draw)
  f_l_one : Addr
  d_l_one : FuncData
  F_l_one : Fun K "_law_one" "_law_one" s_l_one f_l_one d_l_one
  b_l_one : Binds K d_l_one ["_law_well_here", "_law_some"] []
  g_l_one : mg "_law_one" = some (.ref f_l_one)
  f_l_names : Addr
  d_l_names : FuncData
  F_l_names : Fun K "_law_names" "_law_names" s_l_names f_l_names d_l_names
  b_l_names : Binds K d_l_names ["_law_well_here", "_law_many"] []
  g_l_names : mg "_law_names" = some (.ref f_l_names)
  f_l_weights : Addr
  d_l_weights : FuncData
  F_l_weights : Fun K "_law_weights" "_law_weights" s_l_weights f_l_weights d_l_weights
  b_l_weights : Binds K d_l_weights ["_law_well_here", "_law_many"] []
  g_l_weights : mg "_law_weights" = some (.ref f_l_weights)
  f_l_machine : Addr
  d_l_machine : FuncData
  F_l_machine : Fun K "_law_machine" "_law_machine" s_l_machine f_l_machine d_l_machine
  b_l_machine : Binds K d_l_machine ["_law_well_here", "_law_signs", "_law_most"] []
  g_l_machine : mg "_law_machine" = some (.ref f_l_machine)
  f_l_divided : Addr
  d_l_divided : FuncData
  F_l_divided : Fun K "_law_divided" "_law_divided" s_l_divided f_l_divided d_l_divided
  b_l_divided : Binds K d_l_divided ["_law_weights_here"] []
  g_l_divided : mg "_law_divided" = some (.ref f_l_divided)
  f_l_by : Addr
  d_l_by : FuncData
  F_l_by : Fun K "_law_by" "_law_by" s_l_by f_l_by d_l_by
  b_l_by : Binds K d_l_by ["_law_steps", "_law_room"] []
  g_l_by : mg "_law_by" = some (.ref f_l_by)
  f_l_both : Addr
  d_l_both : FuncData
  F_l_both : Fun K "_law_both" "_law_both" s_l_both f_l_both d_l_both
  b_l_both : Binds K d_l_both ["_law_mine", "_law_yours"] []
  g_l_both : mg "_law_both" = some (.ref f_l_both)
  f_l_onward : Addr
  d_l_onward : FuncData
  F_l_onward : Fun K "_law_onward" "_law_onward" s_l_onward f_l_onward d_l_onward
  b_l_onward : Binds K d_l_onward ["_law_shared", "_law_pair", "_law_mine", "_law_yours", "_law_sign"] []
  g_l_onward : mg "_law_onward" = some (.ref f_l_onward)
  f_l_due : Addr
  d_l_due : FuncData
  F_l_due : Fun K "_law_due" "_law_due" s_l_due f_l_due d_l_due
  b_l_due : Binds K d_l_due ["_law_shared", "_law_mine", "_law_yours"] []
  g_l_due : mg "_law_due" = some (.ref f_l_due)
  f_l_said : Addr
  d_l_said : FuncData
  F_l_said : Fun K "_law_said" "_law_said" s_l_said f_l_said d_l_said
  b_l_said : Binds K d_l_said ["_law_deed"] []
  g_l_said : mg "_law_said" = some (.ref f_l_said)
  f_l_right : Addr
  d_l_right : FuncData
  F_l_right : Fun K "_law_right" "_law_right" s_l_right f_l_right d_l_right
  b_l_right : Binds K d_l_right ["_law_well_here"] []
  g_l_right : mg "_law_right" = some (.ref f_l_right)
  f_law : Addr
  d_law : FuncData
  F_law : Fun K "law" "law" s_law f_law d_law
  b_law : Binds K d_law ["_law_script"] []
  g_law : mg "law" = some (.ref f_law)
  cl_Machine : Cls K c_Machine
  M_Machine : Mk K c_Machine f_m_Machine_init
  ti_Machine : TyIns K c_Machine
  n_Machine_many : NoAttr K c_Machine "many"
  n_Machine_steps : NoAttr K c_Machine "steps"
  h_m_Machine_eq : Meth K c_Machine "__eq__" f_m_Machine_eq
  h_m_Machine_len : Meth K c_Machine "__len__" f_m_Machine_len
  ne_Machine : PySem.W.findIn K (.ref c_Machine) "__ne__" = some (some (.builtin "object.__ne__"))
  nf_Machine_int : PySem.W.notFirst K c_Machine (.type "int") = true
  nf_Machine_str : PySem.W.notFirst K c_Machine (.type "str") = true
  nf_Machine_NoneType : PySem.W.notFirst K c_Machine (.type "NoneType") = true
  nf_Machine_list : PySem.W.notFirst K c_Machine (.type "list") = true
  nf_Machine_tuple : PySem.W.notFirst K c_Machine (.type "tuple") = true
  nf_Machine_dict : PySem.W.notFirst K c_Machine (.type "dict") = true
  nf_Machine_bool : PySem.W.notFirst K c_Machine (.type "bool") = true
  k_Machine : PySem.W.kitOne K (.ref c_Machine) (.ref c_Machine) = some true
  k_Machine_int : PySem.W.kitOne K (.type "int") (.ref c_Machine) = some false
  k_Machine_str : PySem.W.kitOne K (.type "str") (.ref c_Machine) = some false
  k_Machine_NoneType : PySem.W.kitOne K (.type "NoneType") (.ref c_Machine) = some false
  k_Machine_list : PySem.W.kitOne K (.type "list") (.ref c_Machine) = some false
  k_Machine_tuple : PySem.W.kitOne K (.type "tuple") (.ref c_Machine) = some false
  k_Machine_dict : PySem.W.kitOne K (.type "dict") (.ref c_Machine) = some false
  k_Machine_bool : PySem.W.kitOne K (.type "bool") (.ref c_Machine) = some false
  u_LETTERS : Value
  g_LETTERS : mg "LETTERS" = some u_LETTERS
  r_LETTERS : RelV (.str "abcdefghijklmnopqrstuvwxyz") u_LETTERS
  u_LONGEST_NAME : Value
  g_LONGEST_NAME : mg "LONGEST_NAME" = some u_LONGEST_NAME
  r_LONGEST_NAME : RelV (.int 8) u_LONGEST_NAME
  u_MOST_ROOMS : Value
  g_MOST_ROOMS : mg "MOST_ROOMS" = some u_MOST_ROOMS
  r_MOST_ROOMS : RelV (.int 12) u_MOST_ROOMS
  u_START : Addr
  g_START : mg "START" = some (.ref u_START)
  q_START : SqK K u_START [.int 0, .int 0]
  z_isinstance : mg "isinstance" = none
  z_int : mg "int" = none
  z_bool : mg "bool" = none
  z_all : mg "all" = none
  z_str : mg "str" = none
  z_len : mg "len" = none
  z_abs : mg "abs" = none
  z_sorted : mg "sorted" = none
  z_range : mg "range" = none
  z_any : mg "any" = none
  z_tuple : mg "tuple" = none
  z_list : mg "list" = none
  z_enumerate : mg "enumerate" = none
  z_sum : mg "sum" = none
  z_dict : mg "dict" = none
  z_set : mg "set" = none
  z_repr : mg "repr" = none
  x_TooMany_ex : PySem.W.excIn K c_TooMany PySem.HandSPX.veTail "ValueError.__new__" = true
  x_TooMany_kp : PySem.W.keepIn K (.ref c_TooMany) = true
  x_TooMany_sb : PySem.W.subIn K (.ref c_TooMany) (.type "BaseException") = some true
  x_TooMany_ty : PySem.W.typeIn K (.ref c_TooMany) = some (.type "type")
  x_TooMany_ic : PySem.W.isClsIn K c_TooMany = true
  x_TooMany_hg : PySem.W.findIn K (.ref c_TooMany) "__getattribute__" = some (some (.builtin "BaseException.__getattribute__"))
  x_TooMany_hk : PySem.W.findIn K (.ref c_TooMany) "__getattr__" = some none
  x_TooMany_hd : PySem.W.hasDictIn K c_TooMany = true
  x_TooMany_ha : PySem.W.findIn K (.ref c_TooMany) "__class__" = some (some (.builtin "object.__class__"))
  x_TooMany_hn : PySem.W.specialIn K (.builtin "object.__class__") "__get__" = some (some (.builtin "getset_descriptor.__get__"))
  x_TooMany_ht : PySem.W.takesIn K (.builtin "object.__class__") = some true
  x_TooMany_hm : PySem.W.mroIn K c_TooMany (.type "object") = some true
  y_FarError_sb : PySem.W.subIn K (.ref c_FarError) (.type "BaseException") = some true
  y_FarError_ty : PySem.W.typeIn K (.ref c_FarError) = some (.type "type")
  y_FarError_hd : PySem.W.hasDictIn K c_FarError = true
  y_TooMany_sb : PySem.W.subIn K (.ref c_TooMany) (.type "BaseException") = some true
  y_TooMany_ty : PySem.W.typeIn K (.ref c_TooMany) = some (.type "type")
  y_TooMany_hd : PySem.W.hasDictIn K c_TooMany = true
  sub_TooMany_TooMany : PySem.W.subIn K (.ref c_TooMany) (.ref c_TooMany) = some true
end Fb
namespace Fb
open PySem PySem.Spec PyProof.Rows L2
section
variable {P : Program} {w : World} {K : PySem.W.Frag} {mg : Str → Option Value} {base : Heap}
def spWhole : Sp := fun vs H Q _ => ∃ i : Int, vs = [.int i] ∧ Q (.bl true) H
theorem ok_p_is_whole (T : Txt K mg) : FnOk P w K mg base CX0 1 T.f_p_is_whole T.d_p_is_whole ["thing"] spWhole := by
  refine T.F_p_is_whole.ok sc_p_is_whole (fun vs H Q E h => ?_) (fun cdv A outer s H vs Q E hr h => ?_)
  · obtain ⟨i, rfl, _⟩ := h
    rfl
  · obtain ⟨i, rfl, q⟩ := h
    refine ⟨_, (pss_one (ps_ret (pe_and (pe_callB call_isi (by rfl) T.z_isinstance (by decide +kernel) (pa_cons (pv 0) (pa_cons (pe_bltn (v := .ty "int") (by rfl) T.z_int (by decide +kernel) rfl) pa_nil))) (pe_one (pe_not (pe_callB call_isi (by rfl) T.z_isinstance (by decide +kernel) (pa_cons (pv 0) (pa_cons (pe_bltn (v := .ty "bool") (by rfl) T.z_bool (by decide +kernel) rfl) pa_nil)))))))), ?_⟩
    refine ⟨_, rfl, _, _, _, _, true, rfl, .ty _, .base (.int i), kit_ty (by decide +kernel), true, rfl, ?_⟩
    refine iteT ?_
    exact ⟨_, rfl, _, _, _, _, false, rfl, .ty _, .base (.int i), kit_ty (by decide +kernel), false, rfl, q⟩
def spGcd : Sp := fun vs H Q _ => ∃ a b : Int, vs = [.int a, .int b] ∧ Q (.int (Int.gcd a b : Int)) H
theorem ok_p_common_part (T : Txt K mg) : FnOk P w K mg base CX0 1 T.f_p_common_part T.d_p_common_part ["one", "other"] spGcd := by
  refine T.F_p_common_part.ok sc_p_common_part (fun vs H Q E h => ?_) (fun cdv A outer s H vs Q E hr h => ?_)
  · obtain ⟨a, b, rfl, _⟩ := h
    rfl
  · obtain ⟨a, b, rfl, q⟩ := h
    refine ⟨_, (pss_cons (ps_while PassesOwn.never (pt_cmpR op_ne (pv 1) pe_int (nomark _))
  (pss_one (ps_par (i := 0) (j := 1) (by rfl) sc_p_common_part.nd rfl rfl (by decide) rfl rfl (pa_cons (pv 1) (pa_cons (pe_op op_modN (pv 0) (pv 1)) pa_nil)) (by rfl))))
 (pss_one (ps_ret (pe_callB call_abs (by rfl) T.z_abs (by decide +kernel) (pa_cons (pv 0) pa_nil))))), ?_⟩
    refine ⟨fun m σ H' => ∃ x y : Int, σ = [some (.int x), some (.int y)] ∧ m = y.natAbs ∧ Int.gcd x y = Int.gcd a b ∧ H' = H, ⟨_, a, b, rfl, rfl, rfl, rfl⟩, fun m σ H' hW => ?_⟩
    obtain ⟨x, y, rfl, rfl, hg, rfl⟩ := hW
    refine ⟨_, rfl, rfl, _, rfl, ?_⟩
    by_cases hy : y = 0
    · subst hy
      refine iteF ?_
      refine ⟨_, rfl, x, rfl, ?_⟩
      have e : (if x < 0 then -x else x) = (Int.gcd a b : Int) := by
        rw [← hg, Int.gcd_zero_right]
        split <;> omega
      rw [e]
      exact q
    · have ne : (!decide (V.int y = V.int 0)) = true := by
        rw [decide_eq_false (fun z => hy (V.int.inj z))]
        rfl
      rw [ne]
      refine iteT ?_
      refine ⟨fun σ' H'' => σ' = [some (.int y), some (.int (x.fmod y))] ∧ H'' = H', fun σ' H'' h => ?_, ?_⟩
      · obtain ⟨rfl, rfl⟩ := h
        exact ⟨_, fmod_lt x y hy, y, _, rfl, rfl, by rw [gcd_step, hg], rfl⟩
      · exact ⟨_, rfl, _, rfl, _, rfl, _, _, rfl, rfl, hy, _, _, rfl, rfl, rfl⟩
theorem log2_mono {a b : Nat} (h : a ≤ b) : a.log2 ≤ b.log2 := by
  by_cases ha : a = 0
  · subst ha
    simp
  · have hb : b ≠ 0 := by omega
    rw [Nat.le_log2 hb]
    exact Nat.le_trans (Nat.log2_self_le ha) h
theorem nat_abs {n m : Nat} (h : n < m) : (n : Int).natAbs < m := h
end
end Fb
namespace Fb
open PySem PySem.Spec PyProof.Rows L2
section
variable {P : Program} {w : World} {K : PySem.W.Frag} {mg : Str → Option Value} {base : Heap}
def spWell : Sp := fun vs H Q _ => ∃ c : Int, vs = [.int c] ∧ ∀ a H', H a = none → Same H (hid a H') → WellAt H' a 1099511627776 → Q (.ref a) H'
theorem ok_l_well (T : Txt K mg) : FnOk P w K mg base CX0 1 T.f_l_well T.d_l_well ["_law_cell"] spWell := by
  refine T.F_l_well.ok sc_l_well (fun vs H Q E h => ?_) (fun cdv A outer s H vs Q E hr h => ?_)
  · obtain ⟨c, rfl, _⟩ := h
    rfl
  · obtain ⟨c, rfl, q⟩ := h
    refine ⟨_, (pss_one (ps_ret (pe_lst (pa_cons (pe_op op_mul (pv 0) (pe_callTy call_int1 (by rfl) T.z_int (by decide +kernel) (pa_cons (pe_cmpR op_ge (pv 0) (pe_op op_pow pe_int pe_int) (nomark _)) pa_nil))) (pa_cons (pe_op op_mod (pv 0) pe_int) (pa_cons pe_int pa_nil)))))), ?_⟩
    refine ⟨_, rfl, _, rfl, _, _, rfl, rfl, ⟨by decide, by decide, by decide⟩, _, _, rfl, rfl, .inr ⟨_, rfl, _, _, rfl, rfl, ?_, _, rfl, _, _, rfl, rfl, (by show (0 : Int) < 2147483647; decide), ?_⟩⟩
    · right
      split <;> decide
    · refine ⟨by show 3 ≤ sizeLine; decide, fun p np => ?_⟩
      refine q p _ np (fun b o e => ?_) ⟨_, _, _, upd_same, Int.emod_nonneg _ (by decide), Int.emod_lt_of_pos _ (by decide), by decide, by decide⟩
      rw [hid_upd, hid_ne (ne_of_none e np)]
      exact e
def spDraw : Sp := fun vs H Q _ => ∃ (a : Addr) (m : Int) (n : Nat), vs = [.ref a, .int m] ∧ WellAt H a (n + 1) ∧ 0 < m ∧ m.natAbs.log2 < 9000 ∧
  ∀ d H', 0 ≤ d → d < m → Same (hid a H) (hid a H') → WellAt H' a n → Q (.int d) H'
theorem ok_l_draw (T : Txt K mg) : FnOk P w K mg base CX0 1 T.f_l_draw T.d_l_draw ["_law_well_here", "_law_many"] spDraw := by
  refine T.F_l_draw.ok sc_l_draw (fun vs H Q E h => ?_) (fun cdv A outer s H vs Q E hr h => ?_)
  · obtain ⟨a, m, n, rfl, _⟩ := h
    rfl
  · obtain ⟨a, m, n, rfl, ⟨w0, w1, w2, hw, b1, b2, b3, b4⟩, m0, ml, q⟩ := h
    refine ⟨_, (pss_cons (ps_if (pt_cmpR op_gt (pe_ix ix_list (pv 0) pe_int (fun _ _ => rfl)) pe_int (nomark _))
  (pss_cons (ps_set (i := 2) sc_l_draw.nd rfl (.inl rfl) (pe_op op_mod (pe_ix ix_list (pv 0) pe_int (fun _ _ => rfl)) (pv 1)))
 (pss_cons (ps_asg (pe_op op_fdivW (pe_ix ix_list (pv 0) pe_int (fun _ _ => rfl)) (pv 1)) (pg_sub (pv 0) pe_int set_list))
 (pss_one (ps_ret (pv 2)))))
  pss_nil)
 (pss_cons (ps_asg (pe_op op_add (pe_ix ix_list (pv 0) pe_int (fun _ _ => rfl)) pe_int) (pg_sub (pv 0) pe_int set_list))
 (pss_cons (ps_set (i := 3) sc_l_draw.nd rfl (.inl rfl) (pe_ix ix_list (pe_lst (pa_cons pe_int (pa_cons pe_int (pa_cons pe_int (pa_cons pe_int (pa_cons pe_int (pa_cons pe_int (pa_cons pe_int pa_nil)))))))) (pe_op op_mod (pe_ix ix_list (pv 0) pe_int (fun _ _ => rfl)) pe_int) (fun _ _ => rfl)))
 (pss_cons (ps_set (i := 4) sc_l_draw.nd rfl (.inl rfl) (pe_op op_mod (pe_op op_pow (pe_op op_add (pe_op op_add (pe_ix ix_list (pv 0) pe_int (fun _ _ => rfl)) (pe_op op_mul pe_int (pe_ix ix_list (pv 0) pe_int (fun _ _ => rfl)))) pe_int) pe_int) (pv 3)))
 (pss_cons (ps_set (i := 4) sc_l_draw.nd rfl (.inl rfl) (pe_op op_mod (pe_op op_mul (pe_op op_add (pv 4) (pe_ix ix_list (pv 0) pe_int (fun _ _ => rfl))) (pe_op op_add (pe_op op_fdiv (pv 4) pe_int) pe_int)) (pv 3)))
 (pss_one (ps_ret (pe_op op_mod (pe_op op_fdiv (pv 4) pe_int) (pv 1))))))))), ?_⟩
    refine ⟨_, rfl, a, _, _, _, rfl, rfl, SqL.of hw, atI_nat (j := 0) rfl, _, _, rfl, rfl, _, rfl, ite2 (fun h => ?_) (fun h => ?_)⟩
    · refine ⟨_, rfl, a, _, _, _, rfl, rfl, SqL.of hw, atI_nat (j := 0) rfl, _, rfl, _, _, rfl, rfl, m0, ?_⟩
      refine ⟨_, rfl, a, _, _, _, rfl, rfl, SqL.of hw, atI_nat (j := 0) rfl, _, rfl, _, _, rfl, rfl, ⟨m0, ml⟩, _, rfl, a, _, _, 0, rfl, rfl, hw, rfl, ?_⟩
      refine ⟨_, rfl, ?_⟩
      refine q _ _ (Int.emod_nonneg _ (by omega)) (Int.emod_lt_of_pos _ m0) ?_ ⟨_, _, _, upd_same, b1, b2, b3, by omega⟩
      rw [hid_upd]
      exact Same.refl _
    · refine ⟨_, rfl, a, _, _, _, rfl, rfl, SqL.of hw, atI_nat (j := 2) rfl, _, _, rfl, rfl, _, rfl, a, _, _, 2, rfl, rfl, hw, rfl, ?_⟩
      have hw2 : (upd H a (.lst [.int w0, .int w1, .int (w2 + 1)])) a = some (.lst [.int w0, .int w1, .int (w2 + 1)]) := upd_same
      refine ⟨by show 7 ≤ sizeLine; decide, fun p np => ?_⟩
      have npa : p ≠ a := fun z => by
        rw [z, upd_same] at np
        cases np
      have hw3 : (upd (upd H a (.lst [.int w0, .int w1, .int (w2 + 1)])) p (.lst [V.int 2147483647, V.int 2147483629, V.int 2147483587, V.int 2147483579, V.int 2147483563, V.int 2147483549, V.int 2147483543])) a = some (.lst [.int w0, .int w1, .int (w2 + 1)]) := by
        rw [upd_ne npa.symm]
        exact upd_same
      obtain ⟨pr, hpr, p0, p1⟩ := primes7 (k := (w2 + 1) % 7) (Int.emod_nonneg _ (by decide)) (Int.emod_lt_of_pos _ (by decide))
      refine ⟨_, rfl, a, _, _, _, rfl, rfl, SqL.of hw3, atI_nat (j := 2) rfl, _, _, rfl, rfl, (by show (0 : Int) < 7; decide), p, _, _, _, rfl, rfl, sqL_new, hpr, ?_⟩
      refine ⟨_, rfl, a, _, _, _, rfl, rfl, SqL.of hw3, atI_nat (j := 1) rfl, _, rfl, a, _, _, _, rfl, rfl, SqL.of hw3, atI_nat (j := 2) rfl, _, _, rfl, rfl, .inl ⟨by decide, by decide⟩, _, _, rfl, rfl, _, _, rfl, rfl, _, _, rfl, rfl, ?_, _, rfl, _, _, rfl, rfl, p0, ?_⟩
      · exact pow_small (by omega) (by omega)
      · generalize hx : (w1 + 7919 * (w2 + 1) + 1) ^ (5 : Int).toNat % pr = x
        have x0 : 0 ≤ x := by
          rw [← hx]
          exact Int.emod_nonneg _ (by omega)
        have x1 : x < pr := by
          rw [← hx]
          exact Int.emod_lt_of_pos _ p0
        refine ⟨_, rfl, _, rfl, a, _, _, _, rfl, rfl, SqL.of hw3, atI_nat (j := 2) rfl, _, _, rfl, rfl, _, rfl, _, _, rfl, rfl, ⟨by decide, by decide⟩, _, _, rfl, rfl, _, _, rfl, rfl, .inl ⟨by omega, by omega⟩, _, rfl, _, _, rfl, rfl, p0, ?_⟩
        refine ⟨_, rfl, _, _, rfl, rfl, ⟨by decide, by decide⟩, _, rfl, _, _, rfl, rfl, m0, ?_⟩
        refine q _ _ (Int.emod_nonneg _ (by omega)) (Int.emod_lt_of_pos _ m0) ?_ ⟨_, _, _, hw3, b1, b2, by omega, by omega⟩
        rw [hid_updN npa, hid_upd]
        refine same_upd ?_
        rw [hid_ne npa]
        rw [upd_ne npa] at np
        exact np
def spOne (K : PySem.W.Frag) : Sp := fun vs H Q _ => ∃ (a p : Addr) (xs : List V) (n : Nat), vs = [.ref a, .ref p] ∧ WellAt H a (n + 1) ∧ SqL K (hid a H) p xs ∧ 0 < xs.length ∧ xs.length ≤ 1000 ∧
  ∀ (i : Nat) x H', xs[i]? = some x → Same (hid a H) (hid a H') → WellAt H' a n → Q x H'
theorem log_small {m : Nat} (h : m ≤ 1000) : ((m : Int)).natAbs.log2 < 9000 := by
  have h1 : ((m : Int)).natAbs.log2 ≤ (1000 : Nat).log2 := log2_mono (by omega)
  have h2 : (1000 : Nat).log2 < 9000 := by decide
  omega
theorem ok_l_one (T : Txt K mg) : FnOk P w K mg base CX0 2 T.f_l_one T.d_l_one ["_law_well_here", "_law_some"] (spOne K) := by
  refine T.F_l_one.ok sc_l_one (fun vs H Q E h => ?_) (fun cdv A outer s H vs Q E hr h => ?_)
  · obtain ⟨a, p, xs, n, rfl, _⟩ := h
    rfl
  · obtain ⟨a, p, xs, n, rfl, hw, hS, l0, l1, q⟩ := h
    refine ⟨_, (pss_one (ps_ret (pe_ix ix_list (pv 1) (pe_call (ok_l_draw T) (hr.mono (by decide)) (by rfl) T.g_l_draw T.F_l_draw.kp T.b_l_draw .nil pass0 (pa_cons (pv 0) (pa_cons (pe_callB call_len_seq (by rfl) T.z_len (by decide +kernel) (pa_cons (pv 1) pa_nil)) pa_nil))) (fun _ _ => rfl)))), ?_⟩
    refine ⟨_, rfl, _, rfl, _, rfl, p, xs, rfl, .inl (hid_same.seq hS), a, _, n, rfl, hw, by omega, log_small l1, fun d H' d0 d1 s1 w1 => ?_⟩
    obtain ⟨x, e1, e2⟩ := atI_get d0 d1
    exact ⟨p, xs, d, x, rfl, rfl, (s1.trans hid_same).seq hS, e1, q _ x H' e2 s1 w1⟩
end
end Fb
namespace Fb
open PySem PySem.Spec PyProof.Rows L2
section
variable {P : Program} {w : World} {K : PySem.W.Frag} {mg : Str → Option Value} {base : Heap}
def letters : List Nat := ("abcdefghijklmnopqrstuvwxyz" : Str).cps.toList
structure NmOk (x : Str) : Prop where
  l1 : 1 ≤ x.length
  l8 : x.length ≤ 8
  all : ∀ c ∈ x.cps.toList, c ∈ letters
def spName : Sp := fun vs H Q _ => ∃ x : Str, vs = [.str x] ∧ NmOk x ∧ ∀ H', Same H H' → Q (.bl true) H'
theorem ok_p_is_name (T : Txt K mg) : FnOk P w K mg base CX0 1 T.f_p_is_name T.d_p_is_name ["thing"] spName := by
  refine T.F_p_is_name.ok sc_p_is_name (fun vs H Q E h => ?_) (fun cdv A outer s H vs Q E hr h => ?_)
  · obtain ⟨x, rfl, _⟩ := h
    rfl
  · obtain ⟨x, rfl, ok, q⟩ := h
    refine ⟨_, (pss_cons (ps_if (PW.pt (pw_or (pt_not (pt_val (pe_callB call_isi (by rfl) T.z_isinstance (by decide +kernel) (pa_cons (pv 0) (pa_cons (pe_bltn (v := .ty "str") (by rfl) T.z_str (by decide +kernel) rfl) pa_nil))))) (pw_or1 (pt_not (pt_chain op_le op_le pe_int (pe_callB call_len_str (by rfl) T.z_len (by decide +kernel) (pa_cons (pv 0) pa_nil)) (pe_glob (by rfl) T.g_LONGEST_NAME T.r_LONGEST_NAME))))))
  (pss_one (ps_ret pe_bl))
  pss_nil)
 (pss_one (ps_ret (pe_callB (cr_all rfl) (by rfl) T.z_all (by decide +kernel) (pa_cons (pe_lc (own := [("letter", 1)]) (g := (gName 1)) (tt := tYes) (by rfl) sc_p_is_name.nd (pi_str (pv 0)) (blkOk_by (own := [("letter", 1)]) (N := ["thing", "letter"]) (sc := defScope s_p_is_name) (by decide +kernel)) (fun _ _ _ _ _ => by exact (pg_name (i := 1) sc_p_is_name.nd rfl (.inl rfl))) (fun _ _ _ _ _ => by exact pts_nil) (fun _ _ _ _ _ => by exact (pe_cmpR op_in_sign (pv 1) (pe_glob (by rfl) T.g_LETTERS T.r_LETTERS) (by with_unfolding_all rfl)))) pa_nil))))), ?_⟩
    have l8 := ok.l8
    have l1 := ok.l1
    refine ⟨_, rfl, _, _, _, _, true, rfl, .ty _, .base (.str x), kit_ty (by decide +kernel), true, rfl, iteF ?_⟩
    refine ⟨_, rfl, x, rfl, Nat.le_of_lt (small1000 (by omega)), _, _, rfl, rfl, true, ?_, iteT ?_⟩
    · exact congrArg V.bl (decide_eq_true (by omega))
    refine ⟨_, _, rfl, rfl, true, ?_, iteF ?_⟩
    · exact congrArg V.bl (decide_eq_true (by omega))
    have hz : x.cps.size ≤ 8 := l8
    refine ⟨_, rfl, x, rfl, fun D nD => lc_allW (walk_str (z := x)) (fun _ y _ => y = .bl true) (fun _ _ _ _ _ h => h) nD (fun _ _ => trivial) (by omega) (fun i v H2 H3 k hi s2 eD y hk => ?_) (fun H2 ys s2 e l r => ?_)⟩
    · obtain ⟨rfl, c, hc, rfl⟩ := y
      refine ⟨rfl, _, rfl, c, _, rfl, rfl, hk _ _ (Same.refl _) (congrArg V.bl (decide_eq_true ?_))⟩
      exact ok.all c (by rw [← Array.getElem?_toList] at hc; exact List.mem_of_getElem? hc)
    · have ey : ys = (List.replicate ys.length true).map V.bl := by
        refine List.ext_getElem? fun i => ?_
        by_cases hi : i < ys.length
        · rw [List.getElem?_eq_getElem hi, r i _ (List.getElem?_eq_getElem hi), List.getElem?_map, List.getElem?_replicate, if_pos hi]
          rfl
        · rw [List.getElem?_eq_none (by omega), List.getElem?_eq_none (by simp; omega)]
      rw [ey] at e
      refine ⟨D, _, rfl, SqL.of e, ?_⟩
      rw [show (List.replicate ys.length true).all id = true by simp]
      exact q H2 (s2.trans hid_same)
structure Stp where
  room : Nat
  sign : Str
  ws : List Nat
abbrev nts (ns : List Nat) : List V := ns.map fun (n : Nat) => V.int (n : Int)
def IsStp (H : Hp) (v : V) (s : Stp) : Prop := ∃ t wa, v = .ref t ∧ H t = some (.tup [.int s.room, .str s.sign, .ref wa]) ∧ H wa = some (.tup (nts s.ws))
theorem IsStp.mono {H H' : Hp} {v : V} {s : Stp} (h : IsStp H v s) (m : Same H H') : IsStp H' v s := by
  obtain ⟨t, wa, e, h1, h2⟩ := h
  exact ⟨t, wa, e, m _ _ h1, m _ _ h2⟩
structure WtsOk (m : Nat) (ws : List Nat) : Prop where
  len : ws.length = m
  pos : ∃ n ∈ ws, 0 < n
  bd : ∀ n ∈ ws, n < 2 ^ 4000
structure StpOk (m : Nat) (s : Stp) : Prop where
  room : s.room < m
  sign : NmOk s.sign
  wts : WtsOk m s.ws
def spRoom : Sp := fun vs H Q _ => ∃ r m : Nat, vs = [.int r, .int m] ∧ r < m ∧ Q (.bl true) H
theorem ok_p_is_room (T : Txt K mg) : FnOk P w K mg base CX0 2 T.f_p_is_room T.d_p_is_room ["thing", "many"] spRoom := by
  refine T.F_p_is_room.ok sc_p_is_room (fun vs H Q E h => ?_) (fun cdv A outer s H vs Q E hr h => ?_)
  · obtain ⟨r, m, rfl, _⟩ := h
    rfl
  · obtain ⟨r, m, rfl, l, q⟩ := h
    refine ⟨_, (pss_one (ps_ret (pe_and (pe_call (ok_p_is_whole T) (hr.mono (by decide)) (by rfl) T.g_p_is_whole T.F_p_is_whole.kp T.b_p_is_whole .nil pass0 (pa_cons (pv 0) pa_nil)) (pe_one (pe_chain op_le op_lt pe_int (pv 0) (pv 1)))))), ?_⟩
    refine ⟨_, rfl, r, rfl, true, rfl, iteT ?_⟩
    refine ⟨_, rfl, _, _, rfl, rfl, true, congrArg V.bl (decide_eq_true (by omega)), iteT ⟨_, rfl, _, _, rfl, rfl, ?_⟩⟩
    dsimp only
    rw [decide_eq_true (show (r : Int) < (m : Int) by omega)]
    exact q
theorem trues {n : Nat} {ys : List V} (l : ys.length = n) (h : ∀ (i : Nat) y, ys[i]? = some y → y = .bl true) : ys = (List.replicate n true).map V.bl := by
  refine List.ext_getElem? fun i => ?_
  by_cases hi : i < ys.length
  · rw [List.getElem?_eq_getElem hi, h i _ (List.getElem?_eq_getElem hi), List.getElem?_map, List.getElem?_replicate, if_pos (by omega)]
    rfl
  · rw [List.getElem?_eq_none (by omega), List.getElem?_eq_none (by simp; omega)]
theorem all_trues (n : Nat) : (List.replicate n true).all id = true := by simp
def spWts : Sp := fun vs H Q _ => ∃ (wa : Addr) (m : Nat) (ws : List Nat), vs = [.ref wa, .int m] ∧ H wa = some (.tup (nts ws)) ∧ WtsOk m ws ∧ m ≤ 12 ∧ ∀ H', Same H H' → Q (.bl true) H'
theorem ok_p_are_weights (T : Txt K mg) : FnOk P w K mg base CX0 2 T.f_p_are_weights T.d_p_are_weights ["thing", "many"] spWts := by
  refine T.F_p_are_weights.ok sc_p_are_weights (fun vs H Q E h => ?_) (fun cdv A outer s H vs Q E hr h => ?_)
  · obtain ⟨wa, m, ws, rfl, _⟩ := h
    rfl
  · obtain ⟨wa, m, ws, rfl, hw, ok, m12, q⟩ := h
    refine ⟨_, (pss_cons (ps_if (PW.pt (pw_or (pt_not (pt_val (pe_callB call_isi (by rfl) T.z_isinstance (by decide +kernel) (pa_cons (pv 0) (pa_cons (pe_bltn (v := .ty "tuple") (by rfl) T.z_tuple (by decide +kernel) rfl) pa_nil))))) (pw_or1 (pt_cmpR op_ne (pe_callB call_len_seq (by rfl) T.z_len (by decide +kernel) (pa_cons (pv 0) pa_nil)) (pv 1) (nomark _)))))
  (pss_one (ps_ret pe_bl))
  pss_nil)
 (pss_one (ps_ret (pe_and (pe_callB (cr_all rfl) (by rfl) T.z_all (by decide +kernel) (pa_cons (pe_lc (own := [("weight", 2)]) (g := (gName 2)) (tt := tYes) (by rfl) sc_p_are_weights.nd (pi_tup (pv 0)) (blkOk_by (own := [("weight", 2)]) (N := ["thing", "many", "weight"]) (sc := defScope s_p_are_weights) (by decide +kernel)) (fun _ _ _ _ _ => by exact (pg_name (i := 2) sc_p_are_weights.nd rfl (.inl rfl))) (fun _ _ _ _ _ => by exact pts_nil) (fun _ _ _ _ _ => by exact (pe_and (pe_call (ok_p_is_whole T) (hr.mono (by decide)) (by rfl) T.g_p_is_whole T.F_p_is_whole.kp T.b_p_is_whole .nil pass0 (pa_cons (pv 2) pa_nil)) (pe_one (pe_cmpR op_ge (pv 2) pe_int (nomark _)))))) pa_nil)) (pe_one (pe_callB (cr_any rfl) (by rfl) T.z_any (by decide +kernel) (pa_cons (pe_lc (own := [("weight", 2)]) (g := (gName 2)) (tt := tYes) (by rfl) sc_p_are_weights.nd (pi_tup (pv 0)) (blkOk_by (own := [("weight", 2)]) (N := ["thing", "many", "weight"]) (sc := defScope s_p_are_weights) (by decide +kernel)) (fun _ _ _ _ _ => by exact (pg_name (i := 2) sc_p_are_weights.nd rfl (.inl rfl))) (fun _ _ _ _ _ => by exact pts_nil) (fun _ _ _ _ _ => by exact (pe_cmpR op_gt (pv 2) pe_int (nomark _)))) pa_nil))))))), ?_⟩
    have lw : (nts ws).length = m := by rw [List.length_map]; exact ok.len
    refine ⟨_, rfl, _, _, _, _, true, rfl, .ty _, .base (.tup hw), kit_ty (by decide +kernel), true, rfl, iteF ?_⟩
    refine ⟨_, rfl, wa, _, rfl, .inr (.inl (.inl hw)), _, rfl, rfl, _, rfl, ?_⟩
    rw [lw, decide_eq_true rfl]
    refine iteF ?_
    refine ⟨_, rfl, wa, rfl, ⟨_, .inl (.inl hw)⟩, fun D nD => lc_allW (walk_tup (K := K) (a := wa) (xs := nts ws)) (fun _ y _ => y = .bl true) (fun _ _ _ _ _ h => h) nD (fun H' s => .inl (.inl (s _ _ hw))) (by omega) (fun i v H2 H3 k hi s2 eD y hk => ?_) (fun H2 ys s2 e l r => ?_)⟩
    · obtain ⟨rfl, hv⟩ := y
      rw [List.getElem?_map] at hv
      obtain ⟨n, hn, rfl⟩ := Option.map_eq_some_iff.mp hv
      exact ⟨rfl, _, rfl, (n : Int), rfl, true, rfl, iteT ⟨_, rfl, _, _, rfl, rfl, hk _ _ (Same.refl _) (congrArg V.bl (decide_eq_true (by omega)))⟩⟩
    · rw [trues l r] at e
      refine ⟨D, _, rfl, SqL.of e, true, by rw [all_trues], iteT ?_⟩
      have s12 : Same H H2 := s2.trans hid_same
      have hw2 := s12 _ _ hw
      refine ⟨_, rfl, wa, rfl, ⟨_, .inl (.inl hw2)⟩, fun D2 nD2 => lc_allW (walk_tup (K := K) (a := wa) (xs := nts ws)) (fun i y _ => ∃ n, ws[i]? = some n ∧ y = .bl (decide (0 < n))) (fun _ _ _ _ _ h => h) nD2 (fun H' s => .inl (.inl (s _ _ hw2))) (by omega) (fun i v H3 H4 k hi s3 eD y hk => ?_) (fun H3 ys3 s3 e3 l3 r3 => ?_)⟩
      · obtain ⟨rfl, hv⟩ := y
        rw [List.getElem?_map] at hv
        obtain ⟨n, hn, rfl⟩ := Option.map_eq_some_iff.mp hv
        refine ⟨rfl, _, rfl, _, _, rfl, rfl, hk _ _ (Same.refl _) ⟨n, hn, congrArg V.bl (decide_eq_decide.mpr ?_)⟩⟩
        show (n : Int) > 0 ↔ 0 < n
        omega
      · have ey : ys3 = (ws.map fun n => decide (0 < n)).map V.bl := by
          refine List.ext_getElem? fun i => ?_
          by_cases hi : i < ys3.length
          · obtain ⟨n, hn, hy⟩ := r3 i _ (List.getElem?_eq_getElem hi)
            rw [List.getElem?_eq_getElem hi, hy, List.map_map, List.getElem?_map, hn]
            rfl
          · rw [List.getElem?_eq_none (by omega), List.getElem?_eq_none (by rw [List.length_map] at l3; simp; omega)]
        rw [ey] at e3
        refine ⟨D2, _, rfl, SqL.of e3, ?_⟩
        have : (ws.map fun n => decide (0 < n)).any id = true := by
          obtain ⟨n, hn, h0⟩ := ok.pos
          rw [List.any_eq_true]
          exact ⟨true, List.mem_map.mpr ⟨n, hn, decide_eq_true h0⟩, rfl⟩
        rw [this]
        exact q H3 (s12.trans (s3.trans hid_same))
def spStep : Sp := fun vs H Q _ => ∃ (v : V) (m : Nat) (s : Stp), vs = [v, .int m] ∧ IsStp H v s ∧ StpOk m s ∧ m ≤ 12 ∧ ∀ H', Same H H' → Q (.bl true) H'
theorem ok_p_is_step (T : Txt K mg) : FnOk P w K mg base CX0 3 T.f_p_is_step T.d_p_is_step ["thing", "many"] spStep := by
  refine T.F_p_is_step.ok sc_p_is_step (fun vs H Q E h => ?_) (fun cdv A outer s H vs Q E hr h => ?_)
  · obtain ⟨v, m, st, rfl, _⟩ := h
    rfl
  · obtain ⟨v, m, st, rfl, ⟨t, wa, rfl, ht, hw⟩, ok, m12, q⟩ := h
    refine ⟨_, (pss_cons (ps_if (PW.pt (pw_or (pt_not (pt_val (pe_callB call_isi (by rfl) T.z_isinstance (by decide +kernel) (pa_cons (pv 0) (pa_cons (pe_bltn (v := .ty "tuple") (by rfl) T.z_tuple (by decide +kernel) rfl) pa_nil))))) (pw_or1 (pt_cmpR op_ne (pe_callB call_len_seq (by rfl) T.z_len (by decide +kernel) (pa_cons (pv 0) pa_nil)) pe_int (nomark _)))))
  (pss_one (ps_ret pe_bl))
  pss_nil)
 (pss_cons (ps_asg (pv 0) (pg_tup (by rfl) (pgs_cons (pg_name (i := 2) sc_p_is_step.nd rfl (.inl rfl)) (pgs_cons (pg_name (i := 3) sc_p_is_step.nd rfl (.inl rfl)) (pgs_cons (pg_name (i := 4) sc_p_is_step.nd rfl (.inl rfl)) pgs_nil)))))
 (pss_one (ps_ret (pe_and (pe_call (ok_p_is_room T) (hr.mono (by decide)) (by rfl) T.g_p_is_room T.F_p_is_room.kp T.b_p_is_room .nil pass0 (pa_cons (pv 2) (pa_cons (pv 1) pa_nil))) (pe_and (pe_call (ok_p_is_name T) (hr.mono (by decide)) (by rfl) T.g_p_is_name T.F_p_is_name.kp T.b_p_is_name .nil pass0 (pa_cons (pv 3) pa_nil)) (pe_one (pe_call (ok_p_are_weights T) (hr.mono (by decide)) (by rfl) T.g_p_are_weights T.F_p_are_weights.kp T.b_p_are_weights .nil pass0 (pa_cons (pv 4) (pa_cons (pv 1) pa_nil)))))))))), ?_⟩
    refine ⟨_, rfl, _, _, _, _, true, rfl, .ty _, .base (.tup ht), kit_ty (by decide +kernel), true, rfl, iteF ?_⟩
    refine ⟨_, rfl, t, _, rfl, .inr (.inl (.inl ht)), rfl, _, rfl, iteF ?_⟩
    refine ⟨_, rfl, t, _, rfl, .inl (.inl ht), rfl, _, _, rfl, _, _, rfl, _, _, rfl, rfl, ?_⟩
    refine ⟨_, rfl, _, rfl, st.room, m, rfl, ok.room, true, rfl, iteT ?_⟩
    refine ⟨_, rfl, st.sign, rfl, ok.sign, fun H1 s1 => ⟨true, rfl, iteT ?_⟩⟩
    exact ⟨_, rfl, _, rfl, wa, m, st.ws, rfl, s1 _ _ hw, ok.wts, m12, fun H2 s2 => q H2 (s1.trans s2)⟩
end
end Fb
namespace Fb
open PySem PySem.Spec PyProof.Rows L2
section
variable {P : Program} {w : World} {K : PySem.W.Frag} {mg : Str → Option Value} {base : Heap}
abbrev Stp.key (s : Stp) : RS := ((s.room : Int), s.sign)
structure StpsOk (m : Nat) (ss : List Stp) : Prop where
  m1 : 1 ≤ m
  m12 : m ≤ 12
  few : ss.length < 60
  all : ∀ s ∈ ss, StpOk m s
  once : (ss.map Stp.key).Nodup
def kKey (k : RS) : List Key := [.inl k.1, .inr k.2]
theorem kKey_inj {a b : RS} (h : kKey a = kKey b) : a = b := by
  unfold kKey at h
  simp only [List.cons.injEq, Sum.inl.injEq, Sum.inr.injEq, and_true] at h
  exact Prod.ext h.1 h.2
def IsStps (H : Hp) (v : V) (ss : List Stp) : Prop := ∃ p vs, v = .ref p ∧ H p = some (.lst vs) ∧ AllAre (IsStp H) vs ss
theorem IsStps.mono {H H' : Hp} {v : V} {ss : List Stp} (h : IsStps H v ss) (m : Same H H') : IsStps H' v ss := by
  obtain ⟨p, vs, e, h, a⟩ := h
  exact ⟨p, vs, e, m _ _ h, a.imp fun _ _ r => r.mono m⟩
def spSteps : Sp := fun vs H Q _ => ∃ (v : V) (m : Nat) (ss : List Stp), vs = [v, .int m] ∧ IsStps H v ss ∧ StpsOk m ss ∧ ∀ H', Same H H' → Q (.bl true) H'
theorem ok_p_are_steps (T : Txt K mg) : FnOk P w K mg base CX0 4 T.f_p_are_steps T.d_p_are_steps ["thing", "many"] spSteps := by
  refine T.F_p_are_steps.ok sc_p_are_steps (fun vs H Q E h => ?_) (fun cdv A outer s H vs Q E hr h => ?_)
  · obtain ⟨v, m, ss, rfl, _⟩ := h
    rfl
  · obtain ⟨v, m, ss, rfl, ⟨p, xs, rfl, hp, aa⟩, ok, q⟩ := h
    refine ⟨_, (pss_cons (ps_if (PW.pt (pw_or (pt_not (pt_val (pe_callB call_isi (by rfl) T.z_isinstance (by decide +kernel) (pa_cons (pv 0) (pa_cons (pe_bltn (v := .ty "list") (by rfl) T.z_list (by decide +kernel) rfl) pa_nil))))) (pw_or1 (pt_not (pt_val (pe_callB (cr_all rfl) (by rfl) T.z_all (by decide +kernel) (pa_cons (pe_lc (own := [("step", 2)]) (g := (gName 2)) (tt := tYes) (by rfl) sc_p_are_steps.nd (pi_list (pv 0)) (blkOk_by (own := [("step", 2)]) (N := ["thing", "many", "step", "room", "sign", "weights"]) (sc := defScope s_p_are_steps) (by decide +kernel)) (fun _ _ _ _ _ => by exact (pg_name (i := 2) sc_p_are_steps.nd rfl (.inl rfl))) (fun _ _ _ _ _ => by exact pts_nil) (fun _ _ _ _ _ => by exact (pe_call (ok_p_is_step T) (hr.mono (by decide)) (by rfl) T.g_p_is_step T.F_p_is_step.kp T.b_p_is_step .nil pass0 (pa_cons (pv 2) (pa_cons (pv 1) pa_nil))))) pa_nil)))))))
  (pss_one (ps_ret pe_bl))
  pss_nil)
 (pss_one (ps_ret (pe_cmpR op_eq (pe_callB call_lenM (by rfl) T.z_len (by decide +kernel) (pa_cons (pe_scM (units1 hr.units) (own := [("room", 3), ("sign", 4), ("weights", 5)]) (g := (gTup K 3 (gCons (gName 3) (gCons (gName 4) (gCons (gName 5) gNil))))) (tt := tYes) (by rfl) sc_p_are_steps.nd (pi_list (pv 0)) (blkOk_by (own := [("room", 3), ("sign", 4), ("weights", 5)]) (N := ["thing", "many", "step", "room", "sign", "weights"]) (sc := defScope s_p_are_steps) (by decide +kernel)) (fun _ _ _ _ _ => by exact (pg_tup (by rfl) (pgs_cons (pg_name (i := 3) sc_p_are_steps.nd rfl (.inl rfl)) (pgs_cons (pg_name (i := 4) sc_p_are_steps.nd rfl (.inl rfl)) (pgs_cons (pg_name (i := 5) sc_p_are_steps.nd rfl (.inl rfl)) pgs_nil))))) (fun _ _ _ _ _ => by exact pts_nil) (fun _ _ _ _ _ => by exact (pe_tup (pa_cons (pv 3) (pa_cons (pv 4) pa_nil))))) pa_nil)) (pe_callB call_len_seq (by rfl) T.z_len (by decide +kernel) (pa_cons (pv 0) pa_nil)) (nomark _))))), ?_⟩
    have few := ok.few
    refine ⟨_, rfl, _, _, _, _, true, rfl, .ty _, .base (.lst hp), kit_ty (by decide +kernel), true, rfl, iteF ?_⟩
    refine ⟨_, rfl, p, rfl, ⟨_, SqL.of hp⟩, fun D nD => lc_all (K := K) (a := p) (xs := xs) (fun _ y _ => y = .bl true) (fun _ _ _ _ _ h => h) nD (SqL.of hp) (by rw [aa.1]; omega) (fun i x H2 k hi s2 eD hk => ?_) (fun H2 ys s2 e l r => ?_)⟩
    · obtain ⟨st, hst, hx⟩ := aa.at hi
      exact ⟨rfl, _, rfl, _, rfl, x, m, st, rfl, hx.mono (s2.trans hid_same), ok.all st (List.mem_of_getElem? hst), ok.m12, fun H3 s3 => hk _ _ s3 rfl⟩
    · rw [trues l r] at e
      refine ⟨D, _, rfl, SqL.of e, true, by rw [all_trues], iteF ?_⟩
      have s12 : Same H H2 := s2.trans hid_same
      have hp2 := s12 _ _ hp
      have aa2 : AllAre (IsStp H2) xs ss := aa.imp fun _ _ h => h.mono s12
      refine ⟨_, rfl, p, rfl, ⟨_, SqL.of hp2⟩, fun D2 nD2 => ?_⟩
      -- the set of rooms and signs
      have nk : (ss.map fun s => kKey s.key).Nodup := by
        have e : (ss.map fun s => kKey s.key) = (ss.map Stp.key).map kKey := by rw [List.map_map]; rfl
        rw [e]
        exact List.pairwise_map.mpr (ok.once.imp fun h z => h (kKey_inj z))
      let Pv : Nat → Hp → Prop := fun i H' => ∃ L : Keyed, Same H2 (hid D2 H') ∧ H' D2 = some (MSetO P w D2 L) ∧ L.length = i ∧ (∀ q ∈ L, hid D2 H' q.1 = some (.tup (q.2.map kV))) ∧ ∀ q ∈ L, q.2 ∈ (ss.take i).map fun s => kKey s.key
      have start : Pv 0 (upd H2 D2 (MSetO P w D2 [])) := by
        refine ⟨[], fun b o eb => ?_, upd_same, rfl, (fun q h => by cases h), (fun q h => by cases h)⟩
        rw [hid_ne (ne_of_none eb nD2), upd_ne (ne_of_none eb nD2)]
        exact eb
      refine ⟨fun i mm H' => mm = xs.length - i ∧ i ≤ xs.length ∧ Pv i H', ⟨xs.length, by simp, Nat.zero_le _, start⟩, ?_⟩
      rintro i mm H' ⟨rfl, hi, pv⟩
      obtain ⟨L, sL, eL, lL, tL, kL⟩ := id pv
      have sH : Same H2 H' := sL.trans hid_same
      have sq : SqL K H' p xs := sH.seq (SqL.of hp2)
      by_cases hlt : i < xs.length
      · refine .inr ⟨⟨xs, xs[i], sq, List.getElem?_eq_getElem hlt⟩, Pv (i + 1), fun H'' p' => ⟨xs.length - (i + 1), by omega, rfl, hlt, p'⟩, fun x H'' y => ?_⟩
        obtain ⟨rfl, y⟩ := y
        have hx := y xs sq
        obtain ⟨st, hst, t, wa, rfl, ht, hw⟩ := aa2.at hx
        have ht' := sH _ _ ht
        refine ⟨t, _, rfl, .inl (.inl ht'), rfl, _, _, rfl, _, _, rfl, _, _, rfl, rfl, rfl, ?_⟩
        refine ⟨_, rfl, _, rfl, by show 2 ≤ sizeLine; decide, fun c nc => ?_⟩
        have sc := same_upd (o := .tup [.int st.room, .str st.sign]) nc
        have cD : c ≠ D2 := fun z => by
          rw [z, eL] at nc
          cases nc
        refine ⟨c, kKey st.key, L, rfl, upd_same, sc _ _ eL, fun q hq => sc _ _ (hid_same _ _ (tL q hq)), by rw [aa.1] at hlt; omega, fun L' _ new => ?_⟩
        have out : kKey st.key ∉ L.map (·.2) := fun hm => by
          obtain ⟨q, hq, e⟩ := List.mem_map.mp hm
          obtain ⟨s', hs', e'⟩ := List.mem_map.mp (kL q hq)
          obtain ⟨j, hj, ej⟩ := List.mem_iff_getElem.mp hs'
          rw [List.length_take] at hj
          rw [List.getElem_take] at ej
          have g1 : (ss.map fun s => kKey s.key)[j]? = some (kKey st.key) := by
            rw [List.getElem?_map, List.getElem?_eq_getElem (by omega), ej]
            show some (kKey s'.key) = _
            rw [e', e]
          have g2 : (ss.map fun s => kKey s.key)[i]? = some (kKey st.key) := by rw [List.getElem?_map, hst]; rfl
          have := nodup_inj nk g1 g2
          omega
        have pm := new out
        refine ⟨L', ?_, upd_same, by rw [pm.length_eq, List.length_cons, lL], fun q hq => ?_, fun q hq => ?_⟩
        · rw [hid_upd]
          exact sL.trans (hid_mono sc)
        · rw [hid_upd]
          rcases List.mem_cons.mp (pm.mem_iff.mp hq) with rfl | hq
          · rw [hid_ne cD]
            exact upd_same
          · exact hid_mono sc _ _ (tL q hq)
        · rw [List.take_add_one, hst, List.map_append]
          rcases List.mem_cons.mp (pm.mem_iff.mp hq) with rfl | hq
          · exact List.mem_append_right _ (by simp)
          · exact List.mem_append_left _ (kL q hq)
      · have ei : i = xs.length := by omega
        subst ei
        refine .inl ⟨⟨xs, sq, Nat.le_refl _⟩, ?_⟩
        refine ⟨D2, L, rfl, eL, _, rfl, p, xs, rfl, .inl sq, rfl, ?_⟩
        rw [decide_eq_true (show V.int (L.length : Int) = V.int (xs.length : Int) by rw [lL])]
        exact q H' (s12.trans sH)
def gcdF (g : Nat) : List Nat → Nat
  | [] => g
  | n :: r => gcdF (Nat.gcd n g) r
theorem gcdF_snoc (n : Nat) : ∀ (l : List Nat) (g : Nat), gcdF g (l ++ [n]) = Nat.gcd n (gcdF g l)
  | [], _ => rfl
  | _ :: l, _ => gcdF_snoc n l _
theorem gcdF_dvd : ∀ (l : List Nat) (g : Nat), gcdF g l ∣ g ∧ ∀ n ∈ l, gcdF g l ∣ n
  | [], g => ⟨Nat.dvd_refl _, fun n h => by cases h⟩
  | x :: l, g => by
    obtain ⟨h1, h2⟩ := gcdF_dvd l (Nat.gcd x g)
    refine ⟨Nat.dvd_trans h1 (Nat.gcd_dvd_right _ _), fun n hn => ?_⟩
    rcases List.mem_cons.mp hn with rfl | hn
    · exact Nat.dvd_trans h1 (Nat.gcd_dvd_left _ _)
    · exact h2 n hn
theorem gcdF_pos {l : List Nat} {g : Nat} (h : ∃ n ∈ l, 0 < n) : 0 < gcdF g l := by
  obtain ⟨n, hn, h0⟩ := h
  exact Nat.pos_of_dvd_of_pos ((gcdF_dvd l g).2 n hn) h0
def low (ws : List Nat) : List Nat := ws.map (· / gcdF 0 ws)
def spLowest : Sp := fun vs H Q _ => ∃ (wa : Addr) (ws : List Nat), vs = [.ref wa] ∧ H wa = some (.tup (nts ws)) ∧ (∃ n ∈ ws, 0 < n) ∧ (∀ n ∈ ws, n < 2 ^ 4000) ∧ ws.length ≤ 900 ∧ ∀ H' r, Same H H' → H' r = some (.tup (nts (low ws))) → Q (.ref r) H'
theorem ok_p_lowest (T : Txt K mg) : FnOk P w K mg base CX0 2 T.f_p_lowest T.d_p_lowest ["weights"] spLowest := by
  refine T.F_p_lowest.ok sc_p_lowest (fun vs H Q E h => ?_) (fun cdv A outer s H vs Q E hr h => ?_)
  · obtain ⟨wa, ws, rfl, _⟩ := h
    rfl
  · obtain ⟨wa, ws, rfl, hw, pos, bd, l9, q⟩ := h
    refine ⟨_, (pss_cons (ps_set (i := 1) sc_p_lowest.nd rfl (.inr rfl) pe_int)
 (pss_cons (ps_for PassesOwn.never rfl (pi_tup (pv 0)) (pg_name (i := 2) sc_p_lowest.nd rfl (.inl rfl))
  (pss_one (ps_set (i := 1) sc_p_lowest.nd rfl (.inr rfl) (pe_call (ok_p_common_part T) (hr.mono (by decide)) (by rfl) T.g_p_common_part T.F_p_common_part.kp T.b_p_common_part .nil pass0 (pa_cons (pv 2) (pa_cons (pv 1) pa_nil))))))
 (pss_one (ps_ret (pe_callTy call_tuple_of (by rfl) T.z_tuple (by decide +kernel) (pa_cons (pe_lc (own := [("weight", 2)]) (g := (gName 2)) (tt := tYes) (by rfl) sc_p_lowest.nd (pi_tup (pv 0)) (blkOk_by (own := [("weight", 2)]) (N := ["weights", "common", "weight"]) (sc := defScope s_p_lowest) (by decide +kernel)) (fun _ _ _ _ _ => by exact (pg_name (i := 2) sc_p_lowest.nd rfl (.inl rfl))) (fun _ _ _ _ _ => by exact pts_nil) (fun _ _ _ _ _ => by exact (pe_op op_fdivW (pv 2) (pv 1)))) pa_nil)))))), ?_⟩
    have lw : (nts ws).length = ws.length := List.length_map ..
    refine ⟨_, rfl, wa, rfl, ⟨_, .inl (.inl hw)⟩, for_tup (K := K) (a := wa) (xs := nts ws) (fun i σ H' => ∃ y, σ = [some (.ref wa), some (.int (gcdF 0 (ws.take i) : Nat)), y] ∧ H' = H) ⟨none, rfl, rfl⟩ (fun i σ H' _ h => ?_) (fun i x σ H' hi h => ?_) (fun σ H' h => ?_)⟩
    · obtain ⟨y, _, rfl⟩ := h
      exact .inl (.inl hw)
    · obtain ⟨y, rfl, rfl⟩ := h
      rw [List.getElem?_map] at hi
      obtain ⟨n, hn, rfl⟩ := Option.map_eq_some_iff.mp hi
      refine ⟨_, rfl, _, rfl, (n : Int), (gcdF 0 (ws.take i) : Nat), rfl, ?_⟩
      refine ⟨some (.int n), ?_, rfl⟩
      rw [List.take_add_one, hn]
      show _ = [some (V.ref wa), some (.int (gcdF 0 (ws.take i ++ [n]) : Nat)), _]
      rw [gcdF_snoc, Int.gcd_natCast_natCast]
      rfl
    · obtain ⟨y, rfl, rfl⟩ := h
      rw [lw, List.take_length]
      have g0 : 0 < gcdF 0 ws := gcdF_pos pos
      obtain ⟨n0, hn0, h0⟩ := pos
      have gl : gcdF 0 ws < 2 ^ 4000 := Nat.lt_of_le_of_lt (Nat.le_of_dvd h0 ((gcdF_dvd ws 0).2 n0 hn0)) (bd n0 hn0)
      refine ⟨_, rfl, wa, rfl, ⟨_, .inl (.inl hw)⟩, fun D nD => lc_allW (walk_tup (K := K) (a := wa) (xs := nts ws)) (fun i y _ => ∃ n, ws[i]? = some n ∧ y = .int ((n / gcdF 0 ws : Nat))) (fun _ _ _ _ _ h => h) nD (fun H' s => .inl (.inl (s _ _ hw))) (by omega) (fun i v H2 H3 k hi s2 eD y hk => ?_) (fun H2 ys s2 e l r => ?_)⟩
      · obtain ⟨rfl, hv⟩ := y
        rw [List.getElem?_map] at hv
        obtain ⟨n, hn, rfl⟩ := Option.map_eq_some_iff.mp hv
        refine ⟨rfl, _, rfl, _, rfl, _, _, rfl, rfl, wide_div (b := 4000) (by omega) (nat_abs gl) (by decide) (by decide), hk _ _ (Same.refl _) ⟨n, hn, ?_⟩⟩
        dsimp only
        rw [Int.natCast_ediv]
      · have ey : ys = nts (low ws) := by
          refine List.ext_getElem? fun i => ?_
          by_cases hi : i < ys.length
          · obtain ⟨n, hn, hy⟩ := r i _ (List.getElem?_eq_getElem hi)
            rw [List.getElem?_eq_getElem hi, hy]
            unfold nts low
            rw [List.map_map, List.getElem?_map, hn]
            rfl
          · rw [List.getElem?_eq_none (by omega), List.getElem?_eq_none (by simp [nts, low]; omega)]
        rw [ey] at e
        refine ⟨D, _, rfl, .inl ⟨SqL.of e, fun t nt => ?_⟩⟩
        exact q _ t ((s2.trans hid_same).trans (same_upd nt)) upd_same
end
end Fb
namespace Fb
open PySem PySem.Spec PyProof.Rows L2
section
variable {P : Program} {w : World} {K : PySem.W.Frag} {mg : Str → Option Value} {base : Heap}
theorem ms : ¬ (("many" : Str) = "steps") := by decide +kernel
def mflds (m : Nat) (r : Addr) : List (Str × V) := putF "steps" (.ref r) (putF "many" (.int (m : Int)) [])
theorem mflds_many (m : Nat) (r : Addr) : (mflds m r).lookup ("many" : Str) = some (.int (m : Int)) := by
  unfold mflds
  rw [lookup_putF, if_neg ms, lookup_putF, if_pos rfl]
theorem mflds_steps (m : Nat) (r : Addr) : (mflds m r).lookup ("steps" : Str) = some (.ref r) := by
  unfold mflds
  rw [lookup_putF, if_pos rfl]
def lowS (s : Stp) : Stp := ⟨s.room, s.sign, low s.ws⟩
theorem lowS_key (s : Stp) : (lowS s).key = s.key := rfl
structure Sorted (out : List Stp) : Prop where
  up : out.Pairwise fun a b => rsLt a.key b.key = true
def SortedOf (ss out : List Stp) : Prop := out.Perm (ss.map lowS) ∧ Sorted out
theorem sorted_uniq : ∀ {a b : List Stp}, Sorted a → Sorted b → a.Perm b → a = b
  | [], b, _, _, p => (List.Perm.eq_nil p.symm).symm
  | x :: a, [], _, _, p => absurd p.length_eq (by simp)
  | x :: a, y :: b, ⟨ha⟩, ⟨hb⟩, p => by
    have ha' := List.pairwise_cons.mp ha
    have hb' := List.pairwise_cons.mp hb
    have e : x = y := by
      rcases List.mem_cons.mp (p.mem_iff.mp List.mem_cons_self) with e | hx
      · exact e
      · rcases List.mem_cons.mp (p.symm.mem_iff.mp List.mem_cons_self) with e | hy
        · exact e.symm
        · have h1 := hb'.1 x hx
          have h2 := ha'.1 y hy
          have := rsLt_trans h1 h2
          rw [rsLt_irr] at this
          cases this
    subst e
    rw [sorted_uniq ⟨ha'.2⟩ ⟨hb'.2⟩ (List.Perm.cons_inv p)]
theorem AllAre.uncons' {α : Type} {R : V → α → Prop} {v : V} {vs : List V} {xs : List α} (h : AllAre R (v :: vs) xs) : ∃ x r, xs = x :: r ∧ R v x ∧ AllAre R vs r := by
  cases xs with
  | nil => exact absurd h.1 (by simp)
  | cons x r => exact ⟨x, r, rfl, h.2 0 v x rfl rfl, by simpa using h.1, fun i a b h1 h2 => h.2 (i + 1) a b (by simpa using h1) (by simpa using h2)⟩
theorem AllAre.perm {α : Type} {R : V → α → Prop} {xs ys : List V} (p : ys.Perm xs) : ∀ {as : List α}, AllAre R xs as → ∃ bs, AllAre R ys bs ∧ bs.Perm as := by
  induction p with
  | nil => exact fun {as} h => ⟨as, h, List.Perm.refl _⟩
  | cons x _ ih =>
    intro as h
    obtain ⟨a, r, rfl, h1, h2⟩ := h.uncons'
    obtain ⟨bs, b1, b2⟩ := ih h2
    exact ⟨a :: bs, .cons h1 b1, b2.cons a⟩
  | swap x y l =>
    intro as h
    obtain ⟨a, r, rfl, h1, h2⟩ := h.uncons'
    obtain ⟨b, r', rfl, h3, h4⟩ := h2.uncons'
    exact ⟨b :: a :: r', .cons h3 (.cons h1 h4), List.Perm.swap a b r'⟩
  | trans _ _ ih1 ih2 =>
    intro as h
    obtain ⟨bs, b1, b2⟩ := ih2 h
    obtain ⟨cs, c1, c2⟩ := ih1 b1
    exact ⟨cs, c1, c2.trans b2⟩
/-- the room and sign of what stands at a value -/
def kfH (H : Hp) : V → RS
  | .ref t => match H t with
    | some (.tup (.int i :: .str s :: _)) => (i, s)
    | _ => (0, ⟨#[]⟩)
  | _ => (0, ⟨#[]⟩)
theorem kfH_of {H : Hp} {v : V} {s : Stp} (h : IsStp H v s) : kfH H v = s.key := by
  obtain ⟨t, wa, rfl, ht, _⟩ := h
  simp only [kfH, ht]
def spMach (C : Addr) : Sp := fun vs H Q _ => ∃ (p dx : Addr) (m : Nat) (v : V) (ss : List Stp), vs = [.ref p, .int m, v] ∧ H p = some (.ins C dx []) ∧ IsStps H v ss ∧ StpsOk m ss ∧
  ∀ H' r svs out, (∀ a o, H a = some o → a ≠ p → H' a = some o) → H' p = some (.ins C dx (mflds m r)) → H r = none → H' r = some (.lst svs) → AllAre (IsStp H') svs out → SortedOf ss out → Q .non H'
theorem nts_keys (ns : List Nat) : nts ns = (ns.map fun (n : Nat) => (Sum.inl (n : Int) : Key)).map kV := by
  rw [List.map_map]
  rfl
theorem ok_m_Machine_init (T : Txt K mg) : FnOk P w K mg base CX0 5 T.f_m_Machine_init T.d_m_Machine_init ["self", "many", "steps"] (spMach T.c_Machine) := by
  refine T.F_m_Machine_init.ok sc_m_Machine_init (fun vs H Q E h => ?_) (fun cdv A outer s H vs Q E hr h => ?_)
  · obtain ⟨p, dx, m, v, ss, rfl, _⟩ := h
    rfl
  · obtain ⟨p, dx, m, v, ss, rfl, hp, hv, ok, q⟩ := h
    refine ⟨_, PSs.nox (pss_cons (ps_if (PW.pt (pw_or (pt_not (pt_val (pe_call (ok_p_is_whole T) (hr.mono (by decide)) (by rfl) T.g_p_is_whole T.F_p_is_whole.kp T.b_p_is_whole .nil pass0 (pa_cons (pv 1) pa_nil)))) (pw_or1 (pt_not (pt_chain op_le op_le pe_int (pv 1) (pe_glob (by rfl) T.g_MOST_ROOMS T.r_MOST_ROOMS))))))
  (pss_one ps_never)
  pss_nil)
 (pss_cons (ps_if (pt_not (pt_val (pe_call (ok_p_are_steps T) (hr.mono (by decide)) (by rfl) T.g_p_are_steps T.F_p_are_steps.kp T.b_p_are_steps .nil pass0 (pa_cons (pv 2) (pa_cons (pv 1) pa_nil)))))
  (pss_one ps_never)
  pss_nil)
 (pss_cons (ps_fld (pv 0) (pv 1) rfl)
 (pss_one (ps_fld (pv 0) (pe_callB (cr_sortS (units2 hr.units)) (by rfl) T.z_sorted (by decide +kernel) (pa_cons (pe_lc (own := [("room", 3), ("sign", 4), ("weights", 5)]) (g := (gTup K 3 (gCons (gName 3) (gCons (gName 4) (gCons (gName 5) gNil))))) (tt := tYes) (by rfl) sc_m_Machine_init.nd (pi_list (pv 2)) (blkOk_by (own := [("room", 3), ("sign", 4), ("weights", 5)]) (N := ["self", "many", "steps", "room", "sign", "weights"]) (sc := defScope s_m_Machine_init) (by decide +kernel)) (fun _ _ _ _ _ => by exact (pg_tup (by rfl) (pgs_cons (pg_name (i := 3) sc_m_Machine_init.nd rfl (.inl rfl)) (pgs_cons (pg_name (i := 4) sc_m_Machine_init.nd rfl (.inl rfl)) (pgs_cons (pg_name (i := 5) sc_m_Machine_init.nd rfl (.inl rfl)) pgs_nil))))) (fun _ _ _ _ _ => by exact pts_nil) (fun _ _ _ _ _ => by exact (pe_tup (pa_cons (pv 3) (pa_cons (pv 4) (pa_cons (pe_call (ok_p_lowest T) (hr.mono (by decide)) (by rfl) T.g_p_lowest T.F_p_lowest.kp T.b_p_lowest .nil pass0 (pa_cons (pv 5) pa_nil)) pa_nil)))))) pa_nil)) rfl))))), ?_⟩
    have m1 := ok.m1
    have m12 := ok.m12
    refine ⟨_, rfl, (m : Int), rfl, true, rfl, iteF ?_⟩
    refine ⟨_, rfl, _, _, rfl, rfl, true, congrArg V.bl (decide_eq_true (by omega)), iteT ⟨_, _, rfl, rfl, true, congrArg V.bl (decide_eq_true (by omega)), iteF ?_⟩⟩
    refine ⟨_, rfl, _, rfl, v, m, ss, rfl, hv, ok, fun H1 s1 => ⟨true, rfl, iteF ?_⟩⟩
    have hp1 := s1 _ _ hp
    refine ⟨_, rfl, _, rfl, p, T.c_Machine, dx, [], rfl, hp1, T.cl_Machine, T.n_Machine_many, (by show 0 < 1000; decide), ?_⟩
    generalize hH2 : upd H1 p (.ins T.c_Machine dx (putF "many" (.int (m : Int)) [])) = H2
    have k2 : ∀ a o, H1 a = some o → a ≠ p → H2 a = some o := fun a o e ne => by
      rw [← hH2, upd_ne ne]
      exact e
    have hp2 : H2 p = some (.ins T.c_Machine dx (putF "many" (.int (m : Int)) [])) := by rw [← hH2]; exact upd_same
    have nlp : ∀ {a : Addr} {xs : List V}, H1 a = some (.lst xs) → a ≠ p := fun e z => by
      rw [z, hp1] at e
      cases e
    have ntp : ∀ {a : Addr} {xs : List V}, H1 a = some (.tup xs) → a ≠ p := fun e z => by
      rw [z, hp1] at e
      cases e
    obtain ⟨pv, xs, rfl, ev, av⟩ := hv.mono s1
    have ev2 := k2 _ _ ev (nlp ev)
    have av2 : AllAre (IsStp H2) xs ss := av.imp fun _ _ h => by
      obtain ⟨t, wa, e, h1, h2⟩ := h
      exact ⟨t, wa, e, k2 _ _ h1 (ntp h1), k2 _ _ h2 (ntp h2)⟩
    have few := ok.few
    refine ⟨_, rfl, pv, rfl, ⟨_, SqL.of ev2⟩, fun D nD => lc_all (K := K) (a := pv) (xs := xs) (fun i y G => ∃ st, ss[i]? = some st ∧ IsStp G y (lowS st)) (fun _ _ _ _ s h => h.elim fun st f => ⟨st, f.1, f.2.mono s⟩) nD (SqL.of ev2) (by rw [av.1]; omega) (fun i x H3 k hi s3 eD hk => ?_) (fun H3 ys s3 e3 l3 r3 => ?_)⟩
    · obtain ⟨st, hst, t, wa, rfl, ht, hw⟩ := av2.at hi
      have so := ok.all st (List.mem_of_getElem? hst)
      have ht := hid_same _ _ (s3 _ _ ht)
      have hw := hid_same _ _ (s3 _ _ hw)
      refine ⟨t, _, rfl, .inl (.inl ht), rfl, _, _, rfl, _, _, rfl, _, _, rfl, rfl, rfl, ?_⟩
      refine ⟨_, rfl, _, rfl, _, rfl, wa, st.ws, rfl, hw, so.wts.pos, so.wts.bd, by rw [so.wts.len]; omega, fun H4 r4 s4 h4 => ?_⟩
      refine ⟨by show 3 ≤ sizeLine; decide, fun c nc => ?_⟩
      have sc := same_upd (o := .tup [.int st.room, .str st.sign, .ref r4]) nc
      have eD' : ∃ ys, (upd H4 c (.tup [.int st.room, .str st.sign, .ref r4])) D = some (.lst ys) := by
        obtain ⟨ys', e'⟩ := eD
        exact ⟨ys', sc _ _ (s4 _ _ e')⟩
      exact hk _ _ (s4.trans sc) ⟨st, hst, c, r4, rfl, hid_no eD' upd_same (fun _ => nofun), hid_no eD' (sc _ _ h4) (fun _ => nofun)⟩
    · have aS : AllAre (IsStp H3) ys (ss.map lowS) := .of_ix (by rw [l3, av.1, List.length_map]) fun i y hy => by
        obtain ⟨st, hst, h⟩ := r3 i y hy
        exact ⟨lowS st, by rw [List.getElem?_map, hst]; rfl, h.mono hid_same⟩
      have kf_at : ∀ {i : Nat} {y : V} {st : Stp}, ys[i]? = some y → ss[i]? = some st → kfH H3 y = st.key := fun {i y st} hy hs => by
        have := aS.2 i y (lowS st) hy (by rw [List.getElem?_map, hs]; rfl)
        rw [kfH_of this, lowS_key]
      have ixs : ∀ {y : V}, y ∈ ys → ∃ i st, ys[i]? = some y ∧ ss[i]? = some st := fun {y} hy => by
        obtain ⟨i, hi, e⟩ := List.mem_iff_getElem.mp hy
        have hl : i < ss.length := by rw [l3, av.1] at hi; exact hi
        exact ⟨i, ss[i], by rw [List.getElem?_eq_getElem hi, e], List.getElem?_eq_getElem hl⟩
      have one : ∀ x ∈ ys, ∀ y ∈ ys, kfH H3 x = kfH H3 y → x = y := fun x hx y hy e => by
        obtain ⟨i, si, a1, a2⟩ := ixs hx
        obtain ⟨j, sj, b1, b2⟩ := ixs hy
        rw [kf_at a1 a2, kf_at b1 b2] at e
        have := nodup_inj ok.once (i := i) (j := j) (x := si.key) (by rw [List.getElem?_map, a2]; rfl) (by rw [List.getElem?_map, b2, e]; rfl)
        subst this
        rw [a1] at b1
        cases b1
        rfl
      refine ⟨D, ys, kfH H3, rfl, SqL.of e3, by rw [l3, av.1]; omega, fun x hx => ?_, one, fun zs r pm up nr => ?_⟩
      · obtain ⟨i, si, a1, a2⟩ := ixs hx
        obtain ⟨t, wa, rfl, ht, hw⟩ := aS.2 i x (lowS si) a1 (by rw [List.getElem?_map, a2]; rfl)
        refine ⟨t, wa, _, rfl, ?_, by rw [← nts_keys]; exact hw⟩
        rw [kf_at a1 a2]
        exact ht
      · have sr := same_upd (o := .lst zs) nr
        have s23 : Same H2 H3 := s3.trans hid_same
        have hp3 := sr _ _ (s23 _ _ hp2)
        obtain ⟨out, aO, pO⟩ := AllAre.perm pm aS
        have rp : r ≠ p := fun z => by
          rw [z, s23 _ _ hp2] at nr
          cases nr
        refine ⟨_, rfl, p, T.c_Machine, dx, _, rfl, hp3, T.cl_Machine, T.n_Machine_steps, (by show 1 < 1000; decide), ?_⟩
        have keepP : ∀ a o, (upd H3 r (.lst zs)) a = some o → a ≠ p → (upd (upd H3 r (.lst zs)) p (.ins T.c_Machine dx (mflds m r))) a = some o := fun a o e ne => by
          rw [upd_ne ne]
          exact e
        refine q _ r zs out (fun a o e ne => keepP a o (sr _ _ (s23 _ _ (k2 a o (s1 _ _ e) ne))) ne) upd_same ?_ (keepP r _ upd_same rp) (aO.imp fun _ _ h => ?_) ⟨pO, ⟨?_⟩⟩
        · cases e : H r with
          | none => rfl
          | some o =>
            have := s23 _ _ (k2 _ _ (s1 _ _ e) rp)
            rw [nr] at this
            cases this
        · obtain ⟨t, wa, e, h1, h2⟩ := h
          have tp : ∀ {a : Addr} {xs : List V}, H3 a = some (.tup xs) → a ≠ p := fun e z => by
            rw [z, s23 _ _ hp2] at e
            cases e
          exact ⟨t, wa, e, keepP _ _ (sr _ _ h1) (tp h1), keepP _ _ (sr _ _ h2) (tp h2)⟩
        · rw [List.pairwise_iff_getElem]
          intro i j hi hj hij
          have gi : zs[i]? = some (zs[i]'(by rw [aO.1]; exact hi)) := List.getElem?_eq_getElem _
          have gj : zs[j]? = some (zs[j]'(by rw [aO.1]; exact hj)) := List.getElem?_eq_getElem _
          have ki := kfH_of (aO.2 i _ _ gi (List.getElem?_eq_getElem hi))
          have kj := kfH_of (aO.2 j _ _ gj (List.getElem?_eq_getElem hj))
          have le := (List.pairwise_iff_getElem.mp up) i j (by rw [aO.1]; exact hi) (by rw [aO.1]; exact hj) hij
          rw [ki, kj] at le
          cases lt : rsLt out[i].key out[j].key with
          | true => rfl
          | false =>
            exfalso
            have e := rsLt_total lt le
            have nd : (out.map Stp.key).Nodup := by
              refine (pO.map Stp.key).nodup_iff.mpr ?_
              rw [List.map_map]
              exact ok.once
            have := nodup_inj nd (i := i) (j := j) (x := out[i].key) (by rw [List.getElem?_map, List.getElem?_eq_getElem hi]; rfl) (by rw [List.getElem?_map, List.getElem?_eq_getElem hj, e]; rfl)
            omega
end
end Fb
namespace Fb
open PySem PySem.Spec PyProof.Rows L2
section
variable {P : Program} {w : World} {K : PySem.W.Frag} {mg : Str → Option Value} {base : Heap}
def tenNames : List Str := ["a", "ab", "b", "stop", "toss", "abc", "part", "zzzzzzzz", "ba", "aa"]
def kqs : List Nat := ("kqxzjvwmbt" : Str).cps.toList
def NmFrom (z : Str) : Prop := z ∈ tenNames ∨ ∃ c ∈ kqs, z.cps.toList.getLast? = some c
structure NmsOk (m : Nat) (zs : List Str) : Prop where
  len : zs.length = m
  nd : zs.Nodup
  all : ∀ z ∈ zs, NmOk z
  src : ∀ z ∈ zs, NmFrom z
theorem nmOk_of {x : Str} (h : (decide (1 ≤ x.length) && decide (x.length ≤ 8) && x.cps.toList.all fun c => decide (c ∈ letters)) = true) : NmOk x := by
  rw [Bool.and_eq_true, Bool.and_eq_true] at h
  exact ⟨of_decide_eq_true h.1.1, of_decide_eq_true h.1.2, fun c hc => of_decide_eq_true (List.all_eq_true.mp h.2 c hc)⟩
theorem ten_all : ∀ z ∈ tenNames, NmOk z := fun z hz => nmOk_of (by
  have : (tenNames.all fun x => (decide (1 ≤ x.length) && decide (x.length ≤ 8) && x.cps.toList.all fun c => decide (c ∈ letters))) = true := by decide +kernel
  exact List.all_eq_true.mp this z hz)
theorem ten_nd : tenNames.Nodup := by decide +kernel
def rot (k m : Nat) : List Str := (tenNames.drop k ++ tenNames.take k).take m
theorem rot_ok {k m : Nat} (hm : m ≤ 10) : NmsOk m (rot k m) := by
  have pm : (tenNames.drop k ++ tenNames.take k).Perm tenNames := List.perm_append_comm.trans (by rw [List.take_append_drop])
  have l10 : (tenNames.drop k ++ tenNames.take k).length = 10 := pm.length_eq
  have mem : ∀ z ∈ rot k m, z ∈ tenNames := fun z hz => pm.mem_iff.mp (List.mem_of_mem_take hz)
  exact ⟨by unfold rot; rw [List.length_take, l10]; omega, (List.take_sublist _ _).nodup (pm.nodup_iff.mpr ten_nd), fun z hz => ten_all z (mem z hz), fun z hz => .inl (mem z hz)⟩
theorem kq_nd : kqs.Nodup := by decide +kernel
theorem kq_let : ∀ c ∈ kqs, c ∈ letters := by decide +kernel
theorem kq_cut {m : Nat} (h : m ≤ 10) : (cutS ("kqxzjvwmbt" : Str) none (some (m : Int))).cps.toList = kqs.take m := by
  show ((kqs.drop 0).take (HT.sIx 10 10 (some (m : Int)) - 0)).toArray.toList = _
  rw [HT.sIx_nat, Nat.min_eq_left h]
  rfl
theorem of_ends {zs : List Str} {cs : List Nat} (h : zs.map (fun z => z.cps.toList.getLast?) = cs.map some) (nd : cs.Nodup) : zs.Nodup := by
  have h1 : (cs.map some).Nodup := List.pairwise_map.mpr (nd.imp fun hab e => hab (Option.some.inj e))
  rw [← h] at h1
  exact (List.pairwise_map.mp h1).imp fun hab e => hab (by rw [e])
theorem none_of {H H' : Hp} {p : Addr} (s : Same H H') (h : H' p = none) : H p = none := by
  cases e : H p with
  | none => rfl
  | some o =>
    have := s _ _ e
    rw [h] at this
    cases this
def spNames : Sp := fun vs H Q _ => ∃ (a : Addr) (m n : Nat), vs = [.ref a, .int m] ∧ m ≤ 4 ∧ WellAt H a (n + 50) ∧
  ∀ H' p zs, H p = none → Same (hid a H) (hid a H') → WellAt H' a n → H' p = some (.lst (zs.map V.str)) → NmsOk m zs → Q (.ref p) H'
theorem four_at {d : Int} {i : Nat} {x : V} (d0 : 0 ≤ d) (d8 : d < 8) (h : [V.int 0, V.int 0, V.int 1, V.int d][i]? = some x) : ∃ l : Nat, l ≤ 7 ∧ x = .int l := by
  match i with
  | 0 => cases h; exact ⟨0, by omega, rfl⟩
  | 1 => cases h; exact ⟨0, by omega, rfl⟩
  | 2 => cases h; exact ⟨1, by omega, rfl⟩
  | 3 => cases h; exact ⟨d.toNat, by omega, by rw [Int.toNat_of_nonneg d0]⟩
  | k + 4 => cases h
theorem ok_l_names (T : Txt K mg) : FnOk P w K mg base CX0 3 T.f_l_names T.d_l_names ["_law_well_here", "_law_many"] spNames := by
  refine T.F_l_names.ok sc_l_names (fun vs H Q E h => ?_) (fun cdv A outer s H vs Q E hr h => ?_)
  · obtain ⟨a, m, n, rfl, _⟩ := h
    rfl
  · obtain ⟨a, m, n, rfl, m4, hw, q⟩ := h
    refine ⟨_, (pss_cons (ps_if (pt_cmpR op_eq (pe_call (ok_l_draw T) (hr.mono (by decide)) (by rfl) T.g_l_draw T.F_l_draw.kp T.b_l_draw .nil pass0 (pa_cons (pv 0) (pa_cons pe_int pa_nil))) pe_int (nomark _))
  (pss_cons (ps_set (i := 2) sc_l_names.nd rfl (.inl rfl) (pe_lst (pa_cons pe_str (pa_cons pe_str (pa_cons pe_str (pa_cons pe_str (pa_cons pe_str (pa_cons pe_str (pa_cons pe_str (pa_cons pe_str (pa_cons pe_str (pa_cons pe_str pa_nil))))))))))))
 (pss_cons (ps_set (i := 3) sc_l_names.nd rfl (.inl rfl) (pe_call (ok_l_draw T) (hr.mono (by decide)) (by rfl) T.g_l_draw T.F_l_draw.kp T.b_l_draw .nil pass0 (pa_cons (pv 0) (pa_cons pe_int pa_nil))))
 (pss_one (ps_ret (pe_slice sl_list (pe_op op_cat (pe_slice sl_list (pv 2) (po_some (pv 3)) po_none) (pe_slice sl_list (pv 2) po_none (po_some (pv 3)))) po_none (po_some (pv 1)))))))
  pss_nil)
 (pss_cons (ps_set (i := 4) sc_l_names.nd rfl (.inl rfl) (pe_lst pa_nil))
 (pss_cons (ps_for PassesOwn.never rfl (pi_str (pe_slice sl_str pe_str po_none (po_some (pv 1)))) (pg_name (i := 5) sc_l_names.nd rfl (.inl rfl))
  (pss_cons (ps_set (i := 6) sc_l_names.nd rfl (.inl rfl) pe_str)
 (pss_cons (ps_for PassesOwn.never rfl (pi_range1 (by rfl) T.z_range (pa_cons (pe_call (ok_l_one T) (hr.mono (by decide)) (by rfl) T.g_l_one T.F_l_one.kp T.b_l_one .nil pass0 (pa_cons (pv 0) (pa_cons (pe_lst (pa_cons pe_int (pa_cons pe_int (pa_cons pe_int (pa_cons (pe_call (ok_l_draw T) (hr.mono (by decide)) (by rfl) T.g_l_draw T.F_l_draw.kp T.b_l_draw .nil pass0 (pa_cons (pv 0) (pa_cons pe_int pa_nil))) pa_nil))))) pa_nil))) pa_nil)) (pg_name (i := 7) sc_l_names.nd rfl (.inl rfl))
  (pss_one (ps_set (i := 6) sc_l_names.nd rfl (.inl rfl) (pe_op op_add_str (pv 6) (pe_ix ix_str pe_str (pe_call (ok_l_draw T) (hr.mono (by decide)) (by rfl) T.g_l_draw T.F_l_draw.kp T.b_l_draw .nil pass0 (pa_cons (pv 0) (pa_cons pe_int pa_nil))) (fun _ _ => rfl))))))
 (pss_one (ps_expr (pe_bm PySem.F.plainAttrs_list PySem.F.slot_list_append PySem.F.type_list_append mt_append (pv 4) (pa_cons (pe_op op_add_str (pv 6) (pv 5)) pa_nil)))))))
 (pss_one (ps_ret (pv 4)))))), ?_⟩
    refine ⟨_, rfl, a, 3, n + 49, rfl, hw, by decide, by decide, fun d H1 d0 d1 s1 w1 => ⟨rfl, _, rfl, ite2 (fun h => ?_) (fun h => ?_)⟩⟩
    · refine ⟨by show 10 ≤ sizeLine; decide, fun ps nps => ?_⟩
      obtain ⟨w2, s2⟩ := well_new (o := .lst (tenNames.map V.str)) w1 nps
      have hps : (upd H1 ps (.lst (tenNames.map V.str))) ps = some (.lst (tenNames.map V.str)) := upd_same
      have npa := w1.ne nps
      refine ⟨_, rfl, a, 10, n + 48, rfl, w2, by decide, by decide, fun e H2 e0 e1 s3 w3 => ?_⟩
      obtain ⟨k, rfl⟩ : ∃ k : Nat, e = (k : Int) := ⟨e.toNat, (Int.toNat_of_nonneg e0).symm⟩
      have hps2 : H2 ps = some (.lst (tenNames.map V.str)) := hid_same _ _ (s3 _ _ (by rw [hid_ne npa]; exact hps))
      have sH : Same (hid a H) (hid a H2) := s1.trans (s2.trans s3)
      refine ⟨_, rfl, _, rfl, k, rfl, ps, _, rfl, SqL.of hps2, fun p1 np1 => ?_⟩
      have t1 := same_upd (o := .lst (cutV (tenNames.map V.str) (some (k : Int)) none)) np1
      refine ⟨_, rfl, _, rfl, k, rfl, ps, _, rfl, SqL.of (t1 _ _ hps2), fun p2 np2 => ?_⟩
      have t2 := same_upd (o := .lst (cutV (tenNames.map V.str) none (some (k : Int)))) np2
      refine ⟨p1, p2, _, _, rfl, rfl, t2 _ _ upd_same, upd_same, ?_, fun p3 np3 => ?_⟩
      · have h1 := cutV_length (tenNames.map V.str) (some (k : Int)) none
        have h2 := cutV_length (tenNames.map V.str) none (some (k : Int))
        rw [List.length_map] at h1 h2
        have : tenNames.length = 10 := rfl
        exact Nat.le_of_lt (small1000 (by omega))
      have t3 := same_upd (o := .lst (cutV (tenNames.map V.str) (some (k : Int)) none ++ cutV (tenNames.map V.str) none (some (k : Int)))) np3
      refine ⟨_, rfl, m, rfl, p3, _, rfl, SqL.of upd_same, fun p4 np4 => ?_⟩
      have t4 := same_upd (o := .lst (cutV (cutV (tenNames.map V.str) (some (k : Int)) none ++ cutV (tenNames.map V.str) none (some (k : Int))) none (some (m : Int)))) np4
      have st := t1.trans (t2.trans (t3.trans t4))
      refine q _ p4 (rot k m) ?_ (sH.trans (hid_mono st)) ((w3.same st).mono (by omega)) ?_ (rot_ok (by omega))
      · exact none_back sH w3 (none_of (t1.trans (t2.trans t3)) np4)
      · have c1 := cut_from (xs := tenNames.map V.str) (k := k) (by rw [List.length_map]; show k ≤ 10; omega)
        have c2 := cut_to (xs := tenNames.map V.str) (k := k) (by rw [List.length_map]; show k ≤ 10; omega)
        rw [upd_same, c1, c2, ← List.map_drop, ← List.map_take, ← List.map_append, cut_to, ← List.map_take]
        · rfl
        · rw [List.length_map, List.length_append, List.length_drop, List.length_take]
          show m ≤ 10 - k + min k 10
          omega
    · refine ⟨Nat.zero_le _, fun pf nf => ?_⟩
      obtain ⟨w2, s2⟩ := well_new (o := .lst []) w1 nf
      have nfH := none_back s1 w1 nf
      have nfa := w1.ne nf
      have kc := kq_cut (m := m) (by omega)
      have kz : (cutS ("kqxzjvwmbt" : Str) none (some (m : Int))).cps.size = m := by
        rw [← Array.length_toList, kc, List.length_take]
        show min m 10 = m
        omega
      refine ⟨_, rfl, m, rfl, _, rfl, by decide, cutS ("kqxzjvwmbt" : Str) none (some (m : Int)), rfl, ?_⟩
      refine for_it walk_str (fun i σ H' => ∃ (z5 z6 z7 : Option V) (zs : List Str), σ = [some (.ref a), some (.int m), none, none, some (.ref pf), z5, z6, z7] ∧ Same (hid a H) (hid a H') ∧ WellAt H' a (n + 9 * (m - i)) ∧ H' pf = some (.lst (zs.map V.str)) ∧ zs.length = i ∧ zs.map (fun z => z.cps.toList.getLast?) = (kqs.take i).map some ∧ ∀ z ∈ zs, NmOk z) ?_ (fun _ _ _ _ _ => trivial) (fun i v σ H2 H3 hi h y => ?_) (fun σ H2 h => ?_)
      · exact ⟨none, none, none, [], rfl, s1.trans s2, w2.mono (by omega), upd_same, rfl, rfl, fun z hz => by cases hz⟩
      · obtain ⟨rfl, c, hc, rfl⟩ := y
        obtain ⟨z5, z6, z7, zs, rfl, sH, w3, hf, lz, ez, az⟩ := h
        rw [kz] at hi
        rw [← Array.getElem?_toList, kc, List.getElem?_take_of_lt hi] at hc
        have hck : c ∈ kqs := List.mem_of_getElem? hc
        obtain ⟨r, hr9⟩ : ∃ r, n + 9 * (m - i) = r + 9 ∧ r = n + 9 * (m - (i + 1)) := ⟨_, by omega, rfl⟩
        rw [hr9.1] at w3
        refine ⟨_, rfl, _, rfl, a, 8, r + 8, rfl, w3, by decide, by decide, fun d H4 d0 d1 s4 w4 => ⟨by show 4 ≤ sizeLine; decide, fun p4 n4 => ?_⟩⟩
        obtain ⟨w5, s5⟩ := well_new (o := .lst [.int 0, .int 0, .int 1, .int d]) w4 n4
        refine ⟨a, p4, _, r + 7, rfl, w5, sqL_hid w4 n4, by show 0 < 4; decide, by show 4 ≤ 1000; decide, fun j x H5 hx s6 w6 => ?_⟩
        obtain ⟨l, l7, rfl⟩ := four_at d0 d1 hx
        have s46 := s4.trans (s5.trans s6)
        refine ⟨l, rfl, by omega, by omega, for_range (fun j σ H' => ∃ (z7 : Option V) (wd : Str), σ = [some (.ref a), some (.int m), none, none, some (.ref pf), some (.str ⟨#[c]⟩), some (.str wd), z7] ∧ Same (hid a H3) (hid a H') ∧ WellAt H' a (r + (7 - j)) ∧ wd.length = j ∧ ∀ c ∈ wd.cps.toList, c ∈ letters) ⟨_, _, rfl, s46, w6, rfl, fun c hc => by cases hc⟩ (fun j σ H6 hj h => ?_) (fun σ H6 h => ?_)⟩
        · obtain ⟨z7, wd, rfl, s7, w7, lw, aw⟩ := h
          rw [Int.toNat_natCast] at hj
          refine ⟨_, rfl, _, rfl, a, 26, r + (7 - (j + 1)), rfl, w7.mono (by omega), by decide, by decide, fun e H7 e0 e1 s8 w8 => ?_⟩
          obtain ⟨ch, h1, h2⟩ := atI_get (xs := letters) e0 e1
          refine ⟨_, e, ch, rfl, rfl, by decide, h1, _, _, rfl, rfl, ?_, ?_⟩
          · show wd.length + 1 ≤ sizeLine
            exact Nat.le_of_lt (small1000 (by omega))
          · refine ⟨_, _, rfl, s7.trans s8, w8, ?_, fun c' hc' => ?_⟩
            · show (wd.cps ++ #[ch]).size = j + 1
              rw [Array.size_append, show wd.cps.size = j from lw]
              rfl
            · rw [show (wd ++ (⟨#[ch]⟩ : Str)).cps.toList = wd.cps.toList ++ [ch] from Array.toList_append] at hc'
              rcases List.mem_append.mp hc' with h | h
              · exact aw _ h
              · rw [List.mem_singleton] at h
                rw [h]
                exact List.mem_of_getElem? h2
        · obtain ⟨z7, wd, rfl, s7, w7, lw, aw⟩ := h
          rw [Int.toNat_natCast] at lw w7
          have hf6 : H6 pf = some (.lst (zs.map V.str)) := hid_same _ _ (s7 _ _ (by rw [hid_ne nfa]; exact hf))
          refine ⟨_, rfl, .inl ⟨rfl, _, SqL.of hf6⟩, _, rfl, _, rfl, _, _, rfl, rfl, ?_, pf, _, _, rfl, rfl, hf6, ?_, ?_⟩
          · show wd.length + 1 ≤ sizeLine
            exact Nat.le_of_lt (small1000 (by omega))
          · rw [List.length_map]
            exact small1000 (by omega)
          have cp : (wd ++ (⟨#[c]⟩ : Str)).cps.toList = wd.cps.toList ++ [c] := Array.toList_append
          refine ⟨_, _, _, zs ++ [wd ++ ⟨#[c]⟩], rfl, ?_, ?_, ?_, ?_, ?_, fun z hz => ?_⟩
          · rw [hid_updN nfa]
            exact same_over (sH.trans s7) (by rw [hid_ne nfa]; exact nfH)
          · exact (w7.upd nfa).mono (by omega)
          · rw [upd_same, List.map_append]
            rfl
          · rw [List.length_append, lz]
            rfl
          · rw [List.map_append, ez, List.take_add_one, hc, List.map_append]
            show _ ++ [(wd ++ (⟨#[c]⟩ : Str)).cps.toList.getLast?] = _
            rw [cp, List.getLast?_append]
            rfl
          · rcases List.mem_append.mp hz with h | h
            · exact az _ h
            · rw [List.mem_singleton] at h
              subst h
              have lc : (wd ++ (⟨#[c]⟩ : Str)).length = l + 1 := by
                show (wd.cps ++ #[c]).size = l + 1
                rw [Array.size_append, show wd.cps.size = l from lw]
                rfl
              refine ⟨by omega, by omega, fun c' hc' => ?_⟩
              rw [cp] at hc'
              rcases List.mem_append.mp hc' with h | h
              · exact aw _ h
              · rw [List.mem_singleton] at h
                rw [h]
                exact kq_let _ hck
      · obtain ⟨z5, z6, z7, zs, rfl, sH, w3, hf, lz, ez, az⟩ := h
        rw [kz] at lz ez w3
        refine ⟨_, rfl, q H2 pf zs nfH sH (w3.mono (by omega)) hf ⟨lz, of_ends ez ((List.take_sublist _ _).nodup kq_nd), az, fun z hz => .inr ?_⟩⟩
        have : z.cps.toList.getLast? ∈ (kqs.take m).map some := by
          rw [← ez]
          exact List.mem_map.mpr ⟨z, hz, rfl⟩
        obtain ⟨c, hc, e⟩ := List.mem_map.mp this
        exact ⟨c, List.mem_of_mem_take hc, e.symm⟩
end
end Fb
namespace Fb
open PySem PySem.Spec PyProof.Rows L2
section
variable {P : Program} {w : World} {K : PySem.W.Frag} {mg : Str → Option Value} {base : Heap}
theorem flat_rep1 {x : V} : ∀ m : Nat, (List.replicate m [x]).flatten = List.replicate m x
  | 0 => rfl
  | m + 1 => by
    rw [List.replicate_succ, List.flatten_cons, flat_rep1 m]
    rfl
theorem nts_len {ns : List Nat} : (nts ns).length = ns.length := List.length_map ..
theorem nts_at {ns : List Nat} {i : Nat} {v : V} (h : (nts ns)[i]? = some v) : ∃ n, ns[i]? = some n ∧ v = .int (n : Int) := by
  rw [List.getElem?_map] at h
  obtain ⟨n, hn, rfl⟩ := Option.map_eq_some_iff.mp h
  exact ⟨n, hn, rfl⟩
theorem nts_set {ns : List Nat} {j k : Nat} : (nts ns).set j (.int (k : Int)) = nts (ns.set j k) := (List.map_set ..).symm
theorem nts_ints {ns : List Nat} : nts ns = (ns.map fun (n : Nat) => (n : Int)).map V.int := by
  rw [List.map_map]
  rfl
theorem sum_nts : ∀ ns : List Nat, (ns.map fun (n : Nat) => (n : Int)).sum = ((ns.sum : Nat) : Int)
  | [] => rfl
  | n :: r => by
    rw [List.map_cons, List.sum_cons, List.sum_cons, sum_nts r]
    omega
theorem sum_pos : ∀ {ns : List Nat}, ns.sum ≠ 0 → ∃ n ∈ ns, 0 < n
  | [], h => absurd rfl h
  | n :: r, h => by
    by_cases h0 : 0 < n
    · exact ⟨n, List.mem_cons_self, h0⟩
    · rw [List.sum_cons] at h
      obtain ⟨k, hk, k0⟩ := sum_pos (ns := r) (by omega)
      exact ⟨k, List.mem_cons_of_mem _ hk, k0⟩
theorem ixn_lt {m : Nat} {d : Int} (d0 : 0 ≤ d) (d1 : d < m) : ixN m d = some d.toNat := by
  unfold ixN
  rw [if_pos d0, if_pos (by omega)]
theorem mem_setN {ns : List Nat} {j k x : Nat} (h : x ∈ ns.set j k) : x ∈ ns ∨ x = k := List.mem_or_eq_of_mem_set h
theorem four_w {d : Int} (d0 : 0 ≤ d) (d4 : d < 4) : ∃ u : Int, atI [V.int 5, V.int 5, V.int 5, V.int 100000000000] d = some (.int u) ∧ 0 < u ∧ u ≤ 100000000000 ∧ u.natAbs.log2 < 9000 := by
  obtain ⟨k, rfl⟩ : ∃ k : Nat, d = (k : Int) := ⟨d.toNat, by omega⟩
  match k, d4 with
  | 0, _ => exact ⟨5, atI_nat (j := 0) rfl, by decide, by decide, by decide⟩
  | 1, _ => exact ⟨5, atI_nat (j := 1) rfl, by decide, by decide, by decide⟩
  | 2, _ => exact ⟨5, atI_nat (j := 2) rfl, by decide, by decide, by decide⟩
  | 3, _ => exact ⟨100000000000, atI_nat (j := 3) rfl, by decide, by decide, by decide +kernel⟩
  | k + 4, h => omega
def spDWts : Sp := fun vs H Q _ => ∃ (a : Addr) (m n : Nat), vs = [.ref a, .int m] ∧ 1 ≤ m ∧ m ≤ 14 ∧ WellAt H a (n + 20) ∧
  ∀ H' p ws, H p = none → Same (hid a H) (hid a H') → WellAt H' a n → H' p = some (.tup (nts ws)) → ws.length = m → (∃ x ∈ ws, 0 < x) → (∀ x ∈ ws, x ≤ 200000000000) → Q (.ref p) H'
theorem ok_l_weights (T : Txt K mg) : FnOk P w K mg base CX0 2 T.f_l_weights T.d_l_weights ["_law_well_here", "_law_many"] spDWts := by
  refine T.F_l_weights.ok sc_l_weights (fun vs H Q E h => ?_) (fun cdv A outer s H vs Q E hr h => ?_)
  · obtain ⟨a, m, n, rfl, _⟩ := h
    rfl
  · obtain ⟨a, m, n, rfl, m1, m14, hw, q⟩ := h
    refine ⟨_, (pss_cons (ps_set (i := 2) sc_l_weights.nd rfl (.inl rfl) (pe_call (ok_l_draw T) (hr.mono (by decide)) (by rfl) T.g_l_draw T.F_l_draw.kp T.b_l_draw .nil pass0 (pa_cons (pv 0) (pa_cons pe_int pa_nil))))
 (pss_cons (ps_set (i := 3) sc_l_weights.nd rfl (.inl rfl) (pe_op op_rep (pe_lst (pa_cons pe_int pa_nil)) (pv 1)))
 (pss_cons (ps_if (pt_cmpR op_lt (pv 2) pe_int (nomark _))
  (pss_one (ps_for PassesOwn.never rfl (pi_range1 (by rfl) T.z_range (pa_cons (pe_op op_add pe_int (pe_callTy call_int1 (by rfl) T.z_int (by decide +kernel) (pa_cons (pe_cmpR op_gt (pv 2) pe_int (nomark _)) pa_nil))) pa_nil)) (pg_name (i := 4) sc_l_weights.nd rfl (.inl rfl))
  (pss_cons (ps_set (i := 5) sc_l_weights.nd rfl (.inl rfl) (pe_call (ok_l_draw T) (hr.mono (by decide)) (by rfl) T.g_l_draw T.F_l_draw.kp T.b_l_draw .nil pass0 (pa_cons (pv 0) (pa_cons (pv 1) pa_nil))))
 (pss_one (ps_asg (pe_op op_add (pe_op op_add (pe_ix ix_list (pv 3) (pv 5) (fun _ _ => rfl)) pe_int) (pe_call (ok_l_draw T) (hr.mono (by decide)) (by rfl) T.g_l_draw T.F_l_draw.kp T.b_l_draw .nil pass0 (pa_cons (pv 0) (pa_cons (pe_ix ix_list (pe_lst (pa_cons pe_int (pa_cons pe_int (pa_cons pe_int (pa_cons (pe_op op_pow pe_int pe_int) pa_nil))))) (pv 2) (fun _ _ => rfl)) pa_nil)))) (pg_sub (pv 3) (pv 5) set_list))))))
  (pss_one (ps_setLc (i := 3) (own := [("_law_room", 6)]) (g := (gName 6)) (tt := tYes) (by rfl) sc_l_weights.nd rfl rfl (sw_true rfl rfl rfl (by decide +kernel)) (pi_range1 (by rfl) T.z_range (pa_cons (pv 1) pa_nil)) (blkOk_by (own := [("_law_room", 6)]) (N := ["_law_well_here", "_law_many", "_law_way", "_law_found", "_law_k", "_law_at", "_law_room"]) (sc := defScope s_l_weights) (by decide +kernel)) (fun _ _ _ _ _ => by exact (pg_name (i := 6) sc_l_weights.nd rfl (.inl rfl))) (fun _ _ _ _ _ => by exact pts_nil) (fun _ _ _ _ _ => by exact (pe_call (ok_l_draw T) (hr.mono (by decide)) (by rfl) T.g_l_draw T.F_l_draw.kp T.b_l_draw .nil pass0 (pa_cons (pv 0) (pa_cons pe_int pa_nil)))))))
 (pss_cons (ps_if (pt_cmpR op_eq (pe_callB (cr_sum rfl) (by rfl) T.z_sum (by decide +kernel) (pa_cons (pv 3) pa_nil)) pe_int (nomark _))
  (pss_one (ps_asg pe_int (pg_sub (pv 3) (pe_call (ok_l_draw T) (hr.mono (by decide)) (by rfl) T.g_l_draw T.F_l_draw.kp T.b_l_draw .nil pass0 (pa_cons (pv 0) (pa_cons (pv 1) pa_nil))) set_list)))
  pss_nil)
 (pss_one (ps_ret (pe_callTy call_tuple_of (by rfl) T.z_tuple (by decide +kernel) (pa_cons (pv 3) pa_nil)))))))), ?_⟩
    have ml : ((m : Int)).natAbs.log2 < 9000 := log_small (by omega)
    refine ⟨_, rfl, a, 5, n + 19, rfl, hw, by decide, by decide, fun d H1 d0 d1 s1 w1 => ?_⟩
    refine ⟨by show 1 ≤ sizeLine; decide, fun l nl => ?_⟩
    obtain ⟨w2, s2⟩ := well_new (o := .lst [.int 0]) w1 nl
    refine ⟨_, rfl, l, _, _, rfl, rfl, upd_same, by omega, by omega, ?_, fun p np => ?_⟩
    · show 1 * (m : Int).toNat ≤ sizeLine
      rw [Int.toNat_natCast]
      exact Nat.le_of_lt (small1000 (by omega))
    rw [Int.toNat_natCast, flat_rep1]
    obtain ⟨w3, s3⟩ := well_new (o := .lst (List.replicate m (V.int 0))) w2 np
    have npa := w2.ne np
    have npH : H p = none := none_back (s1.trans s2) w2 np
    have s13 := s1.trans (s2.trans s3)
    have e3 : (upd (upd H1 l (.lst [.int 0])) p (.lst (List.replicate m (V.int 0)))) p = some (.lst (nts (List.replicate m 0))) := by
      rw [upd_same, nts, List.map_replicate]
      rfl
    generalize upd (upd H1 l (.lst [.int 0])) p (.lst (List.replicate m (V.int 0))) = H3 at *
    dsimp only [gName]
    refine seq_fin (fun σ H' => ∃ (z4 z5 z6 : Option V) (p : Addr) (ws : List Nat), σ = [some (.ref a), some (.int m), some (.int d), some (.ref p), z4, z5, z6] ∧ H p = none ∧ p ≠ a ∧ Same (hid a H) (hid a H') ∧ WellAt H' a (n + 1) ∧ H' p = some (.lst (nts ws)) ∧ ws.length = m ∧ ∀ x ∈ ws, x ≤ 200000000000) (fun σ H' h => ?_) (fun fin => ?_)
    · obtain ⟨z4, z5, z6, p, ws, rfl, np, npa, sH, wH, e, l, b⟩ := h
      refine seq_fin (fun σ H' => ∃ (ws : List Nat), σ = [some (.ref a), some (.int m), some (.int d), some (.ref p), z4, z5, z6] ∧ Same (hid a H) (hid a H') ∧ WellAt H' a n ∧ H' p = some (.lst (nts ws)) ∧ ws.length = m ∧ (∃ x ∈ ws, 0 < x) ∧ ∀ x ∈ ws, x ≤ 200000000000) (fun σ H' h => ?_) (fun fin => ?_)
      · obtain ⟨ws, rfl, s4, w4, e, l, px, b⟩ := h
        refine ⟨_, rfl, p, _, rfl, .inl ⟨SqL.of e, fun r nr => ?_⟩⟩
        have t := same_upd (o := .tup (nts ws)) nr
        exact q _ r ws (none_back s4 w4 nr) (s4.trans (hid_mono t)) (w4.same t) upd_same l px b
      · refine ⟨_, rfl, p, ws.map (fun (n : Nat) => (n : Int)), rfl, SqL.of (by rw [e, nts_ints]), rfl, _, rfl, ite2 (fun h => ?_) (fun h => ?_)⟩
        · refine ⟨_, rfl, _, rfl, _, rfl, a, m, n, rfl, wH, by omega, ml, fun d H4 e0 e1 s4 w4 => ?_⟩
          have e4 : H4 p = some (.lst (nts ws)) := hid_same _ _ (s4 _ _ (by rw [hid_ne npa]; exact e))
          refine ⟨p, _, d, d.toNat, rfl, rfl, e4, ixn_lt e0 (by rw [nts_len, l]; exact e1), ?_⟩
          refine fin _ _ ⟨ws.set d.toNat 1, rfl, ?_, w4.upd npa, ?_, by rw [List.length_set, l], ⟨1, ?_, by decide⟩, fun x hx => ?_⟩
          · rw [hid_updN npa]
            exact same_over (sH.trans s4) (by rw [hid_ne npa]; exact np)
          · rw [upd_same, ← nts_set]
            rfl
          · exact List.mem_of_getElem? (i := d.toNat) (List.getElem?_set_self (by omega))
          · rcases mem_setN hx with h | h
            · exact b x h
            · omega
        · refine fin _ _ ⟨ws, rfl, sH, wH.mono (by omega), e, l, sum_pos fun z => ?_, b⟩
          rw [sum_nts, z] at h
          exact h rfl
    · refine ⟨_, rfl, _, _, rfl, rfl, _, rfl, ite2 (fun h => ?_) (fun h => ?_)⟩
      · refine ⟨_, rfl, _, _, rfl, rfl, .inr ⟨_, rfl, _, _, rfl, rfl, _, rfl, ?_, ?_, ?_⟩⟩
        · split <;> decide
        · split <;> decide
        obtain ⟨t, ht, t2⟩ : ∃ t : Nat, ((1 : Int) + if decide (1 < d) = true then 1 else 0).toNat = t ∧ t ≤ 2 := ⟨_, rfl, by split <;> decide⟩
        rw [ht]
        have h0 : 0 ≤ d := d0
        have h1' : d < 4 := of_decide_eq_true h
        refine for_range (fun i σ H' => ∃ (z4 z5 z6 : Option V) (ws : List Nat), σ = [some (.ref a), some (.int m), some (.int d), some (.ref p), z4, z5, z6] ∧ Same (hid a H) (hid a H') ∧ WellAt H' a (n + 1 + 2 * (t - i)) ∧ H' p = some (.lst (nts ws)) ∧ ws.length = m ∧ ∀ x ∈ ws, x ≤ 100000000000 * i) ⟨_, _, _, _, rfl, s13, w3.mono (by omega), e3, List.length_replicate, fun x hx => ?_⟩ (fun i σ H' hi h => ?_) (fun σ H' h => ?_)
        · rw [(List.mem_replicate.mp hx).2]
          exact Nat.zero_le _
        · obtain ⟨z4, z5, z6, ws, rfl, s4, w4, e4, l4, b4⟩ := h
          have hr : n + 1 + 2 * (t - i) = (n + 1 + 2 * (t - (i + 1))) + 1 + 1 := by omega
          rw [hr] at w4
          refine ⟨_, rfl, _, rfl, a, m, _, rfl, w4, by omega, ml, fun f H5 f0 f1 s5 w5 => ?_⟩
          have e5 : H5 p = some (.lst (nts ws)) := hid_same _ _ (s5 _ _ (by rw [hid_ne npa]; exact e4))
          obtain ⟨x, h1, h2⟩ := atI_get (xs := nts ws) f0 (by rw [nts_len, l4]; exact f1)
          obtain ⟨k, hk, rfl⟩ := nts_at h2
          obtain ⟨u, eu, u0, u1, u2⟩ := four_w h0 h1'
          refine ⟨_, rfl, _, rfl, p, _, f, _, rfl, rfl, SqL.of e5, h1, _, _, rfl, rfl, _, rfl, _, _, rfl, rfl, ⟨by decide, by decide, by decide⟩, by show 4 ≤ sizeLine; decide, fun q4 nq4 => ?_⟩
          obtain ⟨w5b, s5b⟩ := well_new (o := .lst [.int 5, .int 5, .int 5, .int 100000000000]) w5 nq4
          refine ⟨_, rfl, q4, _, d, _, rfl, rfl, SqL.of upd_same, eu, a, u, _, rfl, w5b, u0, u2, fun g H6 g0 g1 s6 w6 => ?_⟩
          have e5 := hid_same _ _ (s5b _ _ (show (hid a H5) p = _ by rw [hid_ne npa]; exact e5))
          have s5 := s5.trans s5b
          have e6 : H6 p = some (.lst (nts ws)) := hid_same _ _ (s6 _ _ (by rw [hid_ne npa]; exact e5))
          refine ⟨_, _, rfl, rfl, _, rfl, _, rfl, p, _, f, f.toNat, rfl, rfl, e6, ixn_lt f0 (by rw [nts_len, l4]; exact f1), ?_⟩
          have ek : ((k : Int) + 1 + g) = ((k + 1 + g.toNat : Nat) : Int) := by omega
          refine ⟨_, _, _, ws.set f.toNat (k + 1 + g.toNat), rfl, ?_, w6.upd npa, by rw [upd_same, ← nts_set, ← ek], by rw [List.length_set, l4], fun x hx => ?_⟩
          · rw [hid_updN npa]
            exact same_over (s4.trans (s5.trans s6)) (by rw [hid_ne npa]; exact npH)
          · have := b4 k (List.mem_of_getElem? hk)
            rcases mem_setN hx with h | h
            · have := b4 x h
              omega
            · omega
        · obtain ⟨z4, z5, z6, ws, rfl, s4, w4, e4, l4, b4⟩ := h
          exact fin _ _ ⟨_, _, _, p, ws, rfl, npH, npa, s4, w4.mono (by omega), e4, l4, fun x hx => Nat.le_trans (b4 x hx) (by omega)⟩
      · refine ⟨_, rfl, m, rfl, by omega, by omega, fun D nD => lc_wellR (a := a) (fun v _ => ∃ k : Nat, k ≤ 200000000000 ∧ v = .int k) (fun _ _ _ _ h => h) 1 (n + 1) nD (w3.mono (by rw [Int.toNat_natCast]; omega)) (by rw [Int.toNat_natCast]; omega) (fun i H4 f kk hi w4 s4 eD hk => ?_) (fun H4 ys s4 w4 e4 l4 r4 => ?_)⟩
        · refine ⟨rfl, _, rfl, a, 7, f, rfl, w4, by decide, by decide, fun g H5 g0 g1 s5 w5 => hk _ _ s5 w5 ⟨g.toNat, by omega, by rw [Int.toNat_of_nonneg g0]⟩⟩
        · obtain ⟨ws, rfl, lw, bw⟩ : ∃ ws : List Nat, ys = nts ws ∧ ws.length = ys.length ∧ ∀ x ∈ ws, x ≤ 200000000000 := by
            clear e4 l4 s4
            induction ys with
            | nil => exact ⟨[], rfl, rfl, fun x hx => by cases hx⟩
            | cons y ys ih =>
              obtain ⟨ws, rfl, lw, bw⟩ := ih (fun y hy => r4 y (List.mem_cons_of_mem _ hy))
              obtain ⟨k, k12, rfl⟩ := r4 y List.mem_cons_self
              exact ⟨k :: ws, rfl, by rw [List.length_cons, List.length_cons, lw], fun x hx => by
                rcases List.mem_cons.mp hx with rfl | h
                · exact k12
                · exact bw x h⟩
          rw [Int.toNat_natCast] at l4
          have nDa := w3.ne nD
          have nDH := none_back s13 w3 nD
          refine fin _ _ ⟨_, _, _, D, ws, rfl, nDH, nDa, ?_, w4, e4, by omega, bw⟩
          exact s13.trans (s4.trans hid_same)
end
end Fb
namespace Fb
open PySem PySem.Spec PyProof.Rows L2
section
variable {P : Program} {w : World} {K : PySem.W.Frag} {mg : Str → Option Value} {base : Heap}
def AnyT (t : TT) (σ : L2.St) (M0 M : Hp → Prop) : Prop := ∀ H, M0 H → ∀ Q : Bool → Hp → Prop, (∀ b H', M H' → Q b H') → t σ H Q
theorem or_any {t u : TT} {σ : L2.St} {M0 M1 M : Hp → Prop} (ht : AnyT t σ M0 M1) (hu : AnyT u σ M1 M) (wk : ∀ H, M1 H → M H) : AnyT (tOr t u) σ M0 M := fun H h Q hQ => ht H h _ fun b H' m => by
  cases b
  · exact iteF (hu H' m Q hQ)
  · exact iteT (hQ _ _ (wk _ m))
theorem and_any {t u : TT} {σ : L2.St} {M0 M1 M : Hp → Prop} (ht : AnyT t σ M0 M1) (hu : AnyT u σ M1 M) (wk : ∀ H, M1 H → M H) : AnyT (tAnd t u) σ M0 M := fun H h Q hQ => ht H h _ fun b H' m => by
  cases b
  · exact iteF (hQ _ _ (wk _ m))
  · exact iteT (hu H' m Q hQ)
theorem if_any {c : TT} {t u : L2.TS} {D : L2.Ends} {σ : L2.St} {H : Hp} (M0 M : Hp → Prop) (h0 : M0 H) (hc : AnyT c σ M0 M) (ht : ∀ H', M H' → t D σ H') (hu : ∀ H', M H' → u D σ H') : tIfS c t u D σ H := hc H h0 _ fun b H' m => by
  cases b
  · exact iteF (hu H' m)
  · exact iteT (ht H' m)
structure DS (m : Nat) (zs : List Str) (i j : Nat) (ss : List Stp) : Prop where
  len : ss.length ≤ i * zs.length + j
  all : ∀ s ∈ ss, StpOk m s ∧ s.sign ∈ zs ∧ (∀ x ∈ s.ws, x ≤ 200000000000) ∧ (s.room < i ∨ (s.room = i ∧ ∃ k, k < j ∧ zs[k]? = some s.sign))
  once : (ss.map Stp.key).Nodup
theorem DS.next {m : Nat} {zs : List Str} {i j : Nat} {ss : List Stp} (h : DS m zs i j ss) : DS m zs i (j + 1) ss :=
  ⟨Nat.le_succ_of_le h.len, fun s hs => ⟨(h.all s hs).1, (h.all s hs).2.1, (h.all s hs).2.2.1, (h.all s hs).2.2.2.imp id fun ⟨e, k, l, g⟩ => ⟨e, k, Nat.lt_succ_of_lt l, g⟩⟩, h.once⟩
theorem DS.row {m : Nat} {zs : List Str} {i : Nat} {ss : List Stp} (h : DS m zs i zs.length ss) : DS m zs (i + 1) 0 ss :=
  ⟨by rw [Nat.succ_mul]; exact h.len, fun s hs => ⟨(h.all s hs).1, (h.all s hs).2.1, (h.all s hs).2.2.1, .inl ((h.all s hs).2.2.2.elim (fun l => Nat.lt_succ_of_lt l) fun ⟨e, _⟩ => by omega)⟩, h.once⟩
theorem twenty {x : Nat} (h : x ≤ 200000000000) : x < 2 ^ 4000 := Nat.lt_of_lt_of_le (Nat.lt_of_le_of_lt h (by decide : 200000000000 < 2 ^ 40)) (Nat.pow_le_pow_right (by decide) (by decide))
theorem DS.add {m k : Nat} {zs : List Str} {i j : Nat} {ss : List Stp} {z : Str} {ws : List Nat} (h : DS m zs i j ss) (ok : NmsOk k zs) (hi : i < m) (hz : zs[j]? = some z) (lw : ws.length = m) (pw : ∃ x ∈ ws, 0 < x) (bw : ∀ x ∈ ws, x ≤ 200000000000) : DS m zs i (j + 1) (ss ++ [⟨i, z, ws⟩]) := by
  have hm := List.mem_of_getElem? hz
  refine ⟨?_, fun s hs => ?_, ?_⟩
  · rw [List.length_append, List.length_singleton]
    have := h.len
    omega
  · rcases List.mem_append.mp hs with hs | hs
    · exact h.next.all s hs
    · rw [List.mem_singleton] at hs
      subst hs
      exact ⟨⟨hi, ok.all _ hm, ⟨lw, pw, fun x hx => twenty (bw x hx)⟩⟩, hm, bw, .inr ⟨rfl, j, Nat.lt_succ_self _, hz⟩⟩
  · rw [List.map_append, List.nodup_append]
    refine ⟨h.once, by simp, fun a ha b hb => ?_⟩
    rw [List.map_singleton, List.mem_singleton] at hb
    subst hb
    rintro rfl
    obtain ⟨s, hs, e⟩ := List.mem_map.mp ha
    have e1 : (s.room : Int) = (i : Int) := congrArg Prod.fst e
    have e2 : s.sign = z := congrArg Prod.snd e
    rcases (h.all s hs).2.2.2 with l | ⟨_, k', lk, g⟩
    · omega
    · rw [e2] at g
      have := (List.getElem?_inj (List.getElem?_eq_some_iff.mp g).1 ok.nd).mp (g.trans hz.symm)
      omega
theorem IsStp.ts {H H' : Hp} {v : V} {s : Stp} (h : IsStp H v s) (t : TS H H') : IsStp H' v s := by
  obtain ⟨p, wa, e, h1, h2⟩ := h
  exact ⟨p, wa, e, t _ _ h1, t _ _ h2⟩
def spDMach : Sp := fun vs H Q _ => ∃ (a sp : Addr) (zs : List Str) (k m0 n : Nat), vs = [.ref a, .ref sp, .int m0] ∧ 1 ≤ m0 ∧ m0 ≤ 12 ∧ 1 ≤ k ∧ k ≤ 4 ∧ NmsOk k zs ∧ sp ≠ a ∧ H sp = some (.lst (zs.map V.str)) ∧ WellAt H a (n + 1200) ∧
  ∀ H' t l m vs ss, Same (hid a H) (hid a H') → WellAt H' a n → 1 ≤ m → m ≤ m0 → H' t = some (.tup [.int (m : Nat), .ref l]) → H t = none → H l = none → H' l = some (.lst vs) → AllAre (IsStp H') vs ss → DS m zs m 0 ss → Q (.ref t) H'
theorem ok_l_machine (T : Txt K mg) : FnOk P w K mg base CX0 3 T.f_l_machine T.d_l_machine ["_law_well_here", "_law_signs", "_law_most"] spDMach := by
  refine T.F_l_machine.ok sc_l_machine (fun vs H Q E h => ?_) (fun cdv A outer s H vs Q E hr h => ?_)
  · obtain ⟨a, sp, zs, k, m0, n, rfl, _⟩ := h
    rfl
  · obtain ⟨a, sp, zs, k, m0, n, rfl, m1, m12, k1, k4, ok, spa, hsp, hw, q⟩ := h
    refine ⟨_, (pss_cons (ps_set (i := 3) sc_l_machine.nd rfl (.inl rfl) (pe_op op_add pe_int (pe_call (ok_l_draw T) (hr.mono (by decide)) (by rfl) T.g_l_draw T.F_l_draw.kp T.b_l_draw .nil pass0 (pa_cons (pv 0) (pa_cons (pv 2) pa_nil)))))
 (pss_cons (ps_set (i := 4) sc_l_machine.nd rfl (.inl rfl) (pe_call (ok_l_draw T) (hr.mono (by decide)) (by rfl) T.g_l_draw T.F_l_draw.kp T.b_l_draw .nil pass0 (pa_cons (pv 0) (pa_cons pe_int pa_nil))))
 (pss_cons (ps_set (i := 5) sc_l_machine.nd rfl (.inl rfl) (pe_call (ok_l_draw T) (hr.mono (by decide)) (by rfl) T.g_l_draw T.F_l_draw.kp T.b_l_draw .nil pass0 (pa_cons (pv 0) (pa_cons (pe_op op_add (pv 3) pe_int) pa_nil))))
 (pss_cons (ps_set (i := 6) sc_l_machine.nd rfl (.inl rfl) (pe_call (ok_l_draw T) (hr.mono (by decide)) (by rfl) T.g_l_draw T.F_l_draw.kp T.b_l_draw .nil pass0 (pa_cons (pv 0) (pa_cons (pe_callB call_len_seq (by rfl) T.z_len (by decide +kernel) (pa_cons (pv 1) pa_nil)) pa_nil))))
 (pss_cons (ps_set (i := 7) sc_l_machine.nd rfl (.inl rfl) (pe_lst pa_nil))
 (pss_cons (ps_for PassesOwn.never rfl (pi_range1 (by rfl) T.z_range (pa_cons (pv 3) pa_nil)) (pg_name (i := 8) sc_l_machine.nd rfl (.inl rfl))
  (pss_one (ps_for PassesOwn.never rfl (pi_enum (by rfl) T.z_enumerate (pa_cons (pv 1) pa_nil)) (pg_tup (by rfl) (pgs_cons (pg_name (i := 9) sc_l_machine.nd rfl (.inl rfl)) (pgs_cons (pg_name (i := 10) sc_l_machine.nd rfl (.inl rfl)) pgs_nil)))
  (pss_one (ps_if (PW.pt (pw_or (PW.pt (pw_and (pt_cmpR op_lt (pv 4) pe_int (nomark _)) (pw_and1 (PW.pt (pw_or (pt_cmpR op_ne (pv 8) (pv 5) (nomark _)) (pw_or1 (pt_cmpR op_lt (pv 9) (pv 6) (nomark _)))))))) (pw_or1 (PW.pt (pw_and (pt_cmpR op_eq (pv 4) pe_int (nomark _)) (pw_and1 (pt_cmpR op_gt (pe_call (ok_l_draw T) (hr.mono (by decide)) (by rfl) T.g_l_draw T.F_l_draw.kp T.b_l_draw .nil pass0 (pa_cons (pv 0) (pa_cons pe_int pa_nil))) pe_int (nomark _))))))))
  (pss_one (ps_expr (pe_bm PySem.F.plainAttrs_list PySem.F.slot_list_append PySem.F.type_list_append mt_append (pv 7) (pa_cons (pe_tup (pa_cons (pv 8) (pa_cons (pv 10) (pa_cons (pe_call (ok_l_weights T) (hr.mono (by decide)) (by rfl) T.g_l_weights T.F_l_weights.kp T.b_l_weights .nil pass0 (pa_cons (pv 0) (pa_cons (pv 3) pa_nil))) pa_nil)))) pa_nil))))
  pss_nil)))))
 (pss_one (ps_ret (pe_tup (pa_cons (pv 3) (pa_cons (pv 7) pa_nil))))))))))), ?_⟩
    refine ⟨_, rfl, _, rfl, a, m0, n + 1199, rfl, hw, by omega, log_small (by omega), fun d H1 d0 d1 s1 w1 => ⟨_, _, rfl, rfl, ?_⟩⟩
    obtain ⟨m, hm⟩ : ∃ m : Nat, 1 + d = (m : Int) := ⟨(1 + d).toNat, by omega⟩
    dsimp only
    rw [hm]
    have mm1 : 1 ≤ m := by omega
    have mm2 : m ≤ m0 := by omega
    clear hm
    refine ⟨_, rfl, a, 3, n + 1198, rfl, w1, by decide, by decide, fun d2 H2 _ _ s2 w2 => ?_⟩
    refine ⟨_, rfl, _, rfl, _, _, rfl, rfl, a, _, n + 1197, rfl, w2, by omega, ?_, fun d3 H3 _ _ s3 w3 => ?_⟩
    · exact log_small (m := m + 1) (by omega)
    have s13 := s1.trans (s2.trans s3)
    have hsp3 : H3 sp = some (.lst (zs.map V.str)) := hid_same _ _ (s13 _ _ (by rw [hid_ne spa]; exact hsp))
    refine ⟨_, rfl, _, rfl, sp, _, rfl, .inl (SqL.of hsp3), a, _, n + 1196, rfl, w3, ?_, ?_, fun d4 H4 _ _ s4 w4 => ?_⟩
    · rw [List.length_map, ok.len]
      omega
    · rw [List.length_map, ok.len]
      exact log_small (by omega)
    refine ⟨Nat.zero_le _, fun pl npl => ?_⟩
    obtain ⟨w5, s5⟩ := well_new (o := .lst []) w4 npl
    have s14 := s13.trans s4
    have npH : H pl = none := none_back s14 w4 npl
    have npa := w4.ne npl
    have s15 := s14.trans s5
    let J : Nat → Nat → Hp → Prop := fun i j H' => ∃ (ss : List Stp) (vs : List V), Same (hid a H) (hid a H') ∧ WellAt H' a (n + 21 * ((m - i) * zs.length - j)) ∧ H' pl = some (.lst vs) ∧ AllAre (IsStp H') vs ss ∧ DS m zs i j ss
    refine ⟨_, rfl, m, rfl, by omega, by omega, for_range (fun i σ H' => ∃ z8 z9 z10, σ = [some (.ref a), some (.ref sp), some (.int m0), some (.int m), some (.int d2), some (.int d3), some (.int d4), some (.ref pl), z8, z9, z10] ∧ J i 0 H') ⟨_, _, _, rfl, [], [], s15, w5.mono ?_, upd_same, .nil, ⟨Nat.zero_le _, fun s hs => (by cases hs), List.nodup_nil⟩⟩ (fun i σ H6 hi h => ?_) (fun σ H6 h => ?_)⟩
    · rw [ok.len, Nat.sub_zero, Nat.sub_zero]
      have : m * k ≤ 12 * 4 := Nat.mul_le_mul (by omega) k4
      omega
    · obtain ⟨z8, z9, z10, rfl, hJ⟩ := h
      rw [Int.toNat_natCast] at hi
      have hsJ : ∀ {i j H'}, J i j H' → H' sp = some (.lst (zs.map V.str)) := fun ⟨_, _, s, _⟩ => hid_same _ _ (s _ _ (by rw [hid_ne spa]; exact hsp))
      refine ⟨_, rfl, sp, _, rfl, SqL.of (hsJ hJ), for_it (walk_enum (K := K) (a := sp) (xs := zs.map V.str)) (fun j σ H' => ∃ z9 z10, σ = [some (.ref a), some (.ref sp), some (.int m0), some (.int m), some (.int d2), some (.int d3), some (.int d4), some (.ref pl), some (.int (0 + (i : Nat))), z9, z10] ∧ J i j H') ⟨_, _, rfl, hJ⟩ (fun j σ H' _ h => ?_) (fun j v σ H7 H8 hj h y => ?_) (fun σ H' h => ?_)⟩
      · obtain ⟨_, _, _, h⟩ := h
        exact SqL.of (hsJ h)
      · obtain ⟨z9, z10, rfl, hJ⟩ := h
        obtain ⟨t, x, y, rfl, nt, rfl, ex, ey⟩ := y
        cases ex
        have ey : (zs.map V.str)[j]? = some y := ey
        rw [List.getElem?_map] at ey
        obtain ⟨z, hz, rfl⟩ := Option.map_eq_some_iff.mp ey
        rw [List.length_map] at hj
        obtain ⟨ss, vs, s7, w7, e7, a7, D7⟩ := hJ
        have st := same_upd (o := .tup [.int (j : Nat), .str z]) nt
        refine ⟨t, _, rfl, .inl (.inl upd_same), rfl, _, _, rfl, _, _, rfl, rfl, ?_⟩
        have hn : n + 21 * ((m - i) * zs.length - j) = (n + 21 * ((m - i) * zs.length - (j + 1))) + 21 := by
          have : 1 * zs.length ≤ (m - i) * zs.length := Nat.mul_le_mul_right _ (by omega)
          omega
        rw [hn] at w7
        obtain ⟨r, er⟩ : ∃ r, r = n + 21 * ((m - i) * zs.length - (j + 1)) := ⟨_, rfl⟩
        rw [← er] at w7
        refine if_any (fun H' => Same (hid a H7) (hid a H') ∧ WellAt H' a (r + 21)) (fun H' => Same (hid a H7) (hid a H') ∧ WellAt H' a (r + 20)) ⟨hid_mono st, w7.same st⟩ ?_ (fun H9 ⟨s9, w9⟩ => ?_) (fun H9 ⟨s9, w9⟩ => ?_)
        · refine or_any (M1 := fun H' => Same (hid a H7) (hid a H') ∧ WellAt H' a (r + 21)) (and_any (M1 := fun H' => Same (hid a H7) (hid a H') ∧ WellAt H' a (r + 21)) (fun H' h Q hQ => ⟨_, rfl, _, _, rfl, rfl, _, rfl, hQ _ _ h⟩) (or_any (M1 := fun H' => Same (hid a H7) (hid a H') ∧ WellAt H' a (r + 21)) (fun H' h Q hQ => ⟨_, rfl, _, rfl, rfl, _, rfl, hQ _ _ h⟩) (fun H' h Q hQ => ⟨_, rfl, _, rfl, _, _, rfl, rfl, _, rfl, hQ _ _ h⟩) (fun _ h => h)) (fun _ h => h)) (and_any (M1 := fun H' => Same (hid a H7) (hid a H') ∧ WellAt H' a (r + 21)) (fun H' h Q hQ => ⟨_, rfl, rfl, _, rfl, hQ _ _ h⟩) (fun H' h Q hQ => ⟨_, rfl, a, 3, r + 20, rfl, h.2, by decide, by decide, fun g H'' _ _ s w => ⟨_, _, rfl, rfl, _, rfl, hQ _ _ ⟨h.1.trans s, w⟩⟩⟩) (fun _ h => ⟨h.1, h.2.mono (by omega)⟩)) (fun _ h => ⟨h.1, h.2.mono (by omega)⟩)
        · have e9 : H9 pl = some (.lst vs) := hid_same _ _ (s9 _ _ (by rw [hid_ne npa]; exact e7))
          refine ⟨_, rfl, .inl ⟨rfl, _, SqL.of e9⟩, _, rfl, _, rfl, _, rfl, _, rfl, a, m, r, rfl, mm1, by omega, w9, fun H10 wa ws nwa s10 w10 ewa lw pw bw => ?_⟩
          refine ⟨by show 3 ≤ sizeLine; decide, fun t2 nt2 => ?_⟩
          have t10 := same_upd (o := .tup [.int (0 + (i : Nat)), .str z, .ref wa]) nt2
          have e11 : (upd H10 t2 (.tup [.int (0 + (i : Nat)), .str z, .ref wa])) pl = some (.lst vs) := t10 _ _ (hid_same _ _ (s10 _ _ (by rw [hid_ne npa]; exact e9)))
          have lv : vs.length < 60 := by
            rw [a7.1]
            have h1 := D7.len
            have h2 : i * zs.length ≤ 11 * zs.length := Nat.mul_le_mul_right _ (by omega)
            rw [ok.len] at h1 h2 hj
            omega
          refine ⟨pl, _, _, rfl, rfl, e11, small1000 (by omega), ?_⟩
          have s711 : Same (hid a H7) (hid a (upd H10 t2 (.tup [.int (0 + (i : Nat)), .str z, .ref wa]))) := s9.trans (s10.trans (hid_mono t10))
          have tt : TS H7 (upd H10 t2 (.tup [.int (0 + (i : Nat)), .str z, .ref wa])) := TS.well w7 s711
          have tl : TS (upd H10 t2 (.tup [.int (0 + (i : Nat)), .str z, .ref wa])) (upd (upd H10 t2 (.tup [.int (0 + (i : Nat)), .str z, .ref wa])) pl (.lst (vs ++ [.ref t2]))) := TS.lst e11
          refine ⟨_, _, rfl, ss ++ [⟨i, z, ws⟩], vs ++ [.ref t2], ?_, ?_, upd_same, ?_, D7.add ok (by omega) hz lw pw bw⟩
          · rw [hid_updN npa]
            exact same_over (s7.trans s711) (by rw [hid_ne npa]; exact npH)
          · rw [← er]
            exact (w10.same t10).upd npa
          · refine AllAre.snoc (a7.imp fun _ _ h => h.ts (tt.trans tl)) ⟨t2, wa, rfl, tl _ _ ?_, tl _ _ (t10 _ _ ewa)⟩
            rw [upd_same, Int.zero_add]
        · refine ⟨_, _, rfl, ss, vs, s7.trans s9, w9.mono (by rw [← er]; omega), hid_same _ _ (s9 _ _ (by rw [hid_ne npa]; exact e7)), a7.imp fun _ _ h => h.ts (TS.well w7 s9), D7.next⟩
      · obtain ⟨z9, z10, rfl, ss, vs, s7, w7, e7, a7, D7⟩ := h
        rw [List.length_map] at w7 D7
        refine ⟨_, _, _, rfl, ss, vs, s7, w7.mono ?_, e7, a7, D7.row⟩
        have : m - i = (m - (i + 1)) + 1 := by omega
        have e2 : (m - i) * zs.length = (m - (i + 1)) * zs.length + zs.length := by rw [this, Nat.add_mul, Nat.one_mul]
        omega
    · obtain ⟨z8, z9, z10, rfl, ss, vs, s7, w7, e7, a7, D7⟩ := h
      rw [Int.toNat_natCast] at w7 D7
      refine ⟨_, rfl, _, rfl, by show 2 ≤ sizeLine; decide, fun t nt => ?_⟩
      have st := same_upd (o := .tup [.int (m : Nat), .ref pl]) nt
      exact q _ t pl m vs ss (s7.trans (hid_mono st)) ((w7.same st).mono (by omega)) mm1 mm2 upd_same (none_back s7 w7 nt) npH (st _ _ e7) (a7.imp fun _ _ h => h.mono st) D7
end
end Fb
namespace Fb
open PySem PySem.Spec PyProof.Rows L2
section
structure FOk (m : Nat) (f : List Nat) : Prop where
  nd : f.Nodup
  lt : ∀ r ∈ f, r < m
theorem nodup_len : ∀ (m : Nat) (f : List Nat), f.Nodup → (∀ r ∈ f, r < m) → f.length ≤ m
  | 0, f, _, lt => by
    cases f with
    | nil => exact Nat.le_refl _
    | cons r rs => exact absurd (lt r List.mem_cons_self) (Nat.not_lt_zero r)
  | m + 1, f, nd, lt => by
    by_cases h : m ∈ f
    · have h1 := nodup_len m (f.erase m) (nd.erase m) (fun r hr => by
        have := (nd.mem_erase_iff).mp hr
        have := lt r this.2
        omega)
      rw [List.length_erase_of_mem h] at h1
      omega
    · have := nodup_len m f nd (fun r hr => by
        have h1 := lt r hr
        have : r ≠ m := fun e => h (e ▸ hr)
        omega)
      omega
theorem FOk.len {m : Nat} {f : List Nat} (h : FOk m f) : f.length ≤ m := nodup_len m f h.nd h.lt
end
end Fb
namespace Fb
open PySem PySem.Spec PyProof.Rows L2
section
variable {P : Program} {w : World} {K : PySem.W.Frag} {mg : Str → Option Value} {base : Heap}
structure MOk (m : Nat) (out : List Stp) : Prop where
  ok : StpsOk m out
  up : Sorted out
  low : ∀ s ∈ out, Fb.low s.ws = s.ws
def IsMach (C : Addr) (H : Hp) (v : V) (m : Nat) (out : List Stp) : Prop := ∃ p dx r svs, v = .ref p ∧ H p = some (.ins C dx (mflds m r)) ∧ H r = some (.lst svs) ∧ AllAre (IsStp H) svs out
theorem IsMach.mono {C : Addr} {H H' : Hp} {v : V} {m : Nat} {out : List Stp} (h : IsMach C H v m out) (s : Same H H') : IsMach C H' v m out := by
  obtain ⟨p, dx, r, svs, e, h1, h2, a⟩ := h
  exact ⟨p, dx, r, svs, e, s _ _ h1, s _ _ h2, a.imp fun _ _ h => h.mono s⟩
end
end Fb
namespace Fb
open PySem PySem.Spec PyProof.Rows L2
section
def trS (F : List Nat) (s : Stp) : Stp := ⟨F.idxOf s.room, s.sign, F.map fun t => s.ws.getD t 0⟩
def tr (F : List Nat) (out : List Stp) : List Stp := (out.filter fun s => decide (s.room ∈ F)).map (trS F)
theorem one_low {ws : List Nat} (h : gcdF 0 ws = 1) : low ws = ws := by
  unfold low
  rw [h]
  have : (fun (x : Nat) => x / 1) = id := by
    funext x
    exact Nat.div_one x
  rw [this, List.map_id]
end
end Fb
namespace Fb
open PySem PySem.Spec PyProof.Rows L2
section
variable {P : Program} {w : World} {K : PySem.W.Frag} {mg : Str → Option Value} {base : Heap}
theorem mk_mach {C : Addr} {H1 : Hp} {m : Nat} {v : V} {ss : List Stp} {E : XK} {Q : Addr → Hp → Prop} (hv : IsStps H1 v ss) (ok : StpsOk m ss) (q : ∀ H' x out, Same H1 H' → H1 x = none → IsMach C H' (.ref x) m out → SortedOf ss out → Q x H') :
    ∀ x dx, H1 x = none → H1 dx = none → dx ≠ x → spMach C [.ref x, .int m, v] (upd (upd H1 dx (.own x)) x (.ins C dx [])) (fun u H2 => u = .non ∧ Q x H2) E := by
  intro x dx nx nd ne
  have s0 : Same H1 (upd H1 dx (.own x)) := same_upd nd
  have s1 : Same H1 (upd (upd H1 dx (.own x)) x (.ins C dx [])) := s0.trans (same_upd (by rw [upd_ne (Ne.symm ne)]; exact nx))
  refine ⟨x, dx, m, v, ss, rfl, upd_same, hv.mono s1, ok, fun H' r svs out keep hp nr hr av so => ⟨rfl, q H' x out (fun a o e => keep a o (s1 _ _ e) (ne_of_none e nx)) nx ⟨x, dx, r, svs, rfl, hp, hr, av⟩ so⟩⟩
theorem filt_are {α : Type} {R : V → α → Prop} {p : α → Bool} {xs : List α} : ∀ (k : Nat) (ys : List V), k ≤ xs.length → AllAre (fun y (i : Nat) => ∃ s, xs[i]? = some s ∧ R y s) ys ((List.range k).filter fun i => (xs[i]?).any p) → AllAre R ys ((xs.take k).filter p)
  | 0, ys, _, h => by
    have : ys = [] := List.length_eq_zero_iff.mp h.1
    subst this
    exact .nil
  | k + 1, ys, hk, h => by
    have hx : xs[k]? = some xs[k] := List.getElem?_eq_getElem hk
    rw [List.range_succ, List.filter_append] at h
    rw [List.take_add_one, hx, List.filter_append]
    cases hp : p xs[k] with
    | false =>
      rw [List.filter_cons_of_neg (by rw [hx]; show ¬ (p xs[k] = true); rw [hp]; exact Bool.false_ne_true), List.filter_nil, List.append_nil] at h
      have e : ((some xs[k]).toList.filter p) = [] := by simp [hp]
      rw [e, List.append_nil]
      exact filt_are k ys (by omega) h
    | true =>
      rw [List.filter_cons_of_pos (by rw [hx]; exact hp), List.filter_nil] at h
      have e : ((some xs[k]).toList.filter p) = [xs[k]] := by simp [hp]
      rw [e]
      generalize hL : ((List.range k).filter fun i => (xs[i]?).any p) = L at h
      have hl : ys.length = L.length + 1 := by rw [h.1, List.length_append]; rfl
      have h1 := h.take L.length
      rw [List.take_left] at h1
      have h2 : AllAre R (ys.take L.length) ((xs.take k).filter p) := filt_are k _ (by omega) (by rw [hL]; exact h1)
      have hy : ys[L.length]? = some (ys[L.length]'(by omega)) := List.getElem?_eq_getElem (by omega)
      obtain ⟨s, es, rs⟩ := h.2 L.length _ k hy (by rw [List.getElem?_append_right (Nat.le_refl _), Nat.sub_self]; rfl)
      rw [hx] at es
      cases es
      have ey : ys = ys.take L.length ++ [ys[L.length]'(by omega)] := by
        rw [List.take_append_getElem (by omega), List.take_of_length_le (by omega)]
      rw [ey]
      exact h2.snoc rs
end
end Fb
namespace Fb
open PySem PySem.Spec PyProof.Rows L2
section
theorem gcdF_mul (c : Nat) : ∀ (l : List Nat) (g : Nat), gcdF (c * g) (l.map (c * ·)) = c * gcdF g l
  | [], g => rfl
  | n :: l, g => by
    show gcdF (Nat.gcd (c * n) (c * g)) (l.map (c * ·)) = c * gcdF (Nat.gcd n g) l
    rw [Nat.gcd_mul_left, gcdF_mul c l]
theorem low_back (ws : List Nat) : (low ws).map (gcdF 0 ws * ·) = ws := by
  unfold low
  rw [List.map_map]
  conv => rhs; rw [← List.map_id ws]
  exact List.map_congr_left fun n hn => Nat.mul_div_cancel' ((gcdF_dvd ws 0).2 n hn)
theorem low_gcd {ws : List Nat} (pos : ∃ n ∈ ws, 0 < n) : gcdF 0 (low ws) = 1 := by
  have g0 := gcdF_pos (g := 0) pos
  have h := gcdF_mul (gcdF 0 ws) (low ws) 0
  rw [Nat.mul_zero, low_back] at h
  have : gcdF 0 ws * gcdF 0 (low ws) = gcdF 0 ws * 1 := by rw [Nat.mul_one, ← h]
  exact Nat.eq_of_mul_eq_mul_left g0 this
theorem low_wts {m : Nat} {ws : List Nat} (h : WtsOk m ws) : WtsOk m (low ws) := by
  have g0 := gcdF_pos (g := 0) h.pos
  refine ⟨by unfold low; rw [List.length_map]; exact h.len, ?_, fun x hx => ?_⟩
  · obtain ⟨n, hn, n0⟩ := h.pos
    exact ⟨n / gcdF 0 ws, List.mem_map.mpr ⟨n, hn, rfl⟩, Nat.div_pos (Nat.le_of_dvd n0 ((gcdF_dvd ws 0).2 n hn)) g0⟩
  · obtain ⟨n, hn, rfl⟩ := List.mem_map.mp hx
    exact Nat.lt_of_le_of_lt (Nat.div_le_self _ _) (h.bd n hn)
theorem mok_of {m : Nat} {ss out : List Stp} (ok : StpsOk m ss) (so : SortedOf ss out) : MOk m out := by
  have p := so.1
  have key : (ss.map lowS).map Stp.key = ss.map Stp.key := by
    rw [List.map_map]
    rfl
  refine ⟨⟨ok.m1, ok.m12, by rw [p.length_eq, List.length_map]; exact ok.few, fun s hs => ?_, (p.map Stp.key).nodup_iff.mpr (by rw [key]; exact ok.once)⟩, so.2, fun s hs => ?_⟩
  · obtain ⟨s0, h0, rfl⟩ := List.mem_map.mp (p.mem_iff.mp hs)
    have o := ok.all s0 h0
    exact ⟨o.room, o.sign, low_wts o.wts⟩
  · obtain ⟨s0, h0, rfl⟩ := List.mem_map.mp (p.mem_iff.mp hs)
    exact one_low (low_gcd (ok.all s0 h0).wts.pos)
theorem Sorted.filter {out : List Stp} (h : Sorted out) (p : Stp → Bool) : Sorted (out.filter p) := ⟨h.up.filter p⟩
end
end Fb
namespace Fb
open PySem PySem.Spec PyProof.Rows L2
section
variable {P : Program} {w : World} {K : PySem.W.Frag} {mg : Str → Option Value} {base : Heap}
theorem sort_stpsB {H0 H : Hp} {D : Addr} {ys : List V} {ss : List Stp} {Q : VK} (s0 : Same H0 H) (e : H D = some (.lst ys)) (a0 : AllAre (IsStp H0) ys ss) (few : ss.length < 60) (once : (ss.map Stp.key).Nodup)
    (q : ∀ zs p out, H p = none → AllAre (IsStp H0) zs out → out.Perm ss → Sorted out → Q (.ref p) (upd H p (.lst zs))) : rSortS K [.ref D] H Q := by
  have a : AllAre (IsStp H) ys ss := a0.imp fun _ _ h => h.mono s0
  have kf_at : ∀ {i : Nat} {y : V} {st : Stp}, ys[i]? = some y → ss[i]? = some st → kfH H y = st.key := fun {i y st} hy hs => kfH_of (a.2 i y st hy hs)
  have ixs : ∀ {y : V}, y ∈ ys → ∃ i st, ys[i]? = some y ∧ ss[i]? = some st := fun {y} hy => by
    obtain ⟨i, hi, e⟩ := List.mem_iff_getElem.mp hy
    have hl : i < ss.length := by rw [a.1] at hi; exact hi
    exact ⟨i, ss[i], by rw [List.getElem?_eq_getElem hi, e], List.getElem?_eq_getElem hl⟩
  refine ⟨D, ys, kfH H, rfl, SqL.of e, by rw [a.1]; omega, fun x hx => ?_, fun x hx y hy e => ?_, fun zs r pm up nr => ?_⟩
  · obtain ⟨i, si, a1, a2⟩ := ixs hx
    obtain ⟨t, wa, rfl, ht, hw⟩ := a.2 i x si a1 a2
    refine ⟨t, wa, _, rfl, ?_, by rw [← nts_keys]; exact hw⟩
    rw [kf_at a1 a2]
    exact ht
  · obtain ⟨i, si, a1, a2⟩ := ixs hx
    obtain ⟨j, sj, b1, b2⟩ := ixs hy
    rw [kf_at a1 a2, kf_at b1 b2] at e
    have := nodup_inj once (i := i) (j := j) (x := si.key) (by rw [List.getElem?_map, a2]; rfl) (by rw [List.getElem?_map, b2, e]; rfl)
    subst this
    rw [a1] at b1
    cases b1
    rfl
  · have sr := same_upd (o := .lst zs) nr
    obtain ⟨out, aO0, pO⟩ := AllAre.perm pm a0
    have aO : AllAre (IsStp H) zs out := aO0.imp fun _ _ h => h.mono s0
    refine q zs r out nr aO0 pO ⟨?_⟩
    rw [List.pairwise_iff_getElem]
    intro i j hi hj hij
    have gi : zs[i]? = some (zs[i]'(by rw [aO.1]; exact hi)) := List.getElem?_eq_getElem _
    have gj : zs[j]? = some (zs[j]'(by rw [aO.1]; exact hj)) := List.getElem?_eq_getElem _
    have ki := kfH_of (aO.2 i _ _ gi (List.getElem?_eq_getElem hi))
    have kj := kfH_of (aO.2 j _ _ gj (List.getElem?_eq_getElem hj))
    have le := (List.pairwise_iff_getElem.mp up) i j (by rw [aO.1]; exact hi) (by rw [aO.1]; exact hj) hij
    rw [ki, kj] at le
    cases lt : rsLt out[i].key out[j].key with
    | true => rfl
    | false =>
      exfalso
      have e := rsLt_total lt le
      have nd : (out.map Stp.key).Nodup := (pO.map Stp.key).nodup_iff.mpr once
      have := nodup_inj nd (i := i) (j := j) (x := out[i].key) (by rw [List.getElem?_map, List.getElem?_eq_getElem hi]; rfl) (by rw [List.getElem?_map, List.getElem?_eq_getElem hj, e]; rfl)
      omega
end
end Fb
namespace Fb
open PySem PySem.Spec PyProof.Rows L2
section
variable {P : Program} {w : World} {K : PySem.W.Frag} {mg : Str → Option Value} {base : Heap}
def IsKw (H : Hp) (kv : Key × V) (s : Stp) : Prop := ∃ wa, kv = (.inr s.sign, .ref wa) ∧ H wa = some (.tup (nts s.ws))
def AreKw (H : Hp) (kvs : List (Key × V)) (d : List Stp) : Prop := kvs.length = d.length ∧ ∀ (i : Nat) kv s, kvs[i]? = some kv → d[i]? = some s → IsKw H kv s
theorem AreKw.at {H : Hp} {kvs : List (Key × V)} {d : List Stp} (h : AreKw H kvs d) {i : Nat} {kv : Key × V} (e : kvs[i]? = some kv) : ∃ s, d[i]? = some s ∧ IsKw H kv s := by
  have hi : i < d.length := by
    have := (List.getElem?_eq_some_iff.mp e).1
    rw [← h.1]
    exact this
  exact ⟨d[i], List.getElem?_eq_getElem hi, h.2 i kv _ e (List.getElem?_eq_getElem hi)⟩
theorem AreKw.imp {H H' : Hp} {kvs : List (Key × V)} {d : List Stp} (h : AreKw H kvs d) (f : ∀ (wa : Addr) (xs : List V), H wa = some (.tup xs) → H' wa = some (.tup xs)) : AreKw H' kvs d :=
  ⟨h.1, fun i kv s a b => (h.2 i kv s a b).imp fun _ g => ⟨g.1, f _ _ g.2⟩⟩
def IsDoor (H : Hp) (v : V) (d : List Stp) : Prop := ∃ p kvs, v = .ref p ∧ H p = some (.dK kvs) ∧ AreKw H kvs d
theorem IsDoor.mono {H H' : Hp} {v : V} {d : List Stp} (h : IsDoor H v d) (s : Same H H') : IsDoor H' v d := by
  obtain ⟨p, kvs, e, h, a⟩ := h
  exact ⟨p, kvs, e, s _ _ h, a.imp fun _ _ e => s _ _ e⟩
theorem le_sum' : ∀ {ws : List Nat} {n : Nat}, n ∈ ws → n ≤ ws.sum
  | x :: ws, n, h => by
    rw [List.sum_cons]
    rcases List.mem_cons.mp h with rfl | h
    · omega
    · have := le_sum' h
      omega
end
end Fb
namespace Fb
open PySem PySem.Spec PyProof.Rows L2
section
variable {P : Program} {w : World} {K : PySem.W.Frag} {mg : Str → Option Value} {base : Heap}
def selD (z : Str) (d : List Stp) : Option Stp := d.find? fun s => decide (s.sign = z)
theorem AreKw.tail {H : Hp} {kv : Key × V} {kvs : List (Key × V)} {s : Stp} {d : List Stp} (h : AreKw H (kv :: kvs) (s :: d)) : IsKw H kv s ∧ AreKw H kvs d :=
  ⟨h.2 0 kv s rfl rfl, by simpa using h.1, fun i a b h1 h2 => h.2 (i + 1) a b (by simpa using h1) (by simpa using h2)⟩
theorem kw_val {H : Hp} (z : Str) : ∀ {kvs : List (Key × V)} {d : List Stp}, AreKw H kvs d → (selD z d = none ∧ valV kvs (.inr z) = none) ∨ ∃ s wa, selD z d = some s ∧ s.sign = z ∧ s ∈ d ∧ valV kvs (.inr z) = some (.ref wa) ∧ H wa = some (.tup (nts s.ws))
  | [], [], _ => .inl ⟨rfl, rfl⟩
  | kv :: kvs, s :: d, h => by
    obtain ⟨⟨wa, rfl, hw⟩, ht⟩ := h.tail
    by_cases e : s.sign = z
    · exact .inr ⟨s, wa, by unfold selD; rw [List.find?_cons_of_pos (by simpa using e)], e, List.mem_cons_self, valV_pos (by show Sum.inr s.sign = Sum.inr z; rw [e]), hw⟩
    · have e1 : selD z (s :: d) = selD z d := by unfold selD; rw [List.find?_cons_of_neg (by simpa using e)]
      have e2 : valV ((Sum.inr s.sign, V.ref wa) :: kvs) (.inr z) = valV kvs (.inr z) := valV_neg fun c => e (Sum.inr.inj c)
      rw [e1, e2]
      exact (kw_val z ht).imp id fun ⟨s, wa, a, b, c, f⟩ => ⟨s, wa, a, b, List.mem_cons_of_mem _ c, f⟩
  | [], _ :: _, h => by simp [AreKw] at h
  | _ :: _, [], h => by simp [AreKw] at h
end
end Fb
namespace Fb
open PySem PySem.Spec PyProof.Rows L2
section
variable {P : Program} {w : World} {K : PySem.W.Frag} {mg : Str → Option Value} {base : Heap}
def doorOf (out : List Stp) (r : Nat) : List Stp := out.filter fun s => decide (s.room = r)
def doorsL (m : Nat) (out : List Stp) : List (List Stp) := (List.range m).map (doorOf out)
/-- the dicts of the rooms, after some steps -/
structure DrAt (H H' : Hp) (m : Nat) (as : List Addr) (l : List Stp) : Prop where
  nd : as.Nodup
  len : as.length = m
  new : ∀ q ∈ as, H q = none
  all : ∀ (i : Nat) q, as[i]? = some q → ∃ kvs, H' q = some (.dK kvs) ∧ AreKw H' kvs (doorOf l i)
theorem DrAt.same {H H' H'' : Hp} {m : Nat} {as : List Addr} {l : List Stp} (h : DrAt H H' m as l) (s : Same H' H'') : DrAt H H'' m as l :=
  ⟨h.nd, h.len, h.new, fun i q e => (h.all i q e).imp fun _ f => ⟨s _ _ f.1, f.2.imp fun _ _ e => s _ _ e⟩⟩
theorem door_snoc (l : List Stp) (s : Stp) (i : Nat) : doorOf (l ++ [s]) i = if s.room = i then doorOf l i ++ [s] else doorOf l i := by
  unfold doorOf
  rw [List.filter_append]
  by_cases h : s.room = i
  · rw [if_pos h, List.filter_cons_of_pos (by simpa using h), List.filter_nil]
  · rw [if_neg h, List.filter_cons_of_neg (by simpa using h), List.filter_nil, List.append_nil]
theorem DrAt.put {H H' : Hp} {m : Nat} {as : List Addr} {l : List Stp} {s : Stp} {wa q : Addr} {kvs : List (Key × V)} (h : DrAt H H' m as l) (hq : as[s.room]? = some q) (e : H' q = some (.dK kvs)) (ak : AreKw H' kvs (doorOf l s.room)) (hw : H' wa = some (.tup (nts s.ws))) (no : selD s.sign (doorOf l s.room) = none) :
    DrAt H (upd H' q (.dK (putK kvs (.inr s.sign) (.ref wa)))) m as (l ++ [s]) := by
  have keep : ∀ (c : Addr) (xs : List V), H' c = some (.tup xs) → (upd H' q (.dK (putK kvs (.inr s.sign) (.ref wa)))) c = some (.tup xs) := fun c xs f => frz_ne e f (fun z => by cases z)
  have vn : valV kvs (.inr s.sign) = none := by
    rcases kw_val s.sign ak with ⟨_, f⟩ | ⟨_, _, f, _⟩
    · exact f
    · rw [no] at f
      cases f
  refine ⟨h.nd, h.len, h.new, fun i c hc => ?_⟩
  rw [door_snoc]
  by_cases hi : s.room = i
  · subst hi
    rw [hq] at hc
    cases hc
    rw [if_pos rfl]
    refine ⟨_, upd_same, ?_⟩
    rw [putK_new _ vn]
    refine ⟨by rw [List.length_append, List.length_append, ak.1]; rfl, fun j kv u h1 h2 => ?_⟩
    by_cases hj : j < kvs.length
    · rw [List.getElem?_append_left hj] at h1
      rw [List.getElem?_append_left (by rw [← ak.1]; exact hj)] at h2
      exact (ak.2 j kv u h1 h2).imp fun _ g => ⟨g.1, by have := keep _ _ g.2; rw [putK_new _ vn] at this; exact this⟩
    · rw [List.getElem?_append_right (by omega)] at h1
      rw [List.getElem?_append_right (by rw [← ak.1]; omega), ← ak.1] at h2
      generalize j - kvs.length = j' at *
      cases j' with
      | zero =>
        cases h1
        cases h2
        exact ⟨wa, rfl, by have := keep _ _ hw; rw [putK_new _ vn] at this; exact this⟩
      | succ j' => cases h1
  · rw [if_neg hi]
    obtain ⟨kvs', e', ak'⟩ := h.all i c hc
    have ne : c ≠ q := fun z => by
      subst z
      exact hi ((List.getElem?_inj (List.getElem?_eq_some_iff.mp hq).1 h.nd).mp (hq.trans hc.symm))
    exact ⟨kvs', by rw [upd_ne ne]; exact e', ak'.imp keep⟩
def spDoors (C : Addr) : Sp := fun vs H Q _ => ∃ (v : V) (m : Nat) (out : List Stp), vs = [v] ∧ IsMach C H v m out ∧ MOk m out ∧
  ∀ H' p xs, Same H H' → H p = none → H' p = some (.lst xs) → AllAre (IsDoor H') xs (doorsL m out) → Q (.ref p) H'
theorem sel_new {out : List Stp} {j : Nat} {s : Stp} (once : (out.map Stp.key).Nodup) (hs : out[j]? = some s) : selD s.sign (doorOf (out.take j) s.room) = none := by
  unfold selD doorOf
  rw [List.find?_eq_none]
  intro u hu
  have hu := List.mem_filter.mp hu
  intro c
  have c : u.sign = s.sign := of_decide_eq_true c
  have r : u.room = s.room := of_decide_eq_true hu.2
  obtain ⟨i, hi, e⟩ := List.mem_iff_getElem.mp hu.1
  rw [List.length_take] at hi
  rw [List.getElem_take] at e
  have g1 : (out.map Stp.key)[i]? = some s.key := by
    rw [List.getElem?_map, List.getElem?_eq_getElem (by omega), e]
    show some u.key = _
    exact congrArg some (Prod.ext (by show (u.room : Int) = s.room; rw [r]) c)
  have g2 : (out.map Stp.key)[j]? = some s.key := by rw [List.getElem?_map, hs]; rfl
  have := nodup_inj once g1 g2
  omega
theorem ok_p_doors_of (T : Txt K mg) : FnOk P w K mg base CX0 1 T.f_p_doors_of T.d_p_doors_of ["machine"] (spDoors T.c_Machine) := by
  refine T.F_p_doors_of.ok sc_p_doors_of (fun vs H Q E h => ?_) (fun cdv A outer s H vs Q E hr h => ?_)
  · obtain ⟨v, m, out, rfl, _⟩ := h
    rfl
  · obtain ⟨v, m, out, rfl, im, ok, q⟩ := h
    refine ⟨_, (pss_cons (ps_setLc (i := 1) (own := [("room", 2)]) (g := (gName 2)) (tt := tYes) (by rfl) sc_p_doors_of.nd rfl rfl (sw_true rfl rfl rfl (by decide +kernel)) (pi_range1 (by rfl) T.z_range (pa_cons (pe_fld (pv 0) rfl) pa_nil)) (blkOk_by (own := [("room", 2)]) (N := ["machine", "doors", "room", "sign", "weights"]) (sc := defScope s_p_doors_of) (by decide +kernel)) (fun _ _ _ _ _ => by exact (pg_name (i := 2) sc_p_doors_of.nd rfl (.inl rfl))) (fun _ _ _ _ _ => by exact pts_nil) (fun _ _ _ _ _ => by exact pe_dnewK))
 (pss_cons (ps_for PassesOwn.never rfl (pi_list (pe_fld (pv 0) rfl)) (pg_tup (by rfl) (pgs_cons (pg_name (i := 2) sc_p_doors_of.nd rfl (.inl rfl)) (pgs_cons (pg_name (i := 3) sc_p_doors_of.nd rfl (.inl rfl)) (pgs_cons (pg_name (i := 4) sc_p_doors_of.nd rfl (.inl rfl)) pgs_nil))))
  (pss_one (ps_dput (units1 hr.units) (pe_ix ix_list (pv 1) (pv 2) (fun _ _ => rfl)) (pv 3) (pv 4) rfl)))
 (pss_one (ps_ret (pv 1))))), ?_⟩
    obtain ⟨p, dx, r0, svs, rfl, hp, hr0, av⟩ := im
    have m12 := ok.ok.m12
    have few := ok.ok.few
    refine ⟨_, rfl, p, _, _, _, _, rfl, hp, T.cl_Machine, T.n_Machine_many, mflds_many m r0, m, rfl, by omega, by omega, fun D nD => ?_⟩
    refine lc_it (walk_range (lo := 0) (n := (m : Int).toNat)) (fun i G => ∃ as : List Addr, Same H G ∧ G D = some (.lst (as.map V.ref)) ∧ as.Nodup ∧ as.length = i ∧ (∀ q ∈ as, H q = none) ∧ ∀ q ∈ as, G q = some (.dK [])) ⟨[], same_upd nD, upd_same, List.nodup_nil, rfl, (fun q h => by cases h), fun q h => by cases h⟩ (fun _ _ _ _ => trivial) (fun i x G G' hi h y => ?_) (fun G h => ?_)
    · obtain ⟨as, s1, eD, nd, la, nw, al⟩ := h
      obtain ⟨rfl, rfl⟩ := y
      rw [Int.toNat_natCast] at hi
      refine ⟨rfl, ?_⟩
      dsimp only [tYes]
      rw [if_pos rfl]
      intro c nc
      have sc := same_upd (o := .dK []) nc
      have ncH : H c = none := none_of s1 nc
      have cD : c ≠ D := fun z => by
        rw [z, eD] at nc
        cases nc
      have cn : c ∉ as := fun hc => by
        rw [al c hc] at nc
        cases nc
      have qD : ∀ q ∈ as, q ≠ D := fun q hq z => by
        have := al q hq
        rw [z, eD] at this
        cases this
      refine ⟨as.map V.ref, sc _ _ eD, ?_, as ++ [c], same_over (s1.trans sc) nD, ?_, ?_, by rw [List.length_append, la]; rfl, fun q hq => ?_, fun q hq => ?_⟩
      · rw [List.length_map]
        exact small1000 (by omega)
      · rw [upd_same, List.map_append]
        rfl
      · refine List.nodup_append.mpr ⟨nd, by simp, fun a ha b hb e => cn ?_⟩
        rw [List.mem_singleton] at hb
        rw [← hb, ← e]
        exact ha
      · rcases List.mem_append.mp hq with h | h
        · exact nw q h
        · rw [List.mem_singleton.mp h]
          exact ncH
      · rcases List.mem_append.mp hq with h | h
        · rw [upd_ne (qD q h)]
          exact sc _ _ (al q h)
        · rw [List.mem_singleton.mp h, upd_ne cD]
          exact upd_same
    · obtain ⟨as, s1, eD, nd, la, nw, al⟩ := h
      rw [Int.toNat_natCast] at la
      have hp1 := s1 _ _ hp
      have hr1 := s1 _ _ hr0
      refine ⟨_, rfl, p, _, _, _, _, rfl, hp1, T.cl_Machine, T.n_Machine_steps, mflds_steps m r0, r0, rfl, ⟨_, SqL.of hr1⟩, for_list (K := K) (a := r0) (xs := svs) (fun j σ G' => ∃ z2 z3 z4, σ = [some (.ref p), some (.ref D), z2, z3, z4] ∧ Same H G' ∧ G' D = some (.lst (as.map V.ref)) ∧ DrAt H G' m as (out.take j)) ⟨_, _, _, rfl, s1, eD, nd, la, nw, fun i q hq => ⟨[], al q (List.mem_of_getElem? hq), ?_⟩⟩ (fun j σ G' _ h => ?_) (fun j x σ G' hx h => ?_) (fun σ G' h => ?_)⟩
      · rw [List.take_zero]
        exact ⟨rfl, fun i kv u h1 h2 => by cases h1⟩
      · obtain ⟨_, _, _, _, s2, _⟩ := h
        exact SqL.of (s2 _ _ hr0)
      · obtain ⟨z2, z3, z4, rfl, s2, eD2, dr⟩ := h
        obtain ⟨st, hst, t, wa, rfl, ht, hw⟩ := av.at hx
        have so := ok.ok.all st (List.mem_of_getElem? hst)
        have hq : as[st.room]? = some (as[st.room]'(by rw [la]; exact so.room)) := List.getElem?_eq_getElem (by rw [la]; exact so.room)
        generalize as[st.room]'(by rw [la]; exact so.room) = q0 at hq
        obtain ⟨kvs, ek, ak⟩ := dr.all st.room q0 hq
        have kl : kvs.length < 60 := by
          rw [ak.1]
          refine Nat.lt_of_le_of_lt (List.length_filter_le _ _) ?_
          rw [List.length_take]
          omega
        have nq := nw q0 (List.mem_of_getElem? hq)
        have qD : q0 ≠ D := fun z => by
          rw [z, eD2] at ek
          cases ek
        refine ⟨t, _, rfl, .inl (.inl (s2 _ _ ht)), rfl, _, _, rfl, _, _, rfl, _, _, rfl, rfl, ?_⟩
        refine ⟨_, rfl, _, rfl, _, rfl, D, _, (st.room : Int), .ref q0, rfl, rfl, SqL.of eD2, atI_nat (by rw [List.getElem?_map, hq]; rfl), _, rfl, q0, _, rfl, DPut.k (k := .inr st.sign) ek (small1000 (by omega)), ?_⟩
        refine ⟨_, _, _, rfl, same_over s2 nq, by rw [upd_ne (Ne.symm qD)]; exact eD2, ?_⟩
        rw [List.take_add_one, hst]
        exact dr.put hq ek ak (s2 _ _ hw) (sel_new ok.ok.once hst)
      · obtain ⟨z2, z3, z4, rfl, s2, eD2, dr⟩ := h
        rw [av.1, List.take_length] at dr
        refine ⟨_, rfl, q G' D _ s2 nD eD2 (.of_ix (by unfold doorsL; rw [List.length_map, List.length_map, List.length_range, la]) fun i y hy => ?_)⟩
        rw [List.getElem?_map] at hy
        obtain ⟨c, hc, rfl⟩ := Option.map_eq_some_iff.mp hy
        have hi : i < m := by
          rw [← la]
          exact (List.getElem?_eq_some_iff.mp hc).1
        obtain ⟨kvs, ek, ak⟩ := dr.all i c hc
        exact ⟨doorOf out i, by unfold doorsL; rw [List.getElem?_map, List.getElem?_range hi]; rfl, c, kvs, rfl, ek, ak⟩
end
end Fb
namespace Fb
open PySem PySem.Spec PyProof.Rows L2
section
variable {P : Program} {w : World} {K : PySem.W.Frag} {mg : Str → Option Value} {base : Heap}
theorem sum_le_mul {b : Nat} : ∀ ws : List Nat, (∀ n ∈ ws, n ≤ b) → ws.sum ≤ ws.length * b
  | [], _ => Nat.zero_le _
  | n :: ws, h => by
    have h1 := h n List.mem_cons_self
    have h2 := sum_le_mul ws fun x hx => h x (List.mem_cons_of_mem _ hx)
    rw [List.sum_cons, List.length_cons, Nat.succ_mul]
    omega
theorem DS.sums {m k : Nat} {zs : List Str} {ss : List Stp} (h : DS m zs m 0 ss) (ok : NmsOk k zs) (k4 : k ≤ 4) (m1 : 1 ≤ m) (m12 : m ≤ 12) : StpsOk m ss ∧ ss.length ≤ m * k ∧ ∀ s ∈ ss, s.ws.sum ≤ m * 200000000000 := by
  have h1 := h.len
  rw [ok.len] at h1
  have h2 : m * k ≤ 12 * 4 := Nat.mul_le_mul m12 k4
  refine ⟨⟨m1, m12, by omega, fun s hs => (h.all s hs).1, h.once⟩, by omega, fun s hs => ?_⟩
  have o := h.all s hs
  have := sum_le_mul s.ws o.2.2.1
  rw [o.1.wts.len] at this
  exact this
end
end Fb
namespace Fb
open PySem PySem.Spec PyProof.Rows L2
section
variable {P : Program} {w : World} {K : PySem.W.Frag} {mg : Str → Option Value} {base : Heap}
theorem getD_some {α : Type} {l : List α} {d : α} {i : Nat} (h : i < l.length) : l[i]? = some (l.getD i d) := by
  rw [List.getD_eq_getElem?_getD, List.getElem?_eq_getElem h]
  rfl
theorem len_eq_nd {zs L : List Str} (nL : L.Nodup) (mL : ∀ x, x ∈ L ↔ x ∈ zs) : decide (V.int (L.length : Int) = V.int (zs.length : Int)) = decide zs.Nodup := by
  have le : L.length ≤ zs.length := by
    have : ∀ (r l : List Str), r.Nodup → (∀ i ∈ r, i ∈ l) → r.length ≤ l.length := fun r => by
      induction r with
      | nil => exact fun l _ _ => Nat.zero_le _
      | cons x r ih =>
        intro l nd h
        obtain ⟨a, b⟩ := List.nodup_cons.mp nd
        have hx := h x List.mem_cons_self
        have := ih (l.erase x) b fun i hi => (List.mem_erase_of_ne fun (e : i = x) => a (e ▸ hi)).mpr (h i (List.mem_cons_of_mem _ hi))
        rw [List.length_erase_of_mem hx] at this
        have := List.length_pos_of_mem hx
        rw [List.length_cons]
        omega
    exact this L zs nL fun i hi => (mL i).mp hi
  have key : zs.Nodup ↔ L.length = zs.length := by
    constructor
    · intro nz
      exact ((List.perm_ext_iff_of_nodup nL nz).mpr mL).length_eq
    · intro e
      have : ∀ (r l : List Str), r.Nodup → (∀ i ∈ r, i ∈ l) → r.length = l.length → r.Perm l := fun r => by
        induction r with
        | nil =>
          intro l _ _ h
          rw [List.length_eq_zero_iff.mp h.symm]
        | cons x r ih =>
          intro l nd h len
          obtain ⟨a, b⟩ := List.nodup_cons.mp nd
          have hx := h x List.mem_cons_self
          have p := List.perm_cons_erase hx
          refine (List.Perm.cons x (ih (l.erase x) b (fun i hi => (List.mem_erase_of_ne fun (e : i = x) => a (e ▸ hi)).mpr (h i (List.mem_cons_of_mem _ hi))) ?_)).trans p.symm
          rw [List.length_erase_of_mem hx, ← len]
          rfl
      exact (this L zs nL (fun i hi => (mL i).mp hi) e).nodup_iff.mp nL
  rw [Bool.eq_iff_iff, decide_eq_true_iff, decide_eq_true_iff, key]
  exact ⟨fun h => by have := V.int.inj h; omega, fun h => by rw [h]⟩
def spUnlike : Sp := fun vs H Q _ => ∃ (a : Addr) (zs : List Str), vs = [.ref a] ∧ H a = some (.lst (zs.map V.str)) ∧ zs.length ≤ 60 ∧ ∀ H', Same H H' → Q (.bl (decide zs.Nodup)) H'
theorem ok_p_are_unlike (T : Txt K mg) : FnOk P w K mg base CX0 1 T.f_p_are_unlike T.d_p_are_unlike ["names"] spUnlike := by
  refine T.F_p_are_unlike.ok sc_p_are_unlike (fun vs H Q E h => ?_) (fun cdv A outer s H vs Q E hr h => ?_)
  · obtain ⟨a, zs, rfl, _⟩ := h
    rfl
  · obtain ⟨a, zs, rfl, ha, l60, q⟩ := h
    refine ⟨_, (pss_one (ps_ret (pe_cmpR op_eq (pe_callB call_lenT (by rfl) T.z_len (by decide +kernel) (pa_cons (pe_scT (units1 hr.units) (own := [("name", 1)]) (g := (gName 1)) (tt := tYes) (by rfl) sc_p_are_unlike.nd (pi_list (pv 0)) (blkOk_by (own := [("name", 1)]) (N := ["names", "name"]) (sc := defScope s_p_are_unlike) (by decide +kernel)) (fun _ _ _ _ _ => by exact (pg_name (i := 1) sc_p_are_unlike.nd rfl (.inl rfl))) (fun _ _ _ _ _ => by exact pts_nil) (fun _ _ _ _ _ => by exact (pv 1))) pa_nil)) (pe_callB call_len_seq (by rfl) T.z_len (by decide +kernel) (pa_cons (pv 0) pa_nil)) (nomark _)))), ?_⟩
    have lz : (zs.map V.str).length = zs.length := List.length_map ..
    refine ⟨_, rfl, a, rfl, ⟨_, SqL.of ha⟩, fun D nD => scT_all (walk_list (K := K) (a := a) (xs := zs.map V.str)) (fun i => zs.getD i "") nD (fun H' s => SqL.of (s _ _ ha)) (by omega) (fun i x H1 H2 k hi s1 eD y hk => ?_) (fun H1 L s1 e1 nL mL lL => ?_)⟩
    · obtain ⟨rfl, hv⟩ := y
      rw [List.getElem?_map] at hv
      obtain ⟨z, hz, rfl⟩ := Option.map_eq_some_iff.mp hv
      have := hk H2 (Same.refl _)
      rw [List.getD_eq_getElem?_getD, hz] at this
      exact ⟨rfl, _, rfl, this⟩
    · have mem : ∀ x, x ∈ L ↔ x ∈ zs := fun x => by
        rw [mL x]
        constructor
        · rintro ⟨i, hi, rfl⟩
          rw [lz] at hi
          exact List.mem_of_getElem? (getD_some hi)
        · intro hx
          obtain ⟨i, hi⟩ := List.getElem?_of_mem hx
          exact ⟨i, by rw [lz]; exact (List.getElem?_eq_some_iff.mp hi).1, by rw [List.getD_eq_getElem?_getD, hi]; rfl⟩
      have sH : Same H H1 := s1.trans hid_same
      refine ⟨D, L, rfl, e1, by omega, _, rfl, a, _, rfl, .inl (SqL.of (sH _ _ ha)), rfl, ?_⟩
      rw [lz, len_eq_nd nL mem]
      exact q H1 sH
def spSigns : Sp := fun vs H Q _ => ∃ (a : Addr) (zs : List Str), vs = [.ref a] ∧ H a = some (.lst (zs.map V.str)) ∧ zs.length ≤ 60 ∧ (∀ z ∈ zs, NmOk z) ∧ zs.Nodup ∧ ∀ H', Same H H' → Q (.bl true) H'
theorem ok_p_are_signs (T : Txt K mg) : FnOk P w K mg base CX0 2 T.f_p_are_signs T.d_p_are_signs ["thing"] spSigns := by
  refine T.F_p_are_signs.ok sc_p_are_signs (fun vs H Q E h => ?_) (fun cdv A outer s H vs Q E hr h => ?_)
  · obtain ⟨a, zs, rfl, _⟩ := h
    rfl
  · obtain ⟨a, zs, rfl, ha, l60, nok, nd, q⟩ := h
    refine ⟨_, (pss_one (ps_ret (pe_and (pe_callB call_isi (by rfl) T.z_isinstance (by decide +kernel) (pa_cons (pv 0) (pa_cons (pe_bltn (v := .ty "list") (by rfl) T.z_list (by decide +kernel) rfl) pa_nil))) (pe_and (pe_callB (cr_all rfl) (by rfl) T.z_all (by decide +kernel) (pa_cons (pe_lc (own := [("sign", 1)]) (g := (gName 1)) (tt := tYes) (by rfl) sc_p_are_signs.nd (pi_list (pv 0)) (blkOk_by (own := [("sign", 1)]) (N := ["thing", "sign"]) (sc := defScope s_p_are_signs) (by decide +kernel)) (fun _ _ _ _ _ => by exact (pg_name (i := 1) sc_p_are_signs.nd rfl (.inl rfl))) (fun _ _ _ _ _ => by exact pts_nil) (fun _ _ _ _ _ => by exact (pe_call (ok_p_is_name T) (hr.mono (by decide)) (by rfl) T.g_p_is_name T.F_p_is_name.kp T.b_p_is_name .nil pass0 (pa_cons (pv 1) pa_nil)))) pa_nil)) (pe_one (pe_call (ok_p_are_unlike T) (hr.mono (by decide)) (by rfl) T.g_p_are_unlike T.F_p_are_unlike.kp T.b_p_are_unlike .nil pass0 (pa_cons (pv 0) pa_nil))))))), ?_⟩
    have lz : (zs.map V.str).length = zs.length := List.length_map ..
    refine ⟨_, rfl, _, _, _, _, true, rfl, .ty _, .base (.lst ha), kit_ty (by decide +kernel), true, rfl, iteT ?_⟩
    refine ⟨_, rfl, a, rfl, ⟨_, SqL.of ha⟩, fun D nD => lc_all (K := K) (a := a) (xs := zs.map V.str) (fun _ y _ => y = .bl true) (fun _ _ _ _ _ h => h) nD (SqL.of ha) (by omega) (fun i x H2 k hi s2 eD hk => ?_) (fun H2 ys s2 e l r => ?_)⟩
    · rw [List.getElem?_map] at hi
      obtain ⟨z, hz, rfl⟩ := Option.map_eq_some_iff.mp hi
      exact ⟨rfl, _, rfl, z, rfl, nok z (List.mem_of_getElem? hz), fun H3 s3 => hk _ _ s3 rfl⟩
    · rw [trues l r] at e
      have s12 : Same H H2 := s2.trans hid_same
      refine ⟨D, _, rfl, SqL.of e, true, by rw [all_trues], iteT ⟨_, rfl, a, zs, rfl, s12 _ _ ha, l60, fun H3 s3 => ?_⟩⟩
      rw [decide_eq_true nd]
      exact q H3 (s12.trans s3)
def IsPq (H : Hp) (v : V) (p : Str × Str) : Prop := ∃ t, v = .ref t ∧ H t = some (.tup [.str p.1, .str p.2])
theorem IsPq.mono {H H' : Hp} {v : V} {p : Str × Str} (h : IsPq H v p) (s : Same H H') : IsPq H' v p := by
  obtain ⟨t, e, h⟩ := h
  exact ⟨t, e, s _ _ h⟩
def IsPqs (H : Hp) (v : V) (ps : List (Str × Str)) : Prop := ∃ a xs, v = .ref a ∧ H a = some (.lst xs) ∧ AllAre (IsPq H) xs ps
theorem IsPqs.mono {H H' : Hp} {v : V} {ps : List (Str × Str)} (h : IsPqs H v ps) (s : Same H H') : IsPqs H' v ps := by
  obtain ⟨a, xs, e, h, g⟩ := h
  exact ⟨a, xs, e, s _ _ h, g.imp fun _ _ h => h.mono s⟩
def spChkSigns : Sp := fun vs H Q _ => ∃ (a : Addr) (zs : List Str), vs = [.ref a] ∧ H a = some (.lst (zs.map V.str)) ∧ zs.length ≤ 60 ∧ (∀ z ∈ zs, NmOk z) ∧ zs.Nodup ∧ ∀ H', Same H H' → Q .non H'
theorem ok_p_check_signs (T : Txt K mg) : FnOk P w K mg base CX0 3 T.f_p_check_signs T.d_p_check_signs ["thing"] spChkSigns := by
  refine T.F_p_check_signs.ok sc_p_check_signs (fun vs H Q E h => ?_) (fun cdv A outer s H vs Q E hr h => ?_)
  · obtain ⟨a, zs, rfl, _⟩ := h
    rfl
  · obtain ⟨a, zs, rfl, ha, l60, nok, nd, q⟩ := h
    refine ⟨_, PSs.nox (pss_one (ps_if (pt_not (pt_val (pe_call (ok_p_are_signs T) (hr.mono (by decide)) (by rfl) T.g_p_are_signs T.F_p_are_signs.kp T.b_p_are_signs .nil pass0 (pa_cons (pv 0) pa_nil))))
  (pss_one ps_never)
  pss_nil)), ?_⟩
    exact ⟨_, rfl, a, zs, rfl, ha, l60, nok, nd, fun H1 s1 => ⟨true, rfl, iteF (q H1 s1)⟩⟩
end
end Fb
namespace Fb
open PySem PySem.Spec PyProof.Rows L2
section
variable {P : Program} {w : World} {K : PySem.W.Frag} {mg : Str → Option Value} {base : Heap}
theorem at_nil {σ : L2.St} {H : Hp} {k : List V → Hp → Prop} (h : k [] H) : tNil σ H k := h
abbrev Thing := Nat × Nat
def IsThing (H : Hp) (v : V) (x : Thing) : Prop := ∃ u, v = .ref u ∧ H u = some (.tup [.int (x.1 : Nat), .int (x.2 : Nat)])
theorem IsThing.mono {H H' : Hp} {v : V} {x : Thing} (h : IsThing H v x) (s : Same H H') : IsThing H' v x := by
  obtain ⟨u, e, h⟩ := h
  exact ⟨u, e, s _ _ h⟩
def IsGoal (H : Hp) (v : V) (g : Thing × Nat) : Prop := ∃ t y, v = .ref t ∧ H t = some (.tup [y, .int (g.2 : Nat)]) ∧ IsThing H y g.1
theorem IsGoal.mono {H H' : Hp} {v : V} {g : Thing × Nat} (h : IsGoal H v g) (s : Same H H') : IsGoal H' v g := by
  obtain ⟨t, y, e, h1, h2⟩ := h
  exact ⟨t, y, e, s _ _ h1, h2.mono s⟩
def IsOn (H : Hp) (v : V) (x : Str × List (Thing × Nat)) : Prop := ∃ t l ys, v = .ref t ∧ H t = some (.tup [.str x.1, .ref l]) ∧ H l = some (.lst ys) ∧ AllAre (IsGoal H) ys x.2
theorem IsOn.mono {H H' : Hp} {v : V} {x : Str × List (Thing × Nat)} (h : IsOn H v x) (s : Same H H') : IsOn H' v x := by
  obtain ⟨t, l, ys, e, h1, h2, h3⟩ := h
  exact ⟨t, l, ys, e, s _ _ h1, s _ _ h2, h3.imp fun _ _ h => h.mono s⟩
end
end Fb
namespace Fb
open PySem PySem.Spec PyProof.Rows L2
section
abbrev Goals := List (Thing × Nat)
abbrev GRow := Str × Goals
def addG (f : List Thing) : Goals → List Thing
  | [] => f
  | g :: gs => addG (if 0 < g.2 ∧ g.1 ∉ f then f ++ [g.1] else f) gs
theorem addG_pre : ∀ (gs : Goals) (f : List Thing), f <+: addG f gs
  | [], f => List.prefix_refl f
  | g :: gs, f => by
    unfold addG
    split
    · exact (List.prefix_append f _).trans (addG_pre gs _)
    · exact addG_pre gs f
theorem addG_snoc : ∀ (gs : Goals) (f : List Thing) (g : Thing × Nat), addG f (gs ++ [g]) = if 0 < g.2 ∧ g.1 ∉ addG f gs then addG f gs ++ [g.1] else addG f gs
  | [], f, g => rfl
  | a :: gs, f, g => by
    show addG _ (gs ++ [g]) = _
    exact addG_snoc gs _ g
theorem addG_nd : ∀ (gs : Goals) (f : List Thing), f.Nodup → (addG f gs).Nodup
  | [], _, h => h
  | g :: gs, f, h => by
    unfold addG
    split
    · rename_i c
      refine addG_nd gs _ (List.nodup_append.mpr ⟨h, List.nodup_cons.mpr ⟨List.not_mem_nil, List.nodup_nil⟩, fun a ha b hb => ?_⟩)
      rw [List.mem_singleton.mp hb]
      exact fun z => c.2 (z ▸ ha)
    · exact addG_nd gs f h
theorem addG_mem : ∀ (gs : Goals) (f : List Thing) (g : Thing × Nat), g ∈ gs → 0 < g.2 → g.1 ∈ addG f gs
  | [], _, _, h, _ => by cases h
  | a :: gs, f, g, h, p => by
    unfold addG
    rcases List.mem_cons.mp h with rfl | h
    · by_cases c : g.1 ∈ f
      · rw [if_neg (fun z => z.2 c)]
        exact (addG_pre gs f).subset c
      · rw [if_pos ⟨p, c⟩]
        exact (addG_pre gs _).subset (List.mem_append_right _ (List.mem_singleton.mpr rfl))
    · exact addG_mem gs _ g h p
theorem addG_take {gs : Goals} {f : List Thing} {j : Nat} {g : Thing × Nat} (h : gs[j]? = some g) : addG f (gs.take (j + 1)) = if 0 < g.2 ∧ g.1 ∉ addG f (gs.take j) then addG f (gs.take j) ++ [g.1] else addG f (gs.take j) := by
  rw [List.take_add_one, h]
  exact addG_snoc _ _ _
theorem addG_take_pre (gs : Goals) (f : List Thing) (j : Nat) : addG f (gs.take j) <+: addG f gs := by
  have e : addG f gs = addG (addG f (gs.take j)) (gs.drop j) := by
    have q : ∀ (a b : Goals) (f : List Thing), addG f (a ++ b) = addG (addG f a) b := fun a => by
      induction a with
      | nil => exact fun _ _ => rfl
      | cons x a ih => exact fun b f => ih b _
    rw [← q, List.take_append_drop]
  rw [e]
  exact addG_pre _ _
/-- all rows of one thing -/
def addR (f : List Thing) (rs : List GRow) : List Thing := rs.foldl (fun f r => addG f r.2) f
theorem addR_pre : ∀ (rs : List GRow) (f : List Thing), f <+: addR f rs
  | [], f => List.prefix_refl f
  | r :: rs, f => (addG_pre r.2 f).trans (addR_pre rs _)
theorem addR_nd : ∀ (rs : List GRow) (f : List Thing), f.Nodup → (addR f rs).Nodup
  | [], _, h => h
  | r :: rs, f, h => addR_nd rs _ (addG_nd r.2 f h)
theorem addR_take {rs : List GRow} {f : List Thing} {j : Nat} {r : GRow} (h : rs[j]? = some r) : addR f (rs.take (j + 1)) = addG (addR f (rs.take j)) r.2 := by
  rw [List.take_add_one, h]
  unfold addR
  rw [List.foldl_append]
  rfl
theorem addR_take_pre (rs : List GRow) (f : List Thing) (j : Nat) : addR f (rs.take j) <+: addR f rs := by
  have e : addR f rs = addR (addR f (rs.take j)) (rs.drop j) := by
    unfold addR
    rw [← List.foldl_append, List.take_append_drop]
  rw [e]
  exact addR_pre _ _
theorem addR_mem {rs : List GRow} {f : List Thing} {r : GRow} {g : Thing × Nat} (hr : r ∈ rs) (hg : g ∈ r.2) (p : 0 < g.2) : g.1 ∈ addR f rs := by
  obtain ⟨j, hj⟩ := List.mem_iff_getElem?.mp hr
  have q : g.1 ∈ addR f (rs.take (j + 1)) := by
    rw [addR_take hj]
    exact addG_mem _ _ g hg p
  exact (addR_take_pre rs f (j + 1)).subset q
/-- the walk: what is found after n things are looked at, and the rows told -/
def runW (G : Thing → List GRow) (x : Thing) : Nat → List Thing
  | 0 => [x]
  | n + 1 => match (runW G x n)[n]? with
    | some y => addR (runW G x n) (G y)
    | none => runW G x n
def toldW (G : Thing → List GRow) (x : Thing) : Nat → List (Nat × GRow)
  | 0 => []
  | n + 1 => match (runW G x n)[n]? with
    | some y => toldW G x n ++ (G y).map fun r => (n, r)
    | none => toldW G x n
section
variable {G : Thing → List GRow} {x : Thing}
theorem run_succ {n : Nat} {y : Thing} (h : (runW G x n)[n]? = some y) : runW G x (n + 1) = addR (runW G x n) (G y) := by
  show (match (runW G x n)[n]? with | some y => addR (runW G x n) (G y) | none => runW G x n) = _
  rw [h]
theorem told_succ {n : Nat} {y : Thing} (h : (runW G x n)[n]? = some y) : toldW G x (n + 1) = toldW G x n ++ (G y).map fun r => (n, r) := by
  show (match (runW G x n)[n]? with | some y => toldW G x n ++ (G y).map (fun r => (n, r)) | none => toldW G x n) = _
  rw [h]
theorem run_stop {n : Nat} (h : (runW G x n)[n]? = none) : runW G x (n + 1) = runW G x n := by
  show (match (runW G x n)[n]? with | some y => addR (runW G x n) (G y) | none => runW G x n) = _
  rw [h]
theorem run_pre1 (n : Nat) : runW G x n <+: runW G x (n + 1) := by
  cases h : (runW G x n)[n]? with
  | some y => rw [run_succ h]; exact addR_pre _ _
  | none => rw [run_stop h]; exact List.prefix_refl _
theorem run_pre {n m : Nat} (h : n ≤ m) : runW G x n <+: runW G x m := by
  induction m with
  | zero => rw [Nat.le_zero.mp h]; exact List.prefix_refl _
  | succ m ih =>
    rcases Nat.lt_or_eq_of_le h with h | rfl
    · exact (ih (by omega)).trans (run_pre1 m)
    · exact List.prefix_refl _
theorem run_nd (n : Nat) : (runW G x n).Nodup := by
  induction n with
  | zero => exact List.nodup_cons.mpr ⟨List.not_mem_nil, List.nodup_nil⟩
  | succ n ih =>
    cases h : (runW G x n)[n]? with
    | some y => rw [run_succ h]; exact addR_nd _ _ ih
    | none => rw [run_stop h]; exact ih
theorem run_still {n : Nat} (h : (runW G x n).length ≤ n) (k : Nat) : runW G x (n + k) = runW G x n := by
  induction k with
  | zero => rfl
  | succ k ih =>
    show runW G x (n + k + 1) = _
    rw [run_stop (by rw [ih]; exact List.getElem?_eq_none (by omega)), ih]
end
/-- more than twelve; m things, no more -/
def ManyW (G : Thing → List GRow) (x : Thing) : Prop := ∃ n, 12 < (runW G x n).length
def AllW (G : Thing → List GRow) (x : Thing) (m : Nat) : Prop := (runW G x m).length = m ∧ m ≤ 12
theorem many_all {G : Thing → List GRow} {x : Thing} {m : Nat} (a : ManyW G x) (b : AllW G x m) : False := by
  obtain ⟨n, hn⟩ := a
  obtain ⟨b1, b2⟩ := b
  rcases Nat.le_total n m with h | h
  · have := (run_pre (G := G) (x := x) h).length_le
    omega
  · obtain ⟨k, rfl⟩ := Nat.exists_eq_add_of_le h
    rw [run_still (by omega)] at hn
    omega
theorem all_uniq {G : Thing → List GRow} {x : Thing} {m n : Nat} (a : AllW G x m) (b : AllW G x n) : m = n := by
  rcases Nat.le_total n m with h | h
  · obtain ⟨k, rfl⟩ := Nat.exists_eq_add_of_le h
    have := a.1
    rw [run_still (by have := b.1; omega), b.1] at this
    omega
  · obtain ⟨k, rfl⟩ := Nat.exists_eq_add_of_le h
    have := b.1
    rw [run_still (by have := a.1; omega), a.1] at this
    omega
/-- the weights by the numbers of things -/
def sumG (gs : Goals) (t : Thing) : Nat := ((gs.filter fun g => decide (g.1 = t)).map (·.2)).sum
def wtsG (f : List Thing) (gs : Goals) : List Nat := f.map (sumG gs)
def stepsW (G : Thing → List GRow) (x : Thing) (m : Nat) : List Stp := (toldW G x m).map fun r => ⟨r.1, r.2.1, wtsG (runW G x m) r.2.2⟩
theorem sumG_snoc (gs : Goals) (g : Thing × Nat) (t : Thing) : sumG (gs ++ [g]) t = sumG gs t + if g.1 = t then g.2 else 0 := by
  unfold sumG
  rw [List.filter_append]
  by_cases h : g.1 = t
  · rw [List.filter_cons_of_pos (by rw [decide_eq_true_iff]; exact h), List.filter_nil, List.map_append, List.sum_append, if_pos h]
    simp
  · rw [List.filter_cons_of_neg (by rw [decide_eq_true_iff]; exact h), List.filter_nil, List.append_nil, if_neg h]
    rfl
end
end Fb
namespace Fb
open PySem PySem.Spec PyProof.Rows L2
section
open LamX
variable {K : PySem.W.Frag} {mg : Str → Option Value}
theorem exmTM (T : Txt K mg) : PySem.W.exmOne K (.ref T.c_TooMany) (.ref T.c_TooMany) = some true := PySem.W.exm_ref T.y_TooMany_sb T.y_TooMany_hd T.y_TooMany_ty T.sub_TooMany_TooMany
def IsTold (H : Hp) (v : V) (n : Nat) (out : List Stp) : Prop := ∃ t r svs, v = .ref t ∧ H t = some (.tup [.str "told", .int (n : Nat), .ref r]) ∧ H r = some (.lst svs) ∧ AllAre (IsStp H) svs out
def TTSaid (C N : Addr) : (XK → Hp → VK → Prop) → Hp → VK → Prop := fun tl H Q => ∀ (Es : XK) (Qs : VK),
  (∀ (d : Option Addr) (H' : Hp), (∀ H2 t, Same H' H2 → H2 t = some (.tup [.str "many"]) → Q (.ref t) H2) → Es (.ref N) d H') →
  (∀ (v : V) (m : Nat) (out : List Stp) (H' : Hp), IsMach C H' v m out → (∀ H2 u, Same H' H2 → IsTold H2 u m out → Q u H2) → Qs v H') → tl Es H Qs
theorem said_gives {X : Cx} (T : Txt X.K X.mg) {g : Addr} {cdg : Value} {q : Str} :
    GivesTo X ["_law_deed", "_law_found"] "_law_said" (defScope s_l_said) g cdg (defBody s_l_said) "_law_deed" q (TTSaid T.c_Machine T.c_TooMany) := by
  intro f c' s H Q tl act hc h
  refine ⟨_, pss_cons (ps_try_manyN (X := (cxOf C8.CX0 X.prog X.w X.K X.mg X.base ["_law_deed", "_law_found"] "_law_said" (defScope s_l_said) g cdg X.A X.stack s H C8.E0).nox) rfl rfl sc_l_said.nd L2.takes0
      (tb := fun W D σ H => ∃ Ech : XK, (∀ cls d σ' H', Ech cls d H' → W cls d σ' H') ∧ σ[0]? = some (some (.ref f)) ∧ H c' = some (CodeO c' q) ∧ tl Ech H (fun v H1 => gName 1 v σ H1 D.nx))
      (fun W pn xe tk _ => ?_)
      (HdsN.cons ⟨rfl, by decide, .inl T.g_TooMany⟩ (fun a oe cls d pn hz hf => pss_one (ps_ret (pe_tup (pa_cons pe_str pa_nil))))
      (HdsN.cons ⟨rfl, by decide, .inl T.g_FarError⟩ (fun a oe cls d pn hz hf => pss_one (ps_ret (pe_tup (pa_cons pe_str pa_nil))))
      .nil)))
    (pss_one (ps_ret (pe_tup (pa_cons pe_str (pa_cons (pe_fld (pv 1) rfl) (pa_cons (pe_fld (pv 1) rfl) pa_nil)))))), ?_⟩
  · refine ⟨fun pins s' σ H' D I h' => ?_⟩
    obtain ⟨Ech, hW, h1, h2, h3⟩ := h'
    exact (pss_one (ps_set (i := 1) sc_l_said.nd rfl (.inl rfl) (act W pn xe Ech _ _ tk hW))).run pins s' σ H' D I ⟨h1, h2, h3⟩
  · refine ⟨fun cls d H' => cls = .ref T.c_TooMany ∧ ∀ H2 t, Same H' H2 → H2 t = some (.tup [.str "many"]) → Q (.ref t) H2,
      fun cls d σ' H' hE => ?_, rfl, hc, h _ _ (fun d H' q => ⟨rfl, q⟩) (fun v m out H' im q => ?_)⟩
    · obtain ⟨rfl, q⟩ := hE
      exact ⟨true, exmTM T, fun _ a na => ⟨by show 1 ≤ sizeLine; decide, fun p np => q _ p (same_upd np) upd_same⟩, fun z => nomatch z⟩
    · obtain ⟨p, dx', r, svs, ep, hp, hr0, av⟩ := id im
      cases ep
      refine ⟨_, rfl, p, _, _, _, _, rfl, hp, T.cl_Machine, T.n_Machine_many, mflds_many m r, _, rfl, p, _, _, _, _, rfl, hp, T.cl_Machine, T.n_Machine_steps, mflds_steps m r, by show 3 ≤ sizeLine; decide, fun t nt => ?_⟩
      have st := same_upd (o := .tup [.str "told", .int (m : Nat), .ref r]) nt
      exact q _ _ st ⟨t, r, svs, rfl, upd_same, st _ _ hr0, av.imp fun _ _ h => h.mono st⟩
end
end Fb
namespace Fb
open PySem PySem.Spec PyProof.Rows L2
section
variable {P : Program} {w : World} {K : PySem.W.Frag} {mg : Str → Option Value} {base : Heap}
def IsThK (K : PySem.W.Frag) (H : Hp) (v : V) (x : Thing) : Prop := ∃ u, v = .ref u ∧ SqT K H u [.int (x.1 : Nat), .int (x.2 : Nat)]
abbrev kT (x : Thing) : List Key := [.inl (x.1 : Nat), .inl (x.2 : Nat)]
theorem kT_inj {a b : Thing} (h : kT a = kT b) : a = b := by
  simp only [kT, List.cons.injEq, Sum.inl.injEq, and_true] at h
  exact Prod.ext (by omega) (by omega)
theorem sqT_off {H H' : Hp} {u : Addr} {xs : List V} (h : SqT K H u xs) (e : ∀ b, (∃ xs, Rd H b (.tup xs)) → H' b = H b) : SqT K H' u xs := by
  rcases h with r | r
  · left
    have := e u ⟨xs, r⟩
    unfold Rd at *
    rw [this]
    exact r
  · exact .inr r
theorem IsThK.mono {H H' : Hp} {v : V} {x : Thing} (h : IsThK K H v x) (s : Same H H') : IsThK K H' v x := by
  obtain ⟨u, e, h⟩ := h
  exact ⟨u, e, h.imp (fun r => r.imp (s _ _) fun ⟨o, z⟩ => ⟨o, s _ _ z⟩) id⟩
structure NumAt (P : Program) (w : World) (K : PySem.W.Frag) (H : Hp) (d l : Addr) (xs : List Ent) (ys : List V) (f : List Thing) : Prop where
  hd : H d = some (DXo P w d xs)
  hl : H l = some (.lst ys)
  ks : KeysAt K H xs
  ay : AllAre (IsThK K H) ys f
  ex : xs.map (·.1) = f.map kT
  ev : ∀ (i : Nat) x, xs[i]? = some x → RelV (.int (i : Nat)) x.2.2
theorem NumAt.ne {H : Hp} {d l : Addr} {xs : List Ent} {ys : List V} {f : List Thing} (n : NumAt P w K H d l xs ys f) : d ≠ l := fun z => by
  have a := n.hd
  rw [z, n.hl] at a
  cases a
theorem NumAt.same {H H' : Hp} {d l : Addr} {xs : List Ent} {ys : List V} {f : List Thing} (n : NumAt P w K H d l xs ys f) (s : Same H H') : NumAt P w K H' d l xs ys f :=
  ⟨s _ _ n.hd, s _ _ n.hl, fun x hx => (n.ks x hx).imp (fun r => r.imp (s _ _) fun ⟨o, z⟩ => ⟨o, s _ _ z⟩) id, n.ay.imp fun _ _ h => h.mono s, n.ex, n.ev⟩
theorem NumAt.len {H : Hp} {d l : Addr} {xs : List Ent} {ys : List V} {f : List Thing} (n : NumAt P w K H d l xs ys f) : xs.length = f.length ∧ ys.length = f.length := by
  refine ⟨?_, n.ay.1⟩
  have := congrArg List.length n.ex
  rwa [List.length_map, List.length_map] at this
theorem NumAt.at {H : Hp} {d l : Addr} {xs : List Ent} {ys : List V} {f : List Thing} (n : NumAt P w K H d l xs ys f) (nd : f.Nodup) {i : Nat} {t : Thing} (h : f[i]? = some t) : ∃ q u, atKey xs (kT t) = some (q, u) ∧ RelV (.int (i : Nat)) u := by
  have il := (List.getElem?_eq_some_iff.mp h).1
  obtain ⟨x, hx⟩ : ∃ x, xs[i]? = some x := ⟨_, List.getElem?_eq_getElem (by rw [n.len.1]; exact il)⟩
  have e := congrArg (fun l => l[i]?) n.ex
  simp only [List.getElem?_map, hx, h, Option.map_some] at e
  have e := Option.some.inj e
  have ndx : (xs.map (·.1)).Nodup := by
    rw [n.ex]
    exact List.pairwise_map.mpr (nd.imp fun h e => h (kT_inj e))
  obtain ⟨k, q, u⟩ := x
  have e : k = kT t := e
  subst e
  exact ⟨q, u, atKey_of_get ndx hx, n.ev i _ hx⟩
theorem NumAt.no {H : Hp} {d l : Addr} {xs : List Ent} {ys : List V} {f : List Thing} (n : NumAt P w K H d l xs ys f) {t : Thing} (h : t ∉ f) : atKey xs (kT t) = none :=
  atKey_none_of_get fun j p e => by
    have q : kT t ∈ xs.map (·.1) := List.mem_map.mpr ⟨_, List.mem_of_getElem? e, rfl⟩
    rw [n.ex] at q
    obtain ⟨b, hb, e⟩ := List.mem_map.mp q
    exact h (kT_inj e ▸ hb)
theorem NumAt.has {H : Hp} {d l : Addr} {xs : List Ent} {ys : List V} {f : List Thing} (n : NumAt P w K H d l xs ys f) (nd : f.Nodup) (t : Thing) : (atKey xs (kT t)).isSome = decide (t ∈ f) := by
  by_cases h : t ∈ f
  · obtain ⟨i, hi⟩ := List.mem_iff_getElem?.mp h
    obtain ⟨q, u, e, _⟩ := n.at nd hi
    rw [e, decide_eq_true h]
    rfl
  · rw [n.no h, decide_eq_false h]
    rfl
theorem NumAt.put {H : Hp} {d l b : Addr} {xs : List Ent} {ys : List V} {f : List Thing} {t : Thing} {u : Value} (n : NumAt P w K H d l xs ys f) (hb : SqT K H b ((kT t).map kV)) (hu : RelV (.int (f.length : Nat)) u) :
    NumAt P w K (upd (upd H d (DXo P w d (xs ++ [(kT t, b, u)]))) l (.lst (ys ++ [.ref b]))) d l (xs ++ [(kT t, b, u)]) (ys ++ [.ref b]) (f ++ [t]) := by
  have off : ∀ c, (∃ zs, Rd H c (.tup zs)) → upd (upd H d (DXo P w d (xs ++ [(kT t, b, u)]))) l (.lst (ys ++ [.ref b])) c = H c := fun c ⟨zs, r⟩ => by
    have nl : c ≠ l := fun z => by
      subst z
      rcases r with r | ⟨o, r⟩ <;> rw [n.hl] at r <;> cases r
    have nd : c ≠ d := fun z => by
      subst z
      rcases r with r | ⟨o, r⟩ <;> rw [n.hd] at r <;> cases r
    rw [upd_ne nl, upd_ne nd]
  refine ⟨by rw [upd_ne n.ne, upd_same], upd_same, fun x hx => ?_, AllAre.snoc (n.ay.imp fun _ _ ⟨c, e, h⟩ => ⟨c, e, sqT_off h off⟩) ⟨b, rfl, sqT_off hb off⟩, by rw [List.map_append, List.map_append, n.ex]; rfl, fun i x hx => ?_⟩
  · rcases List.mem_append.mp hx with h | h
    · exact sqT_off (n.ks x h) off
    · rw [List.mem_singleton.mp h]
      exact sqT_off hb off
  · by_cases c : i < xs.length
    · rw [List.getElem?_append_left c] at hx
      exact n.ev i x hx
    · rw [List.getElem?_append_right (by omega)] at hx
      have lt := (List.getElem?_eq_some_iff.mp hx).1
      rw [List.length_singleton] at lt
      have e0 : i = f.length := by have := n.len.1; omega
      rw [show i - xs.length = 0 by omega] at hx
      cases hx
      rw [e0]
      exact hu
def spNumNew (P : Program) (w : World) (K : PySem.W.Frag) (C : Addr) : Sp := fun vs H Q E => ∃ (d l g : Addr) (xs : List Ent) (ys zs : List V) (f : List Thing) (gs : Goals), vs = [.ref d, .ref l, .ref g] ∧ NumAt P w K H d l xs ys f ∧ f.Nodup ∧ f.length ≤ 12 ∧ H g = some (.lst zs) ∧ g ≠ l ∧ AllAre (IsGoal H) zs gs ∧
  ((addG f gs).length ≤ 12 → ∀ H' xs' ys', (∀ b, b ≠ d → b ≠ l → H' b = H b) → NumAt P w K H' d l xs' ys' (addG f gs) → Q .non H') ∧
  (12 < (addG f gs).length → ∀ H', (∀ b, b ≠ d → b ≠ l → H' b = H b) → E (.ref C) none H')
theorem goal_off {H H' : Hp} {d l : Addr} {xs : List Ent} {ys : List V} (hd : H d = some (DXo P w d xs)) (hl : H l = some (.lst ys)) (e : ∀ b, b ≠ d → b ≠ l → H' b = H b) {v : V} {g : Thing × Nat} (h : IsGoal H v g) : IsGoal H' v g := by
  have off : ∀ (c : Addr) (zs : List V), H c = some (.tup zs) → H' c = some (.tup zs) := fun c zs r => by
    rw [e c (fun z => by rw [z, hd] at r; cases r) (fun z => by rw [z, hl] at r; cases r)]
    exact r
  obtain ⟨t, y, e1, h1, u, e2, h2⟩ := h
  exact ⟨t, y, e1, off _ _ h1, u, e2, off _ _ h2⟩
theorem ok_p_number_new (T : Txt K mg) : FnOk P w K mg base (L2.CX P w) 1 T.f_p_number_new T.d_p_number_new ["numbers", "found", "goals"] (spNumNew P w K T.c_TooMany) := by
  refine T.F_p_number_new.okX sc_p_number_new (fun vs H Q E h => ?_) (fun cdv A outer s H vs Q E hr h => ?_)
  · obtain ⟨d, l, g, _, _, _, _, _, rfl, _⟩ := h
    rfl
  · obtain ⟨d, l, g, xs, ys, zs, f, gs, rfl, n, nd, f12, hg, gl, ag, q1, q2⟩ := h
    refine ⟨_, (pss_one (ps_for (passes_of rfl) rfl (pi_list (pv 2)) (pg_tup (by rfl) (pgs_cons (pg_name (i := 3) sc_p_number_new.nd rfl (.inl rfl)) (pgs_cons (pg_name (i := 4) sc_p_number_new.nd rfl (.inl rfl)) pgs_nil)))
  (pss_one (ps_if (PW.pt (pw_and (pt_cmpR op_gt (pv 4) pe_int (nomark _)) (pw_and1 (pt_cmp (pc_xnotin (units1 hr.units) (pv 3) (pv 0)) (by with_unfolding_all rfl)))))
  (pss_cons (ps_if (pt_cmpR op_eq (pe_callB call_len_seq (by rfl) T.z_len (by decide +kernel) (pa_cons (pv 1) pa_nil)) (pe_glob (by rfl) T.g_MOST_ROOMS T.r_MOST_ROOMS) (nomark _))
  (pss_one (ps_raise rfl (takes_of rfl rfl rfl rfl) (SkE.pmk_own1 PySem.F.excBase_ValueError T.x_TooMany_ex T.g_TooMany T.x_TooMany_kp (raises_own T.x_TooMany_sb T.x_TooMany_ty) rfl (pe_joined (.cons pe_str (.cons (pe_fmt (pe_glob (by rfl) T.g_MOST_ROOMS T.r_MOST_ROOMS)) (.cons pe_str .nil)))))))
  pss_nil)
 (pss_cons (ps_xput (units1 hr.units) (pv 0) (pv 3) (pe_callB call_len_seq (by rfl) T.z_len (by decide +kernel) (pa_cons (pv 1) pa_nil)) rfl)
 (pss_one (ps_expr (pe_bm PySem.F.plainAttrs_list PySem.F.slot_list_append PySem.F.type_list_append mt_append (pv 1) (pa_cons (pv 3) pa_nil))))))
  pss_nil)))), ?_⟩
    have lz : zs.length = gs.length := ag.1
    have gd : g ≠ d := fun z => by rw [z, n.hd] at hg; cases hg
    refine ⟨_, rfl, g, rfl, ⟨_, SqL.of hg⟩, for_list (K := K) (a := g) (xs := zs) (fun j σ F => ∃ (z3 z4 : Option V) (xs' : List Ent) (ys' : List V), σ = [some (.ref d), some (.ref l), some (.ref g), z3, z4] ∧ (∀ b, b ≠ d → b ≠ l → F b = H b) ∧ NumAt P w K F d l xs' ys' (addG f (gs.take j)) ∧ (addG f (gs.take j)).length ≤ 12) ⟨_, _, xs, ys, rfl, fun _ _ _ => rfl, n, f12⟩ (fun j σ F _ h => ?_) (fun j x σ F hx h => ?_) (fun σ F h => ?_)⟩
    · obtain ⟨_, _, _, _, _, off, _⟩ := h
      exact SqL.of (by rw [off g gd gl]; exact hg)
    · obtain ⟨z3, z4, xs', ys', rfl, off, n', le⟩ := h
      obtain ⟨go, hgo, ig⟩ := ag.at hx
      have nd' : (addG f (gs.take j)).Nodup := addG_nd _ _ nd
      have ig' : IsGoal F x go := goal_off n.hd n.hl off ig
      obtain ⟨t, y, rfl, ht, u, rfl, hu⟩ := ig'
      have tk := addG_take (f := f) hgo
      have su : SqT K F u ((kT go.1).map kV) := .inl (.inl hu)
      refine ⟨t, _, rfl, .inl (.inl ht), rfl, _, _, rfl, _, _, rfl, rfl, ?_⟩
      by_cases hn : 0 < go.2
      · refine ⟨_, rfl, (go.2 : Nat), 0, rfl, rfl, true, congrArg V.bl (decide_eq_true (by omega)), iteT ⟨_, rfl, _, rfl, d, u, kT go.1, xs', rfl, .inl n'.hd, n'.ks, rfl, su, _, rfl, ?_⟩⟩
        rw [n'.has nd']
        by_cases hm : go.1 ∈ addG f (gs.take j)
        · rw [decide_eq_true hm]
          rw [if_neg (fun z => z.2 hm)] at tk
          refine iteF ⟨_, _, xs', ys', rfl, off, ?_, ?_⟩
          · rw [tk]; exact n'
          · rw [tk]; exact le
        · rw [decide_eq_false hm]
          rw [if_pos ⟨hn, hm⟩] at tk
          have ly := n'.len.2
          have lx := n'.len.1
          refine iteT ⟨_, rfl, l, ys', rfl, .inl (SqL.of n'.hl), rfl, _, rfl, ?_⟩
          by_cases full : (addG f (gs.take j)).length = 12
          · rw [decide_eq_true (show V.int ((ys'.length : Nat) : Int) = V.int 12 by rw [ly, full]; rfl)]
            refine iteT ⟨_, rfl, by decide +kernel, .inr ⟨12, rfl, by decide, _, rfl, by decide +kernel, _, rfl, by decide +kernel, q2 ?_ F off⟩⟩
            have h1 := (addG_take_pre gs f (j + 1)).length_le
            rw [tk, List.length_append, List.length_singleton] at h1
            omega
          · rw [decide_eq_false (show ¬ V.int ((ys'.length : Nat) : Int) = V.int 12 from fun z => full (by have := V.int.inj z; omega))]
            refine iteF ⟨_, rfl, l, ys', rfl, .inl (SqL.of n'.hl), _, rfl, _, rfl, d, u, kT go.1, xs', rfl, n'.hd, n'.ks, rfl, su, by rw [sizeLine_eq]; omega, n'.no hm, fun val rv => ?_⟩
            rw [ly] at rv
            have np := n'.put su rv
            have hl' : upd F d (DXo P w d (xs' ++ [(kT go.1, u, val)])) l = some (.lst ys') := by rw [upd_ne n'.ne.symm]; exact n'.hl
            refine ⟨_, rfl, .inl ⟨rfl, _, SqL.of hl'⟩, _, rfl, at_nil ⟨l, ys', _, rfl, rfl, hl', by rw [sizeLine_eq]; omega, ?_⟩⟩
            refine ⟨_, _, xs' ++ [(kT go.1, u, val)], ys' ++ [.ref u], rfl, fun b h1 h2 => ?_, ?_, ?_⟩
            · rw [upd_ne h2, upd_ne h1]
              exact off b h1 h2
            · rw [tk]
              exact np
            · rw [tk, List.length_append, List.length_singleton]
              omega
      · refine ⟨_, rfl, (go.2 : Nat), 0, rfl, rfl, false, congrArg V.bl (decide_eq_false (by omega)), iteF ⟨_, _, xs', ys', rfl, off, ?_, ?_⟩⟩
        · rw [tk, if_neg (fun z => hn z.1)]
          exact n'
        · rw [tk, if_neg (fun z => hn z.1)]
          exact le
    · obtain ⟨z3, z4, xs', ys', rfl, off, n', le⟩ := h
      rw [lz, List.take_length] at n' le
      exact q1 le F xs' ys' off n'
end
end Fb
namespace Fb
open PySem PySem.Spec PyProof.Rows L2
section
theorem get_list {X : Cx} : PGet X (rIxL X.K) := by
  intro pins s σ H x y v u Q I rx ry h
  obtain ⟨p, xs, i, z, rfl, rfl, hq, he, q⟩ := h
  cases rx
  obtain ⟨t, rfl⟩ := ry
  obtain ⟨its, r, pl, hz⟩ := I.list hq
  obtain ⟨j, h1, h2, h3, h4, h5⟩ := L2.atI_get he
  obtain ⟨w, ew, rw'⟩ := r.get h2
  have hl := r.length
  have hn := line63
  have fin : EP X pins σ Q w s := ⟨z, H, I, rw', q⟩
  by_cases h0 : 0 ≤ i
  · have hj : i.toNat = j := by
      rw [seqIndex_of h0 h5] at h1
      exact Option.some.inj h1
    exact wpAny_getItem_list pl.isList h0 (by omega) (by rw [hj]; simpa using ew) fin
  · have hj : (i + (its.toArray.size : Int)).toNat = j := by
      rw [seqIndex_neg (by omega) h4] at h1
      rw [List.size_toArray, ← hl]
      exact Option.some.inj h1
    exact wpAny_getItem_list_neg pl.isList (by omega) (by rw [List.size_toArray] <;> omega) (by omega) (by rw [hj]; simpa using ew) fin
theorem ps_augL {X : Cx} {o i e : Expr} {to ti te : TE} {tip : TIp} {op : Operator} {tpos pos : Pos} (_ : X.A.units + 1 < cLine) (ho : PE X o to) (hi : PE X i ti) (he : PE X e te) (hp : PIp X op tip)
    (ha : ∀ ov iv new, augStore i ov iv new = (do holding [new, ov, iv] (setItem ov iv new); release [new, ov, iv] []; pure .next)) : PS X (.AugAssign (.Subscript o i tpos) op e pos) (tAugS to ti te (rIxL X.K) tip rSetL) := ps_augS ho hi get_list he hp set_list ha
variable {P : Program} {w : World} {K : PySem.W.Frag} {mg : Str → Option Value} {base : Heap}
theorem ixN_nn {n j : Nat} (hj : j < n) : ixN n (j : Int) = some j := by
  unfold ixN
  rw [if_pos (by omega), if_pos (by omega)]
  simp
theorem wts_snoc {f : List Thing} (nd : f.Nodup) {i : Nat} {gs : Goals} {g : Thing × Nat} (h : f[i]? = some g.1) : nts (wtsG f (gs ++ [g])) = (nts (wtsG f gs)).set i (.int ((sumG gs g.1 + g.2 : Nat) : Int)) := by
  refine List.ext_getElem? fun j => ?_
  have il := (List.getElem?_eq_some_iff.mp h).1
  unfold nts wtsG
  rw [List.getElem?_set]
  simp only [List.map_map, List.getElem?_map, List.length_map]
  by_cases e : i = j
  · subst e
    rw [if_pos rfl, if_pos il, h]
    simp only [Option.map_some, Function.comp, sumG_snoc, if_true]
  · rw [if_neg e]
    cases hj : f[j]? with
    | none => rfl
    | some t =>
      have ne : g.1 ≠ t := fun z => e (by
        have := (List.getElem?_inj il nd).mp (h.trans (by rw [hj, z]))
        exact this)
      simp only [Option.map_some, Function.comp, sumG_snoc, if_neg ne, Nat.add_zero]
theorem wts_none {f : List Thing} {gs : Goals} {g : Thing × Nat} (h : ¬ 0 < g.2) : wtsG f (gs ++ [g]) = wtsG f gs := by
  unfold wtsG
  refine List.map_congr_left fun t _ => ?_
  rw [sumG_snoc]
  split <;> omega
def spWeights (P : Program) (w : World) (K : PySem.W.Frag) : Sp := fun vs H Q _ => ∃ (g d l : Addr) (xs : List Ent) (ys zs : List V) (f : List Thing) (gs : Goals), vs = [.ref g, .ref d] ∧ NumAt P w K H d l xs ys f ∧ f.Nodup ∧ f.length ≤ 12 ∧ H g = some (.lst zs) ∧ AllAre (IsGoal H) zs gs ∧ (∀ g ∈ gs, 0 < g.2 → g.1 ∈ f) ∧
  ∀ H' p, Same H H' → H' p = some (.tup (nts (wtsG f gs))) → Q (.ref p) H'
theorem ok_p_weights_of (T : Txt K mg) : FnOk P w K mg base CX0 1 T.f_p_weights_of T.d_p_weights_of ["goals", "numbers"] (spWeights P w K) := by
  refine T.F_p_weights_of.ok sc_p_weights_of (fun vs H Q E h => ?_) (fun cdv A outer s H vs Q E hr h => ?_)
  · obtain ⟨g, d, l, _, _, _, _, _, rfl, _⟩ := h
    rfl
  · obtain ⟨g, d, l, xs, ys, zs, f, gs, rfl, n, nd, f12, hg, ag, mem, q⟩ := h
    refine ⟨_, (pss_cons (ps_lock (ps_setLc (i := 2) (own := [("thing", 3)]) (g := (gName 3)) (tt := tYes) (by rfl) sc_p_weights_of.nd rfl rfl (sw_true rfl rfl rfl (by decide +kernel)) (pi_keysX (pv 1)) (blkOk_by (own := [("thing", 3)]) (N := ["goals", "numbers", "weights", "thing", "weight"]) (sc := defScope s_p_weights_of) (by decide +kernel)) (fun _ _ _ _ _ => by exact (pg_name (i := 3) sc_p_weights_of.nd rfl (.inl rfl))) (fun _ _ _ _ _ => by exact pts_nil) (fun _ _ _ _ _ => by exact pe_int)))
 (pss_cons (ps_for PassesOwn.never rfl (pi_list (pv 0)) (pg_tup (by rfl) (pgs_cons (pg_name (i := 3) sc_p_weights_of.nd rfl (.inl rfl)) (pgs_cons (pg_name (i := 4) sc_p_weights_of.nd rfl (.inl rfl)) pgs_nil)))
  (pss_one (ps_if (pt_cmpR op_gt (pv 4) pe_int (nomark _))
  (pss_one (ps_augL (units1 hr.units) (pv 2) (pe_xget (units1 hr.units) (pv 1) (pv 3) (fun _ _ => rfl)) (pv 4) ip_add (fun _ _ _ => rfl)))
  pss_nil)))
 (pss_one (ps_ret (pe_callTy call_tuple_of (by rfl) T.z_tuple (by decide +kernel) (pa_cons (pv 2) pa_nil)))))), ?_⟩
    have lz : zs.length = gs.length := ag.1
    have lx := n.len.1
    refine ⟨d, DXo P w d xs, n.hd, trivial, fun od => ⟨_, rfl, d, od, xs, rfl, upd_same, fun D nD => lc_allW walk_keysX (fun _ y _ => y = .int 0) (fun _ _ _ _ _ h => h) nD (fun H3 s3 => s3 _ _ upd_same) (by omega) (fun i x H3 H4 kk hi s3 eD y hk => ?_) (fun H3 cs s3 e3 l3 r3 => ?_)⟩⟩
    · obtain ⟨rfl, u, rfl, _⟩ := y
      exact ⟨rfl, hk _ _ (fun _ _ h => h) rfl⟩
    · have s3' := s3.trans (hid_same (a := D))
      have Dd : D ≠ d := fun z => by rw [z, upd_same] at nD; cases nD
      have HD : H D = none := by rw [upd_ne Dd] at nD; exact nD
      have sH : Same H (upd H3 d (DXo P w d xs)) := fun b o e => by
        by_cases c : b = d
        · rw [c, upd_same]
          rw [c, n.hd] at e
          exact e
        · rw [upd_ne c]
          exact s3' _ _ (by rw [upd_ne c]; exact e)
      have e3' : upd H3 d (DXo P w d xs) D = some (.lst (nts (wtsG f []))) := by
        rw [upd_ne Dd, e3]
        have : cs = nts (wtsG f []) := by
          refine List.ext_getElem? fun i => ?_
          unfold nts wtsG
          simp only [List.map_map, List.getElem?_map]
          cases hc : cs[i]? with
          | none =>
            have := List.getElem?_eq_none_iff.mp hc
            rw [List.getElem?_eq_none (by omega)]
            rfl
          | some y =>
            have il := (List.getElem?_eq_some_iff.mp hc).1
            rw [List.getElem?_eq_getElem (show i < f.length by omega), r3 i y hc]
            rfl
        rw [this]
      refine ⟨s3' _ _ upd_same, ?_⟩
      have n' := n.same sH
      have ag' := ag.imp fun _ _ h => IsGoal.mono h sH
      have hg' := sH _ _ hg
      generalize upd H3 d (DXo P w d xs) = H2 at *
      have gD : g ≠ D := fun z => by rw [z, HD] at hg; cases hg
      have wl : ∀ gs : Goals, (nts (wtsG f gs)).length = f.length := fun gs => by rw [nts_len]; exact List.length_map _
      have sF : ∀ F : Hp, (∀ b, b ≠ D → F b = H2 b) → Same H F := fun F off b o e => by
        rw [off b (fun z => by rw [z, HD] at e; cases e)]
        exact sH _ _ e
      refine ⟨_, rfl, g, rfl, ⟨_, SqL.of hg'⟩, for_list (K := K) (a := g) (xs := zs) (fun j σ F => ∃ z3 z4 : Option V, σ = [some (.ref g), some (.ref d), some (.ref D), z3, z4] ∧ (∀ b, b ≠ D → F b = H2 b) ∧ F D = some (.lst (nts (wtsG f (gs.take j))))) ⟨_, _, rfl, fun _ _ => rfl, e3'⟩ (fun j σ F _ h => ?_) (fun j x σ F hx h => ?_) (fun σ F h => ?_)⟩
      · obtain ⟨_, _, _, off, _⟩ := h
        exact SqL.of (by rw [off g gD]; exact hg')
      · obtain ⟨z3, z4, rfl, off, eF⟩ := h
        obtain ⟨go, hgo, ig⟩ := ag.at hx
        have s1 := sF F off
        obtain ⟨t, y, rfl, ht, u, rfl, hu⟩ := ig.mono s1
        have nF := n.same s1
        have tk : gs.take (j + 1) = gs.take j ++ [go] := by rw [List.take_add_one, hgo]; rfl
        refine ⟨t, _, rfl, .inl (.inl ht), rfl, _, _, rfl, _, _, rfl, rfl, ?_⟩
        by_cases hn : 0 < go.2
        · obtain ⟨i, hi⟩ := List.mem_iff_getElem?.mp (mem go (List.mem_of_getElem? hgo) hn)
          have il := (List.getElem?_eq_some_iff.mp hi).1
          obtain ⟨q0, uu, hk, rv⟩ := nF.at nd hi
          have at_ : (nts (wtsG f (gs.take j)))[i]? = some (.int ((sumG (gs.take j) go.1 : Nat) : Int)) := by
            unfold nts wtsG
            simp only [List.map_map, List.getElem?_map, hi]
            rfl
          refine ⟨_, rfl, (go.2 : Nat), 0, rfl, rfl, true, congrArg V.bl (decide_eq_true (by omega)), iteT ⟨_, rfl, _, rfl, _, rfl, d, u, kT go.1, xs, q0, uu, .int (i : Nat), rfl, .inl nF.hd, nF.ks, rfl, .inl (.inl hu), hk, rv, ?_⟩⟩
          refine ⟨D, _, (i : Nat), _, rfl, rfl, SqL.of eF, atI_nat at_, _, rfl, _, _, rfl, rfl, D, _, (i : Nat), i, rfl, rfl, eF, ixN_nn (by rw [wl]; exact il), ?_⟩
          refine ⟨_, _, rfl, fun b hb => ?_, ?_⟩
          · rw [upd_ne hb]
            exact off b hb
          · rw [upd_same, tk, wts_snoc nd hi]
            rfl
        · refine ⟨_, rfl, (go.2 : Nat), 0, rfl, rfl, false, congrArg V.bl (decide_eq_false (by omega)), iteF ⟨_, _, rfl, off, ?_⟩⟩
          rw [tk, wts_none hn]
          exact eF
      · obtain ⟨z3, z4, rfl, off, eF⟩ := h
        rw [lz, List.take_length] at eF
        refine ⟨_, rfl, D, _, rfl, .inl ⟨SqL.of eF, fun p np => ?_⟩⟩
        exact q _ p ((sF F off).trans (same_upd np)) upd_same
def IsKvs (av : Addr → Prop) (H : Hp) (kvs : List (Key × V)) (gs : List GRow) : Prop := kvs.length = gs.length ∧ ∀ (i : Nat) kv r, kvs[i]? = some kv → gs[i]? = some r → ∃ l ys, kv = (.inr r.1, .ref l) ∧ H l = some (.lst ys) ∧ AllAre (IsGoal H) ys r.2 ∧ ¬ av l
/-- a dict from signs to goals, whose lists are none of those to avoid -/
def IsGDict (av : Addr → Prop) (H : Hp) (v : V) (gs : List GRow) : Prop := ∃ d kvs, v = .ref d ∧ H d = some (.dK kvs) ∧ IsKvs av H kvs gs
def IsOnA (av : Addr → Prop) (H : Hp) (v : V) (x : GRow) : Prop := ∃ t l ys, v = .ref t ∧ H t = some (.tup [.str x.1, .ref l]) ∧ H l = some (.lst ys) ∧ AllAre (IsGoal H) ys x.2 ∧ ¬ av l
theorem IsOnA.mono {av : Addr → Prop} {H H' : Hp} {v : V} {x : GRow} (h : IsOnA av H v x) (s : Same H H') : IsOnA av H' v x := by
  obtain ⟨t, l, ys, e, h1, h2, h3, h4⟩ := h
  exact ⟨t, l, ys, e, s _ _ h1, s _ _ h2, h3.imp fun _ _ h => h.mono s, h4⟩
/-- rows by sign, in order -/
def SortedG (rs gs : List GRow) : Prop := rs.Perm gs ∧ sortedS (rs.map (·.1)) = true
def spSortG : Sp := fun vs H Q _ => ∃ (av : Addr → Prop) (v : V) (gs : List GRow), vs = [v] ∧ IsGDict av H v gs ∧ (gs.map (·.1)).Nodup ∧ gs.length < 64 ∧
  ∀ H' p zs rs, Same H H' → H p = none → H' p = some (.lst zs) → AllAre (IsOnA av H') zs rs → SortedG rs gs → Q (.ref p) H'
theorem perm_lift {α β : Type} {f : α → β} {ws l : List β} (p : ws.Perm l) : ∀ {gs : List α}, gs.map f = l → ∃ rs : List α, rs.Perm gs ∧ rs.map f = ws := by
  induction p with
  | nil =>
    intro gs e
    rw [List.map_eq_nil_iff] at e
    subst e
    exact ⟨[], .nil, rfl⟩
  | cons x _ ih =>
    intro gs e
    match gs, e with
    | g :: gs, e =>
      obtain ⟨e1, e2⟩ := List.cons.inj e
      obtain ⟨rs, p, q⟩ := ih e2
      exact ⟨g :: rs, .cons g p, by rw [List.map_cons, q, e1]⟩
  | swap x y l =>
    intro gs e
    match gs, e with
    | a :: b :: gs, e =>
      obtain ⟨e1, e2⟩ := List.cons.inj e
      obtain ⟨e2, e3⟩ := List.cons.inj e2
      exact ⟨b :: a :: gs, .swap a b gs, by rw [List.map_cons, List.map_cons, e1, e2, e3]⟩
  | trans _ _ ih1 ih2 =>
    intro gs e
    obtain ⟨r1, p1, q1⟩ := ih2 e
    obtain ⟨r2, p2, q2⟩ := ih1 q1
    exact ⟨r2, p2.trans p1, q2⟩
theorem valV_ix {k : Key} {v : V} : ∀ {kvs : List (Key × V)} {i : Nat}, (kvs.map (·.1)).Nodup → kvs[i]? = some (k, v) → valV kvs k = some v
  | [], _, _, h => by simp at h
  | kv :: kvs, 0, _, h => by
    cases h
    unfold valV
    rw [List.find?_cons_of_pos (by simp)]
    rfl
  | kv :: kvs, i + 1, nd, h => by
    obtain ⟨n1, n2⟩ := List.nodup_cons.mp nd
    have h : kvs[i]? = some (k, v) := h
    have ne : ¬ kv.1 = k := fun z => n1 (by show kv.1 ∈ _; rw [z]; exact List.mem_map.mpr ⟨_, List.mem_of_getElem? h, rfl⟩)
    have q := valV_ix n2 h
    unfold valV at *
    rw [List.find?_cons_of_neg (by simpa using ne)]
    exact q
theorem IsKvs.keys {av : Addr → Prop} {H : Hp} {kvs : List (Key × V)} {gs : List GRow} (h : IsKvs av H kvs gs) : kvs.map (·.1) = (gs.map (·.1)).map Sum.inr := by
  refine List.ext_getElem? fun i => ?_
  simp only [List.getElem?_map, List.map_map]
  cases hk : kvs[i]? with
  | none =>
    have := List.getElem?_eq_none_iff.mp hk
    rw [List.getElem?_eq_none (by have := h.1; omega)]
    rfl
  | some kv =>
    have il := (List.getElem?_eq_some_iff.mp hk).1
    have hg : gs[i]? = some (gs[i]'(by have := h.1; omega)) := List.getElem?_eq_getElem _
    obtain ⟨l, ys, e, _⟩ := h.2 i kv _ hk hg
    rw [hg, e]
    rfl
theorem ok_p_sorted_by_sign (T : Txt K mg) : FnOk P w K mg base CX0 1 T.f_p_sorted_by_sign T.d_p_sorted_by_sign ["goals_by_sign"] spSortG := by
  refine T.F_p_sorted_by_sign.ok sc_p_sorted_by_sign (fun vs H Q E h => ?_) (fun cdv A outer s H vs Q E hr h => ?_)
  · obtain ⟨_, v, _, rfl, _⟩ := h
    rfl
  · obtain ⟨av, v, gs, rfl, ⟨d, kvs, rfl, hd, ik⟩, nd, few, q⟩ := h
    refine ⟨_, (pss_one (ps_ret (pe_lc (own := [("sign", 1)]) (g := (gName 1)) (tt := tYes) (by rfl) sc_p_sorted_by_sign.nd (pi_list (pe_callB (cr_sortDT rfl) (by rfl) T.z_sorted (by decide +kernel) (pa_cons (pv 0) pa_nil))) (blkOk_by (own := [("sign", 1)]) (N := ["goals_by_sign", "sign"]) (sc := defScope s_p_sorted_by_sign) (by decide +kernel)) (fun _ _ _ _ _ => by exact (pg_name (i := 1) sc_p_sorted_by_sign.nd rfl (.inl rfl))) (fun _ _ _ _ _ => by exact pts_nil) (fun _ _ _ _ _ => by exact (pe_tup (pa_cons (pv 1) (pa_cons (pe_dget (units1 hr.units) (pv 0) (pv 1) (fun _ _ => rfl)) pa_nil))))))), ?_⟩
    have ndk : (kvs.map (·.1)).Nodup := by
      rw [ik.keys]
      exact List.pairwise_map.mpr (nd.imp fun h e => h (Sum.inr.inj e))
    refine ⟨_, rfl, d, kvs, gs.map (·.1), rfl, hd, ik.keys, by rw [List.length_map]; exact few, fun ws p0 pm up np => ?_⟩
    have s1 := same_upd (o := .lst (ws.map V.str)) np
    have e1 := @upd_same H p0 (.lst (ws.map V.str))
    generalize upd H p0 (.lst (ws.map V.str)) = H1 at *
    obtain ⟨rs, pr, er⟩ := perm_lift pm rfl
    have lw : ws.length = rs.length := by rw [← er, List.length_map]
    have lg : rs.length = gs.length := pr.length_eq
    refine ⟨p0, rfl, ⟨_, SqL.of e1⟩, fun D nD => lc_allW (walk_list (K := K) (a := p0) (xs := ws.map V.str)) (fun i y G => ∃ r, rs[i]? = some r ∧ IsOnA av G y r) (fun _ _ _ _ s ⟨r, a, b⟩ => ⟨r, a, b.mono s⟩) nD (fun H3 s3 => SqL.of (s3 _ _ e1)) (by rw [List.length_map]; omega) (fun i x H3 H4 kk hi s3 eD y hk => ?_) (fun H3 cs s3 e3 l3 r3 => ?_)⟩
    · obtain ⟨rfl, ex⟩ := y
      rw [List.getElem?_map] at ex
      rw [List.length_map, lw] at hi
      obtain ⟨r, hr⟩ : ∃ r, rs[i]? = some r := ⟨_, List.getElem?_eq_getElem hi⟩
      have ew : ws[i]? = some r.1 := by rw [← er, List.getElem?_map, hr]; rfl
      rw [ew] at ex
      cases ex
      obtain ⟨k, hk1⟩ := List.mem_iff_getElem?.mp (pr.mem_iff.mp (List.mem_of_getElem? hr))
      have kl := (List.getElem?_eq_some_iff.mp hk1).1
      have hkv : kvs[k]? = some (kvs[k]'(by have := ik.1; omega)) := List.getElem?_eq_getElem _
      obtain ⟨l, ys, ekv, hl, ay, na⟩ := ik.2 k _ r hkv hk1
      rw [ekv] at hkv
      have s3' := s1.trans (s3.trans (hid_same (a := D)))
      refine ⟨rfl, _, rfl, _, rfl, _, rfl, d, .ref l, rfl, ?_, ?_⟩
      · have g := DGet.k (k := .inr r.1) (s3' _ _ hd)
        rw [valV_ix ndk hkv] at g
        exact g
      · refine at_nil ⟨by show 2 ≤ sizeLine; decide, fun t nt => ?_⟩
        have u0 := same_upd (o := .tup [.str r.1, .ref l]) nt
        have sH := (s1.trans s3).trans (hid_mono (a := D) u0)
        refine hk _ _ u0 ⟨r, hr, t, l, ys, rfl, ?_, ?_, ?_, na⟩
        · exact hid_no (eD.imp fun _ e => u0 _ _ e) upd_same (fun _ => nofun)
        · exact sH _ _ hl
        · exact ay.imp fun _ _ h => h.mono sH
    · have s3' := s3.trans (hid_same (a := D))
      have Dp : H D = none := none_of s1 nD
      refine q H3 D cs rs (s1.trans s3') Dp e3 ?_ ⟨pr, by rw [er]; exact up⟩
      refine .of_ix (by rw [l3, List.length_map, lw]) fun i y hy => ?_
      obtain ⟨r, hr, ho⟩ := r3 i y hy
      exact ⟨r, hr, ho.mono hid_same⟩
end
end Fb
namespace Fb
open PySem PySem.Spec PyProof.Rows L2
section
variable {P : Program} {w : World} {K : PySem.W.Frag} {mg : Str → Option Value} {base : Heap}
theorem rise_uniq {α : Type} {lt : α → α → Prop} : ∀ {a b : List α}, a.Pairwise lt → b.Pairwise (fun u v => ¬ lt v u) → b.Perm a → b = a
  | [], b, _, _, p => List.Perm.eq_nil p
  | x :: a, [], _, _, p => absurd p.length_eq (by simp)
  | x :: a, y :: b, ha, hb, p => by
    have ha' := List.pairwise_cons.mp ha
    have hb' := List.pairwise_cons.mp hb
    have e : y = x := by
      rcases List.mem_cons.mp (p.mem_iff.mp List.mem_cons_self) with e | hy
      · exact e
      · rcases List.mem_cons.mp (p.symm.mem_iff.mp List.mem_cons_self) with e | hx
        · exact e.symm
        · exact absurd (ha'.1 y hy) (hb'.1 x hx)
    subst e
    rw [rise_uniq ha'.2 hb'.2 (List.Perm.cons_inv p)]
def sLt (a b : Str) : Prop := a.cps.toList < b.cps.toList
theorem rising_pair : ∀ {x : Str} {l : List Str}, risingS x l = true → (x :: l).Pairwise (fun u v => ¬ sLt v u)
  | x, [], _ => by simp
  | x, y :: l, h => by
    have h : (!ltCps y.cps.toList x.cps.toList && risingS y l) = true := h
    rw [Bool.and_eq_true, ltCps_eq] at h
    have h1 : ¬ sLt y x := fun z => by
      have e : decide (y.cps.toList < x.cps.toList) = true := decide_eq_true z
      rw [e] at h
      exact absurd h.1 (by decide)
    have ih := rising_pair h.2
    refine List.pairwise_cons.mpr ⟨fun v hv => ?_, ih⟩
    rcases List.mem_cons.mp hv with rfl | hv
    · exact h1
    · have h2 := (List.pairwise_cons.mp ih).1 v hv
      intro z
      -- v < x and not y < x, not v < y
      by_cases h3 : y.cps.toList < v.cps.toList
      · exact h1 (List.lt_trans h3 z)
      · have e : y.cps.toList = v.cps.toList := List.le_antisymm (List.not_lt.mp h2) (List.not_lt.mp h3)
        exact h1 (by unfold sLt at z ⊢; rw [e]; exact z)
theorem sorted_pair {l : List Str} (h : sortedS l = true) : l.Pairwise (fun u v => ¬ sLt v u) := by
  cases l with
  | nil => exact List.Pairwise.nil
  | cons x l => exact rising_pair h
end
end Fb
namespace Fb
open PySem PySem.Spec PyProof.Rows L2
section
theorem up_of {l : List Str} (nd : l.Nodup) (h : sortedS l = true) : l.Pairwise sLt := by
  refine ((List.pairwise_and_iff.mpr ⟨sorted_pair h, nd⟩).imp fun {a b} h => ?_)
  by_cases c : sLt a b
  · exact c
  · exact absurd (str_ext (List.le_antisymm (List.not_lt.mp h.1) (List.not_lt.mp c))) h.2
theorem sortedS_uniq {a b : List Str} (na : a.Nodup) (nb : b.Nodup) (ha : sortedS a = true) (hb : sortedS b = true) (h : ∀ z, z ∈ a ↔ z ∈ b) : a = b :=
  rise_uniq (up_of nb hb) (sorted_pair ha) ((List.perm_ext_iff_of_nodup na nb).mpr h)
end
end Fb
namespace Fb
open PySem PySem.Spec PyProof.Rows L2
section
theorem sortedG_uniq {a b gs : List GRow} (ha : SortedG a gs) (hb : SortedG b gs) (nd : (gs.map (·.1)).Nodup) : a = b := by
  have na : (a.map (·.1)).Nodup := ((ha.1.map (·.1)).nodup_iff).mpr nd
  have nb : (b.map (·.1)).Nodup := ((hb.1.map (·.1)).nodup_iff).mpr nd
  have pab : a.Perm b := ha.1.trans hb.1.symm
  have e : a.map (·.1) = b.map (·.1) := sortedS_uniq na nb ha.2 hb.2 fun z => (pab.map (·.1)).mem_iff
  refine List.ext_getElem? fun i => ?_
  have l : a.length = b.length := pab.length_eq
  cases h : a[i]? with
  | none =>
    rw [List.getElem?_eq_none (by have := List.getElem?_eq_none_iff.mp h; omega)]
  | some x =>
    have hi := (List.getElem?_eq_some_iff.mp h).1
    obtain ⟨j, hj⟩ := List.mem_iff_getElem?.mp (pab.mem_iff.mp (List.mem_of_getElem? h))
    have e1 : (b.map (·.1))[i]? = some x.1 := by rw [← e, List.getElem?_map, h]; rfl
    have e2 : (b.map (·.1))[j]? = some x.1 := by rw [List.getElem?_map, hj]; rfl
    have ij : i = j := (List.getElem?_inj (by rw [List.length_map]; omega) nb).mp (e1.trans e2.symm)
    rw [ij, hj]
structure GOk (G : Thing → List GRow) (Dom : Thing → Prop) : Prop where
  few : ∀ x, Dom x → (G x).length ≤ 4
  nd : ∀ x, Dom x → ((G x).map (·.1)).Nodup
  nm : ∀ x, Dom x → ∀ r ∈ G x, NmOk r.1
  pos : ∀ x, Dom x → ∀ r ∈ G x, ∃ g ∈ r.2, 0 < g.2
  bd : ∀ x, Dom x → ∀ r ∈ G x, (r.2.map (·.2)).sum < 2 ^ 4000
  on : ∀ x, Dom x → ∀ r ∈ G x, ∀ g ∈ r.2, 0 < g.2 → Dom g.1
theorem addG_sub : ∀ (gs : Goals) (f : List Thing) (t : Thing), t ∈ addG f gs → t ∈ f ∨ ∃ g ∈ gs, 0 < g.2 ∧ g.1 = t
  | [], _, _, h => .inl h
  | g :: gs, f, t, h => by
    unfold addG at h
    rcases addG_sub gs _ t h with h | ⟨g', h1, h2⟩
    · split at h
      · rename_i c
        rcases List.mem_append.mp h with h | h
        · exact .inl h
        · exact .inr ⟨g, List.mem_cons_self, c.1, (List.mem_singleton.mp h).symm⟩
      · exact .inl h
    · exact .inr ⟨g', List.mem_cons_of_mem _ h1, h2⟩
theorem addR_sub : ∀ (rs : List GRow) (f : List Thing) (t : Thing), t ∈ addR f rs → t ∈ f ∨ ∃ r ∈ rs, ∃ g ∈ r.2, 0 < g.2 ∧ g.1 = t
  | [], _, _, h => .inl h
  | r :: rs, f, t, h => by
    rcases addR_sub rs (addG f r.2) t h with h | ⟨r', h1, h2⟩
    · rcases addG_sub _ _ _ h with h | ⟨g, h1, h2⟩
      · exact .inl h
      · exact .inr ⟨r, List.mem_cons_self, g, h1, h2⟩
    · exact .inr ⟨r', List.mem_cons_of_mem _ h1, h2⟩
section
variable {G : Thing → List GRow} {Dom : Thing → Prop} {x : Thing}
theorem run_dom (ok : GOk G Dom) (dx : Dom x) : ∀ (n : Nat) (y : Thing), y ∈ runW G x n → Dom y
  | 0, y, h => by
    rw [List.mem_singleton.mp h]
    exact dx
  | n + 1, y, h => by
    cases e : (runW G x n)[n]? with
    | none =>
      rw [run_stop e] at h
      exact run_dom ok dx n y h
    | some z =>
      rw [run_succ e] at h
      rcases addR_sub _ _ _ h with h | ⟨r, h1, g, h2, h3, h4⟩
      · exact run_dom ok dx n y h
      · rw [← h4]
        exact ok.on z (run_dom ok dx n z (List.mem_of_getElem? e)) r h1 g h2 h3
theorem told_mem : ∀ (n : Nat) (e : Nat × GRow), e ∈ toldW G x n → e.1 < n ∧ ∃ y, (runW G x e.1)[e.1]? = some y ∧ e.2 ∈ G y
  | 0, e, h => by cases h
  | n + 1, e, h => by
    cases q : (runW G x n)[n]? with
    | none =>
      have : toldW G x (n + 1) = toldW G x n := by
        show (match (runW G x n)[n]? with | some y => toldW G x n ++ (G y).map (fun r => (n, r)) | none => toldW G x n) = _
        rw [q]
      rw [this] at h
      exact (told_mem n e h).imp (by omega) id
    | some z =>
      rw [told_succ q] at h
      rcases List.mem_append.mp h with h | h
      · exact (told_mem n e h).imp (by omega) id
      · obtain ⟨r, hr, rfl⟩ := List.mem_map.mp h
        exact ⟨Nat.lt_succ_self n, z, q, hr⟩
theorem told_len (ok : GOk G Dom) (dx : Dom x) : ∀ n, (toldW G x n).length ≤ 4 * n
  | 0 => Nat.le_refl 0
  | n + 1 => by
    have ih := told_len ok dx n
    cases q : (runW G x n)[n]? with
    | none =>
      have : toldW G x (n + 1) = toldW G x n := by
        show (match (runW G x n)[n]? with | some y => toldW G x n ++ (G y).map (fun r => (n, r)) | none => toldW G x n) = _
        rw [q]
      rw [this]
      omega
    | some z =>
      rw [told_succ q, List.length_append, List.length_map]
      have := ok.few z (run_dom ok dx n z (List.mem_of_getElem? q))
      omega
theorem told_nd (ok : GOk G Dom) (dx : Dom x) : ∀ n, ((toldW G x n).map fun e => (((e.1 : Nat) : Int), e.2.1)).Nodup
  | 0 => List.nodup_nil
  | n + 1 => by
    have ih := told_nd ok dx n
    cases q : (runW G x n)[n]? with
    | none =>
      have : toldW G x (n + 1) = toldW G x n := by
        show (match (runW G x n)[n]? with | some y => toldW G x n ++ (G y).map (fun r => (n, r)) | none => toldW G x n) = _
        rw [q]
      rw [this]
      exact ih
    | some z =>
      rw [told_succ q, List.map_append, List.map_map]
      refine List.nodup_append.mpr ⟨ih, ?_, fun a ha b hb => ?_⟩
      · have nz := ok.nd z (run_dom ok dx n z (List.mem_of_getElem? q))
        have : ((G z).map ((fun e : Nat × GRow => (((e.1 : Nat) : Int), e.2.1)) ∘ fun r => (n, r))) = ((G z).map (·.1)).map fun s => (((n : Nat) : Int), s) := by
          rw [List.map_map]
          rfl
        rw [this]
        exact List.pairwise_map.mpr (nz.imp fun h e => h (Prod.mk.inj e).2)
      · obtain ⟨e, he, rfl⟩ := List.mem_map.mp ha
        obtain ⟨r, hr, rfl⟩ := List.mem_map.mp hb
        have := (told_mem n e he).1
        intro z
        have z1 : ((e.1 : Nat) : Int) = ((n : Nat) : Int) := (Prod.mk.inj z).1
        omega
theorem sumG_le (gs : Goals) (t : Thing) : sumG gs t ≤ (gs.map (·.2)).sum := by
  unfold sumG
  induction gs with
  | nil => exact Nat.le_refl 0
  | cons g gs ih =>
    by_cases h : g.1 = t
    · rw [List.filter_cons_of_pos (by rw [decide_eq_true_iff]; exact h), List.map_cons, List.map_cons, List.sum_cons, List.sum_cons]
      omega
    · rw [List.filter_cons_of_neg (by rw [decide_eq_true_iff]; exact h), List.map_cons, List.sum_cons]
      omega
theorem sumG_ge {gs : Goals} {g : Thing × Nat} (h : g ∈ gs) : g.2 ≤ sumG gs g.1 := by
  unfold sumG
  have hm : g.2 ∈ (gs.filter fun u => decide (u.1 = g.1)).map (·.2) := List.mem_map.mpr ⟨g, List.mem_filter.mpr ⟨h, decide_eq_true rfl⟩, rfl⟩
  generalize (gs.filter fun u => decide (u.1 = g.1)).map (·.2) = l at hm
  induction l with
  | nil => cases hm
  | cons a l ih =>
    rw [List.sum_cons]
    rcases List.mem_cons.mp hm with e | hm
    · omega
    · have := ih hm
      omega
/-- a goal of a row told is found -/
theorem told_on {m : Nat} {e : Nat × GRow} (he : e ∈ toldW G x m) {g : Thing × Nat} (hg : g ∈ e.2.2) (p : 0 < g.2) : g.1 ∈ runW G x m := by
  obtain ⟨lt, y, hy, hr⟩ := told_mem m e he
  have h1 : g.1 ∈ runW G x (e.1 + 1) := by
    rw [run_succ hy]
    exact addR_mem hr hg p
  exact (run_pre (by omega)).subset h1
theorem found_ok (ok : GOk G Dom) (dx : Dom x) {m : Nat} (a : AllW G x m) : StpsOk m (stepsW G x m) := by
  obtain ⟨a1, a2⟩ := a
  have m1 : 1 ≤ m := by
    have := (run_pre (G := G) (x := x) (Nat.zero_le m)).length_le
    rw [a1] at this
    exact this
  refine ⟨m1, a2, ?_, fun s hs => ?_, ?_⟩
  · unfold stepsW
    rw [List.length_map]
    have := told_len ok dx m
    omega
  · obtain ⟨e, he, rfl⟩ := List.mem_map.mp hs
    obtain ⟨lt, y, hy, hr⟩ := told_mem m e he
    have dy := run_dom ok dx e.1 y (List.mem_of_getElem? hy)
    refine ⟨lt, ok.nm y dy e.2 hr, ?_, ?_, fun n hn => ?_⟩
    · show (wtsG (runW G x m) e.2.2).length = m
      unfold wtsG
      rw [List.length_map, a1]
    · obtain ⟨g, hg, p⟩ := ok.pos y dy e.2 hr
      refine ⟨sumG e.2.2 g.1, List.mem_map.mpr ⟨g.1, told_on he hg p, rfl⟩, ?_⟩
      have := sumG_ge hg
      omega
    · obtain ⟨t, _, rfl⟩ := List.mem_map.mp hn
      exact Nat.lt_of_le_of_lt (sumG_le _ _) (ok.bd y dy e.2 hr)
  · have : (stepsW G x m).map Stp.key = (toldW G x m).map fun e => (((e.1 : Nat) : Int), e.2.1) := by
      unfold stepsW
      rw [List.map_map]
      rfl
    rw [this]
    exact told_nd ok dx m
end
end
end Fb
namespace Fb
open PySem PySem.Spec PyProof.Rows L2
section
open NdefX LamX
variable {P : Program} {w : World} {K : PySem.W.Frag} {mg : Str → Option Value} {base : Heap}
def tX1v (X : Cx) (i : Nat) (n : Int) : TE := fun σ H Q => ∃ y, σ[i]? = some (some y) ∧ ∃ b k, y = .ref b ∧ SqT X.K H b (k.map kV) ∧ ∀ d u H3, H d = none → RelV (.int n) u → H3 d = some (DXo X.prog X.w d [(k, b, u)]) → (∀ c, c ≠ d → H3 c = H c) → Q (.ref d) H3
theorem pe_x1d {X : Cx} {k v : Expr} {pos : Pos} {i : Nat} {n : Int} (hu : X.A.units < cLine) (hk : PE X k (tVar i)) (hv : PE X v (tC (.int n))) (_ : 0 = 0) (_ : 0 = 0) (_ : [0] ≠ ([] : List Nat)) (_ : 1 ≤ 15) : PE X (.Dict [some k] [v] pos) (tX1v X i n) := by
  refine ⟨fun pins s σ H Q I h => (pe_x1 hu hk hv).run pins s σ H Q I ?_⟩
  obtain ⟨y, hy, b, k, rfl, sq, q⟩ := h
  refine fun d nd => ⟨_, hy, b, k, upd_same, rfl, ?_, fun u ru => q d u _ nd ru ?_ fun c hc => ?_⟩
  · exact sq.imp (fun r => r.imp (same_upd nd _ _) fun ⟨o, z⟩ => ⟨o, same_upd nd _ _ z⟩) id
  · exact upd_same
  · rw [upd_ne hc, upd_ne hc]
/-- a row told: a number, a sign, goals -/
def IsRw (av : Addr → Prop) (H : Hp) (v : V) (e : Nat × GRow) : Prop := ∃ t lg ys, v = .ref t ∧ H t = some (.tup [.int (e.1 : Nat), .str e.2.1, .ref lg]) ∧ H lg = some (.lst ys) ∧ AllAre (IsGoal H) ys e.2.2 ∧ ¬ av lg
/-- what is no number's dict and not to be avoided stays -/
def Keep (av : Addr → Prop) (H H' : Hp) : Prop := ∀ b o, H b = some o → ¬ av b → (∀ φ, o ≠ .ext φ) → H' b = some o
theorem Keep.of {av : Addr → Prop} {H H' : Hp} (s : Same H H') : Keep av H H' := fun _ _ e _ _ => s _ _ e
theorem Keep.trans {av : Addr → Prop} {H H1 H2 : Hp} (a : Keep av H H1) (b : Keep av H1 H2) : Keep av H H2 := fun c o e n x => b c o (a c o e n x) n x
theorem goal_keep {av : Addr → Prop} {H H' : Hp} (k : Keep av H H') (hv : ∀ a, av a → ∃ xs, H a = some (.lst xs)) {v : V} {g : Thing × Nat} (h : IsGoal H v g) : IsGoal H' v g := by
  have tp : ∀ (c : Addr) (zs : List V), H c = some (.tup zs) → H' c = some (.tup zs) := fun c zs e => k c _ e (fun a => by
    obtain ⟨xs, z⟩ := hv c a
    rw [e] at z
    cases z) (fun _ => nofun)
  obtain ⟨t, y, e1, h1, u, e2, h2⟩ := h
  exact ⟨t, y, e1, tp _ _ h1, u, e2, tp _ _ h2⟩
theorem IsRw.keep {av : Addr → Prop} {H H' : Hp} (k : Keep av H H') (hv : ∀ a, av a → ∃ xs, H a = some (.lst xs)) {v : V} {e : Nat × GRow} (h : IsRw av H v e) : IsRw av H' v e := by
  obtain ⟨t, lg, ys, e1, h1, h2, h3, h4⟩ := h
  refine ⟨t, lg, ys, e1, k _ _ h1 (fun a => ?_) (fun _ => nofun), k _ _ h2 h4 (fun _ => nofun), h3.imp fun _ _ h => goal_keep k hv h, h4⟩
  obtain ⟨xs, z⟩ := hv t a
  rw [h1] at z
  cases z
theorem IsOnA.keep {av : Addr → Prop} {H H' : Hp} (k : Keep av H H') (hv : ∀ a, av a → ∃ xs, H a = some (.lst xs)) {v : V} {r : GRow} (h : IsOnA av H v r) : IsOnA av H' v r := by
  obtain ⟨t, lg, ys, e1, h1, h2, h3, h4⟩ := h
  refine ⟨t, lg, ys, e1, k _ _ h1 (fun a => ?_) (fun _ => nofun), k _ _ h2 h4 (fun _ => nofun), h3.imp fun _ _ h => goal_keep k hv h, h4⟩
  obtain ⟨xs, z⟩ := hv t a
  rw [h1] at z
  cases z
theorem IsRw.mono {av : Addr → Prop} {H H' : Hp} {v : V} {e : Nat × GRow} (h : IsRw av H v e) (s : Same H H') : IsRw av H' v e := by
  obtain ⟨t, lg, ys, e1, h1, h2, h3, h4⟩ := h
  exact ⟨t, lg, ys, e1, s _ _ h1, s _ _ h2, h3.imp fun _ _ h => h.mono s, h4⟩
theorem NumAt.keep {H H' : Hp} {d l : Addr} {xs : List Ent} {ys : List V} {f : List Thing} (n : NumAt P w K H d l xs ys f) (e1 : H' d = H d) (e2 : H' l = H l) (tp : ∀ b, (∃ zs, Rd H b (.tup zs)) → H' b = H b) : NumAt P w K H' d l xs ys f :=
  ⟨e1.trans n.hd, e2.trans n.hl, fun x hx => sqT_off (n.ks x hx) tp, n.ay.imp fun _ _ ⟨c, e, h⟩ => ⟨c, e, sqT_off h tp⟩, n.ex, n.ev⟩
/-- the state of the walk -/
structure FInv (P : Program) (w : World) (K : PySem.W.Frag) (H F : Hp) (d l sl : Addr) (xs : List Ent) (ys ss : List V) (f : List Thing) (tl : List (Nat × GRow)) : Prop where
  sH : Same H F
  n : NumAt P w K F d l xs ys f
  le : f.length ≤ 12
  nd : f.Nodup
  hs : F sl = some (.lst ss)
  at_ : AllAre (IsRw (fun a => a = l ∨ a = sl) F) ss tl
theorem FInv.lists {H F : Hp} {d l sl : Addr} {xs : List Ent} {ys ss : List V} {f : List Thing} {tl : List (Nat × GRow)} (i : FInv P w K H F d l sl xs ys ss f tl) : ∀ a, (a = l ∨ a = sl) → ∃ xs, F a = some (.lst xs) := fun a h => by
  rcases h with rfl | rfl
  · exact ⟨_, i.n.hl⟩
  · exact ⟨_, i.hs⟩
theorem FInv.same {H F F' : Hp} {d l sl : Addr} {xs : List Ent} {ys ss : List V} {f : List Thing} {tl : List (Nat × GRow)} (i : FInv P w K H F d l sl xs ys ss f tl) (s : Same F F') : FInv P w K H F' d l sl xs ys ss f tl :=
  ⟨i.sH.trans s, i.n.same s, i.le, i.nd, s _ _ i.hs, i.at_.imp fun _ _ h => h.mono s⟩
theorem found_body (T : Txt K mg) {g : Addr} {cdg : Value} {A : Around} {outer : List Env} {s : Shared} {H : Hp} {E : XK} {F : NF} {f : Addr} {fr : List Str} {ws : List (Option V)} {sp : List (Option V) → Sp} {Gd G : Thing → List GRow} {Dom : Thing → Prop} {x0 : Thing} {u0 : Addr} {Q : VK}
    (hr : Room 8 (A.deeper (envOfC "found_machine" (defScope s_p_found_machine) s.heap.objs.size g cdg))) (Fn : NOk P w K mg base CX0 4 f F ["thing"] fr sp) (C : CellsAt F.cl fr ws s.heap H)
    (hsp : ∀ (F' : Hp) (v : V) (x : Thing) (av : Addr → Prop) (Q : VK), Same H F' → (∀ a, av a → H a = none ∧ ∃ o, F' a = some o) → IsThK K F' v x → Dom x → (∀ H' u, Same F' H' → IsGDict av H' u (Gd x) → Q u H') → sp ws [v] F' Q E0)
    (hF : H f = some (FnO f F)) (hc : H F.c = some (CodeO F.c F.qual)) (ix0 : IsThK K H (.ref u0) x0) (gok : GOk G Dom) (d0 : Dom x0) (srt : ∀ x, Dom x → SortedG (G x) (Gd x))
    (q1 : ∀ m, AllW G x0 m → ∀ H' v out, Same H H' → IsMach T.c_Machine H' v m out → SortedOf (stepsW G x0 m) out → Q v H') (q2 : ManyW G x0 → ∀ H', Same H H' → E (.ref T.c_TooMany) none H') :
    ∃ t, PSs (cxOf (L2.CX P w) P w K mg base ["first", "goals_of", "numbers", "found", "steps", "at", "sign", "goals", "room"] "found_machine" (defScope s_p_found_machine) g cdg A outer s H E) (defBody s_p_found_machine) t ∧
      t { nx := fun _ H' => Q .non H', rt := Q } (L2.start ["first", "goals_of", "numbers", "found", "steps", "at", "sign", "goals", "room"] [.ref u0, .ref f]) H := by
  refine ⟨_, (pss_cons (ps_set (i := 2) sc_p_found_machine.nd rfl (.inr rfl) (pe_x1d hr.units0 (pv 0) pe_int (by rfl) (by rfl) (fun z => by cases z) (by decide)))
 (pss_cons (ps_set (i := 3) sc_p_found_machine.nd rfl (.inl rfl) (pe_lst (pa_cons (pv 0) pa_nil)))
 (pss_cons (ps_set (i := 4) sc_p_found_machine.nd rfl (.inl rfl) (pe_lst pa_nil))
 (pss_cons (ps_set (i := 5) sc_p_found_machine.nd rfl (.inl rfl) pe_int)
 (pss_cons (ps_while (passes_of rfl) (pt_cmpR op_lt (pv 5) (pe_callB call_len_seq (by rfl) T.z_len (by decide +kernel) (pa_cons (pv 3) pa_nil)) (nomark _))
  (pss_cons (ps_for (passes_of rfl) rfl (pi_list (pe_call (ok_p_sorted_by_sign T) (hr.mono (by decide)) (by rfl) T.g_p_sorted_by_sign T.F_p_sorted_by_sign.kp T.b_p_sorted_by_sign .nil pass0 (pa_cons (pe_callg (i := 1) Fn C rfl hr (by decide) pass0 rfl (.inl rfl) (pa_cons (pe_ix ix_list (pv 3) (pv 5) (fun _ _ => rfl)) pa_nil)) pa_nil))) (pg_tup (by rfl) (pgs_cons (pg_name (i := 6) sc_p_found_machine.nd rfl (.inl rfl)) (pgs_cons (pg_name (i := 7) sc_p_found_machine.nd rfl (.inl rfl)) pgs_nil)))
  (pss_cons (ps_expr (pe_call (ok_p_number_new T) (hr.mono (by decide)) (by rfl) T.g_p_number_new T.F_p_number_new.kp T.b_p_number_new .nil (passes_call (takes_of (E := E) rfl rfl rfl rfl) fun _ _ _ _ h => h) (pa_cons (pv 2) (pa_cons (pv 3) (pa_cons (pv 7) pa_nil)))))
 (pss_one (ps_expr (pe_bm PySem.F.plainAttrs_list PySem.F.slot_list_append PySem.F.type_list_append mt_append (pv 4) (pa_cons (pe_tup (pa_cons (pv 5) (pa_cons (pv 6) (pa_cons (pv 7) pa_nil)))) pa_nil))))))
 (pss_one (ps_aug (i := 5) sc_p_found_machine.nd rfl (.inl rfl) pe_int ip_add))))
 (pss_one (ps_ret (pe_make T.M_Machine (ok_m_Machine_init T) (hr.mono (by decide)) (by rfl) T.g_Machine T.b_m_Machine_init .nil pass0 (pa_cons (pe_callB call_len_seq (by rfl) T.z_len (by decide +kernel) (pa_cons (pv 3) pa_nil)) (pa_cons (pe_lc (own := [("room", 8), ("sign", 6), ("goals", 7)]) (g := (gTup K 3 (gCons (gName 8) (gCons (gName 6) (gCons (gName 7) gNil))))) (tt := tYes) (by rfl) sc_p_found_machine.nd (pi_list (pv 4)) (blkOk_by (own := [("room", 8), ("sign", 6), ("goals", 7)]) (N := ["first", "goals_of", "numbers", "found", "steps", "at", "sign", "goals", "room"]) (sc := defScope s_p_found_machine) (by decide +kernel)) (fun _ _ _ _ _ => by exact (pg_tup (by rfl) (pgs_cons (pg_name (i := 8) sc_p_found_machine.nd rfl (.inl rfl)) (pgs_cons (pg_name (i := 6) sc_p_found_machine.nd rfl (.inl rfl)) (pgs_cons (pg_name (i := 7) sc_p_found_machine.nd rfl (.inl rfl)) pgs_nil))))) (fun _ _ _ _ _ => by exact pts_nil) (fun _ _ _ _ _ => by exact (pe_tup (pa_cons (pv 8) (pa_cons (pv 6) (pa_cons (pe_call (ok_p_weights_of (P := P) (w := w) (base := base) T) (hr.mono (by decide)) (by rfl) T.g_p_weights_of T.F_p_weights_of.kp T.b_p_weights_of .nil pass0 (pa_cons (pv 7) (pa_cons (pv 2) pa_nil))) pa_nil)))))) pa_nil)))))))))), ?_⟩
  obtain ⟨u0', eu, hu0⟩ := id ix0
  cases eu
  refine ⟨_, rfl, u0, kT x0, rfl, hu0, fun d val H1 nd0 rv e1 off1 => ?_⟩
  have e1 : H1 d = some (DXo P w d [(kT x0, u0, val)]) := e1
  have s1 : Same H H1 := fun b o e => by rw [off1 b (fun z => by rw [z, nd0] at e; cases e)]; exact e
  refine ⟨_, rfl, by show 1 ≤ sizeLine; decide, fun l nl => ?_⟩
  have s2 := same_upd (o := .lst [.ref u0]) nl
  have e2 := @upd_same H1 l (.lst [.ref u0])
  generalize hH2 : upd H1 l (.lst [.ref u0]) = H2 at *
  refine ⟨Nat.zero_le _, fun sl nsl => ?_⟩
  have s3 := same_upd (o := .lst []) nsl
  have e3 := @upd_same H2 sl (.lst [])
  generalize hH3 : upd H2 sl (.lst []) = H3 at *
  have sA := s1.trans (s2.trans s3)
  have nl0 : H l = none := none_of s1 nl
  have ns0 : H sl = none := none_of (s1.trans s2) nsl
  have sll : sl ≠ l := fun z => by rw [z, e2] at nsl; cases nsl
  have sld : sl ≠ d := fun z => by rw [z, s2 _ _ e1] at nsl; cases nsl
  have i0 : FInv P w K H H3 d l sl [(kT x0, u0, val)] [.ref u0] [] (runW G x0 0) (toldW G x0 0) := by
    refine ⟨sA, ⟨s3 _ _ (s2 _ _ e1), s3 _ _ e2, fun x hx => ?_, .cons (ix0.mono sA) .nil, rfl, fun i x hx => ?_⟩, by show 1 ≤ 12; decide, run_nd 0, e3, .nil⟩
    · rw [List.mem_singleton.mp hx]
      obtain ⟨u', eu, h⟩ := ix0.mono sA
      cases eu
      exact h
    · match i with
      | 0 => cases hx; exact rv
      | i + 1 => cases hx
  refine ⟨fun c σ F => ∃ (n : Nat) (z6 z7 z8 : Option V) (xs : List Ent) (ys ss : List V), σ = [some (.ref u0), some (.ref f), some (.ref d), some (.ref l), some (.ref sl), some (.int (n : Nat)), z6, z7, z8] ∧ c = 13 - n ∧ n ≤ (runW G x0 n).length ∧ FInv P w K H F d l sl xs ys ss (runW G x0 n) (toldW G x0 n),
    ⟨_, 0, none, none, none, _, _, _, rfl, rfl, Nat.zero_le _, i0⟩, fun c σ F hW => ?_⟩
  obtain ⟨n, z6, z7, z8, xs, ys, ss, rfl, rfl, nle, iv⟩ := hW
  have ly := iv.n.len.2
  refine ⟨_, rfl, _, rfl, l, _, rfl, .inl (SqL.of iv.n.hl), _, _, rfl, rfl, _, rfl, ite2 (fun h => ?_) (fun h => ?_)⟩
  · have hn : n < (runW G x0 n).length := by
      have h' : (n : Int) < ((ys.length : Nat) : Int) := of_decide_eq_true h
      omega
    have le12 := iv.le
    obtain ⟨y, hy⟩ : ∃ y, (runW G x0 n)[n]? = some y := ⟨_, List.getElem?_eq_getElem hn⟩
    have dy := run_dom gok d0 n y (List.mem_of_getElem? hy)
    refine ⟨fun σ' F' => ∃ (z6 z7 z8 : Option V) (xs : List Ent) (ys ss : List V), σ' = [some (.ref u0), some (.ref f), some (.ref d), some (.ref l), some (.ref sl), some (.int ((n : Int) + 1)), z6, z7, z8] ∧ FInv P w K H F' d l sl xs ys ss (runW G x0 (n + 1)) (toldW G x0 (n + 1)), fun σ' F' h => ?_, ?_⟩
    · obtain ⟨z6, z7, z8, xs, ys, ss, rfl, i'⟩ := h
      have := (run_pre1 (G := G) (x := x0) n).length_le
      exact ⟨13 - (n + 1), by omega, n + 1, _, _, _, _, _, _, rfl, rfl, by omega, i'⟩
    · have hv : ys[n]? = some (ys[n]'(by omega)) := List.getElem?_eq_getElem _
      have iy : IsThK K F (ys[n]'(by omega)) y := iv.n.ay.2 n _ y hv hy
      refine ⟨rfl, iv.sH _ _ hF, _, rfl, _, rfl, l, ys, (n : Nat), _, rfl, rfl, SqL.of iv.n.hl, atI_nat hv, iv.sH _ _ hF, iv.sH _ _ hc, ?_⟩
      refine hsp F _ y (fun a => a = l ∨ a = sl) _ iv.sH (fun a ha => ?_) iy dy fun F0 u s0 ig => ?_
      · obtain ⟨xs', e⟩ := iv.lists a ha
        refine ⟨?_, _, e⟩
        rcases ha with rfl | rfl
        · exact nl0
        · exact ns0
      have pG := srt y dy
      have ndG : ((Gd y).map (·.1)).Nodup := ((pG.1.map (·.1)).nodup_iff).mp (gok.nd y dy)
      have lG : (G y).length = (Gd y).length := pG.1.length_eq
      have fG := gok.few y dy
      refine ⟨_, u, Gd y, rfl, ig, ndG, by omega, fun F1 p zs rs sf np ep azs so => ?_⟩
      obtain rfl : rs = G y := sortedG_uniq so pG ndG
      have i1 := iv.same (s0.trans sf)
      have npl : p ≠ l := fun z => by rw [z, s0 _ _ iv.n.hl] at np; cases np
      have nps : p ≠ sl := fun z => by rw [z, s0 _ _ iv.hs] at np; cases np
      have lz : zs.length = (G y).length := azs.1
      refine ⟨p, rfl, ⟨_, SqL.of ep⟩, for_list (K := K) (a := p) (xs := zs) (fun j σ F' => ∃ (z6 z7 z8 : Option V) (xs : List Ent) (ys ss : List V), σ = [some (.ref u0), some (.ref f), some (.ref d), some (.ref l), some (.ref sl), some (.int (n : Nat)), z6, z7, z8] ∧ Keep (fun a => a = l ∨ a = sl) F1 F' ∧ FInv P w K H F' d l sl xs ys ss (addR (runW G x0 n) ((G y).take j)) (toldW G x0 n ++ ((G y).take j).map fun r => (n, r)))
        ⟨_, _, _, xs, ys, ss, rfl, fun _ _ e _ _ => e, ?_⟩ (fun j σ F' _ h => ?_) (fun j v σ F' hx h => ?_) (fun σ F' h => ?_)⟩
      · rw [List.take_zero, List.map_nil, List.append_nil]
        exact i1
      · obtain ⟨_, _, _, _, _, _, _, kp, _⟩ := h
        exact SqL.of (kp _ _ ep (fun a => a.elim npl nps) (fun _ => nofun))
      · obtain ⟨z6, z7, z8, xs', ys', ss', rfl, kp, i'⟩ := h
        obtain ⟨r, hr, io⟩ := azs.at hx
        obtain ⟨t, lg, gys, rfl, ht, hlg, ag, na⟩ := io.keep kp i1.lists
        have er : addR (runW G x0 n) ((G y).take (j + 1)) = addG (addR (runW G x0 n) ((G y).take j)) r.2 := addR_take hr
        have lgl : lg ≠ l := fun z => na (.inl z)
        have lgs : lg ≠ sl := fun z => na (.inr z)
        have lgd : lg ≠ d := fun z => by rw [z, i'.n.hd] at hlg; cases hlg
        have dn : H d = none := nd0
        refine ⟨t, _, rfl, .inl (.inl ht), rfl, _, _, rfl, _, _, rfl, rfl, ?_⟩
        refine ⟨_, rfl, _, rfl, _, rfl, d, l, lg, xs', ys', gys, _, r.2, rfl, i'.n, i'.nd, i'.le, hlg, lgl, ag, fun le2 F5 xs5 ys5 off n5 => ?_, fun gt F5 off => ?_⟩
        · have sl5 : F5 sl = some (.lst ss') := by rw [off sl sld sll]; exact i'.hs
          refine ⟨_, rfl, .inl ⟨rfl, _, SqL.of sl5⟩, _, rfl, _, rfl, _, rfl, by show 3 ≤ sizeLine; decide, fun t3 nt3 => ?_⟩
          have u3 := same_upd (o := .tup [.int (n : Nat), .str r.1, .ref lg]) nt3
          have f3 := @upd_same F5 t3 (.tup [.int (n : Nat), .str r.1, .ref lg])
          have n6 := n5.same u3
          have sl6 := u3 _ _ sl5
          have lg5 : F5 lg = some (.lst gys) := by rw [off lg lgd lgl]; exact hlg
          have lg6 := u3 _ _ lg5
          have t3s : t3 ≠ sl := fun z => by rw [z, sl5] at nt3; cases nt3
          have kp5 : Keep (fun a => a = l ∨ a = sl) F' F5 := fun b o e nb nx => by
            rw [off b (fun z => nx _ (by rw [z, i'.n.hd] at e; exact (Option.some.inj e).symm)) (fun z => nb (.inl z))]
            exact e
          have kp6 : Keep (fun a => a = l ∨ a = sl) F' (upd F5 t3 (.tup [.int (n : Nat), .str r.1, .ref lg])) := kp5.trans (Keep.of u3)
          have sF5 : Same H F5 := fun b o e => by
            rw [off b (fun z => by rw [z, dn] at e; cases e) (fun z => by rw [z, nl0] at e; cases e)]
            exact i'.sH _ _ e
          have sF6 := sF5.trans u3
          generalize upd F5 t3 (.tup [.int (n : Nat), .str r.1, .ref lg]) = F6 at *
          have lss := i'.at_.1
          have lt4 := told_len gok d0 n
          rw [List.length_append, List.length_map] at lss
          have ltk : ((G y).take j).length ≤ 4 := by rw [List.length_take]; omega
          refine at_nil ⟨sl, ss', _, rfl, rfl, sl6, by rw [sizeLine_eq]; omega, ?_⟩
          have kp7 : Keep (fun a => a = l ∨ a = sl) F' (upd F6 sl (.lst (ss' ++ [.ref t3]))) := kp6.trans (fun b o e nb _ => by rw [upd_ne (fun z => nb (.inr z))]; exact e)
          refine ⟨_, _, _, xs5, ys5, ss' ++ [.ref t3], rfl, kp.trans kp7, ⟨fun b o e => ?_, ?_, ?_, ?_, upd_same, ?_⟩⟩
          · rw [upd_ne (fun z => by rw [z, ns0] at e; cases e)]
            exact sF6 _ _ e
          · rw [er]
            refine n6.keep (upd_ne sld.symm) (upd_ne sll.symm) fun b ⟨zs, rr⟩ => upd_ne fun z => ?_
            rcases rr with rr | ⟨o, rr⟩ <;> rw [z, sl6] at rr <;> cases rr
          · rw [er]
            exact le2
          · rw [er]
            exact addG_nd _ _ i'.nd
          · rw [List.take_add_one, hr, Option.toList_some, List.map_append, ← List.append_assoc]
            exact AllAre.snoc (i'.at_.imp fun _ _ h => h.keep kp7 i'.lists) ⟨t3, lg, gys, rfl, by rw [upd_ne t3s]; exact f3, by rw [upd_ne lgs]; exact lg6, ag.imp fun _ _ h => goal_keep kp7 i'.lists h, na⟩
        · refine q2 ⟨n + 1, ?_⟩ F5 fun b o e => ?_
          · have := (addR_take_pre (G y) (runW G x0 n) (j + 1)).length_le
            rw [er] at this
            rw [run_succ hy]
            omega
          · rw [off b (fun z => by rw [z, dn] at e; cases e) (fun z => by rw [z, nl0] at e; cases e)]
            exact i'.sH _ _ e
      · obtain ⟨z6, z7, z8, xs', ys', ss', rfl, kp, i'⟩ := h
        rw [lz, List.take_length, ← run_succ hy, ← told_succ hy] at i'
        refine ⟨_, rfl, _, _, rfl, rfl, ?_⟩
        exact ⟨_, _, _, xs', ys', ss', rfl, i'⟩
  · have hn : n = (runW G x0 n).length := by
      have h' : ¬ (n : Int) < ((ys.length : Nat) : Int) := fun z => h (decide_eq_true z)
      omega
    obtain rfl : n = ys.length := by omega
    generalize en : ys.length = n at *
    have aw : AllW G x0 n := ⟨hn.symm, by have := iv.le; omega⟩
    have sok := found_ok gok d0 aw
    have lss := iv.at_.1
    refine ⟨_, rfl, l, _, rfl, .inl (SqL.of iv.n.hl), _, rfl, sl, rfl, ⟨_, SqL.of iv.hs⟩, fun D nD => lc_allW (walk_list (K := K) (a := sl) (xs := ss)) (fun i y G' => ∃ st, (stepsW G x0 n)[i]? = some st ∧ IsStp G' y st) (fun _ _ _ _ s ⟨st, a, b⟩ => ⟨st, a, b.mono s⟩) nD (fun H3 s3 => SqL.of (s3 _ _ iv.hs)) ?_ (fun i x F3 F4 kk hi s3 eD y hk => ?_) (fun F3 cs s3 e3 l3 r3 => ?_)⟩
    · have := told_len gok d0 n
      have := aw.2
      omega
    · obtain ⟨rfl, ex⟩ := y
      obtain ⟨e, he, ir⟩ := iv.at_.at ex
      have sD := s3.trans (hid_same (a := D))
      obtain ⟨t, lg, gys, rfl, ht, hlg, ag, na⟩ := ir.mono sD
      refine ⟨t, _, rfl, .inl (.inl ht), rfl, _, _, rfl, _, _, rfl, _, _, rfl, rfl, rfl, ?_⟩
      refine ⟨_, rfl, _, rfl, _, rfl, _, rfl, lg, d, l, xs, ys, gys, runW G x0 n, e.2.2, rfl, iv.n.same sD, run_nd n, iv.le, hlg, ag, fun g hg p => told_on (List.mem_of_getElem? he) hg p, fun H5 p5 s5 e5 => at_nil ⟨by show 3 ≤ sizeLine; decide, fun t6 nt6 => ?_⟩⟩
      have u6 := same_upd (o := .tup [.int (e.1 : Nat), .str e.2.1, .ref p5]) nt6
      have eD6 := eD.imp fun _ e => (s5.trans u6) _ _ e
      refine hk _ _ (s5.trans u6) ⟨⟨e.1, e.2.1, wtsG (runW G x0 n) e.2.2⟩, ?_, t6, p5, rfl, hid_no eD6 upd_same (fun _ => nofun), hid_no eD6 (u6 _ _ e5) (fun _ => nofun)⟩
      unfold stepsW
      rw [List.getElem?_map, he]
      rfl
    · have s3' := s3.trans (hid_same (a := D))
      have aS : AllAre (IsStp F3) cs (stepsW G x0 n) := .of_ix (by rw [l3]; unfold stepsW; rw [List.length_map]; exact lss) fun i y hy => (r3 i y hy).imp fun _ h => ⟨h.1, h.2.mono hid_same⟩
      subst en
      exact at_nil (mk_mach ⟨D, cs, rfl, e3, aS⟩ sok fun H5 x o1 s5 _ im so => q1 _ aw H5 _ o1 (iv.sH.trans (s3'.trans s5)) im so)
end
end Fb
namespace Fb
open PySem PySem.Spec PyProof.Rows L2
section
open LamX
def noT (H : Hp) : Hp := fun b => match H b with
  | some (.tbl _) => none
  | x => x
theorem noT_at {H : Hp} {b : Addr} {o : HO} (h : H b = some o) (n : ∀ ps, o ≠ .tbl ps) : noT H b = some o := by
  unfold noT
  rw [h]
  cases o <;> first | rfl | exact absurd rfl (n _)
theorem noT_of {H : Hp} {b : Addr} {o : HO} (h : noT H b = some o) : H b = some o ∧ ∀ ps, o ≠ .tbl ps := by
  unfold noT at h
  cases e : H b with
  | none =>
    rw [e] at h
    cases h
  | some x =>
    rw [e] at h
    cases x <;> first | (cases h; exact ⟨rfl, fun _ => nofun⟩) | cases h
theorem noT_trans {H H' H2 : Hp} (s : Same (noT H) H') (e : ExtN H' H2) : Same (noT H) H2 := fun b o h => e b o (s b o h) (noT_of h).2
theorem noT_lst {H : Hp} {b : Addr} {xs : List V} (h : H b = some (.lst xs)) : noT H b = some (.lst xs) := noT_at h fun _ => nofun
theorem noT_tup {H : Hp} {b : Addr} {xs : List V} (h : H b = some (.tup xs)) : noT H b = some (.tup xs) := noT_at h fun _ => nofun
theorem IsStp.noT {H : Hp} {v : V} {s : Stp} (h : IsStp H v s) : IsStp (noT H) v s := by
  obtain ⟨t, wa, e, h1, h2⟩ := h
  exact ⟨t, wa, e, noT_tup h1, noT_tup h2⟩
theorem IsMach.noT {C : Addr} {H : Hp} {v : V} {m : Nat} {out : List Stp} (h : IsMach C H v m out) : IsMach C (noT H) v m out := by
  obtain ⟨p, dx, r, svs, e, h1, h2, h3⟩ := h
  exact ⟨p, dx, r, svs, e, noT_at h1 fun _ => nofun, noT_lst h2, h3.imp fun _ _ h => h.noT⟩
/-- the tables stay where only the well changes -/
theorem tabs_well {T : List (Addr × Str)} {H H' : Hp} {a : Addr} {n : Nat} (t : Tabs T H) (w : WellAt H a n) (s : Same (hid a H) (hid a H')) : Tabs T H' := fun p hp => by
  obtain ⟨ps, h1, h2, h3⟩ := t p hp
  refine ⟨ps, hid_same _ _ (s _ _ (hid_keep w h1 fun _ => nofun)), h2, fun pos cv h => ?_⟩
  obtain ⟨c, e1, e2⟩ := h3 pos cv h
  refine ⟨c, e1, hid_same _ _ (s _ _ (hid_keep w e2 fun _ z => ?_))⟩
  unfold CodeO at z
  cases z
theorem ntabs {TT : List (Addr × Str)} {H : Hp} (h : Tabs TT H) : NdefX.TabsN (TT.map fun p => (p.1, fun _ _ => p.2)) H := fun p hp => by
  obtain ⟨q, hq, rfl⟩ := List.mem_map.mp hp
  exact NdefX.TabN.of (h q hq)
theorem tabs_back {TT : List (Addr × Str)} {H : Hp} (h : NdefX.TabsN (TT.map fun p => (p.1, fun _ _ => p.2)) H) : Tabs TT H := fun p hp => NdefX.TabN.to (h _ (List.mem_map.mpr ⟨p, hp, rfl⟩))
theorem tabs_same {TT : List (Addr × Str)} {H H' : Hp} (h : Tabs TT H) (s : Same H H') : Tabs TT H' := h.ext fun b o e => s b o e
end
end Fb
namespace Fb
open PySem PySem.Spec PyProof.Rows L2
section
variable {P : Program} {w : World} {K : PySem.W.Frag} {mg : Str → Option Value} {base : Heap}
theorem pi_enumTK {X : Cx} {K : PySem.W.Frag} {e : Expr} {ta : TA} {p pos tpos : Pos} {elts : List Expr} {kk : Nat} (hK : X.K = K) (hg : Gl X "enumerate") (hm : X.mg "enumerate" = none) (ha : PA X [e] ta) (hs : starEach [e] X.env = [(false, eval e X.env)] := by rfl) :
    PI X (.Tuple elts kk tpos) (.Call (.Name "enumerate" p) [e] [] pos) (iEnumT K ta) := hK ▸ pi_enumT hg hm ha hs
def WtOk (ws : List Nat) : Prop := ws.length ≤ 12 ∧ ∀ n ∈ ws, n < 2 ^ 400
theorem WtOk.at {ws : List Nat} (h : WtOk ws) (i : Nat) : ws.getD i 0 < 2 ^ 400 := by
  rw [List.getD_eq_getElem?_getD]
  cases e : ws[i]? with
  | none => exact Nat.two_pow_pos 400
  | some n => exact h.2 n (List.mem_of_getElem? e)
theorem WtOk.sum {ws : List Nat} (h : WtOk ws) : ws.sum < 2 ^ 410 := by
  have h1 := sum_le_mul (b := 2 ^ 400) ws fun n hn => Nat.le_of_lt (h.2 n hn)
  have h2 : ws.length * 2 ^ 400 ≤ 12 * 2 ^ 400 := Nat.mul_le_mul_right _ h.1
  have h3 : 12 * 2 ^ 400 < 2 ^ 410 := by decide +kernel
  omega
/-- what the second one's goals are when the first one goes to i by the weight w -/
def atF (i w : Nat) (vs : List Nat) : Goals := (List.range vs.length).map fun j => ((i, j), w * vs.getD j 0)
def onceF (ws vs : List Nat) : Goals := ((List.range ws.length).map fun i => atF i (ws.getD i 0) vs).flatten
/-- how much the other's weights are together, one where it can't -/
def nearW (vs : List Nat) : Nat := if vs = [] then 1 else vs.sum
def hereF (y c : Nat) (ws : List Nat) : Goals := (List.range ws.length).map fun i => ((i, y), ws.getD i 0 * c)
def thereF (x c : Nat) (vs : List Nat) : Goals := (List.range vs.length).map fun i => ((x, i), vs.getD i 0 * c)
def oneF (p : Thing) (ws vs : List Nat) : Goals := hereF p.2 (nearW vs) ws ++ thereF p.1 (nearW ws) vs
theorem wm_nat {x y : Nat} (hx : x < 2 ^ 410) (hy : y < 2 ^ 410) : CMulW (x : Int) (y : Int) := wide_mul (a := 410) (b := 410) (by rw [Int.natAbs_natCast]; exact hx) (by rw [Int.natAbs_natCast]; exact hy) (by decide) (by decide) (by decide)
theorem lt410 {x : Nat} (h : x < 2 ^ 400) : x < 2 ^ 410 := Nat.lt_of_lt_of_le h (Nat.pow_le_pow_right (by decide) (by decide))
theorem WtOk.near {vs : List Nat} (h : WtOk vs) : nearW vs < 2 ^ 410 := by
  unfold nearW
  split
  · exact Nat.one_lt_two_pow (by decide)
  · exact h.sum
def spOnce : Sp := fun vs H Q _ => ∃ (a b : Addr) (ws us : List Nat), vs = [.ref a, .ref b] ∧ H a = some (.tup (nts ws)) ∧ H b = some (.tup (nts us)) ∧ WtOk ws ∧ WtOk us ∧
  ∀ H' p gs, Same H H' → H p = none → H' p = some (.lst gs) → AllAre (IsGoal H') gs (onceF ws us) → Q (.ref p) H'
theorem nts_get {ws : List Nat} {i : Nat} {y : V} (h : (nts ws)[i]? = some y) : y = .int (ws.getD i 0 : Nat) ∧ i < ws.length := by
  obtain ⟨n, hn, rfl⟩ := nts_at h
  exact ⟨by rw [List.getD_eq_getElem?_getD, hn]; rfl, (List.getElem?_eq_some_iff.mp hn).1⟩
theorem walk_nts {a : Addr} {us : List Nat} : Walk (IteT K a) us.length (fun H => SqT K H a (nts us)) (YPair (fun i => some (.int (i : Nat))) (fun i => (nts us)[i]?)) := by
  have h := walk_enumT (K := K) (a := a) (xs := nts us)
  rw [nts_len] at h
  exact h
theorem ok_p_goals_at_once (T : Txt K mg) : FnOk P w K mg base CX0 1 T.f_p_goals_at_once T.d_p_goals_at_once ["ours", "theirs"] spOnce := by
  refine T.F_p_goals_at_once.ok sc_p_goals_at_once (fun vs H Q E h => ?_) (fun cdv A outer s H vs Q E hr h => ?_)
  · obtain ⟨a, b, _, _, rfl, _⟩ := h
    rfl
  · obtain ⟨a, b, ws, us, rfl, ha, hb, wo, uo, q⟩ := h
    refine ⟨_, (pss_one (ps_ret (pe_lc2 (own := [("to", 2), ("weight", 3), ("there", 4), ("other", 5)]) (vs1 := [4, 5]) (g := (gTup K 2 (gCons (gName 2) (gCons (gName 3) gNil)))) (tt := tYes) (g1 := (gTup K 2 (gCons (gName 4) (gCons (gName 5) gNil)))) (tt1 := tYes) (by rfl) sc_p_goals_at_once.nd (pi_enumT (by rfl) T.z_enumerate (pa_cons (pv 0) pa_nil)) (blkOk_by (own := [("to", 2), ("weight", 3), ("there", 4), ("other", 5)]) (N := ["ours", "theirs", "to", "weight", "there", "other"]) (sc := defScope s_p_goals_at_once) (by decide +kernel)) (by decide) (fun _ _ _ _ _ => by exact (pg_tup (by rfl) (pgs_cons (pg_name (i := 2) sc_p_goals_at_once.nd rfl (.inl rfl)) (pgs_cons (pg_name (i := 3) sc_p_goals_at_once.nd rfl (.inl rfl)) pgs_nil)))) (fun _ _ _ _ _ => by exact pts_nil) (fun _ _ _ _ _ => by exact (pi_enumTK (K := K) rfl (by rfl) T.z_enumerate (pa_cons (pv 1) pa_nil))) (fun _ _ _ _ _ => by exact (pg_tup (by rfl) (pgs_cons (pg_name (i := 4) sc_p_goals_at_once.nd rfl (.inl rfl)) (pgs_cons (pg_name (i := 5) sc_p_goals_at_once.nd rfl (.inl rfl)) pgs_nil)))) (fun _ _ _ _ _ => by exact pts_nil) (fun _ _ _ _ _ => by exact (pe_tup (pa_cons (pe_tup (pa_cons (pv 2) (pa_cons (pv 4) pa_nil))) (pa_cons (pe_op op_mulW (pv 3) (pv 5)) pa_nil))))))), ?_⟩
    refine ⟨_, rfl, a, _, rfl, .inl (.inl ha), fun D nD => lc2_all (walk_enumT (K := K) (a := a) (xs := nts ws)) (fun _ => us.length) (fun i j y G => IsGoal G y ((i, j), ws.getD i 0 * us.getD j 0)) (fun _ _ _ _ _ s h => h.mono s) 12 (fun i hi => uo.1) (by rw [nts_len]; have := wo.1; omega) nD (fun H' s => .inl (.inl (s _ _ ha))) (fun i x H9 H10 kk hi s9 eD9 y hk => ?_) (fun H9 bs s9 e9 l9 r9 => ?_)⟩
    · obtain ⟨T1, x1, x2, rfl, nT, rfl, hx1, hx2⟩ := y
      cases hx1
      have hx2 : (nts ws)[i]? = some x2 := hx2
      obtain ⟨rfl, il⟩ := nts_get hx2
      have sT := same_upd (o := .tup [.int (i : Nat), .int (ws.getD i 0 : Nat)]) nT
      have hb9 := sT _ _ (hid_same _ _ (s9 _ _ hb))
      refine ⟨T1, _, rfl, .inl (.inl upd_same), rfl, _, _, rfl, _, _, rfl, rfl, wipe2 (by decide) (by decide), _, rfl, b, _, rfl, .inl (.inl hb9), hk _ _ _ ⟨sT, fun H => SqT K H b (nts us), _, walk_nts, fun H5 s5 _ => .inl (.inl (hid_same _ _ (s5 _ _ (hid_mono sT _ _ (s9 _ _ hb))))), fun j x1 H11 H12 k' hj s11 eD11 y1 hk1 => ?_⟩⟩
      obtain ⟨T2, z1, z2, rfl, nT2, rfl, hz1, hz2⟩ := y1
      cases hz1
      have hz2 : (nts us)[j]? = some z2 := hz2
      obtain ⟨rfl, jl⟩ := nts_get hz2
      have u0 := same_upd (o := .tup [.int (j : Nat), .int (us.getD j 0 : Nat)]) nT2
      refine ⟨T2, _, rfl, .inl (.inl upd_same), rfl, _, _, rfl, _, _, rfl, rfl, wipe2 (by decide) (by decide), ?_⟩
      generalize upd H11 T2 (.tup [.int (j : Nat), .int (us.getD j 0 : Nat)]) = H13 at *
      refine ⟨_, look_out (look_1 (show 2 < 6 by decide) (by decide)) (by decide) (by decide) (by decide), _, look_1 (by rw [look_len (n := 6) rfl]; decide) (by decide), by show 2 ≤ sizeLine; decide, fun t2 nt2 => ?_⟩
      have u1 := same_upd (o := .tup [.int (i : Nat), .int (j : Nat)]) nt2
      have f2 := @upd_same H13 t2 (.tup [.int (i : Nat), .int (j : Nat)])
      generalize upd H13 t2 (.tup [.int (i : Nat), .int (j : Nat)]) = H14 at *
      refine ⟨_, look_out (look_2 (show 3 < 6 by decide)) (by decide) (by decide) (by decide), _, look_2 (by rw [look_len (n := 6) rfl]; decide), _, _, rfl, rfl, wm_nat (lt410 (wo.at i)) (lt410 (uo.at j)), at_nil ⟨by show 2 ≤ sizeLine; decide, fun t3 nt3 => ?_⟩⟩
      have u2 := same_upd (o := .tup [.ref t2, .int ((ws.getD i 0 : Nat) * (us.getD j 0 : Nat) : Int)]) nt3
      have uA := u0.trans (u1.trans u2)
      have eD3 := eD11.imp fun _ e => uA _ _ e
      refine hk1 _ _ uA ⟨t3, .ref t2, rfl, ?_, t2, rfl, hid_no eD3 (u2 _ _ f2) (fun _ => nofun)⟩
      show hid D _ t3 = some (.tup [.ref t2, .int ((ws.getD i 0 * us.getD j 0 : Nat) : Int)])
      rw [Int.natCast_mul]
      exact hid_no eD3 upd_same (fun _ => nofun)
    · refine q H9 D bs.flatten (s9.trans hid_same) nD e9 (AllAre.flatten (by rw [l9, nts_len, List.length_map, List.length_range]) fun i b xs hb hx => ?_)
      have hi := (List.getElem?_eq_some_iff.mp hb).1
      rw [l9, nts_len] at hi
      rw [List.getElem?_map, List.getElem?_range hi] at hx
      cases hx
      obtain ⟨lb, ab⟩ := r9 i b hb
      refine .of_ix (by unfold atF; rw [lb, List.length_map, List.length_range]) fun j y hy => ?_
      have hj := (List.getElem?_eq_some_iff.mp hy).1
      rw [lb] at hj
      exact ⟨_, by unfold atF; rw [List.getElem?_map, List.getElem?_range hj]; rfl, (ab j y hy).mono hid_same⟩
def spOne1 (K : PySem.W.Frag) : Sp := fun vs H Q _ => ∃ (v : V) (p : Thing) (a b : Addr) (ws us : List Nat), vs = [v, .ref a, .ref b] ∧ IsThK K H v p ∧ H a = some (.tup (nts ws)) ∧ H b = some (.tup (nts us)) ∧ WtOk ws ∧ WtOk us ∧
  ∀ H' l gs, Same H H' → H l = none → H' l = some (.lst gs) → AllAre (IsGoal H') gs (oneF p ws us) → Q (.ref l) H'
theorem near_te {σ : L2.St} {H : Hp} {i : Nat} {b : Addr} {us : List Nat} {g : TG} {u : L2.TS} {e : Ends} (h : σ[i]? = some (some (.ref b))) (hb : H b = some (.tup (nts us))) (q : g (.int (nearW us : Nat)) σ H (u e)) :
    tSeq (tAsg (tIf (fun σ H Q => tVar i σ H fun x H' => ∃ k, TruV K x H' k ∧ Q k H') (tCB (rSumT K) (tCons (tVar i) tNil)) (tC (.int 1))) g) u e σ H := by
  refine ⟨_, h, _, .inr (.inl ⟨_, .inl (.inl hb), rfl⟩), ?_⟩
  cases us with
  | nil => exact q
  | cons n us =>
    refine ⟨_, h, b, (n :: us).map (fun (n : Nat) => (n : Int)), rfl, .inl (.inl (by rw [hb, nts_ints])), ?_⟩
    rw [sum_nts]
    exact q
theorem goals_are {H : Hp} {D : Addr} {ys : List V} {n : Nat} {f : Nat → Thing × Nat} (l : ys.length = n) (h : ∀ i y, ys[i]? = some y → IsGoal (hid D H) y (f i)) : AllAre (IsGoal H) ys ((List.range n).map f) := .of_ix (by rw [l, List.length_map, List.length_range]) fun i y hy => by
  have hi := (List.getElem?_eq_some_iff.mp hy).1
  rw [l] at hi
  exact ⟨f i, by rw [List.getElem?_map, List.getElem?_range hi]; rfl, (h i y hy).mono hid_same⟩
theorem ok_p_goals_of_one (T : Txt K mg) : FnOk P w K mg base CX0 1 T.f_p_goals_of_one T.d_p_goals_of_one ["pair", "ours", "theirs"] (spOne1 K) := by
  refine T.F_p_goals_of_one.ok sc_p_goals_of_one (fun vs H Q E h => ?_) (fun cdv A outer s H vs Q E hr h => ?_)
  · obtain ⟨v, _, a, b, _, _, rfl, _⟩ := h
    rfl
  · obtain ⟨v, p, a, b, ws, us, rfl, ix, ha, hb, wo, uo, q⟩ := h
    refine ⟨_, (pss_cons (ps_asg (pv 0) (pg_tup (by rfl) (pgs_cons (pg_name (i := 3) sc_p_goals_of_one.nd rfl (.inr rfl)) (pgs_cons (pg_name (i := 4) sc_p_goals_of_one.nd rfl (.inr rfl)) pgs_nil))))
 (pss_cons (ps_set (i := 5) sc_p_goals_of_one.nd rfl (.inr rfl) (pe_ifExp (pt_truth (pv 2) (fun _ => rfl)) (pe_callB (cr_sumTK (K := K) rfl rfl) (by rfl) T.z_sum (by decide +kernel) (pa_cons (pv 2) pa_nil)) pe_int))
 (pss_cons (ps_set (i := 6) sc_p_goals_of_one.nd rfl (.inr rfl) (pe_ifExp (pt_truth (pv 1) (fun _ => rfl)) (pe_callB (cr_sumTK (K := K) rfl rfl) (by rfl) T.z_sum (by decide +kernel) (pa_cons (pv 1) pa_nil)) pe_int))
 (pss_cons (ps_setLc (i := 7) (own := [("to", 9), ("weight", 10)]) (g := (gTup K 2 (gCons (gName 9) (gCons (gName 10) gNil)))) (tt := tYes) (by rfl) sc_p_goals_of_one.nd rfl rfl (sw_true rfl rfl rfl (by decide +kernel)) (pi_enumT (by rfl) T.z_enumerate (pa_cons (pv 1) pa_nil)) (blkOk_by (own := [("to", 9), ("weight", 10)]) (N := ["pair", "ours", "theirs", "x", "y", "near", "far", "here", "there", "to", "weight"]) (sc := defScope s_p_goals_of_one) (by decide +kernel)) (fun _ _ _ _ _ => by exact (pg_tup (by rfl) (pgs_cons (pg_name (i := 9) sc_p_goals_of_one.nd rfl (.inl rfl)) (pgs_cons (pg_name (i := 10) sc_p_goals_of_one.nd rfl (.inl rfl)) pgs_nil)))) (fun _ _ _ _ _ => by exact pts_nil) (fun _ _ _ _ _ => by exact (pe_tup (pa_cons (pe_tup (pa_cons (pv 9) (pa_cons (pv 4) pa_nil))) (pa_cons (pe_op op_mulW (pv 10) (pv 5)) pa_nil)))))
 (pss_cons (ps_setLc (i := 8) (own := [("to", 9), ("weight", 10)]) (g := (gTup K 2 (gCons (gName 9) (gCons (gName 10) gNil)))) (tt := tYes) (by rfl) sc_p_goals_of_one.nd rfl rfl (sw_true rfl rfl rfl (by decide +kernel)) (pi_enumT (by rfl) T.z_enumerate (pa_cons (pv 2) pa_nil)) (blkOk_by (own := [("to", 9), ("weight", 10)]) (N := ["pair", "ours", "theirs", "x", "y", "near", "far", "here", "there", "to", "weight"]) (sc := defScope s_p_goals_of_one) (by decide +kernel)) (fun _ _ _ _ _ => by exact (pg_tup (by rfl) (pgs_cons (pg_name (i := 9) sc_p_goals_of_one.nd rfl (.inl rfl)) (pgs_cons (pg_name (i := 10) sc_p_goals_of_one.nd rfl (.inl rfl)) pgs_nil)))) (fun _ _ _ _ _ => by exact pts_nil) (fun _ _ _ _ _ => by exact (pe_tup (pa_cons (pe_tup (pa_cons (pv 3) (pa_cons (pv 9) pa_nil))) (pa_cons (pe_op op_mulW (pv 10) (pv 6)) pa_nil)))))
 (pss_one (ps_ret (pe_op op_cat (pv 7) (pv 8))))))))), ?_⟩
    obtain ⟨u, rfl, hu⟩ := id ix
    have hu : SqT K H u [.int (p.1 : Nat), .int (p.2 : Nat)] := hu
    refine ⟨_, rfl, u, _, rfl, hu, rfl, _, _, rfl, _, _, rfl, rfl, ?_⟩
    refine near_te rfl hb ?_
    refine near_te rfl ha ?_
    refine ⟨_, rfl, a, _, rfl, .inl (.inl ha), fun D nD => lc_allW (walk_nts (a := a) (us := ws)) (fun i y G => IsGoal G y ((i, p.2), ws.getD i 0 * nearW us)) (fun _ _ _ _ s h => h.mono s) nD (fun H' s => .inl (.inl (s _ _ ha))) (by have := wo.1; omega) (fun i x H3 H4 kk hi s3 eD y hk => ?_) (fun H3 g1 s3 e3 l3 r3 => ?_)⟩
    · obtain ⟨T1, x1, x2, rfl, nT, rfl, hx1, hx2⟩ := y
      cases hx1
      have hx2 : (nts ws)[i]? = some x2 := hx2
      obtain ⟨rfl, il⟩ := nts_get hx2
      have u0 := same_upd (o := .tup [.int (i : Nat), .int (ws.getD i 0 : Nat)]) nT
      refine ⟨T1, _, rfl, .inl (.inl upd_same), rfl, _, _, rfl, _, _, rfl, rfl, wipe2 (by decide) (by decide), ?_⟩
      generalize upd H3 T1 (.tup [.int (i : Nat), .int (ws.getD i 0 : Nat)]) = H5 at *
      refine ⟨_, rfl, _, rfl, by show 2 ≤ sizeLine; decide, fun t2 nt2 => ?_⟩
      have u1 := same_upd (o := .tup [.int (i : Nat), .int (p.2 : Nat)]) nt2
      have f2 := @upd_same H5 t2 (.tup [.int (i : Nat), .int (p.2 : Nat)])
      generalize upd H5 t2 (.tup [.int (i : Nat), .int (p.2 : Nat)]) = H6 at *
      refine ⟨_, rfl, _, rfl, _, _, rfl, rfl, wm_nat (lt410 (wo.at i)) uo.near, at_nil ⟨by show 2 ≤ sizeLine; decide, fun t3 nt3 => ?_⟩⟩
      have u2 := same_upd (o := .tup [.ref t2, .int ((ws.getD i 0 : Nat) * (nearW us : Nat) : Int)]) nt3
      have uA := u0.trans (u1.trans u2)
      have eD3 := eD.imp fun _ e => uA _ _ e
      refine hk _ _ uA ⟨t3, .ref t2, rfl, ?_, t2, rfl, hid_no eD3 (u2 _ _ f2) (fun _ => nofun)⟩
      show hid D _ t3 = some (.tup [.ref t2, .int ((ws.getD i 0 * nearW us : Nat) : Int)])
      rw [Int.natCast_mul]
      exact hid_no eD3 upd_same (fun _ => nofun)
    have s3' := s3.trans (hid_same (a := D))
    have a1 := goals_are l3 r3
    have hb3 := s3' _ _ hb
    refine ⟨_, rfl, b, _, rfl, .inl (.inl hb3), fun D2 nD2 => lc_allW (walk_nts (a := b) (us := us)) (fun i y G => IsGoal G y ((p.1, i), us.getD i 0 * nearW ws)) (fun _ _ _ _ s h => h.mono s) nD2 (fun H' s => .inl (.inl (s _ _ hb3))) (by have := uo.1; omega) (fun i x H4 H5 kk hi s4 eD y hk => ?_) (fun H4 g2 s4 e4 l4 r4 => ?_)⟩
    · obtain ⟨T1, x1, x2, rfl, nT, rfl, hx1, hx2⟩ := y
      cases hx1
      have hx2 : (nts us)[i]? = some x2 := hx2
      obtain ⟨rfl, il⟩ := nts_get hx2
      have u0 := same_upd (o := .tup [.int (i : Nat), .int (us.getD i 0 : Nat)]) nT
      refine ⟨T1, _, rfl, .inl (.inl upd_same), rfl, _, _, rfl, _, _, rfl, rfl, wipe2 (by decide) (by decide), ?_⟩
      generalize upd H4 T1 (.tup [.int (i : Nat), .int (us.getD i 0 : Nat)]) = H5 at *
      refine ⟨_, rfl, _, rfl, by show 2 ≤ sizeLine; decide, fun t2 nt2 => ?_⟩
      have u1 := same_upd (o := .tup [.int (p.1 : Nat), .int (i : Nat)]) nt2
      have f2 := @upd_same H5 t2 (.tup [.int (p.1 : Nat), .int (i : Nat)])
      generalize upd H5 t2 (.tup [.int (p.1 : Nat), .int (i : Nat)]) = H6 at *
      refine ⟨_, rfl, _, rfl, _, _, rfl, rfl, wm_nat (lt410 (uo.at i)) wo.near, at_nil ⟨by show 2 ≤ sizeLine; decide, fun t3 nt3 => ?_⟩⟩
      have u2 := same_upd (o := .tup [.ref t2, .int ((us.getD i 0 : Nat) * (nearW ws : Nat) : Int)]) nt3
      have uA := u0.trans (u1.trans u2)
      have eD3 := eD.imp fun _ e => uA _ _ e
      refine hk _ _ uA ⟨t3, .ref t2, rfl, ?_, t2, rfl, hid_no eD3 (u2 _ _ f2) (fun _ => nofun)⟩
      show hid D2 _ t3 = some (.tup [.ref t2, .int ((us.getD i 0 * nearW ws : Nat) : Int)])
      rw [Int.natCast_mul]
      exact hid_no eD3 upd_same (fun _ => nofun)
    have s4' := s4.trans (hid_same (a := D2))
    have a2 := goals_are l4 r4
    refine ⟨_, rfl, _, rfl, D, D2, g1, g2, rfl, rfl, s4' _ _ e3, e4, ?_, fun l nl => ?_⟩
    · rw [l3, l4]
      have := wo.1
      have := uo.1
      exact Nat.le_of_lt (small1000 (by omega))
    have u5 := same_upd (o := .lst (g1 ++ g2)) nl
    exact q _ l (g1 ++ g2) (s3'.trans (s4'.trans u5)) (none_of (s3'.trans s4') nl) upd_same ((a1.imp fun _ _ h => h.mono (s4'.trans u5)).append (a2.imp fun _ _ h => h.mono u5))
end
end Fb
namespace Fb
open PySem PySem.Spec PyProof.Rows L2
section
open NdefX LamX
variable {P : Program} {w : World} {K : PySem.W.Frag} {mg : Str → Option Value} {base : Heap}
theorem shape2 (a b : Nat) : SeqAt.shaped (.tuple [.int (a : Nat), .int (b : Nat)]) = true := by
  unfold SeqAt.shaped
  rw [Bool.and_eq_true]
  exact ⟨by simp [PyData.canLay0, PyData.canLayAll0], decide_eq_true (by simp [PyData.depth, PyData.depthAll])⟩
theorem IsKvs.mono {av : Addr → Prop} {H H' : Hp} {kvs : List (Key × V)} {gs : List GRow} (h : IsKvs av H kvs gs) (s : Same H H') : IsKvs av H' kvs gs := ⟨h.1, fun i kv r a b => by
  obtain ⟨l, ys, e, h1, h2, h3⟩ := h.2 i kv r a b
  exact ⟨l, ys, e, s _ _ h1, h2.imp fun _ _ h => h.mono s, h3⟩⟩
theorem IsKvs.snoc {av : Addr → Prop} {H : Hp} {kvs : List (Key × V)} {gs : List GRow} {r : GRow} {l : Addr} {ys : List V} (h : IsKvs av H kvs gs) (hl : H l = some (.lst ys)) (ha : AllAre (IsGoal H) ys r.2) (na : ¬ av l) : IsKvs av H (kvs ++ [(.inr r.1, .ref l)]) (gs ++ [r]) := by
  refine ⟨by rw [List.length_append, List.length_append, h.1]; rfl, fun i kv r' h1 h2 => ?_⟩
  by_cases hi : i < kvs.length
  · rw [List.getElem?_append_left hi] at h1
    rw [List.getElem?_append_left (by rw [← h.1]; exact hi)] at h2
    exact h.2 i kv r' h1 h2
  · rw [List.getElem?_append_right (by omega)] at h1
    rw [List.getElem?_append_right (by rw [← h.1]; omega), ← h.1] at h2
    generalize i - kvs.length = i' at *
    match i' with
    | 0 =>
      cases h1
      cases h2
      exact ⟨l, ys, rfl, hl, ha, na⟩
    | i' + 1 => cases h1
theorem IsKvs.lt {av : Addr → Prop} {H H' : Hp} {kvs : List (Key × V)} {gs : List GRow} (h : IsKvs av H kvs gs) (k1 : ∀ b xs, H b = some (.lst xs) → H' b = some (.lst xs)) (k2 : ∀ b xs, H b = some (.tup xs) → H' b = some (.tup xs)) : IsKvs av H' kvs gs := ⟨h.1, fun i kv r a b => by
  obtain ⟨l, ys, e, h1, h2, h3⟩ := h.2 i kv r a b
  exact ⟨l, ys, e, k1 _ _ h1, h2.imp fun _ _ ⟨t, y, e1, q1, u, e2, q2⟩ => ⟨t, y, e1, k2 _ _ q1, u, e2, k2 _ _ q2⟩, h3⟩⟩
theorem goal_hidK {H : Hp} {D : Addr} {kvs : List (Key × V)} (e : H D = some (.dK kvs)) {v : V} {g : Thing × Nat} (h : IsGoal H v g) : IsGoal (hid D H) v g := by
  obtain ⟨t, y, e1, q1, u, e2, q2⟩ := h
  exact ⟨t, y, e1, by rw [hid_ne (fun z => by rw [z, e] at q1; cases q1)]; exact q1, u, e2, by rw [hid_ne (fun z => by rw [z, e] at q2; cases q2)]; exact q2⟩
theorem valV_no {k : Key} {kvs : List (Key × V)} (h : k ∉ kvs.map (·.1)) : valV kvs k = none := by
  unfold valV
  rw [List.find?_eq_none.mpr fun p hp z => h (List.mem_map.mpr ⟨p, hp, of_decide_eq_true z⟩)]
  rfl
end
end Fb
namespace Fb
open PySem PySem.Spec PyProof.Rows L2
section
variable {P : Program} {w : World} {K : PySem.W.Frag} {mg : Str → Option Value} {base : Heap}
def wsOf (z : Str) (d : List Stp) : Option (List Nat) := (selD z d).map (·.ws)
def rowA (sh : List Str) (p : Thing) (d2 : List Stp) (s : Stp) : Option GRow :=
  if s.sign ∈ sh then (wsOf s.sign d2).map fun us => (s.sign, onceF s.ws us) else some (s.sign, oneF p s.ws ((wsOf s.sign d2).getD []))
def rowB (sh : List Str) (p : Thing) (d1 : List Stp) (t : Stp) : Option GRow := if t.sign ∉ sh ∧ selD t.sign d1 = none then some (t.sign, oneF p [] t.ws) else none
def bsF (sh : List Str) (p : Thing) (d1 d2 : List Stp) : List GRow := d1.filterMap (rowA sh p d2) ++ d2.filterMap (rowB sh p d1)
theorem rowA_name {sh : List Str} {p : Thing} {d2 : List Stp} {s : Stp} {r : GRow} (h : rowA sh p d2 s = some r) : r.1 = s.sign := by
  unfold rowA at h
  split at h
  · obtain ⟨us, _, rfl⟩ := Option.map_eq_some_iff.mp h
    rfl
  · cases h
    rfl
theorem rowB_name {sh : List Str} {p : Thing} {d1 : List Stp} {t : Stp} {r : GRow} (h : rowB sh p d1 t = some r) : r.1 = t.sign ∧ selD t.sign d1 = none := by
  unfold rowB at h
  split at h
  · rename_i c
    cases h
    exact ⟨rfl, c.2⟩
  · cases h
theorem selD_none {z : Str} {d : List Stp} (h : selD z d = none) {s : Stp} (hs : s ∈ d) : s.sign ≠ z := fun e => by
  unfold selD at h
  exact absurd (decide_eq_true e) (by simpa using List.find?_eq_none.mp h s hs)
theorem fm_take {α β : Type} {f : α → Option β} {l : List α} {j : Nat} {x : α} (h : l[j]? = some x) : (l.take (j + 1)).filterMap f = (l.take j).filterMap f ++ (f x).toList := by
  rw [List.take_add_one, h, List.filterMap_append]
  cases e : f x <;> simp [e]
structure DrOk (d : List Stp) : Prop where
  nd : (d.map (·.sign)).Nodup
  few : d.length ≤ 28
  wt : ∀ s ∈ d, WtOk s.ws
  ne : ∀ s ∈ d, s.ws ≠ []
theorem DrOk.uniq {d : List Stp} (h : DrOk d) {i j : Nat} {s t : Stp} (hi : d[i]? = some s) (hj : d[j]? = some t) (e : s.sign = t.sign) : i = j := by
  have h1 : (d.map (·.sign))[i]? = some s.sign := by rw [List.getElem?_map, hi]; rfl
  have h2 : (d.map (·.sign))[j]? = some s.sign := by rw [List.getElem?_map, hj, e]; rfl
  exact (List.getElem?_inj (List.getElem?_eq_some_iff.mp h1).1 h.nd).mp (h1.trans h2.symm)
theorem inV_strs {z : Str} {zs : List Str} : inV (.str z) (zs.map V.str) = decide (z ∈ zs) := by
  unfold inV
  rw [Bool.eq_iff_iff, List.any_map, List.any_eq_true, decide_eq_true_iff]
  constructor
  · rintro ⟨y, hy, e⟩
    have e : (y == z) = true := e
    rw [beq_iff_eq] at e
    exact e ▸ hy
  · intro h
    exact ⟨z, h, by show (z == z) = true; exact beq_self_eq_true z⟩
theorem flat_strs (zs : List Str) : (zs.map V.str).all flatV = true := List.all_eq_true.mpr fun x hx => by
  obtain ⟨n, _, rfl⟩ := List.mem_map.mp hx
  rfl
theorem kw_nd {H : Hp} {kvs : List (Key × V)} {d : List Stp} (a : AreKw H kvs d) (nd : (d.map (·.sign)).Nodup) : (kvs.map (·.1)).Nodup := by
  have e : kvs.map (·.1) = (d.map (·.sign)).map Sum.inr := by
    refine List.ext_getElem? fun i => ?_
    simp only [List.getElem?_map, List.map_map]
    cases hk : kvs[i]? with
    | none =>
      have := List.getElem?_eq_none_iff.mp hk
      rw [List.getElem?_eq_none (by have := a.1; omega)]
      rfl
    | some kv =>
      obtain ⟨s, hs, wa, e, _⟩ := a.at hk
      rw [hs, e]
      rfl
  rw [e]
  exact List.pairwise_map.mpr (nd.imp fun h e => h (Sum.inr.inj e))
theorem put_row {av : Addr → Prop} {F : Hp} {D l : Addr} {kv : List (Key × V)} {gs : List GRow} {z : Str} {ys : List V} {g : Goals} (eD : F D = some (.dK kv)) (ik : IsKvs av (hid D F) kv gs) (nk : z ∉ gs.map (·.1)) (hl : F l = some (.lst ys)) (ag : AllAre (IsGoal F) ys g) (na : ¬ av l) :
    IsKvs av (hid D (upd F D (.dK (putK kv (.inr z) (.ref l))))) (putK kv (.inr z) (.ref l)) (gs ++ [(z, g)]) := by
  have nv : valV kv (.inr z) = none := valV_no fun hm => by
    rw [ik.keys] at hm
    obtain ⟨y, hy, e⟩ := List.mem_map.mp hm
    cases e
    exact nk hy
  rw [hid_upd, putK_new _ nv]
  exact IsKvs.snoc (r := (z, g)) ik (by rw [hid_ne (fun c => by rw [c, eD] at hl; cases hl)]; exact hl) (ag.imp fun _ _ h => goal_hidK eD h) na
theorem unlock_same {H F : Hp} {d : Addr} {u : HO} {od : Obj} (hd : H d = some u) (s : Same (upd H d (.frz od u)) F) : Same H (upd F d u) := fun b o e => by
  by_cases c : b = d
  · rw [c, upd_same]
    rw [c, hd] at e
    exact e
  · rw [upd_ne c]
    exact s _ _ (by rw [upd_ne c]; exact e)
def spGoalsB (K : PySem.W.Frag) : Sp := fun vs H Q _ => ∃ (sl d1 d2 : Addr) (v : V) (sh : List Str) (p : Thing) (k1 k2 : List (Key × V)) (o1 o2 : List Stp) (av : Addr → Prop), vs = [.ref sl, v, .ref d1, .ref d2] ∧ H sl = some (.lst (sh.map V.str)) ∧ IsThK K H v p ∧ H d1 = some (.dK k1) ∧ H d2 = some (.dK k2) ∧ AreKw H k1 o1 ∧ AreKw H k2 o2 ∧ DrOk o1 ∧ DrOk o2 ∧
  (∀ a, av a → ∃ o, H a = some o) ∧ ∀ H' u, Same H H' → IsGDict av H' u (bsF sh p o1 o2) → Q u H'
set_option maxHeartbeats 2000000 in
theorem ok_p_goals_beside (T : Txt K mg) : FnOk P w K mg base CX0 2 T.f_p_goals_beside T.d_p_goals_beside ["shared", "pair", "ours", "theirs"] (spGoalsB K) := by
  refine T.F_p_goals_beside.ok sc_p_goals_beside (fun vs H Q E h => ?_) (fun cdv A outer s H vs Q E hr h => ?_)
  · obtain ⟨_, _, _, v, _, _, _, _, _, _, _, rfl, _⟩ := h
    rfl
  · obtain ⟨sl, d1, d2, v, sh, p, k1, k2, o1, o2, av, rfl, hsl, ix, h1, h2, a1, a2, ok1, ok2, avo, q⟩ := h
    refine ⟨_, (pss_cons (ps_set (i := 4) sc_p_goals_beside.nd rfl (.inl rfl) pe_dnewK)
 (pss_cons (ps_lock (ps_for PassesOwn.never rfl (pi_keys (pv 2)) (pg_name (i := 5) sc_p_goals_beside.nd rfl (.inl rfl))
  (pss_one (ps_if (PW.pt (pw_and (pt_cmpR op_in_seq (pv 5) (pv 0) (by with_unfolding_all rfl)) (pw_and1 (pt_cmp (pc_din (units1 hr.units) (pv 5) (pv 3)) (by with_unfolding_all rfl)))))
  (pss_one (ps_dput (units1 hr.units) (pv 4) (pv 5) (pe_call (ok_p_goals_at_once T) (hr.mono (by decide)) (by rfl) T.g_p_goals_at_once T.F_p_goals_at_once.kp T.b_p_goals_at_once .nil pass0 (pa_cons (pe_dget (units1 hr.units) (pv 2) (pv 5) (fun _ _ => rfl)) (pa_cons (pe_dget (units1 hr.units) (pv 3) (pv 5) (fun _ _ => rfl)) pa_nil))) rfl))
  (pss_one (ps_if (pt_cmpR op_notIn_seq (pv 5) (pv 0) (by with_unfolding_all rfl))
  (pss_one (ps_dput (units1 hr.units) (pv 4) (pv 5) (pe_call (ok_p_goals_of_one T) (hr.mono (by decide)) (by rfl) T.g_p_goals_of_one T.F_p_goals_of_one.kp T.b_p_goals_of_one .nil pass0 (pa_cons (pv 1) (pa_cons (pe_dget (units1 hr.units) (pv 2) (pv 5) (fun _ _ => rfl)) (pa_cons (pe_dget2 (units1 hr.units) (pv 3) (pv 5) (pe_tup pa_nil) ⟨rfl, rfl, rfl, rfl⟩) pa_nil)))) rfl))
  pss_nil))))))
 (pss_cons (ps_lock (ps_for PassesOwn.never rfl (pi_keys (pv 3)) (pg_name (i := 5) sc_p_goals_beside.nd rfl (.inl rfl))
  (pss_one (ps_if (PW.pt (pw_and (pt_cmpR op_notIn_seq (pv 5) (pv 0) (by with_unfolding_all rfl)) (pw_and1 (pt_cmp (pc_dnotin (units1 hr.units) (pv 5) (pv 2)) (by with_unfolding_all rfl)))))
  (pss_one (ps_dput (units1 hr.units) (pv 4) (pv 5) (pe_call (ok_p_goals_of_one T) (hr.mono (by decide)) (by rfl) T.g_p_goals_of_one T.F_p_goals_of_one.kp T.b_p_goals_of_one .nil pass0 (pa_cons (pv 1) (pa_cons (pe_tup pa_nil) (pa_cons (pe_dget (units1 hr.units) (pv 3) (pv 5) (fun _ _ => rfl)) pa_nil)))) rfl))
  pss_nil))))
 (pss_one (ps_ret (pv 4)))))), ?_⟩
    refine fun D nD => ?_
    have s0 := same_upd (o := .dK []) nD
    have eD0 := @upd_same H D (.dK [])
    generalize upd H D (.dK []) = H0 at *
    have D1 : D ≠ d1 := fun z => by rw [z, h1] at nD; cases nD
    have D2 : D ≠ d2 := fun z => by rw [z, h2] at nD; cases nD
    -- ours
    refine ⟨d1, .dK k1, s0 _ _ h1, trivial, fun od => ?_⟩
    have sB : Same (upd H d1 (.frz od (.dK k1))) (upd H0 d1 (.frz od (.dK k1))) := fun b o e => by
      by_cases c : b = d1
      · rw [c, upd_same] at e ⊢
        exact e
      · rw [upd_ne c] at e ⊢
        exact s0 _ _ e
    have off : ∀ (b : Addr) (o : HO), b ≠ d1 → H b = some o → upd H d1 (.frz od (.dK k1)) b = some o := fun b o n e => by rw [upd_ne n]; exact e
    have B1 := @upd_same H d1 (.frz od (.dK k1))
    have eD1 : upd H0 d1 (.frz od (.dK k1)) D = some (.dK []) := by rw [upd_ne D1]; exact eD0
    have uB : ∀ F, Same (upd H d1 (.frz od (.dK k1))) F → Same H (upd F d1 (.dK k1)) := fun F s => unlock_same h1 s
    have slB := off sl _ (fun z => by rw [z, h1] at hsl; cases hsl) hsl
    have tpB : ∀ (c : Addr) (xs : List V), H c = some (.tup xs) → upd H d1 (.frz od (.dK k1)) c = some (.tup xs) := fun c xs e => off c _ (fun z => by rw [z, h1] at e; cases e) e
    have a1B := a1.imp tpB
    have a2B := a2.imp tpB
    have rdB : Rd (upd H d1 (.frz od (.dK k1))) d2 (.dK k2) := by
      by_cases c : d2 = d1
      · rw [c, h1] at h2
        cases h2
        rw [c]
        exact .inr ⟨od, B1⟩
      · exact .inl (off _ _ c h2)
    have ixB : IsThK K (upd H d1 (.frz od (.dK k1))) v p := by
      obtain ⟨u, e, h⟩ := ix
      refine ⟨u, e, sqT_off h fun b ⟨zs, r⟩ => upd_ne fun z => ?_⟩
      rcases r with r | ⟨o, r⟩ <;> (rw [z, h1] at r; cases r)
    have BD : upd H d1 (.frz od (.dK k1)) D = none := by rw [upd_ne D1]; exact nD
    generalize upd H d1 (.frz od (.dK k1)) = B at *
    generalize upd H0 d1 (.frz od (.dK k1)) = H1 at *
    refine ⟨_, rfl, d1, od, rfl, .inl ⟨k1, sB _ _ B1, for_it (walk_keys (d := d1) (o := od) (kvs := k1)) (fun j σ F => ∃ y5 kv', σ = [some (.ref sl), some v, some (.ref d1), some (.ref d2), some (.ref D), y5] ∧ Same B F ∧ F D = some (.dK kv') ∧ IsKvs av (hid D F) kv' ((o1.take j).filterMap (rowA sh p o2))) ⟨_, [], rfl, sB, eD1, rfl, fun i kv r h => by simp at h⟩ (fun j σ F _ h => ?_) (fun j x σ F F' hj h y => ?_) (fun σ F h => ?_)⟩⟩
    · obtain ⟨_, _, _, sF, _⟩ := h
      exact sF _ _ B1
    · obtain ⟨y5, kv', rfl, sF, eD, ik⟩ := h
      obtain ⟨rfl, k, v', hk, rfl⟩ := y
      obtain ⟨st, hst, wa, ekv, hw⟩ := a1B.at hk
      cases ekv
      dsimp only [kV]
      have jl := (List.getElem?_eq_some_iff.mp hst).1
      have stm := List.mem_of_getElem? hst
      have gsl : kv'.length ≤ 60 := by
        rw [ik.1]
        have := List.length_filterMap_le (rowA sh p o2) (o1.take j)
        rw [List.length_take] at this
        have := ok1.few
        omega
      have nk : st.sign ∉ ((o1.take j).filterMap (rowA sh p o2)).map (·.1) := fun hm => by
        obtain ⟨r, hr, er⟩ := List.mem_map.mp hm
        obtain ⟨t, ht, e⟩ := List.mem_filterMap.mp hr
        obtain ⟨i, hi⟩ := List.mem_iff_getElem?.mp ht
        have il := (List.getElem?_eq_some_iff.mp hi).1
        rw [List.length_take] at il
        rw [List.getElem?_take_of_lt (by omega)] at hi
        have := ok1.uniq hi hst (by rw [← rowA_name e, er])
        omega
      have fmj := fm_take (f := rowA sh p o2) hst
      have dg1 : DGet F' d1 (.str st.sign) (some (.ref wa)) := .inl ⟨k1, .inr st.sign, .inr ⟨od, sF _ _ B1⟩, rfl, (valV_ix (kw_nd a1B ok1.nd) hk).symm⟩
      have wF := sF _ _ hw
      have fin : ∀ (F2 : Hp) (l : Addr) (gs : List V) (g : Goals), rowA sh p o2 st = some (st.sign, g) → Same F' F2 → F' l = none → F2 l = some (.lst gs) → AllAre (IsGoal F2) gs g →
          ∃ H4, DPut F2 D (.str st.sign) (.ref l) H4 ∧ ∃ y5 kv', ([some (.ref sl), some v, some (.ref d1), some (.ref d2), some (.ref D), y5].set 5 (some (.str st.sign)) : L2.St) = [some (.ref sl), some v, some (.ref d1), some (.ref d2), some (.ref D), y5] ∧ Same B H4 ∧ H4 D = some (.dK kv') ∧ IsKvs av (hid D H4) kv' ((o1.take (j + 1)).filterMap (rowA sh p o2)) := fun F2 l gs g er s2 nl el ag => by
        have eD2 := s2 _ _ eD
        have e2 := put_row eD2 (ik.mono (hid_mono s2)) nk el ag fun a => by
          obtain ⟨o, eo⟩ := avo l a
          by_cases c : l = d1
          · rw [c, sF _ _ B1] at nl
            cases nl
          · rw [sF _ _ (off l o c eo)] at nl
            cases nl
        refine ⟨_, .inl ⟨kv', .inr st.sign, eD2, rfl, by rw [sizeLine_eq]; omega, rfl⟩, _, _, rfl, ?_, upd_same, ?_⟩
        · exact same_over (sF.trans s2) BD
        · rw [fmj, er]
          exact e2
      have rdF : Rd F' d2 (.dK k2) := rdB.imp (fun e => sF _ _ e) fun ⟨o, e⟩ => ⟨o, sF _ _ e⟩
      refine ⟨_, rfl, _, rfl, sl, _, rfl, .inl (SqL.of (sF _ _ slB)), rfl, flat_strs sh, _, rfl, ?_⟩
      rw [if_neg (by decide), inV_strs]
      by_cases c : st.sign ∈ sh
      · rw [decide_eq_true c]
        refine iteT ⟨_, rfl, _, rfl, d2, _, rfl, .inl ⟨k2, .inr st.sign, rdF, rfl, rfl⟩, _, rfl, ?_⟩
        rcases kw_val st.sign a2B with ⟨sn, vn⟩ | ⟨t, wb, st2, tz, tm, vv, hwb⟩
        · rw [vn]
          refine iteF ⟨_, rfl, _, rfl, sl, _, rfl, .inl (SqL.of (sF _ _ slB)), rfl, flat_strs sh, _, rfl, ?_⟩
          rw [if_pos rfl, inV_strs, decide_eq_true c]
          have er : rowA sh p o2 st = none := by
            unfold rowA wsOf
            rw [if_pos c, sn]
            rfl
          refine iteF ⟨_, kv', rfl, sF, eD, ?_⟩
          rw [fmj, er, Option.toList_none, List.append_nil]
          exact ik
        · rw [vv]
          have er : rowA sh p o2 st = some (st.sign, onceF st.ws t.ws) := by
            unfold rowA wsOf
            rw [if_pos c, st2]
            rfl
          refine iteT ⟨_, rfl, _, rfl, d1, _, rfl, dg1, _, rfl, _, rfl, d2, .ref wb, rfl, .inl ⟨k2, .inr st.sign, rdF, rfl, vv.symm⟩, wa, wb, st.ws, t.ws, rfl, wF, sF _ _ hwb, ok1.wt st stm, ok2.wt t tm, fun F2 l gs s2 nl el ag => ?_⟩
          obtain ⟨H4, dp, rest⟩ := fin F2 l gs _ er s2 nl el ag
          exact ⟨_, rfl, _, rfl, D, H4, rfl, dp, rest⟩
      · rw [decide_eq_false c]
        refine iteF (iteF ⟨_, rfl, _, rfl, sl, _, rfl, .inl (SqL.of (sF _ _ slB)), rfl, flat_strs sh, _, rfl, ?_⟩)
        rw [if_pos rfl, inV_strs, decide_eq_false c]
        refine iteT ⟨_, rfl, _, rfl, _, rfl, d1, _, rfl, dg1, _, rfl, d2, rfl, .inl ⟨_, rdF⟩, _, rfl, by show 0 ≤ sizeLine; decide, fun e0 n0 => ?_⟩
        have u0 := same_upd (o := .tup []) n0
        have f0 := @upd_same F' e0 (.tup [])
        generalize upd F' e0 (.tup []) = F1 at *
        have rd1 : Rd F1 d2 (.dK k2) := rdF.imp (fun e => u0 _ _ e) fun ⟨o, e⟩ => ⟨o, u0 _ _ e⟩
        obtain ⟨wb, us, e, hwb, uo, er⟩ : ∃ wb us, (valV k2 (.inr st.sign)).getD (.ref e0) = .ref wb ∧ F1 wb = some (.tup (nts us)) ∧ WtOk us ∧ rowA sh p o2 st = some (st.sign, oneF p st.ws us) := by
          rcases kw_val st.sign a2B with ⟨sn, vn⟩ | ⟨t, wb, st2, tz, tm, vv, hwb⟩
          · refine ⟨e0, [], by rw [vn]; rfl, f0, ⟨Nat.zero_le _, fun n h => by cases h⟩, ?_⟩
            unfold rowA wsOf
            rw [if_neg c, sn]
            rfl
          · refine ⟨wb, t.ws, by rw [vv]; rfl, u0 _ _ (sF _ _ hwb), ok2.wt t tm, ?_⟩
            unfold rowA wsOf
            rw [if_neg c, st2]
            rfl
        refine ⟨_, .inl ⟨k2, .inr st.sign, rd1, rfl, rfl⟩, ?_⟩
        rw [e]
        refine at_nil ⟨v, p, wa, wb, st.ws, us, rfl, ixB.mono (sF.trans u0), u0 _ _ wF, hwb, ok1.wt st stm, uo, fun F2 l gs s2 nl el ag => ?_⟩
        obtain ⟨H4, dp, rest⟩ := fin F2 l gs _ er (u0.trans s2) (none_of u0 nl) el ag
        exact ⟨_, rfl, _, rfl, D, H4, rfl, dp, rest⟩
    · obtain ⟨y5, kv', rfl, sF, eD, ik⟩ := h
      refine ⟨sF _ _ B1, ?_⟩
      rw [show o1.take k1.length = o1 from List.take_of_length_le (by rw [a1.1]; exact Nat.le_refl _)] at ik
      have sH := uB F sF
      have eD2 : upd F d1 (.dK k1) D = some (.dK kv') := by rw [upd_ne D1]; exact eD
      have ik2 : IsKvs av (hid D (upd F d1 (.dK k1))) kv' (o1.filterMap (rowA sh p o2)) := by
        have fr := sF _ _ B1
        refine ik.lt (fun b xs e => ?_) fun b xs e => ?_
        · have e' := hid_same _ _ e
          rw [hid_ne (fun z => by rw [z, eD] at e'; cases e'), upd_ne (fun z => by rw [z, fr] at e'; cases e')]
          exact e'
        · have e' := hid_same _ _ e
          rw [hid_ne (fun z => by rw [z, eD] at e'; cases e'), upd_ne (fun z => by rw [z, fr] at e'; cases e')]
          exact e'
      generalize upd F d1 (.dK k1) = F0 at *
      clear sF eD ik uB sB off B1 eD1 slB tpB a1B a2B rdB ixB BD B H1
      -- theirs
      refine ⟨d2, .dK k2, sH _ _ h2, trivial, fun od => ?_⟩
      have sB : Same (upd H d2 (.frz od (.dK k2))) (upd F0 d2 (.frz od (.dK k2))) := fun b o e => by
        by_cases c : b = d2
        · rw [c, upd_same] at e ⊢
          exact e
        · rw [upd_ne c] at e ⊢
          exact sH _ _ e
      have off : ∀ (b : Addr) (o : HO), b ≠ d2 → H b = some o → upd H d2 (.frz od (.dK k2)) b = some o := fun b o n e => by rw [upd_ne n]; exact e
      have B1 := @upd_same H d2 (.frz od (.dK k2))
      have eD1 : upd F0 d2 (.frz od (.dK k2)) D = some (.dK kv') := by rw [upd_ne D2]; exact eD2
      have ik1 : IsKvs av (hid D (upd F0 d2 (.frz od (.dK k2)))) kv' (o1.filterMap (rowA sh p o2)) := by
        have fr := sH _ _ h2
        refine ik2.lt (fun b xs e => ?_) fun b xs e => ?_
        · have e' := hid_same _ _ e
          rw [hid_ne (fun z => by rw [z, eD2] at e'; cases e'), upd_ne (fun z => by rw [z, fr] at e'; cases e')]
          exact e'
        · have e' := hid_same _ _ e
          rw [hid_ne (fun z => by rw [z, eD2] at e'; cases e'), upd_ne (fun z => by rw [z, fr] at e'; cases e')]
          exact e'
      have uB : ∀ F, Same (upd H d2 (.frz od (.dK k2))) F → Same H (upd F d2 (.dK k2)) := fun F s => unlock_same h2 s
      have slB := off sl _ (fun z => by rw [z, h2] at hsl; cases hsl) hsl
      have tpB : ∀ (c : Addr) (xs : List V), H c = some (.tup xs) → upd H d2 (.frz od (.dK k2)) c = some (.tup xs) := fun c xs e => off c _ (fun z => by rw [z, h2] at e; cases e) e
      have a1B := a1.imp tpB
      have a2B := a2.imp tpB
      have rdB : Rd (upd H d2 (.frz od (.dK k2))) d1 (.dK k1) := by
        by_cases c : d1 = d2
        · rw [c, h2] at h1
          cases h1
          rw [c]
          exact .inr ⟨od, B1⟩
        · exact .inl (off _ _ c h1)
      have ixB : IsThK K (upd H d2 (.frz od (.dK k2))) v p := by
        obtain ⟨u, e, h⟩ := ix
        refine ⟨u, e, sqT_off h fun b ⟨zs, r⟩ => upd_ne fun z => ?_⟩
        rcases r with r | ⟨o, r⟩ <;> (rw [z, h2] at r; cases r)
      have BD : upd H d2 (.frz od (.dK k2)) D = none := by rw [upd_ne D2]; exact nD
      generalize upd H d2 (.frz od (.dK k2)) = B at *
      generalize upd F0 d2 (.frz od (.dK k2)) = H1 at *
      refine ⟨_, rfl, d2, od, rfl, .inl ⟨k2, sB _ _ B1, for_it (walk_keys (d := d2) (o := od) (kvs := k2)) (fun j σ F => ∃ y5 kv', σ = [some (.ref sl), some v, some (.ref d1), some (.ref d2), some (.ref D), y5] ∧ Same B F ∧ F D = some (.dK kv') ∧ IsKvs av (hid D F) kv' (o1.filterMap (rowA sh p o2) ++ (o2.take j).filterMap (rowB sh p o1))) ⟨_, kv', rfl, sB, eD1, by rw [List.take_zero, List.filterMap_nil, List.append_nil]; exact ik1⟩ (fun j σ F _ h => ?_) (fun j x σ F F' hj h y => ?_) (fun σ F h => ?_)⟩⟩
      · obtain ⟨_, _, _, sF, _⟩ := h
        exact sF _ _ B1
      · obtain ⟨y5, kv', rfl, sF, eD, ik⟩ := h
        obtain ⟨rfl, k, v', hk, rfl⟩ := y
        obtain ⟨st, hst, wa, ekv, hw⟩ := a2B.at hk
        cases ekv
        dsimp only [kV]
        have jl := (List.getElem?_eq_some_iff.mp hst).1
        have stm := List.mem_of_getElem? hst
        have gsl : kv'.length ≤ 120 := by
          rw [ik.1, List.length_append]
          have h1 := List.length_filterMap_le (rowA sh p o2) o1
          have h2 := List.length_filterMap_le (rowB sh p o1) (o2.take j)
          rw [List.length_take] at h2
          have := ok1.few
          have := ok2.few
          omega
        have fmj := fm_take (f := rowB sh p o1) hst
        have dg1 : DGet F' d2 (.str st.sign) (some (.ref wa)) := .inl ⟨k2, .inr st.sign, .inr ⟨od, sF _ _ B1⟩, rfl, (valV_ix (kw_nd a2B ok2.nd) hk).symm⟩
        have wF := sF _ _ hw
        have rdF : Rd F' d1 (.dK k1) := rdB.imp (fun e => sF _ _ e) fun ⟨o, e⟩ => ⟨o, sF _ _ e⟩
        refine ⟨_, rfl, _, rfl, sl, _, rfl, .inl (SqL.of (sF _ _ slB)), rfl, flat_strs sh, _, rfl, ?_⟩
        rw [if_pos rfl, inV_strs]
        have go0 : rowB sh p o1 st = none → ∃ y5 kv', ([some (.ref sl), some v, some (.ref d1), some (.ref d2), some (.ref D), y5].set 5 (some (.str st.sign)) : L2.St) = [some (.ref sl), some v, some (.ref d1), some (.ref d2), some (.ref D), y5] ∧ Same B F' ∧ F' D = some (.dK kv') ∧ IsKvs av (hid D F') kv' (o1.filterMap (rowA sh p o2) ++ (o2.take (j + 1)).filterMap (rowB sh p o1)) := fun er => by
          refine ⟨_, kv', rfl, sF, eD, ?_⟩
          rw [fmj, er, Option.toList_none, List.append_nil]
          exact ik
        by_cases c : st.sign ∈ sh
        · rw [decide_eq_true c]
          exact iteF (iteF (go0 (by unfold rowB; rw [if_neg fun z => z.1 c])))
        · rw [decide_eq_false c]
          refine iteT ⟨_, rfl, _, rfl, d1, _, rfl, .inl ⟨k1, .inr st.sign, rdF, rfl, rfl⟩, _, rfl, ?_⟩
          rcases kw_val st.sign a1B with ⟨sn, vn⟩ | ⟨t, wb, st2, tz, tm, vv, hwb⟩
          · rw [vn]
            have er : rowB sh p o1 st = some (st.sign, oneF p [] st.ws) := by
              unfold rowB
              rw [if_pos ⟨c, sn⟩]
            refine iteT ⟨_, rfl, by show 0 ≤ sizeLine; decide, fun e0 n0 => ?_⟩
            have u0 := same_upd (o := .tup []) n0
            have f0 := @upd_same F' e0 (.tup [])
            generalize upd F' e0 (.tup []) = F1 at *
            have dg2 : DGet F1 d2 (.str st.sign) (some (.ref wa)) := .inl ⟨k2, .inr st.sign, .inr ⟨od, u0 _ _ (sF _ _ B1)⟩, rfl, (valV_ix (kw_nd a2B ok2.nd) hk).symm⟩
            refine ⟨_, rfl, _, rfl, d2, _, rfl, dg2, v, p, e0, wa, [], st.ws, rfl, ixB.mono (sF.trans u0), f0, u0 _ _ wF, ⟨Nat.zero_le _, fun n h => by cases h⟩, ok2.wt st stm, fun F2 l gs s2 nl el ag => ?_⟩
            have s2 := u0.trans s2
            have nl := none_of u0 nl
            have eD2 := s2 _ _ eD
            have nk : st.sign ∉ (o1.filterMap (rowA sh p o2) ++ (o2.take j).filterMap (rowB sh p o1)).map (·.1) := fun hm => by
              obtain ⟨r, hr, er⟩ := List.mem_map.mp hm
              rcases List.mem_append.mp hr with hr | hr
              · obtain ⟨t, ht, e⟩ := List.mem_filterMap.mp hr
                exact selD_none sn ht (by rw [← rowA_name e, er])
              · obtain ⟨t, ht, e⟩ := List.mem_filterMap.mp hr
                obtain ⟨i, hi⟩ := List.mem_iff_getElem?.mp ht
                have il := (List.getElem?_eq_some_iff.mp hi).1
                rw [List.length_take] at il
                rw [List.getElem?_take_of_lt (by omega)] at hi
                have := ok2.uniq hi hst (by rw [← (rowB_name e).1, er])
                omega
            have e2 := put_row eD2 (ik.mono (hid_mono s2)) nk el ag fun a => by
              obtain ⟨o, eo⟩ := avo l a
              by_cases c : l = d2
              · rw [c, sF _ _ B1] at nl
                cases nl
              · rw [sF _ _ (off l o c eo)] at nl
                cases nl
            refine ⟨_, rfl, _, rfl, D, _, rfl, .inl ⟨kv', .inr st.sign, eD2, rfl, by rw [sizeLine_eq]; omega, rfl⟩, _, _, rfl, ?_, upd_same, ?_⟩
            · exact same_over (sF.trans s2) BD
            · rw [fmj, er]
              rw [List.append_assoc] at e2
              exact e2
          · rw [vv]
            exact iteF (go0 (by unfold rowB; rw [if_neg fun z => by rw [st2] at z; cases z.2]))
      · obtain ⟨y5, kv', rfl, sF, eD, ik⟩ := h
        rw [show o2.take k2.length = o2 from List.take_of_length_le (by rw [a2.1]; exact Nat.le_refl _)] at ik
        have fr := sF _ _ B1
        refine ⟨fr, _, rfl, q _ _ (uB F sF) ⟨D, kv', rfl, by rw [upd_ne D2]; exact eD, ?_⟩⟩
        refine ik.lt (fun b xs e => ?_) fun b xs e => ?_
        · have e' := hid_same _ _ e
          rw [upd_ne (fun z => by rw [z, fr] at e'; cases e')]
          exact e'
        · have e' := hid_same _ _ e
          rw [upd_ne (fun z => by rw [z, fr] at e'; cases e')]
          exact e'
end
end Fb
namespace Fb
open PySem PySem.Spec PyProof.Rows L2
section
open NdefX LamX
variable {P : Program} {w : World} {K : PySem.W.Frag} {mg : Str → Option Value} {base : Heap}
def GbF (sh : List Str) (o1 o2 : List Stp) (x : Thing) : List GRow := bsF sh x (doorOf o1 x.1) (doorOf o2 x.2)
def DomB (m1 m2 : Nat) (x : Thing) : Prop := x.1 < m1 ∧ x.2 < m2
def goalQ : Str := (("beside" : Str) ++ ".<locals>.") ++ "goals_of"
def spGoalsOf (K : PySem.W.Frag) : List (Option V) → Sp := fun ws vs H Q _ => ∃ (l1 sl l2 : Addr) (v : V) (x : Thing) (v1 v2 : List V) (sh : List Str) (m1 m2 : Nat) (o1 o2 : List Stp) (av : Addr → Prop), ws = [some (.ref l1), some (.ref sl), some (.ref l2)] ∧ vs = [v] ∧ IsThK K H v x ∧ DomB m1 m2 x ∧
  H sl = some (.lst (sh.map V.str)) ∧ H l1 = some (.lst v1) ∧ AllAre (IsDoor H) v1 (doorsL m1 o1) ∧ H l2 = some (.lst v2) ∧ AllAre (IsDoor H) v2 (doorsL m2 o2) ∧ (∀ r, DrOk (doorOf o1 r)) ∧ (∀ r, DrOk (doorOf o2 r)) ∧ (∀ a, av a → ∃ o, H a = some o) ∧
  ∀ H' u, Same H H' → IsGDict av H' u (GbF sh o1 o2 x) → Q u H'
def goalsNF (cl : List (Str × Addr)) (c : Addr) : NF := NF.of s_n_goals_of "goals_of" "beside.<locals>.goals_of" cl c
theorem door_at {H : Hp} {vs : List V} {m r : Nat} {out : List Stp} (h : AllAre (IsDoor H) vs (doorsL m out)) (hr : r < m) : ∃ v, vs[r]? = some v ∧ IsDoor H v (doorOf out r) := by
  have hd : (doorsL m out)[r]? = some (doorOf out r) := by
    unfold doorsL
    rw [List.getElem?_map, List.getElem?_range hr]
    rfl
  have hv : vs[r]? = some (vs[r]'(by have := (List.getElem?_eq_some_iff.mp hd).1; have := h.1; omega)) := List.getElem?_eq_getElem _
  exact ⟨_, hv, h.2 r _ _ hv hd⟩
theorem ok_n_goals_of (T : Txt K mg) {cl : List (Str × Addr)} {c f : Addr} : NOk P w K mg base CX0 4 f (goalsNF cl c) ["thing"] ["ours", "shared", "theirs"] (spGoalsOf K) := by
  refine nokC_of (N := ["thing", "ours", "shared", "theirs", "x", "y"]) sc_n_goals_of (fun _ _ _ us hl => match us, hl with | [_], _ => rfl) (fun ws vs H Q E h => ?_) (fun A outer s H vs ws Q E hr hf hcd hw h => ?_)
  · obtain ⟨_, _, _, v, _, _, _, _, _, _, _, _, _, _, rfl, _⟩ := h
    rfl
  · obtain ⟨l1, sl, l2, v, x, v1, v2, sh, m1, m2, o1, o2, av, rfl, rfl, ix, dm, hsl, h1, a1, h2, a2, k1, k2, avo, q⟩ := h
    refine ⟨_, (pss_cons (ps_asg (pv 0) (pg_tup (by rfl) (pgs_cons (pg_name (i := 4) sc_n_goals_of.nd rfl (.inl rfl)) (pgs_cons (pg_name (i := 5) sc_n_goals_of.nd rfl (.inl rfl)) pgs_nil))))
 (pss_one (ps_ret (pe_call (ok_p_goals_beside T) (hr.mono (by decide)) (by rfl) T.g_p_goals_beside T.F_p_goals_beside.kp T.b_p_goals_beside .nil pass0 (pa_cons (pv 2) (pa_cons (pv 0) (pa_cons (pe_ix ix_list (pv 1) (pv 4) (fun _ _ => rfl)) (pa_cons (pe_ix ix_list (pv 3) (pv 5) (fun _ _ => rfl)) pa_nil)))))))), ?_⟩
    obtain ⟨u, rfl, hu⟩ := id ix
    have hu : SqT K H u [.int (x.1 : Nat), .int (x.2 : Nat)] := hu
    refine ⟨_, rfl, u, _, rfl, hu, rfl, _, _, rfl, _, _, rfl, rfl, ?_⟩
    obtain ⟨w1, e1, p1, kv1, rfl, hp1, ak1⟩ := door_at a1 dm.1
    obtain ⟨w2, e2, p2, kv2, rfl, hp2, ak2⟩ := door_at a2 dm.2
    refine ⟨_, rfl, _, rfl, _, rfl, _, rfl, l1, v1, (x.1 : Nat), _, rfl, rfl, SqL.of h1, atI_nat e1, _, rfl, _, rfl, l2, v2, (x.2 : Nat), _, rfl, rfl, SqL.of h2, atI_nat e2, sl, p1, p2, .ref u, sh, x, kv1, kv2, doorOf o1 x.1, doorOf o2 x.2, av, rfl, hsl, ix, hp1, hp2, ak1, ak2, k1 x.1, k2 x.2, avo, q⟩
/-- as Fun.okX, the code told -/
theorem Fun.okXC {x qual : Str} {st : Stmt} {f c : Addr} {fd : FuncData} {N ps : List Str} {k : Nat} {sp : Sp} (F : Fun K x qual st f fd) (hc : fd.code = .ref c) (S : FnScope N ps (defScope st)) (len : ∀ vs H Q E, sp vs H Q E → vs.length = ps.length)
    (hbody : ∀ (A : Around) (outer : List Env) (s : Shared) (H : Hp) (vs : List V) (Q : VK) (E : XK), Room k (A.deeper (envOfC qual (defScope st) s.heap.objs.size f (.ref c))) → sp vs H Q E →
      ∃ t, PSs (cxOf (L2.CX P w) P w K mg base N qual (defScope st) f (.ref c) A outer s H E) (defBody st) t ∧ t { nx := fun _ H' => Q .non H', rt := Q } (start N vs) H) : FnOk P w K mg base (L2.CX P w) (k + 1) f fd ps sp := by
  obtain ⟨oc, od, kV, doc, pm, an, cdv, ct, osl, rfl, lk, hcd⟩ := F.ex
  obtain rfl : cdv = .ref c := hc
  exact fn_of lk hcd S len fun A outer s H vs Q E hr hsp => hbody A outer s H vs Q E hr hsp
def spFoundS (C TM : Addr) (K : PySem.W.Frag) (mk : Addr → NF) : L2.St → Sp := fun σ vs H Q E => ∃ (u0 f c' l1 sl l2 : Addr) (v1 v2 : List V) (sh : List Str) (m1 m2 : Nat) (o1 o2 : List Stp) (G : Thing → List GRow), vs = [.ref u0, .ref f] ∧ IsThK K H (.ref u0) (0, 0) ∧ H f = some (FnO f (mk c')) ∧ H (mk c').c = some (CodeO (mk c').c (mk c').qual) ∧
  [3, 0, 4].map (slotAt σ) = [some (.ref l1), some (.ref sl), some (.ref l2)] ∧ H sl = some (.lst (sh.map V.str)) ∧ H l1 = some (.lst v1) ∧ AllAre (IsDoor H) v1 (doorsL m1 o1) ∧ H l2 = some (.lst v2) ∧ AllAre (IsDoor H) v2 (doorsL m2 o2) ∧ (∀ r, DrOk (doorOf o1 r)) ∧ (∀ r, DrOk (doorOf o2 r)) ∧ GOk G (DomB m1 m2) ∧ DomB m1 m2 (0, 0) ∧ (∀ x, DomB m1 m2 x → SortedG (G x) (GbF sh o1 o2 x)) ∧
  (∀ m, AllW G (0, 0) m → ∀ H' v out, Same H H' → IsMach C H' v m out → SortedOf (stepsW G (0, 0) m) out → Q v H') ∧ (ManyW G (0, 0) → ∀ H', Same H H' → E (.ref TM) none H')
theorem found_len {C TM : Addr} {mk : Addr → NF} {E : XK} (σ : L2.St) (vs : List V) (H : Hp) (Q : VK) (h : spFoundS C TM K mk σ vs H Q E) : vs.length = ["first", "goals_of"].length := by
  obtain ⟨_, _, _, _, _, _, _, _, _, _, _, _, _, _, rfl, _⟩ := h
  rfl
theorem goals_free : ∀ y ∈ (C8.fnScope s_n_goals_of).names, y.2 = .free → (defScope s_p_beside).names.lookup y.1 = some .cell ∨ (defScope s_p_beside).names.lookup y.1 = some .free := ndef_free (fr := ["ours", "shared", "theirs"]) (by decide +kernel)
theorem goals_fr : ∀ y ∈ (["ours", "shared", "theirs"] : List Str), (y, NameKind.free) ∈ (C8.fnScope s_n_goals_of).names := ndef_fr (sc := defScope s_p_beside) (by decide +kernel)
abbrev mkG (env : Env) : Addr → NF := NF.of s_n_goals_of "goals_of" (env.qual ++ "goals_of") (cloFrom env.cells (C8.fnScope s_n_goals_of).names [])
abbrev bsN : List Str := ["shared", "one", "other", "ours", "theirs", "goals_of"]
theorem found_call (T : Txt K mg) {f c : Addr} {A : Around} {outer : List Env} {s s' : Shared} {H H' : Hp} {E : XK} {pins : List (Addr × Obj)} {σ : L2.St} {vs : List V} {Q : VK} {g : Addr} {cdv : Value}
    (I : Inv (cxOf (L2.CX P w) P w K mg base bsN "beside" (defScope s_p_beside) f (.ref c) A outer s H E) pins σ H' s')
    (hr : Room 8 ((cxOf (L2.CX P w) P w K mg base bsN "beside" (defScope s_p_beside) f (.ref c) A outer s H E).A.deeper (envOfC "found_machine" (defScope s_p_found_machine) s'.heap.objs.size g cdv)))
    (h : spFoundS T.c_Machine T.c_TooMany K (mkG (cxOf (L2.CX P w) P w K mg base bsN "beside" (defScope s_p_beside) f (.ref c) A outer s H E).env) σ vs H' Q E) :
    ∃ t, PSs (cxOf (L2.CX P w) P w K mg base ["first", "goals_of", "numbers", "found", "steps", "at", "sign", "goals", "room"] "found_machine" (defScope s_p_found_machine) g cdv (cxOf (L2.CX P w) P w K mg base bsN "beside" (defScope s_p_beside) f (.ref c) A outer s H E).A (cxOf (L2.CX P w) P w K mg base bsN "beside" (defScope s_p_beside) f (.ref c) A outer s H E).stack s' H' E) (defBody s_p_found_machine) t ∧
      t { nx := fun _ H' => Q .non H', rt := Q } (L2.start ["first", "goals_of", "numbers", "found", "steps", "at", "sign", "goals", "room"] vs) H' := by
  obtain ⟨u0, fa, c', l1, sl, l2, v1, v2, sh, m1, m2, o1, o2, G, rfl, ix0, hF, hco, hsl, hs, h1, a1, h2, a2, k1, k2, gok, d0, srt, q1, q2⟩ := h
  have C := cells_of I (Caps.made (scope := C8.fnScope s_n_goals_of) (fr := ["ours", "shared", "theirs"]) (js := [3, 0, 4]) I.ok goals_free goals_fr rfl)
  refine found_body T (F := mkG _ c') (f := fa) (sp := spGoalsOf K) (Gd := GbF sh o1 o2) hr (ok_n_goals_of T) C (fun F' v x av Q' sF hav ix dm q => ?_) hF hco ix0 gok d0 srt q1 q2
  exact ⟨l1, sl, l2, v, x, v1, v2, sh, m1, m2, o1, o2, av, hsl, rfl, ix, dm, sF _ _ hs, sF _ _ h1, a1.imp fun _ _ h => h.mono sF, sF _ _ h2, a2.imp fun _ _ h => h.mono sF, k1, k2, fun a h => (hav a h).2, q⟩
end
end Fb
namespace Fb
open PySem PySem.Spec PyProof.Rows L2
section
open NdefX LamX
variable {P : Program} {w : World} {K : PySem.W.Frag} {mg : Str → Option Value} {base : Heap}
def spBeside (C TM tp : Addr) : Sp := fun vs H Q E => ∃ (sl : Addr) (v1 v2 : V) (sh : List Str) (m1 m2 : Nat) (o1 o2 : List Stp) (G : Thing → List GRow) (TT : List (Addr × Str)), vs = [.ref sl, v1, v2] ∧ H sl = some (.lst (sh.map V.str)) ∧ sh.length ≤ 60 ∧ (∀ z ∈ sh, NmOk z) ∧ sh.Nodup ∧ IsMach C H v1 m1 o1 ∧ MOk m1 o1 ∧ IsMach C H v2 m2 o2 ∧ MOk m2 o2 ∧
  (∀ r, DrOk (doorOf o1 r)) ∧ (∀ r, DrOk (doorOf o2 r)) ∧ GOk G (DomB m1 m2) ∧ (∀ x, DomB m1 m2 x → SortedG (G x) (GbF sh o1 o2 x)) ∧ (tp, goalQ) ∈ TT ∧ (∀ p ∈ TT, p.1 = tp → p.2 = goalQ) ∧ Tabs TT H ∧
  (∀ m, AllW G (0, 0) m → ∀ H' v out, Same (noT H) H' → Tabs TT H' → IsMach C H' v m out → SortedOf (stepsW G (0, 0) m) out → Q v H') ∧ (ManyW G (0, 0) → ∀ H', Same (noT H) H' → Tabs TT H' → E (.ref TM) none H')
set_option maxHeartbeats 3000000 in
theorem ok_p_beside (T : Txt K mg) {c tp : Addr} (hc : T.d_p_beside.code = .ref c) (TB : TabB base mg c tp) : FnOk P w K mg base (L2.CX P w) 11 T.f_p_beside T.d_p_beside ["shared", "one", "other"] (spBeside T.c_Machine T.c_TooMany tp) := by
  refine Fb.Fun.okXC T.F_p_beside hc sc_p_beside (fun vs H Q E h => ?_) (fun A outer s H vs Q E hr h => ?_)
  · obtain ⟨sl, v1, v2, _, _, _, _, _, _, _, rfl, _⟩ := h
    rfl
  · obtain ⟨sl, v1, v2, sh, m1, m2, o1, o2, G, TT, rfl, hsl, l60, nms, nd, i1, ok1, i2, ok2, k1, k2, gok, srt, tin, tun, tbs, q1, q2⟩ := h
    obtain ⟨oc', od', kV', doc', pm', an', cdv', ct', osl', efd, look, rec⟩ := T.F_p_found_machine.ex
    have bnd := T.b_p_found_machine
    rw [efd] at look bnd
    have nu : ∀ p ∈ TT.map (fun p => (p.1, (fun _ _ => p.2 : Nat → Nat → Str))), p.1 = tp → p.2 = fun _ _ => goalQ := fun p hp e => by
      obtain ⟨q, hq, rfl⟩ := List.mem_map.mp hp
      show (fun _ _ => q.2) = _
      rw [tun q hq e]
    refine ⟨_, (pss_cons (ps_expr (pe_call (ok_p_check_signs T) (hr.mono (by decide)) (by rfl) T.g_p_check_signs T.F_p_check_signs.kp T.b_p_check_signs .nil pass0 (pa_cons (pv 0) pa_nil)))
 (pss_cons (ps_set (i := 3) sc_p_beside.nd rfl (.inr rfl) (pe_call (ok_p_doors_of T) (hr.mono (by decide)) (by rfl) T.g_p_doors_of T.F_p_doors_of.kp T.b_p_doors_of .nil pass0 (pa_cons (pv 1) pa_nil)))
 (pss_cons (ps_set (i := 4) sc_p_beside.nd rfl (.inr rfl) (pe_call (ok_p_doors_of T) (hr.mono (by decide)) (by rfl) T.g_p_doors_of T.F_p_doors_of.kp T.b_p_doors_of .nil pass0 (pa_cons (pv 2) pa_nil)))
 (pss_cons (ps_ndefMS (st := s_n_goals_of) (T := TT.map fun p => (p.1, fun _ _ => p.2)) (nm := fun _ _ => goalQ) (i := 5) rfl TB rfl (List.mem_map.mpr ⟨_, tin, rfl⟩) rfl nu goals_free rfl rfl rfl sc_p_beside.nd rfl (.inl rfl) (.inl rfl))
 (pss_one (ps_ret (pe_callS (sp := spFoundS T.c_Machine T.c_TooMany K (mkG (envOfC "beside" (defScope s_p_beside) s.heap.objs.size T.f_p_beside (.ref c)))) (by rfl) T.g_p_found_machine T.F_p_found_machine.kp look rec bnd sc_p_found_machine (hr.mono (by decide)) (passes_call (takes_of (E := E) rfl rfl rfl rfl) fun _ _ _ _ h => h) (pa_cons (pe_glob (v := .ref T.u_START) (by rfl) T.g_START rfl) (pa_cons (pv 5) pa_nil)) found_len (fun _ _ _ _ _ _ I hr' h => found_call T I hr' h)))))))), ?_⟩
    refine ⟨_, rfl, sl, sh, rfl, hsl, l60, nms, nd, fun H1 s1 => ?_⟩
    refine ⟨_, rfl, v1, m1, o1, rfl, i1.mono s1, ok1, fun H2 p1 xs1 s2 np1 e1 a1 => ?_⟩
    refine ⟨_, rfl, v2, m2, o2, rfl, (i2.mono s1).mono s2, ok2, fun H3 p2 xs2 s3 np2 e2 a2 => ?_⟩
    have s13 := s1.trans (s2.trans s3)
    refine ⟨ntabs (tabs_same tbs s13), fun f c' H4 eN nn T4 nf eF eC => ?_⟩
    have hT : ∀ b o, H3 b = some o → (∀ ps, o ≠ .tbl ps) → H4 b = some o := fun b o e n => eN b o e n
    have s04 : Same (noT H) H4 := noT_trans (fun b o h => s13 _ _ (noT_of h).1) eN
    have drK : ∀ {v d}, IsDoor H3 v d → IsDoor H4 v d := fun {v d} ⟨p, kvs, e, h, a⟩ => ⟨p, kvs, e, hT _ _ h (fun _ => nofun), a.imp fun _ _ e => hT _ _ e (fun _ => nofun)⟩
    refine ⟨_, rfl, T.u_START, f, c', p1, sl, p2, xs1, xs2, sh, m1, m2, o1, o2, G, rfl, ⟨_, rfl, T.q_START.sq⟩, eF, eC, rfl, hT _ _ (s13 _ _ hsl) (fun _ => nofun), hT _ _ (s3 _ _ e1) (fun _ => nofun), a1.imp fun _ _ h => drK (h.mono s3), hT _ _ e2 (fun _ => nofun), a2.imp fun _ _ h => drK h, k1, k2, gok, ⟨ok1.ok.m1, ok2.ok.m1⟩, srt, fun m a H' v out s im so => q1 m a H' v out (s04.trans s) (tabs_same (tabs_back T4) s) im so, fun a H' s => q2 a H' (s04.trans s) (tabs_same (tabs_back T4) s)⟩
end
end Fb
namespace Fb
open PySem PySem.Spec PyProof.Rows L2
section
variable {P : Program} {w : World} {K : PySem.W.Frag} {mg : Str → Option Value} {base : Heap}
def spDiv : Sp := fun vs H Q _ => ∃ (wa : Addr) (ws : List Nat), vs = [.ref wa] ∧ H wa = some (.lst (nts ws)) ∧ (∃ n ∈ ws, 0 < n) ∧ (∀ n ∈ ws, n < 2 ^ 4000) ∧ ws.length ≤ 900 ∧ ∀ H' r, Same H H' → H' r = some (.tup (nts (low ws))) → Q (.ref r) H'
theorem ok_l_divided (T : Txt K mg) : FnOk P w K mg base CX0 1 T.f_l_divided T.d_l_divided ["_law_weights_here"] spDiv := by
  refine T.F_l_divided.ok sc_l_divided (fun vs H Q E h => ?_) (fun cdv A outer s H vs Q E hr h => ?_)
  · obtain ⟨wa, ws, rfl, _⟩ := h
    rfl
  · obtain ⟨wa, ws, rfl, hw, pos, bd, l9, q⟩ := h
    refine ⟨_, (pss_cons (ps_set (i := 1) sc_l_divided.nd rfl (.inr rfl) pe_int)
 (pss_cons (ps_for PassesOwn.never rfl (pi_list (pv 0)) (pg_name (i := 2) sc_l_divided.nd rfl (.inl rfl))
  (pss_cons (ps_par (i := 3) (j := 4) (by rfl) sc_l_divided.nd rfl rfl (by decide) rfl rfl (pa_cons (pv 1) (pa_cons (pv 2) pa_nil)) (by rfl))
 (pss_cons (ps_while PassesOwn.never (pt_cmpR op_gt (pv 4) pe_int (nomark _))
  (pss_one (ps_par (i := 3) (j := 4) (by rfl) sc_l_divided.nd rfl rfl (by decide) rfl rfl (pa_cons (pv 4) (pa_cons (pe_op op_mod (pv 3) (pv 4)) pa_nil)) (by rfl))))
 (pss_one (ps_set (i := 1) sc_l_divided.nd rfl (.inr rfl) (pv 3))))))
 (pss_one (ps_ret (pe_callTy call_tuple_of (by rfl) T.z_tuple (by decide +kernel) (pa_cons (pe_lc (own := [("_law_weight", 2)]) (g := (gName 2)) (tt := tYes) (by rfl) sc_l_divided.nd (pi_list (pv 0)) (blkOk_by (own := [("_law_weight", 2)]) (N := ["_law_weights_here", "_law_by_here", "_law_weight", "_law_one_here", "_law_other"]) (sc := defScope s_l_divided) (by decide +kernel)) (fun _ _ _ _ _ => by exact (pg_name (i := 2) sc_l_divided.nd rfl (.inl rfl))) (fun _ _ _ _ _ => by exact pts_nil) (fun _ _ _ _ _ => by exact (pe_op op_fdivW (pv 2) (pv 1)))) pa_nil)))))), ?_⟩
    have lw : (nts ws).length = ws.length := List.length_map ..
    refine ⟨_, rfl, wa, rfl, ⟨_, SqL.of hw⟩, for_list (K := K) (a := wa) (xs := nts ws) (fun i σ H' => ∃ y2 y3 y4, σ = [some (.ref wa), some (.int (gcdF 0 (ws.take i) : Nat)), y2, y3, y4] ∧ H' = H) ⟨_, _, _, rfl, rfl⟩ (fun i σ H' _ h => ?_) (fun i x σ H' hi h => ?_) (fun σ H' h => ?_)⟩
    · obtain ⟨_, _, _, _, rfl⟩ := h
      exact SqL.of hw
    · obtain ⟨y2, y3, y4, rfl, rfl⟩ := h
      obtain ⟨n, hn, rfl⟩ := nts_at hi
      have et : gcdF 0 (ws.take (i + 1)) = Nat.gcd n (gcdF 0 (ws.take i)) := by rw [List.take_add_one, hn]; exact gcdF_snoc n _ 0
      generalize gcdF 0 (ws.take i) = g at *
      refine ⟨_, rfl, _, rfl, _, _, rfl, ?_⟩
      refine ⟨fun m σ H'' => ∃ x y : Nat, σ = [some (.ref wa), some (.int (g : Nat)), some (.int (n : Nat)), some (.int (x : Nat)), some (.int (y : Nat))] ∧ m = y ∧ Nat.gcd x y = Nat.gcd n g ∧ H'' = H', ⟨_, g, n, rfl, rfl, Nat.gcd_comm _ _, rfl⟩, fun m σ H'' hW => ?_⟩
      obtain ⟨x, y, rfl, rfl, hg, rfl⟩ := hW
      refine ⟨_, rfl, _, _, rfl, rfl, _, rfl, ite2 (fun h => ?_) (fun h => ?_)⟩
      · have hy : 0 < m := by
          have : (0 : Int) < (m : Int) := of_decide_eq_true h
          omega
        refine ⟨fun σ' H3 => σ' = [some (.ref wa), some (.int (g : Nat)), some (.int (n : Nat)), some (.int (m : Nat)), some (.int ((x % m : Nat) : Int))] ∧ H3 = H'', fun σ' H3 h => ?_, ?_⟩
        · obtain ⟨rfl, rfl⟩ := h
          refine ⟨_, Nat.mod_lt x hy, m, _, rfl, rfl, ?_, rfl⟩
          rw [← hg, Nat.gcd_comm x m, Nat.gcd_rec m x]
          exact Nat.gcd_comm _ _
        · refine ⟨_, rfl, _, rfl, _, rfl, _, _, rfl, rfl, (show (0 : Int) < (m : Int) by omega), _, _, rfl, ?_, rfl⟩
          rw [Int.natCast_emod]
          rfl
      · have hy : m = 0 := by
          have : ¬ (0 : Int) < (m : Int) := fun z => h (decide_eq_true z)
          omega
        subst hy
        refine ⟨_, rfl, ?_⟩
        rw [Nat.gcd_zero_right] at hg
        refine ⟨some (.int ((n : Nat) : Int)), some (.int ((x : Nat) : Int)), some (.int ((0 : Nat) : Int)), ?_, rfl⟩
        rw [et, ← hg]
        rfl
    · obtain ⟨y2, y3, y4, rfl, rfl⟩ := h
      rw [lw, List.take_length]
      have g0 : 0 < gcdF 0 ws := gcdF_pos pos
      obtain ⟨n0, hn0, h0⟩ := pos
      have gl : gcdF 0 ws < 2 ^ 4000 := Nat.lt_of_le_of_lt (Nat.le_of_dvd h0 ((gcdF_dvd ws 0).2 n0 hn0)) (bd n0 hn0)
      refine ⟨_, rfl, wa, rfl, ⟨_, SqL.of hw⟩, fun D nD => lc_allW (walk_list (K := K) (a := wa) (xs := nts ws)) (fun i y _ => ∃ n, ws[i]? = some n ∧ y = .int ((n / gcdF 0 ws : Nat))) (fun _ _ _ _ _ h => h) nD (fun H' s => SqL.of (s _ _ hw)) (by omega) (fun i v H2 H3 k hi s2 eD y hk => ?_) (fun H2 ys s2 e l r => ?_)⟩
      · obtain ⟨rfl, hv⟩ := y
        obtain ⟨n, hn, rfl⟩ := nts_at hv
        refine ⟨rfl, _, rfl, _, rfl, _, _, rfl, rfl, wide_div (b := 4000) (by omega) (nat_abs gl) (by decide) (by decide), hk _ _ (Same.refl _) ⟨n, hn, ?_⟩⟩
        dsimp only
        rw [Int.natCast_ediv]
      · have ey : ys = nts (low ws) := by
          refine List.ext_getElem? fun i => ?_
          by_cases hi : i < ys.length
          · obtain ⟨n, hn, hy⟩ := r i _ (List.getElem?_eq_getElem hi)
            rw [List.getElem?_eq_getElem hi, hy]
            unfold nts low
            rw [List.map_map, List.getElem?_map, hn]
            rfl
          · rw [List.getElem?_eq_none (by omega), List.getElem?_eq_none (by simp [nts, low]; omega)]
        rw [ey] at e
        refine ⟨D, _, rfl, .inl ⟨SqL.of e, fun t nt => ?_⟩⟩
        exact q _ t ((s2.trans hid_same).trans (same_upd nt)) upd_same
end
end Fb
namespace Fb
open PySem PySem.Spec PyProof.Rows L2
section
variable {P : Program} {w : World} {K : PySem.W.Frag} {mg : Str → Option Value} {base : Heap}
def IsSw (H : Hp) (y : V) (s : Stp) : Prop := ∃ t wa, y = .ref t ∧ H t = some (.tup [.str s.sign, .ref wa]) ∧ H wa = some (.tup (nts s.ws))
theorem IsSw.mono {H H' : Hp} {y : V} {s : Stp} (h : IsSw H y s) (m : Same H H') : IsSw H' y s := by
  obtain ⟨t, wa, e, h1, h2⟩ := h
  exact ⟨t, wa, e, m _ _ h1, m _ _ h2⟩
def IsKv (H : Hp) (kv : Key × V) (s : Stp) : Prop := ∃ wa, kv = (.inr s.sign, .ref wa) ∧ H wa = some (.tup (nts s.ws))
theorem pairs_of {H : Hp} : ∀ {ys : List V} {l : List Stp}, AllAre (IsSw H) ys l → ∃ (ps : List Addr) (kvs : List (Key × V)), ys = ps.map V.ref ∧ Paired (fun p kv => SqT K H p [kV kv.1, kv.2]) ps kvs ∧ Paired (IsKv H) kvs l
  | [], [], _ => ⟨[], [], rfl, .nil, .nil⟩
  | y :: ys, s :: l, h => by
    obtain ⟨t, wa, e, h1, h2⟩ := h.2 0 y s rfl rfl
    obtain ⟨ps, kvs, e1, e2, e3⟩ := pairs_of (ys := ys) (l := l) ⟨by simpa using h.1, fun i a b h1 h2 => h.2 (i + 1) a b (by simpa using h1) (by simpa using h2)⟩
    exact ⟨t :: ps, (.inr s.sign, .ref wa) :: kvs, by rw [e, e1]; rfl, .cons (.inl (.inl h1)) e2, .cons ⟨wa, rfl, h2⟩ e3⟩
  | [], _ :: _, h => by simp [AllAre] at h
  | _ :: _, [], h => by simp [AllAre] at h
theorem kv_keys {H : Hp} : ∀ {kvs : List (Key × V)} {l : List Stp}, Paired (IsKv H) kvs l → kvs.map (·.1) = (l.map Stp.sign).map Sum.inr
  | [], [], _ => rfl
  | kv :: kvs, s :: l, .cons h t => by
    obtain ⟨wa, rfl, _⟩ := h
    rw [List.map_cons, List.map_cons, List.map_cons, kv_keys t]
theorem valV_out {kvs : List (Key × V)} {k : Key} (h : k ∉ kvs.map (·.1)) : valV kvs k = none := by
  unfold valV
  rw [List.find?_eq_none.mpr fun kv hkv => by simpa using fun e => h (List.mem_map.mpr ⟨kv, hkv, e⟩)]
  rfl
theorem merge_new : ∀ {kvs acc : List (Key × V)}, ((acc ++ kvs).map (·.1)).Nodup → mergeK acc kvs = acc ++ kvs
  | [], acc, _ => (List.append_nil _).symm
  | kv :: kvs, acc, h => by
    have hk : kv.1 ∉ acc.map (·.1) := fun hm => by
      rw [List.map_append, List.nodup_append] at h
      exact h.2.2 _ hm _ (List.mem_map.mpr ⟨kv, List.mem_cons_self, rfl⟩) rfl
    show mergeK (putK acc kv.1 kv.2) kvs = _
    rw [putK_new _ (valV_out hk)]
    have e : acc ++ kv :: kvs = (acc ++ [(kv.1, kv.2)]) ++ kvs := by simp
    rw [e]
    rw [e] at h
    exact merge_new h
end
end Fb
namespace Fb
open PySem PySem.Spec PyProof.Rows L2
section
variable {P : Program} {w : World} {K : PySem.W.Frag} {mg : Str → Option Value} {base : Heap}
theorem kw_of {H : Hp} {kvs : List (Key × V)} {l : List Stp} (h : Paired (IsKv H) kvs l) : AreKw H kvs l := by
  induction h with
  | nil => exact ⟨rfl, fun i kv s h => by simp at h⟩
  | cons h t ih =>
    refine ⟨by rw [List.length_cons, List.length_cons, ih.1], fun i kv s h1 h2 => ?_⟩
    match i with
    | 0 =>
      cases h1
      cases h2
      exact h
    | i + 1 => exact ih.2 i kv s h1 h2
theorem door_once {ss : List Stp} (once : (ss.map Stp.key).Nodup) (r : Nat) : ((doorOf ss r).map (·.sign)).Nodup := by
  refine List.pairwise_map.mpr ?_
  unfold doorOf
  refine (List.Pairwise.filter _ (List.pairwise_map.mp once)).imp_of_mem fun {a b} ha hb h e => h ?_
  have ra := of_decide_eq_true (List.mem_filter.mp ha).2
  have rb := of_decide_eq_true (List.mem_filter.mp hb).2
  exact Prod.ext (by show (a.room : Int) = b.room; rw [ra, rb]) e
def spBy : Sp := fun vs H Q _ => ∃ (l : Addr) (r : Nat) (ss : List Stp) (xs : List V), vs = [.ref l, .int (r : Nat)] ∧ H l = some (.lst xs) ∧ AllAre (IsStp H) xs ss ∧ ss.length < 60 ∧ (ss.map Stp.key).Nodup ∧
  ∀ H' d kvs, Same H H' → H' d = some (.dK kvs) → AreKw H' kvs (doorOf ss r) → Q (.ref d) H'
theorem ok_l_by (T : Txt K mg) : FnOk P w K mg base CX0 1 T.f_l_by T.d_l_by ["_law_steps", "_law_room"] spBy := by
  refine T.F_l_by.ok sc_l_by (fun vs H Q E h => ?_) (fun cdv A outer s H vs Q E hr h => ?_)
  · obtain ⟨l, r, ss, xs, rfl, _⟩ := h
    rfl
  · obtain ⟨l, r, ss, xs, rfl, hl, av, few, once, q⟩ := h
    refine ⟨_, (pss_one (ps_ret (pe_callTy (call_dictP rfl) (by rfl) T.z_dict (by decide +kernel) (pa_cons (pe_lc (own := [("_law_here", 2), ("_law_sign", 3), ("_law_weights_here", 4)]) (g := (gTup K 3 (gCons (gName 2) (gCons (gName 3) (gCons (gName 4) gNil))))) (tt := _) (by rfl) sc_l_by.nd (pi_list (pv 0)) (blkOk_by (own := [("_law_here", 2), ("_law_sign", 3), ("_law_weights_here", 4)]) (N := ["_law_steps", "_law_room", "_law_here", "_law_sign", "_law_weights_here"]) (sc := defScope s_l_by) (by decide +kernel)) (fun _ _ _ _ _ => by exact (pg_tup (by rfl) (pgs_cons (pg_name (i := 2) sc_l_by.nd rfl (.inl rfl)) (pgs_cons (pg_name (i := 3) sc_l_by.nd rfl (.inl rfl)) (pgs_cons (pg_name (i := 4) sc_l_by.nd rfl (.inl rfl)) pgs_nil))))) (fun _ _ _ _ _ => by exact (pts_one (pt_cmpR op_eq (pv 2) (pv 1) (nomark _)))) (fun _ _ _ _ _ => by exact (pe_tup (pa_cons (pv 3) (pa_cons (pv 4) pa_nil))))) pa_nil)))), ?_⟩
    have lv : xs.length = ss.length := av.1
    refine ⟨_, rfl, l, rfl, ⟨_, SqL.of hl⟩, fun D nD => lc_filtW (walk_list (K := K) (a := l) (xs := xs)) (fun i => (ss[i]?).any fun s => decide (s.room = r)) (fun i y G => ∃ s, ss[i]? = some s ∧ IsSw G y s) (fun _ _ _ _ s h => h.elim fun st f => ⟨st, f.1, f.2.mono s⟩) nD (fun H' s => SqL.of (s _ _ hl)) (by omega) (fun i x H3 H4 kt kf hi s3 eD y hkt hkf => ?_) (fun H3 ys s3 e3 a3 => ?_)⟩
    · obtain ⟨rfl, hv⟩ := y
      obtain ⟨st, hst, t, wa, rfl, ht, hw⟩ := av.at hv
      simp only [hst, Option.any_some] at hkt hkf
      have sA := s3.trans (hid_same (a := D))
      have ht' := sA _ _ ht
      refine ⟨t, _, rfl, .inl (.inl ht'), rfl, _, _, rfl, _, _, rfl, _, _, rfl, rfl, rfl, _, rfl, _, rfl, rfl, _, rfl, ?_⟩
      by_cases c : st.room = r
      · rw [decide_eq_true c] at hkt
        rw [c, decide_eq_true rfl]
        refine iteT ⟨_, rfl, _, rfl, by show 2 ≤ sizeLine; decide, fun t2 n2 => ?_⟩
        have u2 := same_upd (o := .tup [.str st.sign, .ref wa]) n2
        obtain ⟨zs, eD⟩ := eD
        have eD2 := u2 _ _ eD
        exact hkt rfl _ _ u2 ⟨st, rfl, t2, wa, rfl, hid_no ⟨_, eD2⟩ upd_same (fun _ => nofun), hid_no ⟨_, eD2⟩ (u2 _ _ (sA _ _ hw)) (fun _ => nofun)⟩
      · rw [decide_eq_false c] at hkf
        rw [decide_eq_false (fun z => c (by have := V.int.inj z; omega))]
        exact iteF (hkf rfl _ (Same.refl _))
    · rw [lv] at a3
      have h1 := filt_are (R := fun y s => IsSw (hid D H3) y s) (p := fun s => decide (s.room = r)) ss.length ys (Nat.le_refl _) a3
      rw [List.take_length] at h1
      have h2 : AllAre (IsSw H3) ys (doorOf ss r) := h1.imp fun _ _ h => h.mono hid_same
      obtain ⟨ps, kvs, rfl, pp, pk⟩ := pairs_of h2
      have s3' := s3.trans (hid_same (a := D))
      have mk : mergeK [] kvs = kvs := by
        rw [merge_new (acc := []) (by
          rw [List.nil_append, kv_keys pk]
          exact List.pairwise_map.mpr ((door_once once r).imp fun h e => h (Sum.inr.inj e))), List.nil_append]
      refine at_nil ⟨D, ps, kvs, rfl, SqL.of e3, pp, fun p np => ?_⟩
      rw [mk]
      have u := same_upd (o := .dK kvs) np
      exact q _ p kvs (s3'.trans u) upd_same ((kw_of pk).imp fun _ _ e => u _ _ e)
def spBoth : Sp := fun vs H Q _ => ∃ (a b : Addr) (ws us : List Nat), vs = [.ref a, .ref b] ∧ H a = some (.tup (nts ws)) ∧ H b = some (.tup (nts us)) ∧ WtOk ws ∧ WtOk us ∧
  ∀ H' p gs, Same H H' → H' p = some (.lst gs) → AllAre (IsGoal H') gs (onceF ws us) → Q (.ref p) H'
theorem at_len (i c : Nat) (us : List Nat) : (atF i c us).length = us.length := by unfold atF; rw [List.length_map, List.length_range]
theorem once_take {ws us : List Nat} {j : Nat} (h : j < ws.length) : (((List.range ws.length).take (j + 1)).map fun i => atF i (ws.getD i 0) us).flatten = (((List.range ws.length).take j).map fun i => atF i (ws.getD i 0) us).flatten ++ atF j (ws.getD j 0) us := by
  rw [List.take_add_one, List.getElem?_range h, List.map_append, List.flatten_append]
  simp
theorem ok_l_both (T : Txt K mg) : FnOk P w K mg base CX0 1 T.f_l_both T.d_l_both ["_law_mine", "_law_yours"] spBoth := by
  refine T.F_l_both.ok sc_l_both (fun vs H Q E h => ?_) (fun cdv A outer s H vs Q E hr h => ?_)
  · obtain ⟨a, b, _, _, rfl, _⟩ := h
    rfl
  · obtain ⟨a, b, ws, us, rfl, ha, hb, wo, uo, q⟩ := h
    refine ⟨_, (pss_cons (ps_set (i := 2) sc_l_both.nd rfl (.inl rfl) (pe_lst pa_nil))
 (pss_cons (ps_for PassesOwn.never rfl (pi_enumT (by rfl) T.z_enumerate (pa_cons (pv 0) pa_nil)) (pg_tup (by rfl) (pgs_cons (pg_name (i := 3) sc_l_both.nd rfl (.inr rfl)) (pgs_cons (pg_name (i := 4) sc_l_both.nd rfl (.inr rfl)) pgs_nil)))
  (pss_one (ps_set (i := 2) sc_l_both.nd rfl (.inl rfl) (pe_op op_cat (pv 2) (pe_lc (own := [("_law_y", 5), ("_law_more", 6)]) (g := (gTup K 2 (gCons (gName 5) (gCons (gName 6) gNil)))) (tt := tYes) (by rfl) sc_l_both.nd (pi_enumT (by rfl) T.z_enumerate (pa_cons (pv 1) pa_nil)) (blkOk_by (own := [("_law_y", 5), ("_law_more", 6)]) (N := ["_law_mine", "_law_yours", "_law_found", "_law_x", "_law_weight", "_law_y", "_law_more"]) (sc := defScope s_l_both) (by decide +kernel)) (fun _ _ _ _ _ => by exact (pg_tup (by rfl) (pgs_cons (pg_name (i := 5) sc_l_both.nd rfl (.inl rfl)) (pgs_cons (pg_name (i := 6) sc_l_both.nd rfl (.inl rfl)) pgs_nil)))) (fun _ _ _ _ _ => by exact pts_nil) (fun _ _ _ _ _ => by exact (pe_tup (pa_cons (pe_tup (pa_cons (pv 3) (pa_cons (pv 5) pa_nil))) (pa_cons (pe_op op_mulW (pv 4) (pv 6)) pa_nil)))))))))
 (pss_one (ps_ret (pv 2))))), ?_⟩
    refine ⟨Nat.zero_le _, fun l nl => ?_⟩
    have s1 := same_upd (o := .lst []) nl
    have e1 := @upd_same H l (.lst [])
    generalize upd H l (.lst []) = H1 at *
    refine ⟨_, rfl, a, _, rfl, .inl (.inl (s1 _ _ ha)), for_it (walk_nts (a := a) (us := ws)) (fun j σ F => ∃ (z3 z4 z5 z6 : Option V) (l : Addr) (gs : List V), σ = [some (.ref a), some (.ref b), some (.ref l), z3, z4, z5, z6] ∧ Same H F ∧ F l = some (.lst gs) ∧ gs.length ≤ 12 * j ∧ AllAre (IsGoal F) gs (((List.range ws.length).take j).map fun i => atF i (ws.getD i 0) us).flatten) ⟨_, _, _, _, l, [], rfl, s1, e1, Nat.zero_le _, .nil⟩ (fun j σ F _ h => ?_) (fun j x σ F F' hj h y => ?_) (fun σ F h => ?_)⟩
    · obtain ⟨_, _, _, _, _, _, _, sF, _⟩ := h
      exact .inl (.inl (sF _ _ ha))
    · obtain ⟨z3, z4, z5, z6, l, gs, rfl, sF, el, lg, ag⟩ := h
      obtain ⟨T1, x1, x2, rfl, nT, rfl, hx1, hx2⟩ := y
      cases hx1
      have hx2 : (nts ws)[j]? = some x2 := hx2
      obtain ⟨rfl, il⟩ := nts_get hx2
      have sT := same_upd (o := .tup [.int (j : Nat), .int (ws.getD j 0 : Nat)]) nT
      refine ⟨T1, _, rfl, .inl (.inl upd_same), rfl, _, _, rfl, _, _, rfl, rfl, ?_⟩
      have hb9 := sT _ _ (sF _ _ hb)
      generalize upd F T1 (.tup [.int (j : Nat), .int (ws.getD j 0 : Nat)]) = F1 at *
      refine ⟨_, rfl, _, rfl, b, _, rfl, .inl (.inl hb9), fun D nD => lc_allW (walk_nts (a := b) (us := us)) (fun i y G => IsGoal G y ((j, i), ws.getD j 0 * us.getD i 0)) (fun _ _ _ _ s h => h.mono s) nD (fun H' s => .inl (.inl (s _ _ hb9))) (by have := uo.1; omega) (fun i x H4 H5 kk hi s4 eD y hk => ?_) (fun H4 g2 s4 e4 l4 r4 => ?_)⟩
      · obtain ⟨T1, x1, x2, rfl, nT, rfl, hx1, hx2⟩ := y
        cases hx1
        have hx2 : (nts us)[i]? = some x2 := hx2
        obtain ⟨rfl, il⟩ := nts_get hx2
        have u0 := same_upd (o := .tup [.int (i : Nat), .int (us.getD i 0 : Nat)]) nT
        refine ⟨T1, _, rfl, .inl (.inl upd_same), rfl, _, _, rfl, _, _, rfl, rfl, wipe2 (by decide) (by decide), ?_⟩
        generalize upd H4 T1 (.tup [.int (i : Nat), .int (us.getD i 0 : Nat)]) = H5 at *
        refine ⟨_, rfl, _, rfl, by show 2 ≤ sizeLine; decide, fun t2 nt2 => ?_⟩
        have u1 := same_upd (o := .tup [.int (j : Nat), .int (i : Nat)]) nt2
        have f2 := @upd_same H5 t2 (.tup [.int (j : Nat), .int (i : Nat)])
        generalize upd H5 t2 (.tup [.int (j : Nat), .int (i : Nat)]) = H6 at *
        refine ⟨_, rfl, _, rfl, _, _, rfl, rfl, wm_nat (lt410 (wo.at j)) (lt410 (uo.at i)), at_nil ⟨by show 2 ≤ sizeLine; decide, fun t3 nt3 => ?_⟩⟩
        have u2 := same_upd (o := .tup [.ref t2, .int ((ws.getD j 0 : Nat) * (us.getD i 0 : Nat) : Int)]) nt3
        have uA := u0.trans (u1.trans u2)
        have eD3 := eD.imp fun _ e => uA _ _ e
        refine hk _ _ uA ⟨t3, .ref t2, rfl, ?_, t2, rfl, hid_no eD3 (u2 _ _ f2) (fun _ => nofun)⟩
        show hid D _ t3 = some (.tup [.ref t2, .int ((ws.getD j 0 * us.getD i 0 : Nat) : Int)])
        rw [Int.natCast_mul]
        exact hid_no eD3 upd_same (fun _ => nofun)
      have s4' := s4.trans (hid_same (a := D))
      have a2 := goals_are l4 r4
      have el4 := s4' _ _ (sT _ _ el)
      refine ⟨l, D, gs, g2, rfl, rfl, el4, e4, ?_, fun l' nl' => ?_⟩
      · rw [l4]
        have := wo.1
        have := uo.1
        exact Nat.le_of_lt (small1000 (by omega))
      have u5 := same_upd (o := .lst (gs ++ g2)) nl'
      refine ⟨_, _, _, _, l', gs ++ g2, rfl, sF.trans (sT.trans (s4'.trans u5)), upd_same, ?_, ?_⟩
      · rw [List.length_append, l4]
        have := uo.1
        omega
      · rw [once_take hj]
        exact (ag.imp fun _ _ h => h.mono (sT.trans (s4'.trans u5))).append (a2.imp fun _ _ h => h.mono u5)
    · obtain ⟨z3, z4, z5, z6, l, gs, rfl, sF, el, lg, ag⟩ := h
      rw [List.take_of_length_le (by rw [List.length_range]; exact Nat.le_refl _)] at ag
      exact ⟨_, rfl, q F l gs sF el ag⟩
end
end Fb
namespace Fb
open PySem PySem.Spec PyProof.Rows L2
section
variable {P : Program} {w : World} {K : PySem.W.Frag} {mg : Str → Option Value} {base : Heap}
def wsD (z : Str) (o : List Stp) : List Nat := (wsOf z o).getD []
def onwF (sh : List Str) (p : Thing) (o1 o2 : List Stp) (z : Str) : Goals := if z ∈ sh then onceF (wsD z o1) (wsD z o2) else oneF p (wsD z o1) (wsD z o2)
theorem wsD_ok {o : List Stp} (h : DrOk o) (z : Str) : WtOk (wsD z o) := by
  unfold wsD wsOf
  cases e : selD z o with
  | none => exact ⟨Nat.zero_le _, fun n h => by cases h⟩
  | some s => exact h.wt s (List.mem_of_find?_eq_some e)
theorem get_ws {F : Hp} {k : List (Key × V)} {o : List Stp} (a : AreKw F k o) (z : Str) {e0 : Addr} (h0 : F e0 = some (.tup [])) : ∃ wa, (valV k (.inr z)).getD (.ref e0) = .ref wa ∧ F wa = some (.tup (nts (wsD z o))) := by
  unfold wsD wsOf
  rcases kw_val z a with ⟨sn, vn⟩ | ⟨t, wb, st2, tz, tm, vv, hwb⟩
  · exact ⟨e0, by rw [vn]; rfl, by rw [sn]; exact h0⟩
  · exact ⟨wb, by rw [vv]; rfl, by rw [st2]; exact hwb⟩
theorem get_near {F : Hp} {k : List (Key × V)} {o : List Stp} (a : AreKw F k o) (ok : DrOk o) (z : Str) {e0 : Addr} (h0 : F e0 = some (.tup [.int 1])) : ∃ wa ns, (valV k (.inr z)).getD (.ref e0) = .ref wa ∧ F wa = some (.tup (nts ns)) ∧ ns.sum = nearW (wsD z o) := by
  unfold wsD wsOf
  rcases kw_val z a with ⟨sn, vn⟩ | ⟨t, wb, st2, tz, tm, vv, hwb⟩
  · exact ⟨e0, [1], by rw [vn]; rfl, h0, by rw [sn]; rfl⟩
  · refine ⟨wb, t.ws, by rw [vv]; rfl, hwb, ?_⟩
    rw [st2]
    show _ = nearW t.ws
    unfold nearW
    rw [if_neg (ok.ne t tm)]
def spOnw : Sp := fun vs H Q _ => ∃ (sl d1 d2 : Addr) (v : V) (z : Str) (sh : List Str) (p : Thing) (k1 k2 : List (Key × V)) (o1 o2 : List Stp), vs = [.ref sl, v, .ref d1, .ref d2, .str z] ∧ H sl = some (.lst (sh.map V.str)) ∧ IsThing H v p ∧ H d1 = some (.dK k1) ∧ H d2 = some (.dK k2) ∧ AreKw H k1 o1 ∧ AreKw H k2 o2 ∧ DrOk o1 ∧ DrOk o2 ∧
  ∀ H' l gs, Same H H' → H' l = some (.lst gs) → AllAre (IsGoal H') gs (onwF sh p o1 o2 z) → Q (.ref l) H'
set_option maxHeartbeats 2000000 in
theorem ok_l_onward (T : Txt K mg) : FnOk P w K mg base CX0 2 T.f_l_onward T.d_l_onward ["_law_shared", "_law_pair", "_law_mine", "_law_yours", "_law_sign"] spOnw := by
  refine T.F_l_onward.ok sc_l_onward (fun vs H Q E h => ?_) (fun cdv A outer s H vs Q E hr h => ?_)
  · obtain ⟨_, _, _, v, _, _, _, _, _, _, _, rfl, _⟩ := h
    rfl
  · obtain ⟨sl, d1, d2, v, z, sh, p, k1, k2, o1, o2, rfl, hsl, ⟨u, rfl, hu⟩, h1, h2, a1, a2, ok1, ok2, q⟩ := h
    refine ⟨_, (pss_cons (ps_asg (pv 1) (pg_tup (by rfl) (pgs_cons (pg_name (i := 5) sc_l_onward.nd rfl (.inr rfl)) (pgs_cons (pg_name (i := 6) sc_l_onward.nd rfl (.inr rfl)) pgs_nil))))
 (pss_cons (ps_if (pt_cmpR op_in_seq (pv 4) (pv 0) (by with_unfolding_all rfl))
  (pss_one (ps_ret (pe_call (ok_l_both T) (hr.mono (by decide)) (by rfl) T.g_l_both T.F_l_both.kp T.b_l_both .nil pass0 (pa_cons (pe_dget2 (units1 hr.units) (pv 2) (pv 4) (pe_tup pa_nil) ⟨rfl, rfl, rfl, rfl⟩) (pa_cons (pe_dget2 (units1 hr.units) (pv 3) (pv 4) (pe_tup pa_nil) ⟨rfl, rfl, rfl, rfl⟩) pa_nil)))))
  pss_nil)
 (pss_cons (ps_set (i := 7) sc_l_onward.nd rfl (.inr rfl) (pe_lc (own := [("_law_some", 9)]) (g := (gName 9)) (tt := tYes) (by rfl) sc_l_onward.nd (pi_tup (pe_tup (pa_cons (pv 2) (pa_cons (pv 3) pa_nil)))) (blkOk_by (own := [("_law_some", 9)]) (N := ["_law_shared", "_law_pair", "_law_mine", "_law_yours", "_law_sign", "_law_x", "_law_y", "_law_sums", "_law_found", "_law_some", "_law_to", "_law_weight"]) (sc := defScope s_l_onward) (by decide +kernel)) (fun _ _ _ _ _ => by exact (pg_name (i := 9) sc_l_onward.nd rfl (.inl rfl))) (fun _ _ _ _ _ => by exact pts_nil) (fun _ _ _ _ _ => by exact (pe_callB (cr_sumTK (K := K) rfl rfl) (by rfl) T.z_sum (by decide +kernel) (pa_cons (pe_dget2 (units1 hr.units) (pv 9) (pv 4) (pe_tup (pa_cons pe_int pa_nil)) ⟨rfl, rfl, rfl, rfl⟩) pa_nil)))))
 (pss_cons (ps_setLc (i := 8) (own := [("_law_to", 10), ("_law_weight", 11)]) (g := (gTup K 2 (gCons (gName 10) (gCons (gName 11) gNil)))) (tt := tYes) (by rfl) sc_l_onward.nd rfl rfl (sw_true rfl rfl rfl (by decide +kernel)) (pi_enumT (by rfl) T.z_enumerate (pa_cons (pe_dget2 (units1 hr.units) (pv 2) (pv 4) (pe_tup pa_nil) ⟨rfl, rfl, rfl, rfl⟩) pa_nil)) (blkOk_by (own := [("_law_to", 10), ("_law_weight", 11)]) (N := ["_law_shared", "_law_pair", "_law_mine", "_law_yours", "_law_sign", "_law_x", "_law_y", "_law_sums", "_law_found", "_law_some", "_law_to", "_law_weight"]) (sc := defScope s_l_onward) (by decide +kernel)) (fun _ _ _ _ _ => by exact (pg_tup (by rfl) (pgs_cons (pg_name (i := 10) sc_l_onward.nd rfl (.inl rfl)) (pgs_cons (pg_name (i := 11) sc_l_onward.nd rfl (.inl rfl)) pgs_nil)))) (fun _ _ _ _ _ => by exact pts_nil) (fun _ _ _ _ _ => by exact (pe_tup (pa_cons (pe_tup (pa_cons (pv 10) (pa_cons (pv 6) pa_nil))) (pa_cons (pe_op op_mulW (pv 11) (pe_ix (ix_listK (K := K) rfl) (pv 7) pe_int (fun _ _ => rfl))) pa_nil)))))
 (pss_one (ps_ret (pe_op op_cat (pv 8) (pe_lc (own := [("_law_to", 10), ("_law_weight", 11)]) (g := (gTup K 2 (gCons (gName 10) (gCons (gName 11) gNil)))) (tt := tYes) (by rfl) sc_l_onward.nd (pi_enumT (by rfl) T.z_enumerate (pa_cons (pe_dget2 (units1 hr.units) (pv 3) (pv 4) (pe_tup pa_nil) ⟨rfl, rfl, rfl, rfl⟩) pa_nil)) (blkOk_by (own := [("_law_to", 10), ("_law_weight", 11)]) (N := ["_law_shared", "_law_pair", "_law_mine", "_law_yours", "_law_sign", "_law_x", "_law_y", "_law_sums", "_law_found", "_law_some", "_law_to", "_law_weight"]) (sc := defScope s_l_onward) (by decide +kernel)) (fun _ _ _ _ _ => by exact (pg_tup (by rfl) (pgs_cons (pg_name (i := 10) sc_l_onward.nd rfl (.inl rfl)) (pgs_cons (pg_name (i := 11) sc_l_onward.nd rfl (.inl rfl)) pgs_nil)))) (fun _ _ _ _ _ => by exact pts_nil) (fun _ _ _ _ _ => by exact (pe_tup (pa_cons (pe_tup (pa_cons (pv 5) (pa_cons (pv 10) pa_nil))) (pa_cons (pe_op op_mulW (pv 11) (pe_ix (ix_listK (K := K) rfl) (pv 7) pe_int (fun _ _ => rfl))) pa_nil)))))))))))), ?_⟩
    refine ⟨_, rfl, u, _, rfl, .inl (.inl hu), rfl, _, _, rfl, _, _, rfl, rfl, ?_⟩
    refine ⟨_, rfl, _, rfl, sl, _, rfl, .inl (SqL.of hsl), rfl, flat_strs sh, _, rfl, ?_⟩
    rw [if_neg (by decide), inV_strs]
    by_cases c : z ∈ sh
    · rw [decide_eq_true c]
      refine iteT ⟨_, rfl, d1, rfl, .inl ⟨_, .inl h1⟩, _, rfl, by show 0 ≤ sizeLine; decide, fun e0 n0 => ?_⟩
      have u0 := same_upd (o := .tup []) n0
      have f0 := @upd_same H e0 (.tup [])
      generalize upd H e0 (.tup []) = F1 at *
      obtain ⟨wa, ea, hwa⟩ := get_ws (a1.imp fun _ _ e => u0 _ _ e) z f0
      refine ⟨_, DGet.k (k := .inr z) (u0 _ _ h1), ?_⟩
      rw [ea]
      refine ⟨_, rfl, d2, rfl, .inl ⟨_, .inl (u0 _ _ h2)⟩, _, rfl, by show 0 ≤ sizeLine; decide, fun e1 n1 => ?_⟩
      have u1 := same_upd (o := .tup []) n1
      have f1 := @upd_same F1 e1 (.tup [])
      generalize upd F1 e1 (.tup []) = F2 at *
      have u := u0.trans u1
      obtain ⟨wb, eb, hwb⟩ := get_ws (a2.imp fun _ _ e => u _ _ e) z f1
      refine ⟨_, DGet.k (k := .inr z) (u _ _ h2), ?_⟩
      rw [eb]
      refine at_nil ⟨wa, wb, wsD z o1, wsD z o2, rfl, u1 _ _ hwa, hwb, wsD_ok ok1 z, wsD_ok ok2 z, fun F3 l gs s3 el ag => q F3 l gs (u.trans s3) el ?_⟩
      unfold onwF
      rw [if_pos c]
      exact ag
    · rw [decide_eq_false c]
      refine iteF ⟨_, rfl, _, rfl, by show 2 ≤ sizeLine; decide, fun tp ntp => ?_⟩
      have u0 := same_upd (o := .tup [.ref d1, .ref d2]) ntp
      have f0 := @upd_same H tp (.tup [.ref d1, .ref d2])
      generalize upd H tp (.tup [.ref d1, .ref d2]) = F1 at *
      refine ⟨tp, rfl, ⟨_, .inl (.inl f0)⟩, fun D nD => lc_allW (walk_tup (K := K) (a := tp) (xs := [.ref d1, .ref d2])) (fun i y _ => y = .int (nearW (wsD z ([o1, o2].getD i [])) : Nat)) (fun _ _ _ _ _ h => h) nD (fun H' s => .inl (.inl (s _ _ f0))) (by show 2 ≤ 1000; decide) (fun i x H3 H4 kk hi s3 eD y hk => ?_) (fun F2 ys s2 e2 l2 r2 => ?_)⟩
      · obtain ⟨rfl, ex⟩ := y
        have sD := u0.trans (s3.trans (hid_same (a := D)))
        obtain ⟨d, k, o, rfl, hd, ak, ok, eo⟩ : ∃ d k o, x = .ref d ∧ H4 d = some (.dK k) ∧ AreKw H4 k o ∧ DrOk o ∧ [o1, o2].getD i [] = o := by
          match i, hi, ex with
          | 0, _, ex => exact ⟨d1, k1, o1, (Option.some.inj ex).symm, sD _ _ h1, a1.imp fun _ _ e => sD _ _ e, ok1, rfl⟩
          | 1, _, ex => exact ⟨d2, k2, o2, (Option.some.inj ex).symm, sD _ _ h2, a2.imp fun _ _ e => sD _ _ e, ok2, rfl⟩
        refine ⟨rfl, _, rfl, d, rfl, .inl ⟨_, .inl hd⟩, _, rfl, by show 1 ≤ sizeLine; decide, fun e0 n0 => ?_⟩
        have v0 := same_upd (o := .tup [.int 1]) n0
        have g0 := @upd_same H4 e0 (.tup [.int 1])
        generalize upd H4 e0 (.tup [.int 1]) = H5 at *
        obtain ⟨wa, ns, ea, hwa, es⟩ := get_near (ak.imp fun _ _ e => v0 _ _ e) ok z g0
        refine ⟨_, DGet.k (k := .inr z) (v0 _ _ hd), ?_⟩
        rw [ea]
        refine at_nil ⟨wa, ns.map (fun (n : Nat) => (n : Int)), rfl, .inl (.inl (by rw [hwa, nts_ints])), ?_⟩
        rw [sum_nts, es]
        exact hk _ _ v0 (by rw [eo])
      have s2' := u0.trans (s2.trans (hid_same (a := D)))
      obtain rfl : ys = [.int (nearW (wsD z o1) : Nat), .int (nearW (wsD z o2) : Nat)] := by
        match ys, l2 with
        | [y0, y1], _ =>
          have e0 := r2 0 y0 rfl
          have e1 := r2 1 y1 rfl
          rw [e0, e1]
          rfl
      clear r2 s2 nD
      have sq7 := SqL.of (K := K) e2
      -- mine
      refine ⟨_, rfl, d1, rfl, .inl ⟨_, .inl (s2' _ _ h1)⟩, _, rfl, by show 0 ≤ sizeLine; decide, fun e0 n0 => ?_⟩
      have v0 := same_upd (o := .tup []) n0
      have g0 := @upd_same F2 e0 (.tup [])
      generalize upd F2 e0 (.tup []) = F3 at *
      have s3' := s2'.trans v0
      obtain ⟨wa, ea, hwa⟩ := get_ws (a1.imp fun _ _ e => s3' _ _ e) z g0
      refine ⟨_, DGet.k (k := .inr z) (s3' _ _ h1), ?_⟩
      rw [ea]
      have e7 := v0 _ _ e2
      have wo := wsD_ok ok1 z
      have uo := wsD_ok ok2 z
      refine ⟨wa, _, rfl, .inl (.inl hwa), fun D1 nD1 => lc_allW (walk_nts (a := wa) (us := wsD z o1)) (fun i y G => IsGoal G y ((i, p.2), (wsD z o1).getD i 0 * nearW (wsD z o2))) (fun _ _ _ _ s h => h.mono s) nD1 (fun H' s => .inl (.inl (s _ _ hwa))) (by have := wo.1; omega) (fun i x H4 H5 kk hi s4 eD y hk => ?_) (fun F4 g1 s4 e4 l4 r4 => ?_)⟩
      · obtain ⟨T1, x1, x2, rfl, nT, rfl, hx1, hx2⟩ := y
        cases hx1
        have hx2 : (nts (wsD z o1))[i]? = some x2 := hx2
        obtain ⟨rfl, il⟩ := nts_get hx2
        have w0 := same_upd (o := .tup [.int (i : Nat), .int ((wsD z o1).getD i 0 : Nat)]) nT
        refine ⟨T1, _, rfl, .inl (.inl upd_same), rfl, _, _, rfl, _, _, rfl, rfl, wipe2 (by decide) (by decide), ?_⟩
        generalize upd H4 T1 (.tup [.int (i : Nat), .int ((wsD z o1).getD i 0 : Nat)]) = H5 at *
        refine ⟨_, rfl, _, rfl, by show 2 ≤ sizeLine; decide, fun t2 nt2 => ?_⟩
        have w1 := same_upd (o := .tup [.int (i : Nat), .int (p.2 : Nat)]) nt2
        have f2 := @upd_same H5 t2 (.tup [.int (i : Nat), .int (p.2 : Nat)])
        generalize upd H5 t2 (.tup [.int (i : Nat), .int (p.2 : Nat)]) = H6 at *
        have e76 := (w0.trans w1) _ _ (hid_same _ _ (s4 _ _ e7))
        refine ⟨_, rfl, _, rfl, D, _, 1, _, rfl, rfl, SqL.of e76, atI_nat (j := 1) rfl, _, _, rfl, rfl, wm_nat (lt410 (wo.at i)) uo.near, at_nil ⟨by show 2 ≤ sizeLine; decide, fun t3 nt3 => ?_⟩⟩
        have w2 := same_upd (o := .tup [.ref t2, .int (((wsD z o1).getD i 0 : Nat) * (nearW (wsD z o2) : Nat) : Int)]) nt3
        have uA := w0.trans (w1.trans w2)
        have eD3 := eD.imp fun _ e => uA _ _ e
        refine hk _ _ uA ⟨t3, .ref t2, rfl, ?_, t2, rfl, hid_no eD3 (w2 _ _ f2) (fun _ => nofun)⟩
        show hid D1 _ t3 = some (.tup [.ref t2, .int (((wsD z o1).getD i 0 * nearW (wsD z o2) : Nat) : Int)])
        rw [Int.natCast_mul]
        exact hid_no eD3 upd_same (fun _ => nofun)
      have s4' := s4.trans (hid_same (a := D1))
      have a3 := goals_are l4 r4
      have s5' := s3'.trans s4'
      -- yours
      refine ⟨_, rfl, _, rfl, d2, rfl, .inl ⟨_, .inl (s5' _ _ h2)⟩, _, rfl, by show 0 ≤ sizeLine; decide, fun e0 n0 => ?_⟩
      have v1 := same_upd (o := .tup []) n0
      have g1' := @upd_same F4 e0 (.tup [])
      generalize upd F4 e0 (.tup []) = F5 at *
      have s6' := s5'.trans v1
      obtain ⟨wb, eb, hwb⟩ := get_ws (a2.imp fun _ _ e => s6' _ _ e) z g1'
      refine ⟨_, DGet.k (k := .inr z) (s6' _ _ h2), ?_⟩
      rw [eb]
      have e75 := v1 _ _ (s4' _ _ e7)
      refine ⟨wb, _, rfl, .inl (.inl hwb), fun D2 nD2 => lc_allW (walk_nts (a := wb) (us := wsD z o2)) (fun i y G => IsGoal G y ((p.1, i), (wsD z o2).getD i 0 * nearW (wsD z o1))) (fun _ _ _ _ s h => h.mono s) nD2 (fun H' s => .inl (.inl (s _ _ hwb))) (by have := uo.1; omega) (fun i x H4 H5 kk hi s7 eD y hk => ?_) (fun F6 g2 s7 e6 l6 r6 => ?_)⟩
      · obtain ⟨T1, x1, x2, rfl, nT, rfl, hx1, hx2⟩ := y
        cases hx1
        have hx2 : (nts (wsD z o2))[i]? = some x2 := hx2
        obtain ⟨rfl, il⟩ := nts_get hx2
        have w0 := same_upd (o := .tup [.int (i : Nat), .int ((wsD z o2).getD i 0 : Nat)]) nT
        refine ⟨T1, _, rfl, .inl (.inl upd_same), rfl, _, _, rfl, _, _, rfl, rfl, wipe2 (by decide) (by decide), ?_⟩
        generalize upd H4 T1 (.tup [.int (i : Nat), .int ((wsD z o2).getD i 0 : Nat)]) = H5 at *
        refine ⟨_, rfl, _, rfl, by show 2 ≤ sizeLine; decide, fun t2 nt2 => ?_⟩
        have w1 := same_upd (o := .tup [.int (p.1 : Nat), .int (i : Nat)]) nt2
        have f2 := @upd_same H5 t2 (.tup [.int (p.1 : Nat), .int (i : Nat)])
        generalize upd H5 t2 (.tup [.int (p.1 : Nat), .int (i : Nat)]) = H6 at *
        have e76 := (w0.trans w1) _ _ (hid_same _ _ (s7 _ _ e75))
        refine ⟨_, rfl, _, rfl, D, _, 0, _, rfl, rfl, SqL.of e76, atI_nat (j := 0) rfl, _, _, rfl, rfl, wm_nat (lt410 (uo.at i)) wo.near, at_nil ⟨by show 2 ≤ sizeLine; decide, fun t3 nt3 => ?_⟩⟩
        have w2 := same_upd (o := .tup [.ref t2, .int (((wsD z o2).getD i 0 : Nat) * (nearW (wsD z o1) : Nat) : Int)]) nt3
        have uA := w0.trans (w1.trans w2)
        have eD3 := eD.imp fun _ e => uA _ _ e
        refine hk _ _ uA ⟨t3, .ref t2, rfl, ?_, t2, rfl, hid_no eD3 (w2 _ _ f2) (fun _ => nofun)⟩
        show hid D2 _ t3 = some (.tup [.ref t2, .int (((wsD z o2).getD i 0 * nearW (wsD z o1) : Nat) : Int)])
        rw [Int.natCast_mul]
        exact hid_no eD3 upd_same (fun _ => nofun)
      have s7' := s7.trans (hid_same (a := D2))
      have a4 := goals_are l6 r6
      have s8' := v1.trans s7'
      refine ⟨D1, D2, g1, g2, rfl, rfl, s8' _ _ e4, e6, ?_, fun l nl => ?_⟩
      · rw [l4, l6]
        have := wo.1
        have := uo.1
        exact Nat.le_of_lt (small1000 (by omega))
      have u5 := same_upd (o := .lst (g1 ++ g2)) nl
      refine q _ l (g1 ++ g2) (s5'.trans (s8'.trans u5)) upd_same ?_
      unfold onwF
      rw [if_neg c]
      exact (a3.imp fun _ _ h => h.mono (s8'.trans u5)).append (a4.imp fun _ _ h => h.mono u5)
end
end Fb
namespace Fb
open PySem PySem.Spec PyProof.Rows L2
section
variable {P : Program} {w : World} {K : PySem.W.Frag} {mg : Str → Option Value} {base : Heap}
theorem room65 {k : Nat} {A : Around} (r : Room k A) : A.units + 65 < cLine := by have := r.un; omega
theorem op_notInDK {X : Cx} {K : PySem.W.Frag} (hK : X.K = K) (hu : X.A.units + 65 < cLine) : OpR X (compareOp .NotIn) (rNotInD K) := hK ▸ op_notInD hu
def posG (gs : Goals) : Goals := gs.filter fun g => decide (0 < g.2)
theorem sumG_pos (gs : Goals) (t : Thing) : sumG (posG gs) t = sumG gs t := by
  induction gs with
  | nil => rfl
  | cons g gs ih =>
    have c1 : ∀ gs : Goals, sumG (g :: gs) t = (if g.1 = t then g.2 else 0) + sumG gs t := fun gs => by
      unfold sumG
      by_cases h : g.1 = t
      · rw [List.filter_cons_of_pos (by rw [decide_eq_true_iff]; exact h), List.map_cons, List.sum_cons, if_pos h]
      · rw [List.filter_cons_of_neg (by rw [decide_eq_true_iff]; exact h), if_neg h, Nat.zero_add]
    by_cases p : 0 < g.2
    · have e : posG (g :: gs) = g :: posG gs := by unfold posG; rw [List.filter_cons_of_pos (by rw [decide_eq_true_iff]; exact p)]
      rw [e, c1, c1, ih]
    · have e : posG (g :: gs) = posG gs := by unfold posG; rw [List.filter_cons_of_neg (by rw [decide_eq_true_iff]; exact p)]
      rw [e, c1, ih]
      split <;> omega
theorem wts_pos (f : List Thing) (gs : Goals) : wtsG f (posG gs) = wtsG f gs := List.map_congr_left fun t _ => sumG_pos gs t
theorem IsGoal.hid {H : Hp} {D : Addr} {xs : List V} (e : H D = some (.lst xs)) {v : V} {g : Thing × Nat} (h : IsGoal H v g) : IsGoal (hid D H) v g := by
  obtain ⟨t, y, e1, h1, u, e2, h2⟩ := h
  exact ⟨t, y, e1, hid_no ⟨xs, e⟩ h1 (fun _ => nofun), u, e2, hid_no ⟨xs, e⟩ h2 (fun _ => nofun)⟩
theorem set_tt {H : Hp} {D : Addr} {zs : List Str} {Q : VK} (e : H D = some (.lst (zs.map V.str))) (few : zs.length ≤ 60) (q : ∀ H' p L, Same H H' → H' p = some (TSetO P w p L) → L.length ≤ zs.length → L.Nodup → (∀ x, x ∈ L ↔ x ∈ zs) → Q (.ref p) H') : rSetT K P w [.ref D] H Q :=
  ⟨D, zs, rfl, SqL.of e, Nat.lt_of_lt_of_le (show zs.length + 1 < 64 by omega) (by decide), fun _ L n ll nL mL => q _ _ L (same_upd n) upd_same ll nL mL⟩
theorem addG_pos : ∀ (gs : Goals) (f : List Thing), addG f (posG gs) = addG f gs
  | [], _ => rfl
  | g :: gs, f => by
    by_cases p : 0 < g.2
    · have e : posG (g :: gs) = g :: posG gs := by unfold posG; rw [List.filter_cons_of_pos (by rw [decide_eq_true_iff]; exact p)]
      rw [e]
      show addG _ (posG gs) = addG _ gs
      exact addG_pos gs _
    · have e : posG (g :: gs) = posG gs := by unfold posG; rw [List.filter_cons_of_neg (by rw [decide_eq_true_iff]; exact p)]
      rw [e]
      show _ = addG (if 0 < g.2 ∧ g.1 ∉ f then f ++ [g.1] else f) gs
      rw [if_neg (fun z => p z.1)]
      exact addG_pos gs f
theorem posG_pos {gs : Goals} {g : Thing × Nat} (h : g ∈ posG gs) : 0 < g.2 := of_decide_eq_true (List.mem_filter.mp h).2
def rowD (sh : List Str) (p : Thing) (d1 d2 : List Stp) (z : Str) : Option GRow := if posG (onwF sh p d1 d2 z) = [] then none else some (z, onwF sh p d1 d2 z)
def DuF (sh : List Str) (p : Thing) (d1 d2 : List Stp) (zs : List Str) : List GRow := zs.filterMap (rowD sh p d1 d2)
/-- the signs of either, in order -/
structure UpS (zs : List Str) (d1 d2 : List Stp) : Prop where
  nd : zs.Nodup
  up : sortedS zs = true
  mem : ∀ z, z ∈ zs ↔ (∃ s ∈ d1, s.sign = z) ∨ ∃ s ∈ d2, s.sign = z
theorem UpS.uniq {zs ys : List Str} {d1 d2 : List Stp} (a : UpS zs d1 d2) (b : UpS ys d1 d2) : zs = ys := sortedS_uniq a.nd b.nd a.up b.up fun z => (a.mem z).trans (b.mem z).symm
def datP (x : Thing) : PyData := .tuple [.int (x.1 : Nat), .int (x.2 : Nat)]
theorem datP_eqv (a b : Thing) : PyData.eqv (datP a) (datP b) = decide (a = b) := by
  obtain ⟨i, r⟩ := a
  obtain ⟨j, s⟩ := b
  have : PyData.eqv (datP (i, r)) (datP (j, s)) = (decide ((i : Int) = j) && decide ((r : Int) = s)) := by
    simp [datP, PyData.eqv, PyData.eqvAll]
    rfl
  rw [this]
  by_cases h1 : i = j
  · by_cases h2 : r = s
    · subst h1 h2
      simp
    · rw [decide_eq_false (show ¬ (r : Int) = s by omega), Bool.and_false, decide_eq_false (fun z => h2 (by cases z; rfl))]
  · rw [decide_eq_false (show ¬ (i : Int) = j by omega), Bool.false_and, decide_eq_false (fun z => h1 (by cases z; rfl))]
theorem IsThing.dp {H : Hp} {v : V} {x : Thing} (h : IsThing H v x) : Dp K H v (datP x) := by
  obtain ⟨u, rfl, hu⟩ := h
  exact .tup (.inl (.inl hu)) (.cons (.int _) (.cons (.int _) .nil))
theorem dps {H : Hp} : ∀ {vs : List V} {f : List Thing}, AllAre (IsThing H) vs f → DpAll K H vs (f.map datP)
  | [], [], _ => .nil
  | [], _ :: _, h => by have := h.1; simp at this
  | v :: vs, f, h => by
    obtain ⟨x, r, rfl, h1, h2⟩ := h.uncons'
    exact .cons h1.dp (dps h2)
theorem shaped_datP (x : Thing) : SeqAt.shaped (datP x) = true := shape2 x.1 x.2
theorem shaped_datPs (f : List Thing) : SeqAt.shaped (.list (f.map datP)) = true := by
  unfold SeqAt.shaped
  rw [Bool.and_eq_true]
  refine ⟨?_, decide_eq_true ?_⟩
  · show PyData.canLayAll0 (f.map datP) = true
    induction f with
    | nil => rfl
    | cons x f ih =>
      show (PyData.canLay0 (datP x) && PyData.canLayAll0 (f.map datP)) = true
      rw [ih]
      simp [datP, PyData.canLay0, PyData.canLayAll0]
  · have : PyData.depthAll (f.map datP) ≤ 1 := by
      induction f with
      | nil => exact Nat.zero_le _
      | cons x f ih =>
        rw [List.map_cons]
        simp only [PyData.depthAll]
        have : PyData.depth (datP x) ≤ 1 := by simp [datP, PyData.depth, PyData.depthAll]
        omega
    simp only [PyData.depth]
    omega
theorem any_datP (f : List Thing) (t : Thing) : (f.map datP).any (fun z => PyData.eqv z (datP t)) = decide (t ∈ f) := by
  rw [List.any_map]
  by_cases h : t ∈ f
  · rw [decide_eq_true h, List.any_eq_true]
    exact ⟨t, h, by show PyData.eqv (datP t) (datP t) = true; rw [datP_eqv, decide_eq_true rfl]⟩
  · rw [decide_eq_false h, List.any_eq_false]
    intro x hx
    show ¬ PyData.eqv (datP x) (datP t) = true
    rw [datP_eqv, decide_eq_true_iff]
    exact fun e => h (e ▸ hx)
theorem IsThing.hid {H : Hp} {D : Addr} {xs : List V} (e : H D = some (.lst xs)) {v : V} {x : Thing} (h : IsThing H v x) : IsThing (hid D H) v x := by
  obtain ⟨u, e1, h1⟩ := h
  exact ⟨u, e1, hid_no ⟨xs, e⟩ h1 (fun _ => nofun)⟩
/-- a row told -/
def IsLw (H : Hp) (v : V) (e : Nat × GRow) : Prop := ∃ t lg gys, v = .ref t ∧ H t = some (.tup [.int (e.1 : Nat), .str e.2.1, .ref lg]) ∧ H lg = some (.lst gys) ∧ AllAre (IsGoal H) gys (posG e.2.2)
theorem IsLw.mono {H H' : Hp} {v : V} {e : Nat × GRow} (h : IsLw H v e) (s : Same H H') : IsLw H' v e := by
  obtain ⟨t, lg, gys, e1, h1, h2, h3⟩ := h
  exact ⟨t, lg, gys, e1, s _ _ h1, s _ _ h2, h3.imp fun _ _ h => h.mono s⟩
structure DInv (H F : Hp) (tl ol : Addr) (ts os : List V) (f : List Thing) (told : List (Nat × GRow)) : Prop where
  sH : Same H F
  htl : F tl = some (.lst ts)
  hol : F ol = some (.lst os)
  ao : AllAre (IsThing (hid tl F)) os f
  at_ : AllAre (IsLw (hid tl F)) ts told
  ne : ol ≠ tl
theorem DInv.same {H F F' : Hp} {tl ol : Addr} {ts os : List V} {f : List Thing} {told : List (Nat × GRow)} (i : DInv H F tl ol ts os f told) (s : Same F F') : DInv H F' tl ol ts os f told :=
  ⟨i.sH.trans s, s _ _ i.htl, s _ _ i.hol, i.ao.imp fun _ _ h => h.mono (hid_mono s), i.at_.imp fun _ _ h => h.mono (hid_mono s), i.ne⟩
theorem zeros_are (f : List Thing) : (List.replicate f.length [V.int 0]).flatten = nts (wtsG f []) := by
  induction f with
  | nil => rfl
  | cons t f ih =>
    show V.int 0 :: (List.replicate f.length [V.int 0]).flatten = _
    rw [ih]
    rfl
theorem if_join {tc : TT} {t1 t2 u : L2.TS} {e : Ends} {σ : L2.St} {H : Hp} (C : L2.St → Hp → Prop) (hN : ∀ σ H, C σ H → u e σ H) (h : ∀ N : L2.St → Hp → Prop, (∀ σ H, C σ H → N σ H) → tIfS tc t1 t2 { e with nx := N } σ H) : tSeq (tIfS tc t1 t2) u e σ H :=
  h _ hN
theorem at_name {i : Nat} {x : V} {σ : L2.St} {H : Hp} {k : L2.St → Hp → Prop} (h : k (σ.set i (some x)) H) : gName i x σ H k := h
theorem nx_tseq {t u : L2.TS} {e : Ends} {rt : VK} {bk ct : L2.St → Hp → Prop} {σ : L2.St} {H : Hp} (h : tSeq t u e σ H) : Ends.nx { nx := tSeq t u e, rt := rt, bk := bk, ct := ct } σ H := h
theorem kw_strs {H : Hp} {kvs : List (Key × V)} {d : List Stp} (a : AreKw H kvs d) : (kvs.map fun kv => kV kv.1) = (d.map (·.sign)).map V.str := by
  refine List.ext_getElem? fun i => ?_
  simp only [List.getElem?_map, List.map_map]
  cases hk : kvs[i]? with
  | none =>
    have := List.getElem?_eq_none_iff.mp hk
    rw [List.getElem?_eq_none (by have := a.1; omega)]
    rfl
  | some kv =>
    obtain ⟨s, hs, wa, e, _⟩ := a.at hk
    rw [hs, e]
    rfl
end
end Fb
namespace Fb
open PySem PySem.Spec PyProof.Rows L2
section
variable {P : Program} {w : World} {K : PySem.W.Frag} {mg : Str → Option Value} {base : Heap}
def spDueB : Sp := fun vs H Q _ => ∃ (sl l1 l2 : Addr) (x1 x2 : List V) (sh : List Str) (m1 m2 : Nat) (s1 s2 : List Stp) (zsf : Thing → List Str) (G : Thing → List GRow), vs = [.ref sl, .ref l1, .ref l2] ∧ H sl = some (.lst (sh.map V.str)) ∧ H l1 = some (.lst x1) ∧ AllAre (IsStp H) x1 s1 ∧ H l2 = some (.lst x2) ∧ AllAre (IsStp H) x2 s2 ∧
  StpsOk m1 s1 ∧ StpsOk m2 s2 ∧ (∀ r, DrOk (doorOf s1 r)) ∧ (∀ r, DrOk (doorOf s2 r)) ∧ (∀ x, UpS (zsf x) (doorOf s1 x.1) (doorOf s2 x.2)) ∧ (∀ x, G x = DuF sh x (doorOf s1 x.1) (doorOf s2 x.2) (zsf x)) ∧ GOk G (DomB m1 m2) ∧
  (ManyW G (0, 0) → ∀ H' t, Same H H' → H' t = some (.tup [.str "many"]) → Q (.ref t) H') ∧
  (∀ m, AllW G (0, 0) m → ∀ H' u srt, Same H H' → srt.Perm ((stepsW G (0, 0) m).map lowS) → Sorted srt → IsTold H' u m srt → Q u H')
theorem once_len : ∀ (is : List Nat) (f : Nat → Nat) (us : List Nat), ((is.map fun i => atF i (f i) us).flatten).length = is.length * us.length
  | [], _, _ => by simp
  | i :: is, f, us => by
    rw [List.map_cons, List.flatten_cons, List.length_append, once_len is f us, at_len, List.length_cons, Nat.succ_mul]
    omega
theorem onw_len {sh : List Str} {p : Thing} {d1 d2 : List Stp} (k1 : DrOk d1) (k2 : DrOk d2) (z : Str) : (onwF sh p d1 d2 z).length ≤ 144 := by
  have h1 := (wsD_ok k1 z).1
  have h2 := (wsD_ok k2 z).1
  unfold onwF
  split
  · unfold onceF
    rw [once_len, List.length_range]
    have := Nat.mul_le_mul h1 h2
    omega
  · unfold oneF hereF thereF
    rw [List.length_append, List.length_map, List.length_map, List.length_range, List.length_range]
    omega
theorem addG_len : ∀ (gs : Goals) (f : List Thing), (addG f gs).length ≤ f.length + gs.length
  | [], f => Nat.le_refl _
  | g :: gs, f => by
    have := addG_len gs (if 0 < g.2 ∧ g.1 ∉ f then f ++ [g.1] else f)
    show (addG (if 0 < g.2 ∧ g.1 ∉ f then f ++ [g.1] else f) gs).length ≤ f.length + (gs.length + 1)
    split at this
    · rename_i c
      rw [if_pos c]
      rw [List.length_append, List.length_singleton] at this
      omega
    · rename_i c
      rw [if_neg c]
      omega
theorem du_take {sh : List Str} {p : Thing} {d1 d2 : List Stp} {zs : List Str} {j : Nat} {z : Str} (h : zs[j]? = some z) : DuF sh p d1 d2 (zs.take (j + 1)) = DuF sh p d1 d2 (zs.take j) ++ (rowD sh p d1 d2 z).toList := fm_take h
theorem addR_app (f : List Thing) (a b : List GRow) : addR f (a ++ b) = addR (addR f a) b := by
  unfold addR
  rw [List.foldl_append]
set_option maxHeartbeats 4000000 in
theorem ok_l_due (T : Txt K mg) : FnOk P w K mg base CX0 5 T.f_l_due T.d_l_due ["_law_shared", "_law_mine", "_law_yours"] spDueB := by
  refine T.F_l_due.ok sc_l_due (fun vs H Q E h => ?_) (fun cdv A outer s H vs Q E hr h => ?_)
  · obtain ⟨sl, l1, l2, _, _, _, _, _, _, _, _, _, rfl, _⟩ := h
    rfl
  · obtain ⟨sl, l1, l2, x1, x2, sh, m1, m2, s1, s2, zsf, G, rfl, hsl, hl1, av1, hl2, av2, sok1, sok2, dk1, dk2, ups, eG, gok, qm, qa⟩ := h
    have d0 : DomB m1 m2 (0, 0) := ⟨sok1.m1, sok2.m1⟩
    refine ⟨_, (pss_cons (ps_set (i := 3) sc_l_due.nd rfl (.inl rfl) (pe_lst (pa_cons (pe_tup (pa_cons pe_int (pa_cons pe_int pa_nil))) pa_nil)))
 (pss_cons (ps_set (i := 4) sc_l_due.nd rfl (.inl rfl) (pe_lst pa_nil))
 (pss_cons (ps_set (i := 5) sc_l_due.nd rfl (.inl rfl) pe_int)
 (pss_cons (ps_while PassesOwn.never (PW.pt (pw_and (pt_cmpR op_lt (pv 5) (pe_callB call_len_seq (by rfl) T.z_len (by decide +kernel) (pa_cons (pv 3) pa_nil)) (nomark _)) (pw_and1 (pt_cmpR op_lt (pe_callB call_len_seq (by rfl) T.z_len (by decide +kernel) (pa_cons (pv 3) pa_nil)) pe_int (nomark _)))))
  (pss_cons (ps_par (i := 6) (j := 7) (by rfl) sc_l_due.nd rfl rfl (by decide) rfl rfl (pa_cons (pe_call (ok_l_by T) (hr.mono (by decide)) (by rfl) T.g_l_by T.F_l_by.kp T.b_l_by .nil pass0 (pa_cons (pv 1) (pa_cons (pe_ix ix_tup (pe_ix ix_list (pv 3) (pv 5) (fun _ _ => rfl)) pe_int (fun _ _ => rfl)) pa_nil))) (pa_cons (pe_call (ok_l_by T) (hr.mono (by decide)) (by rfl) T.g_l_by T.F_l_by.kp T.b_l_by .nil pass0 (pa_cons (pv 2) (pa_cons (pe_ix ix_tup (pe_ix ix_list (pv 3) (pv 5) (fun _ _ => rfl)) pe_int (fun _ _ => rfl)) pa_nil))) pa_nil)) (by rfl))
 (pss_cons (ps_for PassesOwn.never rfl (pi_list (pe_callB (Fb.cr_sortT rfl) (by rfl) T.z_sorted (by decide +kernel) (pa_cons (pe_callTy (call_setT rfl) (by rfl) T.z_set (by decide +kernel) (pa_cons (pe_op op_cat (pe_callTy (call_list_dK rfl) (by rfl) T.z_list (by decide +kernel) (pa_cons (pv 6) pa_nil)) (pe_callTy (call_list_dK rfl) (by rfl) T.z_list (by decide +kernel) (pa_cons (pv 7) pa_nil))) pa_nil)) pa_nil))) (pg_name (i := 8) sc_l_due.nd rfl (.inl rfl))
  (pss_cons (ps_setLc (i := 9) (own := [("_law_row", 15)]) (g := (gName 15)) (tt := _) (by rfl) sc_l_due.nd rfl rfl (sw_true rfl rfl rfl (by decide +kernel)) (pi_list (pe_call (ok_l_onward T) (hr.mono (by decide)) (by rfl) T.g_l_onward T.F_l_onward.kp T.b_l_onward .nil pass0 (pa_cons (pv 0) (pa_cons (pe_ix ix_list (pv 3) (pv 5) (fun _ _ => rfl)) (pa_cons (pv 6) (pa_cons (pv 7) (pa_cons (pv 8) pa_nil))))))) (blkOk_by (own := [("_law_row", 15)]) (N := ["_law_shared", "_law_mine", "_law_yours", "_law_order", "_law_told", "_law_at", "_law_one_here", "_law_other", "_law_sign", "_law_some", "_law_pair", "_law_weight", "_law_steps", "_law_room", "_law_weights_here", "_law_row"]) (sc := defScope s_l_due) (by decide +kernel)) (fun _ _ _ _ _ => by exact (pg_name (i := 15) sc_l_due.nd rfl (.inl rfl))) (fun _ _ _ _ _ => by exact (pts_one (pt_cmpR op_gt (pe_ix (ix_tupK (K := K) rfl) (pv 15) pe_int (fun _ _ => rfl)) pe_int (nomark _)))) (fun _ _ _ _ _ => by exact (pv 15)))
 (pss_cons (ps_if (pt_cmpR (op_neNil hr.units0) (pv 9) (pe_lst pa_nil) (nomark _))
  (pss_one (ps_expr (pe_bm PySem.F.plainAttrs_list PySem.F.slot_list_append PySem.F.type_list_append mt_append (pv 4) (pa_cons (pe_tup (pa_cons (pv 5) (pa_cons (pv 8) (pa_cons (pv 9) pa_nil)))) pa_nil))))
  pss_nil)
 (pss_one (ps_for PassesOwn.never rfl (pi_list (pv 9)) (pg_tup (by rfl) (pgs_cons (pg_name (i := 10) sc_l_due.nd rfl (.inl rfl)) (pgs_cons (pg_name (i := 11) sc_l_due.nd rfl (.inl rfl)) pgs_nil)))
  (pss_one (ps_set (i := 3) sc_l_due.nd rfl (.inl rfl) (pe_op op_cat (pv 3) (pe_op op_rep (pe_lst (pa_cons (pv 10) pa_nil)) (pe_callTy call_int1 (by rfl) T.z_int (by decide +kernel) (pa_cons (pe_cmpR (op_notInDK (K := K) rfl (room65 hr)) (pv 10) (pv 3) (by with_unfolding_all rfl)) pa_nil)))))))))))
 (pss_one (ps_set (i := 5) sc_l_due.nd rfl (.inl rfl) (pe_op op_add (pv 5) pe_int))))))
 (pss_cons (ps_if (pt_cmpR op_gt (pe_callB call_len_seq (by rfl) T.z_len (by decide +kernel) (pa_cons (pv 3) pa_nil)) pe_int (nomark _))
  (pss_one (ps_ret (pe_tup (pa_cons pe_str pa_nil))))
  pss_nil)
 (pss_cons (ps_set (i := 12) sc_l_due.nd rfl (.inl rfl) (pe_lst pa_nil))
 (pss_cons (ps_for PassesOwn.never rfl (pi_list (pv 4)) (pg_tup (by rfl) (pgs_cons (pg_name (i := 13) sc_l_due.nd rfl (.inl rfl)) (pgs_cons (pg_name (i := 8) sc_l_due.nd rfl (.inl rfl)) (pgs_cons (pg_name (i := 9) sc_l_due.nd rfl (.inl rfl)) pgs_nil))))
  (pss_cons (ps_set (i := 14) sc_l_due.nd rfl (.inl rfl) (pe_op op_rep (pe_lst (pa_cons pe_int pa_nil)) (pe_callB call_len_seq (by rfl) T.z_len (by decide +kernel) (pa_cons (pv 3) pa_nil))))
 (pss_cons (ps_for PassesOwn.never rfl (pi_list (pv 9)) (pg_tup (by rfl) (pgs_cons (pg_name (i := 10) sc_l_due.nd rfl (.inl rfl)) (pgs_cons (pg_name (i := 11) sc_l_due.nd rfl (.inl rfl)) pgs_nil)))
  (pss_cons (ps_set (i := 5) sc_l_due.nd rfl (.inl rfl) (pe_bm PySem.F.plainAttrs_list PySem.F.slot_list_index PySem.F.type_list_index (mt_indexD (room65 hr)) (pv 3) (pa_cons (pv 10) pa_nil)))
 (pss_one (ps_asg (pe_op op_add (pe_ix ix_list (pv 14) (pv 5) (fun _ _ => rfl)) (pv 11)) (pg_sub (pv 14) (pv 5) set_list)))))
 (pss_one (ps_expr (pe_bm PySem.F.plainAttrs_list PySem.F.slot_list_append PySem.F.type_list_append mt_append (pv 12) (pa_cons (pe_tup (pa_cons (pv 13) (pa_cons (pv 8) (pa_cons (pe_call (ok_l_divided T) (hr.mono (by decide)) (by rfl) T.g_l_divided T.F_l_divided.kp T.b_l_divided .nil pass0 (pa_cons (pv 14) pa_nil)) pa_nil)))) pa_nil)))))))
 (pss_one (ps_ret (pe_tup (pa_cons pe_str (pa_cons (pe_callB call_len_seq (by rfl) T.z_len (by decide +kernel) (pa_cons (pv 3) pa_nil)) (pa_cons (pe_callB (cr_sortS (units2 hr.units)) (by rfl) T.z_sorted (by decide +kernel) (pa_cons (pv 12) pa_nil)) pa_nil))))))))))))), ?_⟩
    refine ⟨by show 2 ≤ sizeLine; decide, fun t0 n0 => at_nil ⟨by show 1 ≤ sizeLine; decide, fun ol n1 => ⟨Nat.zero_le _, fun tl n2 => ?_⟩⟩⟩
    have u0 := same_upd (o := .tup [.int 0, .int 0]) n0
    have f0 := @upd_same H t0 (.tup [.int 0, .int 0])
    generalize upd H t0 (.tup [.int 0, .int 0]) = H0 at *
    have u1 := same_upd (o := .lst [.ref t0]) n1
    have f1 := @upd_same H0 ol (.lst [.ref t0])
    generalize upd H0 ol (.lst [.ref t0]) = H1 at *
    have u2 := same_upd (o := .lst []) n2
    have f2 := @upd_same H1 tl (.lst [])
    have h2 : hid tl (upd H1 tl (.lst [])) = hid tl H1 := hid_upd
    generalize upd H1 tl (.lst []) = H2 at *
    have tl0 : H tl = none := none_of (u0.trans u1) n2
    have t0l : t0 ≠ tl := fun z => by rw [z] at f0; rw [u1 _ _ f0] at n2; cases n2
    have i0 : DInv H H2 tl ol [] [.ref t0] (runW G (0, 0) 0) (toldW G (0, 0) 0) := ⟨u0.trans (u1.trans u2), f2, u2 _ _ f1, .cons ⟨t0, rfl, by rw [h2, hid_ne t0l]; exact u1 _ _ f0⟩ .nil, .nil, fun z => by rw [z] at f1; rw [f1] at n2; cases n2⟩
    clear u0 u1 u2 f0 f1 f2 h2 n0 n1 n2 t0l
    refine ⟨fun c σ F => ∃ (n : Nat) (z6 z7 z8 z9 z10 z11 z12 z13 z14 : Option V) (ol : Addr) (ts os : List V), σ = [some (.ref sl), some (.ref l1), some (.ref l2), some (.ref ol), some (.ref tl), some (.int (n : Nat)), z6, z7, z8, z9, z10, z11, z12, z13, z14, none] ∧ c = 13 - n ∧ n ≤ (runW G (0, 0) n).length ∧ n ≤ 12 ∧ (runW G (0, 0) n).length ≤ 600 ∧ DInv H F tl ol ts os (runW G (0, 0) n) (toldW G (0, 0) n),
      ⟨_, 0, none, none, none, none, none, none, none, none, none, ol, [], _, rfl, rfl, Nat.zero_le _, Nat.zero_le _, by show 1 ≤ 600; decide, i0⟩, fun c σ F hW => ?_⟩
    obtain ⟨n, z6, z7, z8, z9, z10, z11, z12, z13, z14, ol, ts, os, rfl, rfl, nle, n12, r60, iv⟩ := hW
    have lo : os.length = (runW G (0, 0) n).length := iv.ao.1
    by_cases hn : n < os.length
    · by_cases h13 : os.length < 13
      · refine ⟨_, rfl, _, rfl, ol, os, rfl, .inl (SqL.of iv.hol), _, _, rfl, rfl, true, congrArg V.bl (decide_eq_true (by omega)), iteT ⟨_, rfl, ol, os, rfl, .inl (SqL.of iv.hol), _, _, rfl, rfl, true, congrArg V.bl (decide_eq_true (by omega)), iteT ?_⟩⟩
        obtain ⟨y, hy⟩ : ∃ y, (runW G (0, 0) n)[n]? = some y := ⟨_, List.getElem?_eq_getElem (by omega)⟩
        have dy := run_dom gok d0 n y (List.mem_of_getElem? hy)
        have fG := gok.few y dy
        refine ⟨fun σ' F' => ∃ (z6 z7 z8 z9 z10 z11 z12 z13 z14 : Option V) (ol : Addr) (ts os : List V), σ' = [some (.ref sl), some (.ref l1), some (.ref l2), some (.ref ol), some (.ref tl), some (.int ((n : Int) + 1)), z6, z7, z8, z9, z10, z11, z12, z13, z14, none] ∧ (runW G (0, 0) (n + 1)).length ≤ 600 ∧ DInv H F' tl ol ts os (runW G (0, 0) (n + 1)) (toldW G (0, 0) (n + 1)), fun σ' F' h => ?_, ?_⟩
        · obtain ⟨z6, z7, z8, z9, z10, z11, z12, z13, z14, ol', ts', os', rfl, r60', i'⟩ := h
          have := (run_pre1 (G := G) (x := (0, 0)) n).length_le
          exact ⟨13 - (n + 1), by omega, n + 1, _, _, _, _, _, _, _, _, _, ol', ts', os', rfl, rfl, by omega, by omega, r60', i'⟩
        · obtain ⟨v, hv⟩ : ∃ v, os[n]? = some v := ⟨_, List.getElem?_eq_getElem hn⟩
          obtain ⟨u, rfl, hu⟩ := (iv.ao.2 n v y hv hy).mono (hid_same (a := tl))
          refine ⟨_, rfl, _, rfl, _, rfl, ol, os, (n : Nat), _, rfl, rfl, SqL.of iv.hol, atI_nat hv, u, _, 0, _, rfl, rfl, .inl (.inl hu), atI_nat (j := 0) rfl, l1, y.1, s1, x1, rfl, iv.sH _ _ hl1, av1.imp fun _ _ h => h.mono iv.sH, sok1.few, sok1.once, fun F1 d1 k1 q1 ed1 ak1 => ?_⟩
          have iv1 := iv.same q1
          refine ⟨_, rfl, _, rfl, _, rfl, ol, os, (n : Nat), _, rfl, rfl, SqL.of iv1.hol, atI_nat hv, u, _, 1, _, rfl, rfl, .inl (.inl (q1 _ _ hu)), atI_nat (j := 1) rfl, l2, y.2, s2, x2, rfl, iv1.sH _ _ hl2, av2.imp fun _ _ h => h.mono iv1.sH, sok2.few, sok2.once, fun F2 d2 k2 q2 ed2 ak2 => ⟨_, _, rfl, ?_⟩⟩
          have iv2 := iv1.same q2
          have ed1 := q2 _ _ ed1
          have ak1 := ak1.imp fun _ _ e => q2 _ _ e
          have D1k := dk1 y.1
          have D2k := dk2 y.2
          refine ⟨_, rfl, d1, k1, rfl, ed1, fun b1 nb1 => ?_⟩
          rw [kw_strs ak1]
          have v1 := same_upd (o := .lst (((doorOf s1 y.1).map (·.sign)).map V.str)) nb1
          have g1 := @upd_same F2 b1 (.lst (((doorOf s1 y.1).map (·.sign)).map V.str))
          generalize upd F2 b1 (.lst (((doorOf s1 y.1).map (·.sign)).map V.str)) = F3 at *
          refine ⟨_, rfl, d2, k2, rfl, v1 _ _ ed2, fun b2 nb2 => ?_⟩
          rw [kw_strs ak2]
          have v2 := same_upd (o := .lst (((doorOf s2 y.2).map (·.sign)).map V.str)) nb2
          have g2 := @upd_same F3 b2 (.lst (((doorOf s2 y.2).map (·.sign)).map V.str))
          generalize upd F3 b2 (.lst (((doorOf s2 y.2).map (·.sign)).map V.str)) = F4 at *
          refine ⟨b1, b2, _, _, rfl, rfl, v2 _ _ g1, g2, ?_, fun b3 nb3 => ?_⟩
          · rw [List.length_map, List.length_map, List.length_map, List.length_map]
            have := D1k.few
            have := D2k.few
            exact Nat.le_of_lt (small1000 (by omega))
          rw [← List.map_append]
          have v3 := same_upd (o := .lst (((doorOf s1 y.1).map (·.sign) ++ (doorOf s2 y.2).map (·.sign)).map V.str)) nb3
          have g3 := @upd_same F4 b3 (.lst (((doorOf s1 y.1).map (·.sign) ++ (doorOf s2 y.2).map (·.sign)).map V.str))
          generalize upd F4 b3 (.lst (((doorOf s1 y.1).map (·.sign) ++ (doorOf s2 y.2).map (·.sign)).map V.str)) = F5 at *
          have l56 : ((doorOf s1 y.1).map (·.sign) ++ (doorOf s2 y.2).map (·.sign)).length ≤ 56 := by
            rw [List.length_append, List.length_map, List.length_map]
            have := D1k.few
            have := D2k.few
            omega
          refine at_nil (set_tt (P := P) (w := w) g3 (by omega) fun F6 Dt L v4 eT lL nL mL => at_nil ⟨Dt, L, rfl, eT, by omega, fun zs b4 pm so nb4 => ?_⟩)
          have b4l : b4 ≠ tl := fun z => by rw [z, (iv2.same (v1.trans (v2.trans (v3.trans v4)))).htl] at nb4; cases nb4
          have v5 := same_upd (o := .lst (zs.map V.str)) nb4
          have g5 := @upd_same F6 b4 (.lst (zs.map V.str))
          generalize upd F6 b4 (.lst (zs.map V.str)) = F7 at *
          have up : UpS zs (doorOf s1 y.1) (doorOf s2 y.2) := ⟨pm.nodup_iff.mpr nL, so, fun z => by rw [pm.mem_iff, mL, List.mem_append, List.mem_map, List.mem_map]⟩
          have eGy : G y = DuF sh y (doorOf s1 y.1) (doorOf s2 y.2) zs := by rw [eG, (ups y).uniq up]
          have lz : zs.length ≤ 56 := by rw [pm.length_eq]; omega
          have vA := v1.trans (v2.trans (v3.trans (v4.trans v5)))
          have iv7 := iv2.same vA
          have ed1 := vA _ _ ed1
          have ed2 := vA _ _ ed2
          have ak1 := ak1.imp fun _ _ e => vA _ _ e
          have ak2 := ak2.imp fun _ _ e => vA _ _ e
          clear v1 v2 v3 v4 v5 vA g1 g2 g3 nb1 nb2 nb3 nb4 eT pm lL nL mL so iv1 iv2 q1 q2 hv hu
          have ne1 : d1 ≠ tl := fun z => by rw [z, iv7.htl] at ed1; cases ed1
          have ne2 : d2 ≠ tl := fun z => by rw [z, iv7.htl] at ed2; cases ed2
          have akT : ∀ {k : List (Key × V)} {d : List Stp}, AreKw F7 k d → AreKw (hid tl F7) k d := fun a => a.imp fun _ _ e => hid_no ⟨_, iv7.htl⟩ e (fun _ => nofun)
          have ak1 := akT ak1
          have ak2 := akT ak2
          have ed1 : (hid tl F7) d1 = some (.dK k1) := by rw [hid_ne ne1]; exact ed1
          have ed2 : (hid tl F7) d2 = some (.dK k2) := by rw [hid_ne ne2]; exact ed2
          have eb4 : (hid tl F7) b4 = some (.lst (zs.map V.str)) := by rw [hid_ne b4l]; exact g5
          have esl : (hid tl F7) sl = some (.lst (sh.map V.str)) := by rw [hid_ne (fun z => by rw [z, tl0] at hsl; cases hsl)]; exact iv7.sH _ _ hsl
          obtain ⟨R, hR⟩ : ∃ R : Nat → List GRow, R = fun j => DuF sh y (doorOf s1 y.1) (doorOf s2 y.2) (zs.take j) := ⟨_, rfl⟩
          have R0 : R 0 = [] := by rw [hR]; rfl
          have RS : ∀ {j z}, zs[j]? = some z → R (j + 1) = R j ++ (rowD sh y (doorOf s1 y.1) (doorOf s2 y.2) z).toList := fun h => by rw [hR]; exact du_take h
          have RL : R zs.length = G y := by rw [hR, eGy]; show DuF _ _ _ _ (zs.take zs.length) = _; rw [List.take_length]
          have R4 : ∀ j, (R j).length ≤ 4 := fun j => by
            have : (R j).length ≤ (G y).length := by
              rw [hR, eGy]
              exact ((List.take_sublist j zs).filterMap _).length_le
            omega
          clear hR
          refine ⟨b4, rfl, ⟨_, SqL.of g5⟩, for_list (K := K) (a := b4) (xs := zs.map V.str) (fun j σ F' => ∃ (z8 z9 z10 z11 z12 z13 z14 : Option V) (ol : Addr) (ts os : List V), σ = [some (.ref sl), some (.ref l1), some (.ref l2), some (.ref ol), some (.ref tl), some (.int (n : Nat)), some (.ref d1), some (.ref d2), z8, z9, z10, z11, z12, z13, z14, none] ∧ Same (hid tl F7) (hid tl F') ∧ (addR (runW G (0, 0) n) (R j)).length ≤ 12 + 144 * (R j).length ∧ DInv H F' tl ol ts os (addR (runW G (0, 0) n) (R j)) (toldW G (0, 0) n ++ (R j).map fun r => (n, r)))
            ⟨_, _, _, _, _, _, _, ol, ts, os, rfl, Same.refl _, ?_, ?_⟩ (fun j σ F' _ h => ?_) (fun j x σ F' hx h => ?_) (fun σ F' h => ?_)⟩
          · rw [R0]
            show (runW G (0, 0) n).length ≤ 12
            omega
          · rw [R0, List.map_nil, List.append_nil]
            exact iv7
          · obtain ⟨_, _, _, _, _, _, _, _, _, _, _, sT, _⟩ := h
            exact SqL.of (hid_same _ _ (sT _ _ eb4))
          · obtain ⟨z8, z9, z10, z11, z12, z13, z14, ol, ts, os, rfl, sT, lf, iv⟩ := h
            rw [List.getElem?_map] at hx
            obtain ⟨z, hz, rfl⟩ := Option.map_eq_some_iff.mp hx
            have rs := RS hz
            have rj := R4 j
            have rj1 := R4 (j + 1)
            have hyf : (addR (runW G (0, 0) n) (R j))[n]? = some y := by
              have pre := addR_pre (R j) (runW G (0, 0) n)
              obtain ⟨rest, er⟩ := pre
              rw [← er, List.getElem?_append_left (by omega)]
              exact hy
            obtain ⟨v, hv⟩ : ∃ v, os[n]? = some v := ⟨_, List.getElem?_eq_getElem (by rw [iv.ao.1]; exact (List.getElem?_eq_some_iff.mp hyf).1)⟩
            have iy := (iv.ao.2 n v y hv hyf).mono (hid_same (a := tl))
            have sX := fun b o e => hid_same (a := tl) (H := F') b o (sT b o e)
            refine ⟨_, rfl, _, rfl, _, rfl, ol, os, (n : Nat), v, rfl, rfl, SqL.of iv.hol, atI_nat hv, _, rfl, _, rfl, _, rfl, sl, d1, d2, v, z, sh, y, k1, k2, doorOf s1 y.1, doorOf s2 y.2, rfl, sX _ _ esl, iy, sX _ _ ed1, sX _ _ ed2, ak1.imp fun _ _ e => sX _ _ e, ak2.imp fun _ _ e => sX _ _ e, D1k, D2k, fun F8 lg gys q8 elg ag => ?_⟩
            have iv8 := iv.same q8
            obtain ⟨g0, eg0⟩ : ∃ g0, g0 = onwF sh y (doorOf s1 y.1) (doorOf s2 y.2) z := ⟨_, rfl⟩
            have lg0 : g0.length ≤ 144 := by rw [eg0]; exact onw_len D1k D2k z
            have er : rowD sh y (doorOf s1 y.1) (doorOf s2 y.2) z = if posG g0 = [] then none else some (z, g0) := by rw [eg0]; rfl
            rw [← eg0] at ag
            have lag : gys.length = g0.length := ag.1
            clear eg0
            refine ⟨lg, rfl, ⟨_, SqL.of elg⟩, fun D nD => lc_filtW (walk_list (K := K) (a := lg) (xs := gys)) (fun k => (g0[k]?).any fun g => decide (0 < g.2)) (fun k y G' => ∃ g, g0[k]? = some g ∧ IsGoal G' y g) (fun _ _ _ _ s ⟨g, a, b⟩ => ⟨g, a, b.mono s⟩) nD (fun H3 s3 => SqL.of (s3 _ _ elg)) (by omega) (fun k x H3 H4 kt kf hk s3 eD w hkt hkf => ?_) (fun H3 cs s3 e3 a3 => ?_)⟩
            · obtain ⟨rfl, ex⟩ := w
              obtain ⟨g, hg, ig⟩ := ag.at ex
              have ig0 := ig.mono s3
              obtain ⟨t1, y1, rfl, ht1, u1, rfl, hu1⟩ := ig0.mono (hid_same (a := D))
              by_cases gp : 0 < g.2
              · exact ⟨rfl, _, rfl, t1, _, 1, _, rfl, rfl, .inl (.inl ht1), atI_nat (j := 1) rfl, (g.2 : Nat), 0, rfl, rfl, true, congrArg V.bl (decide_eq_true (by omega)), iteT ⟨_, rfl, hkt (by rw [hg]; exact decide_eq_true gp) _ _ (Same.refl _) ⟨g, hg, ig0⟩⟩⟩
              · exact ⟨rfl, _, rfl, t1, _, 1, _, rfl, rfl, .inl (.inl ht1), atI_nat (j := 1) rfl, (g.2 : Nat), 0, rfl, rfl, false, congrArg V.bl (decide_eq_false (by omega)), iteF (hkf (by rw [hg]; exact decide_eq_false gp) _ (Same.refl _))⟩
            have s3' := s3.trans (hid_same (a := D))
            rw [lag] at a3
            have a4 := filt_are (R := fun y g => IsGoal (hid D H3) y g) (p := fun g => decide (0 < g.2)) (xs := g0) g0.length cs (Nat.le_refl _) a3
            rw [List.take_length] at a4
            have aS : AllAre (IsGoal H3) cs (posG g0) := a4.imp fun _ _ h => h.mono hid_same
            have iv3 := iv8.same s3'
            have Dtl : D ≠ tl := fun w => by rw [w, iv8.htl] at nD; cases nD
            have sT3 : Same (hid tl F7) (hid tl H3) := sT.trans (hid_mono (q8.trans s3'))
            have lcs : cs.length ≤ 144 := by
              rw [aS.1]
              exact Nat.le_trans (List.length_filter_le _ _) lg0
            have lts : ts.length ≤ 60 := by
              rw [iv.at_.1, List.length_append, List.length_map]
              have := told_len gok d0 n
              omega
            clear a3 a4 s3 s3' nD iv8 q8 elg ag iy hv sX
            let C : L2.St → Hp → Prop := fun σ F => ∃ ts', σ = [some (.ref sl), some (.ref l1), some (.ref l2), some (.ref ol), some (.ref tl), some (.int (n : Nat)), some (.ref d1), some (.ref d2), some (.str z), some (.ref D), z10, z11, z12, z13, z14, none] ∧ Same (hid tl F7) (hid tl F) ∧ (hid tl F) D = some (.lst cs) ∧ AllAre (IsGoal (hid tl F)) cs (posG g0) ∧ DInv H F tl ol ts' os (addR (runW G (0, 0) n) (R j)) (toldW G (0, 0) n ++ (R (j + 1)).map fun r => (n, r))
            refine at_name (nx_tseq ?_)
            refine if_join (C := C) (fun σ F hC => ?_) (fun Nx hNx => ?_)
            · obtain ⟨ts', rfl, sF, eD, aD, iF⟩ := hC
              have aD0 := aD.imp fun _ _ h => h.mono (hid_same (a := tl))
              have eD0 := hid_same _ _ eD
              have rj12 : (addR (runW G (0, 0) n) (R j)).length ≤ 588 := by omega
              obtain ⟨f, ef⟩ : ∃ f, f = addR (runW G (0, 0) n) (R j) := ⟨_, rfl⟩
              have ert : addR (runW G (0, 0) n) (R (j + 1)) = addG f (posG g0) := by
                rw [rs, addR_app, ← ef, er]
                split
                · rename_i pE
                  rw [pE]
                  rfl
                · exact (addG_pos g0 f).symm
              rw [← ef] at iF rj12 lf
              have lp : (posG g0).length ≤ 144 := Nat.le_trans (List.length_filter_le _ _) lg0
              refine ⟨_, rfl, D, rfl, ⟨_, SqL.of eD0⟩, for_list (K := K) (a := D) (xs := cs) (fun i σ F9 => ∃ (z10 z11 : Option V) (ol : Addr) (os : List V), σ = [some (.ref sl), some (.ref l1), some (.ref l2), some (.ref ol), some (.ref tl), some (.int (n : Nat)), some (.ref d1), some (.ref d2), some (.str z), some (.ref D), z10, z11, z12, z13, z14, none] ∧ Same F F9 ∧ DInv H F9 tl ol ts' os (addG f ((posG g0).take i)) (toldW G (0, 0) n ++ (R (j + 1)).map fun r => (n, r)))
                ⟨_, _, ol, os, rfl, Same.refl _, iF⟩ (fun i σ F9 _ h => ?_) (fun i x σ F9 hx h => ?_) (fun σ F9 h => ?_)⟩
              · obtain ⟨_, _, _, _, _, s9, _⟩ := h
                exact SqL.of (s9 _ _ eD0)
              · obtain ⟨z10, z11, ol, os, rfl, s9, i9⟩ := h
                obtain ⟨g, hg, ig⟩ := aD0.at hx
                obtain ⟨t1, y1, rfl, ht1, u1, rfl, hu1⟩ := ig.mono s9
                have gp : 0 < g.2 := posG_pos (List.mem_of_getElem? hg)
                have eT := addG_take (f := f) hg
                have lfi := addG_len ((posG g0).take i) f
                rw [List.length_take] at lfi
                refine ⟨t1, _, rfl, .inl (.inl ht1), rfl, _, _, rfl, _, _, rfl, rfl, ?_⟩
                generalize addG f ((posG g0).take i) = fi at *
                refine ⟨_, rfl, _, rfl, by show 1 ≤ sizeLine; decide, fun p1 np1 => ?_⟩
                have w1 := same_upd (o := .lst [.ref u1]) np1
                have f1 := @upd_same F9 p1 (.lst [.ref u1])
                have i10 := i9.same w1
                have hu2 := w1 _ _ hu1
                have s10 := s9.trans w1
                generalize upd F9 p1 (.lst [.ref u1]) = F10 at *
                have los : os.length = fi.length := i10.ao.1
                refine ⟨_, rfl, _, rfl, datP g.1, fi.map datP, IsThing.dp ⟨u1, rfl, hu2⟩, .lst (SqL.of i10.hol) (dps (i10.ao.imp fun _ _ h => h.mono hid_same)), shaped_datP _, shaped_datPs _, ?_⟩
                rw [any_datP]
                by_cases c : g.1 ∈ fi
                · rw [decide_eq_true c]
                  rw [if_neg (fun w => w.2 c)] at eT
                  refine at_nil (.inr ⟨_, rfl, p1, _, [.ref u1], rfl, rfl, f1, by decide, by decide, by show 1 * 0 ≤ sizeLine; decide, fun p2 np2 => ?_⟩)
                  have w2 := same_upd (o := .lst (List.replicate ((if (!true) = true then 1 else 0 : Int)).toNat [V.ref u1]).flatten) np2
                  refine ⟨ol, p2, os, _, rfl, rfl, w2 _ _ i10.hol, upd_same, ?_, fun p3 np3 => ?_⟩
                  · rw [sizeLine_eq]
                    show os.length + 0 ≤ _
                    omega
                  have w3 := same_upd (o := .lst (os ++ (List.replicate ((if (!true) = true then 1 else 0 : Int)).toNat [V.ref u1]).flatten)) np3
                  have i12 := (i10.same w2).same w3
                  refine ⟨_, _, p3, os, rfl, s10.trans (w2.trans w3), ?_⟩
                  rw [eT]
                  refine ⟨i12.sH, i12.htl, ?_, i12.ao, i12.at_, fun w => ?_⟩
                  · rw [upd_same]
                    show some (HO.lst (os ++ [])) = _
                    rw [List.append_nil]
                  · rw [w, (i10.same w2).htl] at np3
                    cases np3
                · rw [decide_eq_false c]
                  rw [if_pos ⟨gp, c⟩] at eT
                  refine at_nil (.inr ⟨_, rfl, p1, _, [.ref u1], rfl, rfl, f1, by decide, by decide, by show 1 * 1 ≤ sizeLine; decide, fun p2 np2 => ?_⟩)
                  have w2 := same_upd (o := .lst (List.replicate ((if (!false) = true then 1 else 0 : Int)).toNat [V.ref u1]).flatten) np2
                  refine ⟨ol, p2, os, _, rfl, rfl, w2 _ _ i10.hol, upd_same, ?_, fun p3 np3 => ?_⟩
                  · rw [sizeLine_eq]
                    show os.length + 1 ≤ _
                    omega
                  have w3 := same_upd (o := .lst (os ++ (List.replicate ((if (!false) = true then 1 else 0 : Int)).toNat [V.ref u1]).flatten)) np3
                  have i12 := (i10.same w2).same w3
                  refine ⟨_, _, p3, os ++ [.ref u1], rfl, s10.trans (w2.trans w3), ?_⟩
                  rw [eT]
                  refine ⟨i12.sH, i12.htl, upd_same, AllAre.snoc i12.ao (IsThing.hid i12.htl ⟨u1, rfl, (w2.trans w3) _ _ hu2⟩), i12.at_, fun w => ?_⟩
                  rw [w, (i10.same w2).htl] at np3
                  cases np3
              · obtain ⟨z10, z11, ol, os, rfl, s9, i9⟩ := h
                rw [aD.1, List.take_length, ← ert] at i9
                refine ⟨_, _, _, _, _, _, _, ol, ts', os, rfl, sF.trans (hid_mono s9), ?_, i9⟩
                rw [ert]
                have := addG_len (posG g0) f
                by_cases pE : posG g0 = []
                · rw [pE]
                  show f.length ≤ _
                  have : (R j).length ≤ (R (j + 1)).length := by rw [rs, List.length_append]; omega
                  omega
                · rw [rs, er, if_neg pE, List.length_append]
                  show _ ≤ 12 + 144 * ((R j).length + 1)
                  omega
            · refine ⟨_, rfl, Nat.zero_le _, fun c0 nc0 => ⟨D, c0, cs, rfl, rfl, SqL.of (same_upd nc0 _ _ e3), SqL.of upd_same, _, rfl, ?_⟩⟩
              have w0 := same_upd (o := .lst []) nc0
              have iv4 := iv3.same w0
              have e4 := w0 _ _ e3
              have aS4 := aS.imp fun _ _ h => h.mono w0
              have sT4 := sT3.trans (hid_mono w0)
              generalize upd H3 c0 (.lst []) = H4 at *
              have eD4 : (hid tl H4) D = some (.lst cs) := by rw [hid_ne Dtl]; exact e4
              have aD4 : AllAre (IsGoal (hid tl H4)) cs (posG g0) := aS4.imp fun _ _ h => h.hid iv4.htl
              by_cases cE : cs = []
              · have pE : posG g0 = [] := List.eq_nil_of_length_eq_zero (by rw [← aS.1, cE]; rfl)
                rw [if_pos pE] at er
                rw [er, Option.toList_none, List.append_nil] at rs
                rw [show (not cs.isEmpty) = false by rw [cE]; rfl]
                refine iteF (hNx _ _ ⟨ts, rfl, sT4, eD4, aD4, ?_⟩)
                rw [rs]
                exact iv4
              · have pE : posG g0 ≠ [] := fun w => cE (List.eq_nil_of_length_eq_zero (by rw [aS.1, w]; rfl))
                rw [if_neg pE] at er
                rw [er, Option.toList_some] at rs
                rw [show (not cs.isEmpty) = true by cases cs with | nil => exact absurd rfl cE | cons _ _ => rfl]
                refine iteT ⟨_, rfl, .inl ⟨rfl, _, SqL.of iv4.htl⟩, _, rfl, _, rfl, _, rfl, by show 3 ≤ sizeLine; decide, fun t4 nt4 => ?_⟩
                have w4 := same_upd (o := .tup [.int (n : Nat), .str z, .ref D]) nt4
                have f4 := @upd_same H4 t4 (.tup [.int (n : Nat), .str z, .ref D])
                have iv5 := iv4.same w4
                have eD5 := (hid_mono (a := tl) w4) _ _ eD4
                have aD5 := aD4.imp fun _ _ h => h.mono (hid_mono (a := tl) w4)
                have sT5 := sT4.trans (hid_mono (a := tl) w4)
                generalize upd H4 t4 (.tup [.int (n : Nat), .str z, .ref D]) = H5 at *
                refine at_nil ⟨tl, ts, _, rfl, rfl, iv5.htl, by rw [sizeLine_eq]; omega, hNx _ _ ⟨ts ++ [.ref t4], rfl, ?_⟩⟩
                have t4l : t4 ≠ tl := fun w => by rw [w, iv5.htl] at f4; cases f4
                have h5 : hid tl (upd H5 tl (.lst (ts ++ [.ref t4]))) = hid tl H5 := hid_upd
                rw [h5]
                refine ⟨sT5, eD5, aD5, same_over iv5.sH tl0, upd_same, by rw [upd_ne iv5.ne]; exact iv5.hol, by rw [h5]; exact iv5.ao, ?_, iv5.ne⟩
                rw [h5, rs, List.map_append, ← List.append_assoc]
                exact AllAre.snoc iv5.at_ ⟨t4, D, cs, rfl, by rw [hid_ne t4l]; exact f4, eD5, aD5⟩
          · obtain ⟨z8, z9, z10, z11, z12, z13, z14, ol, ts, os, rfl, sT, lf, iv⟩ := h
            rw [List.length_map, RL, ← run_succ hy] at lf iv
            rw [← told_succ hy] at iv
            refine ⟨_, rfl, _, _, rfl, rfl, ?_⟩
            exact ⟨_, _, _, _, _, _, _, _, _, ol, ts, os, rfl, by omega, iv⟩
      · refine ⟨_, rfl, _, rfl, ol, os, rfl, .inl (SqL.of iv.hol), _, _, rfl, rfl, true, congrArg V.bl (decide_eq_true (by omega)), iteT ⟨_, rfl, ol, os, rfl, .inl (SqL.of iv.hol), _, _, rfl, rfl, false, congrArg V.bl (decide_eq_false (by omega)), iteF ?_⟩⟩
        refine ⟨_, rfl, ol, os, rfl, .inl (SqL.of iv.hol), _, _, rfl, rfl, true, congrArg V.bl (decide_eq_true (by omega)), iteT ⟨by show 1 ≤ sizeLine; decide, fun t nt => ?_⟩⟩
        exact qm ⟨n, by omega⟩ _ t (iv.sH.trans (same_upd nt)) upd_same
    · refine ⟨_, rfl, _, rfl, ol, os, rfl, .inl (SqL.of iv.hol), _, _, rfl, rfl, false, congrArg V.bl (decide_eq_false (by omega)), iteF ?_⟩
      refine ⟨_, rfl, ol, os, rfl, .inl (SqL.of iv.hol), _, _, rfl, rfl, false, congrArg V.bl (decide_eq_false (by omega)), iteF ?_⟩
      have aw : AllW G (0, 0) n := ⟨by omega, n12⟩
      have sok := found_ok gok d0 aw
      have fnd := run_nd (G := G) (x := (0, 0)) n
      have ln : os.length = n := by have := aw.1; omega
      refine ⟨Nat.zero_le _, fun s9 n9 => ?_⟩
      have u9 := same_upd (o := .lst []) n9
      have e9 := @upd_same F s9 (.lst [])
      generalize upd F s9 (.lst []) = F9 at *
      have s9t : s9 ≠ tl := fun w => by rw [w, iv.htl] at n9; cases n9
      refine ⟨_, rfl, tl, rfl, ⟨_, SqL.of (u9 _ _ iv.htl)⟩, for_list (K := K) (a := tl) (xs := ts) (fun j σ F' => ∃ (z5 z8 z9 z10 z11 z13 z14 : Option V) (ss : List V), σ = [some (.ref sl), some (.ref l1), some (.ref l2), some (.ref ol), some (.ref tl), z5, z6, z7, z8, z9, z10, z11, some (.ref s9), z13, z14, none] ∧ Same F F' ∧ F' s9 = some (.lst ss) ∧ AllAre (IsStp (hid s9 F')) ss (((toldW G (0, 0) n).take j).map fun e => lowS ⟨e.1, e.2.1, wtsG (runW G (0, 0) n) e.2.2⟩))
        ⟨_, _, _, _, _, _, _, [], rfl, u9, e9, .nil⟩ (fun j σ F' _ h => ?_) (fun j x σ F' hx h => ?_) (fun σ F' h => ?_)⟩
      · obtain ⟨_, _, _, _, _, _, _, _, _, sF, _⟩ := h
        exact SqL.of (sF _ _ iv.htl)
      · obtain ⟨z5, z8, z9, z10, z11, z13, z14, ss, rfl, sF, es, as⟩ := h
        obtain ⟨e, he, il⟩ := iv.at_.at hx
        have em := List.mem_of_getElem? he
        obtain ⟨t, lg, gys, rfl, ht, hlg, ag⟩ := (il.mono (hid_same (a := tl))).mono sF
        have ao' := (iv.ao.imp fun _ _ h => h.mono (hid_same (a := tl))).imp fun _ _ h => IsThing.mono h sF
        have ol' := sF _ _ iv.hol
        have so := sok.all ⟨e.1, e.2.1, wtsG (runW G (0, 0) n) e.2.2⟩ (List.mem_map.mpr ⟨e, em, rfl⟩)
        refine ⟨t, _, rfl, .inl (.inl ht), rfl, _, _, rfl, _, _, rfl, _, _, rfl, rfl, ?_⟩
        refine ⟨by show 1 ≤ sizeLine; decide, fun q1 nq1 => ⟨_, rfl, ol, os, rfl, .inl (SqL.of (same_upd nq1 _ _ ol')), q1, ((os.length : Nat) : Int), [.int 0], rfl, rfl, upd_same, by omega, by omega, by rw [Int.toNat_natCast, sizeLine_eq]; show 1 * _ ≤ _; omega, fun wl nwl => ?_⟩⟩
        have u6 := same_upd (o := .lst [.int 0]) nq1
        generalize upd F' q1 (.lst [.int 0]) = F6 at *
        rw [Int.toNat_natCast, lo, zeros_are]
        have u7 := same_upd (o := .lst (nts (wtsG (runW G (0, 0) n) []))) nwl
        have e7 := @upd_same F6 wl (.lst (nts (wtsG (runW G (0, 0) n) [])))
        generalize upd F6 wl (.lst (nts (wtsG (runW G (0, 0) n) []))) = F7 at *
        have s67 := u6.trans u7
        have lgw : lg ≠ wl := fun w => by rw [← w, u6 _ _ hlg] at nwl; cases nwl
        have wlF : F' wl = none := none_of u6 nwl
        have lgs : gys.length = (posG e.2.2).length := ag.1
        have wl' : ∀ gs : Goals, (nts (wtsG (runW G (0, 0) n) gs)).length = n := fun gs => by rw [nts_len]; unfold wtsG; rw [List.length_map]; exact aw.1
        refine ⟨_, rfl, lg, rfl, ⟨_, SqL.of (s67 _ _ hlg)⟩, for_list (K := K) (a := lg) (xs := gys) (fun i σ F8 => ∃ (z5 z10 z11 : Option V), σ = [some (.ref sl), some (.ref l1), some (.ref l2), some (.ref ol), some (.ref tl), z5, z6, z7, some (.str e.2.1), some (.ref lg), z10, z11, some (.ref s9), some (.int (e.1 : Nat)), some (.ref wl), none] ∧ (∀ b, b ≠ wl → F8 b = F7 b) ∧ F8 wl = some (.lst (nts (wtsG (runW G (0, 0) n) ((posG e.2.2).take i)))))
          ⟨_, _, _, rfl, fun _ _ => rfl, e7⟩ (fun i σ F8 _ h => ?_) (fun i x σ F8 hx h => ?_) (fun σ F8 h => ?_)⟩
        · obtain ⟨_, _, _, _, off, _⟩ := h
          exact SqL.of (by rw [off lg lgw]; exact s67 _ _ hlg)
        · obtain ⟨z5, z10, z11, rfl, off, e8⟩ := h
          have s8 : Same F' F8 := fun b o e => by
            rw [off b (fun w => by rw [w, wlF] at e; cases e)]
            exact s67 _ _ e
          obtain ⟨g, hg, ig⟩ := ag.at hx
          obtain ⟨t1, y1, rfl, ht1, hy1⟩ := ig.mono s8
          have gm : g ∈ e.2.2 := (List.mem_filter.mp (List.mem_of_getElem? hg)).1
          have gp : 0 < g.2 := posG_pos (List.mem_of_getElem? hg)
          obtain ⟨k, hk⟩ := List.mem_iff_getElem?.mp (told_on em gm gp)
          have kl := (List.getElem?_eq_some_iff.mp hk).1
          have hval : (nts (wtsG (runW G (0, 0) n) ((posG e.2.2).take i)))[k]? = some (.int (sumG ((posG e.2.2).take i) g.1 : Nat)) := by
            unfold nts wtsG
            rw [List.getElem?_map, List.getElem?_map, hk]
            rfl
          refine ⟨t1, _, rfl, .inl (.inl ht1), rfl, _, _, rfl, _, _, rfl, rfl, ?_⟩
          refine ⟨_, rfl, .inl ⟨rfl, _, SqL.of (s8 _ _ ol')⟩, _, rfl, at_nil ⟨ol, y1, datP g.1, (runW G (0, 0) n).map datP, k, datP g.1, rfl, rfl, .lst (SqL.of (s8 _ _ ol')) (dps (ao'.imp fun _ _ h => h.mono s8)), hy1.dp, shaped_datPs _, shaped_datP _, by rw [List.getElem?_map, hk]; rfl, by rw [datP_eqv]; exact decide_eq_true rfl, fun m z' hm hz => ?_, ?_⟩⟩
          · rw [List.getElem?_map] at hz
            cases hf : (runW G (0, 0) n)[m]? with
            | none => rw [hf] at hz; cases hz
            | some a =>
              rw [hf] at hz
              cases hz
              rw [datP_eqv]
              refine decide_eq_false fun w => ?_
              subst w
              have := (List.getElem?_inj (List.getElem?_eq_some_iff.mp hf).1 fnd).mp (hf.trans hk.symm)
              omega
          · refine ⟨_, rfl, _, rfl, wl, _, (k : Nat), _, rfl, rfl, SqL.of e8, atI_nat hval, _, rfl, _, _, rfl, rfl, _, rfl, _, rfl, wl, _, (k : Nat), k, rfl, rfl, e8, ixN_nn (by rw [wl']; have := aw.1; omega), ?_⟩
            refine ⟨_, _, _, rfl, fun b hb => ?_, ?_⟩
            · rw [upd_ne hb]
              exact off b hb
            · rw [upd_same, List.take_add_one, hg, Option.toList_some, wts_snoc fnd hk, Int.natCast_add]
        · obtain ⟨z5, z10, z11, rfl, off, e8⟩ := h
          rw [lgs, List.take_length, wts_pos] at e8
          have s8 : Same F' F8 := fun b o e => by
            rw [off b (fun w => by rw [w, wlF] at e; cases e)]
            exact s67 _ _ e
          have es8 := s8 _ _ es
          have sl' := as.1
          have tlen := told_len gok d0 n
          rw [List.length_map, List.length_take] at sl'
          refine ⟨_, rfl, .inl ⟨rfl, _, SqL.of es8⟩, _, rfl, _, rfl, _, rfl, wl, _, rfl, e8, so.wts.pos, so.wts.bd, by have : (wtsG (runW G (0, 0) n) e.2.2).length = n := so.wts.len; omega, fun H9 r9 s9' e9' => ⟨by show 3 ≤ sizeLine; decide, fun t9 nt9 => ?_⟩⟩
          have u10 := same_upd (o := .tup [.int (e.1 : Nat), .str e.2.1, .ref r9]) nt9
          have f10 := @upd_same H9 t9 (.tup [.int (e.1 : Nat), .str e.2.1, .ref r9])
          have e10 := u10 _ _ e9'
          have s810 := s8.trans (s9'.trans u10)
          generalize upd H9 t9 (.tup [.int (e.1 : Nat), .str e.2.1, .ref r9]) = H10 at *
          have es10 := s810 _ _ es
          refine at_nil ⟨s9, ss, _, rfl, rfl, es10, by rw [sizeLine_eq]; omega, ?_⟩
          refine ⟨_, _, _, _, _, _, _, ss ++ [.ref t9], rfl, same_over (sF.trans s810) n9, upd_same, ?_⟩
          rw [hid_upd, List.take_add_one, he, Option.toList_some, List.map_append]
          exact AllAre.snoc (as.imp fun _ _ h => h.mono (hid_mono s810)) ⟨t9, r9, rfl, hid_no ⟨_, es10⟩ f10 (fun _ => nofun), hid_no ⟨_, es10⟩ e10 (fun _ => nofun)⟩
      · obtain ⟨z5, z8, z9, z10, z11, z13, z14, ss, rfl, sF, es, as⟩ := h
        rw [iv.at_.1, List.take_length] at as
        have em : (toldW G (0, 0) n).map (fun e => lowS ⟨e.1, e.2.1, wtsG (runW G (0, 0) n) e.2.2⟩) = (stepsW G (0, 0) n).map lowS := by
          unfold stepsW
          rw [List.map_map]
          rfl
        rw [em] at as
        refine ⟨_, rfl, ol, os, rfl, .inl (SqL.of (sF _ _ iv.hol)), _, rfl, at_nil (sort_stpsB (hid_same (a := s9)) es as (by rw [List.length_map]; exact sok.few) (by rw [List.map_map]; exact sok.once) fun zs p out np a pm up => at_nil ⟨by show 3 ≤ sizeLine; decide, fun t nt => ?_⟩)⟩
        have u1 := same_upd (o := .lst zs) np
        have f1 := @upd_same F' p (.lst zs)
        generalize upd F' p (.lst zs) = G1 at *
        have u2 := same_upd (o := .tup [.str "told", .int ((os.length : Nat) : Int), .ref p]) nt
        refine qa n aw _ _ out (iv.sH.trans (sF.trans (u1.trans u2))) pm up ⟨t, p, zs, rfl, ?_, u2 _ _ f1, a.imp fun _ _ h => ((h.mono hid_same).mono u1).mono u2⟩
        rw [← ln]
        exact upd_same
end
end Fb
namespace Fb
open PySem PySem.Spec PyProof.Rows L2
section
theorem sort_ex (ss : List Stp) (once : (ss.map Stp.key).Nodup) : ∃ o : List Stp, o.Perm ss ∧ Sorted o := by
  have tr : ∀ a b c : Stp, (!rsLt b.key a.key) = true → (!rsLt c.key b.key) = true → (!rsLt c.key a.key) = true := fun a b c h1 h2 => by
    rw [Bool.not_eq_true'] at h1 h2 ⊢
    cases e : rsLt c.key a.key with
    | false => rfl
    | true =>
      cases e2 : rsLt a.key b.key with
      | true =>
        rw [rsLt_trans e e2] at h2
        cases h2
      | false =>
        rw [← rsLt_total e2 h1, e] at h2
        cases h2
  have tt : ∀ a b : Stp, ((!rsLt b.key a.key) || !rsLt a.key b.key) = true := fun a b => by
    cases e : rsLt b.key a.key with
    | false => rfl
    | true =>
      cases e2 : rsLt a.key b.key with
      | false => rfl
      | true =>
        have := rsLt_trans e e2
        rw [rsLt_irr] at this
        cases this
  have up := List.pairwise_mergeSort (le := fun a b : Stp => !rsLt b.key a.key) tr tt ss
  have pm := List.mergeSort_perm ss (fun a b : Stp => !rsLt b.key a.key)
  have nd := List.pairwise_map.mp ((pm.map Stp.key).nodup_iff.mpr once)
  refine ⟨_, pm, ⟨(nd.and up).imp fun {a b} h => ?_⟩⟩
  have h2 : rsLt b.key a.key = false := by simpa using h.2
  cases c : rsLt a.key b.key with
  | true => rfl
  | false => exact absurd (rsLt_total c h2) h.1
theorem sorted_back : ∀ {x : Str} {l : List Str}, (x :: l).Pairwise (fun u v => ¬ sLt v u) → risingS x l = true
  | x, [], _ => rfl
  | x, y :: l, h => by
    obtain ⟨h1, h2⟩ := List.pairwise_cons.mp h
    show (!ltCps y.cps.toList x.cps.toList && risingS y l) = true
    rw [Bool.and_eq_true, ltCps_eq, sorted_back h2]
    refine ⟨?_, rfl⟩
    rw [decide_eq_false (show ¬ y.cps.toList < x.cps.toList from h1 y List.mem_cons_self)]
    rfl
theorem sortedS_back {l : List Str} (h : l.Pairwise (fun u v => ¬ sLt v u)) : sortedS l = true := by
  cases l with
  | nil => rfl
  | cons x l => exact sorted_back h
theorem dedup_ex : ∀ l : List Str, ∃ d : List Str, d.Nodup ∧ ∀ z, z ∈ d ↔ z ∈ l
  | [] => ⟨[], List.nodup_nil, fun _ => Iff.rfl⟩
  | x :: l => by
    obtain ⟨d, nd, h⟩ := dedup_ex l
    by_cases c : x ∈ d
    · refine ⟨d, nd, fun z => ?_⟩
      rw [List.mem_cons, h z]
      exact ⟨.inr, fun e => e.elim (fun e => by rw [e]; exact (h x).mp c) id⟩
    · exact ⟨x :: d, List.nodup_cons.mpr ⟨c, nd⟩, fun z => by rw [List.mem_cons, List.mem_cons, h z]⟩
theorem up_ex (d1 d2 : List Stp) : ∃ zs, UpS zs d1 d2 := by
  obtain ⟨d, nd, h⟩ := dedup_ex ((d1 ++ d2).map (·.sign))
  have once : ((d.map fun z => (⟨0, z, []⟩ : Stp)).map Stp.key).Nodup := by
    rw [List.map_map]
    exact List.pairwise_map.mpr (nd.imp fun h e => h (Prod.mk.inj e).2)
  obtain ⟨o, pm, up⟩ := sort_ex _ once
  have pz : (o.map (·.sign)).Perm d := by
    have := pm.map (·.sign)
    rw [List.map_map] at this
    have e : d.map ((fun x : Stp => x.sign) ∘ fun z => (⟨0, z, []⟩ : Stp)) = d := by
      conv => rhs; rw [← List.map_id d]
      rfl
    rw [e] at this
    exact this
  have room0 : ∀ s ∈ o, s.room = 0 := fun s hs => by
    obtain ⟨z, _, rfl⟩ := List.mem_map.mp (pm.mem_iff.mp hs)
    rfl
  refine ⟨o.map (·.sign), pz.nodup_iff.mpr nd, sortedS_back ?_, fun z => ?_⟩
  · refine List.pairwise_map.mpr (up.up.imp_of_mem fun {a b} ha hb h c => ?_)
    have c : b.sign.cps.toList < a.sign.cps.toList := c
    have e1 : rsLt b.key a.key = true := rsLt_iff.mpr (.inr ⟨by show (b.room : Int) = a.room; rw [room0 a ha, room0 b hb], c⟩)
    have := rsLt_trans e1 h
    rw [rsLt_irr] at this
    cases this
  · rw [pz.mem_iff, h z, List.map_append, List.mem_append, List.mem_map, List.mem_map]
theorem sel_mem {d : List Stp} (ok : DrOk d) {s : Stp} (hs : s ∈ d) : selD s.sign d = some s := by
  cases e : selD s.sign d with
  | none => exact absurd rfl (selD_none e hs)
  | some t =>
    have ht : t ∈ d := List.mem_of_find?_eq_some e
    have et : t.sign = s.sign := of_decide_eq_true (List.find?_some (p := fun u : Stp => decide (u.sign = s.sign)) e)
    obtain ⟨i, hi⟩ := List.mem_iff_getElem?.mp ht
    obtain ⟨j, hj⟩ := List.mem_iff_getElem?.mp hs
    have := ok.uniq hi hj et
    subst this
    rw [hi] at hj
    exact hj
theorem wsD_mem {d : List Stp} (ok : DrOk d) {s : Stp} (hs : s ∈ d) : wsOf s.sign d = some s.ws := by
  unfold wsOf
  rw [sel_mem ok hs]
  rfl
theorem sel_some_of {z : Str} {d : List Stp} {t : Stp} (h : selD z d = some t) : t ∈ d ∧ t.sign = z := ⟨List.mem_of_find?_eq_some h, of_decide_eq_true (List.find?_some (p := fun u : Stp => decide (u.sign = z)) h)⟩
/-- each step has a weight -/
def PosD (d : List Stp) : Prop := ∀ s ∈ d, ∃ n ∈ s.ws, 0 < n
theorem at_pos {ws : List Nat} (h : ∃ n ∈ ws, 0 < n) : ∃ i, i < ws.length ∧ 0 < ws.getD i 0 := by
  obtain ⟨n, hn, p⟩ := h
  obtain ⟨i, hi⟩ := List.mem_iff_getElem?.mp hn
  exact ⟨i, (List.getElem?_eq_some_iff.mp hi).1, by rw [List.getD_eq_getElem?_getD, hi]; exact p⟩
theorem once_mem {ws us : List Nat} {g : Thing × Nat} : g ∈ onceF ws us ↔ ∃ i j, i < ws.length ∧ j < us.length ∧ g = ((i, j), ws.getD i 0 * us.getD j 0) := by
  unfold onceF atF
  constructor
  · intro h
    obtain ⟨l, hl, hg⟩ := List.mem_flatten.mp h
    obtain ⟨i, hi, rfl⟩ := List.mem_map.mp hl
    obtain ⟨j, hj, rfl⟩ := List.mem_map.mp hg
    exact ⟨i, j, List.mem_range.mp hi, List.mem_range.mp hj, rfl⟩
  · rintro ⟨i, j, hi, hj, rfl⟩
    exact List.mem_flatten.mpr ⟨_, List.mem_map.mpr ⟨i, List.mem_range.mpr hi, rfl⟩, List.mem_map.mpr ⟨j, List.mem_range.mpr hj, rfl⟩⟩
theorem one_mem {p : Thing} {ws us : List Nat} {g : Thing × Nat} : g ∈ oneF p ws us ↔ (∃ i, i < ws.length ∧ g = ((i, p.2), ws.getD i 0 * nearW us)) ∨ ∃ i, i < us.length ∧ g = ((p.1, i), us.getD i 0 * nearW ws) := by
  unfold oneF hereF thereF
  rw [List.mem_append, List.mem_map, List.mem_map]
  constructor
  · rintro (⟨i, hi, rfl⟩ | ⟨i, hi, rfl⟩)
    · exact .inl ⟨i, List.mem_range.mp hi, rfl⟩
    · exact .inr ⟨i, List.mem_range.mp hi, rfl⟩
  · rintro (⟨i, hi, rfl⟩ | ⟨i, hi, rfl⟩)
    · exact .inl ⟨i, List.mem_range.mpr hi, rfl⟩
    · exact .inr ⟨i, List.mem_range.mpr hi, rfl⟩
theorem near_pos {us : List Nat} (h : us = [] ∨ ∃ n ∈ us, 0 < n) : 0 < nearW us := by
  unfold nearW
  rcases h with rfl | ⟨n, hn, p⟩
  · rw [if_pos rfl]
    exact Nat.one_pos
  · rw [if_neg (fun e => by rw [e] at hn; cases hn)]
    have := le_sum' hn
    omega
theorem wsD_pos {d : List Stp} (pd : PosD d) (z : Str) : wsD z d = [] ∨ ∃ n ∈ wsD z d, 0 < n := by
  unfold wsD wsOf
  cases e : selD z d with
  | none => exact .inl rfl
  | some t => exact .inr (pd t (sel_some_of e).1)
theorem posG_ne {gs : Goals} (h : ∃ g ∈ gs, 0 < g.2) : posG gs ≠ [] := fun e => by
  obtain ⟨g, hg, p⟩ := h
  have : g ∈ posG gs := List.mem_filter.mpr ⟨hg, decide_eq_true p⟩
  rw [e] at this
  cases this
theorem once_pos {ws us : List Nat} (h1 : ∃ n ∈ ws, 0 < n) (h2 : ∃ n ∈ us, 0 < n) : posG (onceF ws us) ≠ [] := by
  obtain ⟨i, il, ip⟩ := at_pos h1
  obtain ⟨j, jl, jp⟩ := at_pos h2
  exact posG_ne ⟨_, once_mem.mpr ⟨i, j, il, jl, rfl⟩, Nat.mul_pos ip jp⟩
theorem one_pos1 {p : Thing} {ws us : List Nat} (h1 : ∃ n ∈ ws, 0 < n) (h2 : us = [] ∨ ∃ n ∈ us, 0 < n) : posG (oneF p ws us) ≠ [] := by
  obtain ⟨i, il, ip⟩ := at_pos h1
  exact posG_ne ⟨_, one_mem.mpr (.inl ⟨i, il, rfl⟩), Nat.mul_pos ip (near_pos h2)⟩
theorem one_pos2 {p : Thing} {ws us : List Nat} (h1 : ∃ n ∈ us, 0 < n) (h2 : ws = [] ∨ ∃ n ∈ ws, 0 < n) : posG (oneF p ws us) ≠ [] := by
  obtain ⟨i, il, ip⟩ := at_pos h1
  exact posG_ne ⟨_, one_mem.mpr (.inr ⟨i, il, rfl⟩), Nat.mul_pos ip (near_pos h2)⟩
theorem du_mem {sh : List Str} {p : Thing} {d1 d2 : List Stp} {zs : List Str} {r : GRow} : r ∈ DuF sh p d1 d2 zs ↔ r.1 ∈ zs ∧ r.2 = onwF sh p d1 d2 r.1 ∧ posG r.2 ≠ [] := by
  unfold DuF rowD
  rw [List.mem_filterMap]
  constructor
  · rintro ⟨z, hz, e⟩
    split at e
    · cases e
    · rename_i c
      cases e
      exact ⟨hz, rfl, c⟩
  · rintro ⟨hz, e, c⟩
    refine ⟨r.1, hz, ?_⟩
    rw [← e, if_neg c]
theorem du_names {sh : List Str} {p : Thing} {d1 d2 : List Stp} (zs : List Str) : ((DuF sh p d1 d2 zs).map (·.1)).Sublist zs := by
  induction zs with
  | nil => exact .slnil
  | cons z zs ih =>
    unfold DuF at ih ⊢
    rw [List.filterMap_cons]
    cases e : rowD sh p d1 d2 z with
    | none => exact ih.cons z
    | some r =>
      have er : r.1 = z := by
        unfold rowD at e
        split at e
        · cases e
        · cases e
          rfl
      show (r.1 :: _).Sublist _
      rw [er]
      exact ih.cons₂ z
theorem du_bs {sh : List Str} {p : Thing} {d1 d2 : List Stp} {zs : List Str} (up : UpS zs d1 d2) (k1 : DrOk d1) (k2 : DrOk d2) (p1 : PosD d1) (p2 : PosD d2) (r : GRow) : r ∈ DuF sh p d1 d2 zs ↔ r ∈ bsF sh p d1 d2 := by
  rw [du_mem]
  unfold bsF
  rw [List.mem_append, List.mem_filterMap, List.mem_filterMap]
  constructor
  · rintro ⟨hz, e, c⟩
    obtain ⟨z, gs⟩ := r
    have e : gs = onwF sh p d1 d2 z := e
    subst e
    have hz : z ∈ zs := hz
    unfold onwF at c ⊢
    by_cases cs : z ∈ sh
    · rw [if_pos cs] at c ⊢
      cases e1 : selD z d1 with
      | none =>
        have : wsD z d1 = [] := by unfold wsD wsOf; rw [e1]; rfl
        rw [this] at c
        exact absurd rfl c
      | some s =>
        cases e2 : selD z d2 with
        | none =>
          have : wsD z d2 = [] := by unfold wsD wsOf; rw [e2]; rfl
          rw [this] at c
          refine absurd ?_ c
          unfold posG
          refine List.filter_eq_nil_iff.mpr fun g hg => ?_
          obtain ⟨i, j, _, hj, _⟩ := once_mem.mp hg
          exact absurd hj (Nat.not_lt_zero j)
        | some t =>
          obtain ⟨hs, es⟩ := sel_some_of e1
          refine .inl ⟨s, hs, ?_⟩
          have w1 : wsD z d1 = s.ws := by unfold wsD wsOf; rw [e1]; rfl
          have w2 : wsOf s.sign d2 = some t.ws := by unfold wsOf; rw [es, e2]; rfl
          have w3 : wsD z d2 = t.ws := by unfold wsD wsOf; rw [e2]; rfl
          unfold rowA
          rw [if_pos (by rw [es]; exact cs), w2, w1, w3, es]
          rfl
    · rw [if_neg cs] at c ⊢
      cases e1 : selD z d1 with
      | some s =>
        obtain ⟨hs, es⟩ := sel_some_of e1
        refine .inl ⟨s, hs, ?_⟩
        have w1 : wsD z d1 = s.ws := by unfold wsD wsOf; rw [e1]; rfl
        unfold rowA
        rw [if_neg (by rw [es]; exact cs), es, w1]
        rfl
      | none =>
        have w1 : wsD z d1 = [] := by unfold wsD wsOf; rw [e1]; rfl
        rcases (up.mem z).mp hz with ⟨s, hs, es⟩ | ⟨t, ht, et⟩
        · exact absurd es (selD_none e1 hs)
        · refine .inr ⟨t, ht, ?_⟩
          have w2 : wsD z d2 = t.ws := by rw [← et]; unfold wsD; rw [wsD_mem k2 ht]; rfl
          unfold rowB
          rw [if_pos ⟨by rw [et]; exact cs, by rw [et]; exact e1⟩, w1, w2, et]
  · rintro (⟨s, hs, e⟩ | ⟨t, ht, e⟩)
    · have w1 : wsD s.sign d1 = s.ws := by unfold wsD; rw [wsD_mem k1 hs]; rfl
      have hz := (up.mem s.sign).mpr (.inl ⟨s, hs, rfl⟩)
      unfold rowA at e
      by_cases cs : s.sign ∈ sh
      · rw [if_pos cs] at e
        obtain ⟨us, hu, rfl⟩ := Option.map_eq_some_iff.mp e
        have w2 : wsD s.sign d2 = us := by unfold wsD; rw [hu]; rfl
        have pu : ∃ n ∈ us, 0 < n := by
          unfold wsOf at hu
          obtain ⟨t, ht, rfl⟩ := Option.map_eq_some_iff.mp hu
          exact p2 t (sel_some_of ht).1
        refine ⟨hz, ?_, once_pos (p1 s hs) pu⟩
        show onceF s.ws us = onwF sh p d1 d2 s.sign
        unfold onwF
        rw [if_pos cs, w1, w2]
      · rw [if_neg cs] at e
        cases e
        refine ⟨hz, ?_, one_pos1 (p1 s hs) (wsD_pos p2 s.sign)⟩
        show oneF p s.ws (wsD s.sign d2) = onwF sh p d1 d2 s.sign
        unfold onwF
        rw [if_neg cs, w1]
    · have w2 : wsD t.sign d2 = t.ws := by unfold wsD; rw [wsD_mem k2 ht]; rfl
      have hz := (up.mem t.sign).mpr (.inr ⟨t, ht, rfl⟩)
      unfold rowB at e
      split at e
      · rename_i c
        cases e
        have w1 : wsD t.sign d1 = [] := by unfold wsD wsOf; rw [c.2]; rfl
        refine ⟨hz, ?_, one_pos2 (p2 t ht) (.inl rfl)⟩
        show oneF p [] t.ws = onwF sh p d1 d2 t.sign
        unfold onwF
        rw [if_neg c.1, w1, w2]
      · cases e
end
end Fb
namespace Fb
open PySem PySem.Spec PyProof.Rows L2
section
theorem len_sub : ∀ {xs ys : List Str}, xs.Nodup → (∀ x ∈ xs, x ∈ ys) → xs.length ≤ ys.length
  | [], _, _, _ => Nat.zero_le _
  | x :: xs, ys, nd, h => by
    obtain ⟨n1, n2⟩ := List.nodup_cons.mp nd
    have hx := h x List.mem_cons_self
    have := len_sub (ys := ys.erase x) n2 fun y hy => (List.mem_erase_of_ne (fun e : y = x => n1 (e ▸ hy))).mpr (h y (List.mem_cons_of_mem _ hy))
    rw [List.length_erase_of_mem hx] at this
    have := List.length_pos_of_mem hx
    rw [List.length_cons]
    omega
theorem fm_names {f : Stp → Option GRow} (hf : ∀ s r, f s = some r → r.1 = s.sign) : ∀ d : List Stp, ((d.filterMap f).map (·.1)).Sublist (d.map (·.sign))
  | [] => .slnil
  | s :: d => by
    rw [List.filterMap_cons]
    cases e : f s with
    | none => exact (fm_names hf d).cons s.sign
    | some r =>
      show (r.1 :: _).Sublist (s.sign :: _)
      rw [hf s r e]
      exact (fm_names hf d).cons₂ s.sign
theorem bs_nd {sh : List Str} {p : Thing} {d1 d2 : List Stp} (k1 : DrOk d1) (k2 : DrOk d2) : ((bsF sh p d1 d2).map (·.1)).Nodup := by
  unfold bsF
  rw [List.map_append, List.nodup_append]
  refine ⟨(fm_names (fun s r h => rowA_name h) d1).nodup k1.nd, (fm_names (fun s r h => (rowB_name h).1) d2).nodup k2.nd, fun a ha b hb e => ?_⟩
  subst e
  obtain ⟨s, hs, es⟩ := List.mem_map.mp ((fm_names (fun s r h => rowA_name h) d1).subset ha)
  obtain ⟨r, hr, er⟩ := List.mem_map.mp hb
  obtain ⟨t, ht, et⟩ := List.mem_filterMap.mp hr
  obtain ⟨e1, e2⟩ := rowB_name et
  exact selD_none e2 hs (by rw [es, ← er, e1])
theorem du_sorted {sh : List Str} {p : Thing} {d1 d2 : List Stp} {zs : List Str} (up : UpS zs d1 d2) (k1 : DrOk d1) (k2 : DrOk d2) (p1 : PosD d1) (p2 : PosD d2) : SortedG (DuF sh p d1 d2 zs) (bsF sh p d1 d2) := by
  have n1 : (DuF sh p d1 d2 zs).Nodup := (List.pairwise_map.mp ((du_names zs).nodup up.nd)).imp fun ne e => ne (congrArg _ e)
  have n2 : (bsF sh p d1 d2).Nodup := (List.pairwise_map.mp (bs_nd k1 k2)).imp fun ne e => ne (congrArg _ e)
  exact ⟨(List.perm_ext_iff_of_nodup n1 n2).mpr fun r => du_bs up k1 k2 p1 p2 r, sortedS_back ((sorted_pair up.up).sublist (du_names zs))⟩
/-- steps of one machine, of few signs and weights not too great -/
structure Sd (nm4 : List Str) (m : Nat) (o : List Stp) : Prop where
  ok : StpsOk m o
  wt : ∀ s ∈ o, ∀ n ∈ s.ws, n < 2 ^ 400
  sg : ∀ s ∈ o, s.sign ∈ nm4
theorem Sd.dr {nm4 : List Str} {m : Nat} {o : List Stp} (h : Sd nm4 m o) (n4 : nm4.length ≤ 4) (r : Nat) : DrOk (doorOf o r) := by
  have sub : ∀ s ∈ doorOf o r, s ∈ o := fun s hs => (List.mem_filter.mp hs).1
  have nd : ((doorOf o r).map (·.sign)).Nodup := by
    refine List.pairwise_map.mpr ?_
    unfold doorOf
    refine (List.Pairwise.filter _ (List.pairwise_map.mp h.ok.once)).imp_of_mem fun {a b} ha hb h e => h ?_
    have ra := of_decide_eq_true (List.mem_filter.mp ha).2
    have rb := of_decide_eq_true (List.mem_filter.mp hb).2
    exact Prod.ext (by show (a.room : Int) = b.room; rw [ra, rb]) e
  refine ⟨nd, ?_, fun s hs => ⟨by rw [(h.ok.all s (sub s hs)).wts.len]; exact h.ok.m12, h.wt s (sub s hs)⟩, fun s hs e => ?_⟩
  · have := len_sub (ys := nm4) nd fun x hx => by
      obtain ⟨s, hs, rfl⟩ := List.mem_map.mp hx
      exact h.sg s (sub s hs)
    rw [List.length_map] at this
    omega
  · obtain ⟨n, hn, _⟩ := (h.ok.all s (sub s hs)).wts.pos
    rw [e] at hn
    cases hn
theorem Sd.pos {nm4 : List Str} {m : Nat} {o : List Stp} (h : Sd nm4 m o) (r : Nat) : PosD (doorOf o r) := fun s hs => (h.ok.all s (List.mem_filter.mp hs).1).wts.pos
theorem Sd.len {nm4 : List Str} {m : Nat} {o : List Stp} (h : Sd nm4 m o) (r : Nat) (z : Str) {i : Nat} (hi : i < (wsD z (doorOf o r)).length) : i < m := by
  unfold wsD wsOf at hi
  cases e : selD z (doorOf o r) with
  | none => rw [e] at hi; exact absurd hi (Nat.not_lt_zero i)
  | some t =>
    rw [e] at hi
    have ht := (List.mem_filter.mp (sel_some_of e).1).1
    have hi : i < t.ws.length := hi
    rwa [(h.ok.all t ht).wts.len] at hi
theorem onw_bd {sh : List Str} {p : Thing} {d1 d2 : List Stp} (k1 : DrOk d1) (k2 : DrOk d2) (z : Str) : ∀ g ∈ onwF sh p d1 d2 z, g.2 ≤ 2 ^ 820 := fun g hg => by
  have h1 := wsD_ok k1 z
  have h2 := wsD_ok k2 z
  have mul : ∀ {a b : Nat}, a < 2 ^ 410 → b < 2 ^ 410 → a * b ≤ 2 ^ 820 := fun {a b} ha hb => by
    have := Nat.mul_le_mul (Nat.le_of_lt ha) (Nat.le_of_lt hb)
    rwa [← Nat.pow_add] at this
  unfold onwF at hg
  split at hg
  · obtain ⟨i, j, _, _, rfl⟩ := once_mem.mp hg
    exact mul (lt410 (h1.at i)) (lt410 (h2.at j))
  · rcases one_mem.mp hg with ⟨i, _, rfl⟩ | ⟨i, _, rfl⟩
    · exact mul (lt410 (h1.at i)) h2.near
    · exact mul (lt410 (h2.at i)) h1.near
theorem sum_bd {gs : Goals} (l : gs.length ≤ 144) (h : ∀ g ∈ gs, g.2 ≤ 2 ^ 820) : (gs.map (·.2)).sum < 2 ^ 4000 := by
  have h1 := sum_le_mul (b := 2 ^ 820) (gs.map (·.2)) fun n hn => by
    obtain ⟨g, hg, rfl⟩ := List.mem_map.mp hn
    exact h g hg
  rw [List.length_map] at h1
  have h2 : gs.length * 2 ^ 820 ≤ 144 * 2 ^ 820 := Nat.mul_le_mul_right _ l
  have h3 : 144 * 2 ^ 820 < 2 ^ 4000 := by
    have : 144 * 2 ^ 820 < 2 ^ 8 * 2 ^ 820 := Nat.mul_lt_mul_of_pos_right (by decide) (Nat.two_pow_pos 820)
    rw [← Nat.pow_add] at this
    exact Nat.lt_of_lt_of_le this (Nat.pow_le_pow_right (by decide) (by decide))
  omega
theorem du_gok {sh nm4 : List Str} {m1 m2 : Nat} {o1 o2 : List Stp} {zsf : Thing → List Str} (n4 : nm4.length ≤ 4) (h1 : Sd nm4 m1 o1) (h2 : Sd nm4 m2 o2) (ups : ∀ x : Thing, UpS (zsf x) (doorOf o1 x.1) (doorOf o2 x.2)) : GOk (fun x => DuF sh x (doorOf o1 x.1) (doorOf o2 x.2) (zsf x)) (DomB m1 m2) := by
  have src : ∀ x z, z ∈ zsf x → (∃ s ∈ o1, s.sign = z) ∨ ∃ s ∈ o2, s.sign = z := fun x z hz => ((ups x).mem z |>.mp hz).imp (fun ⟨s, hs, e⟩ => ⟨s, (List.mem_filter.mp hs).1, e⟩) fun ⟨s, hs, e⟩ => ⟨s, (List.mem_filter.mp hs).1, e⟩
  refine ⟨fun x _ => ?_, fun x _ => (du_names _).nodup (ups x).nd, fun x _ r hr => ?_, fun x _ r hr => ?_, fun x _ r hr => ?_, fun x dx r hr g hg gp => ?_⟩
  · have := len_sub (ys := nm4) ((du_names (sh := sh) (p := x) (d1 := doorOf o1 x.1) (d2 := doorOf o2 x.2) (zsf x)).nodup (ups x).nd) fun z hz => by
      rcases src x z ((du_names _).subset hz) with ⟨s, hs, rfl⟩ | ⟨s, hs, rfl⟩
      · exact h1.sg s hs
      · exact h2.sg s hs
    rw [List.length_map] at this
    show (DuF _ _ _ _ _).length ≤ 4
    omega
  · rcases src x r.1 (du_mem.mp hr).1 with ⟨s, hs, e⟩ | ⟨s, hs, e⟩
    · rw [← e]
      exact (h1.ok.all s hs).sign
    · rw [← e]
      exact (h2.ok.all s hs).sign
  · obtain ⟨_, _, c⟩ := du_mem.mp hr
    cases e : posG r.2 with
    | nil => exact absurd e c
    | cons g gs =>
      have : g ∈ posG r.2 := by rw [e]; exact List.mem_cons_self
      exact ⟨g, (List.mem_filter.mp this).1, posG_pos this⟩
  · obtain ⟨_, e, _⟩ := du_mem.mp hr
    rw [e]
    exact sum_bd (onw_len (h1.dr n4 x.1) (h2.dr n4 x.2) r.1) (onw_bd (h1.dr n4 x.1) (h2.dr n4 x.2) r.1)
  · obtain ⟨_, e, _⟩ := du_mem.mp hr
    rw [e] at hg
    unfold onwF at hg
    split at hg
    · obtain ⟨i, j, hi, hj, rfl⟩ := once_mem.mp hg
      exact ⟨h1.len x.1 r.1 hi, h2.len x.2 r.1 hj⟩
    · rcases one_mem.mp hg with ⟨i, hi, rfl⟩ | ⟨i, hi, rfl⟩
      · exact ⟨h1.len x.1 r.1 hi, dx.2⟩
      · exact ⟨dx.1, h2.len x.2 r.1 hi⟩
def Rel (a b : List Nat) (c : Nat) : Prop := 0 < c ∧ a = b.map (· * c) ∧ (b = [] → c = 1)
theorem map_get (ws : List Nat) (c t : Nat) : (ws.map (· * c)).getD t 0 = ws.getD t 0 * c := by
  rw [List.getD_eq_getElem?_getD, List.getD_eq_getElem?_getD, List.getElem?_map]
  cases ws[t]? with
  | none => exact (Nat.zero_mul c).symm
  | some n => rfl
theorem sum_scale (ws : List Nat) (c : Nat) : (ws.map (· * c)).sum = ws.sum * c := by
  induction ws with
  | nil => exact (Nat.zero_mul c).symm
  | cons n ws ih => rw [List.map_cons, List.sum_cons, List.sum_cons, ih, Nat.add_mul]
theorem Rel.near {a b : List Nat} {c : Nat} (h : Rel a b c) : nearW a = nearW b * c := by
  obtain ⟨_, e, c1⟩ := h
  unfold nearW
  by_cases hb : b = []
  · rw [e, hb, c1 hb]
    rfl
  · rw [if_neg hb, if_neg (fun z => hb (by rw [e] at z; exact List.map_eq_nil_iff.mp z)), e, sum_scale]
theorem once_scl {a1 b1 a2 b2 : List Nat} {c1 c2 : Nat} (h1 : Rel a1 b1 c1) (h2 : Rel a2 b2 c2) : onceF a1 a2 = (onceF b1 b2).map fun g => (g.1, g.2 * (c1 * c2)) := by
  unfold onceF atF
  rw [h1.2.1, h2.2.1, List.length_map, List.length_map, List.map_flatten, List.map_map]
  congr 1
  refine List.map_congr_left fun i _ => ?_
  show _ = List.map _ (List.map _ _)
  rw [List.map_map]
  refine List.map_congr_left fun j _ => ?_
  show ((i, j), _) = ((i, j), _ * (c1 * c2))
  rw [map_get, map_get]
  congr 1
  simp only [Nat.mul_assoc, Nat.mul_left_comm, Nat.mul_comm]
theorem one_scl {p : Thing} {a1 b1 a2 b2 : List Nat} {c1 c2 : Nat} (h1 : Rel a1 b1 c1) (h2 : Rel a2 b2 c2) : oneF p a1 a2 = (oneF p b1 b2).map fun g => (g.1, g.2 * (c1 * c2)) := by
  unfold oneF hereF thereF
  rw [h1.near, h2.near, h1.2.1, h2.2.1, List.length_map, List.length_map, List.map_append, List.map_map, List.map_map]
  congr 1
  · refine List.map_congr_left fun i _ => ?_
    show ((i, p.2), _) = ((i, p.2), _ * (c1 * c2))
    rw [map_get]
    congr 1
    simp only [Nat.mul_assoc, Nat.mul_left_comm, Nat.mul_comm]
  · refine List.map_congr_left fun i _ => ?_
    show ((p.1, i), _) = ((p.1, i), _ * (c1 * c2))
    rw [map_get]
    congr 1
    simp only [Nat.mul_assoc, Nat.mul_left_comm, Nat.mul_comm]
end
end Fb
namespace Fb
open PySem PySem.Spec PyProof.Rows L2
section
theorem low_scale {c : Nat} (c0 : 0 < c) (ws : List Nat) : low (ws.map (· * c)) = low ws := by
  have e : ws.map (· * c) = ws.map (c * ·) := List.map_congr_left fun n _ => Nat.mul_comm n c
  unfold low
  have g := gcdF_mul c ws 0
  rw [Nat.mul_zero] at g
  rw [e, g, List.map_map]
  refine List.map_congr_left fun n _ => ?_
  show c * n / (c * gcdF 0 ws) = n / gcdF 0 ws
  exact Nat.mul_div_mul_left _ _ c0
theorem low_back' (ws : List Nat) : (low ws).map (· * gcdF 0 ws) = ws := by
  have e : (low ws).map (· * gcdF 0 ws) = (low ws).map (gcdF 0 ws * ·) := List.map_congr_left fun n _ => Nat.mul_comm _ _
  rw [e, low_back]
/-- rows that tell the same, some by weights that are some times greater -/
def Scl (a b : List GRow) : Prop := ∃ l : List (Str × Nat × Goals), (∀ e ∈ l, 0 < e.2.1) ∧ a = l.map (fun e => (e.1, e.2.2.map fun g => (g.1, g.2 * e.2.1))) ∧ b = l.map fun e => (e.1, e.2.2)
theorem addG_scl {c : Nat} (c0 : 0 < c) : ∀ (gs : Goals) (f : List Thing), addG f (gs.map fun g => (g.1, g.2 * c)) = addG f gs
  | [], _ => rfl
  | g :: gs, f => by
    show addG (if 0 < g.2 * c ∧ g.1 ∉ f then f ++ [g.1] else f) (gs.map fun g => (g.1, g.2 * c)) = addG (if 0 < g.2 ∧ g.1 ∉ f then f ++ [g.1] else f) gs
    have e : (0 < g.2 * c) ↔ 0 < g.2 := ⟨fun h => Nat.pos_of_mul_pos_right h, fun h => Nat.mul_pos h c0⟩
    have e2 : (if 0 < g.2 * c ∧ g.1 ∉ f then f ++ [g.1] else f) = if 0 < g.2 ∧ g.1 ∉ f then f ++ [g.1] else f := by
      simp only [e]
    rw [e2]
    exact addG_scl c0 gs _
theorem addR_scl {a b : List GRow} (h : Scl a b) (f : List Thing) : addR f a = addR f b := by
  obtain ⟨l, pos, rfl, rfl⟩ := h
  unfold addR
  rw [List.foldl_map, List.foldl_map]
  induction l generalizing f with
  | nil => rfl
  | cons e l ih =>
    rw [List.foldl_cons, List.foldl_cons, addG_scl (pos e List.mem_cons_self)]
    exact ih _ (fun x hx => pos x (List.mem_cons_of_mem _ hx))
section
variable {G1 G2 : Thing → List GRow} {Dom : Thing → Prop} {x : Thing}
theorem run_scl (ok : GOk G2 Dom) (dx : Dom x) (h : ∀ y, Dom y → Scl (G1 y) (G2 y)) : ∀ n, runW G1 x n = runW G2 x n
  | 0 => rfl
  | n + 1 => by
    have ih := run_scl ok dx h n
    cases e : (runW G2 x n)[n]? with
    | none => rw [run_stop e, run_stop (by rw [ih]; exact e), ih]
    | some y => rw [run_succ e, run_succ (G := G1) (by rw [ih]; exact e), ih, addR_scl (h y (run_dom ok dx n y (List.mem_of_getElem? e)))]
theorem many_scl (ok : GOk G2 Dom) (dx : Dom x) (h : ∀ y, Dom y → Scl (G1 y) (G2 y)) : ManyW G1 x ↔ ManyW G2 x := by
  unfold ManyW
  simp only [run_scl ok dx h]
theorem all_scl (ok : GOk G2 Dom) (dx : Dom x) (h : ∀ y, Dom y → Scl (G1 y) (G2 y)) (m : Nat) : AllW G1 x m ↔ AllW G2 x m := by
  unfold AllW
  rw [run_scl ok dx h]
theorem told_scl (ok : GOk G2 Dom) (dx : Dom x) (h : ∀ y, Dom y → Scl (G1 y) (G2 y)) : ∀ n, ∃ l : List (Nat × Str × Nat × Goals), (∀ e ∈ l, 0 < e.2.2.1) ∧ toldW G1 x n = l.map (fun e => (e.1, e.2.1, e.2.2.2.map fun g => (g.1, g.2 * e.2.2.1))) ∧ toldW G2 x n = l.map fun e => (e.1, e.2.1, e.2.2.2)
  | 0 => ⟨[], (fun _ h => by cases h), rfl, rfl⟩
  | n + 1 => by
    obtain ⟨l, pos, e1, e2⟩ := told_scl ok dx h n
    have er := run_scl ok dx h n
    cases e : (runW G2 x n)[n]? with
    | none =>
      refine ⟨l, pos, ?_, ?_⟩
      · rw [← e1]
        show (match (runW G1 x n)[n]? with | some y => toldW G1 x n ++ (G1 y).map (fun r => (n, r)) | none => toldW G1 x n) = _
        rw [er, e]
      · rw [← e2]
        show (match (runW G2 x n)[n]? with | some y => toldW G2 x n ++ (G2 y).map (fun r => (n, r)) | none => toldW G2 x n) = _
        rw [e]
    | some y =>
      obtain ⟨l2, pos2, f1, f2⟩ := h y (run_dom ok dx n y (List.mem_of_getElem? e))
      refine ⟨l ++ l2.map fun r => (n, r.1, r.2.1, r.2.2), fun a ha => ?_, ?_, ?_⟩
      · rcases List.mem_append.mp ha with ha | ha
        · exact pos a ha
        · obtain ⟨r, hr, rfl⟩ := List.mem_map.mp ha
          exact pos2 r hr
      · rw [told_succ (G := G1) (by rw [er]; exact e), e1, f1, List.map_append, List.map_map, List.map_map]
        rfl
      · rw [told_succ e, e2, f2, List.map_append, List.map_map, List.map_map]
        rfl
theorem sumG_scl (c : Nat) (gs : Goals) (t : Thing) : sumG (gs.map fun g => (g.1, g.2 * c)) t = sumG gs t * c := by
  induction gs with
  | nil => exact (Nat.zero_mul c).symm
  | cons g gs ih =>
    have c1 : ∀ (g : Thing × Nat) (gs : Goals), sumG (g :: gs) t = (if g.1 = t then g.2 else 0) + sumG gs t := fun g gs => by
      unfold sumG
      by_cases h : g.1 = t
      · rw [List.filter_cons_of_pos (by rw [decide_eq_true_iff]; exact h), List.map_cons, List.sum_cons, if_pos h]
      · rw [List.filter_cons_of_neg (by rw [decide_eq_true_iff]; exact h), if_neg h, Nat.zero_add]
    rw [List.map_cons, c1, c1, ih, Nat.add_mul]
    congr 1
    split
    · rfl
    · exact (Nat.zero_mul c).symm
theorem steps_scl (ok : GOk G2 Dom) (dx : Dom x) (h : ∀ y, Dom y → Scl (G1 y) (G2 y)) (m : Nat) : (stepsW G1 x m).map lowS = (stepsW G2 x m).map lowS := by
  obtain ⟨l, pos, e1, e2⟩ := told_scl ok dx h m
  unfold stepsW
  rw [e1, e2, run_scl ok dx h, List.map_map, List.map_map, List.map_map, List.map_map]
  refine List.map_congr_left fun e he => ?_
  show lowS ⟨e.1, e.2.1, wtsG (runW G2 x m) (e.2.2.2.map fun g => (g.1, g.2 * e.2.2.1))⟩ = lowS ⟨e.1, e.2.1, wtsG (runW G2 x m) e.2.2.2⟩
  have : wtsG (runW G2 x m) (e.2.2.2.map fun g => (g.1, g.2 * e.2.2.1)) = (wtsG (runW G2 x m) e.2.2.2).map (· * e.2.2.1) := by
    unfold wtsG
    rw [List.map_map]
    exact List.map_congr_left fun t _ => sumG_scl _ _ _
  rw [this]
  unfold lowS
  simp only [low_scale (pos e he)]
end
theorem gcd_pos' {ws : List Nat} (h : ∃ n ∈ ws, 0 < n) : 0 < gcdF 0 ws := gcdF_pos h
/-- doors as drawn, and as lowered -/
theorem sel_low (d : List Stp) (z : Str) : selD z (d.map lowS) = (selD z d).map lowS := by
  unfold selD
  rw [List.find?_map]
  rfl
theorem sel_perm {d d' : List Stp} (ok : DrOk d) (pm : d'.Perm d) (ok' : DrOk d') (z : Str) : selD z d' = selD z d := by
  cases e : selD z d with
  | some s =>
    obtain ⟨hs, es⟩ := sel_some_of e
    rw [← es]
    exact sel_mem ok' (pm.mem_iff.mpr hs)
  | none =>
    cases e' : selD z d' with
    | none => rfl
    | some s =>
      obtain ⟨hs, es⟩ := sel_some_of e'
      exact absurd es (selD_none e (pm.mem_iff.mp hs))
theorem rel_wsD {d d' : List Stp} (pd : PosD d) (h : ∀ z, selD z d' = (selD z d).map lowS) (z : Str) : ∃ c, Rel (wsD z d) (wsD z d') c := by
  unfold wsD wsOf
  rw [h z]
  cases e : selD z d with
  | none => exact ⟨1, Nat.one_pos, rfl, fun _ => rfl⟩
  | some s =>
    have hp := pd s (sel_some_of e).1
    refine ⟨gcdF 0 s.ws, gcd_pos' hp, (low_back' s.ws).symm, fun z => ?_⟩
    have z : low s.ws = [] := z
    obtain ⟨n, hn, _⟩ := hp
    have := congrArg List.length z
    unfold low at this
    rw [List.length_map] at this
    rw [List.eq_nil_of_length_eq_zero this] at hn
    cases hn
theorem posG_scl {c : Nat} (c0 : 0 < c) (gs : Goals) : posG (gs.map fun g => (g.1, g.2 * c)) = [] ↔ posG gs = [] := by
  unfold posG
  rw [List.filter_eq_nil_iff, List.filter_eq_nil_iff]
  constructor
  · intro h g hg p
    exact h (g.1, g.2 * c) (List.mem_map.mpr ⟨g, hg, rfl⟩) (decide_eq_true (Nat.mul_pos (of_decide_eq_true p) c0))
  · intro h g hg p
    obtain ⟨g', hg', rfl⟩ := List.mem_map.mp hg
    exact h g' hg' (decide_eq_true (Nat.pos_of_mul_pos_right (of_decide_eq_true p)))
theorem du_scl {sh : List Str} {p : Thing} {d1 d2 e1 e2 : List Stp} (zs : List Str) (h1 : ∀ z, ∃ c, Rel (wsD z d1) (wsD z e1) c) (h2 : ∀ z, ∃ c, Rel (wsD z d2) (wsD z e2) c) : Scl (DuF sh p d1 d2 zs) (DuF sh p e1 e2 zs) := by
  induction zs with
  | nil => exact ⟨[], (fun _ h => by cases h), rfl, rfl⟩
  | cons z zs ih =>
    obtain ⟨l, pos, ea, eb⟩ := ih
    obtain ⟨c1, r1⟩ := h1 z
    obtain ⟨c2, r2⟩ := h2 z
    have cp : 0 < c1 * c2 := Nat.mul_pos r1.1 r2.1
    have eo : onwF sh p d1 d2 z = (onwF sh p e1 e2 z).map fun g => (g.1, g.2 * (c1 * c2)) := by
      unfold onwF
      split
      · exact once_scl r1 r2
      · exact one_scl r1 r2
    unfold DuF at ea eb ⊢
    rw [List.filterMap_cons, List.filterMap_cons]
    by_cases c : posG (onwF sh p e1 e2 z) = []
    · have q1 : rowD sh p e1 e2 z = none := by unfold rowD; rw [if_pos c]
      have q2 : rowD sh p d1 d2 z = none := by unfold rowD; rw [if_pos (by rw [eo]; exact (posG_scl cp _).mpr c)]
      rw [q1, q2]
      exact ⟨l, pos, ea, eb⟩
    · have q1 : rowD sh p e1 e2 z = some (z, onwF sh p e1 e2 z) := by unfold rowD; rw [if_neg c]
      have q2 : rowD sh p d1 d2 z = some (z, onwF sh p d1 d2 z) := by unfold rowD; rw [if_neg (fun w => c ((posG_scl cp _).mp (by rw [← eo]; exact w)))]
      rw [q1, q2]
      refine ⟨(z, c1 * c2, onwF sh p e1 e2 z) :: l, fun e he => ?_, ?_, ?_⟩
      · rcases List.mem_cons.mp he with rfl | he
        · exact cp
        · exact pos e he
      · show (z, onwF sh p d1 d2 z) :: _ = _
        rw [ea, List.map_cons, eo]
      · show (z, onwF sh p e1 e2 z) :: _ = _
        rw [eb, List.map_cons]
end
end Fb
namespace Fb
open PySem PySem.Spec PyProof.Rows L2
section
def StG (G : Thing → List GRow) (y z : Thing) : Prop := ∃ r ∈ G y, ∃ g ∈ r.2, 0 < g.2 ∧ g.1 = z
theorem len_subT : ∀ {xs ys : List Thing}, xs.Nodup → (∀ x ∈ xs, x ∈ ys) → xs.length ≤ ys.length
  | [], _, _, _ => Nat.zero_le _
  | x :: xs, ys, nd, h => by
    obtain ⟨n1, n2⟩ := List.nodup_cons.mp nd
    have hx := h x List.mem_cons_self
    have := len_subT (ys := ys.erase x) n2 fun y hy => (List.mem_erase_of_ne (fun e : y = x => n1 (e ▸ hy))).mpr (h y (List.mem_cons_of_mem _ hy))
    rw [List.length_erase_of_mem hx] at this
    have := List.length_pos_of_mem hx
    rw [List.length_cons]
    omega
section
variable {G : Thing → List GRow} {x : Thing}
theorem run_ins {S : Thing → Prop} (h0 : S x) (hc : ∀ y, S y → ∀ z, StG G y z → S z) : ∀ (n : Nat) (y : Thing), y ∈ runW G x n → S y
  | 0, y, h => by
    rw [List.mem_singleton.mp h]
    exact h0
  | n + 1, y, h => by
    cases e : (runW G x n)[n]? with
    | none =>
      rw [run_stop e] at h
      exact run_ins h0 hc n y h
    | some z =>
      rw [run_succ e] at h
      rcases addR_sub _ _ _ h with h | ⟨r, h1, g, h2, h3, h4⟩
      · exact run_ins h0 hc n y h
      · exact hc z (run_ins h0 hc n z (List.mem_of_getElem? e)) y ⟨r, h1, g, h2, h3, h4⟩
theorem run_closed {m : Nat} (a : AllW G x m) : ∀ y ∈ runW G x m, ∀ z, StG G y z → z ∈ runW G x m := fun y hy z ⟨r, hr, g, hg, gp, e⟩ => by
  obtain ⟨i, hi⟩ := List.mem_iff_getElem?.mp hy
  have il := (List.getElem?_eq_some_iff.mp hi).1
  rw [a.1] at il
  have li : i < (runW G x i).length := Nat.lt_of_not_le fun c => by
    obtain ⟨k, rfl⟩ := Nat.exists_eq_add_of_le (Nat.le_of_lt il)
    have := a.1
    rw [run_still c] at this
    omega
  obtain ⟨y', hy'⟩ : ∃ y', (runW G x i)[i]? = some y' := ⟨_, List.getElem?_eq_getElem li⟩
  obtain ⟨rest, er⟩ := run_pre (G := G) (x := x) (Nat.le_of_lt il)
  have : (runW G x m)[i]? = some y' := by rw [← er, List.getElem?_append_left li]; exact hy'
  rw [this] at hi
  cases hi
  rw [← e]
  have h1 : g.1 ∈ runW G x (i + 1) := by
    rw [run_succ hy']
    exact addR_mem hr hg gp
  exact (run_pre (by omega)).subset h1
theorem all_ex {M : Nat} (M12 : M ≤ 12) (h : ∀ n, (runW G x n).length ≤ M) : ∃ m, AllW G x m := by
  have go : ∀ k n, n + k = M → n ≤ (runW G x n).length → ∃ m, AllW G x m := fun k => by
    induction k with
    | zero =>
      intro n e hn
      have := h n
      exact ⟨n, by omega, by omega⟩
    | succ k ih =>
      intro n e hn
      by_cases c : (runW G x n).length = n
      · exact ⟨n, c, by omega⟩
      · refine ih (n + 1) (by omega) ?_
        have := (run_pre1 (G := G) (x := x) n).length_le
        omega
  exact go M 0 (Nat.zero_add _) (Nat.zero_le _)
end
theorem all_le {G G' : Thing → List GRow} {φ : Thing → Thing} (inv : ∀ x, φ (φ x) = x) (h0 : φ (0, 0) = (0, 0)) (h' : ∀ y z, StG G' y z → StG G (φ y) (φ z)) {m : Nat} (a : AllW G (0, 0) m) (n : Nat) : (runW G' (0, 0) n).length ≤ m := by
  have hin := run_ins (G := G') (x := (0, 0)) (S := fun y => φ y ∈ runW G (0, 0) m) (by
    show φ (0, 0) ∈ _
    rw [h0]
    exact (run_pre (G := G) (x := (0, 0)) (Nat.zero_le m)).subset (List.mem_singleton.mpr rfl)) (fun y hy z hz => run_closed a _ hy _ (h' y z hz)) n
  have nd : ((runW G' (0, 0) n).map φ).Nodup := List.pairwise_map.mpr ((run_nd n).imp fun {a b} ne e => ne (by rw [← inv a, e, inv b]))
  have := len_subT nd fun y hy => by
    obtain ⟨u, hu, rfl⟩ := List.mem_map.mp hy
    exact hin u hu
  rw [List.length_map, a.1] at this
  exact this
theorem all_swap {G G' : Thing → List GRow} {φ : Thing → Thing} (inv : ∀ x, φ (φ x) = x) (h0 : φ (0, 0) = (0, 0)) (h : ∀ y z, StG G y z → StG G' (φ y) (φ z)) (h' : ∀ y z, StG G' y z → StG G (φ y) (φ z)) {m : Nat} (a : AllW G (0, 0) m) : AllW G' (0, 0) m := by
  have le := all_le inv h0 h' a
  obtain ⟨m', a'⟩ := all_ex a.2 le
  have l1 := le m'
  rw [a'.1] at l1
  have l2 := all_le inv h0 h a' m
  rw [a.1] at l2
  have : m' = m := by omega
  rw [← this]
  exact a'
theorem many_swap {G G' : Thing → List GRow} {φ : Thing → Thing} (inv : ∀ x, φ (φ x) = x) (h0 : φ (0, 0) = (0, 0)) (h : ∀ y z, StG G y z → StG G' (φ y) (φ z)) (h' : ∀ y z, StG G' y z → StG G (φ y) (φ z)) (a : ManyW G (0, 0)) : ManyW G' (0, 0) := by
  refine Classical.byContradiction fun c => ?_
  have le : ∀ n, (runW G' (0, 0) n).length ≤ 12 := fun n => Nat.le_of_not_lt fun l => c ⟨n, l⟩
  obtain ⟨m, am⟩ := all_ex (Nat.le_refl 12) le
  exact many_all a (all_swap inv h0 h' h am)
def swp (x : Thing) : Thing := (x.2, x.1)
theorem onw_swp {sh : List Str} {p : Thing} {d1 d2 : List Stp} {z : Str} {g : Thing × Nat} (h : g ∈ onwF sh p d1 d2 z) : (swp g.1, g.2) ∈ onwF sh (swp p) d2 d1 z := by
  unfold onwF at h ⊢
  split at h
  · rename_i c
    rw [if_pos c]
    obtain ⟨i, j, hi, hj, rfl⟩ := once_mem.mp h
    exact once_mem.mpr ⟨j, i, hj, hi, by rw [Nat.mul_comm]; rfl⟩
  · rename_i c
    rw [if_neg c]
    rcases one_mem.mp h with ⟨i, hi, rfl⟩ | ⟨i, hi, rfl⟩
    · exact one_mem.mpr (.inr ⟨i, hi, rfl⟩)
    · exact one_mem.mpr (.inl ⟨i, hi, rfl⟩)
theorem du_swp {sh : List Str} {p : Thing} {d1 d2 : List Stp} {zs zs' : List Str} (up : UpS zs d1 d2) (up' : UpS zs' d2 d1) {z : Thing} (h : ∃ r ∈ DuF sh p d1 d2 zs, ∃ g ∈ r.2, 0 < g.2 ∧ g.1 = z) : ∃ r ∈ DuF sh (swp p) d2 d1 zs', ∃ g ∈ r.2, 0 < g.2 ∧ g.1 = swp z := by
  obtain ⟨r, hr, g, hg, gp, rfl⟩ := h
  obtain ⟨hz, e, _⟩ := du_mem.mp hr
  rw [e] at hg
  have hg' := onw_swp hg
  refine ⟨(r.1, onwF sh (swp p) d2 d1 r.1), du_mem.mpr ⟨(up'.mem _).mpr ((up.mem _).mp hz).symm, rfl, posG_ne ⟨_, hg', gp⟩⟩, _, hg', gp, rfl⟩
end
end Fb
namespace Fb
open PySem PySem.Spec PyProof.Rows L2
section
open LamX
variable {P : Program} {w : World} {K : PySem.W.Frag} {mg : Str → Option Value} {base : Heap}
theorem nm_strOk {x : Str} (h : NmOk x) : PyData.strOk x = true := by
  show x.cps.all _ = true
  rw [← Array.all_toList, List.all_eq_true]
  intro c hc
  have h1 : ∀ c ∈ letters, decide (c < 0x110000) = true := by decide +kernel
  exact h1 c (h.all c hc)
def stpD (s : Stp) : PyData := .tuple [.int (s.room : Int), .str s.sign, .tuple (s.ws.map fun (n : Nat) => PyData.int (n : Int))]
theorem dpAll_nts {H : Hp} : ∀ ws : List Nat, DpAll K H (nts ws) (ws.map fun (n : Nat) => PyData.int (n : Int))
  | [] => .nil
  | n :: ws => .cons (.int _) (dpAll_nts ws)
theorem dp_stp {H : Hp} {v : V} {s : Stp} (h : IsStp H v s) : Dp K H v (stpD s) := by
  obtain ⟨t, wa, rfl, h1, h2⟩ := h
  exact .tup (.inl (.inl h1)) (.cons (.int _) (.cons (.str _) (.cons (.tup (.inl (.inl h2)) (dpAll_nts s.ws)) .nil)))
theorem dpAll_stps {H : Hp} : ∀ {vs : List V} {ss : List Stp}, AllAre (IsStp H) vs ss → DpAll K H vs (ss.map stpD)
  | [], [], _ => .nil
  | v :: vs, s :: ss, h => .cons (dp_stp (h.2 0 v s rfl rfl)) (dpAll_stps ⟨by simpa using h.1, fun i a b h1 h2 => h.2 (i + 1) a b (by simpa using h1) (by simpa using h2)⟩)
  | [], _ :: _, h => by simp [AllAre] at h
  | _ :: _, [], h => by simp [AllAre] at h
theorem told_ok : PyData.strOk ("told" : Str) = true := by decide +kernel
theorem lay_nts : ∀ ws : List Nat, PyData.canLayAll0 (ws.map fun (n : Nat) => PyData.int (n : Int)) = true ∧ PyData.depthAll (ws.map fun (n : Nat) => PyData.int (n : Int)) = 0
  | [] => ⟨rfl, rfl⟩
  | n :: ws => by
    obtain ⟨h1, h2⟩ := lay_nts ws
    constructor
    · simp [PyData.canLayAll0, PyData.canLay0, h1]
    · simp [PyData.depthAll, PyData.depth, h2]
theorem lay_stps : ∀ ss : List Stp, (∀ s ∈ ss, NmOk s.sign) → PyData.canLayAll0 (ss.map stpD) = true ∧ PyData.depthAll (ss.map stpD) ≤ 2
  | [], _ => ⟨rfl, Nat.zero_le _⟩
  | s :: ss, hs => by
    obtain ⟨h1, h2⟩ := lay_stps ss (fun x hx => hs x (List.mem_cons_of_mem _ hx))
    obtain ⟨h3, h4⟩ := lay_nts s.ws
    have h5 := nm_strOk (hs s List.mem_cons_self)
    constructor
    · simp [PyData.canLayAll0, h1, stpD, PyData.canLay0, h3, h5]
    · simp only [List.map_cons, PyData.depthAll, stpD, PyData.depth, h4]
      omega
theorem dp_told {H : Hp} {x : V} {n : Nat} {out : List Stp} (h : IsTold H x n out) : Dp K H x (.tuple [.str "told", .int (n : Nat), .list (out.map stpD)]) := by
  obtain ⟨t, r, svs, rfl, h1, h2, h3⟩ := h
  exact .tup (.inl (.inl h1)) (.cons (.str _) (.cons (.int _) (.cons (.lst (SqL.of h2) (dpAll_stps h3)) .nil)))
theorem ne_told {H : Hp} {x y : V} {n : Nat} {out : List Stp} {Q : VK} (hs : ∀ s ∈ out, NmOk s.sign) (hx : IsTold H x n out) (hy : IsTold H y n out) (q : Q (.bl false) H) : rNeD K x y H Q := by
  obtain ⟨h1, h2⟩ := lay_stps out hs
  have sh : SeqAt.shaped (.tuple [.str "told", .int (n : Nat), .list (out.map stpD)]) = true := by
    unfold SeqAt.shaped
    rw [Bool.and_eq_true]
    refine ⟨by simp [PyData.canLay0, PyData.canLayAll0, h1, told_ok], decide_eq_true ?_⟩
    simp only [PyData.depth, PyData.depthAll]
    omega
  refine ⟨_, _, dp_told hx, dp_told hy, sh, sh, ?_⟩
  rw [SeqAt.eqv_refl _ (SeqAt.canLay_of_shaped sh)]
  exact q
theorem IsTold.mono {H H' : Hp} {x : V} {n : Nat} {out : List Stp} (h : IsTold H x n out) (s : Same H H') : IsTold H' x n out := by
  obtain ⟨t, r, svs, e, h1, h2, h3⟩ := h
  exact ⟨t, r, svs, e, s _ _ h1, s _ _ h2, h3.imp fun _ _ h => h.mono s⟩
theorem IsStp.hidW {H : Hp} {a : Addr} {n : Nat} {v : V} {s : Stp} (w : WellAt H a n) (h : IsStp H v s) : IsStp (hid a H) v s := by
  obtain ⟨t, wa, e, h1, h2⟩ := h
  exact ⟨t, wa, e, hid_keep w h1 (fun _ => nofun), hid_keep w h2 (fun _ => nofun)⟩
theorem many_ok : PyData.strOk ("many" : Str) = true := by decide +kernel
theorem ne_many {H : Hp} {t u : Addr} {Q : VK} (ht : H t = some (.tup [.str "many"])) (hu : H u = some (.tup [.str "many"])) (q : Q (.bl false) H) : rNeD K (.ref t) (.ref u) H Q := by
  have sh : SeqAt.shaped (.tuple [.str "many"]) = true := by
    unfold SeqAt.shaped
    rw [Bool.and_eq_true]
    exact ⟨by simp [PyData.canLay0, PyData.canLayAll0, many_ok], decide_eq_true (by simp [PyData.depth, PyData.depthAll])⟩
  have dp : ∀ {a : Addr}, H a = some (.tup [.str "many"]) → Dp K H (.ref a) (.tuple [.str "many"]) := fun h => .tup (.inl (.inl h)) (.cons (.str _) .nil)
  refine ⟨_, _, dp ht, dp hu, sh, sh, ?_⟩
  rw [SeqAt.eqv_refl _ (SeqAt.canLay_of_shaped sh)]
  exact q
/-- a value tells what is found by G -/
def Said1 (G : Thing → List GRow) (H : Hp) (x : V) : Prop := (ManyW G (0, 0) ∧ ∃ t, x = .ref t ∧ H t = some (.tup [.str "many"])) ∨ ∃ m out, AllW G (0, 0) m ∧ SortedOf (stepsW G (0, 0) m) out ∧ IsTold H x m out
theorem Said1.mono {G : Thing → List GRow} {H H' : Hp} {x : V} (h : Said1 G H x) (s : Same H H') : Said1 G H' x := by
  rcases h with ⟨a, t, e, h⟩ | ⟨m, out, a, so, h⟩
  · exact .inl ⟨a, t, e, s _ _ h⟩
  · exact .inr ⟨m, out, a, so, h.mono s⟩
/-- steps as drawn, and those of the machine made of them -/
structure Pr (nm4 : List Str) (m : Nat) (ss out : List Stp) : Prop where
  sd : Sd nm4 m ss
  so : SortedOf ss out
theorem Pr.mok {nm4 : List Str} {m : Nat} {ss out : List Stp} (h : Pr nm4 m ss out) : MOk m out := mok_of h.sd.ok h.so
theorem low_le {ws : List Nat} {b : Nat} (h : ∀ n ∈ ws, n < b) : ∀ n ∈ low ws, n < b := fun n hn => by
  unfold low at hn
  obtain ⟨k, hk, rfl⟩ := List.mem_map.mp hn
  exact Nat.lt_of_le_of_lt (Nat.div_le_self _ _) (h k hk)
theorem Pr.low {nm4 : List Str} {m : Nat} {ss out : List Stp} (h : Pr nm4 m ss out) : Sd nm4 m out := by
  refine ⟨h.mok.ok, fun s hs => ?_, fun s hs => ?_⟩
  · obtain ⟨s0, h0, rfl⟩ := List.mem_map.mp (h.so.1.mem_iff.mp hs)
    exact low_le (h.sd.wt s0 h0)
  · obtain ⟨s0, h0, rfl⟩ := List.mem_map.mp (h.so.1.mem_iff.mp hs)
    exact h.sd.sg s0 h0
theorem door_perm {ss out : List Stp} (so : SortedOf ss out) (r : Nat) : (doorOf out r).Perm ((doorOf ss r).map lowS) := by
  have h1 := so.1.filter fun s => decide (s.room = r)
  rw [List.filter_map] at h1
  exact h1
theorem Pr.sel {nm4 : List Str} {m : Nat} {ss out : List Stp} (h : Pr nm4 m ss out) (n4 : nm4.length ≤ 4) (r : Nat) (z : Str) : selD z (doorOf out r) = (selD z (doorOf ss r)).map lowS := by
  rw [← sel_low]
  have k := h.sd.dr n4 r
  have k' : DrOk ((doorOf ss r).map lowS) := by
    refine ⟨by rw [List.map_map]; exact k.nd, by rw [List.length_map]; exact k.few, fun s hs => ?_, fun s hs => ?_⟩
    · obtain ⟨s0, h0, rfl⟩ := List.mem_map.mp hs
      have := k.wt s0 h0
      exact ⟨by show (Fb.low s0.ws).length ≤ 12; unfold Fb.low; rw [List.length_map]; exact this.1, low_le this.2⟩
    · obtain ⟨s0, h0, rfl⟩ := List.mem_map.mp hs
      intro e
      have e : Fb.low s0.ws = [] := e
      unfold Fb.low at e
      exact k.ne s0 h0 (List.map_eq_nil_iff.mp e)
  exact sel_perm k' (door_perm h.so r) (h.low.dr n4 r) z
theorem Pr.ups {nm4 : List Str} {m1 m2 : Nat} {s1 o1 s2 o2 : List Stp} (h1 : Pr nm4 m1 s1 o1) (h2 : Pr nm4 m2 s2 o2) {zs : List Str} {r1 r2 : Nat} (u : UpS zs (doorOf s1 r1) (doorOf s2 r2)) : UpS zs (doorOf o1 r1) (doorOf o2 r2) := by
  have q : ∀ {ss out : List Stp} {r : Nat} (so : SortedOf ss out) (z : Str), (∃ s ∈ doorOf ss r, s.sign = z) ↔ ∃ s ∈ doorOf out r, s.sign = z := fun {ss out r} so z => by
    constructor
    · rintro ⟨s, hs, e⟩
      exact ⟨lowS s, (door_perm so r).mem_iff.mpr (List.mem_map.mpr ⟨s, hs, rfl⟩), e⟩
    · rintro ⟨s, hs, e⟩
      obtain ⟨s0, h0, rfl⟩ := List.mem_map.mp ((door_perm so r).mem_iff.mp hs)
      exact ⟨s0, h0, e⟩
  exact ⟨u.nd, u.up, fun z => by rw [u.mem z, q h1.so z, q h2.so z]⟩
def GR (sh : List Str) (o1 o2 : List Stp) (zsf : Thing → List Str) (x : Thing) : List GRow := DuF sh x (doorOf o1 x.1) (doorOf o2 x.2) (zsf x)
theorem zsf_ex (s1 s2 : List Stp) : ∃ zsf : Thing → List Str, ∀ x : Thing, UpS (zsf x) (doorOf s1 x.1) (doorOf s2 x.2) := ⟨fun x => (up_ex (doorOf s1 x.1) (doorOf s2 x.2)).choose, fun x => (up_ex (doorOf s1 x.1) (doorOf s2 x.2)).choose_spec⟩
section
variable {sh nm4 : List Str} {m1 m2 : Nat} {s1 o1 s2 o2 : List Stp} {zsf : Thing → List Str}
theorem gr_ok (n4 : nm4.length ≤ 4) (h1 : Sd nm4 m1 s1) (h2 : Sd nm4 m2 s2) (ups : ∀ x : Thing, UpS (zsf x) (doorOf s1 x.1) (doorOf s2 x.2)) : GOk (GR sh s1 s2 zsf) (DomB m1 m2) := du_gok n4 h1 h2 ups
theorem gr_scl (n4 : nm4.length ≤ 4) (h1 : Pr nm4 m1 s1 o1) (h2 : Pr nm4 m2 s2 o2) (x : Thing) : Scl (GR sh s1 s2 zsf x) (GR sh o1 o2 zsf x) :=
  du_scl (zsf x) (rel_wsD (h1.sd.pos x.1) (h1.sel n4 x.1)) (rel_wsD (h2.sd.pos x.2) (h2.sel n4 x.2))
theorem said_low (n4 : nm4.length ≤ 4) (h1 : Pr nm4 m1 s1 o1) (h2 : Pr nm4 m2 s2 o2) (ups : ∀ x : Thing, UpS (zsf x) (doorOf s1 x.1) (doorOf s2 x.2)) {H : Hp} {v : V} (h : Said1 (GR sh o1 o2 zsf) H v) : Said1 (GR sh s1 s2 zsf) H v := by
  have gL := gr_ok (sh := sh) n4 h1.low h2.low fun x => h1.ups h2 (ups x)
  have d0 : DomB m1 m2 (0, 0) := ⟨h1.sd.ok.m1, h2.sd.ok.m1⟩
  have sc : ∀ y, DomB m1 m2 y → Scl (GR sh s1 s2 zsf y) (GR sh o1 o2 zsf y) := fun y _ => gr_scl n4 h1 h2 y
  rcases h with ⟨a, t, e, h⟩ | ⟨m, out, a, so, h⟩
  · exact .inl ⟨(many_scl gL d0 sc).mpr a, t, e, h⟩
  · refine .inr ⟨m, out, (all_scl gL d0 sc m).mpr a, ⟨?_, so.2⟩, h⟩
    rw [steps_scl gL d0 sc]
    exact so.1
theorem said_ne {G : Thing → List GRow} {Dom : Thing → Prop} (ok : GOk G Dom) (d0 : Dom (0, 0)) {H : Hp} {x y : V} {Q : VK} (hx : Said1 G H x) (hy : Said1 G H y) (q : Q (.bl false) H) : rNeD K x y H Q := by
  rcases hx with ⟨a, t, rfl, h⟩ | ⟨m, out, a, so, h⟩
  · rcases hy with ⟨a', t', rfl, h'⟩ | ⟨m', out', a', so', h'⟩
    · exact ne_many h h' q
    · exact (many_all a a').elim
  · rcases hy with ⟨a', t', rfl, h'⟩ | ⟨m', out', a', so', h'⟩
    · exact (many_all a' a).elim
    · obtain rfl := all_uniq a a'
      obtain rfl := sorted_uniq so.2 so'.2 (so.1.trans so'.1.symm)
      refine ne_told (fun s' hs => ?_) h h' q
      obtain ⟨s0, h0, rfl⟩ := List.mem_map.mp (so.1.mem_iff.mp hs)
      exact ((found_ok ok d0 a).all s0 h0).sign
theorem due_said {H : Hp} {sl l1 l2 : Addr} {x1 x2 : List V} {Q : VK} {E : XK} (n4 : nm4.length ≤ 4) (h1 : Sd nm4 m1 s1) (h2 : Sd nm4 m2 s2) (ups : ∀ x : Thing, UpS (zsf x) (doorOf s1 x.1) (doorOf s2 x.2)) (hs : H sl = some (.lst (sh.map V.str))) (e1 : H l1 = some (.lst x1)) (a1 : AllAre (IsStp H) x1 s1) (e2 : H l2 = some (.lst x2)) (a2 : AllAre (IsStp H) x2 s2)
    (q : ∀ H' v, Same H H' → Said1 (GR sh s1 s2 zsf) H' v → Q v H') : spDueB [.ref sl, .ref l1, .ref l2] H Q E :=
  ⟨sl, l1, l2, x1, x2, sh, m1, m2, s1, s2, zsf, GR sh s1 s2 zsf, rfl, hs, e1, a1, e2, a2, h1.ok, h2.ok, h1.dr n4, h2.dr n4, ups, fun _ => rfl, gr_ok n4 h1 h2 ups, fun a H' t s e => q H' _ s (.inl ⟨a, t, rfl, e⟩), fun m a H' u srt s pm up tu => q H' u s (.inr ⟨m, srt, a, ⟨pm, up⟩, tu⟩)⟩
end
def lamQ : Str := (("_law_right" : Str) ++ ".<locals>.") ++ "<lambda>"
def TTs (tp tp2 : Addr) : List (Addr × Str) := [(tp, lamQ), (tp2, goalQ)]
theorem tts_lam {tp tp2 : Addr} (ne : tp ≠ tp2) : ∀ p ∈ TTs tp tp2, p.1 = tp → p.2 = lamQ := fun p hp e => by
  rcases List.mem_cons.mp hp with rfl | hp
  · rfl
  · rw [List.mem_singleton.mp hp] at e
    exact absurd e.symm ne
theorem tts_goal {tp tp2 : Addr} (ne : tp ≠ tp2) : ∀ p ∈ TTs tp tp2, p.1 = tp2 → p.2 = goalQ := fun p hp e => by
  rcases List.mem_cons.mp hp with rfl | hp
  · exact absurd e ne
  · rw [List.mem_singleton.mp hp]
/-- beside, within the law's said: it tells what is found by raw weights -/
theorem beside_said {C N tp tp2 : Addr} {sh nm4 : List Str} {m1 m2 : Nat} {s1 o1 s2 o2 : List Stp} {zsf : Thing → List Str} {F : Hp} {sl : Addr} {v1 v2 : V} {Q Qs : VK} {Es : XK} (ne : tp ≠ tp2) (n4 : nm4.length ≤ 4) (h1 : Pr nm4 m1 s1 o1) (h2 : Pr nm4 m2 s2 o2) (ups : ∀ x : Thing, UpS (zsf x) (doorOf s1 x.1) (doorOf s2 x.2))
    (hs : F sl = some (.lst (sh.map V.str))) (l60 : sh.length ≤ 60) (nms : ∀ z ∈ sh, NmOk z) (nd : sh.Nodup) (i1 : IsMach C F v1 m1 o1) (i2 : IsMach C F v2 m2 o2) (tb : Tabs (TTs tp tp2) F)
    (hE : ∀ (d : Option Addr) (H' : Hp), (∀ H2 t, Same H' H2 → H2 t = some (.tup [.str "many"]) → Q (.ref t) H2) → Es (.ref N) d H')
    (hQ : ∀ (v : V) (m : Nat) (out : List Stp) (H' : Hp), IsMach C H' v m out → (∀ H2 u, Same H' H2 → IsTold H2 u m out → Q u H2) → Qs v H')
    (k : ∀ H2 u, Same (noT F) H2 → Tabs (TTs tp tp2) H2 → Said1 (GR sh s1 s2 zsf) H2 u → Q u H2) : spBeside C N tp2 [.ref sl, v1, v2] F Qs Es := by
  have upL := fun x => h1.ups h2 (ups x)
  refine ⟨sl, v1, v2, sh, m1, m2, o1, o2, GR sh o1 o2 zsf, TTs tp tp2, rfl, hs, l60, nms, nd, i1, h1.mok, i2, h2.mok, h1.low.dr n4, h2.low.dr n4, gr_ok n4 h1.low h2.low upL, fun x _ => du_sorted (upL x) (h1.low.dr n4 x.1) (h2.low.dr n4 x.2) (h1.low.pos x.1) (h2.low.pos x.2), List.mem_cons_of_mem _ List.mem_cons_self, tts_goal ne, tb,
    fun m a H' v out s t im so => hQ v m out H' im fun H2 u s2' told => k H2 u (s.trans s2') (tabs_same t s2') (said_low n4 h1 h2 ups (.inr ⟨m, out, a, so, told⟩)),
    fun a H' s t => hE none H' fun H2 u s2' e => k H2 _ (s.trans s2') (tabs_same t s2') (said_low n4 h1 h2 ups (.inl ⟨a, u, rfl, e⟩))⟩
end
end Fb
namespace Fb
open PySem PySem.Spec PyProof.Rows L2
section
variable {P : Program} {w : World} {K : PySem.W.Frag} {mg : Str → Option Value} {base : Heap}
structure GD (n w : Nat) (d : PyData) : Prop where
  cl : d.canLay0 = true
  sh : d.showable = true
  nd : d.hasDict = false
  i13 : d.intsShort 13 = true
  dp : d.depth ≤ n
  wt : d.weight ≤ w
theorem GD.all {n w : Nat} : ∀ {ds : List PyData}, (∀ d ∈ ds, GD n w d) → PyData.canLayAll0 ds = true ∧ PyData.showableAll ds = true ∧ PyData.hasDictAll ds = false ∧ PyData.intsShortAll 13 ds = true ∧ PyData.depthAll ds ≤ n ∧ PyData.weightAll ds ≤ ds.length * (w + 1)
  | [], _ => ⟨rfl, rfl, rfl, rfl, Nat.zero_le _, Nat.zero_le _⟩
  | d :: ds, h => by
    obtain ⟨a1, a2, a3, a4, a5, a6⟩ := GD.all fun x hx => h x (List.mem_cons_of_mem _ hx)
    have g := h d List.mem_cons_self
    have g5 := g.dp
    have g6 := g.wt
    refine ⟨by simp [PyData.canLayAll0, a1, g.cl], by simp [PyData.showableAll, a2, g.sh], by simp [PyData.hasDictAll, a3, g.nd], by simp [PyData.intsShortAll, a4, g.i13], ?_, ?_⟩
    · simp only [PyData.depthAll]
      omega
    · simp only [PyData.weightAll, List.length_cons, Nat.succ_mul]
      omega
theorem GD.list {n w k : Nat} {ds : List PyData} (h : ∀ d ∈ ds, GD n w d) (l : ds.length ≤ k) : GD (n + 1) (k * (w + 1)) (.list ds) := by
  obtain ⟨a1, a2, a3, a4, a5, a6⟩ := GD.all h
  have := Nat.mul_le_mul_right (w + 1) l
  refine ⟨by simp [PyData.canLay0, a1], by simp [PyData.showable, a2], by simp [PyData.hasDict, a3], by simp [PyData.intsShort, a4], ?_, ?_⟩
  · simp only [PyData.depth]
    omega
  · simp only [PyData.weight]
    omega
theorem GD.tup {n w k : Nat} {ds : List PyData} (h : ∀ d ∈ ds, GD n w d) (l : ds.length ≤ k) : GD (n + 1) (k * (w + 1)) (.tuple ds) := by
  obtain ⟨a1, a2, a3, a4, a5, a6⟩ := GD.all h
  have := Nat.mul_le_mul_right (w + 1) l
  refine ⟨by simp [PyData.canLay0, a1], by simp [PyData.showable, a2], by simp [PyData.hasDict, a3], by simp [PyData.intsShort, a4], ?_, ?_⟩
  · simp only [PyData.depth]
    omega
  · simp only [PyData.weight]
    omega
theorem GD.mono {n n' w w' : Nat} {d : PyData} (h : GD n w d) (hn : n ≤ n') (hw : w ≤ w') : GD n' w' d := ⟨h.cl, h.sh, h.nd, h.i13, Nat.le_trans h.dp hn, Nat.le_trans h.wt hw⟩
theorem gd_int {x : Nat} (h : x < 2 ^ 38) : GD 0 39 (.int (x : Int)) := by
  have lg : x.log2 ≤ 38 := by
    by_cases c : x = 0
    · subst c
      decide
    · have := (Nat.log2_lt c).mpr h
      omega
  refine ⟨by simp [PyData.canLay0], ?_, by simp [PyData.hasDict], ?_, by simp [PyData.depth], ?_⟩
  · simp only [PyData.showable, Int.natAbs_natCast, decide_eq_true_eq]
    omega
  · simp only [PyData.intsShort, decide_eq_true_eq]
    refine PyData.shown_int_le ?_
    rw [Int.natAbs_natCast]
    exact Nat.lt_of_lt_of_le h (by decide)
  · simp only [PyData.weight, Int.natAbs_natCast]
    split
    · exact Nat.zero_le _
    · omega
theorem gd_str {z : Str} (h : NmOk z) : GD 0 8 (.str z) :=
  ⟨by simp [PyData.canLay0, nm_strOk h], by simp [PyData.showable], by simp [PyData.hasDict], by simp [PyData.intsShort], by simp [PyData.depth], by simp only [PyData.weight]; exact h.l8⟩
theorem rep_gd {H : Hp} {v : V} {d : PyData} {n w : Nat} {Q : VK} (hd : Dp K H v d) (g : GD n w d) (hn : n ≤ 60) (hw : w ≤ 2 ^ 20) (q : Q (.str d.shown) H) : rRepr K [v] H Q :=
  ⟨v, rfl, .inl ⟨d, hd, g.sh, g.nd, Nat.le_trans g.dp hn, PyData.shown_fits (by decide) (by decide) (PyData.leavesShort_of_canLay0 13 d g.cl g.i13) (Nat.le_trans g.wt hw), q⟩⟩
theorem gd_ints {l : List Nat} {k : Nat} (h : ∀ x ∈ l, x < 2 ^ 38) (hk : l.length ≤ k) : GD 1 (k * 40) (.tuple (l.map fun (n : Nat) => PyData.int (n : Int))) :=
  GD.tup (n := 0) (w := 39) (fun d hd => by
    obtain ⟨x, hx, rfl⟩ := List.mem_map.mp hd
    exact gd_int (h x hx)) (by rw [List.length_map]; exact hk)
theorem gd_stps {m : Nat} {out : List Stp} (ok : StpsOk m out) (sm : ∀ s ∈ out, ∀ n ∈ s.ws, n < 2 ^ 38) : GD 3 (60 * 1501) (.list (out.map stpD)) := by
  have m12 := ok.m12
  have few := ok.few
  refine GD.list (n := 2) (w := 1500) (fun d hd => ?_) (by rw [List.length_map]; omega)
  obtain ⟨s, hs, rfl⟩ := List.mem_map.mp hd
  have o := ok.all s hs
  have room := o.room
  have gw : GD 1 (12 * 40) (.tuple (s.ws.map fun (n : Nat) => PyData.int (n : Int))) := gd_ints (sm s hs) (by rw [o.wts.len]; exact m12)
  refine (GD.tup (n := 1) (w := 480) (k := 3) (fun d hd => ?_) (Nat.le_refl _)).mono (Nat.le_refl _) (by decide)
  rcases (by simpa using hd : d = .int (s.room : Int) ∨ d = .str s.sign ∨ d = .tuple (s.ws.map fun (n : Nat) => PyData.int (n : Int))) with rfl | rfl | rfl
  · exact (gd_int (Nat.lt_of_lt_of_le (show s.room < 12 by omega) (by decide))).mono (by decide) (by decide)
  · exact (gd_str o.sign).mono (by decide) (by decide)
  · exact gw
/-- [x for x in texts if a draw says so]: some of them, in their order -/
theorem lc_drawF {b : Addr} {zs : List Str} {g : TG} {tt : TT} {te : TE} {vs : List Nat} {σ : L2.St} {H1 : Hp} {D a : Addr} {Qd : Hp → Prop} (f : Nat) (hD : H1 D = none) (hw : WellAt H1 a (f + zs.length)) (hn : zs.length ≤ 900) (hb : (hid a H1) b = some (.lst (zs.map V.str)))
    (hs : ∀ z H m (kt : V → Hp → Prop) (kf : Hp → Prop), z ∈ zs → WellAt H a (m + 1) → Same (hid a H1) (hid a H) → (∀ H4, Same (hid a H) (hid a H4) → WellAt H4 a m → kt (.str z) H4) → (∀ H4, Same (hid a H) (hid a H4) → WellAt H4 a m → kf H4) →
      g (.str z) (wipe σ vs) H fun σ2 H2 => wipe σ2 vs = wipe σ vs ∧ tt σ2 H2 fun bb H3 => if bb = true then te σ2 H3 kt else kf H3)
    (hd : ∀ (H : Hp) (L : List Str), Same (hid a H1) (hid D (hid a H)) → WellAt H a f → H D = some (.lst (L.map V.str)) → L.Sublist zs → Qd H) :
    ∃ W : Nat → Nat → Hp → Prop, (∃ m, W 0 m (upd H1 D (.lst []))) ∧ ∀ i m H, W i m H →
      ((Itl K b).stop i H ∧ Qd H) ∨ ((Itl K b).go i H ∧ ∃ Nx : Hp → Prop, (∀ H', Nx H' → ∃ m', m' < m ∧ W (i + 1) m' H') ∧ ∀ x H', (Itl K b).yld i H x H' → g x (wipe σ vs) H' fun σ2 H2 => wipe σ2 vs = wipe σ vs ∧ tt σ2 H2 fun b H3 =>
        if b = true then te σ2 H3 fun y H4 => ∃ acc, H4 D = some (.lst acc) ∧ acc.length < sizeLine ∧ Nx (upd H4 D (.lst (acc ++ [y]))) else Nx H3) := by
  have nD : D ≠ a := hw.ne hD
  have lz : (zs.map V.str).length = zs.length := List.length_map ..
  refine lc_it (walk_list (K := K) (a := b) (xs := zs.map V.str)) (fun i H => ∃ L : List Str, Same (hid a H1) (hid D (hid a H)) ∧ WellAt H a (f + (zs.length - i)) ∧ H D = some (.lst (L.map V.str)) ∧ L.Sublist (zs.take i)) ⟨[], ?_, hw.upd nD, upd_same, List.nil_sublist _⟩ (fun i H _ h => ?_) (fun i x H H' hi h y => ?_) (fun H h => ?_)
  · rw [hid2_upd nD]
    intro c o e
    have hc : c ≠ D := fun z => by
      rw [z, hid_ne nD, hD] at e
      cases e
    rw [hid_ne hc]
    exact e
  · obtain ⟨L, s, _⟩ := h
    exact SqL.of (hid_same _ _ ((s.trans hid_same) _ _ hb))
  · obtain ⟨L, s, w, e, sub⟩ := h
    obtain ⟨rfl, hv⟩ := y
    rw [List.getElem?_map] at hv
    obtain ⟨z, hz, rfl⟩ := Option.map_eq_some_iff.mp hv
    rw [lz] at hi
    have ec : f + (zs.length - i) = (f + (zs.length - (i + 1))) + 1 := by omega
    rw [ec] at w
    have et : zs.take (i + 1) = zs.take i ++ [z] := by rw [List.take_add_one, hz]; rfl
    have at4 : ∀ {H4 : Hp}, Same (hid a H') (hid a H4) → H4 D = some (.lst (L.map V.str)) := fun {H4} s4 => by
      have := s4 D (.lst (L.map V.str)) (by rw [hid_ne nD]; exact e)
      rw [hid_ne nD] at this
      exact this
    refine hs z H' _ _ _ (List.mem_of_getElem? hz) w (s.trans hid_same) (fun H4 s4 w4 => ?_) (fun H4 s4 w4 => ?_)
    · have l1 := sub.length_le
      have l2 := List.length_take_le i zs
      refine ⟨L.map V.str, at4 s4, small1000 (by rw [List.length_map]; omega), L ++ [z], ?_, w4.upd nD, ?_, ?_⟩
      · rw [hid2_upd nD]
        exact s.trans (hid_mono s4)
      · rw [upd_same, List.map_append]
        rfl
      · rw [et]
        exact List.Sublist.append sub (List.Sublist.refl _)
    · refine ⟨L, s.trans (hid_mono s4), w4, at4 s4, ?_⟩
      rw [et]
      exact sub.trans (List.sublist_append_left _ _)
  · obtain ⟨L, s, w, e, sub⟩ := h
    rw [lz, Nat.sub_self] at w
    rw [lz, List.take_length] at sub
    exact hd H L s w e sub
theorem cut_toS (l : List Str) (k : Nat) : cutV (l.map V.str) none (some (k : Int)) = (l.take k).map V.str := (cut_tok _ k).trans List.map_take.symm
theorem un64 {k : Nat} {A : Around} (hr : Room k A) : A.units + 64 < cLine := by
  have := hr.un
  omega
theorem call_list_ofK {X : Cx} {K : PySem.W.Frag} (hK : X.K = K) : CallR X (.type "list") (fun xs H Q => ∃ p ys, xs = [.ref p] ∧ (SqL K H p ys ∨ SqT K H p ys) ∧ ∀ l, H l = none → Q (.ref l) (upd H l (.lst ys))) := hK ▸ call_list_of
theorem op_in_seqK {X : Cx} {K : PySem.W.Frag} (hK : X.K = K) : OpR X (compareOp .In) (rIn K false) := by
  subst hK
  exact op_in_seq
end
end Fb
namespace Fb
open PySem PySem.Spec PyProof.Rows L2
section
open LamX
variable {P : Program} {w : World} {K : PySem.W.Frag} {mg mb : Str → Option Value}
/-- what is tracked at the beginning: the script, where the written part doesn't tell it, and the empty tables -/
def firstH (K : PySem.W.Frag) (cs : List (Addr × Addr)) (a : Addr) (o : Obj) (xs : List V) : Hp := fun b => if b = a then (if K.lookup a = none then some (.frz o (.lst xs)) else none) else if b ∈ cs.map (·.2) then some (.tbl #[]) else none
theorem begin_atT {s : Shared} {a : Addr} {vs : List Value} {ns : List Int} {cs : List (Addr × Addr)} (kin : K.In s.heap) (glob : s.heap.Ns mainGlobals mg) (blt : s.heap.Ns builtinsNs mb) (boot : ∀ x : Str, x ≠ "__name__" → mb x = bootBuiltins x) (lim : s.heap.NoLimit) (gens : s.gens = #[])
    (tabs : ∀ p ∈ cs, s.heap.get? p.2 = some { cls := .none, data := .fields #[] }) (noK : ∀ p ∈ cs, K.lookup p.2 = none) (codes : ∀ p ∈ cs, PySem.W.CodeHd s.heap p.1 p.2)
    (bmain : ∃ (bm : Addr) (ob : Obj), mg "__builtins__" = some (.ref bm) ∧ bm ≠ builtinsNs ∧ s.heap.get? bm = some ob ∧ ob.cls = .type "module" ∧ ob.dict = some builtinsNs ∧ ob.data = .plain)
    (obj : s.heap.get? a = some { cls := .type "list", data := .seq vs.toArray }) (isn : IntsAre vs ns) (few : ns.length ≤ sizeLine) :
    ∃ (base : Heap) (H : Hp), K.In base ∧ base.Ns mainGlobals mg ∧ Env0 P w K mg base callerA [] s H ∧ SqL K H a (ns.map V.int) ∧ (∀ p ∈ cs, H p.2 = some (.tbl #[])) ∧ (∀ p ∈ cs, TabB base mg p.1 p.2) ∧ ∀ b o, s.heap.get? b = some o → H b = none ∨ (b ∈ cs.map (·.2) ∧ H b = some (.tbl #[])) ∨ ∃ u, H b = some (.frz o u) := by
  have rv := vals_ints isn
  obtain ⟨ob, hob⟩ : ∃ ob : Obj, ob = { cls := .type "list", data := .seq vs.toArray } := ⟨_, rfl⟩
  rw [← hob] at obj
  have at_ : ∀ b, b ∈ cs.map (·.2) → s.heap.get? b = some { cls := .none, data := .fields #[] } ∧ K.lookup b = none := fun b hb => by
    obtain ⟨p, hp, rfl⟩ := List.mem_map.mp hb
    exact ⟨tabs p hp, noK p hp⟩
  have out : a ∉ cs.map (·.2) := fun h => by
    have e := (at_ a h).1
    rw [obj, hob] at e
    cases e
  obtain ⟨H, hH⟩ : ∃ H, H = firstH K cs a ob (ns.map V.int) := ⟨_, rfl⟩
  have told : ∀ {b : Addr} {u : HO}, H b = some u → (b = a ∧ K.lookup a = none ∧ u = .frz ob (.lst (ns.map V.int))) ∨ (b ∈ cs.map (·.2) ∧ u = .tbl #[]) := fun {b u} h => by
    rw [hH] at h
    unfold firstH at h
    by_cases c : b = a
    · rw [if_pos c] at h
      by_cases k : K.lookup a = none
      · rw [if_pos k] at h
        exact .inl ⟨c, k, (Option.some.inj h).symm⟩
      · rw [if_neg k] at h
        cases h
    · rw [if_neg c] at h
      by_cases m : b ∈ cs.map (·.2)
      · rw [if_pos m] at h
        exact .inr ⟨m, (Option.some.inj h).symm⟩
      · rw [if_neg m] at h
        cases h
  have tabH : ∀ b, b ∈ cs.map (·.2) → H b = some (.tbl #[]) := fun b hb => by
    have c : b ≠ a := fun z => out (z ▸ hb)
    rw [hH]
    exact (if_neg c).trans (if_pos hb)
  have free : ∀ {b : Addr} {o : Obj}, s.heap.get? b = some o → (∀ vs n, o.data ≠ .seq vs n) → o.data ≠ .fields #[] → H b = none := fun {b o} e n1 n2 => by
    cases q : H b with
    | none => rfl
    | some u =>
      rcases told q with ⟨z, _, _⟩ | ⟨z, _⟩
      · rw [z, obj, hob] at e
        cases e
        exact absurd rfl (n1 _ _)
      · rw [(at_ b z).1] at e
        cases e
        exact absurd rfl n2
  have get : ∀ {b : Addr} {o : Obj}, s.heap.get? b = some o → H b = none → (hidT s.heap H).get? b = some o := fun e c => hidT_get e c
  have nsp : ∀ {b : Addr} {m : Str → Option Value}, s.heap.Ns b m → (hidT s.heap H).Ns b m := by
    rintro b m ⟨o, es, ep, e, d, r⟩
    refine ⟨o, es, ep, get e (free e (fun vs n z => ?_) fun z => ?_), d, r⟩
    · rw [d] at z
      cases z
    · rw [d] at z
      cases z
  have kin' : K.In (hidT s.heap H) := fun b o e => get (kin b o e) (by
    cases q : H b with
    | none => rfl
    | some u =>
      rcases told q with ⟨z, k, _⟩ | ⟨z, _⟩
      · rw [z, k] at e
        cases e
      · rw [(at_ b z).2] at e
        cases e)
  have hok : HOk P w H s.heap := fun b u e => by
    rcases told e with ⟨rfl, _, rfl⟩ | ⟨z, rfl⟩
    · exact ⟨obj, by rw [List.length_map]; exact few, vs, _, rv, by rw [obj, hob]⟩
    · exact (at_ b z).1
  refine ⟨hidT s.heap H, H, kin', nsp glob, ⟨rfl, ⟨kin', nsp glob, ⟨mb, nsp blt, boot⟩, lim.elim fun mc h => ⟨mc, nsp h.1, h.2⟩⟩, fun b o e => of_hidT e, Nat.le_of_eq (hidT_size _ _), trivial, (fun b hb => by cases hb), hok, .of_eq gens⟩, ?_, fun p hp => tabH _ (List.mem_map.mpr ⟨p, hp, rfl⟩), fun p hp => ⟨?_, ?_, fun z => ?_⟩, fun b o e => ?_⟩
  · cases lk : K.lookup a with
    | none => exact .inl (.inr ⟨ob, by rw [hH]; exact (if_pos rfl).trans (if_pos lk)⟩)
    | some o =>
      have e := kin a o lk
      rw [obj] at e
      have e := Option.some.inj e
      subst e
      subst hob
      exact .inr ⟨_, vs.toArray, _, lk, rfl, rfl, rfl, by rw [List.size_toArray, isn.length]; exact few, by simpa using rv⟩
  · obtain ⟨o, us, file, tf, flags, tg, inF, text, tt, e1, r1, r2, r3, r4, r5, r6, r7, r8, hne⟩ := codes p hp
    refine ⟨o, us, file, tf, flags, tg, inF, text, tt, get e1 (free e1 (fun vs n z => ?_) fun z => ?_), r1, r2, r3, r4, r5, r6, r7, r8, hne⟩
    · rw [r2] at z
      cases z
    · rw [r2] at z
      cases z
      simp at r3
  · obtain ⟨bm, ob', b1, b2, b3, b4, b5, b6⟩ := bmain
    have nG : bm ≠ mainGlobals := fun q => by
      obtain ⟨o, es, ep, e, hd, _⟩ := glob
      rw [q, e] at b3
      cases b3
      rw [hd] at b6
      cases b6
    have nP : bm ≠ p.2 := fun q => by
      rw [q, tabs p hp] at b3
      cases b3
      cases b6
    refine ⟨bm, ob', b1, b2, nG, nP, get b3 (free b3 (fun vs n z => ?_) fun z => ?_), b4, b5, b6⟩
    · rw [b6] at z
      cases z
    · rw [b6] at z
      cases z
  · obtain ⟨o, es, ep, e, hd, _⟩ := glob
    rw [z, tabs p hp] at e
    cases e
    cases hd
  · cases hb : H b with
    | none => exact .inl rfl
    | some u =>
      rcases told hb with ⟨rfl, _, rfl⟩ | ⟨z, rfl⟩
      · rw [obj] at e
        cases e
        exact .inr (.inr ⟨_, rfl⟩)
      · exact .inr (.inl ⟨z, rfl⟩)
/-- the end: the tables are those of the defs named -/
theorem walk_ofTG {l : PySem.W.OpenLaw} {n k : Nat} {q : Program} {loose : List Str} {XP : (Str → Option Value) → Heap → Prop} {YP : World → Heap → Prop} {d : DefRec} {K : Params → PySem.W.Frag} {x : Str}
    (most : l.most = some n) (most2 : n ≤ sizeLine) (nodef : d.params.defaults = []) (hr : Room k callerA) (kin : ∀ (w : World) (h : Heap), YP w h → (K w.params).In h)
    (F : ∀ (w : World) (mg : Str → Option Value) (fa : Addr) (h : Heap), (K w.params).In h → h.Ns mainGlobals mg → mg d.name = some (.ref fa) →
      ∃ (fd : FuncData) (cs : List (Addr × Addr)) (sp : Sp), (∀ p ∈ cs, ∃ y dd, (recsOf q).find? (fun e => e.name == y) = some dd ∧ PySem.W.tabIn (K w.params) y = some p) ∧ (∀ p ∈ cs, (K w.params).lookup p.2 = none) ∧ (∀ (s : Shared) (u : Value), BindsTo s fd ⟨[u], []⟩ [(x, u)]) ∧
        (∀ (H : Hp) (a : Addr) (ns : List Int), ns.length ≤ n → (∀ p ∈ cs, H p.2 = some (.tbl #[])) → SqL (K w.params) H a (ns.map V.int) → sp [.ref a] H (fun v _ => v = .bl true) fun _ _ _ => False) ∧
        ∀ base : Heap, (K w.params).In base → base.Ns mainGlobals mg → (∀ p ∈ cs, TabB base mg p.1 p.2) → FnOkG l.prog w (K w.params) mg base CX0 k fa fd [x] sp) :
    PySem.W.WalkO q loose XP YP l.row.toRowW d [] (fun f vs => PySem.call f vs) := by
  apply Att.attach_call most nodef
  intro w s0 s1 mg mb fa o pm cd doc a vs ns G Y ho hd hcd hmg hobj hints hlen hg
  have KX := kin w _ Y
  obtain ⟨fd, cs, sp, tab, noK, bind, told, promise⟩ := F w mg fa _ KX G.T.g hmg
  have tb : ∀ p ∈ cs, PySem.W.CodeHd s1.heap p.1 p.2 ∧ s1.heap.get? p.2 = some { cls := .none, data := .fields #[] } := fun p hp => by
    obtain ⟨y, dd, h1, h2⟩ := tab p hp
    exact PySem.W.tab_of G.T KX h1 h2
  obtain ⟨base, H, kb, gb, e0, sq, hT, TB, old⟩ := begin_atT (P := l.prog) (w := w) (cs := cs) KX G.T.g G.T.b G.T.builtins G.T.nolimit hg (fun p hp => (tb p hp).2) noK (fun p hp => (tb p hp).1) G.T.bmain hobj hints (Nat.le_trans hlen most2)
  refine codeAny_mono ((promise base kb gb TB).go callerA [] s1 H ⟨[.ref a], []⟩ [.ref a] [.ref a] (fun v _ => v = .bl true) (fun _ _ _ => False) ⟨rfl, hr, e0, bind s1 (.ref a), .cons rfl .nil, told H a ns hlen hT sq⟩) ?_
  intro r s2 end'
  match r, end' with
  | .ok (.ret u), ⟨v, H2, os, bare, un, hok, ru, tv⟩ =>
    have tv : v = .bl true := tv
    subst tv
    have ru : u = Value.bool true := ru
    subst ru
    have grown : ∀ p ∈ cs, ∃ more : Array Value, s2.heap.get? p.2 = some { cls := .none, data := .fields more } := fun p hp => by
      obtain ⟨more, z⟩ := un.tbls p.2 #[] (hT p hp)
      exact ⟨_, hok p.2 _ z⟩
    have stays : ∀ b ob, b ∉ cs.map (·.2) → s1.heap.get? b = some ob → s2.heap.get? b = some ob := fun b ob nb e => by
      rcases old b ob e with z | ⟨z, _⟩ | ⟨u2, fb⟩
      · exact un.keep b ob e z (fun c => by cases c) (by simp)
      · exact absurd z nb
      · exact (hok b _ (un.frzs b ob _ fb)).1
    refine ⟨rfl, ⟨fun b ob e => ?_, fun b ob e => ?_⟩, os, bare⟩
    · by_cases hb : b ∈ cs.map (·.2)
      · obtain ⟨p, hp, ep⟩ := List.mem_map.mp hb
        obtain ⟨more, hm⟩ := grown p hp
        rw [← ep] at e ⊢
        rw [(tb p hp).2] at e
        cases e
        exact .inr (.inl ⟨((tb p hp).1.tab (tb p hp).2).isCodeTable, rfl, #[], more, rfl, by rw [Array.empty_append]; exact hm⟩)
      · exact .inl (stays b ob hb e)
    · by_cases hb : b ∈ cs.map (·.2)
      · obtain ⟨p, hp, ep⟩ := List.mem_map.mp hb
        obtain ⟨more, hm⟩ := grown p hp
        rw [← ep]
        exact ⟨_, hm⟩
      · exact ⟨ob, stays b ob hb e⟩
/-- the code of a def whose table the written part tells -/
theorem code_is {x : Str} {c P f : Addr} {oc : Value} {od : Option Addr} {fd : FuncData} {sl : Array (Option Value)} (ht : PySem.W.tabIn K x = some (c, P)) (hn : PySem.W.nsIn K mainGlobals x = some (some (.ref f))) (hl : K.lookup f = some ⟨oc, od, .func fd, sl⟩) : fd.code = .ref c := by
  unfold PySem.W.tabIn at ht
  rw [hn] at ht
  dsimp only at ht
  rw [hl] at ht
  dsimp only at ht
  split at ht
  · rename_i c2 hc
    split at ht
    · split at ht
      · cases ht
        exact hc
      · cases ht
    · cases ht
  · cases ht
end
section
variable {P : Program} {w : World} {K : PySem.W.Frag} {mg : Str → Option Value} {base : Heap}
/-- a def by its body, where no repr is under way and its code is told -/
theorem Fun.okGC {x qual : Str} {st : Stmt} {f c : Addr} {fd : FuncData} {N ps : List Str} {k : Nat} {sp : Sp} (F : Fun K x qual st f fd) (hc : fd.code = .ref c) (S : FnScope N ps (defScope st)) (ln : ∀ vs H Q E, sp vs H Q E → vs.length = ps.length)
    (body : ∀ (A : Around) (outer : List Env) (s : Shared) (H : Hp) (vs : List V) (Q : VK) (E : XK), A.guards = some [] → Room k (A.deeper (envOfC qual (defScope st) s.heap.objs.size f (.ref c))) → sp vs H Q E →
      ∃ t, PSs (cxOf CX0 P w K mg base N qual (defScope st) f (.ref c) A outer s H E).nox (defBody st) t ∧ t { nx := fun _ H2 => Q .non H2, rt := Q } (start N vs) H) : FnOkG P w K mg base CX0 (k + 1) f fd ps sp where
  ln := ln
  go := by
    rintro A outer s H args us vs Q E ⟨gd, hr, e0, hb, rv, hsp⟩
    obtain ⟨oc, od, kV, doc, pm, an, cdv, ct, osl, rfl, look, rec⟩ := F.ex
    obtain rfl : cdv = .ref c := hc
    obtain ⟨kin, lim⟩ := env0_in e0
    obtain ⟨t, pss, reads⟩ := body A outer s H vs Q E gd (hr.deeper _) hsp
    have pss := pss.nox
    have par : ∀ y ∈ ps.zip us, (defScope st).names.lookup y.1 = some .local ∨ ((defScope st).names.lookup y.1 = some .cell ∧ ((cellsFrom (s.heap.objs.size + 1) (defScope st).names []).lookup y.1).isSome = true) := by
      intro y hy
      obtain ⟨n, v⟩ := y
      have hn := S.par n (List.of_mem_zip hy).1
      exact hn.imp id fun c => ⟨c, PySem.W.cellsFrom_some _ _ _ (Or.inl c)⟩
    apply codeAny_call_function hr.depth (kin _ _ look) rfl S.co S.gen rfl (PySem.W.codeRec_of kin rec)
    apply hb
    apply wpAny_newFunctionEnv_cells S.kind par
    rintro env rfl s1 inn
    constructor
    · exact lim.keeps inn.toInCall.keep
    apply codeAny_func
    have I0 := inv_start (CX := CX0) (P := P) (w := w) (K := K) (mg := mg) (base := base) (E := E) S hr.hd e0 (ln _ _ _ _ hsp) rv inn
    apply wpAny_mono (pss.run [] s1 (start N vs) H _ I0 reads)
    · intro fl s2 hfl
      match fl, hfl with
      | .ret u, ⟨v, σ2, H2, I2, r2, q2⟩ => exact body_end I2 r2 q2
      | .next, ⟨σ2, H2, I2, q2⟩ => exact body_end (v := .non) (u := .none) I2 rfl q2
      | .brk, ⟨_, _, _, no⟩ => exact no.elim
      | .cont, ⟨_, _, _, no⟩ => exact no.elim
    · exact fun _ _ h => h
end
section
/-- the written part tells the table of the def named, and not what it holds -/
def tabOk (K : PySem.W.Frag) (x : Str) : Bool := match PySem.W.tabIn K x with
  | some p => (K.lookup p.2).isNone
  | none => false
theorem tabOk_ex {K : PySem.W.Frag} {x : Str} (h : tabOk K x = true) : ∃ c P, PySem.W.tabIn K x = some (c, P) ∧ K.lookup P = none := by
  unfold tabOk at h
  split at h
  · rename_i p e
    exact ⟨p.1, p.2, e, Option.isNone_iff_eq_none.mp h⟩
  · cases h
end
end Fb
namespace Fb
open PySem PySem.Spec PyProof.Rows L2
section
open LamX
theorem pe_saidM {X : Cx} (T : Txt X.K X.mg) {TT : List (Addr × Str)} {c P : Addr} {params : Arguments} {body : Expr} {scope : Scope} {t : XK → TE} {p lpos pos : Pos} {k : Nat} (hr : Room (k + 2) X.A) (TB : TabB X.base X.mg c P) (hcode : X.env.code = .ref c) (hg : Gl X "_law_said") (hmT : (P, X.env.qual ++ "<lambda>") ∈ TT) (hu : ∀ p ∈ TT, p.1 = P → p.2 = X.env.qual ++ "<lambda>")
    (L : LamS X.env.scope scope) (hdef : defaultsOf params X.env = ([], []))
    (hbind : ∀ (q : Str) (cl : List (Str × Addr)) (pm cv ctv : Value), bindArgs (PySem.W.kla_fn "<lambda>" q params body scope cl pm cv ctv) ⟨[], []⟩ = pure [])
    (hbody : ∀ (A : Around) (outer : List Env) (s : Shared) (H : Hp) (E : XK) (f c' : Addr), Room k (A.deeper (lamEnv X scope s.heap.objs.size f c')) → PE (lamCx X A outer s H E scope f c') body (t E)) :
    PE X (.Call (.Name "_law_said" p) [.Lambda params body scope lpos] [] pos) (tLam TT (TTSaid T.c_Machine T.c_TooMany) t) := by
  obtain ⟨oc, od, kV, doc, pm, an, cdv, ct, osl, efd, look, rec⟩ := T.F_l_said.ex
  have b := T.b_l_said
  rw [efd] at look b
  exact pe_lamcall (x := "_law_said") (a := "_law_deed") (Ng := ["_law_deed", "_law_found"]) hg T.g_l_said T.F_l_said.kp look rec b sc_l_said rfl (.inl rfl) (said_gives T) TB hcode hmT hu hr L hdef hbind hbody
end
end Fb
namespace Fb
open PySem PySem.Spec PyProof.Rows L2
section
open LamX
variable {P : Program} {w : World} {K : PySem.W.Frag} {mg : Str → Option Value} {base : Heap}
def spRight (tp tp2 : Addr) : Sp := fun vs H Q _ => ∃ a : Addr, vs = [.ref a] ∧ WellAt H a 1099511627776 ∧ Tabs (TTs tp tp2) H ∧ ∀ H', ExtN (hid a H) H' → Tabs (TTs tp tp2) H' → Q (.bl true) H'
abbrev Mo := Nat × List Stp
/-- a number, and a list of steps -/
def IsRowT (H : Hp) (v : V) (e : Mo) : Prop := ∃ t l vs, v = .ref t ∧ H t = some (.tup [.int (e.1 : Nat), .ref l]) ∧ H l = some (.lst vs) ∧ AllAre (IsStp H) vs e.2
theorem IsRowT.mono {H H' : Hp} {v : V} {e : Mo} (h : IsRowT H v e) (s : Same H H') : IsRowT H' v e := by
  obtain ⟨t, l, vs, e, h1, h2, h3⟩ := h
  exact ⟨t, l, vs, e, s _ _ h1, s _ _ h2, h3.imp fun _ _ h => h.mono s⟩
theorem stp_hidL {H : Hp} {D : Addr} {xs : List V} (e : H D = some (.lst xs)) {v : V} {s : Stp} (h : IsStp H v s) : IsStp (hid D H) v s := by
  obtain ⟨t, wa, e1, h1, h2⟩ := h
  exact ⟨t, wa, e1, hid_no ⟨xs, e⟩ h1 (fun _ => nofun), hid_no ⟨xs, e⟩ h2 (fun _ => nofun)⟩
theorem mk_machF {C : Addr} {H1 : Hp} {m : Nat} {v : V} {ss : List Stp} {E : XK} {Q : Addr → Hp → Prop} (hv : IsStps H1 v ss) (ok : StpsOk m ss) (q : ∀ H' x dx r svs out, Same H1 H' → H1 x = none → H1 r = none → H' x = some (.ins C dx (mflds m r)) → H' r = some (.lst svs) → AllAre (IsStp H') svs out → SortedOf ss out → Q x H') :
    ∀ x dx, H1 x = none → H1 dx = none → dx ≠ x → spMach C [.ref x, .int m, v] (upd (upd H1 dx (.own x)) x (.ins C dx [])) (fun u H2 => u = .non ∧ Q x H2) E := by
  intro x dx nx nd ne
  have s0 : Same H1 (upd H1 dx (.own x)) := same_upd nd
  have s1 : Same H1 (upd (upd H1 dx (.own x)) x (.ins C dx [])) := s0.trans (same_upd (by rw [upd_ne (Ne.symm ne)]; exact nx))
  refine ⟨x, dx, m, v, ss, rfl, upd_same, hv.mono s1, ok, fun H' r svs out keep hp nr hr av so => ⟨rfl, q H' x dx r svs out (fun a o e => keep a o (s1 _ _ e) (ne_of_none e nx)) nx ?_ hp hr av so⟩⟩
  cases e : H1 r with
  | none => rfl
  | some o =>
    rw [s1 _ _ e] at nr
    cases nr
theorem noT_ex {H H' : Hp} (s : Same (noT H) H') : ExtN H H' := fun b o h n => s b o (noT_at h n)
theorem IsRowT.noT {H : Hp} {v : V} {e : Mo} (h : IsRowT H v e) : IsRowT (noT H) v e := by
  obtain ⟨t, l, vs, e, h1, h2, h3⟩ := h
  exact ⟨t, l, vs, e, noT_tup h1, noT_lst h2, h3.imp fun _ _ h => h.noT⟩
theorem strs_are {ys : List V} {l : List Str} (h : AllAre (fun y z => y = V.str z) ys l) : ys = l.map V.str := by
  refine List.ext_getElem? fun i => ?_
  rw [List.getElem?_map]
  cases hy : ys[i]? with
  | none =>
    have := List.getElem?_eq_none_iff.mp hy
    rw [List.getElem?_eq_none (by have := h.1; omega)]
    rfl
  | some y =>
    obtain ⟨x, hx, e⟩ := h.at hy
    rw [hx, e]
    rfl
theorem gd_strs {sm : List Str} (h : ∀ z ∈ sm, NmOk z) (l : sm.length ≤ 5) : GD 1 45 (.list (sm.map PyData.str)) :=
  (GD.list (n := 0) (w := 8) (k := 5) (fun d hd => by
    obtain ⟨z, hz, rfl⟩ := List.mem_map.mp hd
    exact gd_str (h z hz)) (by rw [List.length_map]; exact l)).mono (by decide) (by decide)
theorem dpAll_strs {H : Hp} : ∀ zs : List Str, DpAll K H (zs.map V.str) (zs.map PyData.str)
  | [] => .nil
  | z :: zs => .cons (.str z) (dpAll_strs zs)
def keptD (o1 o2 : List Stp) (sm : List Str) : PyData := .tuple [.list (o1.map stpD), .list (o2.map stpD), .list (sm.map PyData.str)]
theorem gd_kept {m1 m2 : Nat} {o1 o2 : List Stp} {sm : List Str} (k1 : StpsOk m1 o1) (k2 : StpsOk m2 o2) (w1 : ∀ s ∈ o1, ∀ n ∈ s.ws, n < 2 ^ 38) (w2 : ∀ s ∈ o2, ∀ n ∈ s.ws, n < 2 ^ 38) (h : ∀ z ∈ sm, NmOk z) (l : sm.length ≤ 5) : GD 4 (3 * (60 * 1501 + 1)) (keptD o1 o2 sm) :=
  GD.tup (n := 3) (w := 60 * 1501) (k := 3) (fun d hd => by
    rcases (by simpa using hd : d = .list (o1.map stpD) ∨ d = .list (o2.map stpD) ∨ d = .list (sm.map PyData.str)) with rfl | rfl | rfl
    · exact gd_stps k1 w1
    · exact gd_stps k2 w2
    · exact (gd_strs h l).mono (by decide) (by decide)) (Nat.le_refl _)
theorem four_of {i : Nat} {x : V} (h : [V.int 2, V.int 3, V.int 4, V.int 5][i]? = some x) : ∃ m : Nat, x = .int (m : Int) ∧ 1 ≤ m ∧ m ≤ 12 := by
  have := List.mem_of_getElem? h
  rcases (by simpa using this : x = .int 2 ∨ x = .int 3 ∨ x = .int 4 ∨ x = .int 5) with rfl | rfl | rfl | rfl
  · exact ⟨2, rfl, by decide, by decide⟩
  · exact ⟨3, rfl, by decide, by decide⟩
  · exact ⟨4, rfl, by decide, by decide⟩
  · exact ⟨5, rfl, by decide, by decide⟩
theorem none_new {k : Nat} {zs : List Str} (h : NmsOk k zs) : ("none" : Str) ∉ zs := fun hm => by
  rcases h.src _ hm with e | ⟨c, hc, e⟩
  · exact absurd e (by decide +kernel)
  · have : ("none" : Str).cps.toList.getLast? = some 101 := by decide +kernel
    rw [this] at e
    cases e
    exact absurd hc (by decide +kernel)
theorem none_nm : NmOk ("none" : Str) := nmOk_of (by decide +kernel)
theorem strs_mem {zs : List Str} {i : Nat} {x : V} (h : (zs.map V.str)[i]? = some x) : ∃ z, z ∈ zs ∧ x = .str z := by
  rw [List.getElem?_map] at h
  obtain ⟨z, hz, rfl⟩ := Option.map_eq_some_iff.mp h
  exact ⟨z, List.mem_of_getElem? hz, rfl⟩
theorem IsTold.noT {H : Hp} {v : V} {n : Nat} {out : List Stp} (h : IsTold H v n out) : IsTold (noT H) v n out := by
  obtain ⟨t, r, svs, e, h1, h2, h3⟩ := h
  exact ⟨t, r, svs, e, noT_tup h1, noT_lst h2, h3.imp fun _ _ h => h.noT⟩
theorem Said1.noT {G : Thing → List GRow} {H : Hp} {v : V} (h : Said1 G H v) : Said1 G (noT H) v := by
  rcases h with ⟨a, t, e, h⟩ | ⟨m, out, a, so, h⟩
  · exact .inl ⟨a, t, e, noT_tup h⟩
  · exact .inr ⟨m, out, a, so, h.noT⟩
/-- the first two of what is said -/
def Sh2 (G : Thing → List GRow) (H : Hp) (v : V) : Prop := (ManyW G (0, 0) ∧ ∃ t, v = .ref t ∧ H t = some (.tup [.str "many"])) ∨ ∃ m t, AllW G (0, 0) m ∧ v = .ref t ∧ H t = some (.tup [.str "told", .int (m : Nat)])
theorem Sh2.mono {G : Thing → List GRow} {H H' : Hp} {v : V} (h : Sh2 G H v) (s : Same H H') : Sh2 G H' v := by
  rcases h with ⟨a, t, e, h⟩ | ⟨m, t, a, e, h⟩
  · exact .inl ⟨a, t, e, s _ _ h⟩
  · exact .inr ⟨m, t, a, e, s _ _ h⟩
theorem sl2 {G : Thing → List GRow} {H : Hp} {v : V} {Q : VK} (h : Said1 G H v) (q : ∀ H' v', Same H H' → Sh2 G H' v' → Q v' H') : rSlA K v none (some 2) H Q := by
  rcases h with ⟨a, t, rfl, h⟩ | ⟨m, out, a, so, t, r, svs, rfl, h, _⟩
  · exact ⟨t, _, rfl, .inl (.inl h), fun _ => q H _ (Same.refl _) (.inl ⟨a, t, rfl, h⟩), fun nf => absurd ⟨rfl, rfl⟩ nf⟩
  · refine ⟨t, _, rfl, .inl (.inl h), fun f => absurd f.2 (by show ¬ (2 = 3); decide), fun _ p np => q _ _ (same_upd np) (.inr ⟨m, p, a, rfl, upd_same⟩)⟩
theorem two_sh (m : Nat) : SeqAt.shaped (.tuple [.str "told", .int (m : Nat)]) = true := by
  unfold SeqAt.shaped
  rw [Bool.and_eq_true]
  exact ⟨by simp [PyData.canLay0, PyData.canLayAll0, told_ok], decide_eq_true (by simp [PyData.depth, PyData.depthAll])⟩
theorem sh2_ne {G G' : Thing → List GRow} {H : Hp} {x y : V} {Q : VK} (sa : ∀ m, AllW G (0, 0) m → AllW G' (0, 0) m) (sm : ManyW G (0, 0) → ManyW G' (0, 0)) (hx : Sh2 G H x) (hy : Sh2 G' H y) (q : Q (.bl false) H) : rNeD K x y H Q := by
  rcases hx with ⟨a, t, rfl, h⟩ | ⟨m, t, a, rfl, h⟩
  · rcases hy with ⟨a', t', rfl, h'⟩ | ⟨m', t', a', rfl, h'⟩
    · exact ne_many h h' q
    · exact (many_all (sm a) a').elim
  · rcases hy with ⟨a', t', rfl, h'⟩ | ⟨m', t', a', rfl, h'⟩
    · exact (many_all a' (sa m a)).elim
    · obtain rfl := all_uniq (sa m a) a'
      refine ⟨_, _, .tup (.inl (.inl h)) (.cons (.str _) (.cons (.int _) .nil)), .tup (.inl (.inl h')) (.cons (.str _) (.cons (.int _) .nil)), two_sh m, two_sh m, ?_⟩
      rw [SeqAt.eqv_refl _ (SeqAt.canLay_of_shaped (two_sh m))]
      exact q
set_option maxHeartbeats 3200000 in
theorem ok_l_right (T : Txt K mg) {c tp c2 tp2 : Addr} (hc : T.d_l_right.code = .ref c) (TB : TabB base mg c tp) (hc2 : T.d_p_beside.code = .ref c2) (TB2 : TabB base mg c2 tp2) (ne : tp ≠ tp2) : FnOkG P w K mg base CX0 15 T.f_l_right T.d_l_right ["_law_well_here"] (spRight tp tp2) := by
  refine Fb.Fun.okGC T.F_l_right hc sc_l_right (fun vs H Q E h => ?_) (fun A outer s H vs Q E gd hr h => ?_)
  · obtain ⟨a, rfl, _⟩ := h
    rfl
  · obtain ⟨a, rfl, hw, tb, q⟩ := h
    refine ⟨_, (pss_cons (ps_set (i := 1) sc_l_right.nd rfl (.inl rfl) (pe_call (ok_l_names T) (hr.mono (by decide)) (by rfl) T.g_l_names T.F_l_names.kp T.b_l_names .nil pass0 (pa_cons (pv 0) (pa_cons pe_int pa_nil))))
 (pss_cons (ps_set (i := 2) sc_l_right.nd rfl (.inl rfl) (pe_lst pa_nil))
 (pss_cons (ps_for PassesOwn.never rfl (pi_range1 (by rfl) T.z_range (pa_cons pe_int pa_nil)) (pg_name (i := 3) sc_l_right.nd rfl (.inl rfl))
  (pss_cons (ps_set (i := 4) sc_l_right.nd rfl (.inr rfl) (pe_lst (pa_cons (pe_call (ok_l_one T) (hr.mono (by decide)) (by rfl) T.g_l_one T.F_l_one.kp T.b_l_one .nil pass0 (pa_cons (pv 0) (pa_cons (pv 1) pa_nil))) (pa_cons (pe_call (ok_l_one T) (hr.mono (by decide)) (by rfl) T.g_l_one T.F_l_one.kp T.b_l_one .nil pass0 (pa_cons (pv 0) (pa_cons (pv 1) pa_nil))) (pa_cons (pe_ix ix_list (pv 1) (pv 3) (fun _ _ => rfl)) pa_nil)))))
 (pss_cons (ps_set (i := 4) sc_l_right.nd rfl (.inr rfl) (pe_slice sl_list (pe_lc (own := [("_law_name", 11)]) (g := (gName 11)) (tt := _) (by rfl) sc_l_right.nd (pi_list (pv 1)) (blkOk_by (own := [("_law_name", 11)]) (N := ["_law_well_here", "_law_names_here", "_law_rows", "_law_k", "_law_signs", "_law_shared", "_law_first", "_law_second", "_law_kept", "_law_due_here", "_law_turn", "_law_name", "_law_many", "_law_steps"]) (sc := defScope s_l_right) (by decide +kernel)) (fun _ _ _ _ _ => by exact (pg_name (i := 11) sc_l_right.nd rfl (.inl rfl))) (fun _ _ _ _ _ => by exact (pts_one (pt_cmpR (op_in_seqK (K := K) rfl) (pv 11) (pv 4) (by with_unfolding_all rfl)))) (fun _ _ _ _ _ => by exact (pv 11))) po_none (po_some (pe_op op_add pe_int (pe_call (ok_l_draw T) (hr.mono (by decide)) (by rfl) T.g_l_draw T.F_l_draw.kp T.b_l_draw .nil pass0 (pa_cons (pv 0) (pa_cons pe_int pa_nil)))))))
 (pss_one (ps_expr (pe_bm PySem.F.plainAttrs_list PySem.F.slot_list_append PySem.F.type_list_append mt_append (pv 2) (pa_cons (pe_call (ok_l_machine T) (hr.mono (by decide)) (by rfl) T.g_l_machine T.F_l_machine.kp T.b_l_machine .nil pass0 (pa_cons (pv 0) (pa_cons (pv 4) (pa_cons (pe_call (ok_l_one T) (hr.mono (by decide)) (by rfl) T.g_l_one T.F_l_one.kp T.b_l_one .nil pass0 (pa_cons (pv 0) (pa_cons (pe_lst (pa_cons pe_int (pa_cons pe_int (pa_cons pe_int (pa_cons pe_int pa_nil))))) pa_nil))) pa_nil)))) pa_nil)))))))
 (pss_cons (ps_set (i := 5) sc_l_right.nd rfl (.inr rfl) (pe_lc (own := [("_law_name", 11)]) (g := (gName 11)) (tt := _) (by rfl) sc_l_right.nd (pi_list (pv 1)) (blkOk_by (own := [("_law_name", 11)]) (N := ["_law_well_here", "_law_names_here", "_law_rows", "_law_k", "_law_signs", "_law_shared", "_law_first", "_law_second", "_law_kept", "_law_due_here", "_law_turn", "_law_name", "_law_many", "_law_steps"]) (sc := defScope s_l_right) (by decide +kernel)) (fun _ _ _ _ _ => by exact (pg_name (i := 11) sc_l_right.nd rfl (.inl rfl))) (fun _ _ _ _ _ => by exact (pts_one (pt_cmpR op_eq (pe_call (ok_l_draw T) (hr.mono (by decide)) (by rfl) T.g_l_draw T.F_l_draw.kp T.b_l_draw .nil pass0 (pa_cons (pv 0) (pa_cons pe_int pa_nil))) pe_int (nomark _)))) (fun _ _ _ _ _ => by exact (pv 11))))
 (pss_cons (ps_if (pt_cmpR op_eq (pe_call (ok_l_draw T) (hr.mono (by decide)) (by rfl) T.g_l_draw T.F_l_draw.kp T.b_l_draw .nil pass0 (pa_cons (pv 0) (pa_cons pe_int pa_nil))) pe_int (nomark _))
  (pss_one (ps_set (i := 5) sc_l_right.nd rfl (.inr rfl) (pe_op op_cat (pe_revL (pv 5)) (pe_op op_rep (pe_lst (pa_cons pe_str pa_nil)) (pe_call (ok_l_draw T) (hr.mono (by decide)) (by rfl) T.g_l_draw T.F_l_draw.kp T.b_l_draw .nil pass0 (pa_cons (pv 0) (pa_cons pe_int pa_nil)))))))
  pss_nil)
 (pss_cons (ps_asg (pe_lc (own := [("_law_many", 12), ("_law_steps", 13)]) (g := (gTup K 2 (gCons (gName 12) (gCons (gName 13) gNil)))) (tt := tYes) (by rfl) sc_l_right.nd (pi_list (pv 2)) (blkOk_by (own := [("_law_many", 12), ("_law_steps", 13)]) (N := ["_law_well_here", "_law_names_here", "_law_rows", "_law_k", "_law_signs", "_law_shared", "_law_first", "_law_second", "_law_kept", "_law_due_here", "_law_turn", "_law_name", "_law_many", "_law_steps"]) (sc := defScope s_l_right) (by decide +kernel)) (fun _ _ _ _ _ => by exact (pg_tup (by rfl) (pgs_cons (pg_name (i := 12) sc_l_right.nd rfl (.inl rfl)) (pgs_cons (pg_name (i := 13) sc_l_right.nd rfl (.inl rfl)) pgs_nil)))) (fun _ _ _ _ _ => by exact pts_nil) (fun _ _ _ _ _ => by exact (pe_make T.M_Machine (ok_m_Machine_init T) (hr.mono (by decide)) (by rfl) T.g_Machine T.b_m_Machine_init .nil pass0 (pa_cons (pv 12) (pa_cons (pe_callTy (call_list_ofK (K := K) rfl) (by rfl) T.z_list (by decide +kernel) (pa_cons (pv 13) pa_nil)) pa_nil))))) (pg_lst (by rfl) (pgs_cons (pg_name (i := 6) sc_l_right.nd rfl (.inr rfl)) (pgs_cons (pg_name (i := 7) sc_l_right.nd rfl (.inr rfl)) pgs_nil))))
 (pss_cons (ps_set (i := 8) sc_l_right.nd rfl (.inl rfl) (pe_callB (call_repr gd (un64 hr)) (by rfl) T.z_repr (by decide +kernel) (pa_cons (pe_tup (pa_cons (pe_fld (pv 6) rfl) (pa_cons (pe_fld (pv 7) rfl) (pa_cons (pv 5) pa_nil)))) pa_nil)))
 (pss_cons (ps_set (i := 9) sc_l_right.nd rfl (.inl rfl) (pe_call (ok_l_due T) (hr.mono (by decide)) (by rfl) T.g_l_due T.F_l_due.kp T.b_l_due .nil pass0 (pa_cons (pv 5) (pa_cons (pe_ix ix_tup (pe_ix ix_list (pv 2) pe_int (fun _ _ => rfl)) pe_int (fun _ _ => rfl)) (pa_cons (pe_ix ix_tup (pe_ix ix_list (pv 2) pe_int (fun _ _ => rfl)) pe_int (fun _ _ => rfl)) pa_nil)))))
 (pss_cons (ps_for PassesOwn.never rfl (pi_range1 (by rfl) T.z_range (pa_cons pe_int pa_nil)) (pg_name (i := 10) sc_l_right.nd rfl (.inl rfl))
  (pss_cons (ps_if (pt_cmpR (op_neD hr.units) (pe_saidM T (TT := TTs tp tp2) hr TB rfl (by rfl) List.mem_cons_self (tts_lam ne) (lamS_by (sc := defScope s_l_right) (by decide +kernel)) rfl (fun _ _ _ _ _ => rfl) (fun A outer s H E f c' hr2 => (pe_call (ok_p_beside T hc2 TB2) (hr2.mono (by decide)) (by rfl) T.g_p_beside T.F_p_beside.kp T.b_p_beside .nil (passes_call (takes_of rfl rfl rfl rfl) (fun _ _ _ _ h => h)) (pa_cons (pv 5) (pa_cons (pv 6) (pa_cons (pv 7) pa_nil)))))) (pv 9) (nomark _))
  (pss_one (ps_ret pe_bl))
  pss_nil)
 (pss_cons (ps_if (pt_cmpR (op_neD hr.units) (pe_slice sl_tupA (pe_saidM T (TT := TTs tp tp2) hr TB rfl (by rfl) List.mem_cons_self (tts_lam ne) (lamS_by (sc := defScope s_l_right) (by decide +kernel)) rfl (fun _ _ _ _ _ => rfl) (fun A outer s H E f c' hr2 => (pe_call (ok_p_beside T hc2 TB2) (hr2.mono (by decide)) (by rfl) T.g_p_beside T.F_p_beside.kp T.b_p_beside .nil (passes_call (takes_of rfl rfl rfl rfl) (fun _ _ _ _ h => h)) (pa_cons (pv 5) (pa_cons (pv 7) (pa_cons (pv 6) pa_nil)))))) po_none (po_some pe_int)) (pe_slice sl_tupA (pv 9) po_none (po_some pe_int)) (nomark _))
  (pss_one (ps_ret pe_bl))
  pss_nil)
 (pss_one (ps_if (pt_cmpR (op_neD hr.units) (pe_saidM T (TT := TTs tp tp2) hr TB rfl (by rfl) List.mem_cons_self (tts_lam ne) (lamS_by (sc := defScope s_l_right) (by decide +kernel)) rfl (fun _ _ _ _ _ => rfl) (fun A outer s H E f c' hr2 => (pe_call (ok_p_beside T hc2 TB2) (hr2.mono (by decide)) (by rfl) T.g_p_beside T.F_p_beside.kp T.b_p_beside .nil (passes_call (takes_of rfl rfl rfl rfl) (fun _ _ _ _ h => h)) (pa_cons (pv 5) (pa_cons (pv 6) (pa_cons (pv 6) pa_nil)))))) (pe_call (ok_l_due T) (hr.mono (by decide)) (by rfl) T.g_l_due T.F_l_due.kp T.b_l_due .nil pass0 (pa_cons (pv 5) (pa_cons (pe_ix ix_tup (pe_ix ix_list (pv 2) pe_int (fun _ _ => rfl)) pe_int (fun _ _ => rfl)) (pa_cons (pe_ix ix_tup (pe_ix ix_list (pv 2) pe_int (fun _ _ => rfl)) pe_int (fun _ _ => rfl)) pa_nil)))) (nomark _))
  (pss_one (ps_ret pe_bl))
  pss_nil)))))
 (pss_one (ps_ret (pe_cmpR op_eq (pe_callB (call_repr gd (un64 hr)) (by rfl) T.z_repr (by decide +kernel) (pa_cons (pe_tup (pa_cons (pe_fld (pv 6) rfl) (pa_cons (pe_fld (pv 7) rfl) (pa_cons (pv 5) pa_nil)))) pa_nil)) (pv 8) (nomark _))))))))))))), ?_⟩
    have w0 := hw.mono (show 9000 ≤ 1099511627776 by decide)
    -- the names
    refine ⟨_, rfl, a, 4, 8900, rfl, by decide, w0.mono (by decide), fun H2 pn zs npn s2 w2 epn nok => ?_⟩
    have pna := w0.ne npn
    refine ⟨Nat.zero_le _, fun rl nrl => ?_⟩
    have rla := w2.ne nrl
    have s0 : Same (hid a H) (hid rl (hid a H2)) := fun b o e => by
      have e' := s2 b o e
      rw [hid_ne (fun z => by rw [z, hid_ne rla, nrl] at e'; cases e')]
      exact e'
    have e0 : hid rl (hid a H2) pn = some (.lst (zs.map V.str)) := by
      rw [hid_ne (fun z => by rw [z, nrl] at epn; cases epn), hid_ne pna]
      exact epn
    have w3 := w2.same (same_upd (o := .lst []) nrl)
    have erl := @upd_same H2 rl (.lst [])
    have hrl : hid rl (hid a (upd H2 rl (.lst []))) = hid rl (hid a H2) := by rw [hid_updN rla, hid_upd]
    generalize upd H2 rl (.lst []) = H3 at *
    generalize hB : hid rl (hid a H2) = B at *
    clear s2 w2 npn nrl epn w0 hB
    refine ⟨2, rfl, by decide, by decide, for_range (lo := 0) (n := (2 : Int).toNat) (fun j σ F => ∃ (y3 y4 : Option V) (vs : List V) (L : List Mo), σ = [some (.ref a), some (.ref pn), some (.ref rl), y3, y4, none, none, none, none, none, none, none, none, none] ∧ Same B (hid rl (hid a F)) ∧ WellAt F a (8800 - 1400 * j) ∧ F rl = some (.lst vs) ∧ AllAre (IsRowT (hid rl (hid a F))) vs L ∧ L.length = j ∧ ∀ e ∈ L, 1 ≤ e.1 ∧ e.1 ≤ 12 ∧ ∃ (k : Nat) (ys : List Str), k ≤ 3 ∧ NmsOk k ys ∧ (∀ y ∈ ys, y ∈ zs) ∧ DS e.1 ys e.1 0 e.2) ⟨_, _, [], [], rfl, by rw [hrl]; exact Same.refl _, w3.mono (by omega), erl, .nil, rfl, fun _ h => by cases h⟩ (fun j σ F hj h => ?_) (fun σ F h => ?_)⟩
    · obtain ⟨y3, y4, vs, L, rfl, sF, wF, eF, aF, lF, dF⟩ := h
      have hj : j < 2 := hj
      obtain ⟨n, en⟩ : ∃ n, n = 8800 - 1400 * (j + 1) := ⟨_, rfl⟩
      have wF := wF.mono (show n + 1204 ≤ _ by omega)
      have epF : (hid a F) pn = some (.lst (zs.map V.str)) := hid_same _ _ (sF _ _ e0)
      have lzs : zs.length = 4 := nok.len
      refine ⟨_, rfl, _, rfl, a, pn, zs.map V.str, n + 1203, rfl, wF, SqL.of epF, by rw [List.length_map]; omega, by rw [List.length_map]; omega, fun i1 x1 G1 hx1 t1 w1 => ?_⟩
      obtain ⟨z1, hz1, rfl⟩ := strs_mem hx1
      refine ⟨_, rfl, _, rfl, a, pn, zs.map V.str, n + 1202, rfl, w1, SqL.of (t1 _ _ epF), by rw [List.length_map]; omega, by rw [List.length_map]; omega, fun i2 x2 G2 hx2 t2 w2 => ?_⟩
      obtain ⟨z2, hz2, rfl⟩ := strs_mem hx2
      have t12 := t1.trans t2
      have ep2 := t12 _ _ epF
      obtain ⟨z3, hz3⟩ : ∃ z3, zs[j]? = some z3 := ⟨_, List.getElem?_eq_getElem (by omega)⟩
      refine ⟨_, rfl, _, rfl, pn, _, _, .str z3, rfl, rfl, SqL.of (hid_same _ _ ep2), by rw [Int.zero_add]; exact atI_nat (by rw [List.getElem?_map, hz3]; rfl), at_nil ⟨by show 3 ≤ sizeLine; decide, fun q3 nq3 => ?_⟩⟩
      obtain ⟨w3, t3⟩ := well_new (o := .lst [.str z1, .str z2, .str z3]) w2 nq3
      have e3 := @upd_same G2 q3 (.lst [.str z1, .str z2, .str z3])
      have q3a := w2.ne nq3
      have t13 := t12.trans t3
      generalize upd G2 q3 (.lst [.str z1, .str z2, .str z3]) = G3 at *
      have ep3 := hid_same _ _ (t13 _ _ epF)
      refine ⟨_, rfl, pn, rfl, ⟨_, SqL.of ep3⟩, fun D nD => lc_filtW (walk_list (K := K) (a := pn) (xs := zs.map V.str)) (fun i => (zs[i]?).any fun s => decide (s ∈ [z1, z2, z3])) (fun i y _ => ∃ s, zs[i]? = some s ∧ y = .str s) (fun _ _ _ _ _ h => h) nD (fun H' s => SqL.of (s _ _ ep3)) (by rw [List.length_map]; omega) (fun i x G4 G5 kt kf hi s4 eD y hkt hkf => ?_) (fun G4 ys s4 e4 a4 => ?_)⟩
      · obtain ⟨rfl, hx⟩ := y
        rw [List.getElem?_map] at hx
        obtain ⟨z, hz, rfl⟩ := Option.map_eq_some_iff.mp hx
        simp only [hz, Option.any_some] at hkt hkf
        refine ⟨rfl, _, rfl, _, rfl, q3, [z1, z2, z3].map V.str, rfl, .inl (SqL.of (hid_same _ _ (s4 _ _ e3))), rfl, flat_strs _, _, rfl, ?_⟩
        rw [if_neg (by decide), inV_strs]
        by_cases c : z ∈ [z1, z2, z3]
        · rw [decide_eq_true c] at hkt ⊢
          exact iteT ⟨_, rfl, hkt rfl _ _ (Same.refl _) ⟨z, rfl, rfl⟩⟩
        · rw [decide_eq_false c] at hkf ⊢
          exact iteF (hkf rfl _ (Same.refl _))
      rw [List.length_map] at a4
      have h1 := filt_are (R := fun y s => y = V.str s) (p := fun s => decide (s ∈ [z1, z2, z3])) zs.length ys (Nat.le_refl _) a4
      rw [List.take_length] at h1
      obtain ⟨fl, efl⟩ : ∃ fl, fl = zs.filter fun s => decide (s ∈ [z1, z2, z3]) := ⟨_, rfl⟩
      rw [← efl] at h1
      obtain rfl := strs_are h1
      have flp : 1 ≤ fl.length := by
        have : z3 ∈ fl := by
          rw [efl]
          exact List.mem_filter.mpr ⟨List.mem_of_getElem? hz3, decide_eq_true (by simp)⟩
        exact List.length_pos_of_mem this
      have flz : fl.Sublist zs := by rw [efl]; exact List.filter_sublist
      have Da := w3.ne nD
      have t14 := t13.trans (hid_mono (a := a) (s4.trans (hid_same (a := D))))
      have w4 := w3.same (s4.trans (hid_same (a := D)))
      clear h1 a4 efl s4 nD nq3 t1 t2 t12 t3 t13
      refine ⟨_, rfl, a, 3, n + 1201, rfl, w4, by decide, by decide, fun d G5 d0' d1' t5 w5 => ⟨_, _, rfl, rfl, ?_⟩⟩
      obtain ⟨k, hk, k1, k3⟩ : ∃ k : Nat, 1 + d = (k : Int) ∧ 1 ≤ k ∧ k ≤ 3 := ⟨(1 + d).toNat, by omega, by omega, by omega⟩
      dsimp only
      rw [hk]
      have e5 := hid_same _ _ (t5 _ _ (show (hid a G4) D = some (.lst (fl.map V.str)) by rw [hid_ne Da]; exact e4))
      refine ⟨_, rfl, D, _, rfl, SqL.of e5, fun q5 nq5 => ?_⟩
      rw [cut_toS]
      obtain ⟨ys, eys⟩ : ∃ ys, ys = fl.take k := ⟨_, rfl⟩
      rw [← eys]
      have ysz : ys.Sublist zs := by rw [eys]; exact (List.take_sublist _ _).trans flz
      have nok' : NmsOk ys.length ys := ⟨rfl, ysz.nodup nok.nd, fun z hz => nok.all z (ysz.subset hz), fun z hz => nok.src z (ysz.subset hz)⟩
      have yl : 1 ≤ ys.length ∧ ys.length ≤ 3 := by rw [eys, List.length_take]; omega
      clear eys
      obtain ⟨w6, t6⟩ := well_new (o := .lst (ys.map V.str)) w5 nq5
      have q5a := w5.ne nq5
      have e6 := @upd_same G5 q5 (.lst (ys.map V.str))
      have t16 := t14.trans (t5.trans t6)
      generalize upd G5 q5 (.lst (ys.map V.str)) = G6 at *
      have eFa : (hid a F) rl = some (.lst vs) := by rw [hid_ne rla]; exact eF
      have eR6 := hid_same _ _ (t16 _ _ eFa)
      clear t14 t5 t6 w4 w5 e4 e5 nq5 ep2 ep3 e3
      refine ⟨_, rfl, .inl ⟨rfl, _, SqL.of eR6⟩, _, rfl, _, rfl, _, rfl, by show 4 ≤ sizeLine; decide, fun q1 nq1 => ?_⟩
      obtain ⟨w7, t7⟩ := well_new (o := .lst [.int 2, .int 3, .int 4, .int 5]) w6 nq1
      refine ⟨a, q1, [.int 2, .int 3, .int 4, .int 5], n + 1200, rfl, w7, sqL_hid w6 nq1, by decide, by decide, fun i3 x3 G8 hx3 t8 w8 => ?_⟩
      obtain ⟨mx, rfl, mx1, mx12⟩ := four_of hx3
      have t78 := t7.trans t8
      have e8 : G8 q5 = some (.lst (ys.map V.str)) := hid_same _ _ (t78 _ _ (show (hid a G6) q5 = _ by rw [hid_ne q5a]; exact e6))
      refine ⟨a, q5, ys, ys.length, mx, n, rfl, mx1, mx12, yl.1, by omega, nok', q5a, e8, w8, fun H7 u1 l1 m vs1 ss t9 w9 m1 m12 et1 nt1 nl1 el1 av1 dr1 => ?_⟩
      have l1a := w8.ne nl1
      have tA := t16.trans (t78.trans t9)
      have e7a := tA _ _ eFa
      have e7 := hid_same _ _ e7a
      have l1r : l1 ≠ rl := fun z => by rw [z, hid_same _ _ ((t16.trans t78) _ _ eFa)] at nl1; cases nl1
      have lv : vs.length = j := by rw [aF.1, lF]
      refine at_nil ⟨rl, vs, _, rfl, rfl, e7, small1000 (by omega), ?_⟩
      have hu : hid rl (hid a (upd H7 rl (.lst (vs ++ [.ref u1])))) = hid rl (hid a H7) := by rw [hid_updN rla, hid_upd]
      refine ⟨_, _, vs ++ [.ref u1], L ++ [(m, ss)], rfl, ?_, ?_, upd_same, ?_, by rw [List.length_append, lF]; rfl, fun e he => ?_⟩
      · rw [hu]
        exact sF.trans (hid_mono tA)
      · rw [← en]
        exact w9.upd rla
      · rw [hu]
        refine AllAre.snoc (aF.imp fun _ _ h => h.mono (hid_mono tA)) ⟨u1, l1, vs1, rfl, hid_no ⟨_, e7a⟩ (hid_keep w9 et1 (fun _ => nofun)) (fun _ => nofun), by rw [hid_ne l1r, hid_ne l1a]; exact el1, av1.imp fun _ _ h => stp_hidL e7a (IsStp.hidW w9 h)⟩
      · rcases List.mem_append.mp he with he | he
        · exact dF e he
        · rw [List.mem_singleton.mp he]
          exact ⟨m1, by omega, ys.length, ys, yl.2, nok', fun y hy => ysz.subset hy, dr1⟩
    · obtain ⟨y3, y4, vs, L, rfl, sF, wF, eF, aF, lF, dF⟩ := h
      have lF : L.length = 2 := lF
      have wF := wF.mono (show 5990 ≤ _ by show _ ≤ 8800 - 1400 * 2; decide)
      obtain ⟨⟨m1, ss1⟩, ⟨m2, ss2⟩, rfl⟩ : ∃ e1 e2, L = [e1, e2] := by
        match L, lF with
        | [e1, e2], _ => exact ⟨e1, e2, rfl⟩
      obtain ⟨m11, m112, k1, ys1, k13, nok1, in1, ds1⟩ := dF _ List.mem_cons_self
      obtain ⟨m21, m212, k2, ys2, k23, nok2, in2, ds2⟩ := dF _ (List.mem_cons_of_mem _ List.mem_cons_self)
      have s0F := s0.trans (sF.trans hid_same)
      have eFa : (hid a F) rl = some (.lst vs) := by rw [hid_ne rla]; exact eF
      have aFa := aF.imp fun _ _ h => h.mono hid_same
      have epn := hid_same _ _ (sF _ _ e0)
      have lzs : zs.length = 4 := nok.len
      clear sF eF aF s0 e0 hrl erl w3 lF dF
      -- the signs shared
      refine ⟨_, rfl, pn, rfl, ⟨_, SqL.of (hid_same _ _ epn)⟩, fun D nD => lc_drawF (K := K) (a := a) (b := pn) (zs := zs) 5900 nD (wF.mono (by omega)) (by omega) epn (fun z H3 m' kt kf hz w3 s3 hkt hkf => ?_) (fun F1 L s11 w11 e11 sub => ?_)⟩
      · exact ⟨rfl, _, rfl, a, 2, m', rfl, w3, by decide, by decide, fun d H4 d0 d1 s4 w4 => ⟨rfl, _, rfl, ite2 (fun _ => ⟨_, rfl, hkt H4 s4 w4⟩) (fun _ => hkf H4 s4 w4)⟩⟩
      have Da := wF.ne nD
      have s1 : Same (hid a F) (hid a F1) := s11.trans hid_same
      have eD : (hid a F1) D = some (.lst (L.map V.str)) := by rw [hid_ne Da]; exact e11
      have ndL : L.Nodup := sub.nodup nok.nd
      have okL : ∀ z ∈ L, NmOk z := fun z hz => nok.all z (sub.subset hz)
      have nnL : ("none" : Str) ∉ L := fun h => none_new nok (sub.subset h)
      have lL : L.length ≤ 4 := by rw [← lzs]; exact sub.length_le
      clear s11 e11 nD sub
      let C : L2.St → Hp → Prop := fun σ F2 => ∃ (S : Addr) (sm : List Str), σ = [some (.ref a), some (.ref pn), some (.ref rl), y3, y4, some (.ref S), none, none, none, none, none, none, none, none] ∧ Same (hid a F) (hid a F2) ∧ WellAt F2 a 5800 ∧ (hid a F2) S = some (.lst (sm.map V.str)) ∧ sm.Nodup ∧ (∀ z ∈ sm, NmOk z) ∧ sm.length ≤ 5
      refine at_name (nx_tseq ?_)
      refine if_join (C := C) (fun σ F2 hC => ?_) (fun Nx hNx => ?_)
      · obtain ⟨S, sm, rfl, s2, w2, eS, ndS, okS, lS⟩ := hC
        have er := hid_same _ _ (s2 _ _ eFa)
        have ar := aFa.imp fun _ _ h => (h.mono s2).mono hid_same
        have lv : vs.length = 2 := ar.1
        have s02 := s0F.trans s2
        have eS2 := hid_same _ _ eS
        have sok1 := (ds1.sums nok1 (by omega) m11 m112).1
        have sok2 := (ds2.sums nok2 (by omega) m21 m212).1
        clear s1 eD eS s2 eFa aFa s0F epn
        -- the machines
        refine ⟨_, rfl, rl, rfl, ⟨_, SqL.of er⟩, fun D nD => lc_allW (walk_list (K := K) (a := rl) (xs := vs)) (fun i y G => ∃ e out, ([(m1, ss1), (m2, ss2)] : List Mo)[i]? = some e ∧ IsMach T.c_Machine G y e.1 out ∧ SortedOf e.2 out) (fun _ _ _ _ s ⟨e, o, a, b, c⟩ => ⟨e, o, a, b.mono s, c⟩) nD (fun H' s => SqL.of (s _ _ er)) (by omega) (fun i x H3 H4 kk hi s3 eD y hk => ?_) (fun H14 ms s14 e14 l14 r14 => ?_)⟩
        · obtain ⟨rfl, ex⟩ := y
          obtain ⟨e, he, t, l, vs1, rfl, ht, hl, av⟩ := ar.at ex
          have sok : StpsOk e.1 e.2 := by
            have := List.mem_of_getElem? he
            rcases (by simpa using this : e = (m1, ss1) ∨ e = (m2, ss2)) with rfl | rfl
            · exact sok1
            · exact sok2
          have sD := s3.trans (hid_same (a := D))
          refine ⟨t, _, rfl, .inl (.inl (sD _ _ ht)), rfl, _, _, rfl, _, _, rfl, rfl, rfl, ?_⟩
          refine ⟨_, rfl, _, rfl, l, _, rfl, .inl (SqL.of (sD _ _ hl)), fun q nq => ?_⟩
          have sq := same_upd (o := .lst vs1) nq
          refine at_nil (mk_machF ⟨q, vs1, rfl, upd_same, av.imp fun _ _ h => IsStp.mono h (sD.trans sq)⟩ sok fun H9 x dx r svs o1 s9 nx nr hp hr0 avS so => ?_)
          obtain ⟨ys, eD⟩ := eD
          have eD1 := sq _ _ eD
          have eD9 := s9 _ _ eD1
          exact hk _ _ (sq.trans s9) ⟨e, o1, he, ⟨x, dx, r, svs, rfl, hid_no ⟨_, eD9⟩ hp (fun _ => nofun), by rw [hid_ne (fun z => by rw [z, eD1] at nr; cases nr)]; exact hr0, avS.imp fun _ _ h => stp_hidL eD9 h⟩, so⟩
        have s1314 := s14.trans (hid_same (a := D))
        obtain ⟨x1, x2, rfl⟩ : ∃ x1 x2, ms = [x1, x2] := by
          match ms, l14.trans lv with
          | [x1, x2], _ => exact ⟨x1, x2, rfl⟩
        obtain ⟨out1, im1, so1⟩ : ∃ out, IsMach T.c_Machine H14 x1 m1 out ∧ SortedOf ss1 out := by
          obtain ⟨e, o, he, im, so⟩ := r14 0 _ rfl
          cases he
          exact ⟨o, im.mono hid_same, so⟩
        obtain ⟨out2, im2, so2⟩ : ∃ out, IsMach T.c_Machine H14 x2 m2 out ∧ SortedOf ss2 out := by
          obtain ⟨e, o, he, im, so⟩ := r14 1 _ rfl
          cases he
          exact ⟨o, im.mono hid_same, so⟩
        clear r14 l14 nD s14
        have s014 := s02.trans (hid_mono s1314)
        have er14 := s1314 _ _ er
        have ar14 := ar.imp fun _ _ h => h.mono s1314
        have eS14 := s1314 _ _ eS2
        have w14 := w2.same s1314
        clear er ar w2 s02 s1314 eS2
        refine ⟨D, _, rfl, SqL.of e14, rfl, _, _, rfl, _, _, rfl, rfl, ?_⟩
        have b40 : ∀ {ss out : List Stp} {m : Nat} {ys : List Str}, DS m ys m 0 ss → SortedOf ss out → ∀ s ∈ out, ∀ n ∈ s.ws, n < 2 ^ 38 := fun ds so s hs => by
          obtain ⟨s0, h0, rfl⟩ := List.mem_map.mp (so.1.mem_iff.mp hs)
          exact low_le fun n hn => Nat.lt_of_le_of_lt ((ds.all s0 h0).2.2.1 n hn) (by decide)
        have gk := gd_kept (mok_of sok1 so1).ok (mok_of sok2 so2).ok (b40 ds1 so1) (b40 ds2 so2) okS lS
        obtain ⟨p1, dx1, r1, sv1, ep1, hp1, hr1, av1⟩ := id im1
        obtain ⟨p2, dx2, r2, sv2, ep2, hp2, hr2, av2⟩ := id im2
        cases ep1
        cases ep2
        refine ⟨_, rfl, p1, _, _, _, _, rfl, hp1, T.cl_Machine, T.n_Machine_steps, mflds_steps m1 r1, _, rfl, p2, _, _, _, _, rfl, hp2, T.cl_Machine, T.n_Machine_steps, mflds_steps m2 r2, _, rfl, by show 3 ≤ sizeLine; decide, fun tk ntk => ?_⟩
        have u1 := same_upd (o := .tup [.ref r1, .ref r2, .ref S]) ntk
        have f1 := @upd_same H14 tk (.tup [.ref r1, .ref r2, .ref S])
        generalize upd H14 tk (.tup [.ref r1, .ref r2, .ref S]) = H15 at *
        have dk : ∀ {F : Hp} {t : Addr}, F t = some (.tup [.ref r1, .ref r2, .ref S]) → F r1 = some (.lst sv1) → AllAre (IsStp F) sv1 out1 → F r2 = some (.lst sv2) → AllAre (IsStp F) sv2 out2 → F S = some (.lst (sm.map V.str)) → Dp K F (.ref t) (keptD out1 out2 sm) := fun h0 h1 h2 h3 h4 h5 => .tup (.inl (.inl h0)) (.cons (.lst (SqL.of h1) (dpAll_stps h2)) (.cons (.lst (SqL.of h3) (dpAll_stps h4)) (.cons (.lst (SqL.of h5) (dpAll_strs sm)) .nil)))
        refine at_nil (rep_gd (dk f1 (u1 _ _ hr1) (av1.imp fun _ _ h => h.mono u1) (u1 _ _ hr2) (av2.imp fun _ _ h => h.mono u1) (u1 _ _ eS14)) gk (by decide) (by decide) ?_)
        -- what is due
        have n4 : zs.length ≤ 4 := by omega
        have sd : ∀ {m : Nat} {ss : List Stp} {ys : List Str}, StpsOk m ss → DS m ys m 0 ss → (∀ y ∈ ys, y ∈ zs) → Sd zs m ss := fun ok ds inn => ⟨ok, fun s hs n hn => Nat.lt_of_le_of_lt ((ds.all s hs).2.2.1 n hn) (Nat.lt_of_lt_of_le (by decide : 200000000000 < 2 ^ 38) (Nat.pow_le_pow_right (by decide) (by decide))), fun s hs => inn _ (ds.all s hs).2.1⟩
        have pr1 : Pr zs m1 ss1 out1 := ⟨sd sok1 ds1 in1, so1⟩
        have pr2 : Pr zs m2 ss2 out2 := ⟨sd sok2 ds2 in2, so2⟩
        obtain ⟨zsf, ups⟩ := zsf_ex ss1 ss2
        obtain ⟨zsg, upg⟩ := zsf_ex ss2 ss1
        obtain ⟨zsh, uph⟩ := zsf_ex ss1 ss1
        obtain ⟨v1, v2, rfl⟩ : ∃ v1 v2, vs = [v1, v2] := by
          match vs, lv with
          | [v1, v2], _ => exact ⟨v1, v2, rfl⟩
        have ar15 := ar14.imp fun _ _ h => IsRowT.mono h u1
        obtain ⟨t1, l1, x1, rfl, ht1, hl1, ax1⟩ := (show IsRowT H15 v1 (m1, ss1) from ar15.2 0 _ _ rfl rfl)
        obtain ⟨t2, l2, x2, rfl, ht2, hl2, ax2⟩ := (show IsRowT H15 v2 (m2, ss2) from ar15.2 1 _ _ rfl rfl)
        have er15 := u1 _ _ er14
        have eS15 := u1 _ _ eS14
        refine ⟨_, rfl, _, rfl, rl, _, 0, .ref t1, rfl, rfl, SqL.of er15, atI_nat (j := 0) rfl, t1, _, 1, _, rfl, rfl, .inl (.inl ht1), atI_nat (j := 1) rfl, _, rfl, rl, _, 1, .ref t2, rfl, rfl, SqL.of er15, atI_nat (j := 1) rfl, t2, _, 1, _, rfl, rfl, .inl (.inl ht2), atI_nat (j := 1) rfl, at_nil (due_said n4 pr1.sd pr2.sd ups eS15 hl1 ax1 hl2 ax2 fun H16 vd u2 sdd => ?_)⟩
        have uA := u1.trans u2
        have tb3 : Tabs (TTs tp tp2) H16 := tabs_same (tabs_well tb hw s014) uA
        have ex : ExtN (hid a H) H16 := fun b o h _ => uA _ _ (hid_same _ _ (s014 b o h))
        have sdd := sdd.noT
        have eS := noT_lst (uA _ _ eS14)
        have im1 := (im1.mono uA).noT
        have im2 := (im2.mono uA).noT
        have er := noT_lst (u2 _ _ er15)
        have ht1 := noT_tup (u2 _ _ ht1)
        have hl1 := noT_lst (u2 _ _ hl1)
        have ax1 := ax1.imp fun _ _ h => IsStp.noT (IsStp.mono h u2)
        have hp1 := noT_at (uA _ _ hp1) (fun _ => nofun)
        have hr1 := noT_lst (uA _ _ hr1)
        have av1 := av1.imp fun _ _ h => IsStp.noT (IsStp.mono h uA)
        have hp2 := noT_at (uA _ _ hp2) (fun _ => nofun)
        have hr2 := noT_lst (uA _ _ hr2)
        have av2 := av2.imp fun _ _ h => IsStp.noT (IsStp.mono h uA)
        have Z0 : Same (noT H16) H16 := fun b o h => (noT_of h).1
        have nZ : ∀ b o, noT H16 b = some o → ∀ ps, o ≠ .tbl ps := fun b o h => (noT_of h).2
        generalize noT H16 = Z at *
        have d12 : DomB m1 m2 (0, 0) := ⟨sok1.m1, sok2.m1⟩
        have d11 : DomB m1 m1 (0, 0) := ⟨sok1.m1, sok1.m1⟩
        clear u1 u2 uA f1 ntk ar15 ar14 er14 er15 eS14 eS15 ht2 hl2 ax2 s014 w14 e14 tb hw b40 sd
        refine ⟨2, rfl, by decide, by decide, for_range (lo := 0) (n := (2 : Int).toNat) (fun j σ F => ∃ y10, σ = [some (.ref a), some (.ref pn), some (.ref rl), y3, y4, some (.ref S), some (.ref p1), some (.ref p2), some (.str (keptD out1 out2 sm).shown), some vd, y10, none, none, none] ∧ Same Z F ∧ ExtN (hid a H) F ∧ Tabs (TTs tp tp2) F) ⟨_, rfl, Z0, ex, tb3⟩ (fun j σ F hj h => ?_) (fun σ F h => ?_)⟩
        · obtain ⟨y10, rfl, sF, exF, tbF⟩ := h
          have zT : ∀ {F F'}, Same Z F → Same (noT F) F' → Same Z F' := fun s s' b o h => s' b o (noT_at (s b o h) (nZ b o h))
          -- both
          refine ⟨tbF, fun F1 eN tb1 Es Qs hE hQ => ?_⟩
          have s1 : Same Z F1 := fun b o h => eN b o (sF b o h) (nZ b o h)
          have ex1 := exF.trans eN
          clear sF exF tbF eN
          refine ⟨_, rfl, _, rfl, _, rfl, at_nil (beside_said ne n4 pr1 pr2 ups (s1 _ _ eS) (by omega) okS ndS (im1.mono s1) (im2.mono s1) tb1 hE hQ fun F2 u s2 tb2 sd1 => ?_)⟩
          have exF := ex1.trans (noT_ex s2)
          have sF := zT s1 s2
          refine ⟨_, rfl, said_ne (gr_ok n4 pr1.sd pr2.sd ups) d12 sd1 (sdd.mono sF) ⟨_, rfl, iteF ?_⟩⟩
          clear s1 s2 ex1 tb1 hE hQ sd1
          -- the other way round
          refine ⟨tb2, fun F1 eN tb1 Es Qs hE hQ => ?_⟩
          have s1 : Same Z F1 := fun b o h => eN b o (sF b o h) (nZ b o h)
          have ex1 := exF.trans eN
          clear sF exF tb2 eN
          refine ⟨_, rfl, _, rfl, _, rfl, at_nil (beside_said ne n4 pr2 pr1 upg (s1 _ _ eS) (by omega) okS ndS (im2.mono s1) (im1.mono s1) tb1 hE hQ fun F2 u s2 tb2 sd1 => ?_)⟩
          have exF := ex1.trans (noT_ex s2)
          have sF := zT s1 s2
          clear s1 s2 ex1 tb1 hE hQ
          refine ⟨2, rfl, sl2 sd1 fun F3 v3 s3 h3 => ⟨_, rfl, 2, rfl, sl2 ((sdd.mono sF).mono s3) fun F4 v4 s4 h4 => ?_⟩⟩
          have s34 := s3.trans s4
          have sw : ∀ y z, StG (GR sm ss2 ss1 zsg) y z → StG (GR sm ss1 ss2 zsf) (swp y) (swp z) := fun y z h => du_swp (upg y) (ups (swp y)) h
          have sw' : ∀ y z, StG (GR sm ss1 ss2 zsf) y z → StG (GR sm ss2 ss1 zsg) (swp y) (swp z) := fun y z h => du_swp (ups y) (upg (swp y)) h
          refine sh2_ne (fun m h => all_swap (φ := swp) (fun _ => rfl) rfl sw sw' h) (fun h => many_swap (φ := swp) (fun _ => rfl) rfl sw sw' h) (h3.mono s4) h4 ⟨_, rfl, iteF ?_⟩
          have sF := sF.trans s34
          have exF := exF.trans (ExtN.of s34)
          have tbF := tabs_same tb2 s34
          clear tb2 sd1 s34 s3 s4 h3 h4 sw sw'
          -- one with itself
          refine ⟨tbF, fun F1 eN tb1 Es Qs hE hQ => ?_⟩
          have s1 : Same Z F1 := fun b o h => eN b o (sF b o h) (nZ b o h)
          have ex1 := exF.trans eN
          clear sF exF tbF eN
          refine ⟨_, rfl, _, rfl, _, rfl, at_nil (beside_said ne n4 pr1 pr1 uph (s1 _ _ eS) (by omega) okS ndS (im1.mono s1) (im1.mono s1) tb1 hE hQ fun F2 u s2 tb2 sd1 => ?_)⟩
          have exF := ex1.trans (noT_ex s2)
          have sF := zT s1 s2
          clear s1 s2 ex1 tb1 hE hQ
          refine ⟨_, rfl, _, rfl, rl, _, 0, .ref t1, rfl, rfl, SqL.of (sF _ _ er), atI_nat (j := 0) rfl, t1, _, 1, _, rfl, rfl, .inl (.inl (sF _ _ ht1)), atI_nat (j := 1) rfl, _, rfl, rl, _, 0, .ref t1, rfl, rfl, SqL.of (sF _ _ er), atI_nat (j := 0) rfl, t1, _, 1, _, rfl, rfl, .inl (.inl (sF _ _ ht1)), atI_nat (j := 1) rfl, at_nil (due_said n4 pr1.sd pr1.sd uph (sF _ _ eS) (sF _ _ hl1) (ax1.imp fun _ _ h => h.mono sF) (sF _ _ hl1) (ax1.imp fun _ _ h => h.mono sF) fun F5 v5 s5 sd5 => said_ne (gr_ok n4 pr1.sd pr1.sd uph) d11 (sd1.mono s5) sd5 ⟨_, rfl, iteF ?_⟩)⟩
          exact ⟨_, rfl, sF.trans s5, exF.trans (ExtN.of s5), tabs_same tb2 s5⟩
        · obtain ⟨y10, rfl, sF, exF, tbF⟩ := h
          refine ⟨_, rfl, p1, _, _, _, _, rfl, sF _ _ hp1, T.cl_Machine, T.n_Machine_steps, mflds_steps m1 r1, _, rfl, p2, _, _, _, _, rfl, sF _ _ hp2, T.cl_Machine, T.n_Machine_steps, mflds_steps m2 r2, _, rfl, by show 3 ≤ sizeLine; decide, fun tk ntk => ?_⟩
          have u1 := same_upd (o := .tup [.ref r1, .ref r2, .ref S]) ntk
          have f1 := @upd_same F tk (.tup [.ref r1, .ref r2, .ref S])
          generalize upd F tk (.tup [.ref r1, .ref r2, .ref S]) = F1 at *
          have sX := sF.trans u1
          refine at_nil (rep_gd (dk f1 (sX _ _ hr1) (av1.imp fun _ _ h => h.mono sX) (sX _ _ hr2) (av2.imp fun _ _ h => h.mono sX) (sX _ _ eS)) gk (by decide) (by decide) ⟨_, rfl, rfl, ?_⟩)
          rw [decide_eq_true rfl]
          exact q F1 (exF.trans (ExtN.of u1)) (tabs_same tbF u1)
      · refine ⟨_, rfl, a, 2, 5899, rfl, w11, by decide, by decide, fun d H12 d0 d1 s12 w12 => ⟨rfl, _, rfl, ite2 (fun _ => ?_) (fun _ => hNx _ _ ⟨D, L, rfl, s1.trans s12, w12.mono (by decide), s12 _ _ eD, ndL, okL, by omega⟩)⟩⟩
        refine ⟨_, rfl, D, _, rfl, SqL.of (hid_same _ _ (s12 _ _ eD)), fun r nr => ?_⟩
        rw [← List.map_reverse]
        obtain ⟨w13, s13⟩ := well_new (o := .lst (L.reverse.map V.str)) w12 nr
        have ra := w12.ne nr
        have er := @upd_same H12 r (.lst (L.reverse.map V.str))
        generalize upd H12 r (.lst (L.reverse.map V.str)) = H13 at *
        refine ⟨by show 1 ≤ sizeLine; decide, fun c0 nc0 => ?_⟩
        obtain ⟨w14, s14⟩ := well_new (o := .lst [.str "none"]) w13 nc0
        have c0a := w13.ne nc0
        have ec := @upd_same H13 c0 (.lst [.str "none"])
        have er := (same_upd (o := .lst [.str "none"]) nc0) _ _ er
        generalize upd H13 c0 (.lst [.str "none"]) = H14 at *
        refine ⟨_, rfl, a, 2, 5898, rfl, w14, by decide, by decide, fun d2 H15 d20 d21 s15 w15 => ?_⟩
        have ec := hid_same _ _ (s15 _ _ (show (hid a H14) c0 = some (.lst [.str "none"]) by rw [hid_ne c0a]; exact ec))
        have er := hid_same _ _ (s15 _ _ (show (hid a H14) r = some (.lst (L.reverse.map V.str)) by rw [hid_ne ra]; exact er))
        refine ⟨c0, d2, _, rfl, rfl, ec, by omega, by omega, ?_, fun p np => ?_⟩
        · rw [sizeLine_eq]
          show 1 * d2.toNat ≤ _
          omega
        obtain ⟨w16, s16⟩ := well_new (o := .lst (List.replicate d2.toNat [V.str "none"]).flatten) w15 np
        have ep := @upd_same H15 p (.lst (List.replicate d2.toNat [V.str "none"]).flatten)
        have er := (same_upd (o := .lst (List.replicate d2.toNat [V.str "none"]).flatten) np) _ _ er
        generalize upd H15 p (.lst (List.replicate d2.toNat [V.str "none"]).flatten) = H16 at *
        obtain ⟨ex, eex, lex, mex, nex⟩ : ∃ ex : List Str, (List.replicate d2.toNat [V.str "none"]).flatten = ex.map V.str ∧ ex.length ≤ 1 ∧ (∀ z ∈ ex, z = "none") ∧ ex.Nodup := by
          have : d2 = 0 ∨ d2 = 1 := by omega
          rcases this with rfl | rfl
          · exact ⟨[], rfl, Nat.zero_le _, (fun z h => by cases h), List.nodup_nil⟩
          · exact ⟨["none"], rfl, Nat.le_refl _, fun z h => List.mem_singleton.mp h, List.nodup_cons.mpr ⟨List.not_mem_nil, List.nodup_nil⟩⟩
        rw [eex] at ep
        refine ⟨r, p, _, _, rfl, rfl, er, ep, ?_, fun p2 np2 => ?_⟩
        · rw [List.length_map, List.length_map, List.length_reverse, sizeLine_eq]
          omega
        rw [← List.map_append]
        obtain ⟨w17, s17⟩ := well_new (o := .lst ((L.reverse ++ ex).map V.str)) w16 np2
        have p2a := w16.ne np2
        refine hNx _ _ ⟨p2, L.reverse ++ ex, rfl, s1.trans (s12.trans (s13.trans (s14.trans (s15.trans (s16.trans s17))))), w17.mono (by decide), by rw [hid_ne p2a]; exact upd_same, ?_, fun z hz => ?_, ?_⟩
        · rw [List.nodup_append]
          refine ⟨(List.reverse_perm _).nodup_iff.mpr ndL, nex, fun x hx y hy e => ?_⟩
          rw [e, mex y hy] at hx
          exact nnL (List.mem_reverse.mp hx)
        · rcases List.mem_append.mp hz with h | h
          · exact okL z (List.mem_reverse.mp h)
          · rw [mex z h]
            exact none_nm
        · rw [List.length_append, List.length_reverse]
          omega
end
end Fb
namespace Fb
open PySem PySem.Spec PyProof.Rows L2
section
open LamX
variable {P : Program} {w : World} {K : PySem.W.Frag} {mg : Str → Option Value} {base : Heap}
def tabNe (K : PySem.W.Frag) (x y : Str) : Bool := match PySem.W.tabIn K x, PySem.W.tabIn K y with
  | some p, some q => decide (p.2 ≠ q.2)
  | _, _ => false
theorem tabNe_ne {x y : Str} {p q : Addr × Addr} (h : tabNe K x y = true) (h1 : PySem.W.tabIn K x = some p) (h2 : PySem.W.tabIn K y = some q) : p.2 ≠ q.2 := by
  unfold tabNe at h
  rw [h1, h2] at h
  exact of_decide_eq_true h
def spLaw (K : PySem.W.Frag) (tp tp2 : Addr) : Sp := fun vs H Q _ => ∃ (a : Addr) (ns : List Int), vs = [.ref a] ∧ SqL K H a (ns.map V.int) ∧ ns.length ≤ 63 ∧ H tp = some (.tbl #[]) ∧ H tp2 = some (.tbl #[]) ∧ ∀ H', Q (.bl true) H'
theorem all_ints {ns : List Int} {x : V} {i : Nat} (h : ([V.int 0, V.int 1] ++ cutV (ns.map V.int) none (some 5))[i]? = some x) : ∃ z : Int, x = .int z := by
  rcases List.mem_append.mp (List.mem_of_getElem? h) with h | h
  · rcases (by simpa using h : x = .int 0 ∨ x = .int 1) with rfl | rfl <;> exact ⟨_, rfl⟩
  · rw [show cutV (ns.map V.int) none (some 5) = (ns.map V.int).take 5 from cut_tok _ 5] at h
    obtain ⟨z, _, rfl⟩ := List.mem_map.mp (List.mem_of_mem_take h)
    exact ⟨z, rfl⟩
theorem ok_law (T : Txt K mg) {c tp c2 tp2 : Addr} (hc : T.d_l_right.code = .ref c) (TB : TabB base mg c tp) (hc2 : T.d_p_beside.code = .ref c2) (TB2 : TabB base mg c2 tp2) (ne : tp ≠ tp2) : FnOkG P w K mg base CX0 17 T.f_law T.d_law ["_law_script"] (spLaw K tp tp2) := by
  refine Fb.Fun.okG T.F_law sc_law (fun vs H Q E h => ?_) (fun cdv A outer s H vs Q E gd hr h => ?_)
  · obtain ⟨a, ns, rfl, _⟩ := h
    rfl
  · obtain ⟨a, ns, rfl, hS, hlen, ht, ht2, q⟩ := h
    refine ⟨_, (pss_cons (ps_for PassesOwn.never rfl (pi_list (pe_op op_cat (pe_lst (pa_cons pe_int (pa_cons pe_int pa_nil))) (pe_slice sl_list (pv 0) po_none (po_some pe_int)))) (pg_name (i := 1) sc_law.nd rfl (.inl rfl))
  (pss_one (ps_if (pt_not (pt_val (pe_callG (ok_l_right T hc TB hc2 TB2 ne) gd (hr.mono (by decide)) (by rfl) T.g_l_right T.F_l_right.kp T.b_l_right .nil pass0 (pa_cons (pe_call (ok_l_well T) (hr.mono (by decide)) (by rfl) T.g_l_well T.F_l_well.kp T.b_l_well .nil pass0 (pa_cons (pv 1) pa_nil)) pa_nil))))
  (pss_one (ps_ret pe_bl))
  pss_nil)))
 (pss_one (ps_ret pe_bl))), ?_⟩
    refine ⟨by show 2 ≤ sizeLine; decide, fun c1 n1 => ?_⟩
    have s1 := same_upd (o := .lst [.int 0, .int 1]) n1
    have e1 := @upd_same H c1 (.lst [.int 0, .int 1])
    generalize upd H c1 (.lst [.int 0, .int 1]) = H1 at *
    refine ⟨_, rfl, 5, rfl, a, _, rfl, s1.seq hS, fun c2 n2 => ?_⟩
    have s2 := same_upd (o := .lst (cutV (ns.map V.int) none (some 5))) n2
    have e2 := @upd_same H1 c2 (.lst (cutV (ns.map V.int) none (some 5)))
    generalize upd H1 c2 (.lst (cutV (ns.map V.int) none (some 5))) = H2 at *
    refine ⟨c1, c2, _, _, rfl, rfl, s2 _ _ e1, e2, ?_, fun c3 n3 => ?_⟩
    · have := cutV_length (ns.map V.int) none (some 5)
      rw [List.length_map] at this
      exact Nat.le_of_lt (small1000 (by show 2 + _ ≤ 1000; omega))
    have s3 := same_upd (o := .lst ([V.int 0, V.int 1] ++ cutV (ns.map V.int) none (some 5))) n3
    have e3 := @upd_same H2 c3 (.lst ([V.int 0, V.int 1] ++ cutV (ns.map V.int) none (some 5)))
    generalize upd H2 c3 (.lst ([V.int 0, V.int 1] ++ cutV (ns.map V.int) none (some 5))) = H3 at *
    have tb : Tabs (TTs tp tp2) H3 := fun p hp => by
      rcases List.mem_cons.mp hp with rfl | hp
      · exact TabS.nil ((s1.trans (s2.trans s3)) _ _ ht)
      · rw [List.mem_singleton.mp hp]
        exact TabS.nil ((s1.trans (s2.trans s3)) _ _ ht2)
    refine ⟨c3, rfl, ⟨_, SqL.of e3⟩, for_list (K := K) (a := c3) (xs := [V.int 0, V.int 1] ++ cutV (ns.map V.int) none (some 5)) (fun i σ F => ∃ y1, σ = [some (.ref a), y1] ∧ F c3 = some (.lst ([V.int 0, V.int 1] ++ cutV (ns.map V.int) none (some 5))) ∧ Tabs (TTs tp tp2) F) ⟨_, rfl, e3, tb⟩ (fun i σ F _ h => ?_) (fun i x σ F hx h => ?_) (fun σ F h => ?_)⟩
    · obtain ⟨_, _, e, _⟩ := h
      exact SqL.of e
    · obtain ⟨y1, rfl, e, tbF⟩ := h
      obtain ⟨z, rfl⟩ := all_ints hx
      refine ⟨_, rfl, z, rfl, fun aw F1 nA sA wA => ?_⟩
      exact ⟨aw, rfl, wA, tbF.ext (sA.trans hid_same), fun F2 ex tb2 => ⟨true, rfl, iteF ⟨_, rfl, ex _ _ (sA _ _ e) (fun _ => nofun), tb2⟩⟩⟩
    · obtain ⟨y1, rfl, _⟩ := h
      exact q F
end
end Fb
namespace Fb
open PySem PySem.Spec PyProof.Rows L2
set_option maxHeartbeats 4000000 in
theorem all_mk {l : PySem.W.OpenLaw} {q : Program} {w : World} {K : PySem.W.Frag} {h : Heap} {mg : Str → Option Value} {fa : Addr} (X : K.In h) (G : h.Ns mainGlobals mg) (hfa : mg "law" = some (.ref fa))
    {c_FarError c_NoMachine c_NoSign c_TooMany c_Machine f_m_NoMachine_init f_m_NoSign_init f_p_is_whole f_p_is_name f_p_common_part f_m_Machine_init f_m_Machine_eq f_m_Machine_len f_p_is_room f_p_are_weights f_p_is_step f_p_are_steps f_p_lowest f_p_doors_of f_p_are_unlike f_p_are_signs f_p_check_signs f_p_found_machine f_p_sorted_by_sign f_p_number_new f_p_weights_of f_p_beside f_p_goals_beside f_p_goals_at_once f_p_goals_of_one f_l_well f_l_draw f_l_one f_l_names f_l_weights f_l_machine f_l_divided f_l_by f_l_both f_l_onward f_l_due f_l_said f_l_right f_law u_START : Addr} {od_m_NoMachine_init an_m_NoMachine_init od_m_NoSign_init an_m_NoSign_init od_p_is_whole an_p_is_whole od_p_is_name an_p_is_name od_p_common_part an_p_common_part od_m_Machine_init an_m_Machine_init od_m_Machine_eq an_m_Machine_eq od_m_Machine_len an_m_Machine_len od_p_is_room an_p_is_room od_p_are_weights an_p_are_weights od_p_is_step an_p_is_step od_p_are_steps an_p_are_steps od_p_lowest an_p_lowest od_p_doors_of an_p_doors_of od_p_are_unlike an_p_are_unlike od_p_are_signs an_p_are_signs od_p_check_signs an_p_check_signs od_p_found_machine an_p_found_machine od_p_sorted_by_sign an_p_sorted_by_sign od_p_number_new an_p_number_new od_p_weights_of an_p_weights_of od_p_beside an_p_beside od_p_goals_beside an_p_goals_beside od_p_goals_at_once an_p_goals_at_once od_p_goals_of_one an_p_goals_of_one od_l_well an_l_well od_l_draw an_l_draw od_l_one an_l_one od_l_names an_l_names od_l_weights an_l_weights od_l_machine an_l_machine od_l_divided an_l_divided od_l_by an_l_by od_l_both an_l_both od_l_onward an_l_onward od_l_due an_l_due od_l_said an_l_said od_l_right an_l_right od_law an_law : Option Addr} {sl_m_NoMachine_init sl_m_NoSign_init sl_p_is_whole sl_p_is_name sl_p_common_part sl_m_Machine_init sl_m_Machine_eq sl_m_Machine_len sl_p_is_room sl_p_are_weights sl_p_is_step sl_p_are_steps sl_p_lowest sl_p_doors_of sl_p_are_unlike sl_p_are_signs sl_p_check_signs sl_p_found_machine sl_p_sorted_by_sign sl_p_number_new sl_p_weights_of sl_p_beside sl_p_goals_beside sl_p_goals_at_once sl_p_goals_of_one sl_l_well sl_l_draw sl_l_one sl_l_names sl_l_weights sl_l_machine sl_l_divided sl_l_by sl_l_both sl_l_onward sl_l_due sl_l_said sl_l_right sl_law : Array (Option Value)} {oc_m_NoMachine_init kV_m_NoMachine_init dc_m_NoMachine_init pm_m_NoMachine_init cd_m_NoMachine_init ct_m_NoMachine_init oc_m_NoSign_init kV_m_NoSign_init dc_m_NoSign_init pm_m_NoSign_init cd_m_NoSign_init ct_m_NoSign_init oc_p_is_whole kV_p_is_whole dc_p_is_whole pm_p_is_whole cd_p_is_whole ct_p_is_whole oc_p_is_name kV_p_is_name dc_p_is_name pm_p_is_name cd_p_is_name ct_p_is_name oc_p_common_part kV_p_common_part dc_p_common_part pm_p_common_part cd_p_common_part ct_p_common_part oc_m_Machine_init kV_m_Machine_init dc_m_Machine_init pm_m_Machine_init cd_m_Machine_init ct_m_Machine_init oc_m_Machine_eq kV_m_Machine_eq dc_m_Machine_eq pm_m_Machine_eq cd_m_Machine_eq ct_m_Machine_eq oc_m_Machine_len kV_m_Machine_len dc_m_Machine_len pm_m_Machine_len cd_m_Machine_len ct_m_Machine_len oc_p_is_room kV_p_is_room dc_p_is_room pm_p_is_room cd_p_is_room ct_p_is_room oc_p_are_weights kV_p_are_weights dc_p_are_weights pm_p_are_weights cd_p_are_weights ct_p_are_weights oc_p_is_step kV_p_is_step dc_p_is_step pm_p_is_step cd_p_is_step ct_p_is_step oc_p_are_steps kV_p_are_steps dc_p_are_steps pm_p_are_steps cd_p_are_steps ct_p_are_steps oc_p_lowest kV_p_lowest dc_p_lowest pm_p_lowest cd_p_lowest ct_p_lowest oc_p_doors_of kV_p_doors_of dc_p_doors_of pm_p_doors_of cd_p_doors_of ct_p_doors_of oc_p_are_unlike kV_p_are_unlike dc_p_are_unlike pm_p_are_unlike cd_p_are_unlike ct_p_are_unlike oc_p_are_signs kV_p_are_signs dc_p_are_signs pm_p_are_signs cd_p_are_signs ct_p_are_signs oc_p_check_signs kV_p_check_signs dc_p_check_signs pm_p_check_signs cd_p_check_signs ct_p_check_signs oc_p_found_machine kV_p_found_machine dc_p_found_machine pm_p_found_machine cd_p_found_machine ct_p_found_machine oc_p_sorted_by_sign kV_p_sorted_by_sign dc_p_sorted_by_sign pm_p_sorted_by_sign cd_p_sorted_by_sign ct_p_sorted_by_sign oc_p_number_new kV_p_number_new dc_p_number_new pm_p_number_new cd_p_number_new ct_p_number_new oc_p_weights_of kV_p_weights_of dc_p_weights_of pm_p_weights_of cd_p_weights_of ct_p_weights_of oc_p_beside kV_p_beside dc_p_beside pm_p_beside cd_p_beside ct_p_beside oc_p_goals_beside kV_p_goals_beside dc_p_goals_beside pm_p_goals_beside cd_p_goals_beside ct_p_goals_beside oc_p_goals_at_once kV_p_goals_at_once dc_p_goals_at_once pm_p_goals_at_once cd_p_goals_at_once ct_p_goals_at_once oc_p_goals_of_one kV_p_goals_of_one dc_p_goals_of_one pm_p_goals_of_one cd_p_goals_of_one ct_p_goals_of_one oc_l_well kV_l_well dc_l_well pm_l_well cd_l_well ct_l_well oc_l_draw kV_l_draw dc_l_draw pm_l_draw cd_l_draw ct_l_draw oc_l_one kV_l_one dc_l_one pm_l_one cd_l_one ct_l_one oc_l_names kV_l_names dc_l_names pm_l_names cd_l_names ct_l_names oc_l_weights kV_l_weights dc_l_weights pm_l_weights cd_l_weights ct_l_weights oc_l_machine kV_l_machine dc_l_machine pm_l_machine cd_l_machine ct_l_machine oc_l_divided kV_l_divided dc_l_divided pm_l_divided cd_l_divided ct_l_divided oc_l_by kV_l_by dc_l_by pm_l_by cd_l_by ct_l_by oc_l_both kV_l_both dc_l_both pm_l_both cd_l_both ct_l_both oc_l_onward kV_l_onward dc_l_onward pm_l_onward cd_l_onward ct_l_onward oc_l_due kV_l_due dc_l_due pm_l_due cd_l_due ct_l_due oc_l_said kV_l_said dc_l_said pm_l_said cd_l_said ct_l_said oc_l_right kV_l_right dc_l_right pm_l_right cd_l_right ct_l_right oc_law kV_law dc_law pm_law cd_law ct_law : Value} {tkc_LETTERS : _} {tkc_LONGEST_NAME : _} {tkc_MOST_ROOMS : _}  {td0_START : _} {td1_START : _} {nd_START : _} {od_START : Option Addr} {sd_START : Array (Option Value)}
    (a_FarError : PySem.W.nsIn K mainGlobals "FarError" = some (some (.ref c_FarError)))
    (a_NoMachine : PySem.W.nsIn K mainGlobals "NoMachine" = some (some (.ref c_NoMachine)))
    (a_NoSign : PySem.W.nsIn K mainGlobals "NoSign" = some (some (.ref c_NoSign)))
    (a_TooMany : PySem.W.nsIn K mainGlobals "TooMany" = some (some (.ref c_TooMany)))
    (a_Machine : PySem.W.nsIn K mainGlobals "Machine" = some (some (.ref c_Machine)))
    (a_m_NoMachine_init : PySem.W.findIn K (.ref c_NoMachine) "__init__" = some (some (.ref f_m_NoMachine_init)))
    (l_m_NoMachine_init : K.lookup f_m_NoMachine_init = some ⟨oc_m_NoMachine_init, od_m_NoMachine_init, .func (PySem.W.fnOf "__init__" "NoMachine.__init__" (defArgs s_m_NoMachine_init) (defBody s_m_NoMachine_init) (defScope s_m_NoMachine_init) .none kV_m_NoMachine_init dc_m_NoMachine_init pm_m_NoMachine_init an_m_NoMachine_init cd_m_NoMachine_init ct_m_NoMachine_init), sl_m_NoMachine_init⟩)
    (c_m_NoMachine_init_ : PySem.W.codeIn K cd_m_NoMachine_init "NoMachine.__init__" = true)
    (k_m_NoMachine_init_ : PySem.W.keepIn K (.ref f_m_NoMachine_init) = true)
    (a_m_NoSign_init : PySem.W.findIn K (.ref c_NoSign) "__init__" = some (some (.ref f_m_NoSign_init)))
    (l_m_NoSign_init : K.lookup f_m_NoSign_init = some ⟨oc_m_NoSign_init, od_m_NoSign_init, .func (PySem.W.fnOf "__init__" "NoSign.__init__" (defArgs s_m_NoSign_init) (defBody s_m_NoSign_init) (defScope s_m_NoSign_init) .none kV_m_NoSign_init dc_m_NoSign_init pm_m_NoSign_init an_m_NoSign_init cd_m_NoSign_init ct_m_NoSign_init), sl_m_NoSign_init⟩)
    (c_m_NoSign_init_ : PySem.W.codeIn K cd_m_NoSign_init "NoSign.__init__" = true)
    (k_m_NoSign_init_ : PySem.W.keepIn K (.ref f_m_NoSign_init) = true)
    (a_p_is_whole : PySem.W.nsIn K mainGlobals "is_whole" = some (some (.ref f_p_is_whole)))
    (l_p_is_whole : K.lookup f_p_is_whole = some ⟨oc_p_is_whole, od_p_is_whole, .func (PySem.W.fnOf "is_whole" "is_whole" (defArgs s_p_is_whole) (defBody s_p_is_whole) (defScope s_p_is_whole) .none kV_p_is_whole dc_p_is_whole pm_p_is_whole an_p_is_whole cd_p_is_whole ct_p_is_whole), sl_p_is_whole⟩)
    (c_p_is_whole_ : PySem.W.codeIn K cd_p_is_whole "is_whole" = true)
    (k_p_is_whole_ : PySem.W.keepIn K (.ref f_p_is_whole) = true)
    (a_p_is_name : PySem.W.nsIn K mainGlobals "is_name" = some (some (.ref f_p_is_name)))
    (l_p_is_name : K.lookup f_p_is_name = some ⟨oc_p_is_name, od_p_is_name, .func (PySem.W.fnOf "is_name" "is_name" (defArgs s_p_is_name) (defBody s_p_is_name) (defScope s_p_is_name) .none kV_p_is_name dc_p_is_name pm_p_is_name an_p_is_name cd_p_is_name ct_p_is_name), sl_p_is_name⟩)
    (c_p_is_name_ : PySem.W.codeIn K cd_p_is_name "is_name" = true)
    (k_p_is_name_ : PySem.W.keepIn K (.ref f_p_is_name) = true)
    (a_p_common_part : PySem.W.nsIn K mainGlobals "common_part" = some (some (.ref f_p_common_part)))
    (l_p_common_part : K.lookup f_p_common_part = some ⟨oc_p_common_part, od_p_common_part, .func (PySem.W.fnOf "common_part" "common_part" (defArgs s_p_common_part) (defBody s_p_common_part) (defScope s_p_common_part) .none kV_p_common_part dc_p_common_part pm_p_common_part an_p_common_part cd_p_common_part ct_p_common_part), sl_p_common_part⟩)
    (c_p_common_part_ : PySem.W.codeIn K cd_p_common_part "common_part" = true)
    (k_p_common_part_ : PySem.W.keepIn K (.ref f_p_common_part) = true)
    (a_m_Machine_init : PySem.W.findIn K (.ref c_Machine) "__init__" = some (some (.ref f_m_Machine_init)))
    (l_m_Machine_init : K.lookup f_m_Machine_init = some ⟨oc_m_Machine_init, od_m_Machine_init, .func (PySem.W.fnOf "__init__" "Machine.__init__" (defArgs s_m_Machine_init) (defBody s_m_Machine_init) (defScope s_m_Machine_init) .none kV_m_Machine_init dc_m_Machine_init pm_m_Machine_init an_m_Machine_init cd_m_Machine_init ct_m_Machine_init), sl_m_Machine_init⟩)
    (c_m_Machine_init_ : PySem.W.codeIn K cd_m_Machine_init "Machine.__init__" = true)
    (k_m_Machine_init_ : PySem.W.keepIn K (.ref f_m_Machine_init) = true)
    (a_m_Machine_eq : PySem.W.findIn K (.ref c_Machine) "__eq__" = some (some (.ref f_m_Machine_eq)))
    (l_m_Machine_eq : K.lookup f_m_Machine_eq = some ⟨oc_m_Machine_eq, od_m_Machine_eq, .func (PySem.W.fnOf "__eq__" "Machine.__eq__" (defArgs s_m_Machine_eq) (defBody s_m_Machine_eq) (defScope s_m_Machine_eq) .none kV_m_Machine_eq dc_m_Machine_eq pm_m_Machine_eq an_m_Machine_eq cd_m_Machine_eq ct_m_Machine_eq), sl_m_Machine_eq⟩)
    (c_m_Machine_eq_ : PySem.W.codeIn K cd_m_Machine_eq "Machine.__eq__" = true)
    (k_m_Machine_eq_ : PySem.W.keepIn K (.ref f_m_Machine_eq) = true)
    (a_m_Machine_len : PySem.W.findIn K (.ref c_Machine) "__len__" = some (some (.ref f_m_Machine_len)))
    (l_m_Machine_len : K.lookup f_m_Machine_len = some ⟨oc_m_Machine_len, od_m_Machine_len, .func (PySem.W.fnOf "__len__" "Machine.__len__" (defArgs s_m_Machine_len) (defBody s_m_Machine_len) (defScope s_m_Machine_len) .none kV_m_Machine_len dc_m_Machine_len pm_m_Machine_len an_m_Machine_len cd_m_Machine_len ct_m_Machine_len), sl_m_Machine_len⟩)
    (c_m_Machine_len_ : PySem.W.codeIn K cd_m_Machine_len "Machine.__len__" = true)
    (k_m_Machine_len_ : PySem.W.keepIn K (.ref f_m_Machine_len) = true)
    (a_p_is_room : PySem.W.nsIn K mainGlobals "is_room" = some (some (.ref f_p_is_room)))
    (l_p_is_room : K.lookup f_p_is_room = some ⟨oc_p_is_room, od_p_is_room, .func (PySem.W.fnOf "is_room" "is_room" (defArgs s_p_is_room) (defBody s_p_is_room) (defScope s_p_is_room) .none kV_p_is_room dc_p_is_room pm_p_is_room an_p_is_room cd_p_is_room ct_p_is_room), sl_p_is_room⟩)
    (c_p_is_room_ : PySem.W.codeIn K cd_p_is_room "is_room" = true)
    (k_p_is_room_ : PySem.W.keepIn K (.ref f_p_is_room) = true)
    (a_p_are_weights : PySem.W.nsIn K mainGlobals "are_weights" = some (some (.ref f_p_are_weights)))
    (l_p_are_weights : K.lookup f_p_are_weights = some ⟨oc_p_are_weights, od_p_are_weights, .func (PySem.W.fnOf "are_weights" "are_weights" (defArgs s_p_are_weights) (defBody s_p_are_weights) (defScope s_p_are_weights) .none kV_p_are_weights dc_p_are_weights pm_p_are_weights an_p_are_weights cd_p_are_weights ct_p_are_weights), sl_p_are_weights⟩)
    (c_p_are_weights_ : PySem.W.codeIn K cd_p_are_weights "are_weights" = true)
    (k_p_are_weights_ : PySem.W.keepIn K (.ref f_p_are_weights) = true)
    (a_p_is_step : PySem.W.nsIn K mainGlobals "is_step" = some (some (.ref f_p_is_step)))
    (l_p_is_step : K.lookup f_p_is_step = some ⟨oc_p_is_step, od_p_is_step, .func (PySem.W.fnOf "is_step" "is_step" (defArgs s_p_is_step) (defBody s_p_is_step) (defScope s_p_is_step) .none kV_p_is_step dc_p_is_step pm_p_is_step an_p_is_step cd_p_is_step ct_p_is_step), sl_p_is_step⟩)
    (c_p_is_step_ : PySem.W.codeIn K cd_p_is_step "is_step" = true)
    (k_p_is_step_ : PySem.W.keepIn K (.ref f_p_is_step) = true)
    (a_p_are_steps : PySem.W.nsIn K mainGlobals "are_steps" = some (some (.ref f_p_are_steps)))
    (l_p_are_steps : K.lookup f_p_are_steps = some ⟨oc_p_are_steps, od_p_are_steps, .func (PySem.W.fnOf "are_steps" "are_steps" (defArgs s_p_are_steps) (defBody s_p_are_steps) (defScope s_p_are_steps) .none kV_p_are_steps dc_p_are_steps pm_p_are_steps an_p_are_steps cd_p_are_steps ct_p_are_steps), sl_p_are_steps⟩)
    (c_p_are_steps_ : PySem.W.codeIn K cd_p_are_steps "are_steps" = true)
    (k_p_are_steps_ : PySem.W.keepIn K (.ref f_p_are_steps) = true)
    (a_p_lowest : PySem.W.nsIn K mainGlobals "lowest" = some (some (.ref f_p_lowest)))
    (l_p_lowest : K.lookup f_p_lowest = some ⟨oc_p_lowest, od_p_lowest, .func (PySem.W.fnOf "lowest" "lowest" (defArgs s_p_lowest) (defBody s_p_lowest) (defScope s_p_lowest) .none kV_p_lowest dc_p_lowest pm_p_lowest an_p_lowest cd_p_lowest ct_p_lowest), sl_p_lowest⟩)
    (c_p_lowest_ : PySem.W.codeIn K cd_p_lowest "lowest" = true)
    (k_p_lowest_ : PySem.W.keepIn K (.ref f_p_lowest) = true)
    (a_p_doors_of : PySem.W.nsIn K mainGlobals "doors_of" = some (some (.ref f_p_doors_of)))
    (l_p_doors_of : K.lookup f_p_doors_of = some ⟨oc_p_doors_of, od_p_doors_of, .func (PySem.W.fnOf "doors_of" "doors_of" (defArgs s_p_doors_of) (defBody s_p_doors_of) (defScope s_p_doors_of) .none kV_p_doors_of dc_p_doors_of pm_p_doors_of an_p_doors_of cd_p_doors_of ct_p_doors_of), sl_p_doors_of⟩)
    (c_p_doors_of_ : PySem.W.codeIn K cd_p_doors_of "doors_of" = true)
    (k_p_doors_of_ : PySem.W.keepIn K (.ref f_p_doors_of) = true)
    (a_p_are_unlike : PySem.W.nsIn K mainGlobals "are_unlike" = some (some (.ref f_p_are_unlike)))
    (l_p_are_unlike : K.lookup f_p_are_unlike = some ⟨oc_p_are_unlike, od_p_are_unlike, .func (PySem.W.fnOf "are_unlike" "are_unlike" (defArgs s_p_are_unlike) (defBody s_p_are_unlike) (defScope s_p_are_unlike) .none kV_p_are_unlike dc_p_are_unlike pm_p_are_unlike an_p_are_unlike cd_p_are_unlike ct_p_are_unlike), sl_p_are_unlike⟩)
    (c_p_are_unlike_ : PySem.W.codeIn K cd_p_are_unlike "are_unlike" = true)
    (k_p_are_unlike_ : PySem.W.keepIn K (.ref f_p_are_unlike) = true)
    (a_p_are_signs : PySem.W.nsIn K mainGlobals "are_signs" = some (some (.ref f_p_are_signs)))
    (l_p_are_signs : K.lookup f_p_are_signs = some ⟨oc_p_are_signs, od_p_are_signs, .func (PySem.W.fnOf "are_signs" "are_signs" (defArgs s_p_are_signs) (defBody s_p_are_signs) (defScope s_p_are_signs) .none kV_p_are_signs dc_p_are_signs pm_p_are_signs an_p_are_signs cd_p_are_signs ct_p_are_signs), sl_p_are_signs⟩)
    (c_p_are_signs_ : PySem.W.codeIn K cd_p_are_signs "are_signs" = true)
    (k_p_are_signs_ : PySem.W.keepIn K (.ref f_p_are_signs) = true)
    (a_p_check_signs : PySem.W.nsIn K mainGlobals "check_signs" = some (some (.ref f_p_check_signs)))
    (l_p_check_signs : K.lookup f_p_check_signs = some ⟨oc_p_check_signs, od_p_check_signs, .func (PySem.W.fnOf "check_signs" "check_signs" (defArgs s_p_check_signs) (defBody s_p_check_signs) (defScope s_p_check_signs) .none kV_p_check_signs dc_p_check_signs pm_p_check_signs an_p_check_signs cd_p_check_signs ct_p_check_signs), sl_p_check_signs⟩)
    (c_p_check_signs_ : PySem.W.codeIn K cd_p_check_signs "check_signs" = true)
    (k_p_check_signs_ : PySem.W.keepIn K (.ref f_p_check_signs) = true)
    (a_p_found_machine : PySem.W.nsIn K mainGlobals "found_machine" = some (some (.ref f_p_found_machine)))
    (l_p_found_machine : K.lookup f_p_found_machine = some ⟨oc_p_found_machine, od_p_found_machine, .func (PySem.W.fnOf "found_machine" "found_machine" (defArgs s_p_found_machine) (defBody s_p_found_machine) (defScope s_p_found_machine) .none kV_p_found_machine dc_p_found_machine pm_p_found_machine an_p_found_machine cd_p_found_machine ct_p_found_machine), sl_p_found_machine⟩)
    (c_p_found_machine_ : PySem.W.codeIn K cd_p_found_machine "found_machine" = true)
    (k_p_found_machine_ : PySem.W.keepIn K (.ref f_p_found_machine) = true)
    (a_p_sorted_by_sign : PySem.W.nsIn K mainGlobals "sorted_by_sign" = some (some (.ref f_p_sorted_by_sign)))
    (l_p_sorted_by_sign : K.lookup f_p_sorted_by_sign = some ⟨oc_p_sorted_by_sign, od_p_sorted_by_sign, .func (PySem.W.fnOf "sorted_by_sign" "sorted_by_sign" (defArgs s_p_sorted_by_sign) (defBody s_p_sorted_by_sign) (defScope s_p_sorted_by_sign) .none kV_p_sorted_by_sign dc_p_sorted_by_sign pm_p_sorted_by_sign an_p_sorted_by_sign cd_p_sorted_by_sign ct_p_sorted_by_sign), sl_p_sorted_by_sign⟩)
    (c_p_sorted_by_sign_ : PySem.W.codeIn K cd_p_sorted_by_sign "sorted_by_sign" = true)
    (k_p_sorted_by_sign_ : PySem.W.keepIn K (.ref f_p_sorted_by_sign) = true)
    (a_p_number_new : PySem.W.nsIn K mainGlobals "number_new" = some (some (.ref f_p_number_new)))
    (l_p_number_new : K.lookup f_p_number_new = some ⟨oc_p_number_new, od_p_number_new, .func (PySem.W.fnOf "number_new" "number_new" (defArgs s_p_number_new) (defBody s_p_number_new) (defScope s_p_number_new) .none kV_p_number_new dc_p_number_new pm_p_number_new an_p_number_new cd_p_number_new ct_p_number_new), sl_p_number_new⟩)
    (c_p_number_new_ : PySem.W.codeIn K cd_p_number_new "number_new" = true)
    (k_p_number_new_ : PySem.W.keepIn K (.ref f_p_number_new) = true)
    (a_p_weights_of : PySem.W.nsIn K mainGlobals "weights_of" = some (some (.ref f_p_weights_of)))
    (l_p_weights_of : K.lookup f_p_weights_of = some ⟨oc_p_weights_of, od_p_weights_of, .func (PySem.W.fnOf "weights_of" "weights_of" (defArgs s_p_weights_of) (defBody s_p_weights_of) (defScope s_p_weights_of) .none kV_p_weights_of dc_p_weights_of pm_p_weights_of an_p_weights_of cd_p_weights_of ct_p_weights_of), sl_p_weights_of⟩)
    (c_p_weights_of_ : PySem.W.codeIn K cd_p_weights_of "weights_of" = true)
    (k_p_weights_of_ : PySem.W.keepIn K (.ref f_p_weights_of) = true)
    (a_p_beside : PySem.W.nsIn K mainGlobals "beside" = some (some (.ref f_p_beside)))
    (l_p_beside : K.lookup f_p_beside = some ⟨oc_p_beside, od_p_beside, .func (PySem.W.fnOf "beside" "beside" (defArgs s_p_beside) (defBody s_p_beside) (defScope s_p_beside) .none kV_p_beside dc_p_beside pm_p_beside an_p_beside cd_p_beside ct_p_beside), sl_p_beside⟩)
    (c_p_beside_ : PySem.W.codeIn K cd_p_beside "beside" = true)
    (k_p_beside_ : PySem.W.keepIn K (.ref f_p_beside) = true)
    (a_p_goals_beside : PySem.W.nsIn K mainGlobals "goals_beside" = some (some (.ref f_p_goals_beside)))
    (l_p_goals_beside : K.lookup f_p_goals_beside = some ⟨oc_p_goals_beside, od_p_goals_beside, .func (PySem.W.fnOf "goals_beside" "goals_beside" (defArgs s_p_goals_beside) (defBody s_p_goals_beside) (defScope s_p_goals_beside) .none kV_p_goals_beside dc_p_goals_beside pm_p_goals_beside an_p_goals_beside cd_p_goals_beside ct_p_goals_beside), sl_p_goals_beside⟩)
    (c_p_goals_beside_ : PySem.W.codeIn K cd_p_goals_beside "goals_beside" = true)
    (k_p_goals_beside_ : PySem.W.keepIn K (.ref f_p_goals_beside) = true)
    (a_p_goals_at_once : PySem.W.nsIn K mainGlobals "goals_at_once" = some (some (.ref f_p_goals_at_once)))
    (l_p_goals_at_once : K.lookup f_p_goals_at_once = some ⟨oc_p_goals_at_once, od_p_goals_at_once, .func (PySem.W.fnOf "goals_at_once" "goals_at_once" (defArgs s_p_goals_at_once) (defBody s_p_goals_at_once) (defScope s_p_goals_at_once) .none kV_p_goals_at_once dc_p_goals_at_once pm_p_goals_at_once an_p_goals_at_once cd_p_goals_at_once ct_p_goals_at_once), sl_p_goals_at_once⟩)
    (c_p_goals_at_once_ : PySem.W.codeIn K cd_p_goals_at_once "goals_at_once" = true)
    (k_p_goals_at_once_ : PySem.W.keepIn K (.ref f_p_goals_at_once) = true)
    (a_p_goals_of_one : PySem.W.nsIn K mainGlobals "goals_of_one" = some (some (.ref f_p_goals_of_one)))
    (l_p_goals_of_one : K.lookup f_p_goals_of_one = some ⟨oc_p_goals_of_one, od_p_goals_of_one, .func (PySem.W.fnOf "goals_of_one" "goals_of_one" (defArgs s_p_goals_of_one) (defBody s_p_goals_of_one) (defScope s_p_goals_of_one) .none kV_p_goals_of_one dc_p_goals_of_one pm_p_goals_of_one an_p_goals_of_one cd_p_goals_of_one ct_p_goals_of_one), sl_p_goals_of_one⟩)
    (c_p_goals_of_one_ : PySem.W.codeIn K cd_p_goals_of_one "goals_of_one" = true)
    (k_p_goals_of_one_ : PySem.W.keepIn K (.ref f_p_goals_of_one) = true)
    (a_l_well : PySem.W.nsIn K mainGlobals "_law_well" = some (some (.ref f_l_well)))
    (l_l_well : K.lookup f_l_well = some ⟨oc_l_well, od_l_well, .func (PySem.W.fnOf "_law_well" "_law_well" (defArgs s_l_well) (defBody s_l_well) (defScope s_l_well) .none kV_l_well dc_l_well pm_l_well an_l_well cd_l_well ct_l_well), sl_l_well⟩)
    (c_l_well_ : PySem.W.codeIn K cd_l_well "_law_well" = true)
    (k_l_well_ : PySem.W.keepIn K (.ref f_l_well) = true)
    (a_l_draw : PySem.W.nsIn K mainGlobals "_law_draw" = some (some (.ref f_l_draw)))
    (l_l_draw : K.lookup f_l_draw = some ⟨oc_l_draw, od_l_draw, .func (PySem.W.fnOf "_law_draw" "_law_draw" (defArgs s_l_draw) (defBody s_l_draw) (defScope s_l_draw) .none kV_l_draw dc_l_draw pm_l_draw an_l_draw cd_l_draw ct_l_draw), sl_l_draw⟩)
    (c_l_draw_ : PySem.W.codeIn K cd_l_draw "_law_draw" = true)
    (k_l_draw_ : PySem.W.keepIn K (.ref f_l_draw) = true)
    (a_l_one : PySem.W.nsIn K mainGlobals "_law_one" = some (some (.ref f_l_one)))
    (l_l_one : K.lookup f_l_one = some ⟨oc_l_one, od_l_one, .func (PySem.W.fnOf "_law_one" "_law_one" (defArgs s_l_one) (defBody s_l_one) (defScope s_l_one) .none kV_l_one dc_l_one pm_l_one an_l_one cd_l_one ct_l_one), sl_l_one⟩)
    (c_l_one_ : PySem.W.codeIn K cd_l_one "_law_one" = true)
    (k_l_one_ : PySem.W.keepIn K (.ref f_l_one) = true)
    (a_l_names : PySem.W.nsIn K mainGlobals "_law_names" = some (some (.ref f_l_names)))
    (l_l_names : K.lookup f_l_names = some ⟨oc_l_names, od_l_names, .func (PySem.W.fnOf "_law_names" "_law_names" (defArgs s_l_names) (defBody s_l_names) (defScope s_l_names) .none kV_l_names dc_l_names pm_l_names an_l_names cd_l_names ct_l_names), sl_l_names⟩)
    (c_l_names_ : PySem.W.codeIn K cd_l_names "_law_names" = true)
    (k_l_names_ : PySem.W.keepIn K (.ref f_l_names) = true)
    (a_l_weights : PySem.W.nsIn K mainGlobals "_law_weights" = some (some (.ref f_l_weights)))
    (l_l_weights : K.lookup f_l_weights = some ⟨oc_l_weights, od_l_weights, .func (PySem.W.fnOf "_law_weights" "_law_weights" (defArgs s_l_weights) (defBody s_l_weights) (defScope s_l_weights) .none kV_l_weights dc_l_weights pm_l_weights an_l_weights cd_l_weights ct_l_weights), sl_l_weights⟩)
    (c_l_weights_ : PySem.W.codeIn K cd_l_weights "_law_weights" = true)
    (k_l_weights_ : PySem.W.keepIn K (.ref f_l_weights) = true)
    (a_l_machine : PySem.W.nsIn K mainGlobals "_law_machine" = some (some (.ref f_l_machine)))
    (l_l_machine : K.lookup f_l_machine = some ⟨oc_l_machine, od_l_machine, .func (PySem.W.fnOf "_law_machine" "_law_machine" (defArgs s_l_machine) (defBody s_l_machine) (defScope s_l_machine) .none kV_l_machine dc_l_machine pm_l_machine an_l_machine cd_l_machine ct_l_machine), sl_l_machine⟩)
    (c_l_machine_ : PySem.W.codeIn K cd_l_machine "_law_machine" = true)
    (k_l_machine_ : PySem.W.keepIn K (.ref f_l_machine) = true)
    (a_l_divided : PySem.W.nsIn K mainGlobals "_law_divided" = some (some (.ref f_l_divided)))
    (l_l_divided : K.lookup f_l_divided = some ⟨oc_l_divided, od_l_divided, .func (PySem.W.fnOf "_law_divided" "_law_divided" (defArgs s_l_divided) (defBody s_l_divided) (defScope s_l_divided) .none kV_l_divided dc_l_divided pm_l_divided an_l_divided cd_l_divided ct_l_divided), sl_l_divided⟩)
    (c_l_divided_ : PySem.W.codeIn K cd_l_divided "_law_divided" = true)
    (k_l_divided_ : PySem.W.keepIn K (.ref f_l_divided) = true)
    (a_l_by : PySem.W.nsIn K mainGlobals "_law_by" = some (some (.ref f_l_by)))
    (l_l_by : K.lookup f_l_by = some ⟨oc_l_by, od_l_by, .func (PySem.W.fnOf "_law_by" "_law_by" (defArgs s_l_by) (defBody s_l_by) (defScope s_l_by) .none kV_l_by dc_l_by pm_l_by an_l_by cd_l_by ct_l_by), sl_l_by⟩)
    (c_l_by_ : PySem.W.codeIn K cd_l_by "_law_by" = true)
    (k_l_by_ : PySem.W.keepIn K (.ref f_l_by) = true)
    (a_l_both : PySem.W.nsIn K mainGlobals "_law_both" = some (some (.ref f_l_both)))
    (l_l_both : K.lookup f_l_both = some ⟨oc_l_both, od_l_both, .func (PySem.W.fnOf "_law_both" "_law_both" (defArgs s_l_both) (defBody s_l_both) (defScope s_l_both) .none kV_l_both dc_l_both pm_l_both an_l_both cd_l_both ct_l_both), sl_l_both⟩)
    (c_l_both_ : PySem.W.codeIn K cd_l_both "_law_both" = true)
    (k_l_both_ : PySem.W.keepIn K (.ref f_l_both) = true)
    (a_l_onward : PySem.W.nsIn K mainGlobals "_law_onward" = some (some (.ref f_l_onward)))
    (l_l_onward : K.lookup f_l_onward = some ⟨oc_l_onward, od_l_onward, .func (PySem.W.fnOf "_law_onward" "_law_onward" (defArgs s_l_onward) (defBody s_l_onward) (defScope s_l_onward) .none kV_l_onward dc_l_onward pm_l_onward an_l_onward cd_l_onward ct_l_onward), sl_l_onward⟩)
    (c_l_onward_ : PySem.W.codeIn K cd_l_onward "_law_onward" = true)
    (k_l_onward_ : PySem.W.keepIn K (.ref f_l_onward) = true)
    (a_l_due : PySem.W.nsIn K mainGlobals "_law_due" = some (some (.ref f_l_due)))
    (l_l_due : K.lookup f_l_due = some ⟨oc_l_due, od_l_due, .func (PySem.W.fnOf "_law_due" "_law_due" (defArgs s_l_due) (defBody s_l_due) (defScope s_l_due) .none kV_l_due dc_l_due pm_l_due an_l_due cd_l_due ct_l_due), sl_l_due⟩)
    (c_l_due_ : PySem.W.codeIn K cd_l_due "_law_due" = true)
    (k_l_due_ : PySem.W.keepIn K (.ref f_l_due) = true)
    (a_l_said : PySem.W.nsIn K mainGlobals "_law_said" = some (some (.ref f_l_said)))
    (l_l_said : K.lookup f_l_said = some ⟨oc_l_said, od_l_said, .func (PySem.W.fnOf "_law_said" "_law_said" (defArgs s_l_said) (defBody s_l_said) (defScope s_l_said) .none kV_l_said dc_l_said pm_l_said an_l_said cd_l_said ct_l_said), sl_l_said⟩)
    (c_l_said_ : PySem.W.codeIn K cd_l_said "_law_said" = true)
    (k_l_said_ : PySem.W.keepIn K (.ref f_l_said) = true)
    (a_l_right : PySem.W.nsIn K mainGlobals "_law_right" = some (some (.ref f_l_right)))
    (l_l_right : K.lookup f_l_right = some ⟨oc_l_right, od_l_right, .func (PySem.W.fnOf "_law_right" "_law_right" (defArgs s_l_right) (defBody s_l_right) (defScope s_l_right) .none kV_l_right dc_l_right pm_l_right an_l_right cd_l_right ct_l_right), sl_l_right⟩)
    (c_l_right_ : PySem.W.codeIn K cd_l_right "_law_right" = true)
    (k_l_right_ : PySem.W.keepIn K (.ref f_l_right) = true)
    (a_law : PySem.W.nsIn K mainGlobals "law" = some (some (.ref f_law)))
    (l_law : K.lookup f_law = some ⟨oc_law, od_law, .func (PySem.W.fnOf "law" "law" (defArgs s_law) (defBody s_law) (defScope s_law) .none kV_law dc_law pm_law an_law cd_law ct_law), sl_law⟩)
    (c_law_ : PySem.W.codeIn K cd_law "law" = true)
    (k_law_ : PySem.W.keepIn K (.ref f_law) = true)
    (pg_Machine : PySem.W.plainGet K c_Machine Str.empty = true)
    (hd_Machine : PySem.W.hasDictIn K c_Machine = true)
    (po_Machine : PySem.W.plainOver K c_Machine = true)
    (sa_Machine : PySem.W.findIn K (.ref c_Machine) "__setattr__" = some (some (.builtin "object.__setattr__")))
    (mk_Machine : PySem.W.makesIn K c_Machine = true)
    (kc_Machine : PySem.W.keepIn K (.ref c_Machine) = true)
    (if_Machine : PySem.W.isFn K (.ref f_m_Machine_init) = true)
    (ha_Machine : PySem.W.findIn K (.ref c_Machine) "__class__" = some (some (.builtin "object.__class__")))
    (hn_Machine : PySem.W.specialIn K (.builtin "object.__class__") "__get__" = some (some (.builtin "getset_descriptor.__get__")))
    (ht_Machine : PySem.W.takesIn K (.builtin "object.__class__") = some true)
    (hm_Machine : PySem.W.mroIn K c_Machine (.type "object") = some true)
    (n_Machine_many : PySem.W.findIn K (.ref c_Machine) "many" = some none)
    (n_Machine_steps : PySem.W.findIn K (.ref c_Machine) "steps" = some none)
    (i_m_Machine_eq : PySem.W.isFn K (.ref f_m_Machine_eq) = true)
    (i_m_Machine_len : PySem.W.isFn K (.ref f_m_Machine_len) = true)
    (nn_Machine : PySem.W.findIn K (.ref c_Machine) "__ne__" = some (some (.builtin "object.__ne__")))
    (nf_Machine_int : PySem.W.notFirst K c_Machine (.type "int") = true)
    (nf_Machine_str : PySem.W.notFirst K c_Machine (.type "str") = true)
    (nf_Machine_NoneType : PySem.W.notFirst K c_Machine (.type "NoneType") = true)
    (nf_Machine_list : PySem.W.notFirst K c_Machine (.type "list") = true)
    (nf_Machine_tuple : PySem.W.notFirst K c_Machine (.type "tuple") = true)
    (nf_Machine_dict : PySem.W.notFirst K c_Machine (.type "dict") = true)
    (nf_Machine_bool : PySem.W.notFirst K c_Machine (.type "bool") = true)
    (ko_Machine : PySem.W.kitOne K (.ref c_Machine) (.ref c_Machine) = some true)
    (ko_Machine_int : PySem.W.kitOne K (.type "int") (.ref c_Machine) = some false)
    (ko_Machine_str : PySem.W.kitOne K (.type "str") (.ref c_Machine) = some false)
    (ko_Machine_NoneType : PySem.W.kitOne K (.type "NoneType") (.ref c_Machine) = some false)
    (ko_Machine_list : PySem.W.kitOne K (.type "list") (.ref c_Machine) = some false)
    (ko_Machine_tuple : PySem.W.kitOne K (.type "tuple") (.ref c_Machine) = some false)
    (ko_Machine_dict : PySem.W.kitOne K (.type "dict") (.ref c_Machine) = some false)
    (ko_Machine_bool : PySem.W.kitOne K (.type "bool") (.ref c_Machine) = some false)
    (ac_LETTERS : PySem.W.nsIn K mainGlobals "LETTERS" = some (some (Value.str "abcdefghijklmnopqrstuvwxyz" tkc_LETTERS)))
    (ac_LONGEST_NAME : PySem.W.nsIn K mainGlobals "LONGEST_NAME" = some (some (Value.int 8 tkc_LONGEST_NAME)))
    (ac_MOST_ROOMS : PySem.W.nsIn K mainGlobals "MOST_ROOMS" = some (some (Value.int 12 tkc_MOST_ROOMS)))
    (ad_START : PySem.W.nsIn K mainGlobals "START" = some (some (.ref u_START)))
    (dl_START : K.lookup u_START = some ⟨.type "tuple", od_START, .seq (List.toArray [Value.int 0 td0_START, Value.int 0 td1_START]) nd_START, sd_START⟩)
    (zz_isinstance : PySem.W.nsIn K mainGlobals "isinstance" = some none)
    (zz_int : PySem.W.nsIn K mainGlobals "int" = some none)
    (zz_bool : PySem.W.nsIn K mainGlobals "bool" = some none)
    (zz_all : PySem.W.nsIn K mainGlobals "all" = some none)
    (zz_str : PySem.W.nsIn K mainGlobals "str" = some none)
    (zz_len : PySem.W.nsIn K mainGlobals "len" = some none)
    (zz_abs : PySem.W.nsIn K mainGlobals "abs" = some none)
    (zz_sorted : PySem.W.nsIn K mainGlobals "sorted" = some none)
    (zz_range : PySem.W.nsIn K mainGlobals "range" = some none)
    (zz_any : PySem.W.nsIn K mainGlobals "any" = some none)
    (zz_tuple : PySem.W.nsIn K mainGlobals "tuple" = some none)
    (zz_list : PySem.W.nsIn K mainGlobals "list" = some none)
    (zz_enumerate : PySem.W.nsIn K mainGlobals "enumerate" = some none)
    (zz_sum : PySem.W.nsIn K mainGlobals "sum" = some none)
    (zz_dict : PySem.W.nsIn K mainGlobals "dict" = some none)
    (zz_set : PySem.W.nsIn K mainGlobals "set" = some none)
    (zz_repr : PySem.W.nsIn K mainGlobals "repr" = some none)
    (fact_x_TooMany_ex : PySem.W.excIn K c_TooMany PySem.HandSPX.veTail "ValueError.__new__" = true)
    (fact_x_TooMany_kp : PySem.W.keepIn K (.ref c_TooMany) = true)
    (fact_x_TooMany_sb : PySem.W.subIn K (.ref c_TooMany) (.type "BaseException") = some true)
    (fact_x_TooMany_ty : PySem.W.typeIn K (.ref c_TooMany) = some (.type "type"))
    (fact_x_TooMany_ic : PySem.W.isClsIn K c_TooMany = true)
    (fact_x_TooMany_hg : PySem.W.findIn K (.ref c_TooMany) "__getattribute__" = some (some (.builtin "BaseException.__getattribute__")))
    (fact_x_TooMany_hk : PySem.W.findIn K (.ref c_TooMany) "__getattr__" = some none)
    (fact_x_TooMany_hd : PySem.W.hasDictIn K c_TooMany = true)
    (fact_x_TooMany_ha : PySem.W.findIn K (.ref c_TooMany) "__class__" = some (some (.builtin "object.__class__")))
    (fact_x_TooMany_hn : PySem.W.specialIn K (.builtin "object.__class__") "__get__" = some (some (.builtin "getset_descriptor.__get__")))
    (fact_x_TooMany_ht : PySem.W.takesIn K (.builtin "object.__class__") = some true)
    (fact_x_TooMany_hm : PySem.W.mroIn K c_TooMany (.type "object") = some true)
    (fact_y_FarError_sb : PySem.W.subIn K (.ref c_FarError) (.type "BaseException") = some true)
    (fact_y_FarError_ty : PySem.W.typeIn K (.ref c_FarError) = some (.type "type"))
    (fact_y_FarError_hd : PySem.W.hasDictIn K c_FarError = true)
    (fact_y_TooMany_sb : PySem.W.subIn K (.ref c_TooMany) (.type "BaseException") = some true)
    (fact_y_TooMany_ty : PySem.W.typeIn K (.ref c_TooMany) = some (.type "type"))
    (fact_y_TooMany_hd : PySem.W.hasDictIn K c_TooMany = true)
    (fact_sub_TooMany_TooMany : PySem.W.subIn K (.ref c_TooMany) (.ref c_TooMany) = some true)
    (to_l_right : Fb.tabOk K "_law_right" = true)
    (tq_l_right : ∃ dd, (recsOf q).find? (fun e => e.name == ("_law_right" : Str)) = some dd)
    (to_p_beside : Fb.tabOk K "beside" = true)
    (tq_p_beside : ∃ dd, (recsOf q).find? (fun e => e.name == ("beside" : Str)) = some dd)
    (tne : Fb.tabNe K "_law_right" "beside" = true)
    : ∃ (fd : FuncData) (cs : List (Addr × Addr)) (sp : Sp), (∀ p ∈ cs, ∃ y dd, (recsOf q).find? (fun e => e.name == y) = some dd ∧ PySem.W.tabIn K y = some p) ∧ (∀ p ∈ cs, K.lookup p.2 = none) ∧ (∀ (s : Shared) (v : Value), BindsTo s fd ⟨[v], []⟩ [("_law_script", v)]) ∧ (∀ (H : Hp) (a : Addr) (ns : List Int), ns.length ≤ 63 → (∀ p ∈ cs, H p.2 = some (.tbl #[])) → SqL K H a (ns.map V.int) → sp [.ref a] H (fun v _ => v = .bl true) fun _ _ _ => False) ∧ ∀ base : Heap, K.In base → base.Ns mainGlobals mg → (∀ p ∈ cs, LamX.TabB base mg p.1 p.2) → Fb.FnOkG l.prog w K mg base CX0 17 fa fd ["_law_script"] sp := by
  have e := hfa.symm.trans (PySem.W.mg_of X G a_law)
  cases e
  have F_m_NoMachine_init := fun_mk (st := s_m_NoMachine_init) l_m_NoMachine_init c_m_NoMachine_init_ k_m_NoMachine_init_
  have b_m_NoMachine_init := F_m_NoMachine_init.binds (ps := ["self", "part"]) fun _ _ _ _ _ _ us hl => match us, hl with | [_, _], _ => rfl
  have F_m_NoSign_init := fun_mk (st := s_m_NoSign_init) l_m_NoSign_init c_m_NoSign_init_ k_m_NoSign_init_
  have b_m_NoSign_init := F_m_NoSign_init.binds (ps := ["self", "sign"]) fun _ _ _ _ _ _ us hl => match us, hl with | [_, _], _ => rfl
  have F_p_is_whole := fun_mk (st := s_p_is_whole) l_p_is_whole c_p_is_whole_ k_p_is_whole_
  have b_p_is_whole := F_p_is_whole.binds (ps := ["thing"]) fun _ _ _ _ _ _ us hl => match us, hl with | [_], _ => rfl
  have F_p_is_name := fun_mk (st := s_p_is_name) l_p_is_name c_p_is_name_ k_p_is_name_
  have b_p_is_name := F_p_is_name.binds (ps := ["thing"]) fun _ _ _ _ _ _ us hl => match us, hl with | [_], _ => rfl
  have F_p_common_part := fun_mk (st := s_p_common_part) l_p_common_part c_p_common_part_ k_p_common_part_
  have b_p_common_part := F_p_common_part.binds (ps := ["one", "other"]) fun _ _ _ _ _ _ us hl => match us, hl with | [_, _], _ => rfl
  have F_m_Machine_init := fun_mk (st := s_m_Machine_init) l_m_Machine_init c_m_Machine_init_ k_m_Machine_init_
  have b_m_Machine_init := F_m_Machine_init.binds (ps := ["self", "many", "steps"]) fun _ _ _ _ _ _ us hl => match us, hl with | [_, _, _], _ => rfl
  have F_m_Machine_eq := fun_mk (st := s_m_Machine_eq) l_m_Machine_eq c_m_Machine_eq_ k_m_Machine_eq_
  have b_m_Machine_eq := F_m_Machine_eq.binds (ps := ["self", "other"]) fun _ _ _ _ _ _ us hl => match us, hl with | [_, _], _ => rfl
  have F_m_Machine_len := fun_mk (st := s_m_Machine_len) l_m_Machine_len c_m_Machine_len_ k_m_Machine_len_
  have b_m_Machine_len := F_m_Machine_len.binds (ps := ["self"]) fun _ _ _ _ _ _ us hl => match us, hl with | [_], _ => rfl
  have F_p_is_room := fun_mk (st := s_p_is_room) l_p_is_room c_p_is_room_ k_p_is_room_
  have b_p_is_room := F_p_is_room.binds (ps := ["thing", "many"]) fun _ _ _ _ _ _ us hl => match us, hl with | [_, _], _ => rfl
  have F_p_are_weights := fun_mk (st := s_p_are_weights) l_p_are_weights c_p_are_weights_ k_p_are_weights_
  have b_p_are_weights := F_p_are_weights.binds (ps := ["thing", "many"]) fun _ _ _ _ _ _ us hl => match us, hl with | [_, _], _ => rfl
  have F_p_is_step := fun_mk (st := s_p_is_step) l_p_is_step c_p_is_step_ k_p_is_step_
  have b_p_is_step := F_p_is_step.binds (ps := ["thing", "many"]) fun _ _ _ _ _ _ us hl => match us, hl with | [_, _], _ => rfl
  have F_p_are_steps := fun_mk (st := s_p_are_steps) l_p_are_steps c_p_are_steps_ k_p_are_steps_
  have b_p_are_steps := F_p_are_steps.binds (ps := ["thing", "many"]) fun _ _ _ _ _ _ us hl => match us, hl with | [_, _], _ => rfl
  have F_p_lowest := fun_mk (st := s_p_lowest) l_p_lowest c_p_lowest_ k_p_lowest_
  have b_p_lowest := F_p_lowest.binds (ps := ["weights"]) fun _ _ _ _ _ _ us hl => match us, hl with | [_], _ => rfl
  have F_p_doors_of := fun_mk (st := s_p_doors_of) l_p_doors_of c_p_doors_of_ k_p_doors_of_
  have b_p_doors_of := F_p_doors_of.binds (ps := ["machine"]) fun _ _ _ _ _ _ us hl => match us, hl with | [_], _ => rfl
  have F_p_are_unlike := fun_mk (st := s_p_are_unlike) l_p_are_unlike c_p_are_unlike_ k_p_are_unlike_
  have b_p_are_unlike := F_p_are_unlike.binds (ps := ["names"]) fun _ _ _ _ _ _ us hl => match us, hl with | [_], _ => rfl
  have F_p_are_signs := fun_mk (st := s_p_are_signs) l_p_are_signs c_p_are_signs_ k_p_are_signs_
  have b_p_are_signs := F_p_are_signs.binds (ps := ["thing"]) fun _ _ _ _ _ _ us hl => match us, hl with | [_], _ => rfl
  have F_p_check_signs := fun_mk (st := s_p_check_signs) l_p_check_signs c_p_check_signs_ k_p_check_signs_
  have b_p_check_signs := F_p_check_signs.binds (ps := ["thing"]) fun _ _ _ _ _ _ us hl => match us, hl with | [_], _ => rfl
  have F_p_found_machine := fun_mk (st := s_p_found_machine) l_p_found_machine c_p_found_machine_ k_p_found_machine_
  have b_p_found_machine := F_p_found_machine.binds (ps := ["first", "goals_of"]) fun _ _ _ _ _ _ us hl => match us, hl with | [_, _], _ => rfl
  have F_p_sorted_by_sign := fun_mk (st := s_p_sorted_by_sign) l_p_sorted_by_sign c_p_sorted_by_sign_ k_p_sorted_by_sign_
  have b_p_sorted_by_sign := F_p_sorted_by_sign.binds (ps := ["goals_by_sign"]) fun _ _ _ _ _ _ us hl => match us, hl with | [_], _ => rfl
  have F_p_number_new := fun_mk (st := s_p_number_new) l_p_number_new c_p_number_new_ k_p_number_new_
  have b_p_number_new := F_p_number_new.binds (ps := ["numbers", "found", "goals"]) fun _ _ _ _ _ _ us hl => match us, hl with | [_, _, _], _ => rfl
  have F_p_weights_of := fun_mk (st := s_p_weights_of) l_p_weights_of c_p_weights_of_ k_p_weights_of_
  have b_p_weights_of := F_p_weights_of.binds (ps := ["goals", "numbers"]) fun _ _ _ _ _ _ us hl => match us, hl with | [_, _], _ => rfl
  have F_p_beside := fun_mk (st := s_p_beside) l_p_beside c_p_beside_ k_p_beside_
  have b_p_beside := F_p_beside.binds (ps := ["shared", "one", "other"]) fun _ _ _ _ _ _ us hl => match us, hl with | [_, _, _], _ => rfl
  have F_p_goals_beside := fun_mk (st := s_p_goals_beside) l_p_goals_beside c_p_goals_beside_ k_p_goals_beside_
  have b_p_goals_beside := F_p_goals_beside.binds (ps := ["shared", "pair", "ours", "theirs"]) fun _ _ _ _ _ _ us hl => match us, hl with | [_, _, _, _], _ => rfl
  have F_p_goals_at_once := fun_mk (st := s_p_goals_at_once) l_p_goals_at_once c_p_goals_at_once_ k_p_goals_at_once_
  have b_p_goals_at_once := F_p_goals_at_once.binds (ps := ["ours", "theirs"]) fun _ _ _ _ _ _ us hl => match us, hl with | [_, _], _ => rfl
  have F_p_goals_of_one := fun_mk (st := s_p_goals_of_one) l_p_goals_of_one c_p_goals_of_one_ k_p_goals_of_one_
  have b_p_goals_of_one := F_p_goals_of_one.binds (ps := ["pair", "ours", "theirs"]) fun _ _ _ _ _ _ us hl => match us, hl with | [_, _, _], _ => rfl
  have F_l_well := fun_mk (st := s_l_well) l_l_well c_l_well_ k_l_well_
  have b_l_well := F_l_well.binds (ps := ["_law_cell"]) fun _ _ _ _ _ _ us hl => match us, hl with | [_], _ => rfl
  have F_l_draw := fun_mk (st := s_l_draw) l_l_draw c_l_draw_ k_l_draw_
  have b_l_draw := F_l_draw.binds (ps := ["_law_well_here", "_law_many"]) fun _ _ _ _ _ _ us hl => match us, hl with | [_, _], _ => rfl
  have F_l_one := fun_mk (st := s_l_one) l_l_one c_l_one_ k_l_one_
  have b_l_one := F_l_one.binds (ps := ["_law_well_here", "_law_some"]) fun _ _ _ _ _ _ us hl => match us, hl with | [_, _], _ => rfl
  have F_l_names := fun_mk (st := s_l_names) l_l_names c_l_names_ k_l_names_
  have b_l_names := F_l_names.binds (ps := ["_law_well_here", "_law_many"]) fun _ _ _ _ _ _ us hl => match us, hl with | [_, _], _ => rfl
  have F_l_weights := fun_mk (st := s_l_weights) l_l_weights c_l_weights_ k_l_weights_
  have b_l_weights := F_l_weights.binds (ps := ["_law_well_here", "_law_many"]) fun _ _ _ _ _ _ us hl => match us, hl with | [_, _], _ => rfl
  have F_l_machine := fun_mk (st := s_l_machine) l_l_machine c_l_machine_ k_l_machine_
  have b_l_machine := F_l_machine.binds (ps := ["_law_well_here", "_law_signs", "_law_most"]) fun _ _ _ _ _ _ us hl => match us, hl with | [_, _, _], _ => rfl
  have F_l_divided := fun_mk (st := s_l_divided) l_l_divided c_l_divided_ k_l_divided_
  have b_l_divided := F_l_divided.binds (ps := ["_law_weights_here"]) fun _ _ _ _ _ _ us hl => match us, hl with | [_], _ => rfl
  have F_l_by := fun_mk (st := s_l_by) l_l_by c_l_by_ k_l_by_
  have b_l_by := F_l_by.binds (ps := ["_law_steps", "_law_room"]) fun _ _ _ _ _ _ us hl => match us, hl with | [_, _], _ => rfl
  have F_l_both := fun_mk (st := s_l_both) l_l_both c_l_both_ k_l_both_
  have b_l_both := F_l_both.binds (ps := ["_law_mine", "_law_yours"]) fun _ _ _ _ _ _ us hl => match us, hl with | [_, _], _ => rfl
  have F_l_onward := fun_mk (st := s_l_onward) l_l_onward c_l_onward_ k_l_onward_
  have b_l_onward := F_l_onward.binds (ps := ["_law_shared", "_law_pair", "_law_mine", "_law_yours", "_law_sign"]) fun _ _ _ _ _ _ us hl => match us, hl with | [_, _, _, _, _], _ => rfl
  have F_l_due := fun_mk (st := s_l_due) l_l_due c_l_due_ k_l_due_
  have b_l_due := F_l_due.binds (ps := ["_law_shared", "_law_mine", "_law_yours"]) fun _ _ _ _ _ _ us hl => match us, hl with | [_, _, _], _ => rfl
  have F_l_said := fun_mk (st := s_l_said) l_l_said c_l_said_ k_l_said_
  have b_l_said := F_l_said.binds (ps := ["_law_deed"]) fun _ _ _ _ _ _ us hl => match us, hl with | [_], _ => rfl
  have F_l_right := fun_mk (st := s_l_right) l_l_right c_l_right_ k_l_right_
  have b_l_right := F_l_right.binds (ps := ["_law_well_here"]) fun _ _ _ _ _ _ us hl => match us, hl with | [_], _ => rfl
  have F_law := fun_mk (st := s_law) l_law c_law_ k_law_
  have b_law := F_law.binds (ps := ["_law_script"]) fun _ _ _ _ _ _ us hl => match us, hl with | [_], _ => rfl
  obtain ⟨tc_l_right, tp_l_right, tb_l_right, tn_l_right⟩ := tabOk_ex to_l_right
  obtain ⟨tc_p_beside, tp_p_beside, tb_p_beside, tn_p_beside⟩ := tabOk_ex to_p_beside
  exact ⟨PySem.W.fnOf "law" "law" (defArgs s_law) (defBody s_law) (defScope s_law) .none kV_law dc_law pm_law an_law cd_law ct_law, [(tc_l_right, tp_l_right), (tc_p_beside, tp_p_beside)], Fb.spLaw K tp_l_right tp_p_beside, fun p hp => by
      rcases List.mem_cons.mp hp with rfl | hp
      · exact tq_l_right.elim fun dd h => ⟨_, dd, h, tb_l_right⟩
      · rw [List.mem_singleton.mp hp]
        exact tq_p_beside.elim fun dd h => ⟨_, dd, h, tb_p_beside⟩, fun p hp => by
      rcases List.mem_cons.mp hp with rfl | hp
      · exact tn_l_right
      · rw [List.mem_singleton.mp hp]
        exact tn_p_beside, fun s v => .of_eq rfl, fun H a ns hl hT hS => ⟨a, ns, rfl, hS, hl, hT _ List.mem_cons_self, hT _ (List.mem_cons_of_mem _ List.mem_cons_self), fun _ => rfl⟩, fun base _ _ TB => ok_law (⟨c_FarError, (PySem.W.mg_of X G a_FarError), c_NoMachine, (PySem.W.mg_of X G a_NoMachine), c_NoSign, (PySem.W.mg_of X G a_NoSign), c_TooMany, (PySem.W.mg_of X G a_TooMany), c_Machine, (PySem.W.mg_of X G a_Machine), f_m_NoMachine_init, _, F_m_NoMachine_init, b_m_NoMachine_init, f_m_NoSign_init, _, F_m_NoSign_init, b_m_NoSign_init, f_p_is_whole, _, F_p_is_whole, b_p_is_whole, (PySem.W.mg_of X G a_p_is_whole), f_p_is_name, _, F_p_is_name, b_p_is_name, (PySem.W.mg_of X G a_p_is_name), f_p_common_part, _, F_p_common_part, b_p_common_part, (PySem.W.mg_of X G a_p_common_part), f_m_Machine_init, _, F_m_Machine_init, b_m_Machine_init, f_m_Machine_eq, _, F_m_Machine_eq, b_m_Machine_eq, f_m_Machine_len, _, F_m_Machine_len, b_m_Machine_len, f_p_is_room, _, F_p_is_room, b_p_is_room, (PySem.W.mg_of X G a_p_is_room), f_p_are_weights, _, F_p_are_weights, b_p_are_weights, (PySem.W.mg_of X G a_p_are_weights), f_p_is_step, _, F_p_is_step, b_p_is_step, (PySem.W.mg_of X G a_p_is_step), f_p_are_steps, _, F_p_are_steps, b_p_are_steps, (PySem.W.mg_of X G a_p_are_steps), f_p_lowest, _, F_p_lowest, b_p_lowest, (PySem.W.mg_of X G a_p_lowest), f_p_doors_of, _, F_p_doors_of, b_p_doors_of, (PySem.W.mg_of X G a_p_doors_of), f_p_are_unlike, _, F_p_are_unlike, b_p_are_unlike, (PySem.W.mg_of X G a_p_are_unlike), f_p_are_signs, _, F_p_are_signs, b_p_are_signs, (PySem.W.mg_of X G a_p_are_signs), f_p_check_signs, _, F_p_check_signs, b_p_check_signs, (PySem.W.mg_of X G a_p_check_signs), f_p_found_machine, _, F_p_found_machine, b_p_found_machine, (PySem.W.mg_of X G a_p_found_machine), f_p_sorted_by_sign, _, F_p_sorted_by_sign, b_p_sorted_by_sign, (PySem.W.mg_of X G a_p_sorted_by_sign), f_p_number_new, _, F_p_number_new, b_p_number_new, (PySem.W.mg_of X G a_p_number_new), f_p_weights_of, _, F_p_weights_of, b_p_weights_of, (PySem.W.mg_of X G a_p_weights_of), f_p_beside, _, F_p_beside, b_p_beside, (PySem.W.mg_of X G a_p_beside), f_p_goals_beside, _, F_p_goals_beside, b_p_goals_beside, (PySem.W.mg_of X G a_p_goals_beside), f_p_goals_at_once, _, F_p_goals_at_once, b_p_goals_at_once, (PySem.W.mg_of X G a_p_goals_at_once), f_p_goals_of_one, _, F_p_goals_of_one, b_p_goals_of_one, (PySem.W.mg_of X G a_p_goals_of_one), f_l_well, _, F_l_well, b_l_well, (PySem.W.mg_of X G a_l_well), f_l_draw, _, F_l_draw, b_l_draw, (PySem.W.mg_of X G a_l_draw), f_l_one, _, F_l_one, b_l_one, (PySem.W.mg_of X G a_l_one), f_l_names, _, F_l_names, b_l_names, (PySem.W.mg_of X G a_l_names), f_l_weights, _, F_l_weights, b_l_weights, (PySem.W.mg_of X G a_l_weights), f_l_machine, _, F_l_machine, b_l_machine, (PySem.W.mg_of X G a_l_machine), f_l_divided, _, F_l_divided, b_l_divided, (PySem.W.mg_of X G a_l_divided), f_l_by, _, F_l_by, b_l_by, (PySem.W.mg_of X G a_l_by), f_l_both, _, F_l_both, b_l_both, (PySem.W.mg_of X G a_l_both), f_l_onward, _, F_l_onward, b_l_onward, (PySem.W.mg_of X G a_l_onward), f_l_due, _, F_l_due, b_l_due, (PySem.W.mg_of X G a_l_due), f_l_said, _, F_l_said, b_l_said, (PySem.W.mg_of X G a_l_said), f_l_right, _, F_l_right, b_l_right, (PySem.W.mg_of X G a_l_right), _, _, F_law, b_law, (PySem.W.mg_of X G a_law), ⟨pg_Machine, hd_Machine, po_Machine, sa_Machine⟩, ⟨mk_Machine, a_m_Machine_init, if_Machine, kc_Machine⟩, ⟨ha_Machine, hn_Machine, ht_Machine, hm_Machine⟩, n_Machine_many, n_Machine_steps, ⟨a_m_Machine_eq, i_m_Machine_eq, k_m_Machine_eq_⟩, ⟨a_m_Machine_len, i_m_Machine_len, k_m_Machine_len_⟩, nn_Machine, nf_Machine_int, nf_Machine_str, nf_Machine_NoneType, nf_Machine_list, nf_Machine_tuple, nf_Machine_dict, nf_Machine_bool, ko_Machine, ko_Machine_int, ko_Machine_str, ko_Machine_NoneType, ko_Machine_list, ko_Machine_tuple, ko_Machine_dict, ko_Machine_bool, _, (PySem.W.mg_of X G ac_LETTERS), ⟨_, rfl⟩, _, (PySem.W.mg_of X G ac_LONGEST_NAME), ⟨_, rfl⟩, _, (PySem.W.mg_of X G ac_MOST_ROOMS), ⟨_, rfl⟩, u_START, (PySem.W.mg_of X G ad_START), ⟨_, _, _, dl_START, rfl, rfl, by simp [sizeLine], (.cons ⟨_, rfl⟩ (.cons ⟨_, rfl⟩ .nil))⟩, (PySem.W.mg_none_of X G zz_isinstance), (PySem.W.mg_none_of X G zz_int), (PySem.W.mg_none_of X G zz_bool), (PySem.W.mg_none_of X G zz_all), (PySem.W.mg_none_of X G zz_str), (PySem.W.mg_none_of X G zz_len), (PySem.W.mg_none_of X G zz_abs), (PySem.W.mg_none_of X G zz_sorted), (PySem.W.mg_none_of X G zz_range), (PySem.W.mg_none_of X G zz_any), (PySem.W.mg_none_of X G zz_tuple), (PySem.W.mg_none_of X G zz_list), (PySem.W.mg_none_of X G zz_enumerate), (PySem.W.mg_none_of X G zz_sum), (PySem.W.mg_none_of X G zz_dict), (PySem.W.mg_none_of X G zz_set), (PySem.W.mg_none_of X G zz_repr), fact_x_TooMany_ex, fact_x_TooMany_kp, fact_x_TooMany_sb, fact_x_TooMany_ty, fact_x_TooMany_ic, fact_x_TooMany_hg, fact_x_TooMany_hk, fact_x_TooMany_hd, fact_x_TooMany_ha, fact_x_TooMany_hn, fact_x_TooMany_ht, fact_x_TooMany_hm, fact_y_FarError_sb, fact_y_FarError_ty, fact_y_FarError_hd, fact_y_TooMany_sb, fact_y_TooMany_ty, fact_y_TooMany_hd, fact_sub_TooMany_TooMany⟩ : Txt K mg) (code_is tb_l_right a_l_right l_l_right) (TB _ List.mem_cons_self) (code_is tb_p_beside a_p_beside l_p_beside) (TB _ (List.mem_cons_of_mem _ List.mem_cons_self)) (tabNe_ne tne tb_l_right tb_p_beside)⟩
end Fb
open PySem PySem.W PyProof.Rows
set_option maxRecDepth 100000 in
set_option maxHeartbeats 0 in
theorem PySem.Challenge.cw_farbetween_k67_side_by_side_holds : PySem.Challenge.rw_farbetween_k67_side_by_side.Holds := by
  w_on; o_law; k_head; (case hw => w_witness2)
  k_fill
  refine Fb.walk_ofTG (l := PySem.Challenge.rw_farbetween_k67_side_by_side) (n := 63) (k := 17) (x := "_law_script") rfl (by decide) rfl ⟨rfl, by decide, by decide⟩ (fun w h Y => PySem.W.km_in_of Y) ?F
  case F =>
    intro w mg fa h KX G hmg
    refine' Fb.all_mk KX G hmg ?a_FarError ?a_NoMachine ?a_NoSign ?a_TooMany ?a_Machine ?a_m_NoMachine_init ?l_m_NoMachine_init ?c_m_NoMachine_init_ ?k_m_NoMachine_init_ ?a_m_NoSign_init ?l_m_NoSign_init ?c_m_NoSign_init_ ?k_m_NoSign_init_ ?a_p_is_whole ?l_p_is_whole ?c_p_is_whole_ ?k_p_is_whole_ ?a_p_is_name ?l_p_is_name ?c_p_is_name_ ?k_p_is_name_ ?a_p_common_part ?l_p_common_part ?c_p_common_part_ ?k_p_common_part_ ?a_m_Machine_init ?l_m_Machine_init ?c_m_Machine_init_ ?k_m_Machine_init_ ?a_m_Machine_eq ?l_m_Machine_eq ?c_m_Machine_eq_ ?k_m_Machine_eq_ ?a_m_Machine_len ?l_m_Machine_len ?c_m_Machine_len_ ?k_m_Machine_len_ ?a_p_is_room ?l_p_is_room ?c_p_is_room_ ?k_p_is_room_ ?a_p_are_weights ?l_p_are_weights ?c_p_are_weights_ ?k_p_are_weights_ ?a_p_is_step ?l_p_is_step ?c_p_is_step_ ?k_p_is_step_ ?a_p_are_steps ?l_p_are_steps ?c_p_are_steps_ ?k_p_are_steps_ ?a_p_lowest ?l_p_lowest ?c_p_lowest_ ?k_p_lowest_ ?a_p_doors_of ?l_p_doors_of ?c_p_doors_of_ ?k_p_doors_of_ ?a_p_are_unlike ?l_p_are_unlike ?c_p_are_unlike_ ?k_p_are_unlike_ ?a_p_are_signs ?l_p_are_signs ?c_p_are_signs_ ?k_p_are_signs_ ?a_p_check_signs ?l_p_check_signs ?c_p_check_signs_ ?k_p_check_signs_ ?a_p_found_machine ?l_p_found_machine ?c_p_found_machine_ ?k_p_found_machine_ ?a_p_sorted_by_sign ?l_p_sorted_by_sign ?c_p_sorted_by_sign_ ?k_p_sorted_by_sign_ ?a_p_number_new ?l_p_number_new ?c_p_number_new_ ?k_p_number_new_ ?a_p_weights_of ?l_p_weights_of ?c_p_weights_of_ ?k_p_weights_of_ ?a_p_beside ?l_p_beside ?c_p_beside_ ?k_p_beside_ ?a_p_goals_beside ?l_p_goals_beside ?c_p_goals_beside_ ?k_p_goals_beside_ ?a_p_goals_at_once ?l_p_goals_at_once ?c_p_goals_at_once_ ?k_p_goals_at_once_ ?a_p_goals_of_one ?l_p_goals_of_one ?c_p_goals_of_one_ ?k_p_goals_of_one_ ?a_l_well ?l_l_well ?c_l_well_ ?k_l_well_ ?a_l_draw ?l_l_draw ?c_l_draw_ ?k_l_draw_ ?a_l_one ?l_l_one ?c_l_one_ ?k_l_one_ ?a_l_names ?l_l_names ?c_l_names_ ?k_l_names_ ?a_l_weights ?l_l_weights ?c_l_weights_ ?k_l_weights_ ?a_l_machine ?l_l_machine ?c_l_machine_ ?k_l_machine_ ?a_l_divided ?l_l_divided ?c_l_divided_ ?k_l_divided_ ?a_l_by ?l_l_by ?c_l_by_ ?k_l_by_ ?a_l_both ?l_l_both ?c_l_both_ ?k_l_both_ ?a_l_onward ?l_l_onward ?c_l_onward_ ?k_l_onward_ ?a_l_due ?l_l_due ?c_l_due_ ?k_l_due_ ?a_l_said ?l_l_said ?c_l_said_ ?k_l_said_ ?a_l_right ?l_l_right ?c_l_right_ ?k_l_right_ ?a_law ?l_law ?c_law_ ?k_law_ ?pg_Machine ?hd_Machine ?po_Machine ?sa_Machine ?mk_Machine ?kc_Machine ?if_Machine ?ha_Machine ?hn_Machine ?ht_Machine ?hm_Machine ?n_Machine_many ?n_Machine_steps ?i_m_Machine_eq ?i_m_Machine_len ?nn_Machine ?nf_Machine_int ?nf_Machine_str ?nf_Machine_NoneType ?nf_Machine_list ?nf_Machine_tuple ?nf_Machine_dict ?nf_Machine_bool ?ko_Machine ?ko_Machine_int ?ko_Machine_str ?ko_Machine_NoneType ?ko_Machine_list ?ko_Machine_tuple ?ko_Machine_dict ?ko_Machine_bool ?ac_LETTERS ?ac_LONGEST_NAME ?ac_MOST_ROOMS ?ad_START ?dl_START ?zz_isinstance ?zz_int ?zz_bool ?zz_all ?zz_str ?zz_len ?zz_abs ?zz_sorted ?zz_range ?zz_any ?zz_tuple ?zz_list ?zz_enumerate ?zz_sum ?zz_dict ?zz_set ?zz_repr ?fact_x_TooMany_ex ?fact_x_TooMany_kp ?fact_x_TooMany_sb ?fact_x_TooMany_ty ?fact_x_TooMany_ic ?fact_x_TooMany_hg ?fact_x_TooMany_hk ?fact_x_TooMany_hd ?fact_x_TooMany_ha ?fact_x_TooMany_hn ?fact_x_TooMany_ht ?fact_x_TooMany_hm ?fact_y_FarError_sb ?fact_y_FarError_ty ?fact_y_FarError_hd ?fact_y_TooMany_sb ?fact_y_TooMany_ty ?fact_y_TooMany_hd ?fact_sub_TooMany_TooMany ?to_l_right ?tq_l_right ?to_p_beside ?tq_p_beside ?tne
    (case a_FarError => k_is)
    (case a_NoMachine => k_is)
    (case a_NoSign => k_is)
    (case a_TooMany => k_is)
    (case a_Machine => k_is)
    (case a_m_NoMachine_init => k_is)
    (case l_m_NoMachine_init => k_is)
    (case c_m_NoMachine_init_ => k_is)
    (case k_m_NoMachine_init_ => k_is)
    (case a_m_NoSign_init => k_is)
    (case l_m_NoSign_init => k_is)
    (case c_m_NoSign_init_ => k_is)
    (case k_m_NoSign_init_ => k_is)
    (case a_p_is_whole => k_is)
    (case l_p_is_whole => k_is)
    (case c_p_is_whole_ => k_is)
    (case k_p_is_whole_ => k_is)
    (case a_p_is_name => k_is)
    (case l_p_is_name => k_is)
    (case c_p_is_name_ => k_is)
    (case k_p_is_name_ => k_is)
    (case a_p_common_part => k_is)
    (case l_p_common_part => k_is)
    (case c_p_common_part_ => k_is)
    (case k_p_common_part_ => k_is)
    (case a_m_Machine_init => k_is)
    (case l_m_Machine_init => k_is)
    (case c_m_Machine_init_ => k_is)
    (case k_m_Machine_init_ => k_is)
    (case a_m_Machine_eq => k_is)
    (case l_m_Machine_eq => k_is)
    (case c_m_Machine_eq_ => k_is)
    (case k_m_Machine_eq_ => k_is)
    (case a_m_Machine_len => k_is)
    (case l_m_Machine_len => k_is)
    (case c_m_Machine_len_ => k_is)
    (case k_m_Machine_len_ => k_is)
    (case a_p_is_room => k_is)
    (case l_p_is_room => k_is)
    (case c_p_is_room_ => k_is)
    (case k_p_is_room_ => k_is)
    (case a_p_are_weights => k_is)
    (case l_p_are_weights => k_is)
    (case c_p_are_weights_ => k_is)
    (case k_p_are_weights_ => k_is)
    (case a_p_is_step => k_is)
    (case l_p_is_step => k_is)
    (case c_p_is_step_ => k_is)
    (case k_p_is_step_ => k_is)
    (case a_p_are_steps => k_is)
    (case l_p_are_steps => k_is)
    (case c_p_are_steps_ => k_is)
    (case k_p_are_steps_ => k_is)
    (case a_p_lowest => k_is)
    (case l_p_lowest => k_is)
    (case c_p_lowest_ => k_is)
    (case k_p_lowest_ => k_is)
    (case a_p_doors_of => k_is)
    (case l_p_doors_of => k_is)
    (case c_p_doors_of_ => k_is)
    (case k_p_doors_of_ => k_is)
    (case a_p_are_unlike => k_is)
    (case l_p_are_unlike => k_is)
    (case c_p_are_unlike_ => k_is)
    (case k_p_are_unlike_ => k_is)
    (case a_p_are_signs => k_is)
    (case l_p_are_signs => k_is)
    (case c_p_are_signs_ => k_is)
    (case k_p_are_signs_ => k_is)
    (case a_p_check_signs => k_is)
    (case l_p_check_signs => k_is)
    (case c_p_check_signs_ => k_is)
    (case k_p_check_signs_ => k_is)
    (case a_p_found_machine => k_is)
    (case l_p_found_machine => k_is)
    (case c_p_found_machine_ => k_is)
    (case k_p_found_machine_ => k_is)
    (case a_p_sorted_by_sign => k_is)
    (case l_p_sorted_by_sign => k_is)
    (case c_p_sorted_by_sign_ => k_is)
    (case k_p_sorted_by_sign_ => k_is)
    (case a_p_number_new => k_is)
    (case l_p_number_new => k_is)
    (case c_p_number_new_ => k_is)
    (case k_p_number_new_ => k_is)
    (case a_p_weights_of => k_is)
    (case l_p_weights_of => k_is)
    (case c_p_weights_of_ => k_is)
    (case k_p_weights_of_ => k_is)
    (case a_p_beside => k_is)
    (case l_p_beside => k_is)
    (case c_p_beside_ => k_is)
    (case k_p_beside_ => k_is)
    (case a_p_goals_beside => k_is)
    (case l_p_goals_beside => k_is)
    (case c_p_goals_beside_ => k_is)
    (case k_p_goals_beside_ => k_is)
    (case a_p_goals_at_once => k_is)
    (case l_p_goals_at_once => k_is)
    (case c_p_goals_at_once_ => k_is)
    (case k_p_goals_at_once_ => k_is)
    (case a_p_goals_of_one => k_is)
    (case l_p_goals_of_one => k_is)
    (case c_p_goals_of_one_ => k_is)
    (case k_p_goals_of_one_ => k_is)
    (case a_l_well => k_is)
    (case l_l_well => k_is)
    (case c_l_well_ => k_is)
    (case k_l_well_ => k_is)
    (case a_l_draw => k_is)
    (case l_l_draw => k_is)
    (case c_l_draw_ => k_is)
    (case k_l_draw_ => k_is)
    (case a_l_one => k_is)
    (case l_l_one => k_is)
    (case c_l_one_ => k_is)
    (case k_l_one_ => k_is)
    (case a_l_names => k_is)
    (case l_l_names => k_is)
    (case c_l_names_ => k_is)
    (case k_l_names_ => k_is)
    (case a_l_weights => k_is)
    (case l_l_weights => k_is)
    (case c_l_weights_ => k_is)
    (case k_l_weights_ => k_is)
    (case a_l_machine => k_is)
    (case l_l_machine => k_is)
    (case c_l_machine_ => k_is)
    (case k_l_machine_ => k_is)
    (case a_l_divided => k_is)
    (case l_l_divided => k_is)
    (case c_l_divided_ => k_is)
    (case k_l_divided_ => k_is)
    (case a_l_by => k_is)
    (case l_l_by => k_is)
    (case c_l_by_ => k_is)
    (case k_l_by_ => k_is)
    (case a_l_both => k_is)
    (case l_l_both => k_is)
    (case c_l_both_ => k_is)
    (case k_l_both_ => k_is)
    (case a_l_onward => k_is)
    (case l_l_onward => k_is)
    (case c_l_onward_ => k_is)
    (case k_l_onward_ => k_is)
    (case a_l_due => k_is)
    (case l_l_due => k_is)
    (case c_l_due_ => k_is)
    (case k_l_due_ => k_is)
    (case a_l_said => k_is)
    (case l_l_said => k_is)
    (case c_l_said_ => k_is)
    (case k_l_said_ => k_is)
    (case a_l_right => k_is)
    (case l_l_right => k_is)
    (case c_l_right_ => k_is)
    (case k_l_right_ => k_is)
    (case a_law => k_is)
    (case l_law => k_is)
    (case c_law_ => k_is)
    (case k_law_ => k_is)
    (case pg_Machine => k_is)
    (case hd_Machine => k_is)
    (case po_Machine => k_is)
    (case sa_Machine => k_is)
    (case mk_Machine => k_is)
    (case kc_Machine => k_is)
    (case if_Machine => k_is)
    (case ha_Machine => k_is)
    (case hn_Machine => k_is)
    (case ht_Machine => k_is)
    (case hm_Machine => k_is)
    (case n_Machine_many => k_is)
    (case n_Machine_steps => k_is)
    (case i_m_Machine_eq => k_is)
    (case i_m_Machine_len => k_is)
    (case nn_Machine => k_is)
    (case nf_Machine_int => k_is)
    (case nf_Machine_str => k_is)
    (case nf_Machine_NoneType => k_is)
    (case nf_Machine_list => k_is)
    (case nf_Machine_tuple => k_is)
    (case nf_Machine_dict => k_is)
    (case nf_Machine_bool => k_is)
    (case ko_Machine => kit_is)
    (case ko_Machine_int => kit_is)
    (case ko_Machine_str => kit_is)
    (case ko_Machine_NoneType => kit_is)
    (case ko_Machine_list => kit_is)
    (case ko_Machine_tuple => kit_is)
    (case ko_Machine_dict => kit_is)
    (case ko_Machine_bool => kit_is)
    (case ac_LETTERS => k_is)
    (case ac_LONGEST_NAME => k_is)
    (case ac_MOST_ROOMS => k_is)
    (case ad_START => k_is)
    (case dl_START => k_is)
    (case zz_isinstance => k_is)
    (case zz_int => k_is)
    (case zz_bool => k_is)
    (case zz_all => k_is)
    (case zz_str => k_is)
    (case zz_len => k_is)
    (case zz_abs => k_is)
    (case zz_sorted => k_is)
    (case zz_range => k_is)
    (case zz_any => k_is)
    (case zz_tuple => k_is)
    (case zz_list => k_is)
    (case zz_enumerate => k_is)
    (case zz_sum => k_is)
    (case zz_dict => k_is)
    (case zz_set => k_is)
    (case zz_repr => k_is)
    (case fact_x_TooMany_ex => k_exc)
    (case fact_x_TooMany_kp => k_is)
    (case fact_x_TooMany_sb => k_is)
    (case fact_x_TooMany_ty => k_is)
    (case fact_x_TooMany_ic => k_is)
    (case fact_x_TooMany_hg => k_is)
    (case fact_x_TooMany_hk => k_is)
    (case fact_x_TooMany_hd => k_is)
    (case fact_x_TooMany_ha => k_is)
    (case fact_x_TooMany_hn => k_is)
    (case fact_x_TooMany_ht => k_is)
    (case fact_x_TooMany_hm => k_is)
    (case fact_y_FarError_sb => k_is)
    (case fact_y_FarError_ty => k_is)
    (case fact_y_FarError_hd => k_is)
    (case fact_y_TooMany_sb => k_is)
    (case fact_y_TooMany_ty => k_is)
    (case fact_y_TooMany_hd => k_is)
    (case fact_sub_TooMany_TooMany => first | rfl | k_is)
    (case to_l_right => kernel_rfl)
    (case tq_l_right => exact ⟨_, rfl⟩)
    (case to_p_beside => kernel_rfl)
    (case tq_p_beside => exact ⟨_, rfl⟩)
    (case tne => kernel_rfl)
