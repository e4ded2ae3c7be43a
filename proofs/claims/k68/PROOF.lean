import PyProof.Rows.All
import Wide.All
import OpenK.AllK
import Wide.FinOn
import HandS.ForMost
import HandS.Wide
import HandS.IsInst
import HandS.Defaults
import HandS.OwnEq
import HandS.Zip
import HandS.Style
import HandS.SetFor
import KE.RegKIsAll
import HandS.FStr
import HandS.NoneIn
import HandS.Exc
import HandS.TryOnly
import HandS.ExcOwn
import HandS.WordsExc
import HandS.ExcIs
import HandS.Walk
import HandS.TupSets
import HandS.SetBool
import KE.GoesMore
import HandS.DictComp
import HandS.TupMul
import HandS.Dict
import HandS.TryMany
import HandS.ExcInit
import HandS.ExcField
import KE.KExcLine
import HandS.TupAny
import KE.KExcIs
import HandS.Conv
import KE.KDictKeyed
import KE.KDictList
import KE.SortData
import HandS.Set
import HandS.TupSets
import KE.KDictSum
import HandS.Conv
import KE.SortData
import HandS.Conv
import HandS.More
import HandS.Deep
import HandS.RaiseMore
import HandS.Lambda
import HandS.EndTab
import PySem.Challenge.RW_farbetween_k68_signs_left_and_renamed
set_option Elab.async false
set_option linter.all false
set_option maxRecDepth 100000
namespace Fb
open PySem PySem.Spec PyProof.Rows L2
section
variable {X : Cx} {K : PySem.W.Frag} {e : Expr} {ta : TE} {f : Str} {pos : Pos}
theorem ix_listK (hK : X.K = K) : IxR X (rIxL K) := hK ▸ ix_list
theorem ix_tupK (hK : X.K = K) : IxR X (rIxT K) := hK ▸ ix_tup
theorem call_len_seqK (hK : X.K = K) : CallR X (.builtin "len") (fun xs H Q => ∃ p ys, xs = [.ref p] ∧ (SqL K H p ys ∨ SqT K H p ys) ∧ Q (.int ys.length) H) := hK ▸ call_len_seq
end
/-- what isinstance asks of a class -/
structure TyIns (K : PySem.W.Frag) (C : Addr) : Prop where
  ha : PySem.W.findIn K (.ref C) "__class__" = some (some (.builtin "object.__class__"))
  hn : PySem.W.specialIn K (.builtin "object.__class__") "__get__" = some (some (.builtin "getset_descriptor.__get__"))
  htk : PySem.W.takesIn K (.builtin "object.__class__") = some true
  hm : PySem.W.mroIn K C (.type "object") = some true
theorem same_upd {H : Hp} {p : Addr} {o : HO} (h : H p = none) : Same H (upd H p o) := fun b x e => by
  rw [upd_ne (ne_of_none e h)]
  exact e
/-- over a new object that has been stored into once more -/
theorem same_over {G H : Hp} {p : Addr} {o : HO} (s : Same G H) (h : G p = none) : Same G (upd H p o) := fun b x e => by
  rw [upd_ne (ne_of_none e h)]
  exact s _ _ e
theorem sqL_new {K : PySem.W.Frag} {H : Hp} {p : Addr} {xs : List V} : SqL K (upd H p (.lst xs)) p xs := .inl (.inl upd_same)
/-- the heap without what stands at a -/
def hid (a : Addr) (H : Hp) : Hp := fun b => if b = a then none else H b
theorem hid_same {a : Addr} {H : Hp} : Same (hid a H) H := fun b o e => by
  unfold hid at e
  by_cases h : b = a
  · rw [if_pos h] at e; cases e
  · rw [if_neg h] at e; exact e
theorem hid_ne {a b : Addr} {H : Hp} (h : b ≠ a) : hid a H b = H b := if_neg h
theorem hid_self {a : Addr} {H : Hp} : hid a H a = none := if_pos rfl
theorem hid_mono {a : Addr} {H H' : Hp} (s : Same H H') : Same (hid a H) (hid a H') := fun b o e => by
  by_cases h : b = a
  · rw [h, hid_self] at e; cases e
  · rw [hid_ne h] at e ⊢; exact s _ _ e
theorem hid_upd {a : Addr} {H : Hp} {o : HO} : hid a (upd H a o) = hid a H := by
  funext b
  by_cases h : b = a
  · rw [h, hid_self, hid_self]
  · rw [hid_ne h, hid_ne h, upd_ne h]
theorem hid_updN {a p : Addr} {H : Hp} {o : HO} (h : p ≠ a) : hid a (upd H p o) = upd (hid a H) p o := by
  funext b
  by_cases hb : b = a
  · rw [hb, hid_self, upd_ne (Ne.symm h), hid_self]
  · rw [hid_ne hb]
    by_cases hp : b = p
    · rw [hp, upd_same, upd_same]
    · rw [upd_ne hp, upd_ne hp, hid_ne hb]
theorem tb : ¬ (("top" : Str) = "bottom") := by decide +kernel
def flds (q : Rat) : List (Str × V) := putF "bottom" (.int (q.den : Int)) (putF "top" (.int q.num) [])
def IsShare (C : Addr) (H : Hp) (v : V) (q : Rat) : Prop := ∃ p dx, v = .ref p ∧ H p = some (.ins C dx (flds q))
theorem IsShare.mono {C : Addr} {H H' : Hp} {v : V} {q : Rat} (h : IsShare C H v q) (s : Same H H') : IsShare C H' v q := by
  obtain ⟨p, dx, e, h⟩ := h
  exact ⟨p, dx, e, s _ _ h⟩
theorem gcd_step (a b : Int) : Int.gcd b (a.fmod b) = Int.gcd a b := by
  have e : a.fmod b = a - b * a.fdiv b := Int.fmod_def a b
  rw [e, Int.gcd_sub_mul_left_right, Int.gcd_comm]
theorem fmod_lt (a b : Int) (h : b ≠ 0) : (a.fmod b).natAbs < b.natAbs := by
  rw [Int.fmod_eq_emod]
  have h1 := Int.emod_nonneg a h
  have h2 := Int.emod_lt a h
  split
  · omega
  · rename_i z
    have h3 : ¬ b ∣ a := fun d => z (.inr d)
    have h4 : a % b ≠ 0 := fun e => h3 (Int.dvd_of_emod_eq_zero e)
    have h5 : ¬ 0 ≤ b := fun d => z (.inl d)
    omega
/-- the divisor that brings t over b to lowest terms, its sign the bottom's -/
def cut (t b : Int) : Int := if b < 0 then -(Int.gcd t b : Int) else (Int.gcd t b : Int)
theorem gcd_pos {t b : Int} (h : b ≠ 0) : 0 < Int.gcd t b := Int.gcd_pos_of_ne_zero_right _ h
theorem cut_ne {t b : Int} (h : b ≠ 0) : cut t b ≠ 0 := by
  have := gcd_pos (t := t) h
  unfold cut
  split <;> omega
theorem cut_top {t b : Int} (h : b ≠ 0) : t.fdiv (cut t b) = (Rat.divInt t b).num := by
  have d : (Int.gcd t b : Int) ∣ t := Int.gcd_dvd_left t b
  rw [Rat.num_divInt, Int.gcd_comm b t]
  unfold cut
  by_cases hb : b < 0
  · rw [if_pos hb, Int.sign_eq_neg_one_of_neg hb, Int.fdiv_eq_ediv_of_dvd (Int.neg_dvd.mpr d), Int.ediv_neg, Int.neg_one_mul, Int.neg_ediv_of_dvd d]
  · rw [if_neg hb, Int.sign_eq_one_of_pos (by omega), Int.one_mul, Int.fdiv_eq_ediv_of_dvd d]
end Fb
namespace Fb
open PySem PySem.Spec PyProof.Rows L2
structure Bd (n : Nat) (q : Rat) : Prop where
  num : q.num.natAbs < 2 ^ n
  den : q.den < 2 ^ n
theorem Bd.mono {n m : Nat} {q : Rat} (h : Bd n q) (l : n ≤ m) : Bd m q :=
  ⟨Nat.lt_of_lt_of_le h.num (Nat.pow_le_pow_right (by decide) l), Nat.lt_of_lt_of_le h.den (Nat.pow_le_pow_right (by decide) l)⟩
theorem Bd.pos {n : Nat} {q : Rat} (h : Bd n q) : 0 < n := by
  have := h.den
  have := q.den_pos
  cases n with
  | zero => simp at *; omega
  | succ n => omega
theorem divInt_num_le {t b : Int} (h : b ≠ 0) : (Rat.divInt t b).num.natAbs ≤ t.natAbs := by
  have d : (cut t b) ∣ t := by
    have d := Int.gcd_dvd_left t b
    unfold cut
    split
    · exact Int.neg_dvd.mpr d
    · exact d
  have e : (Rat.divInt t b).num * cut t b = t := by
    rw [← cut_top h, Int.fdiv_eq_ediv_of_dvd d, Int.ediv_mul_cancel d]
  have e2 := congrArg Int.natAbs e
  rw [Int.natAbs_mul] at e2
  have := cut_ne (t := t) h
  rw [← e2]
  exact Nat.le_mul_of_pos_right _ (by omega)
theorem divInt_den_le {t b : Int} (h : b ≠ 0) : (Rat.divInt t b).den ≤ b.natAbs := by
  rw [Rat.den_divInt, if_neg h]
  exact Nat.div_le_self _ _
theorem Bd.divInt {t b : Int} {n : Nat} (h : b ≠ 0) (ht : t.natAbs < 2 ^ n) (hb : b.natAbs < 2 ^ n) : Bd n (Rat.divInt t b) :=
  ⟨Nat.lt_of_le_of_lt (divInt_num_le h) ht, Nat.lt_of_le_of_lt (divInt_den_le h) hb⟩
theorem den_ne (q : Rat) : (q.den : Int) ≠ 0 := by
  have := q.den_pos
  omega
theorem den_abs {n : Nat} {q : Rat} (h : Bd n q) : (q.den : Int).natAbs < 2 ^ n := by
  have := h.den
  omega
theorem dens_ne (x y : Rat) : (x.den : Int) * (y.den : Int) ≠ 0 := Int.mul_ne_zero (den_ne x) (den_ne y)
theorem rat_add (x y : Rat) : Rat.divInt (x.num * (y.den : Int) + y.num * (x.den : Int)) ((x.den : Int) * (y.den : Int)) = x + y := by
  rw [Rat.add_def', ← Int.natCast_mul, Rat.divInt_ofNat]
theorem rat_sub (x y : Rat) : Rat.divInt (x.num * (y.den : Int) - y.num * (x.den : Int)) ((x.den : Int) * (y.den : Int)) = x - y := by
  rw [Rat.sub_def', ← Int.natCast_mul, Rat.divInt_ofNat]
theorem sum_lt {a b : Int} {n : Nat} (ha : a.natAbs < 2 ^ n) (hb : b.natAbs < 2 ^ n) : (a + b).natAbs < 2 ^ (n + 1) := by
  rw [Nat.pow_succ]
  omega
theorem sub_lt {a b : Int} {n : Nat} (ha : a.natAbs < 2 ^ n) (hb : b.natAbs < 2 ^ n) : (a - b).natAbs < 2 ^ (n + 1) := by
  rw [Nat.pow_succ]
  omega
theorem up {a : Int} {n m : Nat} (ha : a.natAbs < 2 ^ n) (h : n ≤ m) : a.natAbs < 2 ^ m := Nat.lt_of_lt_of_le ha (Nat.pow_le_pow_right (by decide) h)
theorem Bd.add {n m : Nat} {x y : Rat} (hx : Bd n x) (hy : Bd m y) : Bd (n + m + 1) (x + y) := by
  rw [← rat_add]
  refine .divInt (dens_ne x y) (sum_lt (wide_lt hx.num (den_abs hy)) ?_) (up (wide_lt (den_abs hx) (den_abs hy)) (by omega))
  have := wide_lt hy.num (den_abs hx)
  rw [Nat.add_comm] at this
  exact this
theorem Bd.sub {n m : Nat} {x y : Rat} (hx : Bd n x) (hy : Bd m y) : Bd (n + m + 1) (x - y) := by
  rw [← rat_sub]
  refine .divInt (dens_ne x y) (sub_lt (wide_lt hx.num (den_abs hy)) ?_) (up (wide_lt (den_abs hx) (den_abs hy)) (by omega))
  have := wide_lt hy.num (den_abs hx)
  rw [Nat.add_comm] at this
  exact this
theorem divInt_add_same (a b d : Int) : Rat.divInt (a + b) d = Rat.divInt a d + Rat.divInt b d := by
  by_cases h : d = 0
  · subst h
    simp [Rat.zero_add]
  · rw [Rat.divInt_add_divInt _ _ h h, ← Int.add_mul, Rat.divInt_mul_right h]
theorem tops_one {L : Nat} {q : Rat} (h0 : 0 < L) (hd : q.den ∣ L) : Rat.divInt (q.num * ((L / q.den : Nat) : Int)) (L : Int) = q := by
  obtain ⟨k, rfl⟩ := hd
  have hk : k ≠ 0 := fun z => by
    subst z
    simp at h0
  rw [Nat.mul_div_cancel_left _ q.den_pos, Int.natCast_mul, Rat.divInt_mul_right (by omega), Rat.num_divInt_den]
/-- n bounds each share, N their number -/
structure Few (n N : Nat) (qs : List Rat) : Prop where
  bd : ∀ q ∈ qs, Bd n q
  len : qs.length ≤ N
  small : n * N ≤ 8000
  most : N ≤ 999
  pos : 0 < n
def AllAre {α : Type} (R : V → α → Prop) (vs : List V) (xs : List α) : Prop := vs.length = xs.length ∧ ∀ (i : Nat) (v : V) (x : α), vs[i]? = some v → xs[i]? = some x → R v x
theorem AllAre.nil {α : Type} {R : V → α → Prop} : AllAre R [] [] := ⟨rfl, fun i v x h => by simp at h⟩
theorem AllAre.at {α : Type} {R : V → α → Prop} {vs : List V} {xs : List α} {i : Nat} {v : V} (h : AllAre R vs xs) (e : vs[i]? = some v) : ∃ x, xs[i]? = some x ∧ R v x := by
  have hi : i < xs.length := by
    have := (List.getElem?_eq_some_iff.mp e).1
    rw [← h.1]
    exact this
  exact ⟨xs[i], List.getElem?_eq_getElem hi, h.2 i v _ e (List.getElem?_eq_getElem hi)⟩
theorem AllAre.imp {α : Type} {R R' : V → α → Prop} {vs : List V} {xs : List α} (h : AllAre R vs xs) (f : ∀ v x, R v x → R' v x) : AllAre R' vs xs := ⟨h.1, fun i v x a b => f _ _ (h.2 i v x a b)⟩
theorem AllAre.cons {α : Type} {R : V → α → Prop} {v : V} {x : α} {vs : List V} {xs : List α} (r : R v x) (h : AllAre R vs xs) : AllAre R (v :: vs) (x :: xs) := by
  refine ⟨by simp [h.1], fun i a b h1 h2 => ?_⟩
  cases i with
  | zero =>
    simp at h1 h2
    subst h1; subst h2
    exact r
  | succ i =>
    simp at h1 h2
    exact h.2 i a b h1 h2
theorem AllAre.append {α : Type} {R : V → α → Prop} : ∀ {vs us : List V} {xs ys : List α}, AllAre R vs xs → AllAre R us ys → AllAre R (vs ++ us) (xs ++ ys)
  | [], us, [], ys, _, h => h
  | v :: vs, us, x :: xs, ys, h, h' => by
    have t : AllAre R vs xs := ⟨by simpa using h.1, fun i a b h1 h2 => h.2 (i + 1) a b (by simpa using h1) (by simpa using h2)⟩
    exact .cons (h.2 0 v x rfl rfl) (t.append h')
  | [], _, _ :: _, _, h, _ => by simp [AllAre] at h
  | _ :: _, _, [], _, h, _ => by simp [AllAre] at h
theorem AllAre.snoc {α : Type} {R : V → α → Prop} {v : V} {x : α} {vs : List V} {xs : List α} (h : AllAre R vs xs) (r : R v x) : AllAre R (vs ++ [v]) (xs ++ [x]) := h.append (.cons r .nil)
theorem AllAre.take {α : Type} {R : V → α → Prop} {vs : List V} {xs : List α} (n : Nat) (h : AllAre R vs xs) : AllAre R (vs.take n) (xs.take n) := by
  refine ⟨by simp [h.1], fun i a b h1 h2 => ?_⟩
  rw [List.getElem?_take] at h1 h2
  split at h1
  · rw [if_pos (by assumption)] at h2
    exact h.2 i a b h1 h2
  · cases h1
theorem AllAre.drop {α : Type} {R : V → α → Prop} {vs : List V} {xs : List α} (n : Nat) (h : AllAre R vs xs) : AllAre R (vs.drop n) (xs.drop n) := by
  refine ⟨by simp [h.1], fun i a b h1 h2 => ?_⟩
  rw [List.getElem?_drop] at h1 h2
  exact h.2 _ a b h1 h2
theorem AllAre.reverse {α : Type} {R : V → α → Prop} {vs : List V} {xs : List α} (h : AllAre R vs xs) : AllAre R vs.reverse xs.reverse := by
  refine ⟨by simp [h.1], fun i a b h1 h2 => ?_⟩
  have l1 := (List.getElem?_eq_some_iff.mp h1).1
  have l2 := (List.getElem?_eq_some_iff.mp h2).1
  rw [List.length_reverse] at l1 l2
  rw [List.getElem?_reverse l1] at h1
  rw [List.getElem?_reverse l2, ← h.1] at h2
  exact h.2 _ a b h1 h2
/-- a list of shares -/
def IsShares (C : Addr) (H : Hp) (v : V) (qs : List Rat) : Prop := ∃ p vs, v = .ref p ∧ H p = some (.lst vs) ∧ AllAre (IsShare C H) vs qs
theorem IsShares.mono {C : Addr} {H H' : Hp} {v : V} {qs : List Rat} (h : IsShares C H v qs) (s : Same H H') : IsShares C H' v qs := by
  obtain ⟨p, vs, e, h, a⟩ := h
  exact ⟨p, vs, e, s _ _ h, a.imp fun _ _ r => r.mono s⟩
/-- [e for x in xs]: what is told of the i-th item is told of it to the end -/
theorem lc_all {K : PySem.W.Frag} {a : Addr} {xs : List V} {g : TG} {te : TE} {vs : List Nat} {σ : L2.St} {H1 : Hp} {D : Addr} {Qd : Hp → Prop} (R : Nat → V → Hp → Prop) (mono : ∀ i v H H', Same H H' → R i v H → R i v H')
    (hD : H1 D = none) (hS : SqL K H1 a xs) (hz : xs.length ≤ 1000)
    (hs : ∀ i x H (k : V → Hp → Prop), xs[i]? = some x → Same H1 (hid D H) → (∃ ys, H D = some (.lst ys)) → (∀ y H4, Same H H4 → R i y (hid D H4) → k y H4) → g x (wipe σ vs) H fun σ2 H2 => wipe σ2 vs = wipe σ vs ∧ te σ2 H2 k)
    (hd : ∀ H ys, Same H1 (hid D H) → H D = some (.lst ys) → ys.length = xs.length → (∀ i y, ys[i]? = some y → R i y (hid D H)) → Qd H) :
    ∃ W : Nat → Nat → Hp → Prop, (∃ m, W 0 m (upd H1 D (.lst []))) ∧ ∀ i m H, W i m H →
      ((Itl K a).stop i H ∧ Qd H) ∨ ((Itl K a).go i H ∧ ∃ Nx : Hp → Prop, (∀ H', Nx H' → ∃ m', m' < m ∧ W (i + 1) m' H') ∧ ∀ x H', (Itl K a).yld i H x H' → g x (wipe σ vs) H' fun σ2 H2 => wipe σ2 vs = wipe σ vs ∧ tYes σ2 H2 fun b H3 =>
        if b = true then te σ2 H3 fun y H4 => ∃ acc, H4 D = some (.lst acc) ∧ acc.length < sizeLine ∧ Nx (upd H4 D (.lst (acc ++ [y]))) else Nx H3) := by
  refine lc_list (xs := xs) (fun i H => ∃ ys, Same H1 (hid D H) ∧ H D = some (.lst ys) ∧ ys.length = i ∧ ∀ j y, ys[j]? = some y → R j y (hid D H)) ⟨[], ?_, upd_same, rfl, fun j y h => by simp at h⟩ (fun i H _ h => ?_) (fun i x H hx h => ?_) (fun H h => ?_)
  · intro b o e
    rw [hid_ne (ne_of_none e hD), upd_ne (ne_of_none e hD)]
    exact e
  · obtain ⟨ys, s, _⟩ := h
    exact (s.trans hid_same).seq hS
  · obtain ⟨ys, s, e, l, r⟩ := h
    have hi : i < xs.length := (List.getElem?_eq_some_iff.mp hx).1
    refine hs i x H (fun y H4 => ∃ acc, H4 D = some (.lst acc) ∧ acc.length < sizeLine ∧ ∃ ys, Same H1 (hid D (upd H4 D (.lst (acc ++ [y])))) ∧ (upd H4 D (.lst (acc ++ [y]))) D = some (.lst ys) ∧ ys.length = i + 1 ∧ ∀ j y', ys[j]? = some y' → R j y' (hid D (upd H4 D (.lst (acc ++ [y]))))) hx s ⟨_, e⟩ fun y H4 s4 ry => ?_
    refine ⟨ys, s4 _ _ e, small1000 (by omega), ys ++ [y], ?_, upd_same, by simp [l], fun j y' h => ?_⟩
    · rw [hid_upd]
      exact s.trans (hid_mono s4)
    · rw [hid_upd]
      by_cases hj : j < ys.length
      · rw [List.getElem?_append_left hj] at h
        exact mono _ _ _ _ (hid_mono s4) (r j y' h)
      · rw [List.getElem?_append_right (by omega)] at h
        have hj2 : j - ys.length = 0 := by
          have := (List.getElem?_eq_some_iff.mp h).1
          simp at this
          omega
        rw [hj2] at h
        simp at h
        subst h
        have : j = i := by omega
        rw [this]
        exact ry
  · obtain ⟨ys, s, e, l, r⟩ := h
    exact hd H ys s e l r
end Fb
namespace Fb
open PySem PySem.Spec PyProof.Rows L2
/-- the well at a, good for n draws more -/
def WellAt (H : Hp) (a : Addr) (n : Nat) : Prop := ∃ w0 w1 w2 : Int, H a = some (.lst [.int w0, .int w1, .int w2]) ∧ 0 ≤ w1 ∧ w1 < 2147483647 ∧ 0 ≤ w2 ∧ w2 + (n : Int) ≤ 1099511627776
theorem WellAt.mono {H : Hp} {a : Addr} {n m : Nat} (h : WellAt H a n) (l : m ≤ n) : WellAt H a m := by
  obtain ⟨w0, w1, w2, e, a1, a2, a3, a4⟩ := h
  exact ⟨w0, w1, w2, e, a1, a2, a3, by omega⟩
theorem WellAt.same {H H' : Hp} {a : Addr} {n : Nat} (h : WellAt H a n) (s : Same H H') : WellAt H' a n := by
  obtain ⟨w0, w1, w2, e, r⟩ := h
  exact ⟨w0, w1, w2, s _ _ e, r⟩
theorem WellAt.ne {H : Hp} {a p : Addr} {n : Nat} (h : WellAt H a n) (e : H p = none) : p ≠ a := by
  obtain ⟨w0, w1, w2, ea, _⟩ := h
  intro z
  rw [z, ea] at e
  cases e
/-- what the seven primes are -/
theorem primes7 {k : Int} (h0 : 0 ≤ k) (h7 : k < 7) : ∃ p : Int, atI [V.int 2147483647, V.int 2147483629, V.int 2147483587, V.int 2147483579, V.int 2147483563, V.int 2147483549, V.int 2147483543] k = some (.int p) ∧ 0 < p ∧ p < 2147483648 := by
  have : k = 0 ∨ k = 1 ∨ k = 2 ∨ k = 3 ∨ k = 4 ∨ k = 5 ∨ k = 6 := by omega
  rcases this with e | e | e | e | e | e | e <;> subst e <;> exact ⟨_, rfl, by decide, by decide⟩
theorem atI_get {α : Type} {xs : List α} {i : Int} (h0 : 0 ≤ i) (h : i < xs.length) : ∃ x, atI xs i = some x ∧ xs[i.toNat]? = some x := by
  have hl : i.toNat < xs.length := by omega
  have g := List.getElem?_eq_getElem hl
  have e : ((i.toNat : Nat) : Int) = i := by omega
  have q := atI_nat g
  rw [e] at q
  exact ⟨_, q, g⟩
/-- a share's two numbers, as a tuple -/
def IsTup2 (H : Hp) (v : V) (t b : Int) : Prop := ∃ p, v = .ref p ∧ H p = some (.tup [.int t, .int b])
theorem IsTup2.mono {H H' : Hp} {v : V} {t b : Int} (h : IsTup2 H v t b) (s : Same H H') : IsTup2 H' v t b := by
  obtain ⟨p, e, h⟩ := h
  exact ⟨p, e, s _ _ h⟩
theorem IsTup2.dp {K : PySem.W.Frag} {H : Hp} {v : V} {t b : Int} (h : IsTup2 H v t b) : Dp K H v (.tuple [.int t, .int b]) := by
  obtain ⟨p, rfl, h⟩ := h
  exact .tup (.inl (.inl h)) (.cons (.int _) (.cons (.int _) .nil))
/-- objects of other kinds than the well's are not hidden with it -/
theorem hid_keep {H : Hp} {a p : Addr} {n : Nat} {o : HO} (w : WellAt H a n) (h : H p = some o) (ho : ∀ xs, o ≠ .lst xs) : hid a H p = some o := by
  obtain ⟨w0, w1, w2, e, _⟩ := w
  rw [hid_ne]
  · exact h
  · intro z
    rw [z, e] at h
    cases h
    exact ho _ rfl
theorem pow_small {i : Int} (h0 : 0 ≤ i) (h : i < 18446744073709551616) : CPow i 5 := ⟨by decide, by decide, by omega⟩
end Fb
namespace Fb
open PySem PySem.Spec PyProof.Rows L2
/-- a new object beside the well -/
theorem well_new {H : Hp} {a p : Addr} {n : Nat} {o : HO} (w : WellAt H a n) (np : H p = none) : WellAt (upd H p o) a n ∧ Same (hid a H) (hid a (upd H p o)) :=
  ⟨w.same (same_upd np), hid_mono (same_upd np)⟩
theorem sqL_hid {K : PySem.W.Frag} {H : Hp} {a p : Addr} {n : Nat} {xs : List V} (w : WellAt H a n) (np : H p = none) : SqL K (hid a (upd H p (.lst xs))) p xs := by
  rw [hid_updN (w.ne np)]
  exact sqL_new
theorem divInt_self (q : Rat) : Rat.divInt q.num (q.den : Int) = q := Rat.num_divInt_den q
end Fb
namespace Fb
open PySem PySem.Spec PyProof.Rows L2
theorem hid2_upd {a D : Addr} {H : Hp} {o : HO} (h : D ≠ a) : hid D (hid a (upd H D o)) = hid D (hid a H) := by
  rw [hid_updN h, hid_upd]
theorem WellAt.upd {H : Hp} {a D : Addr} {n : Nat} {o : HO} (w : WellAt H a n) (h : D ≠ a) : WellAt (L2.upd H D o) a n := by
  obtain ⟨w0, w1, w2, e, r⟩ := w
  exact ⟨w0, w1, w2, by rw [upd_ne h.symm]; exact e, r⟩
/-- [e for x in range(..)], each turn at most c draws: what is told of each item stays -/
theorem lc_wellR {lo : Int} {n : Nat} {g : TG} {te : TE} {vs : List Nat} {σ : L2.St} {H1 : Hp} {D a : Addr} {Qd : Hp → Prop} (R : V → Hp → Prop) (mono : ∀ v H H', Same H H' → R v H → R v H') (c f : Nat)
    (hD : H1 D = none) (hw : WellAt H1 a (f + c * n)) (hn : n ≤ 1000)
    (hs : ∀ i H m (k : V → Hp → Prop), i < n → WellAt H a (m + c) → Same (hid a H1) (hid D (hid a H)) → (∃ ys, H D = some (.lst ys)) → (∀ y H4, Same (hid a H) (hid a H4) → WellAt H4 a m → R y (hid D (hid a H4)) → k y H4) →
      g (.int (lo + i)) (wipe σ vs) H fun σ2 H2 => wipe σ2 vs = wipe σ vs ∧ te σ2 H2 k)
    (hd : ∀ H ys, Same (hid a H1) (hid D (hid a H)) → WellAt H a f → H D = some (.lst ys) → ys.length = n → (∀ y ∈ ys, R y (hid D (hid a H))) → Qd H) :
    ∃ W : Nat → Nat → Hp → Prop, (∃ m, W 0 m (upd H1 D (.lst []))) ∧ ∀ i m H, W i m H →
      ((Itr lo n).stop i H ∧ Qd H) ∨ ((Itr lo n).go i H ∧ ∃ Nx : Hp → Prop, (∀ H', Nx H' → ∃ m', m' < m ∧ W (i + 1) m' H') ∧ ∀ x H', (Itr lo n).yld i H x H' → g x (wipe σ vs) H' fun σ2 H2 => wipe σ2 vs = wipe σ vs ∧ tYes σ2 H2 fun b H3 =>
        if b = true then te σ2 H3 fun y H4 => ∃ acc, H4 D = some (.lst acc) ∧ acc.length < sizeLine ∧ Nx (upd H4 D (.lst (acc ++ [y]))) else Nx H3) := by
  have nD : D ≠ a := hw.ne hD
  refine lc_range (fun i H => ∃ ys, Same (hid a H1) (hid D (hid a H)) ∧ WellAt H a (f + c * (n - i)) ∧ H D = some (.lst ys) ∧ ys.length = i ∧ ∀ y ∈ ys, R y (hid D (hid a H))) ⟨[], ?_, hw.upd nD, upd_same, rfl, fun y h => by simp at h⟩ (fun i H hi h => ?_) (fun H h => ?_)
  · rw [hid2_upd nD]
    intro b o e
    have hb : b ≠ D := fun z => by
      rw [z, hid_ne nD, hD] at e
      cases e
    rw [hid_ne hb]
    exact e
  · obtain ⟨ys, s, w, e, l, r⟩ := h
    have ec : f + c * (n - i) = (f + c * (n - (i + 1))) + c := by
      have : n - i = (n - (i + 1)) + 1 := by omega
      rw [this, Nat.mul_succ]
      omega
    rw [ec] at w
    refine hs i H _ (fun y H4 => ∃ acc, H4 D = some (.lst acc) ∧ acc.length < sizeLine ∧ ∃ ys, Same (hid a H1) (hid D (hid a (upd H4 D (.lst (acc ++ [y]))))) ∧ WellAt (upd H4 D (.lst (acc ++ [y]))) a (f + c * (n - (i + 1))) ∧ (upd H4 D (.lst (acc ++ [y]))) D = some (.lst ys) ∧ ys.length = i + 1 ∧ ∀ y' ∈ ys, R y' (hid D (hid a (upd H4 D (.lst (acc ++ [y])))))) hi w s ⟨_, e⟩ fun y H4 s4 w4 ry => ?_
    have e4 : H4 D = some (.lst ys) := by
      have := s4 D (.lst ys) (by rw [hid_ne nD]; exact e)
      rw [hid_ne nD] at this
      exact this
    refine ⟨ys, e4, small1000 (by omega), ys ++ [y], ?_, w4.upd nD, upd_same, by simp [l], fun y' h => ?_⟩
    · rw [hid2_upd nD]
      exact s.trans (hid_mono s4)
    · rw [hid2_upd nD]
      rcases List.mem_append.mp h with h | h
      · exact mono _ _ _ (hid_mono s4) (r y' h)
      · have : y' = y := by simpa using h
        rw [this]
        exact ry
  · obtain ⟨ys, s, w, e, l, r⟩ := h
    rw [Nat.sub_self, Nat.mul_zero] at w
    exact hd H ys s w e l r
/-- what is no list is not hidden with a list -/
theorem hid_no {H : Hp} {D p : Addr} {o : HO} (e : ∃ ys, H D = some (.lst ys)) (h : H p = some o) (ho : ∀ xs, o ≠ .lst xs) : hid D H p = some o := by
  obtain ⟨ys, e⟩ := e
  rw [hid_ne]
  · exact h
  · intro z
    rw [z, e] at h
    cases h
    exact ho _ rfl
theorem AllAre.of_ix {α : Type} {R : V → α → Prop} {ys : List V} {xs : List α} (l : ys.length = xs.length) (h : ∀ (i : Nat) y, ys[i]? = some y → ∃ x, xs[i]? = some x ∧ R y x) : AllAre R ys xs := ⟨l, fun i v x a b => by
  obtain ⟨x', e, r⟩ := h i v a
  rw [e] at b
  cases b
  exact r⟩
theorem AllAre.mem {α : Type} {R : V → α → Prop} {ys : List V} {xs : List α} (h : AllAre R ys xs) {x : α} (hx : x ∈ xs) : ∃ y, R y x := by
  obtain ⟨i, hi, e⟩ := List.mem_iff_getElem.mp hx
  have hl : i < ys.length := by rw [h.1]; exact hi
  exact ⟨ys[i], h.2 i _ x (List.getElem?_eq_getElem hl) (by rw [List.getElem?_eq_getElem hi, e])⟩
end Fb
namespace Fb
open PySem PySem.Spec PyProof.Rows L2
theorem cut_from {xs : List V} {k : Nat} (h : k ≤ xs.length) : cutV xs (some (k : Int)) none = xs.drop k := by
  unfold cutV
  rw [HT.sIx_nat, HT.sIx_none, Nat.min_eq_left h]
  exact List.take_of_length_le (by rw [List.length_drop]; exact Nat.le_refl _)
theorem cut_to {xs : List V} {k : Nat} (h : k ≤ xs.length) : cutV xs none (some (k : Int)) = xs.take k := by
  unfold cutV
  rw [HT.sIx_nat, HT.sIx_none, Nat.min_eq_left h]
  rfl
/-- a share with its bound -/
def Sh (C : Addr) (n : Nat) (G : Hp) (v : V) (q : Rat) : Prop := IsShare C G v q ∧ Bd n q
theorem Sh.mono {C : Addr} {n : Nat} {G G' : Hp} {v : V} {q : Rat} (h : Sh C n G v q) (s : Same G G') : Sh C n G' v q := ⟨h.1.mono s, h.2⟩
theorem AllAre.few {C : Addr} {n N : Nat} {G : Hp} {vs : List V} {qs : List Rat} (h : AllAre (Sh C n G) vs qs) (l : vs.length ≤ N) (s : n * N ≤ 8000) (m : N ≤ 999) (p : 0 < n) : Few n N qs :=
  ⟨fun q hq => by obtain ⟨y, hy⟩ := h.mem hq; exact hy.2, by rw [← h.1]; exact l, s, m, p⟩
end Fb
namespace Fb
open PySem PySem.Spec PyProof.Rows L2
theorem none_back {H H' : Hp} {a p : Addr} {f : Nat} (s : Same (hid a H) (hid a H')) (w : WellAt H' a f) (h : H' p = none) : H p = none := by
  have hp : p ≠ a := w.ne h
  cases e : H p with
  | none => rfl
  | some o =>
    have := s p o (by rw [hid_ne hp]; exact e)
    rw [hid_ne hp, h] at this
    cases this
/-- a list of weights of the law's own, beside the well -/
structure WtAt (H : Hp) (a : Addr) (m : Nat) (B : Int) (f : Nat) (pw : Addr) (ns : List Int) (H' : Hp) : Prop where
  new : H pw = none
  ne : pw ≠ a
  at_ : H' pw = some (.lst (ns.map V.int))
  len : ns.length = m
  bd : ∀ x ∈ ns, 0 ≤ x ∧ x ≤ B
  same : Same (hid a H) (hid pw (hid a H'))
  well : WellAt H' a f
theorem WtAt.set {H : Hp} {a : Addr} {m : Nat} {B : Int} {f : Nat} {pw : Addr} {ns : List Int} {H1 : Hp} (h : WtAt H a m B f pw ns H1) (j : Nat) {v : Int} (v0 : 0 ≤ v) (v1 : v ≤ B) : WtAt H a m B f pw (ns.set j v) (upd H1 pw (.lst ((ns.map V.int).set j (.int v)))) := by
  refine ⟨h.new, h.ne, by rw [upd_same, ← List.map_set], by rw [List.length_set, h.len], fun x hx => ?_, by rw [hid2_upd h.ne]; exact h.same, h.well.upd h.ne⟩
  rcases List.mem_or_eq_of_mem_set hx with e | e
  · exact h.bd x e
  · subst e
    exact ⟨v0, v1⟩
theorem den_dvd_bot {t : Int} {S : Nat} (h : 0 < S) : (Rat.divInt t (S : Int)).den ∣ S := by
  rw [Rat.den_divInt, if_neg (by omega)]
  simp only [Int.natAbs_natCast]
  refine Nat.div_dvd_of_dvd ?_
  have := Int.gcd_dvd_left (S : Int) t
  exact Int.natCast_dvd_natCast.mp this
end Fb
namespace Fb
open PySem PySem.Spec PyProof.Rows L2
section
variable {X : Cx}
/-- a list against [] -/
def rNil (K : PySem.W.Frag) (g : Bool → Bool) : R2 := fun x y H Q => ∃ a c xs, x = .ref a ∧ y = .ref c ∧ SqL K H a xs ∧ SqL K H c [] ∧ Q (.bl (g xs.isEmpty)) H
theorem op_neNil (hu : X.A.units < cLine) : OpR X (compareOp .NotEq) (rNil X.K not) := by
  intro pins s σ H x y v u Q I rx ry h
  obtain ⟨a, c, xs, rfl, rfl, ha, hc, q⟩ := h
  cases rx
  cases ry
  obtain ⟨its, r, hl, _⟩ := I.list ha
  obtain ⟨its2, r2, hl2, _⟩ := I.list hc
  cases r2
  show wpAny (model X.prog X.w) X.A (richCompare .NotEq (.ref a) (.ref c)) (EP X pins σ Q) X.xe s
  cases r with
  | nil => exact SeqAt.RcNeAt.lists (e := fun _ => true) hl.isList hl2.isList rfl hu (fun j h => absurd h (by simp)) X.prog X.w X.xe _ ⟨.bl false, H, I, rfl, q⟩
  | cons _ _ => exact SeqAt.RcNeAt.lists_lengths hl.isList hl2.isList (by simp) hu X.prog X.w X.xe _ ⟨.bl true, H, I, rfl, q⟩
end
def IsPr (H : Hp) (v : V) (q : Rat) : Prop := IsTup2 H v q.num (q.den : Int)
theorem IsPr.mono {H H' : Hp} {v : V} {q : Rat} (h : IsPr H v q) (s : Same H H') : IsPr H' v q := IsTup2.mono h s
def IsPrs (H : Hp) (v : V) (qs : List Rat) : Prop := ∃ p vs, v = .ref p ∧ H p = some (.lst vs) ∧ AllAre (IsPr H) vs qs
theorem IsPrs.mono {H H' : Hp} {v : V} {qs : List Rat} (h : IsPrs H v qs) (s : Same H H') : IsPrs H' v qs := by
  obtain ⟨p, vs, e, h, a⟩ := h
  exact ⟨p, vs, e, s _ _ h, a.imp fun _ _ r => r.mono s⟩
/-- tuples stay -/
def TS (H H' : Hp) : Prop := ∀ p xs, H p = some (.tup xs) → H' p = some (.tup xs)
theorem TS.trans {H H1 H2 : Hp} (a : TS H H1) (b : TS H1 H2) : TS H H2 := fun p xs h => b p xs (a p xs h)
theorem TS.same {H H' : Hp} (s : Same H H') : TS H H' := fun p xs h => s p _ h
theorem TS.well {H H' : Hp} {a : Addr} {n : Nat} (w : WellAt H a n) (s : Same (hid a H) (hid a H')) : TS H H' := fun p xs h => hid_same _ _ (s p _ (hid_keep w h (fun _ => nofun)))
theorem TS.lst {H : Hp} {p : Addr} {ys : List V} {o : HO} (h : H p = some (.lst ys)) : TS H (upd H p o) := fun b xs e => by
  rw [upd_ne (fun z => by rw [z, h] at e; cases e)]
  exact e
theorem IsPr.ts {H H' : Hp} {v : V} {q : Rat} (h : IsPr H v q) (s : TS H H') : IsPr H' v q := by
  obtain ⟨p, e, h⟩ := h
  exact ⟨p, e, s _ _ h⟩
theorem IsTup2.ts {H H' : Hp} {v : V} {t b : Int} (h : IsTup2 H v t b) (s : TS H H') : IsTup2 H' v t b := by
  obtain ⟨p, e, h⟩ := h
  exact ⟨p, e, s _ _ h⟩
/-- a list of m pairs -/
def VecAt (H : Hp) (p : Addr) (m : Nat) (h : Nat → Rat) : Prop := ∃ vs, H p = some (.lst vs) ∧ vs.length = m ∧ ∀ (i : Nat) v, vs[i]? = some v → IsPr H v (h i)
theorem VecAt.ts {H H' : Hp} {p : Addr} {m : Nat} {h : Nat → Rat} (v : VecAt H p m h) (s : TS H H') (e : H' p = H p) : VecAt H' p m h := by
  obtain ⟨vs, ev, l, r⟩ := v
  exact ⟨vs, by rw [e]; exact ev, l, fun i v hv => (r i v hv).ts s⟩
theorem VecAt.at {H : Hp} {p : Addr} {m : Nat} {h : Nat → Rat} (v : VecAt H p m h) {j : Nat} (hj : j < m) : ∃ vs x, H p = some (.lst vs) ∧ vs.length = m ∧ vs[j]? = some x ∧ IsPr H x (h j) := by
  obtain ⟨vs, ev, l, r⟩ := v
  have hj' : j < vs.length := by omega
  exact ⟨vs, _, ev, l, List.getElem?_eq_getElem hj', r j _ (List.getElem?_eq_getElem hj')⟩
def put (h : Nat → Rat) (j : Nat) (z : Rat) : Nat → Rat := fun i => if i = j then z else h i
theorem VecAt.set {H : Hp} {p : Addr} {m : Nat} {h : Nat → Rat} {vs : List V} {j : Nat} {x : V} {z : Rat} (v : VecAt H p m h) (e : H p = some (.lst vs)) (hx : IsPr H x z) : VecAt (upd H p (.lst (vs.set j x))) p m (put h j z) := by
  obtain ⟨vs', ev, l, r⟩ := v
  rw [e] at ev
  cases ev
  have s : TS H (upd H p (.lst (vs.set j x))) := TS.lst e
  refine ⟨_, upd_same, by rw [List.length_set, l], fun i y hy => ?_⟩
  unfold put
  rw [List.getElem?_set] at hy
  by_cases hij : j = i
  · subst hij
    rw [if_pos rfl] at hy
    rw [if_pos rfl]
    split at hy
    · cases hy
      exact hx.ts s
    · cases hy
  · rw [if_neg hij] at hy
    rw [if_neg (fun z => hij z.symm)]
    exact (r i y hy).ts s
end Fb
namespace Fb
open PySem PySem.Spec PyProof.Rows L2
theorem nodup_inj {α : Type} {l : List α} (nd : l.Nodup) {i j : Nat} {x : α} (hi : l[i]? = some x) (hj : l[j]? = some x) : i = j := by
  obtain ⟨i1, i2⟩ := List.getElem?_eq_some_iff.mp hi
  obtain ⟨j1, j2⟩ := List.getElem?_eq_some_iff.mp hj
  have p := List.pairwise_iff_getElem.mp nd
  rcases Nat.lt_trichotomy i j with h | h | h
  · exact absurd (i2.trans j2.symm) (p i j i1 j1 h)
  · exact h
  · exact absurd (j2.trans i2.symm) (p j i j1 i1 h)
structure FillAt (H0 : Hp) (a : Addr) (f m k : Nat) (ph pw pp ps : Addr) (rs : List Addr) (h g : Nat → Rat) (T : Nat → Nat → Rat) (sp : List (Nat × Nat)) (H : Hp) : Prop where
  same : Same (hid a H0) (hid a H)
  well : WellAt H a f
  new : ∀ p ∈ ph :: pw :: pp :: ps :: rs, H0 p = none ∧ p ≠ a
  dis : (ph :: pw :: pp :: ps :: rs).Nodup
  have_ : VecAt H ph m h
  want : VecAt H pw k g
  tab : H pp = some (.lst (rs.map V.ref))
  rlen : rs.length = m
  rows : ∀ (x : Nat) r, rs[x]? = some r → VecAt H r k (T x)
  spots : ∃ sv, H ps = some (.lst sv) ∧ AllAre (fun v (xy : Nat × Nat) => IsTup2 H v (xy.1 : Int) (xy.2 : Int)) sv sp
section
variable {H0 : Hp} {a : Addr} {f f' m k : Nat} {ph pw pp ps : Addr} {rs : List Addr} {h g : Nat → Rat} {T : Nat → Nat → Rat} {sp : List (Nat × Nat)} {H H' : Hp}
/-- tuples stay and the lists of filling stay -/
theorem FillAt.keep (F : FillAt H0 a f m k ph pw pp ps rs h g T sp H) (s : Same (hid a H) (hid a H')) (w : WellAt H' a f') : FillAt H0 a f' m k ph pw pp ps rs h g T sp H' := by
  have t := TS.well F.well s
  have e : ∀ p ∈ ph :: pw :: pp :: ps :: rs, ∀ o, H p = some o → H' p = some o := fun p hp o ho => by
    have := s p o (by rw [hid_ne (F.new p hp).2]; exact ho)
    rwa [hid_ne (F.new p hp).2] at this
  have v : ∀ p ∈ ph :: pw :: pp :: ps :: rs, ∀ n d, VecAt H p n d → VecAt H' p n d := fun p hp n d hv => by
    obtain ⟨vs, ev, l, r⟩ := hv
    exact ⟨vs, e p hp _ ev, l, fun i v hv => (r i v hv).ts t⟩
  refine ⟨F.same.trans s, w, F.new, F.dis, v _ (by simp) _ _ F.have_, v _ (by simp) _ _ F.want, e _ (by simp) _ F.tab, F.rlen, fun x r hr => v r ?_ _ _ (F.rows x r hr), ?_⟩
  · have := List.mem_of_getElem? hr
    simp [this]
  · obtain ⟨sv, es, as⟩ := F.spots
    exact ⟨sv, e _ (by simp) _ es, as.imp fun _ _ r => r.ts t⟩
/-- one of the lists of filling is set -/
theorem FillAt.upd_ (F : FillAt H0 a f m k ph pw pp ps rs h g T sp H) {p : Addr} {ys : List V} {o : HO} (hp : p ∈ ph :: pw :: pp :: ps :: rs) (e : H p = some (.lst ys)) :
    Same (hid a H0) (hid a (upd H p o)) ∧ WellAt (upd H p o) a f ∧ TS H (upd H p o) := by
  obtain ⟨n0, na⟩ := F.new p hp
  refine ⟨fun b u eb => ?_, F.well.upd na, TS.lst e⟩
  have hb : b ≠ p := fun z => by
    rw [z, hid_ne na, n0] at eb
    cases eb
  rw [hid_updN na, upd_ne hb]
  exact F.same b u eb
theorem AllAre.erase {α : Type} {R : V → α → Prop} {vs : List V} {xs : List α} (h : AllAre R vs xs) (n : Nat) : AllAre R (vs.eraseIdx n) (xs.eraseIdx n) := by
  rw [List.eraseIdx_eq_take_drop_succ, List.eraseIdx_eq_take_drop_succ]
  exact (h.take n).append (h.drop (n + 1))
end
end Fb
namespace Fb
open PySem PySem.Spec PyProof.Rows L2
theorem pi_listK {X : Cx} {K : PySem.W.Frag} {tg l : Expr} {tl : TE} (hK : X.K = K) (hl : PE X l tl) : PI X tg l (iList K tl) := hK ▸ pi_list hl
theorem VecAt.same {H H' : Hp} {p : Addr} {m : Nat} {h : Nat → Rat} (v : VecAt H p m h) (s : Same H H') : VecAt H' p m h := by
  obtain ⟨vs, ev, l, r⟩ := v
  exact ⟨vs, s _ _ ev, l, fun i v hv => (r i v hv).mono s⟩
theorem FillAt.ext {H0 : Hp} {a : Addr} {f m k : Nat} {ph pw pp ps : Addr} {rs : List Addr} {h g : Nat → Rat} {T : Nat → Nat → Rat} {sp more : List (Nat × Nat)} {H : Hp} (F : FillAt H0 a f m k ph pw pp ps rs h g T sp H) {sv ys : List V} (e : H ps = some (.lst sv)) (hy : AllAre (fun v (xy : Nat × Nat) => IsTup2 H v (xy.1 : Int) (xy.2 : Int)) ys more) :
    FillAt H0 a f m k ph pw pp ps rs h g T (sp ++ more) (upd H ps (.lst (sv ++ ys))) := by
  obtain ⟨s, w, t⟩ := F.upd_ (o := .lst (sv ++ ys)) (by simp) e
  have d := F.dis
  simp only [List.nodup_cons, List.mem_cons, not_or] at d
  have n1 : ph ≠ ps := d.1.2.2.1
  have n2 : pw ≠ ps := d.2.1.2.1
  have n3 : pp ≠ ps := d.2.2.1.1
  refine ⟨s, w, F.new, F.dis, F.have_.ts t (upd_ne n1), F.want.ts t (upd_ne n2), by rw [upd_ne n3]; exact F.tab, F.rlen, fun x' r' hr' => (F.rows x' r' hr').ts t (upd_ne fun z => d.2.2.2.1 (z ▸ List.mem_of_getElem? hr')), ?_⟩
  obtain ⟨sv', es, as⟩ := F.spots
  rw [e] at es
  cases es
  exact ⟨_, upd_same, (as.append hy).imp fun _ _ r => r.ts t⟩
end Fb
namespace Fb
open PySem PySem.Spec PyProof.Rows L2
theorem seq_fin {t u : L2.TS} {D : L2.Ends} {σ : L2.St} {H : Hp} (M : L2.St → Hp → Prop) (h2 : ∀ σ H, M σ H → u D σ H) (h1 : (∀ σ H, M σ H → u D σ H) → t { D with nx := u D } σ H) : tSeq t u D σ H := h1 h2
end Fb
namespace Fb
open PySem PySem.Spec PyProof.Rows L2
section
variable {J : It} {n : Nat} {G : Hp → Prop} {Y : Nat → Hp → V → Hp → Prop}
/-- [e for .. in ..] that only makes, over any walk -/
theorem lc_allW (w : Walk J n G Y) {g : TG} {te : TE} {vs : List Nat} {σ : L2.St} {H1 : Hp} {D : Addr} {Qd : Hp → Prop} (R : Nat → V → Hp → Prop) (mono : ∀ i v H H', Same H H' → R i v H → R i v H')
    (hD : H1 D = none) (hS : ∀ H, Same H1 H → G H) (hz : n ≤ 1000)
    (hs : ∀ i x H H' (k : V → Hp → Prop), i < n → Same H1 (hid D H) → (∃ ys, H D = some (.lst ys)) → Y i H x H' → (∀ y H4, Same H H4 → R i y (hid D H4) → k y H4) → g x (wipe σ vs) H' fun σ2 H2 => wipe σ2 vs = wipe σ vs ∧ te σ2 H2 k)
    (hd : ∀ H ys, Same H1 (hid D H) → H D = some (.lst ys) → ys.length = n → (∀ i y, ys[i]? = some y → R i y (hid D H)) → Qd H) :
    ∃ W : Nat → Nat → Hp → Prop, (∃ m, W 0 m (upd H1 D (.lst []))) ∧ ∀ i m H, W i m H →
      (J.stop i H ∧ Qd H) ∨ (J.go i H ∧ ∃ Nx : Hp → Prop, (∀ H', Nx H' → ∃ m', m' < m ∧ W (i + 1) m' H') ∧ ∀ x H', J.yld i H x H' → g x (wipe σ vs) H' fun σ2 H2 => wipe σ2 vs = wipe σ vs ∧ tYes σ2 H2 fun b H3 =>
        if b = true then te σ2 H3 fun y H4 => ∃ acc, H4 D = some (.lst acc) ∧ acc.length < sizeLine ∧ Nx (upd H4 D (.lst (acc ++ [y]))) else Nx H3) := by
  refine lc_it w (fun i H => ∃ ys, Same H1 (hid D H) ∧ H D = some (.lst ys) ∧ ys.length = i ∧ ∀ j y, ys[j]? = some y → R j y (hid D H)) ⟨[], ?_, upd_same, rfl, fun j y h => by simp at h⟩ (fun i H _ h => ?_) (fun i x H H' hi h y => ?_) (fun H h => ?_)
  · intro b o e
    rw [hid_ne (ne_of_none e hD), upd_ne (ne_of_none e hD)]
    exact e
  · obtain ⟨ys, s, _⟩ := h
    exact hS H (s.trans hid_same)
  · obtain ⟨ys, s, e, l, r⟩ := h
    refine hs i x H H' (fun y H4 => ∃ acc, H4 D = some (.lst acc) ∧ acc.length < sizeLine ∧ ∃ ys, Same H1 (hid D (upd H4 D (.lst (acc ++ [y])))) ∧ (upd H4 D (.lst (acc ++ [y]))) D = some (.lst ys) ∧ ys.length = i + 1 ∧ ∀ j y', ys[j]? = some y' → R j y' (hid D (upd H4 D (.lst (acc ++ [y]))))) hi s ⟨_, e⟩ y fun y H4 s4 ry => ?_
    refine ⟨ys, s4 _ _ e, small1000 (by omega), ys ++ [y], ?_, upd_same, by simp [l], fun j y' h => ?_⟩
    · rw [hid_upd]
      exact s.trans (hid_mono s4)
    · rw [hid_upd]
      by_cases hj : j < ys.length
      · rw [List.getElem?_append_left hj] at h
        exact mono _ _ _ _ (hid_mono s4) (r j y' h)
      · rw [List.getElem?_append_right (by omega)] at h
        have hj2 : j - ys.length = 0 := by
          have := (List.getElem?_eq_some_iff.mp h).1
          simp at this
          omega
        rw [hj2] at h
        simp at h
        subst h
        have : j = i := by omega
        rw [this]
        exact ry
  · obtain ⟨ys, s, e, l, r⟩ := h
    exact hd H ys s e l r
/-- the items of one turn of the first clause -/
def Block (R : Nat → V → Hp → Prop) (m : Nat) (b : List V) (H : Hp) : Prop := b.length = m ∧ ∀ (j : Nat) y, b[j]? = some y → R j y H
theorem Block.mono {R : Nat → V → Hp → Prop} {m : Nat} {b : List V} {H H' : Hp} (mono : ∀ j v H H', Same H H' → R j v H → R j v H') (s : Same H H') (h : Block R m b H) : Block R m b H' := ⟨h.1, fun j y hy => mono j y H H' s (h.2 j y hy)⟩
end
/-- rows put one behind the other -/
theorem AllAre.flatten {α : Type} {R : V → α → Prop} : ∀ {bs : List (List V)} {xss : List (List α)}, bs.length = xss.length → (∀ (i : Nat) b xs, bs[i]? = some b → xss[i]? = some xs → AllAre R b xs) → AllAre R bs.flatten xss.flatten
  | [], [], _, _ => .nil
  | b :: bs, xs :: xss, l, h => by
    rw [List.flatten_cons, List.flatten_cons]
    exact (h 0 b xs rfl rfl).append (AllAre.flatten (by simpa using l) fun i b xs h1 h2 => h (i + 1) b xs h1 h2)
  | [], _ :: _, l, _ => by simp at l
  | _ :: _, [], l, _ => by simp at l
theorem den_add {a b : Rat} {S : Nat} (h0 : 0 < S) (ha : a.den ∣ S) (hb : b.den ∣ S) : (a + b).den ∣ S := by
  have e : a + b = Rat.divInt (a.num * ((S / a.den : Nat) : Int) + b.num * ((S / b.den : Nat) : Int)) (S : Int) := by
    rw [divInt_add_same, tops_one h0 ha, tops_one h0 hb]
  rw [e]
  exact den_dvd_bot h0
end Fb
namespace Fb
open PySem PySem.Spec PyProof.Rows L2
structure Nice (S M : Nat) (q : Rat) : Prop where
  den : q.den ∣ S
  abs : q.num.natAbs ≤ M * q.den
theorem Nice.mono {S S' M M' : Nat} {q : Rat} (h : Nice S M q) (d : S ∣ S') (l : M ≤ M') : Nice S' M' q := ⟨Nat.dvd_trans h.den d, Nat.le_trans h.abs (Nat.mul_le_mul_right _ l)⟩
theorem Nice.bd {S M n : Nat} {q : Rat} (h : Nice S M q) (S0 : 0 < S) (h1 : S < 2 ^ n) (h2 : M * S < 2 ^ n) : Bd n q := by
  have l := Nat.le_of_dvd S0 h.den
  exact ⟨Nat.lt_of_le_of_lt (Nat.le_trans h.abs (Nat.mul_le_mul_left _ l)) h2, Nat.lt_of_le_of_lt l h1⟩
theorem divInt_cross {t b : Int} {q : Rat} (hb : b ≠ 0) (h : Rat.divInt t b = q) : q.num * b = t * (q.den : Int) := by
  have e : Rat.divInt q.num (q.den : Int) = Rat.divInt t b := by rw [divInt_self, h]
  exact (Rat.divInt_eq_divInt_iff (den_ne q) hb).mp e
theorem Nice.of {t : Int} {b S M : Nat} (hb : 0 < b) (d : b ∣ S) (h : t.natAbs ≤ M * b) : Nice S M (Rat.divInt t (b : Int)) := by
  refine ⟨Nat.dvd_trans (den_dvd_bot hb) d, ?_⟩
  have e := divInt_cross (t := t) (b := (b : Int)) (by omega) rfl
  generalize Rat.divInt t (b : Int) = q at e
  have e2 := congrArg Int.natAbs e
  rw [Int.natAbs_mul, Int.natAbs_mul, Int.natAbs_natCast, Int.natAbs_natCast] at e2
  have h3 : q.num.natAbs * b ≤ (M * q.den) * b := by
    rw [e2, Nat.mul_right_comm]
    exact Nat.mul_le_mul_right _ h
  exact Nat.le_of_mul_le_mul_right h3 hb
theorem Nice.add {S M N : Nat} {x y : Rat} (S0 : 0 < S) (hx : Nice S M x) (hy : Nice S N y) : Nice S (M + N) (x + y) := by
  refine ⟨den_add S0 hx.den hy.den, ?_⟩
  have e := divInt_cross (dens_ne x y) (rat_add x y)
  generalize x + y = q at e
  have e2 := congrArg Int.natAbs e
  rw [Int.natAbs_mul, Int.natAbs_mul, Int.natAbs_mul, Int.natAbs_natCast, Int.natAbs_natCast, Int.natAbs_natCast] at e2
  have h1 : (x.num * (y.den : Int) + y.num * (x.den : Int)).natAbs ≤ (M + N) * (x.den * y.den) := by
    refine Nat.le_trans (Int.natAbs_add_le _ _) ?_
    rw [Int.natAbs_mul, Int.natAbs_mul, Int.natAbs_natCast, Int.natAbs_natCast, Nat.add_mul]
    refine Nat.add_le_add ?_ ?_
    · rw [← Nat.mul_assoc]
      exact Nat.mul_le_mul_right _ hx.abs
    · rw [Nat.mul_comm x.den, ← Nat.mul_assoc]
      exact Nat.mul_le_mul_right _ hy.abs
  have h3 : q.num.natAbs * (x.den * y.den) ≤ ((M + N) * q.den) * (x.den * y.den) := by
    rw [e2, Nat.mul_right_comm]
    exact Nat.mul_le_mul_right _ h1
  exact Nat.le_of_mul_le_mul_right h3 (Nat.mul_pos x.den_pos y.den_pos)
theorem Nice.neg {S M : Nat} {x : Rat} (h : Nice S M x) : Nice S M (-x) := by
  refine ⟨by rw [Rat.neg_den]; exact h.den, ?_⟩
  rw [Rat.neg_num, Rat.neg_den, Int.natAbs_neg]
  exact h.abs
theorem Nice.sub {S M N : Nat} {x y : Rat} (S0 : 0 < S) (hx : Nice S M x) (hy : Nice S N y) : Nice S (M + N) (x - y) := by
  rw [Rat.sub_eq_add_neg]
  exact hx.add S0 hy.neg
end Fb
namespace Fb
open PySem PySem.Spec PyProof.Rows L2
theorem units1 {u : Nat} (h : u + 64 < cLine) : u + 1 < cLine := by omega
theorem units2 {u : Nat} (h : u + 64 < cLine) : u + 2 < cLine := by omega
section
variable {P : Program} {w : World}
/-- objects known by keys: their hash, and what the model asks of two of them -/
structure Known (P : Program) (w : World) (κ : Type) [DecidableEq κ] where
  at_ : Heap → κ → Addr → Prop
  hf : κ → Int
  eq_ : ∀ {A : Around} {E : Value → Shared → Prop} {s : Shared} {k l : κ} {b c : Addr} {Q : Bool → Shared → Prop}, A.units < cLine → at_ s.heap k b → at_ s.heap l c → Q (decide (k = l)) s → wpAny (model P w) A (eqBool (.ref b) (.ref c)) Q E s
  unseen : ∀ {A : Around} {E : Value → Shared → Prop} {s : Shared} {k : κ} {b : Addr} {ys : List Value} {Q : Bool → Shared → Prop}, at_ s.heap k b → (∀ y ∈ ys, ∃ l c, y = Value.ref c ∧ at_ s.heap l c) → Q false s → wpAny (model P w) A (searchCouldBeSeen (.ref b) ys) Q E s
  byVal : ∀ {A : Around} {E : Value → Shared → Prop} {s : Shared} {k : κ} {b : Addr} {Q : Bool → Shared → Prop}, at_ s.heap k b → (∀ r, Q r s) → wpAny (model P w) A (hashByValue 8 (.ref b)) Q E s
  stays : ∀ {h h' : Heap} {k : κ} {a b : Addr} {o : Obj} {es : Array (Int × Value)} {ep : Nat} {t : SetTable}, at_ h k b → h.get? a = some o → o.data = .set es ep t → Heap.SameBut a h h' → at_ h' k b
  keeps : ∀ {h h' : Heap} {k : κ} {b : Addr}, at_ h k b → (∀ c o, h.get? c = some o → h'.get? c = some o) → at_ h' k b
variable {κ : Type} [DecidableEq κ] (N : Known P w κ)
def entries (L : List (Addr × κ)) : List (Int × Value) := L.map fun p => (N.hf p.2, Value.ref p.1)
/-- a set of them, with its table -/
structure KSet (h : Heap) (a : Addr) (L : List (Addr × κ)) (es : Array (Int × Value)) (ep : Nat) (t : SetTable) : Prop where
  obj : ∃ o, h.get? a = some o ∧ o.ExactSet ∧ o.data = .set es ep t
  ents : es.toList = entries N L
  tab : TabOk t (L.map fun p => N.hf p.2)
  once : (L.map (·.2)).Nodup
  all : ∀ p ∈ L, N.at_ h p.2 p.1
  ld : w.params.followText "set-order" = true ∨ t.led = true
  room : L.length * 5 < t.mask * 3
  few : L.length < 64
variable {N}
theorem entries_len {L : List (Addr × κ)} {es : Array (Int × Value)} (h : es.toList = entries N L) : es.size = L.length := by
  rw [← Array.length_toList, h]
  exact List.length_map ..
theorem entries_at {L : List (Addr × κ)} {es : Array (Int × Value)} (h : es.toList = entries N L) {i : Nat} {p : Addr × κ} (hp : L[i]? = some p) : es[i]? = some (N.hf p.2, Value.ref p.1) := by
  rw [← Array.getElem?_toList, h, entries, List.getElem?_map, hp]
  rfl
theorem fits_by {t : SetTable} {n : Nat} (h1 : t.place.size = n) (h2 : t.dummies = #[]) (h3 : n ≤ t.mask) : t.fits n = true := by
  simp only [SetTable.fits, SetTable.fill, h2, Bool.and_eq_true, beq_iff_eq, decide_eq_true_eq]
  exact ⟨h1, by show t.place.size + 0 ≤ t.mask; omega⟩
variable {h₀ : Heap} {a : Addr} {L : List (Addr × κ)} {es : Array (Int × Value)} {ep : Nat} {t : SetTable}
theorem KSet.fit {s : Shared} (R : KSet N s.heap a L es ep t) : t.fits es.size = true := by
  have e1 := R.tab.sz
  have e2 := entries_len R.ents
  have e3 := R.room
  rw [List.length_map] at e1
  exact fits_by (by omega) R.tab.dm (by omega)
theorem not_gave {t : SetTable} (h : MaskOk t.mask) : ¬ t.gaveWay = true := by
  unfold SetTable.gaveWay
  rw [mask_odd h]
  decide
/-- the probe's way from its c-th place on -/
abbrev wayP (m : Nat) (h : Int) (c : Nat) : SetTable.Probe := nth m (runAt m (SetTable.bits h % (m + 1)) (SetTable.bits h)) c
theorem nth_clean (m : Nat) : ∀ (n : Nat) (p : SetTable.Probe), p.dummy = none → (nth m p n).dummy = none
  | 0, _, h => h
  | n + 1, p, h => nth_clean m n (adv m p) (by unfold adv; split <;> exact h)
theorem wayP_from (m : Nat) (h : Int) (c q : Nat) : nth m (wayP m h c) q = wayP m h (c + q) := (nth_add m c _ q).symm
/-- what is asked of the search -/
structure Ask (N : Known P w κ) (L : List (Addr × κ)) (t : SetTable) (k : κ) (K : Nat) : Prop where
  fuel : K < 10 * SetTable.turns t.mask
  empty : way t.mask (N.hf k) K ∉ t.place.toList
  full : ∀ c, c < K → way t.mask (N.hf k) c ∈ t.place.toList
theorem seek {A : Around} {E : Value → Shared → Prop} {s : Shared} (R : KSet N s.heap a L es ep t) {x : Addr} {k : κ} (hx : N.at_ s.heap k x) (hu : A.units < cLine) {K : Nat} (W : Ask N L t k K) {Q : SetFound → Shared → Prop}
    (yes : k ∈ L.map (·.2) → Q (.there none) s) (no : k ∉ L.map (·.2) → Q (.free (way t.mask (N.hf k) K) false) s) (m : Nat) :
    ∀ (c f : Nat) (st : Option SetTable.Probe), K - c = m → m < f → c ≤ K → st.getD (t.probeStart (N.hf k)) = wayP t.mask (N.hf k) c →
      (∀ (i : Nat) p, L[i]? = some p → p.2 = k → ∃ d, c ≤ d ∧ d < K ∧ t.place.toList[i]? = some (way t.mask (N.hf k) d)) → wpAny (model P w) A (setSearchFrom a (.ref x) (N.hf k) true f st) Q E s := by
  induction m using Nat.strongRecOn with
  | ind m ih =>
  intro c f st hm hf hc hst ahead
  obtain ⟨o, ho, hex, hd⟩ := R.obj
  cases f with
  | zero => omega
  | succ f =>
  rw [setSearchFrom_succ]
  refine wpAny_bind (wpAny_setState_of ho hd R.fit ?_)
  dsimp only
  refine wp_if_neg (not_gave R.tab.mok) ?_
  try refine wpAny_bind (wpAny_pure ?_)
  have J : ∀ q, (nth t.mask (wayP t.mask (N.hf k) c) q).j = way t.mask (N.hf k) (c + q) := fun q => congrArg SetTable.Probe.j (wayP_from t.mask (N.hf k) c q)
  have at_h : ∀ (i : Nat) p, L[i]? = some p → (fun i => (es[i]?.map (·.1)).getD 0) i = N.hf p.2 := fun i p hp => by
    dsimp only
    rw [entries_at R.ents hp]
    rfl
  have end_ : c + (K - c) = K := by omega
  have g := go_spec t R.tab.ris R.tab.dm (fun i => (es[i]?.map (·.1)).getD 0) (N.hf k) (10 * SetTable.turns t.mask) (K - c) (wayP t.mask (N.hf k) c) (nth_clean _ _ _ rfl) (by have := W.fuel; omega)
    (fun q hq => by rw [J]; exact W.full _ (by omega)) (by rw [J, end_]; exact W.empty)
  rcases g with ⟨q, i, hq, hi, hh, before, met⟩ | ⟨none_, met⟩
  · have met' : t.probe (fun i => (es[i]?.map (·.1)).getD 0) (N.hf k) (st.getD (t.probeStart (N.hf k))) = some (.candidate (way t.mask (N.hf k) (c + q)) i (wayP t.mask (N.hf k) (c + (q + 1)))) := by
      rw [hst, ← J, ← wayP_from]
      exact met
    rw [met']
    dsimp only
    rw [J] at hi
    have il : i < L.length := by
      have e1 := (List.getElem?_eq_some_iff.mp hi).1
      have e2 := R.tab.sz
      rw [List.length_map] at e2
      rw [Array.length_toList] at e1
      omega
    have hp := List.getElem?_eq_getElem il
    generalize L[i] = p at hp
    have pm := List.mem_of_getElem? hp
    have live := slot_live R.tab.ris hi
    have tail : wpAny (model P w) A (searchRest a (.ref x) (N.hf k) true f es t (way t.mask (N.hf k) (c + q)) i (wayP t.mask (N.hf k) (c + (q + 1)))) Q E s := by
      unfold searchRest
      rw [entries_at R.ents hp]
      dsimp only
      refine wpAny_bind (wpAny_holding (N.eq_ hu (R.all p pm) hx ?_))
      refine wpAny_bind (wpAny_setState_of ho hd R.fit ?_)
      dsimp only
      by_cases e : p.2 = k
      · exact wp_if_pos (by simp [e]) (wpAny_pure (yes (List.mem_map.mpr ⟨p, pm, e⟩)))
      · refine wp_if_neg (by simp [e]) ?_
        try refine wpAny_bind (wpAny_pure ?_)
        rw [sameMem]
        dsimp only
        simp only [if_true, live, entries_at R.ents hp]
        refine wpAny_bind (wpAny_isSame_ref_self (wpAny_bind (wpAny_pure ?_)))
        simp only [if_true]
        refine wp_if_neg (by simp [e]) ?_
        refine ih (K - (c + (q + 1))) (by omega) (c + (q + 1)) f _ rfl (by omega) (by omega) rfl fun i' p' hp' hk' => ?_
        obtain ⟨d, d1, d2, d3⟩ := ahead i' p' hp' hk'
        refine ⟨d, ?_, d2, d3⟩
        have n1 : ¬ d < c + q := fun z => before (d - c) i' (by omega) (by rw [J, show c + (d - c) = d by omega]; exact d3) ((at_h i' p' hp').trans (congrArg N.hf hk'))
        have n2 : d ≠ c + q := fun z => by
          rw [z] at d3
          have l2 := slot_live R.tab.ris d3
          rw [live] at l2
          cases l2
          rw [hp] at hp'
          cases hp'
          exact e hk'
        omega
    by_cases hl : t.led = true
    · refine wp_if_neg (by simp [hl]) ?_
      try refine wpAny_bind (wpAny_pure ?_)
      exact tail
    · refine wp_if_pos (by simp [hl]) ?_
      refine wpAny_bind (N.unseen hx (fun y hy => ?_) ?_)
      · obtain ⟨e, he, rfl⟩ := List.mem_map.mp hy
        have he : e ∈ es.toList := by
          have : e ∈ es ∧ e.1 = N.hf k := by simpa using he
          simpa using this.1
        rw [R.ents] at he
        obtain ⟨p', hp', rfl⟩ := List.mem_map.mp he
        exact ⟨p'.2, p'.1, rfl, R.all p' hp'⟩
      · refine wp_if_neg (by decide) ?_
        try refine wpAny_bind (wpAny_pure ?_)
        exact tail
  · have met' : t.probe (fun i => (es[i]?.map (·.1)).getD 0) (N.hf k) (st.getD (t.probeStart (N.hf k))) = some (.empty (way t.mask (N.hf k) K) none) := by
      have e : way t.mask (N.hf k) K = (nth t.mask (wayP t.mask (N.hf k) c) (K - c)).j := by rw [J, end_]
      rw [hst, e]
      exact met
    rw [met']
    dsimp only
    refine wpAny_pure (no fun hk => ?_)
    obtain ⟨p, pm, e⟩ := List.mem_map.mp hk
    obtain ⟨i, hi, ei⟩ := List.getElem_of_mem pm
    have hp : L[i]? = some p := by rw [List.getElem?_eq_getElem hi, ei]
    obtain ⟨d, d1, d2, d3⟩ := ahead i p hp e
    exact none_ (d - c) i (by omega) (by rw [J, show c + (d - c) = d by omega]; exact d3) ((at_h i p hp).trans (congrArg N.hf e))
theorem search {A : Around} {E : Value → Shared → Prop} {s : Shared} (R : KSet N s.heap a L es ep t) {x : Addr} {k : κ} (hx : N.at_ s.heap k x) (hu : A.units < cLine) {Q : SetFound → Shared → Prop} (yes : k ∈ L.map (·.2) → Q (.there none) s)
    (no : ∀ K, Ask N L t k K → k ∉ L.map (·.2) → Q (.free (way t.mask (N.hf k) K) false) s) : wpAny (model P w) A (setSearch a (.ref x) (N.hf k) true) Q E s := by
  have rm := R.room
  obtain ⟨K, k1, k2, k3⟩ := R.tab.first (by rw [List.length_map]; omega) (N.hf k)
  have W : Ask N L t k K := ⟨k1, k2, k3⟩
  have small : K < 100000 := by
    have : 10 * SetTable.turns t.mask ≤ 1420 := by
      unfold SetTable.turns
      rcases R.tab.mok with e | e | e <;> omega
    omega
  unfold setSearch
  refine seek R hx hu W yes (no K W) (K - 0) 0 100000 none rfl (by omega) (Nat.zero_le _) rfl fun i p hp hk => ?_
  have il : i < t.place.toList.length := by
    have e1 := (List.getElem?_eq_some_iff.mp hp).1
    have e2 := R.tab.sz
    rw [List.length_map] at e2
    rw [Array.length_toList]
    omega
  have hj := List.getElem?_eq_getElem il
  obtain ⟨d, d1, d2⟩ := R.tab.before k2 (i := i) (by rw [List.getElem?_map, hp, ← hk]; rfl) hj
  exact ⟨d, Nat.zero_le _, d1, by rw [hj, d2]⟩
theorem filterMap_ix {α : Type} (L : List α) : ∀ n, n ≤ L.length → (List.range n).filterMap (fun i => L[i]?) = L.take n
  | 0, _ => rfl
  | n + 1, h => by
    have hl : n < L.length := h
    have e := List.getElem?_eq_getElem hl
    rw [List.range_succ, List.filterMap_append, filterMap_ix L n (Nat.le_of_lt hl), List.take_add_one, e]
    simp [List.filterMap, e]
theorem reorder (order : List Nat) (hs : es.toList = entries N L) (hp : ∀ i ∈ order, i < L.length) :
    order.filterMap (fun i => es[i]?) = entries N (order.filterMap fun i => L[i]?) ∧ ((order.filterMap fun i => L[i]?).map fun p => N.hf p.2) = order.map fun i => (es.map (·.1)).getD i 0 := by
  induction order with
  | nil => exact ⟨rfl, rfl⟩
  | cons i r ih =>
    have hi := hp i List.mem_cons_self
    obtain ⟨e1, e2⟩ := ih fun j hj => hp j (List.mem_cons_of_mem _ hj)
    have g := List.getElem?_eq_getElem hi
    have ge := entries_at hs g
    refine ⟨?_, ?_⟩
    · rw [List.filterMap_cons_some ge, List.filterMap_cons_some g, e1]
      rfl
    · rw [List.filterMap_cons_some g, List.map_cons, List.map_cons, e2]
      congr 1
      have e5 : (es.map (·.1))[i]? = some (N.hf (L[i]).2) := by
        rw [Array.getElem?_map, ge]
        rfl
      simp [Array.getD_eq_getD_getElem?, e5]
theorem relay {A : Around} {E : Value → Shared → Prop} {s : Shared} {o : Obj} (ho : s.heap.get? a = some o) (hex : o.ExactSet) (hd : o.data = .set es ep t) (he : es.toList = entries N L) (hz : t.place.size = es.size) (hdm : t.dummies = #[]) (hle : es.size ≤ t.mask)
    (once : (L.map (·.2)).Nodup) (all : ∀ p ∈ L, N.at_ s.heap p.2 p.1) (ld : w.params.followText "set-order" = true ∨ t.led = true) (few : L.length < 64) {want M : Nat}
    (hw : SetTable.sizeAbove want - 1 = M) (hM : MaskOk M) (h128 : SetTable.sizeAbove want ≤ 128) (room : L.length * 5 < M * 3) {Q : Unit → Shared → Prop}
    (q : ∀ h' L' es' ep' t', Heap.SameBut a s.heap h' → KSet N h' a L' es' ep' t' → L'.Perm L → Q () { s with heap := h' }) : wpAny (model P w) A (setRelay a want) Q E s := by
  have ln := entries_len he
  obtain ⟨t', order, e, hp, T, em, el, epl, ed⟩ := relaid_ok t (hs := es.map (·.1)) (wanted := want) hw hM (by rw [Array.size_map, ln]; omega)
  rw [Array.size_map, ln] at hp
  obtain ⟨r1, r2⟩ := reorder order.toList he fun i hi => List.mem_range.mp (hp.mem_iff.mp hi)
  rw [← r2] at T
  have pm : (order.toList.filterMap fun i => L[i]?).Perm L := by
    have := hp.filterMap fun i => L[i]?
    rw [filterMap_ix L _ (Nat.le_refl _), List.take_length] at this
    exact this
  generalize (order.toList.filterMap fun i => L[i]?) = L2 at r1 T pm
  have r1 : (order.filterMap (es[·]?)).toList = entries N L2 := by
    rw [Array.toList_filterMap]
    exact r1
  have hs2 : (order.filterMap (es[·]?)).size = es.size := by rw [entries_len r1, pm.length_eq, ln]
  rw [setRelay_eq]
  refine wpAny_bind (wpAny_setState_of ho hd (fits_by hz hdm hle) ?_)
  dsimp only
  refine wp_if_neg (by rw [sizeLine_eq]; omega) ?_
  try refine wpAny_bind (wpAny_pure ?_)
  rw [e]
  dsimp only
  refine wpAny_bind ?_
  refine wp_if_neg (by rw [hs2]; simp) ?_
  try refine wpAny_bind (wpAny_pure ?_)
  refine wpAny_pure ?_
  dsimp only
  refine wpAny_storeSet_of ho hd ?_ (by rw [hs2, ln, sizeLine_eq]; omega)
  have sb : Heap.SameBut a s.heap (s.heap.update a (Obj.putSet (order.filterMap (es[·]?)) t')) := Heap.SameBut.update ..
  exact q _ L2 _ (ep + 1) t' sb ⟨⟨_, store_at ho hd, ⟨hex.1, hex.2.1, hex.2.2⟩, rfl⟩, r1, T, (pm.map (·.2)).nodup_iff.mpr once, fun p hm => N.stays (all p (pm.mem_iff.mp hm)) ho hd sb, by rw [el]; exact ld, by rw [pm.length_eq, em]; exact room, by rw [pm.length_eq]; exact few⟩ pm
theorem add_key {A : Around} {E : Value → Shared → Prop} {s : Shared} (R : KSet N s.heap a L es ep t) {x : Addr} {k : κ} (hx : N.at_ s.heap k x) (hu : A.units < cLine) (few : L.length + 1 < 64) {Q : Bool → Shared → Prop}
    (q : ∀ b h' L' es' ep' t', Heap.SameBut a s.heap h' → KSet N h' a L' es' ep' t' → (k ∈ L.map (·.2) → L' = L) → (k ∉ L.map (·.2) → L'.Perm ((x, k) :: L)) → Q b { s with heap := h' }) :
    wpAny (model P w) A (setAddHashed a (.ref x) (N.hf k)) Q E s := by
  obtain ⟨o, ho, hex, hd⟩ := R.obj
  have ln := entries_len R.ents
  have rm := R.room
  unfold setAddHashed
  refine wpAny_holding ?_
  rw [show (100000 : Nat) = 99999 + 1 from rfl, setAddHashedIn_succ]
  refine wpAny_bind (wpAny_setState_of ho hd R.fit ?_)
  dsimp only
  refine wp_if_neg (by simp [byScan, Value.scannable]) ?_
  try refine wpAny_bind (wpAny_pure ?_)
  refine wpAny_bind (search R hx hu (fun hm => ?_) fun K W hm => ?_)
  · exact wpAny_pure (q false s.heap L es ep t (Heap.SameBut.refl a s.heap) R (fun _ => rfl) fun z => absurd hm z)
  · dsimp only
    refine wpAny_bind (wpAny_setState_of ho hd R.fit ?_)
    dsimp only
    obtain ⟨q1, q2, q3, q4, q5, q6, _, _, q9⟩ := R.tab.put W.empty W.full
    generalize t.put (way t.mask (N.hf k) K) = tp at q1 q3 q4 q5 q9 ⊢
    obtain ⟨t0, i⟩ := tp
    dsimp only at q1 q3 q4 q5 q9 ⊢
    subst q1
    generalize SetTable.below t.place (way t.mask (N.hf k) K) = i at q2 q3 ⊢
    have either : ∀ (r : Bool), ∃ t1 : SetTable, (if r = true then t0 else { t0 with plain := false }) = t1 ∧ t1.place = t0.place ∧ t1.dummies = t0.dummies ∧ t1.mask = t0.mask ∧ t1.led = t0.led ∧ t1.fill = t0.fill := fun r => by
      cases r
      · exact ⟨_, rfl, rfl, rfl, rfl, rfl, rfl⟩
      · exact ⟨_, rfl, rfl, rfl, rfl, rfl, rfl⟩
    have goOn : ∀ r, wpAny (model P w) A (do
        storeSet a (SetTable.insertAt es i (N.hf k, Value.ref x)) (if r = true then t0 else { t0 with plain := false })
        if !false && (if r = true then t0 else { t0 with plain := false }).tooFull then setRelay a (SetTable.grown (es.size + 1))
        return true) Q E s := fun r => ?_
    · by_cases hpl : t0.plain = true
      · first
          | (refine wpAny_bind ?_; refine wp_if_pos hpl ?_; exact N.byVal hx goOn)
          | exact wp_if_pos hpl (wpAny_bind (N.byVal hx goOn))
      · first
          | (refine wpAny_bind ?_; refine wp_if_neg hpl ?_; exact wpAny_pure (goOn true))
          | exact wp_if_neg hpl (wpAny_bind (wpAny_pure (goOn true)))
    obtain ⟨t1, et, f1, f2, f3, f4, f5⟩ := either r
    rw [et]
    have q3 : TabOk t1 _ := ⟨by rw [f1]; exact q3.ris, by rw [f2]; exact q3.dm, by rw [f1]; exact q3.sz, by rw [f3]; exact q3.mok, by rw [f1, f3]; exact q3.bd, by rw [f1, f3]; exact q3.reach⟩
    rw [← f3] at q4
    rw [← f4] at q5
    rw [← f5] at q9
    clear f1 f2 f3 f4 f5 et either
    have he : (SetTable.insertAt es i (N.hf k, Value.ref x)).toList = entries N (L.take i ++ (x, k) :: L.drop i) := by
      rw [SetTable.toList_insertAt, R.ents]
      simp only [entries, List.map_append, List.map_cons, List.map_take, List.map_drop]
    have pm := put_perm L i (x, k)
    rw [show (L.map fun p => N.hf p.2).take i ++ N.hf k :: (L.map fun p => N.hf p.2).drop i = (L.take i ++ (x, k) :: L.drop i).map (fun p => N.hf p.2) by simp only [List.map_append, List.map_cons, List.map_take, List.map_drop]] at q3
    generalize SetTable.insertAt es i (N.hf k, Value.ref x) = es1 at he ⊢
    generalize L.take i ++ (x, k) :: L.drop i = L1 at pm q3 he
    have l1 : L1.length = L.length + 1 := pm.length_eq
    have z1 : es1.size = L.length + 1 := by rw [entries_len he, l1]
    have once1 : (L1.map (·.2)).Nodup := (pm.map (·.2)).nodup_iff.mpr (List.nodup_cons.mpr ⟨hm, R.once⟩)
    refine wpAny_bind (wpAny_storeSet_of ho hd ?_ (by rw [z1, sizeLine_eq]; omega))
    have sb : Heap.SameBut a s.heap (s.heap.update a (Obj.putSet es1 t1)) := Heap.SameBut.update ..
    have ho1 := store_at (es' := es1) (t' := t1) ho hd
    generalize s.heap.update a (Obj.putSet es1 t1) = h1 at sb ho1 ⊢
    have all1 : ∀ p ∈ L1, N.at_ h1 p.2 p.1 := fun p hp => by
      rcases List.mem_cons.mp (pm.mem_iff.mp hp) with rfl | hp
      · exact N.stays hx ho hd sb
      · exact N.stays (R.all p hp) ho hd sb
    have ld1 : w.params.followText "set-order" = true ∨ t1.led = true := by rw [q5]; exact R.ld
    have full : t1.tooFull = true ↔ (L.length + 1) * 5 ≥ t.mask * 3 := by
      unfold SetTable.tooFull
      rw [decide_eq_true_eq, q9, List.length_map, q4]
    by_cases hf : t1.tooFull = true
    · first
        | (refine wpAny_bind ?_; refine wp_if_pos (by simp [hf]) ?_)
        | (refine wp_if_pos (by simp [hf]) ?_; refine wpAny_bind ?_)
      have hf := full.mp hf
      have sz1 : t1.place.size = es1.size := by
        have := q3.sz
        rw [List.length_map, l1] at this
        rw [this, z1]
      have two : (t.mask = 7 ∧ L.length = 4) ∨ (t.mask = 31 ∧ L.length = 18) := by
        rcases R.tab.mok with e | e | e <;> rw [e] at hf rm <;> omega
      rw [ln]
      have grow : ∀ M, SetTable.sizeAbove (SetTable.grown (L.length + 1)) - 1 = M → MaskOk M → SetTable.sizeAbove (SetTable.grown (L.length + 1)) ≤ 128 → (L.length + 1) * 5 < M * 3 →
          wpAny (model P w) A (setRelay a (SetTable.grown (L.length + 1))) (fun _ s' => wpAny (model P w) A (pure true) Q E s') E { s with heap := h1 } := fun M g1 g2 g3 g4 =>
        relay (s := { s with heap := h1 }) ho1 ⟨hex.1, hex.2.1, hex.2.2⟩ rfl he sz1 q3.dm (by rw [z1, q4]; rcases two with ⟨_, _⟩ | ⟨_, _⟩ <;> omega) once1 all1 ld1 (by omega) g1 g2 g3 (by rw [l1]; exact g4)
          fun h2 L2 es2 ep2 t2 sb2 R2 pm2 => wpAny_pure (q true h2 L2 es2 ep2 t2 (sb.trans sb2) R2 (fun z => absurd z hm) fun _ => pm2.trans pm)
      rcases two with ⟨_, e⟩ | ⟨_, e⟩
      · exact grow 31 (by rw [e, size_20]) (.inr (.inl rfl)) (by rw [e, size_20]; decide) (by omega)
      · exact grow 127 (by rw [e, size_76]) (.inr (.inr rfl)) (by rw [e, size_76]; decide) (by omega)
    · first
        | refine wp_if_neg (by simp [hf]) ?_
        | (refine wpAny_bind ?_; refine wp_if_neg (by simp [hf]) ?_; refine wpAny_pure ?_)
      have hf : ¬ (L.length + 1) * 5 ≥ t.mask * 3 := fun z => hf (full.mpr z)
      exact wpAny_pure (q true h1 L1 es1 (ep + 1) t1 sb ⟨⟨_, ho1, ⟨hex.1, hex.2.1, hex.2.2⟩, rfl⟩, he, q3, once1, all1, ld1, by rw [l1, q4]; omega, by omega⟩ (fun z => absurd z hm) fun _ => pm)
theorem fresh_set {h : Heap} (ho : h.get? a = some { cls := .type "set", dict := none, data := .set #[] 0 (.fresh 0 0 (!w.params.followText "set-order")) }) : KSet N h a [] #[] 0 (.fresh 0 0 (!w.params.followText "set-order")) := by
  refine ⟨⟨_, ho, ⟨rfl, rfl, rfl⟩, rfl⟩, rfl, ⟨?_, rfl, rfl, .inl rfl, fun x h => ?_, fun i h j e => ?_⟩, List.nodup_nil, fun p h => ?_, ?_, by show 0 * 5 < 7 * 3; decide, by show 0 < 64; decide⟩
  · exact .nil
  · cases h
  · cases e
  · cases h
  · cases w.params.followText "set-order"
    · exact .inr rfl
    · exact .inl rfl
end
section
variable {P : Program} {w : World}
theorem items_plain {ks : List Key} {vs : List Value} (h : ItemsAre (mixKind P w) ks vs) : ∀ v ∈ vs, (∃ i t, v = Value.int i t) ∨ ∃ x t, v = Value.str x t := by
  induction h with
  | nil => intro v hv; cases hv
  | cons h1 _ ih =>
    intro v hv
    rcases List.mem_cons.mp hv with rfl | hv
    · rcases keyIs_shape h1 with ⟨i, t, _, e⟩ | ⟨x, t, _, e⟩
      · exact .inl ⟨i, t, e⟩
      · exact .inr ⟨x, t, e⟩
    · exact ih v hv
theorem plain_cls {v : Value} (h : (∃ i t, v = Value.int i t) ∨ ∃ x t, v = Value.str x t) (n : Nat) : ofAClassStatement n v = pure false := by
  rcases h with ⟨i, t, rfl⟩ | ⟨x, t, rfl⟩ <;> cases n <;> rfl
theorem plain_hash {v : Value} (h : (∃ i t, v = Value.int i t) ∨ ∃ x t, v = Value.str x t) (n : Nat) : ∃ r, hashByValue n v = pure r := by
  rcases h with ⟨i, t, rfl⟩ | ⟨x, t, rfl⟩
  · exact ⟨_, hashByValue_scannable n rfl⟩
  · exact ⟨_, hashByValue_scannable n rfl⟩
theorem tup_cls {A : Around} {E : Value → Shared → Prop} {s : Shared} {k : List Key} {b : Addr} {Q : Bool → Shared → Prop} (hk : IsTupleKey (mixKind P w) s.heap k b) (q : Q false s) : wpAny (model P w) A (ofAClassStatement 8 (.ref b)) Q E s := by
  have ty := hk.typeIs
  obtain ⟨o, its, n, ho, _, hd, hi⟩ := hk
  unfold ofAClassStatement
  refine wpAny_bind (wpAny_typeOf ty ?_)
  dsimp only
  simp only [show (("tuple" : String) == "tuple") = true by decide, if_true, Bool.not_true, Bool.false_eq_true, if_false]
  try refine wpAny_bind (wpAny_pure ?_)
  try simp only [Bool.not_true, Bool.false_eq_true, if_false]
  show wpAny _ _ (seqItems? (.ref b) >>= _) _ _ s
  refine wpAny_bind (wpAny_seqItems ho hd ?_)
  dsimp only
  refine wpAny_bind ?_
  show wpAny _ _ (forIn its _ _) _ _ s
  rw [← Array.forIn_toList]
  refine wpAny_forIn_list _ (fun rest r s' => r.1 = none ∧ s' = s ∧ ∀ v ∈ rest, (∃ i t, v = Value.int i t) ∨ ∃ x t, v = Value.str x t) _ ?_ ?_ _ _ ⟨rfl, rfl, items_plain hi⟩
  · rintro v rest r s' ⟨_, rfl, al⟩
    rw [plain_cls (al v List.mem_cons_self)]
    refine wpAny_bind (wpAny_pure ?_)
    simp only [Bool.false_eq_true, if_false]
    exact wpAny_pure ⟨rfl, rfl, fun u hu => al u (List.mem_cons_of_mem _ hu)⟩
  · rintro ⟨r1, r2⟩ s' ⟨hr, rfl, _⟩
    simp only at hr
    subst hr
    exact wpAny_pure q
theorem tup_byVal {A : Around} {E : Value → Shared → Prop} {s : Shared} {k : List Key} {b : Addr} {Q : Bool → Shared → Prop} (hk : IsTupleKey (mixKind P w) s.heap k b) (q : ∀ r, Q r s) : wpAny (model P w) A (hashByValue 8 (.ref b)) Q E s := by
  have ty := hk.typeIs
  obtain ⟨o, its, n, ho, _, hd, hi⟩ := hk
  unfold hashByValue
  refine wpAny_bind (wpAny_specialOf ty F.slot_tuple_hash.lookup ?_)
  show wpAny _ _ (seqItems? (.ref b) >>= _) _ _ s
  refine wpAny_bind (wpAny_seqItems ho hd ?_)
  refine wpAny_bind ?_
  show wpAny _ _ (forIn its _ _) _ _ s
  rw [← Array.forIn_toList]
  refine wpAny_forIn_list _ (fun rest r s' => s' = s ∧ ∀ v ∈ rest, (∃ i t, v = Value.int i t) ∨ ∃ x t, v = Value.str x t) _ ?_ ?_ _ _ ⟨rfl, items_plain hi⟩
  · rintro v rest r s' ⟨rfl, al⟩
    obtain ⟨c, e⟩ := plain_hash (al v List.mem_cons_self) 7
    rw [e]
    refine wpAny_bind (wpAny_pure ?_)
    cases c
    · simp only [Bool.not_false, if_true]
      exact wpAny_pure (wpAny_pure (q false))
    · simp only [Bool.not_true, Bool.false_eq_true, if_false]
      exact wpAny_pure ⟨rfl, fun u hu => al u (List.mem_cons_of_mem _ hu)⟩
  · rintro ⟨r1, r2⟩ s' ⟨rfl, _⟩
    cases r1
    · exact wpAny_pure (q _)
    · exact wpAny_pure (q _)
theorem tup_unseen {A : Around} {E : Value → Shared → Prop} {s : Shared} {k : List Key} {b : Addr} {ys : List Value} {Q : Bool → Shared → Prop} (hk : IsTupleKey (mixKind P w) s.heap k b) (hy : ∀ y ∈ ys, ∃ l c, y = Value.ref c ∧ IsTupleKey (mixKind P w) s.heap l c) (q : Q false s) :
    wpAny (model P w) A (searchCouldBeSeen (.ref b) ys) Q E s := by
  unfold searchCouldBeSeen
  refine wpAny_bind (wpAny_forIn_list _ (fun rest r s' => r.1 = none ∧ s' = s ∧ ∀ y ∈ rest, ∃ l c, y = Value.ref c ∧ IsTupleKey (mixKind P w) s.heap l c) _ ?_ ?_ _ _ ⟨rfl, rfl, hy⟩)
  · rintro v rest r s' ⟨_, rfl, al⟩
    obtain ⟨l, c, rfl, hc⟩ := al v List.mem_cons_self
    have more : ∀ y ∈ rest, ∃ l c, y = Value.ref c ∧ IsTupleKey (mixKind P w) s'.heap l c := fun u hu => al u (List.mem_cons_of_mem _ hu)
    dsimp only
    by_cases hv : (b == c || (carriedByValue (.ref b) && carriedByValue (.ref c))) = true
    · exact wp_if_pos hv (wpAny_pure ⟨rfl, rfl, more⟩)
    · refine wp_if_neg hv (wpAny_bind (wpAny_eqIsQuiet_tuple hk ?_))
      simp only [Bool.not_true, Bool.false_eq_true, if_false]
      refine wpAny_bind (wpAny_eqIsQuiet_tuple hc ?_)
      simp only [Bool.not_true, Bool.false_eq_true, if_false]
      refine wpAny_bind (tup_cls hk ?_)
      simp only [Bool.false_eq_true, if_false]
      refine wpAny_bind (tup_cls hc ?_)
      simp only [Bool.false_eq_true, if_false]
      exact wpAny_pure ⟨rfl, rfl, more⟩
  · rintro ⟨r1, r2⟩ s' ⟨hr, rfl, _⟩
    simp only at hr
    subst hr
    exact wpAny_pure q
/-- tuples of ints and texts are known by what they hold -/
def mixT (P : Program) (w : World) : Known P w (List Key) where
  at_ := fun h k b => IsTupleKey (mixKind P w) h k b
  hf := tupleKeyHash (mixKind P w)
  eq_ := fun hu hb hc q => wpAny_eqBool_tuple hu hb hc q
  unseen := fun hb hy q => tup_unseen hb hy q
  byVal := fun hb q => tup_byVal hb q
  stays := fun {h h' k a b o es ep t} hb ho hd sb => by
    obtain ⟨o', its, n, e, c, d, i⟩ := hb
    have ne : b ≠ a := by
      rintro rfl
      rw [ho] at e
      cases e
      rw [hd] at d
      cases d
    exact ⟨o', its, n, (sb.2 b ne).trans e, c, d, i⟩
  keeps := fun {h h' k b} hb hk => by
    obtain ⟨o', its, n, e, c, d, i⟩ := hb
    exact ⟨o', its, n, hk b o' e, c, d, i⟩
end
end Fb
namespace Fb
open PySem PySem.Spec PyProof.Rows L2
abbrev Keyed := List (Addr × List Key)
/-- what the set's object tells by itself -/
def MSet (P : Program) (w : World) (h : Heap) (a : Addr) (L : Keyed) : Prop := ∃ es ep t, (∃ o, h.get? a = some o ∧ o.ExactSet ∧ o.data = .set es ep t) ∧ es.toList = entries (mixT P w) L ∧ TabOk t (L.map fun p => (mixT P w).hf p.2) ∧ (L.map (·.2)).Nodup ∧
  (w.params.followText "set-order" = true ∨ t.led = true) ∧ L.length * 5 < t.mask * 3 ∧ L.length < 64
def MSetO (P : Program) (w : World) (a : Addr) (L : Keyed) : HO := .ext fun h => MSet P w h a L
theorem KSet.bare {P : Program} {w : World} {h : Heap} {a : Addr} {L : Keyed} {es : Array (Int × Value)} {ep : Nat} {t : SetTable} (R : KSet (mixT P w) h a L es ep t) : MSet P w h a L := ⟨es, ep, t, R.obj, R.ents, R.tab, R.once, R.ld, R.room, R.few⟩
theorem MSet.with {P : Program} {w : World} {h : Heap} {a : Addr} {L : Keyed} (R : MSet P w h a L) (al : ∀ p ∈ L, (mixT P w).at_ h p.2 p.1) : ∃ es ep t, KSet (mixT P w) h a L es ep t := by
  obtain ⟨es, ep, t, r1, r2, r3, r4, r5, r6, r7⟩ := R
  exact ⟨es, ep, t, r1, r2, r3, r4, al, r5, r6, r7⟩
theorem MSet.ok {P : Program} {w : World} {H : Hp} {h : Heap} {a : Addr} {L : Keyed} (R : MSet P w h a L) : ObjOk P w H h a (MSetO P w a L) := by
  have ⟨_, _, _, ⟨o, ho, _⟩, _⟩ := R
  refine ⟨R, ⟨o, ho⟩, fun h1 h2 p k => ?_⟩
  obtain ⟨es, ep, t, ⟨o', ho', r⟩, q⟩ := (show MSet P w h1 a L from p)
  exact ⟨es, ep, t, ⟨o', k o' ho', r⟩, q⟩
theorem keys_of {P : Program} {w : World} : ∀ {ks : List Key} {us : List Value}, Vals (ks.map kV) us → ItemsAre (mixKind P w) ks us
  | [], _, .nil => .nil
  | .inl i :: ks, _, .cons r q => by
    obtain ⟨t, rfl⟩ := r
    exact .cons (by show Value.isInt i (Value.int i t) = true; simp [Value.isInt]) (keys_of q)
  | .inr x :: ks, _, .cons r q => by
    obtain ⟨t, rfl⟩ := r
    exact .cons (by show Value.isStrOf x (Value.str x t) = true; simp [Value.isStrOf]) (keys_of q)
section
variable {X : Cx} {pins : List (Addr × Obj)} {σ : L2.St} {H : Hp} {s : Shared}
theorem mix_at (I : Inv X pins σ H s) {b : Addr} {k : List Key} (h : H b = some (.tup (k.map kV))) : (mixT X.prog X.w).at_ s.heap k b := by
  obtain ⟨_, its, r, o, ho, hc, n, hd⟩ := (show ObjOk X.prog X.w H s.heap b (.tup (k.map kV)) from I.hok b _ h)
  exact ⟨o, its.toArray, n, ho, hc, hd, by simpa using keys_of r⟩
/-- set.add -/
theorem add_mix {A : Around} {E : Value → Shared → Prop} {D b : Addr} {L : Keyed} {k : List Key} {Q : Value → Shared → Prop} (hA : A.units + 1 < cLine) (I : Inv X pins σ H s) (hD : H D = some (MSetO X.prog X.w D L)) (hb : H b = some (.tup (k.map kV))) (al : ∀ p ∈ L, H p.1 = some (.tup (p.2.map kV))) (few : L.length + 1 < 64)
    (q : ∀ s' L', (k ∈ L.map (·.2) → L' = L) → (k ∉ L.map (·.2) → L'.Perm ((b, k) :: L)) → Inv X pins σ (upd H D (MSetO X.prog X.w D L')) s' → Q .none s') : wpAny (model X.prog X.w) A (call (.builtin "set.add") [.ref D, .ref b]) Q E s := by
  obtain ⟨es, ep, t, R⟩ := MSet.with (I.hok D _ hD).1 fun p hp => mix_at I (al p hp)
  have kb := mix_at I hb
  obtain ⟨o, ho, hex, hd⟩ := R.obj
  have ty : s.TypeIs (.ref D) "set" := ⟨o, ho, hex.1⟩
  refine wpAny_call_entry F.slot_set_add ty F.entry_set_add ?_ (F.args_set_add_2 _ _)
  unfold Builtin.«set.add» Builtin.Frozenset.oneOther
  simp only [List.isEmpty_nil, bind_assoc]
  unfold Builtin.Frozenset.addrOf setAdd
  refine wpAny_bind (wpAny_pure ?_)
  try dsimp only
  refine wpAny_bind (wpAny_pure ?_)
  try dsimp only
  refine wpAny_bind (wpAny_holding ?_)
  refine wpAny_bind (wpAny_pyHash_tuple (by show A.in1.units < cLine; exact hA) kb ?_)
  refine add_key (N := mixT X.prog X.w) (s := { s with toks := s.toks + (k.length + 1) }) R kb (by show A.in1.units < cLine; exact hA) few fun r h' L' es' ep' t' sb R' y n => ?_
  show wpAny _ _ (ret Value.none) _ _ _
  refine wpAny_pure ⟨_, rfl, q _ L' y n ?_⟩
  have he : ∃ u, h'.get? D = some u := by
    obtain ⟨o', ho', _⟩ := R'.obj
    exact ⟨o', ho'⟩
  exact I.write (e := D) (t' := s.toks + (k.length + 1)) (by rw [hD]; trivial) (.inl rfl) (fun c u hc hu => (sb.2 c hc).trans hu) he R'.bare.ok
end
section
variable {X : Cx}
/-- {elt for target in iter if ..}, elt a tuple of ints and texts -/
def tScM (P : Program) (w : World) (wi : TI) (g : TG) (tt : TT) (te : TE) (vs : List Nat) : TE := fun σ H Q => wi σ H fun J H1 => ∀ D, H1 D = none → ∃ W : Nat → Nat → Hp → Prop, (∃ m, W 0 m (upd H1 D (MSetO P w D []))) ∧ ∀ i m H, W i m H →
  (J.stop i H ∧ Q (.ref D) H) ∨ (J.go i H ∧ ∃ Nx : Hp → Prop, (∀ H', Nx H' → ∃ m', m' < m ∧ W (i + 1) m' H') ∧ ∀ x H', J.yld i H x H' → g x (wipe σ vs) H' fun σ2 H2 => wipe σ2 vs = wipe σ vs ∧ tt σ2 H2 fun b H3 =>
    if b = true then te σ2 H3 fun y H4 => ∃ (c : Addr) (k : List Key) (L : Keyed), y = .ref c ∧ H4 c = some (.tup (k.map kV)) ∧ H4 D = some (MSetO P w D L) ∧ (∀ p ∈ L, H4 p.1 = some (.tup (p.2.map kV))) ∧ L.length + 1 < 64 ∧
      ∀ L', (k ∈ L.map (·.2) → L' = L) → (k ∉ L.map (·.2) → L'.Perm ((c, k) :: L)) → Nx (upd H4 D (MSetO P w D L')) else Nx H3)
theorem mset_new {P : Program} {w : World} {H : Hp} {h : Heap} : ObjOk P w H (h.push { cls := .type "set", dict := none, data := .set #[] 0 (.fresh 0 0 (!w.params.followText "set-order")) }) h.objs.size (MSetO P w h.objs.size []) :=
  (fresh_set (N := mixT P w) (Heap.get?_push_size _ rfl)).bare.ok
theorem pe_scM {elt tg iter : Expr} {ifs : List Expr} {scope : Scope} {own : List (Str × Nat)} {pos : Pos} {wi : TI} {g : TG} {tt : TT} {te : TE} (hu : X.A.units + 1 < cLine) (hc : X.calm = true) (hN : X.N.Nodup) (hi : PI X tg iter wi) (ok : BlkOk X.N X.env.scope scope own)
    (hg : ∀ (s : Shared) (H : Hp) (C : Addr) (cl : List (Str × Addr)) (fp : List Addr), PG (X.blk s H scope (compEnvC scope cl C X.env) fp) tg g)
    (ht : ∀ (s : Shared) (H : Hp) (C : Addr) (cl : List (Str × Addr)) (fp : List Addr), PTs (X.blk s H scope (compEnvC scope cl C X.env) fp) ifs tt)
    (he : ∀ (s : Shared) (H : Hp) (C : Addr) (cl : List (Str × Addr)) (fp : List Addr), PE (X.blk s H scope (compEnvC scope cl C X.env) fp) elt te)
    (hs : ∀ x, foldedSetIterable iter X.env x = pure x := by intro _; rfl) : PE X (.SetComp elt [⟨tg, iter, ifs, 0⟩] scope pos) (tScM X.prog X.w wi g tt te (own.map (·.2))) := by
  refine ⟨fun pins s σ H Q I h => ?_⟩
  rw [PpSet.eval_SetComp]
  have free : ∀ y ∈ scope.names, y.2 = .free → ∃ c, X.env.cells.lookup y.1 = some c := fun y hy e => (ok.free y hy e).elim (fun k => I.ok.has _ (.inl k)) fun k => I.ok.has _ (.inr k)
  refine wpAny_comprehension_free (use := none) rfl hs (closure_ok free) ok.kind (fun y hy e => by rw [ok.uniq y hy, e]) (thn (hi.run pins s σ H _ I h) fun xv s1 hx => thn hx fun itv s2 h2 => ?_)
  obtain ⟨it, fp, tn, J, H2, rfl, I2, T, st2, f2, q⟩ := h2
  refine PpSet.newSet_ok (newEnv_comp ?_)
  have nD : H2 s2.heap.objs.size = none := I2.hok.fresh (Nat.le_refl _)
  obtain ⟨W, ⟨m0, w0⟩, turn⟩ := q _ nD
  have I3 : Inv X pins σ (upd H2 s2.heap.objs.size (MSetO X.prog X.w s2.heap.objs.size [])) { s2 with heap := s2.heap.push { cls := .type "set", dict := none, data := .set #[] 0 (.fresh 0 0 (!X.w.params.followText "set-order")) } } :=
    I2.laid (t' := s2.toks) (fun b o e => Heap.get?_push_of_some _ e) (Nat.le_refl _) mset_new
  have small : ∀ b ∈ fp, b < s2.heap.objs.size := fun b hb => (T.obj _ _ st2 b hb).elim fun o e => Heap.lt_size e.1
  have size3 : (s2.heap.push { cls := .type "set", dict := none, data := .set #[] 0 (.fresh 0 0 (!X.w.params.followText "set-order")) }).objs.size = s2.heap.objs.size + 1 := Heap.size_push ..
  have st3 : tn 0 (s2.heap.push { cls := .type "set", dict := none, data := .set #[] 0 (.fresh 0 0 (!X.w.params.followText "set-order")) }) := T.keep _ _ _ st2 fun b _ o e => Heap.get?_push_of_some _ e
  generalize hD : s2.heap.objs.size = D at *
  generalize hs3 : ({ s2 with heap := s2.heap.push { cls := .type "set", dict := none, data := .set #[] 0 (.fresh 0 0 (!X.w.params.followText "set-order")) } } : Shared) = s3 at *
  have h3 : s3.heap = s2.heap.push { cls := .type "set", dict := none, data := .set #[] 0 (.fresh 0 0 (!X.w.params.followText "set-order")) } := by rw [← hs3]
  have f3 : ∀ b ∈ fp, FpOk X pins (upd H2 D (MSetO X.prog X.w D [])) b ∧ b < s3.heap.objs.size := fun b hb => by
    have l := small b hb
    refine ⟨⟨?_, (f2 b hb).2⟩, by rw [h3, size3]; exact Nat.lt_succ_of_lt l⟩
    rw [upd_ne (Nat.ne_of_lt l)]
    exact (f2 b hb).1
  have I4 := block_start I3 ok hN f3
  have n0 : ∀ b ∈ fp, (upd H2 D (MSetO X.prog X.w D [])) b = none := fun b hb => (f3 b hb).1.1
  generalize hH3 : upd H2 D (MSetO X.prog X.w D []) = H3 at *
  have pg := hg s3 H3 s3.heap.objs.size (cellsFrom (s3.heap.objs.size + 1) scope.names (cloFrom X.env.cells scope.names [])) fp
  have pt := ht s3 H3 s3.heap.objs.size (cellsFrom (s3.heap.objs.size + 1) scope.names (cloFrom X.env.cells scope.names [])) fp
  have pe := he s3 H3 s3.heap.objs.size (cellsFrom (s3.heap.objs.size + 1) scope.names (cloFrom X.env.cells scope.names [])) fp
  have top : (compEnvC scope (cellsFrom (s3.heap.objs.size + 1) scope.names (cloFrom X.env.cells scope.names [])) s3.heap.objs.size X.env).locals = s3.heap.objs.size := rfl
  show codeAny _ _ (.compStart (.SetComp elt [⟨tg, iter, ifs, 0⟩] scope pos) 0 (.ref it) (.ref D) (compEnvC scope (cellsFrom (s3.heap.objs.size + 1) scope.names (cloFrom X.env.cells scope.names [])) s3.heap.objs.size X.env)) _ { s3 with heap := pushCells (s3.heap.push { cls := .type "dict", data := .dict #[] }) scope.names }
  generalize compEnvC scope (cellsFrom (s3.heap.objs.size + 1) scope.names (cloFrom X.env.cells scope.names [])) s3.heap.objs.size X.env = ce at I4 pg pt pe top ⊢
  have st4 : tn 0 ({ s3 with heap := pushCells (s3.heap.push { cls := .type "dict", data := .dict #[] }) scope.names } : Shared).heap := T.keep _ _ _ (h3 ▸ st3) fun b _ o e => pushCells_keeps _ _ _ _ (Heap.get?_push_of_some _ e)
  generalize ({ s3 with heap := pushCells (s3.heap.push { cls := .type "dict", data := .dict #[] }) scope.names } : Shared) = s4 at I4 st4 ⊢
  have fps : ∀ {σ' : L2.St} {H' : Hp} {s' : Shared}, Inv (X.blk s3 H3 scope ce fp) [] σ' H' s' → (∀ b ∈ fp, H' b = none) → ∀ b ∈ fp, FpOk (X.blk s3 H3 scope ce fp) [] H' b := fun {σ' H' s'} I' hn b hb =>
    ⟨hn b hb, (I'.ok.exf b hb).1, I'.ok.exfs b hb, .inl hb, fun x c e => (I'.ok.exf b hb).2 x c e, fun p hp => absurd (show p ∈ ([] : List (Addr × Obj)) ++ [] from hp) (by simp)⟩
  have loop : codeAny (model X.prog X.w) X.A (.compLoop (.SetComp elt [⟨tg, iter, ifs, 0⟩] scope pos) 0 (.ref it) (.ref D) ce) (compPost (model X.prog X.w) X.A X.xe none (EP X pins σ Q) (.ref D) s3.heap.objs.size) s4 := by
    refine PpSet.compLoopS_any (fun n s' => ∃ i H', Inv (X.blk s3 H3 scope ce fp) [] (wipe σ (own.map (·.2))) H' s' ∧ tn i s'.heap ∧ (∀ b ∈ fp, H' b = none) ∧ W i n H') ?_ m0 ⟨0, H3, I4, st4, n0, w0⟩
    rintro n s5 ⟨i, H5, I5, st5, n5, w5⟩
    rcases turn i n H5 w5 with ⟨stop, fin⟩ | ⟨go, Nx, next, step⟩
    · refine thnF (T.done (X.blk s3 H3 scope ce fp) rfl rfl rfl hc i [] s5 _ H5 (fun _ _ => False) I5 (fps I5 n5) st5 stop) fun r s6 ⟨hr, I6⟩ => ?_
      subst hr
      have I7 : Inv X pins σ H5 s6 := I3.call' (ch := fp) I6.os I6.base I6.hok I6.bare fun b hb => let f := (f3 b hb).1; ⟨f.2.2.2.1, f.2.1, f.2.2.2.2.1, f.2.2.2.2.2⟩
      have nC : H5 s3.heap.objs.size = none := by
        have := (show H5 ce.locals = none from I6.free)
        rwa [top] at this
      obtain ⟨m, hn, _⟩ := I6.loc
      have hn : s6.heap.Ns s3.heap.objs.size m := by
        have := (show s6.heap.Ns ce.locals m from hn)
        rwa [top] at this
      obtain ⟨g0, g1, g2, g3, g4, g5⟩ := I3.fpOk (Nat.le_refl _) nC
      exact ⟨m, hn, fun h'' sb => ⟨.ref D, H5, I7.turned (t' := s6.toks) (fun b o hb e => (sb.2 b hb).trans e) g0 g1 g3 g4 g5, rfl, fin⟩⟩
    · refine thnF (T.item (X.blk s3 H3 scope ce fp) rfl rfl rfl hc i [] s5 _ H5 (fun _ _ => False) I5 (fps I5 n5) st5 go) fun r s6 ⟨u, hr, h6⟩ => ?_
      subst hr
      refine thnF h6 fun _ s7 ⟨x, H7, I7, r7, y7, st7, n7⟩ => ?_
      refine thnF (pg.run _ s7 _ H7 x u _ (I7.pinned (fps I7 n7) (T.obj _ _ st7)) r7 (step x H7 y7)) fun _ s8 ⟨σ8, H8, I8, hw8, q8⟩ => ?_
      refine thnF (pt.run _ s8 σ8 H8 _ I8 q8) fun b s9 ⟨H9, I9, q9⟩ => ?_
      have on : ∀ {s' : Shared} {H' : Hp}, Inv (X.blk s3 H3 scope ce fp) ([] ++ pinsAt fp s7.heap) σ8 H' s' → Nx H' → ∃ m, m < n ∧ ∃ i H', Inv (X.blk s3 H3 scope ce fp) [] (wipe σ (own.map (·.2))) H' s' ∧ tn i s'.heap ∧ (∀ b ∈ fp, H' b = none) ∧ W i m H' := fun {s' H'} I' nx => by
        obtain ⟨m', hm, w'⟩ := next H' nx
        have pin : ∀ b ∈ fp, ∀ o, s7.heap.get? b = some o → s'.heap.get? b = some o ∧ H' b = none := fun b hb o e =>
          let z := I'.pin (b, o) (List.mem_append_right _ (List.mem_append_right _ (mem_pinsAt hb e)))
          ⟨z.1, z.2.1⟩
        refine ⟨m', hm, i + 1, H', (I'.unpinned (pins := [])).weak (by rw [← hw8, wipe_length]) (fun j v e => ?_), T.keep _ _ _ st7 fun b hb o e => (pin b hb o e).1, fun b hb => ?_, w'⟩
        · rw [← hw8] at e
          exact (wipe_some e).1
        · obtain ⟨o, e, _⟩ := T.obj _ _ st7 b hb
          exact (pin b hb o e).2
      cases b with
      | false =>
        simp only [Bool.false_eq_true, if_false] at q9 ⊢
        exact on I9 q9
      | true =>
        simp only [if_true] at q9 ⊢
        refine thnF (pe.run _ s9 σ8 H9 _ I9 q9) fun z s10 ⟨yv, H10, I10, r10, c, k, L, ey, ec, eD, al, few, nx⟩ => ?_
        subst ey
        cases r10
        exact add_mix (X := X.blk s3 H3 scope ce fp) hu I10 eD ec al few fun s11 L' y' n' I11 => on I11 (nx L' y' n')
  exact PpSet.codeAny_compStart_set loop (T.self X.A 0 _ _ _ st4 loop)
/-- how many it has -/
theorem call_lenM : CallR X (.builtin "len") (fun xs H Q => ∃ (a : Addr) (L : Keyed), xs = [.ref a] ∧ H a = some (MSetO X.prog X.w a L) ∧ Q (.int L.length) H) := by
  intro pins s σ H xs us Q I r h
  obtain ⟨a, L, rfl, ha, q⟩ := h
  obtain ⟨u, rfl, ru⟩ := vals1 r
  cases ru
  obtain ⟨es, ep, t, ⟨o, ho, hex, hd⟩, he, T, _, _, room, few⟩ := (I.hok a _ ha).1
  have ln := entries_len he
  have sz := T.sz
  rw [List.length_map] at sz
  refine call_len_set ho hex hd (fits_by (by omega) T.dm (by omega)) (by omega) ?_
  refine ⟨.int L.length, H, I.kept (t' := s.toks + 1 + 1) fun _ _ e => e, ⟨s.toks + 1, ?_⟩, q⟩
  rw [ln]
end
end Fb
namespace Fb
open PySem PySem.Spec PyProof.Rows L2
abbrev RS := Int × Str
def rsLt (a b : RS) : Bool := decide (a.1 < b.1) || (decide (a.1 = b.1) && decide (a.2.cps.toList < b.2.cps.toList))
theorem rsLt_iff {a b : RS} : rsLt a b = true ↔ a.1 < b.1 ∨ (a.1 = b.1 ∧ a.2.cps.toList < b.2.cps.toList) := by
  simp [rsLt]
theorem rsLt_irr (a : RS) : rsLt a a = false := by
  cases h : rsLt a a with
  | false => rfl
  | true =>
    rcases rsLt_iff.mp h with h | ⟨_, h⟩
    · omega
    · exact absurd h (List.lt_irrefl _)
theorem rsLt_trans {a b c : RS} (h1 : rsLt a b = true) (h2 : rsLt b c = true) : rsLt a c = true := by
  rcases rsLt_iff.mp h1 with h1 | ⟨e1, h1⟩ <;> rcases rsLt_iff.mp h2 with h2 | ⟨e2, h2⟩ <;> refine rsLt_iff.mpr ?_
  · left; omega
  · left; omega
  · left; omega
  · right; exact ⟨by omega, List.lt_trans h1 h2⟩
theorem str_ext {x y : Str} (h : x.cps.toList = y.cps.toList) : x = y := by
  cases x
  cases y
  congr 1
  exact Array.ext' h
theorem rsLt_total {a b : RS} (h1 : rsLt a b = false) (h2 : rsLt b a = false) : a = b := by
  have n1 : ¬ (a.1 < b.1 ∨ (a.1 = b.1 ∧ a.2.cps.toList < b.2.cps.toList)) := fun h => by rw [rsLt_iff.mpr h] at h1; cases h1
  have n2 : ¬ (b.1 < a.1 ∨ (b.1 = a.1 ∧ b.2.cps.toList < a.2.cps.toList)) := fun h => by rw [rsLt_iff.mpr h] at h2; cases h2
  have e1 : a.1 = b.1 := by
    have : ¬ a.1 < b.1 := fun h => n1 (.inl h)
    have : ¬ b.1 < a.1 := fun h => n2 (.inl h)
    omega
  have l1 : ¬ a.2.cps.toList < b.2.cps.toList := fun h => n1 (.inr ⟨e1, h⟩)
  have l2 : ¬ b.2.cps.toList < a.2.cps.toList := fun h => n2 (.inr ⟨e1.symm, h⟩)
  have e2 : a.2 = b.2 := str_ext (List.le_antisymm (List.not_lt.mp l2) (List.not_lt.mp l1))
  exact Prod.ext e1 e2
/-- how many of l stand before k -/
def rk (l : List RS) (k : RS) : Int := (l.countP fun x => rsLt x k : Nat)
theorem countP_le {α : Type} {p q : α → Bool} : ∀ {l : List α}, (∀ x ∈ l, p x = true → q x = true) → l.countP p ≤ l.countP q
  | [], _ => Nat.le_refl _
  | x :: l, h => by
    have ih := countP_le (p := p) (q := q) (l := l) fun y hy => h y (List.mem_cons_of_mem _ hy)
    have hx := h x List.mem_cons_self
    rw [List.countP_cons, List.countP_cons]
    cases e : p x
    · simp only [Bool.false_eq_true, if_false]
      omega
    · rw [hx e]
      omega
theorem countP_lt {α : Type} {p q : α → Bool} : ∀ {l : List α}, (∀ x ∈ l, p x = true → q x = true) → (∃ x ∈ l, p x = false ∧ q x = true) → l.countP p < l.countP q
  | [], _, h => by simp at h
  | x :: l, h, ⟨y, hy, py, qy⟩ => by
    have le := countP_le (p := p) (q := q) (l := l) fun y hy => h y (List.mem_cons_of_mem _ hy)
    have hx := h x List.mem_cons_self
    rw [List.countP_cons, List.countP_cons]
    rcases List.mem_cons.mp hy with rfl | hy
    · rw [py, qy]
      simp only [Bool.false_eq_true, if_false, if_true]
      omega
    · have lt := countP_lt (p := p) (q := q) (l := l) (fun y hy => h y (List.mem_cons_of_mem _ hy)) ⟨y, hy, py, qy⟩
      cases e : p x
      · simp only [Bool.false_eq_true, if_false]
        omega
      · rw [hx e]
        omega
theorem rk_lt {l : List RS} {a b : RS} (ha : a ∈ l) (hb : b ∈ l) : decide (rk l a < rk l b) = rsLt a b := by
  cases h : rsLt a b with
  | true =>
    refine decide_eq_true ?_
    have := countP_lt (p := fun x => rsLt x a) (q := fun x => rsLt x b) (l := l) (fun x _ hx => rsLt_trans hx h) ⟨a, ha, rsLt_irr a, h⟩
    unfold rk
    omega
  | false =>
    refine decide_eq_false ?_
    have : (l.countP fun x => rsLt x b) ≤ l.countP fun x => rsLt x a := by
      cases h2 : rsLt b a with
      | true => exact countP_le fun x _ hx => rsLt_trans hx h2
      | false => rw [rsLt_total h h2]; exact Nat.le_refl _
    unfold rk
    omega
section
variable {P : Program} {w : World}
/-- v is a tuple of the room and the sign of k, and a tuple -/
def StepIn (P : Program) (w : World) (h : Heap) (v : Value) (k : RS) : Prop :=
  ∃ (t wa : Addr) (o : Obj) (n : Nat) (t1 t2 : Tok) (ks : List Key), v = .ref t ∧ h.get? t = some o ∧ o.cls = .type "tuple" ∧ o.data = .seq #[.int k.1 t1, .str k.2 t2, .ref wa] n ∧ IsTupleKey (mixKind P w) h ks wa
theorem StepIn.keeps {h h' : Heap} {v : Value} {k : RS} (x : StepIn P w h v k) (kp : ∀ b o, h.get? b = some o → o.cls = .type "tuple" → h'.get? b = some o) : StepIn P w h' v k := by
  obtain ⟨t, wa, o, n, t1, t2, ks, e, ho, hc, hd, o3, it3, n3, ho3, hc3, r3⟩ := x
  exact ⟨t, wa, o, n, t1, t2, ks, e, kp _ _ ho hc, hc, hd, o3, it3, n3, kp _ _ ho3 hc3, hc3, r3⟩
theorem firsts {h : Heap} {kf : Value → RS} : ∀ vs : List Value, (∀ v ∈ vs, StepIn P w h v (kf v)) → ∃ fs : List Value, PySem.W.KatTups h vs fs ∧ fs.length = vs.length ∧ ∀ f ∈ fs, ∃ i t, f = Value.int i t
  | [], _ => ⟨[], PySem.W.KatTups.nil, rfl, fun f hf => by cases hf⟩
  | v :: vs, x => by
    obtain ⟨fs, k, hl, hi⟩ := firsts vs fun u hu => x u (List.mem_cons_of_mem _ hu)
    obtain ⟨t, wa, o, n, t1, t2, ks, rfl, ho, hc, hd, _⟩ := x v List.mem_cons_self
    refine ⟨.int _ t1 :: fs, PySem.W.KatTups.cons ho hc hd rfl k, by rw [List.length_cons, List.length_cons, hl], fun f hf => ?_⟩
    rcases List.mem_cons.mp hf with rfl | hf
    · exact ⟨_, _, rfl⟩
    · exact hi f hf
theorem kind_steps {A : Around} {E : Value → Shared → Prop} {s : Shared} {vs : List Value} {kf : Value → RS} {r : Value → Int} (h2 : 2 ≤ vs.length) (hu : A.units < cLine) (x : ∀ v ∈ vs, StepIn P w s.heap v (kf v)) (one : ∀ v ∈ vs, ∀ u ∈ vs, kf v = kf u → v = u)
    (hr : ∀ v ∈ vs, ∀ u ∈ vs, decide (r v < r u) = rsLt (kf v) (kf u)) (Q : SortKind → Shared → Prop) (h : ∀ κ, TS.Cmp P w A s κ (pairsOf vs) r → Q κ s) : wpAny (model P w) A (keyKind' vs.toArray) Q E s := by
  obtain ⟨fs, k, hl, hi⟩ := firsts vs x
  refine PySem.W.kat_kind (T := Value.type "int") k (by omega) (fun f hf => ?_) rfl (h _ ?_)
  · obtain ⟨i, t, rfl⟩ := hi f hf
    exact PySem.W.Looks.of_pure rfl
  · intro p q hp hq Q' E' hQ
    rw [pairsOf_toList] at hp hq
    have mp := (mem_zip_self hp).2
    have mq := (mem_zip_self hq).2
    have hQ : Q' (rsLt (kf p.1) (kf q.1)) s := by
      rw [← hr _ mp _ mq]
      exact hQ
    have same := one _ mp _ mq
    obtain ⟨t, wa, o, n, t1, t2, ks, e1, ho, hc, hd, kw⟩ := x _ mp
    obtain ⟨t', wa', o', n', t1', t2', ks', e2, ho', hc', hd', kw'⟩ := x _ mq
    rw [e1, e2]
    rw [e1, e2] at same
    have same : kf p.1 = kf q.1 → t = t' := fun e => by
      rw [e1, e2] at e
      have := same e
      cases this
      rfl
    generalize kf p.1 = a at *
    generalize kf q.1 = b at *
    refine PySem.W.kat_lt ho hd ho' hd' ?_
    show PySem.W.KatLex P w A true false Q' [(.int a.1 t1, .int b.1 t1'), (.str a.2 t2, .str b.2 t2'), (.ref wa, .ref wa')] 0 s
    refine PySem.W.kat_cons (wpAny_eqBool_int ?_)
    refine PySem.W.kat_go (fun e => PySem.W.kat_yes ?_) (fun e => PySem.W.kat_no ?_)
    · have e := of_decide_eq_true e
      refine PySem.W.kat_cons (wpAny_eqBool_str ?_)
      refine PySem.W.kat_go (fun e' => PySem.W.kat_yes ?_) (fun e' => PySem.W.kat_no ?_)
      · have e' := of_decide_eq_true e'
        have ab : a = b := Prod.ext e e'
        have tt := same ab
        subst tt
        rw [ho] at ho'
        cases ho'
        rw [hd] at hd'
        have hw : wa = wa' := by
          have := (Data.seq.inj hd').1
          simp at this
          exact this.2.2
        subst hw
        rw [ab, rsLt_irr] at hQ
        refine PySem.W.kat_cons (wpAny_eqBool_tuple hu kw kw ?_)
        refine PySem.W.kat_go (fun _ => PySem.W.kat_yes (PySem.W.kat_nil hQ)) (fun z => ?_)
        rw [decide_eq_true rfl] at z
        cases z
      · show wpAny _ _ (oneLt' false _ _) _ _ _
        refine PySem.W.kat_one _ _ (lt_str ?_)
        have : rsLt a b = decide (a.2.cps.toList < b.2.cps.toList) := by
          unfold rsLt
          rw [decide_eq_false (by omega), decide_eq_true e]
          rfl
        rw [this] at hQ
        exact hQ
    · show wpAny _ _ (oneLt' true _ _) _ _ _
      refine oneLt_int ?_
      have ne : ¬ a.1 = b.1 := by simpa using e
      have : rsLt a b = decide (a.1 < b.1) := by
        unfold rsLt
        rw [decide_eq_false ne, Bool.false_and, Bool.or_false]
      rw [this] at hQ
      exact hQ
theorem sort_steps {A : Around} {E : Value → Shared → Prop} {s : Shared} {a : Addr} {vs : List Value} {n : Nat} {Q : PySem.Fin → Shared → Prop} {kf : Value → RS} (ho : s.heap.get? a = some (seqObj "list" vs.toArray n)) (h64 : vs.length < 64) (hu : A.units < cLine)
    (x : ∀ v ∈ vs, StepIn P w s.heap v (kf v)) (one : ∀ v ∈ vs, ∀ u ∈ vs, kf v = kf u → v = u)
    (h : ∀ out : Array Value, out.toList.Perm vs → out.toList.Pairwise (fun u v => rsLt (kf v) (kf u) = false) → Q (.done (.ret .none)) { s with heap := sortedHeap s.heap a vs out }) : wpAny (model P w) A (Builtin.«list.sort» ⟨[.ref a], []⟩) Q E s := by
  have keep : ∀ b o, s.heap.get? b = some o → o.cls = .type "tuple" → (TS.midHeap s.heap a vs).get? b = some o := fun b o e hc => by
    refine TS.midHeap_old ?_ e
    rintro rfl
    rw [ho] at e
    cases e
    exact absurd (Value.type.inj hc) (by decide)
  have hr : ∀ v ∈ vs, ∀ u ∈ vs, decide (rk (vs.map kf) (kf v) < rk (vs.map kf) (kf u)) = rsLt (kf v) (kf u) := fun v hv u hu => rk_lt (List.mem_map_of_mem hv) (List.mem_map_of_mem hu)
  refine SK.plain_sort (r := fun v => rk (vs.map kf) (kf v)) ho h64 (fun h2 Q' hQ => ?_) fun ps out h1 h2 h3 => ?_
  · exact kind_steps (s := { s with heap := TS.midHeap s.heap a vs }) h2 hu (fun v hv => (x v hv).keeps keep) one hr Q' hQ
  · obtain ⟨p, o⟩ := TS.out_rank (r := fun v => rk (vs.map kf) (kf v)) h1 h2 h3
    refine h out p (List.Pairwise.imp_of_mem (fun {u v} hu hv hle => ?_) o)
    rw [← hr v (p.mem_iff.mp hv) u (p.mem_iff.mp hu)]
    exact decide_eq_false (by omega)
end
section
variable {X : Cx}
theorem step_in {pins : List (Addr × Obj)} {σ : L2.St} {H : Hp} {s : Shared} (I : Inv X pins σ H s) {t wa : Addr} {k : RS} {ks : List Key} (h : H t = some (.tup [.int k.1, .str k.2, .ref wa])) (hw : H wa = some (.tup (ks.map kV))) : StepIn X.prog X.w s.heap (.ref t) k := by
  obtain ⟨_, its, r, o, ho, hc, n, hd⟩ := (show ObjOk X.prog X.w H s.heap t _ from I.hok t _ h)
  cases r with
  | cons r1 r =>
  cases r with
  | cons r2 r =>
  cases r with
  | cons r3 r =>
  cases r
  obtain ⟨t1, rfl⟩ := r1
  obtain ⟨t2, rfl⟩ := r2
  cases r3
  exact ⟨t, wa, o, n, t1, t2, ks, rfl, ho, hc, hd, mix_at I hw⟩
/-- sorted(xs), xs a list of steps, no two of the same room and sign -/
def rSortS (K : PySem.W.Frag) : List V → Hp → VK → Prop := fun vs H Q => ∃ (a : Addr) (xs : List V) (kf : V → RS), vs = [V.ref a] ∧ SqL K H a xs ∧ xs.length < 64 ∧ (∀ x ∈ xs, ∃ t wa ks, x = .ref t ∧ H t = some (.tup [.int (kf x).1, .str (kf x).2, .ref wa]) ∧ H wa = some (.tup (List.map kV ks))) ∧
  (∀ x ∈ xs, ∀ y ∈ xs, kf x = kf y → x = y) ∧ ∀ (ys : List V) (p : Addr), ys.Perm xs → ys.Pairwise (fun x y => rsLt (kf y) (kf x) = false) → H p = none → Q (.ref p) (upd H p (.lst ys))
theorem cr_sortS (hu : X.A.units + 2 < cLine) : CallR X (.builtin "sorted") (rSortS X.K) := by
  intro pins s σ H vs us Q I r h
  obtain ⟨a, xs, kf, rfl, hs, h64, hx, one, q⟩ := h
  obtain ⟨its, rv, hl, hz⟩ := I.list hs
  rw [Vals.ref1 r]
  obtain ⟨e1, e2⟩ := bkV_refs rv fun x m => by
    obtain ⟨t, _, _, e, _⟩ := hx x m
    exact ⟨t, e⟩
  have st : ∀ v ∈ its, StepIn X.prog X.w s.heap v (kf (bkV v)) := fun v hv => by
    obtain ⟨t, rfl⟩ := e2 v hv
    obtain ⟨t', wa, ks, e, h1, h2⟩ := hx (.ref t) (by rw [e1]; exact List.mem_map.mpr ⟨_, hv, rfl⟩)
    cases e
    exact step_in I h1 h2
  have on : ∀ v ∈ its, ∀ u ∈ its, kf (bkV v) = kf (bkV u) → v = u := fun v hv u hu e => by
    have := one (bkV v) (by rw [e1]; exact List.mem_map_of_mem hv) (bkV u) (by rw [e1]; exact List.mem_map_of_mem hu) e
    obtain ⟨t, rfl⟩ := e2 v hv
    obtain ⟨t', rfl⟩ := e2 u hu
    cases this
    rfl
  have n64 : its.length < 64 := by rw [← rv.length]; exact h64
  refine Calls.call_function_entry kind_sorted plain_sorted entry_sorted (args_sorted1 _) ?_
  unfold Builtin.«sorted»
  refine wpAny_bind (m := checkCount "sorted" 1 1 _) (wpAny_pure ?_)
  refine wpAny_bind (collect_list hl.isList ?_ (by rw [sizeLine_eq]; omega))
  refine wpAny_bind (wpAny_newList ?_ (by rw [sizeLine_eq]; omega))
  have sz : ((s.heap.push (seqObj "list" #[] 0)).update s.heap.objs.size (Obj.mapSeq (· ++ its.toArray))).objs.size = s.heap.objs.size + 1 := (Heap.size_update ..).trans (size_push' _ _)
  have new : (((s.heap.push (seqObj "list" #[] 0)).update s.heap.objs.size (Obj.mapSeq (· ++ its.toArray))).push (seqObj "list" its.toArray 0)).get? (s.heap.objs.size + 1) = some (seqObj "list" its.toArray 0) := sz ▸ Heap.get?_push_size _ rfl
  have old : ∀ b o, s.heap.get? b = some o → (((s.heap.push (seqObj "list" #[] 0)).update s.heap.objs.size (Obj.mapSeq (· ++ its.toArray))).push (seqObj "list" its.toArray 0)).get? b = some o := fun b o e => by
    have l : b < s.heap.objs.size := Heap.lt_size e
    rw [Heap.get?_push_ne _ _ _ (by rw [sz]; exact Nat.ne_of_lt (Nat.lt_succ_of_lt l)), Heap.get?_update_ne _ _ _ _ (Nat.ne_of_lt l), Heap.get?_push_ne _ _ _ (Nat.ne_of_lt l)]
    exact e
  show wpAny _ _ _ _ _ { s with heap := ((s.heap.push (seqObj "list" #[] 0)).update s.heap.objs.size (Obj.mapSeq (· ++ its.toArray))).push (seqObj "list" its.toArray 0) }
  rw [sz]
  refine wpAny_bind (wpAny_holding (wpAny_call_entry slot_list_sort ⟨_, new, rfl⟩ entry_list_sort (sort_steps (kf := fun v => kf (bkV v)) new n64 (by show X.A.units + 2 < cLine; exact hu) (fun v hv => (st v hv).keeps fun b o e _ => old b o e) on fun out a1 a2 => ⟨_, rfl, ?_⟩) (args_list_sort _)))
  refine wpAny_pure ⟨_, rfl, ?_⟩
  obtain ⟨ep, he'⟩ := PyProof.Rows.sortedAll_at s.heap its out
  have h3 : ∀ u ∈ out.toList, ∃ a, u = Value.ref a := fun u hu => e2 u (a1.mem_iff.mp hu)
  have hp : (out.toList.map bkV).Perm xs := by
    rw [e1]
    exact a1.map bkV
  refine ⟨.ref _, upd H (s.heap.objs.size + 1) (.lst (out.toList.map bkV)), I.laid (t' := s.toks) (fun _ _ => PyProof.Rows.sortedAll_old) (Nat.le_succ _) ⟨by rw [hp.length_eq]; exact hz, out.toList, ep, bkV_vals h3, he'⟩, rfl, q _ _ hp ?_ (I.hok.fresh (Nat.le_succ _))⟩
  rw [List.pairwise_map]
  exact a2
end
end Fb
namespace Fb
open PySem PySem.Spec PyProof.Rows L2
open AutoSeq1 (wpAny_loadPart')
set_option maxHeartbeats 1000000 in
theorem meets_enumT (l : Addr) (items : Array Value) :
    Meets (Builtin.«enumerate.__new__» ⟨[.type "enumerate", .ref l], []⟩) (fun _ R s => s.heap.IsTuple l items ∧
      R (.ok (.ret (.ref (s.heap.push { cls := .type "tuple_iterator", data := .fields #[.ref l, .int 0 0] }).objs.size)))
        { s with heap := (s.heap.push { cls := .type "tuple_iterator", data := .fields #[.ref l, .int 0 0] }).push { cls := .type "enumerate", data := .fields #[.none, .bool false, .ref s.heap.objs.size, rawInt 0, .none, .none] } }) :=
  .of_wp fun prog w A R s h => by
    obtain ⟨hp, g, d, tk, os⟩ := s; obtain ⟨hL, h⟩ := h
    have hsub := sub_enumerate
    have q1 : ∀ {A' : Around} {E : Value → Shared → Prop} {Q : Value → Shared → Prop}, Q (.ref hp.objs.size) ⟨hp.push { cls := .type "tuple_iterator", data := .fields #[.ref l, .int 0 0] }, g, d, tk, os⟩ → wpAny (model prog w) A' (pyIter (.ref l)) Q E ⟨hp, g, d, tk, os⟩ :=
      fun q => wpAny_pyIter_tuple hL q
    wp_walk using q1
    refine wpAny_stack_any fun st => wpAny_pure ?_
    split
    · rename_i c _ _ _ _ _
      cases (c == Value.type "enumerate")
      · wp_walk using q1
        exact ⟨_, rfl, h⟩
      · wp_walk using q1
        exact ⟨_, rfl, h⟩
    · wp_walk using q1
      exact ⟨_, rfl, h⟩
theorem call_enumT {prog : Program} {w : World} {A : Around} {E : Value → Shared → Prop} {s : Shared} {l : Addr} {items : Array Value} {Q : Value → Shared → Prop} (hL : s.heap.IsTuple l items)
    (h : ∀ h', IsEnum h' (s.heap.objs.size + 1) s.heap.objs.size 0 .none → h'.IsTupleIter s.heap.objs.size l 0 → h'.objs.size = s.heap.objs.size + 2 →
      (∀ b o, s.heap.get? b = some o → h'.get? b = some o) → Q (.ref (s.heap.objs.size + 1)) { s with heap := h' }) :
    wpAny (model prog w) A (call (.type "enumerate") [.ref l]) Q E s := by
  refine callType_new F.called_enumerate (by decide) (F.typeCall_enumerate_1 _) (F.newCall_enumerate_1 _) (fun obj => F.args_object_init_2 obj _) F.entry_enumerate_new
    (meets_enumT l items) ⟨hL, ?_⟩
  have hz : (s.heap.push { cls := .type "tuple_iterator", data := .fields #[.ref l, .int 0 0] }).objs.size = s.heap.objs.size + 1 := Heap.size_push ..
  show _ ∧ _
  rw [hz]
  have he : IsEnum ((s.heap.push { cls := .type "tuple_iterator", data := .fields #[.ref l, .int 0 0] }).push
      { cls := .type "enumerate", data := .fields #[.none, .bool false, .ref s.heap.objs.size, rawInt 0, .none, .none] }) (s.heap.objs.size + 1) s.heap.objs.size 0 .none := by
    have := Heap.get?_push_size (s.heap.push { cls := .type "tuple_iterator", data := .fields #[.ref l, .int 0 0] })
      (o := { cls := .type "enumerate", data := .fields #[.none, .bool false, .ref s.heap.objs.size, rawInt 0, .none, .none] }) rfl
    rw [hz] at this; exact this
  refine ⟨⟨_, he, rfl⟩, h _ he ⟨_, Heap.get?_push_of_some _ (Heap.get?_push_size _ rfl), rfl, rfl⟩ (by rw [Heap.size_push, hz]) fun b o x => Heap.get?_push_of_some _ (Heap.get?_push_of_some _ x)⟩
/-- the tuple at a, each item in a new pair -/
def IteT (K : PySem.W.Frag) (a : Addr) : It :=
  ⟨fun i H => ∃ (xs : List V) (x : V), SqT K H a xs ∧ xs[i]? = some x, fun i H v H' => ∃ T x, v = .ref T ∧ H T = none ∧ H' = upd H T (.tup [.int (i : Nat), x]) ∧ ∀ xs, SqT K H a xs → xs[i]? = some x, fun i H => ∃ xs : List V, SqT K H a xs ∧ xs.length ≤ i⟩
theorem turn_enumT {P : Program} {w : World} {K : PySem.W.Frag} {elts : List Expr} {kk : Nat} {tpos : Pos} (a e it : Addr) :
    Turn P w K (.Tuple elts kk tpos) (IteT K a) [e, it] e (fun i h => (∃ old, IsEnum h e it ((i : Nat) : Int) old) ∧ h.IsTupleIter it a i ∧ e ≠ it) where
  mem := by simp
  obj := fun i h st b hb => by
    obtain ⟨⟨old, he⟩, ⟨o, ho, hc, hd⟩, _⟩ := st
    have e' : b = e ∨ b = it := by simpa using hb
    rcases e' with z | z
    · rw [z]; exact ⟨_, he, fun v q => nomatch q⟩
    · rw [z]; exact ⟨o, ho, fun v q => by rw [hd] at q; cases q⟩
  keep := fun i h h' st k => let ⟨⟨old, he⟩, hi, hne⟩ := st; ⟨⟨old, k e (by simp) _ he⟩, hi.at fun o q => k it (by simp) o q, hne⟩
  item := by
    intro X hP hw hK hc i pins s σ H E I hf st hg
    subst hP hw hK
    obtain ⟨⟨old, he⟩, hit, hne⟩ := st
    obtain ⟨xs, x, hq, hx⟩ := hg
    obtain ⟨its, rv, p, hz⟩ := I.tuple hq
    obtain ⟨u, hu, ru⟩ := rv.get hx
    have hel : e < s.heap.objs.size := Heap.lt_size he
    have hil : it < s.heap.objs.size := by obtain ⟨_, q, _⟩ := hit; exact Heap.lt_size q
    have pt : s.heap.IsTuple a its.toArray := p
    have hai : a ≠ it := by
      rintro rfl
      obtain ⟨o1, e1, c1, _⟩ := pt
      obtain ⟨o2, e2, c2, _⟩ := hit
      rw [e1] at e2
      cases e2
      rw [c1] at c2
      exact absurd (Value.type.inj c2) (by decide)
    have hea : e ≠ a := by
      rintro rfl
      obtain ⟨o1, e1, c1, _⟩ := pt
      have e2 := e1.symm.trans he
      cases e2
      exact absurd (Value.type.inj c1) (by decide)
    have hil' : i < its.toArray.size := by
      have := (List.getElem?_eq_some_iff.mp hu).1
      simpa using this
    refine wpAny_pyNext_enum_itemD (Draws.tuple (prog := X.prog) (w := X.w) (A := X.A.in1) (show X.A.in1.handled = none from I.ok.hd hc) it a hai its.toArray) he ⟨hit, pt⟩ hil' hne (by simp [hne, hea]) fun x' h' tk hP ho hst hT hsz hk => ?_
    have hux : x' = u := by
      have h1 : its[i]? = some x' := by simpa using hP
      rw [hu] at h1
      exact (Option.some.inj h1).symm
    subst hux
    obtain ⟨hit', _⟩ := hst
    refine ⟨_, rfl, wpAny_letOwnedTupleGo_enum (s := { s with heap := h', toks := tk + 1 }) ho fun h'' he' sb => ?_⟩
    have hT2 : h''.get? s.heap.objs.size = some { cls := .type "tuple", data := .seq #[.int i tk, x'] } := (sb.2 _ (Nat.ne_of_gt hel)).trans hT
    have new : ObjOk X.prog X.w (upd H s.heap.objs.size (.tup [.int (i : Nat), x])) h'' s.heap.objs.size (.tup [.int (i : Nat), x]) :=
      ⟨by show 2 ≤ sizeLine; decide, [.int i tk, x'], .cons ⟨_, rfl⟩ (.cons ru .nil), ⟨_, hT2, rfl, _, rfl⟩⟩
    have I1 : Inv X pins σ (upd H s.heap.objs.size (.tup [.int (i : Nat), x])) { s with heap := h'', toks := tk + 1 } :=
      I.turnedNew (ch := [e, it]) (fun b ob hb q => (sb.2 b (fun z => hb (by simp [z]))).trans (hk b ob (fun z => hb (by simp [z])) (fun z => hb (by simp [z])) q)) hf (Nat.le_refl _) new
    refine ⟨.ref s.heap.objs.size, _, I1, rfl, ⟨_, x, rfl, I.hok.fresh (Nat.le_refl _), rfl, fun ys hy => by rw [I.tuple_inj hy hq]; exact hx⟩, ⟨⟨x', ?_⟩, hit'.at fun o q => (sb.2 it (Ne.symm hne)).trans q, hne⟩, fun b hb => ?_⟩
    · have e1 : ((i + 1 : Nat) : Int) = (i : Int) + 1 := by omega
      rw [e1]; exact he'
    · have hb' : b < s.heap.objs.size := by
        have e' : b = e ∨ b = it := by simpa using hb
        rcases e' with z | z
        · rw [z]; exact hel
        · rw [z]; exact hil
      rw [upd_ne (Nat.ne_of_lt hb')]
      exact (hf b hb).1
  done := by
    intro X hP hw hK hc i pins s σ H E I hf st hg
    subst hP hw hK
    obtain ⟨⟨old, he⟩, hit, hne⟩ := st
    obtain ⟨xs, hq, hx⟩ := hg
    obtain ⟨its, rv, p, hz⟩ := I.tuple hq
    obtain ⟨f0, f1, f2, f3, f4, f5⟩ := hf it (by simp)
    have hl := rv.length
    have hT : s.TypeIs (.ref e) "enumerate" := ⟨_, he, rfl⟩
    unfold pyNext
    refine wpAny_bind (wpAny_attempt (wpAny_callSpecial?_slot (name := Str.ofString "__next__") hT F.slot_enumerate_next
      (wpAny_call_entry F.slot_enumerate_next hT F.entry_enumerate_next ?_ (F.args_enumerate_next_1 _))))
    show wpAny _ _ (field (.ref e) 2 >>= _) _ _ _
    refine wpAny_bind (wpAny_field he rfl (x := .ref it) rfl ?_)
    refine wpAny_bind (wpAny_nextOf_tuple_end (I.ok.hd hc) hit p (by simp; omega) fun h' x he' hx' => ?_)
    obtain ⟨o, ho, hc⟩ := hx'
    refine wpAny_bind (wpAny_isInstance (T := "StopIteration") (b := true) ⟨o, ho, hc⟩ isSubtype_stop ?_)
    exact wpAny_pure ⟨rfl, I.turned (t' := s.toks) (fun b o hb q => he' b o hb q) f0 f1 f3 f4 f5⟩
  self := fun A i s Q E st h => let ⟨⟨_, he⟩, _⟩ := st; wpAny_pyIter_enum he h
def iEnumT (K : PySem.W.Frag) (ta : TA) : TI := fun σ H R => ta σ H fun vs H1 => ∃ a xs, vs = [.ref a] ∧ SqT K H1 a xs ∧ R (IteT K a) H1
theorem pi_enumT {X : Cx} {e : Expr} {ta : TA} {p pos tpos : Pos} {elts : List Expr} {kk : Nat} (hg : Gl X "enumerate") (hm : X.mg "enumerate" = none) (ha : PA X [e] ta) (hs : starEach [e] X.env = [(false, eval e X.env)] := by rfl) :
    PI X (.Tuple elts kk tpos) (.Call (.Name "enumerate" p) [e] [] pos) (iEnumT X.K ta) := by
  refine ⟨fun pins s σ H R I h => ?_⟩
  refine Call_ (ld_blt I hg hm boot_enumerate (PyProof.Rows.callWith_type1 (thn (ha.run pos pins s σ H _ I h) fun us s1 ⟨vs, H1, I1, r1, q1⟩ => ?_) hs rfl))
  obtain ⟨a, xs, ex, hq, q⟩ := q1
  subst ex
  cases r1 with
  | cons r rr =>
    cases rr
    cases r
    obtain ⟨its, rv, p', hz⟩ := I1.tuple hq
    refine call_enumT p' fun h' he hit hsz hk => wpAny_pyIter_enum he ?_
    have I2 : Inv X pins σ H1 { s1 with heap := h' } := I1.kept (t' := s1.toks) hk
    refine ⟨s1.heap.objs.size + 1, [s1.heap.objs.size + 1, s1.heap.objs.size], _, _, H1, rfl, I2, turn_enumT a (s1.heap.objs.size + 1) s1.heap.objs.size, ⟨⟨.none, he⟩, hit, Nat.succ_ne_self _⟩, fun b hb => ?_, q⟩
    have e' : b = s1.heap.objs.size + 1 ∨ b = s1.heap.objs.size := by simpa using hb
    have hle : s1.heap.objs.size ≤ b := by
      rcases e' with z | z
      · rw [z]; exact Nat.le_add_right _ _
      · rw [z]; exact Nat.le_refl _
    exact I1.fpOk hle (I1.hok.fresh hle)
theorem walk_enumT {K : PySem.W.Frag} {a : Addr} {xs : List V} : Walk (IteT K a) xs.length (fun H => SqT K H a xs) (YPair (fun i => some (.int (i : Nat))) (fun i => xs[i]?)) := by
  refine ⟨fun i _ hi q => ⟨xs, xs[i], q, by simp [hi]⟩, fun _ q => ⟨xs, q, Nat.le_refl _⟩, fun i H v H' _ q y => ?_⟩
  obtain ⟨T, x, h1, h2, h3, h4⟩ := y
  exact ⟨T, .int (i : Nat), x, h1, h2, h3, rfl, h4 xs q⟩
section
variable {J : It} {n : Nat} {G : Hp → Prop} {Y : Nat → Hp → V → Hp → Prop}
/-- [e for x in .. if ..]: just those that are let by -/
theorem lc_filtW (w : Walk J n G Y) {g : TG} {tt : TT} {te : TE} {vs : List Nat} {σ : L2.St} {H1 : Hp} {D : Addr} {Qd : Hp → Prop} (t : Nat → Bool) (R : Nat → V → Hp → Prop) (mono : ∀ i v H H', Same H H' → R i v H → R i v H')
    (hD : H1 D = none) (hS : ∀ H, Same H1 H → G H) (hz : n ≤ 1000)
    (hs : ∀ (i : Nat) x H H' (kt : V → Hp → Prop) (kf : Hp → Prop), i < n → Same H1 (hid D H) → (∃ ys, H D = some (.lst ys)) → Y i H x H' → (t i = true → ∀ y H4, Same H H4 → R i y (hid D H4) → kt y H4) → (t i = false → ∀ H4, Same H H4 → kf H4) →
      g x (wipe σ vs) H' fun σ2 H2 => wipe σ2 vs = wipe σ vs ∧ tt σ2 H2 fun b H3 => if b = true then te σ2 H3 kt else kf H3)
    (hd : ∀ H ys, Same H1 (hid D H) → H D = some (.lst ys) → AllAre (fun y i => R i y (hid D H)) ys ((List.range n).filter t) → Qd H) :
    ∃ W : Nat → Nat → Hp → Prop, (∃ m, W 0 m (upd H1 D (.lst []))) ∧ ∀ i m H, W i m H →
      (J.stop i H ∧ Qd H) ∨ (J.go i H ∧ ∃ Nx : Hp → Prop, (∀ H', Nx H' → ∃ m', m' < m ∧ W (i + 1) m' H') ∧ ∀ x H', J.yld i H x H' → g x (wipe σ vs) H' fun σ2 H2 => wipe σ2 vs = wipe σ vs ∧ tt σ2 H2 fun b H3 =>
        if b = true then te σ2 H3 fun y H4 => ∃ acc, H4 D = some (.lst acc) ∧ acc.length < sizeLine ∧ Nx (upd H4 D (.lst (acc ++ [y]))) else Nx H3) := by
  refine lc_it w (fun i H => ∃ ys, Same H1 (hid D H) ∧ H D = some (.lst ys) ∧ AllAre (fun y j => R j y (hid D H)) ys ((List.range i).filter t)) ⟨[], ?_, upd_same, .nil⟩ (fun i H _ h => ?_) (fun i x H H' hi h y => ?_) (fun H h => ?_)
  · intro b o e
    rw [hid_ne (ne_of_none e hD), upd_ne (ne_of_none e hD)]
    exact e
  · obtain ⟨ys, s, _⟩ := h
    exact hS H (s.trans hid_same)
  · obtain ⟨ys, s, e, a⟩ := h
    refine hs i x H H' (fun y H4 => ∃ acc, H4 D = some (.lst acc) ∧ acc.length < sizeLine ∧ ∃ ys, Same H1 (hid D (upd H4 D (.lst (acc ++ [y])))) ∧ (upd H4 D (.lst (acc ++ [y]))) D = some (.lst ys) ∧ AllAre (fun y' j => R j y' (hid D (upd H4 D (.lst (acc ++ [y]))))) ys ((List.range (i + 1)).filter t)) (fun H3 => ∃ ys, Same H1 (hid D H3) ∧ H3 D = some (.lst ys) ∧ AllAre (fun y j => R j y (hid D H3)) ys ((List.range (i + 1)).filter t)) hi s ⟨_, e⟩ y (fun ht y H4 s4 r4 => ?_) (fun hf H4 s4 => ?_)
    · have ll : ys.length < 1000 := by
        have h1 := a.1
        have h2 := List.length_filter_le t (List.range i)
        rw [List.length_range] at h2
        omega
      refine ⟨ys, s4 _ _ e, small1000 (by omega), ys ++ [y], ?_, upd_same, ?_⟩
      · rw [hid_upd]
        exact s.trans (hid_mono s4)
      · rw [hid_upd, List.range_succ, List.filter_append, List.filter_cons_of_pos ht, List.filter_nil]
        exact AllAre.snoc (a.imp fun _ _ r => mono _ _ _ _ (hid_mono s4) r) r4
    · refine ⟨ys, s.trans (hid_mono s4), s4 _ _ e, ?_⟩
      rw [List.range_succ, List.filter_append, List.filter_cons_of_neg (by rw [hf]; exact Bool.false_ne_true), List.filter_nil, List.append_nil]
      exact a.imp fun _ _ r => mono _ _ _ _ (hid_mono s4) r
  · obtain ⟨ys, s, e, a⟩ := h
    exact hd H ys s e a
end
end Fb
namespace Fb
open PySem PySem.Spec PyProof.Rows L2
/-- what the clauses wish of an exception of the body, one after the other; a clause may name the exception (slot i) -/
def wManyN (K : PySem.W.Frag) (Wout : WX) (D : Ends) : List (Value × Option Nat × (Addr → Value → Option Addr → L2.TS)) → WX
  | [] => Wout
  | (c, none, ts) :: r => fun cls d σ H => ∃ b, PySem.W.exmOne K cls c = some b ∧ (b = true → ∀ a, H a = none → ts a cls d D σ H) ∧ (b = false → wManyN K Wout D r cls d σ H)
  | (c, some i, ts) :: r => fun cls d σ H => ∃ b, PySem.W.exmOne K cls c = some b ∧
    (b = true → ∀ a, H a = none → ts a cls d { nx := fun σ' H' => D.nx (σ'.set i none) H', rt := D.rt, bk := fun σ' H' => D.bk (σ'.set i none) H', ct := fun σ' H' => D.ct (σ'.set i none) H' } (σ.set i (some (.ref a))) H) ∧ (b = false → wManyN K Wout D r cls d σ H)
inductive HdsN (X : Cx) : List ExceptHandler → List (Value × Option Nat × (Addr → Value → Option Addr → L2.TS)) → Prop
  | nil : HdsN X [] []
  | cons {x : Str} {c : Value} {ts : Addr → Value → Option Addr → L2.TS} {b₀ : Stmt} {suite : List Stmt} {np pos' : Pos} {hds : List ExceptHandler} {l : List (Value × Option Nat × (Addr → Value → Option Addr → L2.TS))} (hc : Names X x c)
      (hsu : ∀ (a : Addr) (oe : Obj) (cls : Value) (d : Option Addr) (pn : List (Addr × Obj)), Zc cls d oe → (∃ vs, oe.data = .fields vs) → PSs (X.suite a ((a, oe) :: pn)) (b₀ :: suite) (ts a cls d)) (r : HdsN X hds l) :
      HdsN X (.ExceptHandler (some (.Name x np)) none (b₀ :: suite) pos' :: hds) ((c, none, ts) :: l)
  | as {x n : Str} {i : Nat} {c : Value} {ts : Addr → Value → Option Addr → L2.TS} {b₀ : Stmt} {suite : List Stmt} {np pos' : Pos} {hds : List ExceptHandler} {l : List (Value × Option Nat × (Addr → Value → Option Addr → L2.TS))} (hi : X.N[i]? = some n) (hln : X.env.kindOf n = some .local) (hc : Names X x c)
      (hsu : ∀ (a : Addr) (oe : Obj) (cls : Value) (d : Option Addr) (pn : List (Addr × Obj)), Zc cls d oe → (∃ vs, oe.data = .fields vs) → PSs (X.suite a ((a, oe) :: pn)) (b₀ :: suite) (ts a cls d)) (r : HdsN X hds l) :
      HdsN X (.ExceptHandler (some (.Name x np)) (some n) (b₀ :: suite) pos' :: hds) ((c, some i, ts) :: l)
section
variable {X : Cx} {body : List Stmt} {h₀ : ExceptHandler} {hds : List ExceptHandler} {l : List (Value × Option Nat × (Addr → Value → Option Addr → L2.TS))} {pos : Pos} {tb : WX → L2.TS} {Wout : WX}
theorem ps_try_manyN (hs : X.stack = X.env :: X.outer) (hf : X.env.frame = some X.env.locals) (hN : X.N.Nodup) (tk : Takes X Wout)
    (hb : ∀ (W : WX) (pn : List (Addr × Obj)) (xe : Value → Shared → Prop), Takes (X.tr pn xe) W → PassesOwn (model X.prog X.w) X.A X.env xe → PSs (X.tr pn xe) body (tb W))
    (hh : HdsN X (h₀ :: hds) l) : PS X (.Try body (h₀ :: hds) [] [] pos) (fun D σ H => tb (wManyN X.K Wout D l) D σ H) := by
  refine ⟨fun pins s σ H D I h => ?_⟩
  have ok := I.ok
  have hfr : X.A.frames = some (X.env :: X.outer) := by rw [ok.frames, hs]
  refine wpAny_Try_except ?_
  refine wpAny_mono ((hb (wManyN X.K Wout D l) (X.pn ++ pins) (fun e s₁ => wpAny (model X.prog X.w) X.A (noteFrame e X.env) (fun _ s₂ => wpAny (model X.prog X.w) X.A (setFlight e none) (fun _ s₃ =>
    wpAny (model X.prog X.w) X.A (handleBy e X.env (h₀ :: hds)) (SP X pins D) X.xe s₃) X.xe s₂) X.xe s₁) (fun u s' xx => ?_) PassesOwn.looking).run [] s σ H D (I.toTry _) h) (fun f s1 hsp => ?_) (fun e s1 he => he)
  · obtain ⟨a, B, sI, pins', σ', H', cls, d, rfl, J', nb, up, sky, na, os, ag, w⟩ := xx
    have J : Inv X pins σ' H' sI := J'.ofTry ok
    have sky' : Sky B (X.env :: X.outer) a (Zc cls d) X.env.locals s'.heap := by rw [← hs]; exact sky
    show wpAny (model X.prog X.w) X.A (noteFrame (.ref a) X.env) _ _ _
    refine Sky.land Zc.steady hfr hf sky' fun h3 fl3 up3 => ?_
    have J3 : Inv X pins σ' H' { s' with heap := h3 } := J.landed nb fl3.1 (up.trans up3) os ag
    obtain ⟨oe3, vs3, he3, hz3, hd3⟩ := fl3.there
    have nfr : a ∉ frs (X.env :: X.outer) := fun hm => by
      obtain ⟨_, o', e', hnf⟩ := fl3.2.2.1.mem hm
      rw [he3] at e'
      cases e'
      exact hnf _ hd3
    have nL : a ≠ X.env.locals := fun z => nfr (List.mem_filterMap.mpr ⟨X.env, List.mem_cons_self, by rw [hf, z]⟩)
    have nF : a ∉ X.fs := fun hm => by
      obtain ⟨e, he, q⟩ := List.mem_filterMap.mp hm
      exact nfr (List.mem_filterMap.mpr ⟨e, List.mem_cons_of_mem _ he, q⟩)
    have S3 := J3.suite he3 hd3 na nL nF
    have LT : PySem.W.Looks (model X.prog X.w) h3 (typeOf (.ref a)) cls := fun A Q E s k q => wpAny_typeOf_ref (k _ _ he3) (by rw [hz3.1]; exact q)
    have test : ∀ {x : Str} {c : Value} {np : Pos} {Q : Value → Shared → Prop} {E : Value → Shared → Prop}, Names X x c → Q c { s' with heap := h3 } → wpAny (model X.prog X.w) (X.A.mark (some (.ref a))) (eval (.Name x np) X.env) Q E { s' with heap := h3 } := fun {x c np Q E} hc q => by
      obtain ⟨hg, hdbg, hm | ⟨hm, hv, hnn⟩⟩ := hc
      · exact ld_glob (X := X.suite a ((a, oe3) :: (X.pn ++ pins))) S3 hg hm q hdbg
      · exact ld_blt (X := X.suite a ((a, oe3) :: (X.pn ++ pins))) S3 hg hm hv q hnn hdbg
    have go : ∀ {hds' : List ExceptHandler} {l' : List (Value × Option Nat × (Addr → Value → Option Addr → L2.TS))}, HdsN X hds' l' → wManyN X.K Wout D l' cls d σ' H' →
        wpAny (model X.prog X.w) X.A (handleBy (.ref a) X.env hds') (SP X pins D) X.xe { s' with heap := h3 } := by
      intro hds' l' hk
      induction hk with
      | nil =>
        intro w
        refine wpAny_handleBy_nil ?_
        obtain ⟨k1, k2, k3, oe, vs, T, oT, ts', he, hz, hd, h1, hr⟩ := id fl3
        unfold PySem.passOn
        refine wpAny_bind (wpAny_field he hd h1 ?_)
        rw [if_neg (show ¬ ((Value.ref T == Value.none) = true) from by simp)]
        have fin : wpAny (model X.prog X.w) X.A (setFlight (.ref a) X.env.frame) (fun _ s4 => wpAny (model X.prog X.w) X.A (throw (.ref a) : Sem Flow) (SP X pins D) X.xe s4) X.xe { s' with heap := h3 } := by
          rw [hf]
          refine HandSPX.setFlight_upZ fl3 fun h4 hh4 up4 => wpAny_throw (tk _ _ ?_)
          exact ⟨a, B, sI, pins, σ', H', cls, d, rfl, J, nb, (up.trans up3).trans up4, .inr (.inr (by rw [hs]; exact hh4)), na, os, ag, w⟩
        first
          | exact wpAny_bind (wpAny_pure (wpAny_bind fin))
          | exact wpAny_bind fin
      | @cons x c ts b₀ suite np pos' hds2 l2 hc hsu r ih =>
        intro w
        obtain ⟨b, hb1, hyes, hno⟩ := w
        refine wpAny_handleBy_cons (codeAny_handlers_test ?_) (by intro q; cases q)
        have LM := PySem.W.exm_one (M := model X.prog X.w) (J3.kIn) LT hb1
        refine test hc (LM.here ?_)
        cases b with
        | true =>
          refine codeAny_handlers_suite ?_
          refine HandSPX.lands_againZ fl3 fun h4 fl4 up4 => ?_
          have J4 : Inv X pins σ' H' { s' with heap := h4 } := J.landed nb fl4.1 ((up.trans up3).trans up4) os ag
          obtain ⟨oe4, vs4, he4, hz4, hd4⟩ := fl4.there
          have S4 := J4.suite he4 hd4 na nL nF
          refine wpAny_mono ((hsu a oe4 cls d (X.pn ++ pins) hz4 ⟨_, hd4⟩).run [] _ _ H' _ S4 (hyes rfl a na)) (fun f s6 hsp => ?_) (fun _ _ z => False.elim z)
          cases f with
          | next =>
            obtain ⟨σ6, H6, S6, q6⟩ := hsp
            exact ⟨_, _, S6.unsuite ok, q6⟩
          | brk =>
            obtain ⟨σ6, H6, S6, q6⟩ := hsp
            exact ⟨_, _, S6.unsuite ok, q6⟩
          | cont =>
            obtain ⟨σ6, H6, S6, q6⟩ := hsp
            exact ⟨_, _, S6.unsuite ok, q6⟩
          | ret u =>
            obtain ⟨v6, σ6, H6, S6, r6, q6⟩ := hsp
            exact ⟨_, _, _, S6.unsuite ok, r6, q6⟩
        | false =>
          show wpAny _ X.A (handleBy (.ref a) X.env hds2) _ _ _
          exact ih (hno rfl)
      | @as x n i c ts b₀ suite np pos' hds2 l2 hi hln hc hsu r ih =>
        intro w
        obtain ⟨b, hb1, hyes, hno⟩ := w
        refine wpAny_handleBy_cons (codeAny_handlers_test ?_) (by intro q; cases q)
        have LM := PySem.W.exm_one (M := model X.prog X.w) (J3.kIn) LT hb1
        refine test hc (LM.here ?_)
        cases b with
        | true =>
          refine codeAny_handlers_suite_as ?_
          refine HandSPX.lands_againZ fl3 fun h4 fl4 up4 => ?_
          have J4 : Inv X pins σ' H' { s' with heap := h4 } := J.landed nb fl4.1 ((up.trans up3).trans up4) os ag
          obtain ⟨oe4, vs4, he4, hz4, hd4⟩ := fl4.there
          have S4 := J4.suite he4 hd4 na nL nF
          refine store_ok (X := X.suite a ((a, oe4) :: (X.pn ++ pins))) (v := .ref a) S4 hN hi (.inl hln) rfl (fun s5 S5 => ?_) (.inr hln)
          refine wpAny_mono ((hsu a oe4 cls d (X.pn ++ pins) hz4 ⟨_, hd4⟩).run [] s5 _ H' _ S5 (hyes rfl a na)) (fun f s6 hsp => ?_) (fun _ _ z => False.elim z)
          have end_ : ∀ {σ6 : L2.St} {H6 : Hp} {Q : Shared → Prop}, Inv (X.suite a ((a, oe4) :: (X.pn ++ pins))) [] σ6 H6 s6 → (∀ s7, Inv X pins (σ6.set i none) H6 s7 → Q s7) →
              wpAny (model X.prog X.w) X.A (do bindName X.env n .none; unbindBehindTheSuite X.env n pos') (fun _ s7 => Q s7) X.xe s6 := fun {σ6 H6 Q} S6 hq => gone_ok (S6.unsuite ok) hN hi hln hq
          cases f with
          | next =>
            obtain ⟨σ6, H6, S6, q6⟩ := hsp
            exact end_ S6 fun s7 J7 => ⟨_, _, J7, q6⟩
          | brk =>
            obtain ⟨σ6, H6, S6, q6⟩ := hsp
            exact end_ S6 fun s7 J7 => ⟨_, _, J7, q6⟩
          | cont =>
            obtain ⟨σ6, H6, S6, q6⟩ := hsp
            exact end_ S6 fun s7 J7 => ⟨_, _, J7, q6⟩
          | ret u =>
            obtain ⟨v6, σ6, H6, S6, r6, q6⟩ := hsp
            exact end_ S6 fun s7 J7 => ⟨_, _, _, J7, r6, q6⟩
        | false =>
          show wpAny _ X.A (handleBy (.ref a) X.env hds2) _ _ _
          exact ih (hno rfl)
    exact go hh w
  · cases f with
    | next =>
      obtain ⟨σ', H', J', q⟩ := hsp
      exact wpAny_execs_nil ⟨σ', H', J'.ofTry ok, q⟩
    | brk =>
      obtain ⟨σ', H', J', q⟩ := hsp
      exact ⟨σ', H', J'.ofTry ok, q⟩
    | cont =>
      obtain ⟨σ', H', J', q⟩ := hsp
      exact ⟨σ', H', J'.ofTry ok, q⟩
    | ret u =>
      obtain ⟨v, σ', H', J', r, q⟩ := hsp
      exact ⟨v, σ', H', J'.ofTry ok, r, q⟩
end
theorem refs_of : ∀ l : List Value, PySem.W.excTail PySem.HandSPX.veTail l = true → PySem.HandSPX.refsVE l = true := by
  intro l
  induction l with
  | nil => exact fun h => h
  | cons a r ih =>
    intro h
    rcases PySem.W.excTail_cases (a :: r) h with ⟨c, r', q, h'⟩ | q
    · obtain ⟨rfl, rfl⟩ := List.cons.inj q
      exact ih h'
    · rw [q]
      decide +kernel
/-- a class of refusals with a value, as the written part tells of it -/
theorem oex_of {K : PySem.W.Frag} {C : Addr} (q : PySem.W.excInitIn K C PySem.HandSPX.veTail "ValueError.__new__" = true) (hd : PySem.W.hasDictIn K C = true) (sa : PySem.W.findIn K (.ref C) "__setattr__" = some (some (.builtin "object.__setattr__")))
    (sb : PySem.W.subIn K (.ref C) (.type "BaseException") = some true) (ty : PySem.W.typeIn K (.ref C) = some (.type "type")) (kp : PySem.W.keepIn K (.ref C) = true) : OexC K C := by
  refine ⟨?_, sa, sb, ty, kp⟩
  unfold PySem.W.excInitIn at q
  split at q
  · rename_i dd cd sl ho
    split at q
    · rename_i C' bm k0 k1 k2 k3 n k5 hm hs
      simp only [Bool.and_eq_true, beq_iff_eq, Bool.not_eq_true'] at q
      obtain ⟨⟨⟨rfl, rfl⟩, hdel⟩, ht⟩ := q
      have hh : cd.hasDict = true := by
        unfold PySem.W.hasDictIn PySem.W.clsIn at hd
        rw [ho] at hd
        simpa using hd
      obtain ⟨nm, bs, mro, ns, qn, hd', sn, sub, ab, col, del⟩ := cd
      dsimp only at hm hdel hh
      subst hm hdel hh
      have hsl : sl = #[k0, k1, k2, k3, some (.builtin "ValueError.__new__"), k5] := by
        obtain ⟨l⟩ := sl
        simp only at hs
        rw [hs]
      subst hsl
      exact ⟨nm, qn, ns, bs, bm, sn, sub, ab, col, dd, k0, k1, k2, k3, k5, ho, refs_of _ ht⟩
    · cases q
  · cases q
end Fb
namespace Fb
open PySem PySem.Spec PyProof.Rows L2
def SqK (K : PySem.W.Frag) (a : Addr) (xs : List V) : Prop := ∃ (o : Obj) (its : Array Value) (n : Nat), K.lookup a = some o ∧ o.cls = .type "tuple" ∧ o.data = .seq its n ∧ its.size ≤ sizeLine ∧ Vals xs its.toList
theorem SqK.sq {K : PySem.W.Frag} {a : Addr} {xs : List V} {H : Hp} (h : SqK K a xs) : SqT K H a xs := .inr h
theorem cut_tok (xs : List V) (k : Nat) : cutV xs none (some (k : Int)) = xs.take k := by
  unfold cutV
  rw [HT.sIx_none, HT.sIx_nat, List.drop_zero, Nat.sub_zero]
  by_cases h : k ≤ xs.length
  · rw [Nat.min_eq_left h]
  · rw [Nat.min_eq_right (by omega), List.take_of_length_le (Nat.le_refl _), List.take_of_length_le (by omega)]
end Fb
namespace Fb
open PySem PySem.Spec PyProof.Rows L2
section
variable {X : Cx} {a : Addr} {oe : Obj} {cls : Value} {d : Option Addr} {pn : List (Addr × Obj)}
def rIsErrD (K : PySem.W.Frag) (cls : Value) (d : Option Addr) (a : Addr) : List V → Hp → VK → Prop := fun xs H Q => ∃ (D dd : Addr) (fs : List (Str × V)) (c : V) (u : Value) (b : Bool), cls = .ref D ∧ d = some dd ∧ H dd = some (.xd fs) ∧ ExcC K D ∧ xs = [.ref a, c] ∧ ClsV c u ∧ PySem.W.kitOne K (.ref D) u = some b ∧ Q (.bl b) H
theorem call_isErrD {K : PySem.W.Frag} (hK : X.K = K) (hz : Zc cls d oe) (hf : ∃ vs, oe.data = .fields vs) : CallR (X.suite a ((a, oe) :: pn)) (.builtin "isinstance") (rIsErrD K cls d a) := by
  subst hK
  intro pins s σ H xs us Q I r h
  obtain ⟨D, dd, fs, c, u, b, rfl, rfl, hdd, C, rfl, k, e, q⟩ := h
  obtain ⟨u1, u2, rfl, r1, r2⟩ := vals2 r
  cases r1
  have ec := k.eq r2
  subst ec
  obtain ⟨hget, _⟩ := I.pin (a, oe) (List.mem_append.mpr (.inl List.mem_cons_self))
  obtain ⟨vs, hv⟩ := hf
  have hx : ObjOk X.prog X.w H s.heap dd (.xd fs) := I.hok dd _ hdd
  obtain ⟨mA, hns, hr⟩ := hx
  obtain ⟨od, ho, hl⟩ := lookIn_ns hns
  have J : PySem.W.InstAt s.heap a oe D (some od) := ⟨hget, hz.1, by unfold PySem.W.notCls; rw [hv] <;> rfl, by rw [hz.2]; exact ho⟩
  have hcl : (PySem.W.clsIn X.K D).isSome = true := by
    have := C.hd
    unfold PySem.W.hasDictIn at this
    cases hc : PySem.W.clsIn X.K D with
    | none => rw [hc] at this; cases this
    | some _ => rfl
  exact PySem.W.kia_one (PySem.W.kitx_exc hcl C.hg C.hk C.hs C.ha C.hn C.ht C.hm) I.kIn J e (fun z => nomatch z) fun tk => ⟨.bl b, H, I.kept (t' := tk) fun _ _ z => z, rfl, q⟩
end
end Fb
namespace Fb
open PySem PySem.Spec PyProof.Rows L2
section
variable {P : Program} {w : World}
/-- v is a tuple of the room and the sign of k -/
def PairIn (P : Program) (w : World) (h : Heap) (v : Value) (k : RS) : Prop :=
  ∃ (t : Addr) (o : Obj) (n : Nat) (t1 t2 : Tok), v = .ref t ∧ h.get? t = some o ∧ o.cls = .type "tuple" ∧ o.data = .seq #[.int k.1 t1, .str k.2 t2] n
theorem PairIn.keeps {h h' : Heap} {v : Value} {k : RS} (x : PairIn P w h v k) (kp : ∀ b o, h.get? b = some o → o.cls = .type "tuple" → h'.get? b = some o) : PairIn P w h' v k := by
  obtain ⟨t, o, n, t1, t2, e, ho, hc, hd⟩ := x
  exact ⟨t, o, n, t1, t2, e, kp _ _ ho hc, hc, hd⟩
end
end Fb
namespace Fb
open PySem PySem.Spec PyProof.Rows L2
/-- a list or a tuple -/
inductive Src where
  | l
  | t
def Src.has (k : Src) (h : Heap) (a : Addr) (xs : Array Value) : Prop := match k with
  | .l => h.IsList a xs
  | .t => h.IsTuple a xs
def Src.sq (k : Src) (K : PySem.W.Frag) (H : Hp) (a : Addr) (xs : List V) : Prop := match k with
  | .l => SqL K H a xs
  | .t => SqT K H a xs
theorem Src.get {X : Cx} {k : Src} {pins : List (Addr × Obj)} {σ : L2.St} {H : Hp} {s : Shared} (I : Inv X pins σ H s) {a : Addr} {xs : List V} (h : k.sq X.K H a xs) : ∃ its : List Value, Vals xs its ∧ k.has s.heap a its.toArray ∧ a < s.heap.objs.size := by
  cases k
  · obtain ⟨its, rv, p, _⟩ := I.list h
    exact ⟨its, rv, p.isList, p.lt⟩
  · obtain ⟨its, rv, p, _⟩ := I.tuple h
    obtain ⟨o, ho, _⟩ := id p
    exact ⟨its, rv, p, Heap.lt_size ho⟩
theorem Src.inj {X : Cx} {k : Src} {pins : List (Addr × Obj)} {σ : L2.St} {H : Hp} {s : Shared} (I : Inv X pins σ H s) {a : Addr} {xs ys : List V} (h : k.sq X.K H a xs) (h' : k.sq X.K H a ys) : xs = ys := by
  cases k
  · exact I.list_inj h h'
  · exact I.tuple_inj h h'
end Fb
namespace Fb
open PySem PySem.Spec PyProof.Rows L2
abbrev tK (P : Program) (w : World) := PySem.strKind P w
def txtOf (e : Int × Value) : Str := match e.2 with
  | .str x _ => x
  | _ => ""
def TxtE (P : Program) (w : World) (e : Int × Value) : Prop := ∃ x t, e.2 = Value.str x t ∧ e.1 = (tK P w).hash x
/-- entries and a table that hold the texts L -/
structure TTab (P : Program) (w : World) (es : Array (Int × Value)) (t : SetTable) (L : List Str) : Prop where
  all : ∀ e ∈ es.toList, TxtE P w e
  perm : L.Perm (es.toList.map txtOf)
  once : L.Nodup
  room : es.size < scanBound
  fits : t.fits es.size = true
  ris : Ris t.place.toList
  led : w.params.followText "set-order" = true ∨ t.led = true
def TSet (P : Program) (w : World) (h : Heap) (a : Addr) (L : List Str) : Prop := ∃ o es ep t, h.get? a = some o ∧ o.ExactSet ∧ o.data = .set es ep t ∧ TTab P w es t L
section
variable {P : Program} {w : World} {A : Around} {E : Value → Shared → Prop} {s : Shared} {a : Addr} {L : List Str}
theorem TxtE.is {e : Int × Value} (h : TxtE P w e) (x : Str) : (tK P w).is x e.2 = true ↔ txtOf e = x := by
  obtain ⟨y, t, h1, _⟩ := h
  unfold txtOf
  rw [h1]
  show Value.isStrOf x (.str y t) = true ↔ y = x
  simp [Value.isStrOf]
theorem TTab.elems {es : Array (Int × Value)} {t : SetTable} (T : TTab P w es t L) : ElemsOf (tK P w) es.toList := fun e he => by
  obtain ⟨x, tk, h1, h2⟩ := T.all e he
  exact ⟨⟨x, by rw [h1]; show Value.isStrOf x (.str x tk) = true; simp [Value.isStrOf], h2⟩, by rw [h1]; rfl⟩
theorem TTab.mem {es : Array (Int × Value)} {t : SetTable} (T : TTab P w es t L) (x : Str) : x ∈ L ↔ ∃ e ∈ es.toList, (tK P w).is x e.2 = true := by
  rw [T.perm.mem_iff, List.mem_map]
  exact ⟨fun ⟨e, he, q⟩ => ⟨e, he, ((T.all e he).is x).2 q⟩, fun ⟨e, he, q⟩ => ⟨e, he, ((T.all e he).is x).1 q⟩⟩
theorem TTab.len {es : Array (Int × Value)} {t : SetTable} (T : TTab P w es t L) : L.length = es.size := by rw [T.perm.length_eq, List.length_map, Array.length_toList]
/-- storing what was laid -/
theorem tset_store {g : Bool → Sem Unit} (hg : ∀ (b : Bool) (s₁ : Shared) (Q' : Unit → Shared → Prop), Q' () s₁ → wpAny (model P w) A (g b) Q' E s₁) {o : Obj} {es es1 : Array (Int × Value)} {ep : Nat} {t t1 : SetTable} {L1 : List Str} (ho : s.heap.get? a = some o) (hex : o.ExactSet) (hd : o.data = .set es ep t) (T : TTab P w es1 t1 L1)
    {dummy : Bool} {R : Option Bool → Shared → Prop} (hR : ∀ h', Heap.SameBut a s.heap h' → TSet P w h' a L1 → R (some true) { s with heap := h' }) :
    wpAny (model P w) A (do
        storeSet a es1 t1
        if (!dummy && t1.tooFull) = true then do
            g (relayAll t1 es1 (SetTable.grown es1.size)).2.2
            storeSet a (relayAll t1 es1 (SetTable.grown es1.size)).1 (relayAll t1 es1 (SetTable.grown es1.size)).2.1
            pure (some true)
          else pure (some true)) R E s := by
  have one := store_at (es' := es1) (t' := t1) ho hd
  have sb := Heap.SameBut.update s.heap a (Obj.putSet es1 t1)
  refine wpAny_bind (wpAny_storeSet_of ho hd ?_ (fits_of_scanBound T.room))
  by_cases full : (!dummy && t1.tooFull) = true
  · rw [if_pos full]
    have T2 : TTab P w (relayAll t1 es1 (SetTable.grown es1.size)).1 (relayAll t1 es1 (SetTable.grown es1.size)).2.1 L1 := by
      have pm := relayAll_perm t1 es1 (SetTable.grown es1.size)
      have sz : (relayAll t1 es1 (SetTable.grown es1.size)).1.size = es1.size := by rw [← Array.length_toList, pm.length_eq, Array.length_toList]
      exact ⟨fun e he => T.all e (pm.mem_iff.mp he), T.perm.trans (pm.map txtOf).symm, T.once, by rw [sz]; exact T.room, relayAll_fits t1 es1 (SetTable.grown es1.size), relayAll_ris t1 es1 (SetTable.grown es1.size), T.led.imp id fun z => by rw [relayAll_led]; exact z⟩
    refine wpAny_bind (hg _ _ _ (wpAny_bind (wpAny_storeSet_of one rfl ?_ (fits_of_scanBound T2.room))))
    exact wpAny_pure (hR _ (sb.trans (Heap.SameBut.update _ a _)) ⟨_, _, _, _, store_at one rfl, hex, rfl, T2⟩)
  · rw [if_neg full]
    exact wpAny_pure (hR _ sb ⟨_, es1, _, t1, one, hex, rfl, T⟩)
/-- one more -/
def plusT (L : List Str) (x : Str) : List Str := if x ∈ L then L else x :: L
theorem tset_hashed {x : Str} {tk : Tok} {Q : Bool → Shared → Prop} (R : TSet P w s.heap a L) (few : L.length + 1 < scanBound) (hQ : ∀ b h', Heap.SameBut a s.heap h' → TSet P w h' a (plusT L x) → Q b { s with heap := h' }) :
    wpAny (model P w) A (setAddHashed a (.str x tk) ((tK P w).hash x)) Q E s := by
  obtain ⟨o, es, ep, t, ho, hex, hd, T⟩ := R
  have key : (tK P w).is x (.str x tk) = true := by show Value.isStrOf x (.str x tk) = true; simp [Value.isStrOf]
  have sc : (Value.str x tk).scannable = true := rfl
  unfold setAddHashed setAddHashedIn
  refine wpAny_holding (wpAny_bind (wpAny_setState_of ho hd T.fits ?_))
  dsimp only
  rw [byScan_of sc T.room T.elems, if_pos rfl]
  unfold setAddByScan
  refine wpAny_bind (wpAny_bind (wpAny_rule (wpAny_bind (wpAny_setScan_of key ho hd T.fits T.elems ?_))))
  cases at_ : List.findIdx? (fun e => (tK P w).is x e.2) es.toList with
  | some j =>
    obtain ⟨hj, pj, _⟩ := List.findIdx?_eq_some_iff_getElem.mp at_
    have mem : x ∈ L := (T.mem x).2 ⟨_, List.getElem_mem hj, pj⟩
    have q := hQ false s.heap (Heap.SameBut.refl a s.heap) (by unfold plusT; rw [if_pos mem]; exact ⟨o, es, ep, t, ho, hex, hd, T⟩)
    exact wpAny_pure (wpAny_pure q)
  | none =>
    have new : x ∉ L := fun z => by
      obtain ⟨e, he, q⟩ := (T.mem x).1 z
      have c := List.findIdx?_eq_none_iff.mp at_ e he
      rw [q] at c
      cases c
    have pm := layNew_perm t es ((tK P w).hash x) (.str x tk)
    have lf := layNew_fits t es ((tK P w).hash x) (.str x tk)
    have lr := layNew_ris t es ((tK P w).hash x) (.str x tk) T.ris
    have ll := layNew_led t es ((tK P w).hash x) (.str x tk)
    dsimp only
    generalize layNew t es ((tK P w).hash x) (.str x tk) = Z at pm lf lr ll ⊢
    obtain ⟨es1, t1, dummy, gave⟩ := Z
    dsimp only at pm lf lr ll ⊢
    rw [Array.toList_push] at pm
    have pc : es1.toList.Perm (((tK P w).hash x, Value.str x tk) :: es.toList) := pm.trans (List.perm_append_singleton _ _)
    have sz : es1.size = L.length + 1 := by rw [← Array.length_toList, pc.length_eq, List.length_cons, Array.length_toList, T.len]
    have T1 : ∀ t2 : SetTable, t2.fits es1.size = true → Ris t2.place.toList → t2.led = t1.led → TTab P w es1 t2 (plusT L x) := fun t2 f2 r2 l2 => by
      unfold plusT
      rw [if_neg new]
      refine ⟨fun e he => ?_, ?_, List.nodup_cons.mpr ⟨new, T.once⟩, by rw [sz]; exact few, f2, r2, T.led.imp id fun z => by rw [l2, ll]; exact z⟩
      · rcases List.mem_cons.mp (pc.mem_iff.mp he) with rfl | h
        · exact ⟨x, tk, rfl, rfl⟩
        · exact T.all e h
      · exact (List.Perm.cons x T.perm).trans (pc.map txtOf).symm
    have gone : ∀ (b : Bool) (s₁ : Shared) (Q' : Unit → Shared → Prop), Q' () s₁ → wpAny (model P w) A (match b with | true => rule "set.scan.the-table-gave-way" | false => pure ()) Q' E s₁ :=
      fun b s₁ Q' q => by cases b <;> first | exact wpAny_pure q | exact wpAny_rule q
    refine wpAny_bind (gone _ _ _ ?_)
    split
    · refine wpAny_bind ?_
      rw [hashByValue_scannable 8 sc]
      refine wpAny_pure ?_
      refine tset_store ?_ ho hex hd (T1 _ ?_ ?_ ?_) fun h' sb r => ?_
      · intro b s₁ Q' q
        cases b <;> first | exact wpAny_pure q | exact wpAny_rule q
      · first | (split <;> first | exact lf | exact SetTable.fits_plain_off lf) | exact lf
      · first | (split <;> exact lr) | exact lr
      · first | (split <;> rfl) | rfl
      · exact wpAny_pure (hQ true h' sb r)
    · refine wpAny_bind (wpAny_pure ?_)
      rw [if_pos rfl]
      refine tset_store ?_ ho hex hd (T1 _ lf lr rfl) fun h' sb r => ?_
      · intro b s₁ Q' q
        cases b <;> first | exact wpAny_pure q | exact wpAny_rule q
      · exact wpAny_pure (hQ true h' sb r)
theorem TSet.typeIs (R : TSet P w s.heap a L) : s.TypeIs (.ref a) "set" := by
  obtain ⟨o, _, _, _, ho, hex, _⟩ := R
  exact ⟨o, ho, hex.1⟩
/-- set.add -/
theorem tset_add {x : Str} {tk : Tok} {Q : Value → Shared → Prop} (R : TSet P w s.heap a L) (few : L.length + 1 < scanBound) (hQ : ∀ h', Heap.SameBut a s.heap h' → TSet P w h' a (plusT L x) → Q .none { s with heap := h', toks := s.toks + 1 }) :
    wpAny (model P w) A (call (.builtin "set.add") [.ref a, .str x tk]) Q E s := by
  refine wpAny_call_entry F.slot_set_add R.typeIs F.entry_set_add ?_ (F.args_set_add_2 _ _)
  unfold Builtin.«set.add» Builtin.Frozenset.oneOther
  simp only [List.isEmpty_nil, bind_assoc]
  unfold Builtin.Frozenset.addrOf setAdd
  refine wpAny_bind (wpAny_pure ?_)
  try dsimp only
  refine wpAny_bind (wpAny_pure ?_)
  try dsimp only
  refine wpAny_bind (wpAny_holding (wpAny_bind ((tK P w).pyHash (by show Value.isStrOf x (.str x tk) = true; simp [Value.isStrOf]) ?_)))
  refine tset_hashed (s := { s with toks := s.toks + 1 }) R few fun b h' sb r => ?_
  show wpAny _ _ (ret Value.none) _ _ _
  exact wpAny_pure ⟨_, rfl, hQ h' sb r⟩
theorem tset_new {h : Heap} : TSet P w (h.push { cls := .type "set", dict := none, data := .set #[] 0 (.fresh 0 0 (!w.params.followText "set-order")) }) h.objs.size [] :=
  ⟨_, #[], 0, _, Heap.get?_push_size _ rfl, ⟨rfl, rfl, rfl⟩, rfl, (fun e he => by simp at he), .nil, List.nodup_nil, by decide, by rfl, List.Pairwise.nil, by
    show _ ∨ (!w.params.followText "set-order") = true
    cases w.params.followText "set-order"
    · exact .inr rfl
    · exact .inl rfl⟩
/-- sorted -/
theorem txts_of : ∀ l : List Value, (∀ v ∈ l, ∃ k tk, v = Value.str k tk) → StrsAre l (l.map strOf)
  | [], _ => .nil
  | v :: l, h => by
    obtain ⟨k, tk, rfl⟩ := h v List.mem_cons_self
    exact .cons k tk (txts_of l fun u hu => h u (List.mem_cons_of_mem _ hu))
theorem tset_sorted {Q : Value → Shared → Prop} (R : TSet P w s.heap a L) (hh : A.handled = none) (few : L.length < 64)
    (hQ : ∀ s' p (out : Array Value) (c : Nat) (zs : List Str), (∀ b o, s.heap.get? b = some o → s'.heap.get? b = some o) → s'.gens = s.gens → s'.os = s.os → s.heap.objs.size ≤ p → s'.heap.get? p = some (seqObj "list" out c) → StrsAre out.toList zs → sortedS zs = true → zs.Perm L → Q (.ref p) s') :
    wpAny (model P w) A (call (.builtin "sorted") [.ref a]) Q E s := by
  obtain ⟨o, es, ep, t, ho, hex, hd, T⟩ := R
  refine Calls.call_function_entry kind_sorted plain_sorted entry_sorted (args_sorted1 _) ?_
  unfold Builtin.«sorted»
  refine wpAny_bind (m := checkCount "sorted" 1 1 _) (wpAny_pure ?_)
  refine wpAny_bind (collect_set (A := A.in1) hh ⟨o, ho, hex.1, hd⟩ T.fits T.room T.ris T.led fun s1 vs k1 hz g1 o1 pm => ?_)
  have vl : vs.length = L.length := by rw [pm.length_eq, List.length_map, Array.length_toList]; exact T.len.symm
  have sa : StrsAre vs (vs.map strOf) := txts_of vs fun v hv => by
    obtain ⟨e, he, q⟩ := List.mem_map.mp (pm.mem_iff.mp hv)
    obtain ⟨k, tk, h1, _⟩ := T.all e he
    exact ⟨k, tk, by rw [← q]; exact h1⟩
  have pk : (vs.map strOf).Perm L := by
    have q := pm.map strOf
    rw [List.map_map] at q
    refine q.trans (List.Perm.trans (List.Perm.of_eq (List.map_congr_left fun e he => ?_)) T.perm.symm)
    obtain ⟨k, tk, h1, _⟩ := T.all e he
    show strOf e.2 = txtOf e
    unfold txtOf
    rw [h1]
    rfl
  refine wpAny_bind (wpAny_newList ?_ (by rw [vl, sizeLine_eq]; omega))
  have hoL : (s1.heap.push (seqObj "list" vs.toArray 0)).get? s1.heap.objs.size = some (seqObj "list" vs.toArray 0) := Heap.get?_push_size _ rfl
  refine wpAny_bind (wpAny_holding (wpAny_call_entry slot_list_sort ⟨_, hoL, rfl⟩ entry_list_sort (list_sort_treeK strKind_oneLt hoL sa.keysOf (fun v₁ v₂ rest e => keyKind_strs (by rw [← e]; exact sa)) (by rw [vl]; exact few) fun st hp hs => ⟨_, rfl, ?_⟩) (args_list_sort _)))
  obtain ⟨zs, h1, h2, h3⟩ := sorted_out_str sa hp hs
  obtain ⟨c, hc⟩ := sortedHeap_at (vs := vs) (out := (arrOf st).map (·.2)) hoL
  refine wpAny_pure ⟨_, rfl, hQ _ s1.heap.objs.size _ c zs (fun b u e => ?_) g1 o1 hz hc h1 h3 (h2.trans pk)⟩
  have q := k1 b u e
  have lt := Heap.lt_size q
  show (sortedHeap (s1.heap.push (seqObj "list" vs.toArray 0)) s1.heap.objs.size vs ((arrOf st).map (·.2))).get? b = some u
  rw [sortedHeap_old (Nat.ne_of_lt lt) (by rw [size_push']; exact Nat.lt_succ_of_lt lt)]
  exact Heap.get?_push_of_some _ q
end
end Fb
namespace Fb
open PySem PySem.Spec PyProof.Rows L2
/-- the set's object by itself -/
def TSetO (P : Program) (w : World) (a : Addr) (L : List Str) : HO := .ext fun h => TSet P w h a L
theorem TSet.ok {P : Program} {w : World} {H : Hp} {h : Heap} {a : Addr} {L : List Str} (R : TSet P w h a L) : ObjOk P w H h a (TSetO P w a L) := by
  have ⟨o, _, _, _, ho, _⟩ := R
  refine ⟨R, ⟨o, ho⟩, fun h1 h2 p k => ?_⟩
  obtain ⟨o', es, ep, t, ho', r⟩ := (show TSet P w h1 a L from p)
  exact ⟨o', es, ep, t, k o' ho', r⟩
section
variable {X : Cx} {pins : List (Addr × Obj)} {σ : L2.St} {H : Hp} {s : Shared}
theorem tset_of (I : Inv X pins σ H s) {a : Addr} {L : List Str} (h : H a = some (TSetO X.prog X.w a L)) : TSet X.prog X.w s.heap a L := (I.hok a _ h).1
theorem tset_put {A : Around} {E : Value → Shared → Prop} {D : Addr} {L : List Str} {x : Str} {tk : Tok} {Q : Value → Shared → Prop} (I : Inv X pins σ H s) (hD : H D = some (TSetO X.prog X.w D L)) (few : L.length + 1 < scanBound)
    (q : ∀ s', Inv X pins σ (upd H D (TSetO X.prog X.w D (plusT L x))) s' → Q .none s') : wpAny (model X.prog X.w) A (call (.builtin "set.add") [.ref D, .str x tk]) Q E s := by
  refine tset_add (tset_of I hD) few fun h' sb R => q _ ?_
  have there : ∃ u, h'.get? D = some u := by
    obtain ⟨o, _, _, _, ho, _⟩ := R
    exact ⟨o, ho⟩
  exact I.write (e := D) (t' := s.toks + 1) (by rw [hD]; trivial) (.inl rfl) (fun c u hc hu => (sb.2 c hc).trans hu) there R.ok
/-- sorted(texts), texts a set -/
def rSortT2 (P : Program) (w : World) : List V → Hp → VK → Prop := fun vs H Q => ∃ (a : Addr) (L : List Str), vs = [V.ref a] ∧ H a = some (TSetO P w a L) ∧ L.length < 64 ∧ ∀ (zs : List Str) (p : Addr), zs.Perm L → sortedS zs = true → H p = none → Q (.ref p) (upd H p (.lst (zs.map V.str)))
theorem cr_sortT (hc : X.calm = true) : CallR X (.builtin "sorted") (rSortT2 X.prog X.w) := by
  intro pins s σ H vs us Q I r h
  obtain ⟨a, L, rfl, ha, few, q⟩ := h
  rw [Vals.ref1 r]
  refine tset_sorted (tset_of I ha) (I.ok.hd hc) few fun s' p out c zs keep gs os new at_ txt srt pm => ?_
  have nil : H p = none := I.hok.fresh new
  have len : (zs.map V.str).length ≤ sizeLine := by rw [List.length_map, pm.length_eq, sizeLine_eq]; omega
  have J : Inv X pins σ (upd H p (.lst (zs.map V.str))) { s with heap := s'.heap, gens := s'.gens, drawn := s'.drawn, toks := s'.toks } :=
    I.call (ch := []) (Un.laid keep new nil) (I.hok.laid keep new ⟨len, out.toList, c, vals_of_strs txt, at_⟩) (by rw [gs]; exact I.bare) (fun _ z => nomatch z)
  have same : s' = { s with heap := s'.heap, gens := s'.gens, drawn := s'.drawn, toks := s'.toks } := by
    cases s'
    cases s
    cases os
    rfl
  rw [same]
  exact ⟨.ref p, _, J, rfl, q zs p pm srt nil⟩
end
end Fb
namespace Fb
open PySem PySem.Spec PyProof.Rows L2
theorem TSet.mv {P : Program} {w : World} {h h' : Heap} {a : Addr} {L : List Str} (R : TSet P w h a L) (k : ∀ o, h.get? a = some o → h'.get? a = some o) : TSet P w h' a L := by
  obtain ⟨o, es, ep, t, ho, r⟩ := R
  exact ⟨o, es, ep, t, k o ho, r⟩
theorem plus_mem {L : List Str} {x z : Str} : z ∈ plusT L x ↔ z = x ∨ z ∈ L := by
  unfold plusT
  by_cases h : x ∈ L
  · rw [if_pos h]
    exact ⟨.inr, fun c => c.elim (fun e => by rw [e]; exact h) id⟩
  · rw [if_neg h, List.mem_cons]
theorem plus_len {L : List Str} {x : Str} : (plusT L x).length ≤ L.length + 1 := by
  unfold plusT
  split
  · exact Nat.le_succ _
  · exact Nat.le_refl _
section
variable {P : Program} {w : World} {A : Around} {E : Value → Shared → Prop} {s : Shared}
/-- the loop that puts in what a walk gives -/
theorem tset_fill {I : Addr} {fp wr : List Addr} {G : Array GenState → Array GenState → Prop} {n : Nat} {Pv : Nat → Value → Prop} {St : Nat → Shared → Prop} {R : Result → Shared → Prop} (W : WalksS P w A.in1 I fp wr G n Pv St) (S : Addr) (out : S ∉ fp) (zs : List Str) (hn : n = zs.length)
    (few : zs.length + 1 < scanBound) (val : ∀ i v, Pv i v → ∃ x t, zs[i]? = some x ∧ v = .str x t) (res : ∀ s' L, Moved (S :: wr) G s s' → TSet P w s'.heap S L → L.length ≤ n → (∀ x, x ∈ L ↔ x ∈ zs) → R (.ok (.ret .none)) s') :
    ∀ (k i : Nat) (s1 : Shared), n - i = k → i ≤ n → St i s1 → (i = 0 → s1 = s) → (0 < i → Moved (S :: wr) G s s1) → (∃ L, TSet P w s1.heap S L ∧ L.length ≤ i ∧ ∀ x, x ∈ L ↔ x ∈ zs.take i) → codeAny (model P w) A (.builtin "set.update.loop" ⟨[.ref S, .ref I], []⟩) R s1 := by
  have far : S ∉ wr := fun h => out (W.sub _ h)
  have more : ∀ b ∈ wr, b ∈ S :: wr := fun b hb => List.mem_cons_of_mem _ hb
  have join : ∀ {i : Nat} {s1 s2 : Shared}, (i = 0 → s1 = s) → (0 < i → Moved (S :: wr) G s s1) → Moved (S :: wr) G s1 s2 → Moved (S :: wr) G s s2 := fun {i s1 s2} h0 h1 m => by
    by_cases e : i = 0
    · rw [h0 e] at m
      exact m
    · exact Moved.trans W.gtrans (h1 (by omega)) m
  intro k
  induction k with
  | zero =>
    intro i s1 hk hi st h0 h1 ⟨L, T, ln, mm⟩
    obtain rfl : i = n := by omega
    refine codeAny_builtin F.entry_set_update_loop ?_
    rw [Around.under_plainId F.plain_set_update_loop _]
    show wpAny _ A.in1 (pyNext (.ref I) >>= _) _ _ s1
    refine wpAny_bind (W.done s1 _ _ st fun s2 m => ?_)
    show wpAny _ A.in1 (ret Value.none) _ _ s2
    rw [List.take_of_length_le (by omega)] at mm
    exact wpAny_pure (res s2 L (join h0 h1 (m.mono more)) (T.mv fun o e => m.heap S o far e) ln mm)
  | succ k ih =>
    intro i s1 hk hi st h0 h1 ⟨L, T, ln, mm⟩
    have lt : i < n := by omega
    refine codeAny_builtin F.entry_set_update_loop ?_
    rw [Around.under_plainId F.plain_set_update_loop _]
    show wpAny _ A.in1 (pyNext (.ref I) >>= _) _ _ s1
    refine wpAny_bind (W.item i s1 _ _ lt st fun v s2 pv st2 m => ?_)
    obtain ⟨x, t, hx, rfl⟩ := val i v pv
    have T2 : TSet P w s2.heap S L := T.mv fun o e => m.heap S o far e
    show wpAny _ A.in1 (holding [Value.str x t] (setAdd S (.str x t)) >>= _) _ _ s2
    refine wpAny_bind (wpAny_holding ?_)
    unfold setAdd
    refine wpAny_holding (wpAny_bind ((tK P w).pyHash (by show Value.isStrOf x (.str x t) = true; simp [Value.isStrOf]) ?_))
    refine tset_hashed (s := { s2 with toks := s2.toks + 1 }) T2 (by omega) fun b h' sb T3 => ?_
    refine wpAny_pure ⟨plainId_quiet F.plain_set_update_loop _, ih (i + 1) _ (by omega) lt (W.frame _ s2 _ _ st2 (Nat.le_succ _) fun b hb o e => ?_) (fun z => absurd z (Nat.succ_ne_zero i)) (fun _ => ?_) ⟨_, T3, Nat.le_trans plus_len (Nat.succ_le_succ ln), fun z => ?_⟩⟩
    · rw [sb.2 b fun h => out (by rw [← h]; exact hb)]
      exact e
    · refine join h0 h1 ((m.mono more).then_heap (Nat.le_succ _) fun b o hb e => ?_)
      rw [sb.2 b fun h => hb (by rw [h]; exact List.mem_cons_self)]
      exact e
    · rw [plus_mem, mm z, List.take_add_one, hx, List.mem_append]
      show _ ↔ _ ∨ z ∈ [x]
      rw [List.mem_singleton]
      exact Or.comm
/-- a set as set() makes it -/
abbrev bareSet (w : World) : Obj := { cls := .type "set", dict := none, data := .set #[] 0 (.fresh 0 0 (!w.params.followText "set-order")) }
theorem tset_bare {h : Heap} {a : Addr} (e : h.get? a = some (bareSet w)) : TSet P w h a [] :=
  ⟨_, #[], 0, _, e, ⟨rfl, rfl, rfl⟩, rfl, (fun e he => by simp at he), .nil, List.nodup_nil, by decide, by rfl, List.Pairwise.nil, by
    show _ ∨ (!w.params.followText "set-order") = true
    cases w.params.followText "set-order"
    · exact .inr rfl
    · exact .inl rfl⟩
theorem strs_at : ∀ {us : List Value} {zs : List Str} {i : Nat} {v : Value}, StrsAre us zs → us[i]? = some v → ∃ x t, zs[i]? = some x ∧ v = .str x t
  | _, _, _, _, .nil, h => by simp at h
  | _, _, 0, _, .cons x t r, h => by
    cases h
    exact ⟨x, t, rfl, rfl⟩
  | _, _, i + 1, _, .cons x t r, h => by
    obtain ⟨y, u, h1, h2⟩ := strs_at (i := i) r (by simpa using h)
    exact ⟨y, u, by simpa using h1, h2⟩
theorem strs_len : ∀ {us : List Value} {zs : List Str}, StrsAre us zs → us.length = zs.length
  | _, _, .nil => rfl
  | _, _, .cons x t r => by rw [List.length_cons, List.length_cons, strs_len r]
set_option maxRecDepth 100000 in
set_option maxHeartbeats 3200000 in
theorem tset_of_list {l : Addr} {items : Array Value} (zs : List Str) {Q : Value → Shared → Prop} (hh : A.handled = none) (hl : s.heap.IsList l items) (txt : StrsAre items.toList zs) (few : zs.length + 1 < scanBound)
    (fin : ∀ (h' : Heap) (tk : Nat) (L : List Str), TSet P w h' s.heap.objs.size L → L.length ≤ zs.length → (∀ x, x ∈ L ↔ x ∈ zs) → (∀ b o, s.heap.get? b = some o → h'.get? b = some o) → Q (.ref s.heap.objs.size) { s with heap := h', toks := tk }) :
    wpAny (model P w) A (call (.type "set") [.ref l]) Q E s := by
  have len : items.size = zs.length := by
    have := strs_len txt
    rwa [Array.length_toList] at this
  have lS : l < s.heap.objs.size := by
    obtain ⟨_, e, _⟩ := hl
    exact Heap.lt_size e
  obtain ⟨c, tl, hmro⟩ := F.called_set.mro
  have hmade := F.called_set.made
  have hsub := F.called_set.sub
  refine wpAny_call (codeAny_of_tree ?_)
  show wpAny _ _ (callAny (.type "set") _) _ _ _
  refine wpAny_pure ⟨Code.quiet_builtin _ (by decide +kernel), codeAny_builtin F.entry_type_call ?_⟩
  rw [Around.under_plain (weight_type_call_type "set" [.ref l] []) rfl]
  have h1 := F.called_set.notType
  have h2 := F.called_set.canCreate
  have hct := F.typeCall_set_1 (.ref l)
  repeat (any_goals (first | assumption | wp_step))
  refine codeAny_mono (code_set_led1 (.ref l) (E := E) (Q₁ := fun obj s₁ => obj = .ref s.heap.objs.size ∧ s₁ = { s with heap := s.heap.push (bareSet w) }) ⟨rfl, rfl⟩) fun r s₁ hr => ?_
  match r with
  | .error e => exact hr
  | .ok (.ret obj) =>
    obtain ⟨rfl, rfl⟩ := hr
    have new : (s.heap.push (bareSet w)).get? s.heap.objs.size = some (bareSet w) := Heap.get?_push_size _ rfl
    have hT : Shared.TypeIs { s with heap := s.heap.push (bareSet w) } (.ref s.heap.objs.size) "set" := ⟨_, new, rfl⟩
    have hli := F.called_set.init.lookup
    have hbi := F.called_set.init.bind (.ref s.heap.objs.size)
    repeat (any_goals (first | assumption | wp_step))
    refine codeAny_mono (codeAny_call_builtin (R := wants (fun r s₂ => r = .none ∧ ∃ h' tk L, s₂ = { s with heap := h', toks := tk } ∧ TSet P w h' s.heap.objs.size L ∧ L.length ≤ zs.length ∧ (∀ x, x ∈ L ↔ x ∈ zs) ∧ (∀ b o, s.heap.get? b = some o → h'.get? b = some o)) E) F.called_set.init.plain F.entry_set_init (check_set_init_1 hT ?_)) fun r₂ s₂ hr₂ => ?_
    · obtain ⟨ol, hol, hcl, nl, hdl⟩ := hl
      obtain ⟨ocls, odict, odata, oslots⟩ := ol
      simp only at hcl hdl
      subst hcl
      subst hdl
      have old : (s.heap.push (bareSet w)).get? l = some { cls := .type "list", dict := odict, data := .seq items nl, slots := oslots } := Heap.get?_push_of_some _ hol
      have isl : (s.heap.push (bareSet w)).IsList l items := ⟨_, old, rfl, nl, rfl⟩
      have hsls := F.sub_list_set
      have hslf := F.sub_list_frozenset
      have hne : (Value.type "list" == Value.type "dict") = false := by decide
      unfold Builtin.«set.__init__» noKeywords Builtin.Frozenset.updateFrom
      generalize hPI : pyIter = PI
      wp_walk
      subst hPI
      refine wpAny_pyIter_list isl (wpAny_bind (wpAny_runValue ?_))
      have sz : (s.heap.push (bareSet w)).objs.size = s.heap.objs.size + 1 := Heap.size_push ..
      have hd3 : A.in1.in1.in1.handled = none := by simp [hh]
      have apart : l ≠ (s.heap.push (bareSet w)).objs.size := by rw [sz]; exact Nat.ne_of_lt (Nat.lt_succ_of_lt lS)
      have out : s.heap.objs.size ∉ [(s.heap.push (bareSet w)).objs.size, l] := by
        rw [sz]
        simp only [List.mem_cons, List.not_mem_nil, or_false, not_or]
        exact ⟨Nat.ne_of_lt (Nat.lt_succ_self _), Nat.ne_of_gt lS⟩
      refine tset_fill (s := { s with heap := (s.heap.push (bareSet w)).push { cls := .type "list_iterator", data := .fields #[.ref l, .int 0 0] } }) ((Walks.list hd3 _ l apart items).toS) s.heap.objs.size out zs len few
        (fun i v hv => strs_at txt (by rw [Array.getElem?_toList]; exact hv)) (fun s' L m T ln mm => ?_) (items.size - 0) 0 _ (by omega) (Nat.zero_le _) ⟨⟨_, Heap.get?_push_size _ rfl, rfl, rfl⟩, isl.push _⟩ (fun _ => rfl) (fun z => absurd z (Nat.lt_irrefl 0)) ⟨[], tset_bare (Heap.get?_push_of_some _ new), Nat.le_refl 0, fun x => by simp⟩
      obtain ⟨h', g2, d', tk', os'⟩ := s'
      have eg : g2 = s.gens := m.gens
      have ed : d' = s.drawn := m.drawn
      have eo : os' = s.os := m.os
      subst eg
      subst ed
      subst eo
      show wpAny _ _ _ _ _ _
      refine wpAny_pure ?_
      show wpAny _ _ (ret Value.none) _ _ _
      refine wpAny_pure ⟨rfl, h', tk', L, rfl, T, by omega, mm, fun b o e => ?_⟩
      have lt : b < s.heap.objs.size := Heap.lt_size e
      refine m.heap b o ?_ (Heap.get?_push_of_some _ (Heap.get?_push_of_some _ e))
      simp only [List.mem_cons, List.not_mem_nil, or_false, not_or]
      exact ⟨Nat.ne_of_lt lt, by rw [sz]; exact Nat.ne_of_lt (Nat.lt_succ_of_lt lt)⟩
    · match r₂ with
      | .error e => exact hr₂
      | .ok (.ret r) =>
        obtain ⟨rfl, h', tk, L, rfl, T, ln, mm, kp⟩ := hr₂
        repeat (any_goals (first | assumption | wp_step))
        exact fin _ _ _ T ln mm kp
      | .ok .next => exact hr₂.elim
      | .ok .brk => exact hr₂.elim
      | .ok .cont => exact hr₂.elim
  | .ok .next => exact hr.elim
  | .ok .brk => exact hr.elim
  | .ok .cont => exact hr.elim
end
section
variable {X : Cx}
/-- set(xs), xs a list of texts -/
def rSetT (K : PySem.W.Frag) (P : Program) (w : World) : List V → Hp → VK → Prop := fun vs H Q => ∃ (a : Addr) (zs : List Str), vs = [V.ref a] ∧ SqL K H a (zs.map V.str) ∧ zs.length + 1 < scanBound ∧ ∀ (p : Addr) (L : List Str), H p = none → L.length ≤ zs.length → L.Nodup → (∀ x, x ∈ L ↔ x ∈ zs) → Q (.ref p) (upd H p (TSetO P w p L))
theorem call_setT (hc : X.calm = true) : CallR X (.type "set") (rSetT X.K X.prog X.w) := by
  intro pins s σ H vs us Q I r h
  obtain ⟨a, zs, rfl, hs, few, q⟩ := h
  obtain ⟨its, rv, hl, _⟩ := I.list hs
  rw [Vals.ref1 r]
  refine tset_of_list zs (I.ok.hd hc) hl.isList (by simpa using rv.strs) few fun h' tk L T ln mm kp => ?_
  have nd : L.Nodup := by
    obtain ⟨_, _, _, _, _, _, _, tab⟩ := T
    exact tab.once
  exact ⟨.ref s.heap.objs.size, _, I.laid (t' := tk) kp (Nat.le_refl _) T.ok, rfl, q _ L (I.hok.fresh (Nat.le_refl _)) ln nd mm⟩
/-- len of one -/
theorem call_lenT : CallR X (.builtin "len") (fun xs H Q => ∃ (a : Addr) (L : List Str), xs = [.ref a] ∧ H a = some (TSetO X.prog X.w a L) ∧ L.length < 64 ∧ Q (.int L.length) H) := by
  intro pins s σ H xs us Q I r h
  obtain ⟨a, L, rfl, ha, few, q⟩ := h
  obtain ⟨u, rfl, ru⟩ := vals1 r
  cases ru
  obtain ⟨o, es, ep, t, ho, hex, hd, T⟩ := tset_of I ha
  have ln := T.len
  refine call_len_set ho hex hd T.fits (by omega) ?_
  refine ⟨.int L.length, H, I.kept (t' := s.toks + 1 + 1) fun _ _ e => e, ⟨s.toks + 1, ?_⟩, q⟩
  rw [ln]
end
end Fb
namespace Fb
open PySem PySem.Spec PyProof.Rows L2
section
variable {X : Cx}
/-- {elt for target in iter if ..}, elt a text -/
def tScT (P : Program) (w : World) (wi : TI) (g : TG) (tt : TT) (te : TE) (vs : List Nat) : TE := fun σ H Q => wi σ H fun J H1 => ∀ D, H1 D = none → ∃ W : Nat → Nat → Hp → Prop, (∃ m, W 0 m (upd H1 D (TSetO P w D []))) ∧ ∀ i m H, W i m H →
  (J.stop i H ∧ Q (.ref D) H) ∨ (J.go i H ∧ ∃ Nx : Hp → Prop, (∀ H', Nx H' → ∃ m', m' < m ∧ W (i + 1) m' H') ∧ ∀ x H', J.yld i H x H' → g x (wipe σ vs) H' fun σ2 H2 => wipe σ2 vs = wipe σ vs ∧ tt σ2 H2 fun b H3 =>
    if b = true then te σ2 H3 fun y H4 => ∃ (x : Str) (L : List Str), y = .str x ∧ H4 D = some (TSetO P w D L) ∧ L.length + 1 < scanBound ∧ Nx (upd H4 D (TSetO P w D (plusT L x))) else Nx H3)
theorem pe_scT {elt tg iter : Expr} {ifs : List Expr} {scope : Scope} {own : List (Str × Nat)} {pos : Pos} {wi : TI} {g : TG} {tt : TT} {te : TE} (hu : X.A.units + 1 < cLine) (hc : X.calm = true) (hN : X.N.Nodup) (hi : PI X tg iter wi) (ok : BlkOk X.N X.env.scope scope own)
    (hg : ∀ (s : Shared) (H : Hp) (C : Addr) (cl : List (Str × Addr)) (fp : List Addr), PG (X.blk s H scope (compEnvC scope cl C X.env) fp) tg g)
    (ht : ∀ (s : Shared) (H : Hp) (C : Addr) (cl : List (Str × Addr)) (fp : List Addr), PTs (X.blk s H scope (compEnvC scope cl C X.env) fp) ifs tt)
    (he : ∀ (s : Shared) (H : Hp) (C : Addr) (cl : List (Str × Addr)) (fp : List Addr), PE (X.blk s H scope (compEnvC scope cl C X.env) fp) elt te)
    (hs : ∀ x, foldedSetIterable iter X.env x = pure x := by intro _; rfl) : PE X (.SetComp elt [⟨tg, iter, ifs, 0⟩] scope pos) (tScT X.prog X.w wi g tt te (own.map (·.2))) := by
  refine ⟨fun pins s σ H Q I h => ?_⟩
  rw [PpSet.eval_SetComp]
  have free : ∀ y ∈ scope.names, y.2 = .free → ∃ c, X.env.cells.lookup y.1 = some c := fun y hy e => (ok.free y hy e).elim (fun k => I.ok.has _ (.inl k)) fun k => I.ok.has _ (.inr k)
  refine wpAny_comprehension_free (use := none) rfl hs (closure_ok free) ok.kind (fun y hy e => by rw [ok.uniq y hy, e]) (thn (hi.run pins s σ H _ I h) fun xv s1 hx => thn hx fun itv s2 h2 => ?_)
  obtain ⟨it, fp, tn, J, H2, rfl, I2, T, st2, f2, q⟩ := h2
  refine PpSet.newSet_ok (newEnv_comp ?_)
  have nD : H2 s2.heap.objs.size = none := I2.hok.fresh (Nat.le_refl _)
  obtain ⟨W, ⟨m0, w0⟩, turn⟩ := q _ nD
  have I3 : Inv X pins σ (upd H2 s2.heap.objs.size (TSetO X.prog X.w s2.heap.objs.size [])) { s2 with heap := s2.heap.push { cls := .type "set", dict := none, data := .set #[] 0 (.fresh 0 0 (!X.w.params.followText "set-order")) } } :=
    I2.laid (t' := s2.toks) (fun b o e => Heap.get?_push_of_some _ e) (Nat.le_refl _) tset_new.ok
  have small : ∀ b ∈ fp, b < s2.heap.objs.size := fun b hb => (T.obj _ _ st2 b hb).elim fun o e => Heap.lt_size e.1
  have size3 : (s2.heap.push { cls := .type "set", dict := none, data := .set #[] 0 (.fresh 0 0 (!X.w.params.followText "set-order")) }).objs.size = s2.heap.objs.size + 1 := Heap.size_push ..
  have st3 : tn 0 (s2.heap.push { cls := .type "set", dict := none, data := .set #[] 0 (.fresh 0 0 (!X.w.params.followText "set-order")) }) := T.keep _ _ _ st2 fun b _ o e => Heap.get?_push_of_some _ e
  generalize hD : s2.heap.objs.size = D at *
  generalize hs3 : ({ s2 with heap := s2.heap.push { cls := .type "set", dict := none, data := .set #[] 0 (.fresh 0 0 (!X.w.params.followText "set-order")) } } : Shared) = s3 at *
  have h3 : s3.heap = s2.heap.push { cls := .type "set", dict := none, data := .set #[] 0 (.fresh 0 0 (!X.w.params.followText "set-order")) } := by rw [← hs3]
  have f3 : ∀ b ∈ fp, FpOk X pins (upd H2 D (TSetO X.prog X.w D [])) b ∧ b < s3.heap.objs.size := fun b hb => by
    have l := small b hb
    refine ⟨⟨?_, (f2 b hb).2⟩, by rw [h3, size3]; exact Nat.lt_succ_of_lt l⟩
    rw [upd_ne (Nat.ne_of_lt l)]
    exact (f2 b hb).1
  have I4 := block_start I3 ok hN f3
  have n0 : ∀ b ∈ fp, (upd H2 D (TSetO X.prog X.w D [])) b = none := fun b hb => (f3 b hb).1.1
  generalize hH3 : upd H2 D (TSetO X.prog X.w D []) = H3 at *
  have pg := hg s3 H3 s3.heap.objs.size (cellsFrom (s3.heap.objs.size + 1) scope.names (cloFrom X.env.cells scope.names [])) fp
  have pt := ht s3 H3 s3.heap.objs.size (cellsFrom (s3.heap.objs.size + 1) scope.names (cloFrom X.env.cells scope.names [])) fp
  have pe := he s3 H3 s3.heap.objs.size (cellsFrom (s3.heap.objs.size + 1) scope.names (cloFrom X.env.cells scope.names [])) fp
  have top : (compEnvC scope (cellsFrom (s3.heap.objs.size + 1) scope.names (cloFrom X.env.cells scope.names [])) s3.heap.objs.size X.env).locals = s3.heap.objs.size := rfl
  show codeAny _ _ (.compStart (.SetComp elt [⟨tg, iter, ifs, 0⟩] scope pos) 0 (.ref it) (.ref D) (compEnvC scope (cellsFrom (s3.heap.objs.size + 1) scope.names (cloFrom X.env.cells scope.names [])) s3.heap.objs.size X.env)) _ { s3 with heap := pushCells (s3.heap.push { cls := .type "dict", data := .dict #[] }) scope.names }
  generalize compEnvC scope (cellsFrom (s3.heap.objs.size + 1) scope.names (cloFrom X.env.cells scope.names [])) s3.heap.objs.size X.env = ce at I4 pg pt pe top ⊢
  have st4 : tn 0 ({ s3 with heap := pushCells (s3.heap.push { cls := .type "dict", data := .dict #[] }) scope.names } : Shared).heap := T.keep _ _ _ (h3 ▸ st3) fun b _ o e => pushCells_keeps _ _ _ _ (Heap.get?_push_of_some _ e)
  generalize ({ s3 with heap := pushCells (s3.heap.push { cls := .type "dict", data := .dict #[] }) scope.names } : Shared) = s4 at I4 st4 ⊢
  have fps : ∀ {σ' : L2.St} {H' : Hp} {s' : Shared}, Inv (X.blk s3 H3 scope ce fp) [] σ' H' s' → (∀ b ∈ fp, H' b = none) → ∀ b ∈ fp, FpOk (X.blk s3 H3 scope ce fp) [] H' b := fun {σ' H' s'} I' hn b hb =>
    ⟨hn b hb, (I'.ok.exf b hb).1, I'.ok.exfs b hb, .inl hb, fun x c e => (I'.ok.exf b hb).2 x c e, fun p hp => absurd (show p ∈ ([] : List (Addr × Obj)) ++ [] from hp) (by simp)⟩
  have loop : codeAny (model X.prog X.w) X.A (.compLoop (.SetComp elt [⟨tg, iter, ifs, 0⟩] scope pos) 0 (.ref it) (.ref D) ce) (compPost (model X.prog X.w) X.A X.xe none (EP X pins σ Q) (.ref D) s3.heap.objs.size) s4 := by
    refine PpSet.compLoopS_any (fun n s' => ∃ i H', Inv (X.blk s3 H3 scope ce fp) [] (wipe σ (own.map (·.2))) H' s' ∧ tn i s'.heap ∧ (∀ b ∈ fp, H' b = none) ∧ W i n H') ?_ m0 ⟨0, H3, I4, st4, n0, w0⟩
    rintro n s5 ⟨i, H5, I5, st5, n5, w5⟩
    rcases turn i n H5 w5 with ⟨stop, fin⟩ | ⟨go, Nx, next, step⟩
    · refine thnF (T.done (X.blk s3 H3 scope ce fp) rfl rfl rfl hc i [] s5 _ H5 (fun _ _ => False) I5 (fps I5 n5) st5 stop) fun r s6 ⟨hr, I6⟩ => ?_
      subst hr
      have I7 : Inv X pins σ H5 s6 := I3.call' (ch := fp) I6.os I6.base I6.hok I6.bare fun b hb => let f := (f3 b hb).1; ⟨f.2.2.2.1, f.2.1, f.2.2.2.2.1, f.2.2.2.2.2⟩
      have nC : H5 s3.heap.objs.size = none := by
        have := (show H5 ce.locals = none from I6.free)
        rwa [top] at this
      obtain ⟨m, hn, _⟩ := I6.loc
      have hn : s6.heap.Ns s3.heap.objs.size m := by
        have := (show s6.heap.Ns ce.locals m from hn)
        rwa [top] at this
      obtain ⟨g0, g1, g2, g3, g4, g5⟩ := I3.fpOk (Nat.le_refl _) nC
      exact ⟨m, hn, fun h'' sb => ⟨.ref D, H5, I7.turned (t' := s6.toks) (fun b o hb e => (sb.2 b hb).trans e) g0 g1 g3 g4 g5, rfl, fin⟩⟩
    · refine thnF (T.item (X.blk s3 H3 scope ce fp) rfl rfl rfl hc i [] s5 _ H5 (fun _ _ => False) I5 (fps I5 n5) st5 go) fun r s6 ⟨u, hr, h6⟩ => ?_
      subst hr
      refine thnF h6 fun _ s7 ⟨x, H7, I7, r7, y7, st7, n7⟩ => ?_
      refine thnF (pg.run _ s7 _ H7 x u _ (I7.pinned (fps I7 n7) (T.obj _ _ st7)) r7 (step x H7 y7)) fun _ s8 ⟨σ8, H8, I8, hw8, q8⟩ => ?_
      refine thnF (pt.run _ s8 σ8 H8 _ I8 q8) fun b s9 ⟨H9, I9, q9⟩ => ?_
      have on : ∀ {s' : Shared} {H' : Hp}, Inv (X.blk s3 H3 scope ce fp) ([] ++ pinsAt fp s7.heap) σ8 H' s' → Nx H' → ∃ m, m < n ∧ ∃ i H', Inv (X.blk s3 H3 scope ce fp) [] (wipe σ (own.map (·.2))) H' s' ∧ tn i s'.heap ∧ (∀ b ∈ fp, H' b = none) ∧ W i m H' := fun {s' H'} I' nx => by
        obtain ⟨m', hm, w'⟩ := next H' nx
        have pin : ∀ b ∈ fp, ∀ o, s7.heap.get? b = some o → s'.heap.get? b = some o ∧ H' b = none := fun b hb o e =>
          let z := I'.pin (b, o) (List.mem_append_right _ (List.mem_append_right _ (mem_pinsAt hb e)))
          ⟨z.1, z.2.1⟩
        refine ⟨m', hm, i + 1, H', (I'.unpinned (pins := [])).weak (by rw [← hw8, wipe_length]) (fun j v e => ?_), T.keep _ _ _ st7 fun b hb o e => (pin b hb o e).1, fun b hb => ?_, w'⟩
        · rw [← hw8] at e
          exact (wipe_some e).1
        · obtain ⟨o, e, _⟩ := T.obj _ _ st7 b hb
          exact (pin b hb o e).2
      cases b with
      | false =>
        simp only [Bool.false_eq_true, if_false] at q9 ⊢
        exact on I9 q9
      | true =>
        simp only [if_true] at q9 ⊢
        refine thnF (pe.run _ s9 σ8 H9 _ I9 q9) fun z s10 ⟨yv, H10, I10, r10, k, L, ey, eD, few, nx⟩ => ?_
        subst ey
        obtain ⟨tk, rfl⟩ := r10
        exact tset_put (X := X.blk s3 H3 scope ce fp) I10 eD few fun s11 I11 => on I11 (nx)
  exact PpSet.codeAny_compStart_set loop (T.self X.A 0 _ _ _ st4 loop)
theorem plusT_nd {L : List Str} {x : Str} (h : L.Nodup) : (plusT L x).Nodup := by
  unfold plusT
  by_cases c : x ∈ L
  · rw [if_pos c]; exact h
  · rw [if_neg c]; exact List.nodup_cons.mpr ⟨c, h⟩
theorem plusT_mem {L : List Str} {x y : Str} : y ∈ plusT L x ↔ y = x ∨ y ∈ L := by
  unfold plusT
  by_cases c : x ∈ L
  · rw [if_pos c]
    exact ⟨.inr, fun h => h.elim (fun e => e ▸ c) id⟩
  · rw [if_neg c, List.mem_cons]
theorem plusT_len (L : List Str) (x : Str) : (plusT L x).length ≤ L.length + 1 := by
  unfold plusT
  by_cases c : x ∈ L
  · rw [if_pos c]; omega
  · rw [if_neg c]; exact Nat.le_refl _
/-- {f(x) for x in ..}, f a text: all that there are, each once -/
theorem scT_all {P : Program} {w : World} {J : It} {n : Nat} {G : Hp → Prop} {Y : Nat → Hp → V → Hp → Prop} (wk : Walk J n G Y) {g : TG} {te : TE} {vs : List Nat} {σ : L2.St} {H1 : Hp} {D : Addr} {Qd : Hp → Prop} (f : Nat → Str) (hD : H1 D = none) (hS : ∀ H, Same H1 H → G H) (hn : n < 63)
    (hs : ∀ i x H H' (k : V → Hp → Prop), i < n → Same H1 (hid D H) → (∃ L, H D = some (TSetO P w D L)) → Y i H x H' → (∀ H4, Same H H4 → k (.str (f i)) H4) → g x (wipe σ vs) H' fun σ2 H2 => wipe σ2 vs = wipe σ vs ∧ te σ2 H2 k)
    (hd : ∀ H (L : List Str), Same H1 (hid D H) → H D = some (TSetO P w D L) → L.Nodup → (∀ x, x ∈ L ↔ ∃ i, i < n ∧ f i = x) → L.length ≤ n → Qd H) :
    ∃ W : Nat → Nat → Hp → Prop, (∃ m, W 0 m (upd H1 D (TSetO P w D []))) ∧ ∀ i m H, W i m H →
      (J.stop i H ∧ Qd H) ∨ (J.go i H ∧ ∃ Nx : Hp → Prop, (∀ H', Nx H' → ∃ m', m' < m ∧ W (i + 1) m' H') ∧ ∀ x H', J.yld i H x H' → g x (wipe σ vs) H' fun σ2 H2 => wipe σ2 vs = wipe σ vs ∧ tYes σ2 H2 fun b H3 =>
        if b = true then te σ2 H3 fun y H4 => ∃ (x : Str) (L : List Str), y = .str x ∧ H4 D = some (TSetO P w D L) ∧ L.length + 1 < scanBound ∧ Nx (upd H4 D (TSetO P w D (plusT L x))) else Nx H3) := by
  let Pv : Nat → Hp → Prop := fun i H => ∃ L : List Str, Same H1 (hid D H) ∧ H D = some (TSetO P w D L) ∧ L.length ≤ i ∧ L.Nodup ∧ ∀ x, x ∈ L ↔ ∃ j, j < i ∧ f j = x
  have start : Pv 0 (upd H1 D (TSetO P w D [])) := by
    refine ⟨[], fun b o eb => ?_, upd_same, Nat.le_refl _, List.nodup_nil, fun k => ⟨fun h => (by cases h), fun ⟨j, hj, _⟩ => absurd hj (Nat.not_lt_zero _)⟩⟩
    rw [hid_ne (ne_of_none eb hD), upd_ne (ne_of_none eb hD)]
    exact eb
  refine ⟨fun i m H => m = n - i ∧ i ≤ n ∧ Pv i H, ⟨n, by simp, Nat.zero_le _, start⟩, ?_⟩
  rintro i m H ⟨rfl, hi, pv⟩
  obtain ⟨L, sL, eL, lL, nL, kL⟩ := id pv
  have sH : Same H1 H := sL.trans hid_same
  have hG := hS H sH
  have sb : (63 : Nat) < scanBound := by decide
  by_cases hlt : i < n
  · refine .inr ⟨wk.goes i H hlt hG, Pv (i + 1), fun H' p' => ⟨n - (i + 1), by omega, rfl, hlt, p'⟩, fun x H' y => ?_⟩
    refine hs i x H H' (fun y H4 => ∃ (x : Str) (L : List Str), y = .str x ∧ H4 D = some (TSetO P w D L) ∧ L.length + 1 < scanBound ∧ Pv (i + 1) (upd H4 D (TSetO P w D (plusT L x)))) hlt sL ⟨L, eL⟩ (wk.yields i H x H' hlt hG y) fun H4 s4 => ?_
    refine ⟨f i, L, rfl, s4 _ _ eL, by omega, plusT L (f i), ?_, upd_same, by have := plusT_len L (f i); omega, plusT_nd nL, fun k => ?_⟩
    · rw [hid_upd]
      exact sL.trans (hid_mono s4)
    · rw [plusT_mem, kL]
      constructor
      · rintro (rfl | ⟨j, hj, e⟩)
        · exact ⟨i, by omega, rfl⟩
        · exact ⟨j, by omega, e⟩
      · rintro ⟨j, hj, e⟩
        by_cases c : j < i
        · exact .inr ⟨j, c, e⟩
        · have : j = i := by omega
          subst this
          exact .inl e.symm
  · have e : i = n := by omega
    subst e
    exact .inl ⟨wk.stops H hG, hd H L sL eL nL kL lL⟩
end
end Fb
namespace Fb
open PySem PySem.Spec PySem.Calls PySem.W PyProof.Rows L2
theorem perm_back {α β : Type} {f : α → β} : ∀ {l : List α} {bs : List β}, (l.map f).Perm bs → ∃ l' : List α, l'.Perm l ∧ bs = l'.map f
  | [], bs, h => ⟨[], .nil, by simpa using h.symm.eq_nil⟩
  | x :: l, bs, h => by
    have hm : f x ∈ bs := h.mem_iff.mp (by simp)
    obtain ⟨u, v, rfl⟩ := List.append_of_mem hm
    have h2 : (l.map f).Perm (u ++ v) := by
      have := h.trans (List.perm_middle (a := f x) (l₁ := u) (l₂ := v))
      rw [List.map_cons] at this
      exact this.cons_inv
    obtain ⟨l', p, e⟩ := perm_back h2
    refine ⟨l'.take u.length ++ x :: l'.drop u.length, ?_, ?_⟩
    · refine List.perm_middle.trans ?_
      rw [List.take_append_drop]
      exact p.cons x
    · have e1 : (l'.take u.length).map f = u := by rw [List.map_take, ← e, List.take_left]
      have e2 : (l'.drop u.length).map f = v := by rw [List.map_drop, ← e, List.drop_left]
      rw [List.map_append, List.map_cons, e1, e2]
end Fb
namespace Fb
open PySem PySem.Spec PyProof.Rows L2
/-- a promise that is held where no repr is under way -/
structure FnOkG (P : Program) (w : World) (K : PySem.W.Frag) (mg : Str → Option Value) (base : Heap) (CX : CXT) (k : Nat) (f : Addr) (fd : FuncData) (ps : List Str) (sp : Sp) : Prop where
  ln : ∀ vs H Q E, sp vs H Q E → vs.length = ps.length
  go : ∀ (A : Around) (outer : List Env) (s : Shared) (H : Hp) (args : Args) (us : List Value) (vs : List V) (Q : VK) (E : XK), A.guards = some [] ∧ Room k A ∧ Env0 P w K mg base A outer s H ∧ BindsTo s fd args (ps.zip us) ∧ Vals vs us ∧ sp vs H Q E →
    codeAny (model P w) A (.call (.ref f) args) (CR CX outer P w H s Q E) s
section
variable {P : Program} {w : World} {K : PySem.W.Frag} {mg : Str → Option Value} {base : Heap}
theorem env0_in {A : Around} {outer : List Env} {s : Shared} {H : Hp} (e : Env0 P w K mg base A outer s H) : K.In s.heap ∧ s.heap.NoLimit :=
  have up : ∀ b o, base.get? b = some o → s.heap.get? b = some o := fun b o h => (e.bs b o h).1
  ⟨e.mod.kin.keeps up, e.mod.nolimit.keeps up⟩
/-- how a body ends, as its call's end -/
theorem body_end {CX : CXT} {N : List Str} {qual : Str} {scope : Scope} {f : Addr} {cdv : Value} {A : Around} {outer : List Env} {s s' : Shared} {H : Hp} {E : XK} {Q : VK} {σ : L2.St} {H' : Hp} {v : V} {u : Value}
    (I : Inv (cxOf CX P w K mg base N qual scope f cdv A outer s H E) [] σ H' s') (r : RelV v u) (q : Q v H') : CE outer P w H s Q u s' := ⟨v, H', I.os, I.bare, I.base, I.hok, r, q⟩
/-- a def by its body, where no repr is under way -/
theorem Fun.okG {x qual : Str} {st : Stmt} {f : Addr} {fd : FuncData} {N ps : List Str} {k : Nat} {sp : Sp} (F : Fun K x qual st f fd) (S : FnScope N ps (defScope st)) (ln : ∀ vs H Q E, sp vs H Q E → vs.length = ps.length)
    (body : ∀ (cdv : Value) (A : Around) (outer : List Env) (s : Shared) (H : Hp) (vs : List V) (Q : VK) (E : XK), A.guards = some [] → Room k (A.deeper (envOfC qual (defScope st) s.heap.objs.size f cdv)) → sp vs H Q E →
      ∃ t, PSs (cxOf CX0 P w K mg base N qual (defScope st) f cdv A outer s H E).nox (defBody st) t ∧ t { nx := fun _ H2 => Q .non H2, rt := Q } (start N vs) H) : FnOkG P w K mg base CX0 (k + 1) f fd ps sp where
  ln := ln
  go := by
    rintro A outer s H args us vs Q E ⟨gd, hr, e0, hb, rv, hsp⟩
    obtain ⟨oc, od, kV, doc, pm, an, cdv, ct, osl, rfl, look, rec⟩ := F.ex
    obtain ⟨kin, lim⟩ := env0_in e0
    obtain ⟨t, pss, reads⟩ := body cdv A outer s H vs Q E gd (hr.deeper _) hsp
    have pss := pss.nox
    have par : ∀ y ∈ ps.zip us, (defScope st).names.lookup y.1 = some .local ∨ ((defScope st).names.lookup y.1 = some .cell ∧ ((cellsFrom (s.heap.objs.size + 1) (defScope st).names []).lookup y.1).isSome = true) := by
      intro y hy
      obtain ⟨n, v⟩ := y
      have hn := S.par n (List.of_mem_zip hy).1
      exact hn.imp id fun c => ⟨c, PySem.W.cellsFrom_some _ _ _ (Or.inl c)⟩
    apply codeAny_call_function hr.depth (kin _ _ look) rfl S.co S.gen rfl (PySem.W.codeRec_of kin rec)
    apply hb
    apply wpAny_newFunctionEnv_cells S.kind par
    rintro env rfl s1 inn
    constructor
    · exact lim.keeps inn.toInCall.keep
    apply codeAny_func
    have I0 := inv_start (CX := CX0) (P := P) (w := w) (K := K) (mg := mg) (base := base) (E := E) S hr.hd e0 (ln _ _ _ _ hsp) rv inn
    apply wpAny_mono (pss.run [] s1 (start N vs) H _ I0 reads)
    · intro fl s2 hfl
      match fl, hfl with
      | .ret u, ⟨v, σ2, H2, I2, r2, q2⟩ => exact body_end I2 r2 q2
      | .next, ⟨σ2, H2, I2, q2⟩ => exact body_end (v := .non) (u := .none) I2 rfl q2
      | .brk, ⟨_, _, _, no⟩ => exact no.elim
      | .cont, ⟨_, _, _, no⟩ => exact no.elim
    · exact fun _ _ h => h
end
section
variable {X : Cx} {CX : CXT} {k : Nat} {f : Addr} {fd : FuncData} {ps : List Str} {sp : Sp} {dvs : List V} {ds : List Value} {E : XK} {x : Str} {p pos : Pos} {e : Expr} {es : List Expr} {t : TA}
/-- f(..) of such a def -/
theorem pe_callG (F : FnOkG X.prog X.w X.K X.mg X.base CX k f fd ps sp) (gd : X.A.guards = some []) (hr : Room k X.A) (gl : Gl X x) (gm : X.mg x = some (.ref f)) (kp : PySem.W.keepIn X.K (.ref f) = true) (hb : Binds X.K fd ps ds) (hd : Vals dvs ds) (ex : Passes CX X E)
    (args : PA X (e :: es) t) (hdb : (x == ("__debug__" : Str)) = false := by decide) (he : starEach (e :: es) X.env = (false, eval e X.env) :: starEach es X.env := by rfl) (hpl : (backTo pos (starEach es X.env)).any (·.1) = false := by rfl) :
    PE X (.Call (.Name x p) (e :: es) [] pos) (tCall sp dvs E t) := by
  constructor
  intro pins s σ H Q I reads
  apply wpAny_Call_Name_kw (ld_glob I gl gm ?_ hdb)
  apply PySem.W.callWith_K (h₀ := X.base) I.ok.mod.kin kp ?_ he hpl
  refine thn (args.run pos pins s σ H _ I reads) ?_
  rintro us s1 ⟨vs, H1, I1, r1, q1⟩
  have both : Vals (vs ++ dvs) (us ++ ds) := r1.append hd
  have many : (us ++ ds).length = ps.length := both.length ▸ F.ln _ _ _ _ q1
  refine ⟨I1.kIn, wpAny_call (codeAny_mono (F.go X.A X.stack s1 H1 ⟨us, []⟩ (us ++ ds) (vs ++ dvs) Q E ⟨gd, hr, I1.env0, hb s1 us I1.kIn many, both, q1⟩) ?_)⟩
  intro r s2 end'
  match r, end' with
  | .error e, end' => exact ex pins σ H1 s1 e s2 I1 end'
  | .ok (.ret u), end' => exact I1.after end'
end
section
variable {X : Cx}
/-- repr(x), x data of lists, tuples and single things, or a dict without keys -/
def rRepr (K : PySem.W.Frag) : List V → Hp → VK → Prop := fun xs H Q => ∃ v, xs = [v] ∧ ((∃ d, Dp K H v d ∧ d.showable = true ∧ d.hasDict = false ∧ d.depth ≤ 60 ∧ d.shown.length ≤ sizeLine ∧ Q (.str d.shown) H) ∨ (∃ p, v = .ref p ∧ H p = some (.dK []) ∧ Q (.str (PyData.dict []).shown) H))
theorem call_repr (gd : X.A.guards = some []) (hu : X.A.units + 64 < cLine) : CallR X (.builtin "repr") (rRepr X.K) := by
  intro pins s σ H xs us Q I r h
  obtain ⟨v, rfl, h⟩ := h
  obtain ⟨u, rfl, ru⟩ := vals1 r
  rcases h with ⟨d, hd, sh, nd, dp, sz, q⟩ | ⟨p, rfl, hp, q⟩
  · obtain ⟨as, rd⟩ := Dp.reads I d v u hd ru
    have after : ∀ (h' : Heap) (tk : Tok) (t : Nat), (∀ b o, s.heap.get? b = some o → h'.get? b = some o) → EP X pins σ Q (.str d.shown tk) { s with heap := h', toks := t } := fun h' tk t kp => ⟨.str d.shown, H, I.kept kp, ⟨tk, rfl⟩, q⟩
    have ref : ∀ a, u = .ref a → wpAny (model X.prog X.w) X.A (call (.builtin "repr") [u]) (EP X pins σ Q) X.xe s := by
      rintro a rfl
      exact repr_of_reads' rd sh (fun c => by rw [nd] at c; cases c) gd (by omega) (fun _ _ e => e) (fun h' tk t kp => after h' tk t kp) sz
    cases rd with
    | none => exact PySem.P.repr_of_none (by simpa only [PyData.shown] using after s.heap s.toks (s.toks + 1) fun _ _ e => e)
    | bool b => exact PySem.P.repr_of_bool (by simpa only [PyData.shown] using after s.heap s.toks (s.toks + 1) fun _ _ e => e)
    | int i t => exact PySem.P.repr_of_int (by simpa [PyData.showable] using sh) (by simpa only [PyData.shown] using after s.heap s.toks (s.toks + 1) fun _ _ e => e)
    | str x t => exact PySem.P.repr_of_str (by simpa only [PyData.shown] using after s.heap s.toks (s.toks + 1) fun _ _ e => e) (by simpa only [PyData.shown] using sz)
    | list _ _ _ _ => exact ref _ rfl
    | tuple _ _ _ _ => exact ref _ rfl
    | dict _ _ _ _ _ => exact ref _ rfl
  · cases ru
    obtain ⟨_, ns, vs, kv, o, es, ep, ho, ex, dt, _, prs, _⟩ := I.hok p _ hp
    cases kv
    have e0 : es.toList = [] := by
      cases h0 : es.toList with
      | nil => rfl
      | cons a l =>
        rw [h0] at prs
        cases prs
    have rd : Reads s.heap (.ref p) (.dict []) (p :: [] ++ []) := .dict ho ex.1 dt (by rw [e0]; exact .nil) (by rw [e0]; exact .nil)
    refine repr_of_reads' rd (by rfl) (fun _ c => ?_) gd (by simp [PyData.depth, PyData.depthKv]; omega) (fun _ _ e => e) (fun h' tk t kp => ⟨.str _, H, I.kept kp, ⟨tk, rfl⟩, q⟩) (by decide +kernel)
    have : sysModules = p := by simpa using c
    rw [← this] at ns
    exact absurd ns (by decide)
end
end Fb
namespace Fb
open PySem PySem.Spec PyProof.Rows L2
def topS (i : Nat) : Stmt := PySem.Challenge.pw_farbetween_k68_signs_left_and_renamed.main.body.getD i (.Pass ⟨0, 0, 0, 0⟩)
abbrev s_m_NoMachine_init : Stmt := inClass (topS 2) 0
abbrev s_m_NoSign_init : Stmt := inClass (topS 3) 0
theorem sc_m_NoSign_init : FnScope ["self", "sign"] ["self", "sign"] (defScope s_m_NoSign_init) := ⟨rfl, rfl, rfl, by decide +kernel, rfl, by decide +kernel, by decide +kernel⟩
abbrev s_p_is_whole : Stmt := topS 7
theorem sc_p_is_whole : FnScope ["thing"] ["thing"] (defScope s_p_is_whole) := ⟨rfl, rfl, rfl, by decide +kernel, rfl, by decide +kernel, by decide +kernel⟩
abbrev s_p_is_name : Stmt := topS 8
theorem sc_p_is_name : FnScope ["thing", "letter"] ["thing"] (defScope s_p_is_name) := ⟨rfl, rfl, rfl, by decide +kernel, rfl, by decide +kernel, by decide +kernel⟩
abbrev s_p_common_part : Stmt := topS 10
theorem sc_p_common_part : FnScope ["one", "other"] ["one", "other"] (defScope s_p_common_part) := ⟨rfl, rfl, rfl, by decide +kernel, rfl, by decide +kernel, by decide +kernel⟩
abbrev s_m_Machine_init : Stmt := inClass (topS 13) 0
theorem sc_m_Machine_init : FnScope ["self", "many", "steps", "room", "sign", "weights"] ["self", "many", "steps"] (defScope s_m_Machine_init) := ⟨rfl, rfl, rfl, by decide +kernel, rfl, by decide +kernel, by decide +kernel⟩
abbrev s_m_Machine_eq : Stmt := inClass (topS 13) 1
abbrev s_m_Machine_len : Stmt := inClass (topS 13) 2
abbrev s_p_is_room : Stmt := topS 14
theorem sc_p_is_room : FnScope ["thing", "many"] ["thing", "many"] (defScope s_p_is_room) := ⟨rfl, rfl, rfl, by decide +kernel, rfl, by decide +kernel, by decide +kernel⟩
abbrev s_p_are_weights : Stmt := topS 15
theorem sc_p_are_weights : FnScope ["thing", "many", "weight"] ["thing", "many"] (defScope s_p_are_weights) := ⟨rfl, rfl, rfl, by decide +kernel, rfl, by decide +kernel, by decide +kernel⟩
abbrev s_p_is_step : Stmt := topS 16
theorem sc_p_is_step : FnScope ["thing", "many", "room", "sign", "weights"] ["thing", "many"] (defScope s_p_is_step) := ⟨rfl, rfl, rfl, by decide +kernel, rfl, by decide +kernel, by decide +kernel⟩
abbrev s_p_are_steps : Stmt := topS 17
theorem sc_p_are_steps : FnScope ["thing", "many", "step", "room", "sign", "weights"] ["thing", "many"] (defScope s_p_are_steps) := ⟨rfl, rfl, rfl, by decide +kernel, rfl, by decide +kernel, by decide +kernel⟩
abbrev s_p_lowest : Stmt := topS 18
theorem sc_p_lowest : FnScope ["weights", "common", "weight"] ["weights"] (defScope s_p_lowest) := ⟨rfl, rfl, rfl, by decide +kernel, rfl, by decide +kernel, by decide +kernel⟩
abbrev s_p_found_rooms : Stmt := topS 19
theorem sc_p_found_rooms : FnScope ["machine", "found", "at", "room", "sign", "weights", "to", "weight"] ["machine"] (defScope s_p_found_rooms) := ⟨rfl, rfl, rfl, by decide +kernel, rfl, by decide +kernel, by decide +kernel⟩
abbrev s_p_append_new : Stmt := topS 20
theorem sc_p_append_new : FnScope ["found", "rooms", "room"] ["found", "rooms"] (defScope s_p_append_new) := ⟨rfl, rfl, rfl, by decide +kernel, rfl, by decide +kernel, by decide +kernel⟩
abbrev s_p_trimmed : Stmt := topS 21
theorem sc_p_trimmed : FnScope ["machine", "found", "numbers", "steps", "at", "room", "sign", "weights", "to"] ["machine"] (defScope s_p_trimmed) := ⟨rfl, rfl, rfl, by decide +kernel, rfl, by decide +kernel, by decide +kernel⟩
abbrev s_p_are_unlike : Stmt := topS 23
theorem sc_p_are_unlike : FnScope ["names", "name"] ["names"] (defScope s_p_are_unlike) := ⟨rfl, rfl, rfl, by decide +kernel, rfl, by decide +kernel, by decide +kernel⟩
abbrev s_p_are_signs : Stmt := topS 24
theorem sc_p_are_signs : FnScope ["thing", "sign"] ["thing"] (defScope s_p_are_signs) := ⟨rfl, rfl, rfl, by decide +kernel, rfl, by decide +kernel, by decide +kernel⟩
abbrev s_p_is_pair : Stmt := topS 25
theorem sc_p_is_pair : FnScope ["thing"] ["thing"] (defScope s_p_is_pair) := ⟨rfl, rfl, rfl, by decide +kernel, rfl, by decide +kernel, by decide +kernel⟩
abbrev s_p_are_pairs : Stmt := topS 26
theorem sc_p_are_pairs : FnScope ["thing", "pair", "elder", "newer"] ["thing"] (defScope s_p_are_pairs) := ⟨rfl, rfl, rfl, by decide +kernel, rfl, by decide +kernel, by decide +kernel⟩
abbrev s_p_check_signs : Stmt := topS 27
theorem sc_p_check_signs : FnScope ["thing"] ["thing"] (defScope s_p_check_signs) := ⟨rfl, rfl, rfl, by decide +kernel, rfl, by decide +kernel, by decide +kernel⟩
abbrev s_p_only : Stmt := topS 28
theorem sc_p_only : FnScope ["signs", "machine", "step"] ["signs", "machine"] (defScope s_p_only) := ⟨rfl, rfl, rfl, by decide +kernel, rfl, by decide +kernel, by decide +kernel⟩
abbrev s_p_rename : Stmt := topS 29
theorem sc_p_rename : FnScope ["pairs", "machine", "newer", "signs", "steps", "elder", "name", "room", "sign", "weights"] ["pairs", "machine"] (defScope s_p_rename) := ⟨rfl, rfl, rfl, by decide +kernel, rfl, by decide +kernel, by decide +kernel⟩
abbrev s_l_well : Stmt := topS 32
theorem sc_l_well : FnScope ["_law_cell"] ["_law_cell"] (defScope s_l_well) := ⟨rfl, rfl, rfl, by decide +kernel, rfl, by decide +kernel, by decide +kernel⟩
abbrev s_l_draw : Stmt := topS 33
theorem sc_l_draw : FnScope ["_law_well_here", "_law_many", "_law_digit", "_law_prime", "_law_number"] ["_law_well_here", "_law_many"] (defScope s_l_draw) := ⟨rfl, rfl, rfl, by decide +kernel, rfl, by decide +kernel, by decide +kernel⟩
abbrev s_l_one : Stmt := topS 34
theorem sc_l_one : FnScope ["_law_well_here", "_law_some"] ["_law_well_here", "_law_some"] (defScope s_l_one) := ⟨rfl, rfl, rfl, by decide +kernel, rfl, by decide +kernel, by decide +kernel⟩
abbrev s_l_names : Stmt := topS 35
theorem sc_l_names : FnScope ["_law_well_here", "_law_many", "_law_some", "_law_at", "_law_found", "_law_last", "_law_word", "_law_k"] ["_law_well_here", "_law_many"] (defScope s_l_names) := ⟨rfl, rfl, rfl, by decide +kernel, rfl, by decide +kernel, by decide +kernel⟩
abbrev s_l_weights : Stmt := topS 36
theorem sc_l_weights : FnScope ["_law_well_here", "_law_many", "_law_way", "_law_found", "_law_k", "_law_at", "_law_room"] ["_law_well_here", "_law_many"] (defScope s_l_weights) := ⟨rfl, rfl, rfl, by decide +kernel, rfl, by decide +kernel, by decide +kernel⟩
abbrev s_l_machine : Stmt := topS 37
theorem sc_l_machine : FnScope ["_law_well_here", "_law_signs", "_law_most", "_law_many", "_law_way", "_law_bare", "_law_few", "_law_steps", "_law_room", "_law_at", "_law_sign"] ["_law_well_here", "_law_signs", "_law_most"] (defScope s_l_machine) := ⟨rfl, rfl, rfl, by decide +kernel, rfl, by decide +kernel, by decide +kernel⟩
abbrev s_l_divided : Stmt := topS 38
theorem sc_l_divided : FnScope ["_law_weights_here", "_law_by", "_law_weight", "_law_one_here", "_law_other"] ["_law_weights_here"] (defScope s_l_divided) := ⟨rfl, rfl, rfl, by decide +kernel, rfl, by decide +kernel, by decide +kernel⟩
abbrev s_l_due : Stmt := topS 39
theorem sc_l_due : FnScope ["_law_steps", "_law_order", "_law_told", "_law_at", "_law_room", "_law_sign", "_law_weights_here", "_law_found", "_law_to", "_law_weight"] ["_law_steps"] (defScope s_l_due) := ⟨rfl, rfl, rfl, by decide +kernel, rfl, by decide +kernel, by decide +kernel⟩
abbrev s_l_said : Stmt := topS 40
theorem sc_l_said : FnScope ["_law_deed", "_law_found", "e"] ["_law_deed"] (defScope s_l_said) := ⟨rfl, rfl, rfl, by decide +kernel, rfl, by decide +kernel, by decide +kernel⟩
abbrev s_l_pairs : Stmt := topS 41
theorem sc_l_pairs : FnScope ["_law_well_here", "_law_signs", "_law_others", "_law_elder", "_law_way", "_law_newer", "_law_pool", "_law_pairs_here", "_law_sign", "_law_k"] ["_law_well_here", "_law_signs", "_law_others"] (defScope s_l_pairs) := ⟨rfl, rfl, rfl, by decide +kernel, rfl, by decide +kernel, by decide +kernel⟩
abbrev s_l_renamed : Stmt := topS 42
theorem sc_l_renamed : FnScope ["_law_pairs_here", "_law_steps", "_law_anew", "_law_used", "_law_called", "_law_room", "_law_sign", "_law_weights_here"] ["_law_pairs_here", "_law_steps"] (defScope s_l_renamed) := ⟨rfl, rfl, rfl, by decide +kernel, rfl, by decide +kernel, by decide +kernel⟩
abbrev s_l_right : Stmt := topS 43
theorem sc_l_right : FnScope ["_law_well_here", "_law_names_here", "_law_signs", "_law_others", "_law_many", "_law_steps", "_law_first", "_law_kept", "_law_some", "_law_pairs_here", "_law_handed", "_law_turn", "_law_sign", "_law_step"] ["_law_well_here"] (defScope s_l_right) := ⟨rfl, rfl, rfl, by decide +kernel, rfl, by decide +kernel, by decide +kernel⟩
abbrev s_law : Stmt := topS 44
theorem sc_law : FnScope ["_law_script", "_law_cell"] ["_law_script"] (defScope s_law) := ⟨rfl, rfl, rfl, by decide +kernel, rfl, by decide +kernel, by decide +kernel⟩
set_option maxHeartbeats 4000000 in
structure Txt (K : PySem.W.Frag) (mg : Str → Option Value) where
  c_FarError : Addr
  g_FarError : mg "FarError" = some (.ref c_FarError)
  c_NoMachine : Addr
  g_NoMachine : mg "NoMachine" = some (.ref c_NoMachine)
  c_NoSign : Addr
  g_NoSign : mg "NoSign" = some (.ref c_NoSign)
  c_Machine : Addr
  g_Machine : mg "Machine" = some (.ref c_Machine)
  f_m_NoMachine_init : Addr
  d_m_NoMachine_init : FuncData
  F_m_NoMachine_init : Fun K "__init__" "NoMachine.__init__" s_m_NoMachine_init f_m_NoMachine_init d_m_NoMachine_init
  b_m_NoMachine_init : Binds K d_m_NoMachine_init ["self", "part"] []
  f_m_NoSign_init : Addr
  d_m_NoSign_init : FuncData
  F_m_NoSign_init : Fun K "__init__" "NoSign.__init__" s_m_NoSign_init f_m_NoSign_init d_m_NoSign_init
  b_m_NoSign_init : Binds K d_m_NoSign_init ["self", "sign"] []
  f_p_is_whole : Addr
  d_p_is_whole : FuncData
  F_p_is_whole : Fun K "is_whole" "is_whole" s_p_is_whole f_p_is_whole d_p_is_whole
  b_p_is_whole : Binds K d_p_is_whole ["thing"] []
  g_p_is_whole : mg "is_whole" = some (.ref f_p_is_whole)
  f_p_is_name : Addr
  d_p_is_name : FuncData
  F_p_is_name : Fun K "is_name" "is_name" s_p_is_name f_p_is_name d_p_is_name
  b_p_is_name : Binds K d_p_is_name ["thing"] []
  g_p_is_name : mg "is_name" = some (.ref f_p_is_name)
  f_p_common_part : Addr
  d_p_common_part : FuncData
  F_p_common_part : Fun K "common_part" "common_part" s_p_common_part f_p_common_part d_p_common_part
  b_p_common_part : Binds K d_p_common_part ["one", "other"] []
  g_p_common_part : mg "common_part" = some (.ref f_p_common_part)
  f_m_Machine_init : Addr
  d_m_Machine_init : FuncData
  F_m_Machine_init : Fun K "__init__" "Machine.__init__" s_m_Machine_init f_m_Machine_init d_m_Machine_init
  b_m_Machine_init : Binds K d_m_Machine_init ["self", "many", "steps"] []
  f_m_Machine_eq : Addr
  d_m_Machine_eq : FuncData
  F_m_Machine_eq : Fun K "__eq__" "Machine.__eq__" s_m_Machine_eq f_m_Machine_eq d_m_Machine_eq
  b_m_Machine_eq : Binds K d_m_Machine_eq ["self", "other"] []
  f_m_Machine_len : Addr
  d_m_Machine_len : FuncData
  F_m_Machine_len : Fun K "__len__" "Machine.__len__" s_m_Machine_len f_m_Machine_len d_m_Machine_len
  b_m_Machine_len : Binds K d_m_Machine_len ["self"] []
  f_p_is_room : Addr
  d_p_is_room : FuncData
  F_p_is_room : Fun K "is_room" "is_room" s_p_is_room f_p_is_room d_p_is_room
  b_p_is_room : Binds K d_p_is_room ["thing", "many"] []
  g_p_is_room : mg "is_room" = some (.ref f_p_is_room)
  f_p_are_weights : Addr
  d_p_are_weights : FuncData
  F_p_are_weights : Fun K "are_weights" "are_weights" s_p_are_weights f_p_are_weights d_p_are_weights
  b_p_are_weights : Binds K d_p_are_weights ["thing", "many"] []
  g_p_are_weights : mg "are_weights" = some (.ref f_p_are_weights)
  f_p_is_step : Addr
  d_p_is_step : FuncData
  F_p_is_step : Fun K "is_step" "is_step" s_p_is_step f_p_is_step d_p_is_step
  b_p_is_step : Binds K d_p_is_step ["thing", "many"] []
  g_p_is_step : mg "is_step" = some (.ref f_p_is_step)
  f_p_are_steps : Addr
  d_p_are_steps : FuncData
  F_p_are_steps : Fun K "are_steps" "are_steps" s_p_are_steps f_p_are_steps d_p_are_steps
  b_p_are_steps : Binds K d_p_are_steps ["thing", "many"] []
  g_p_are_steps : mg "are_steps" = some (.ref f_p_are_steps)
  f_p_lowest : Addr
  d_p_lowest : FuncData
  F_p_lowest : Fun K "lowest" "lowest" s_p_lowest f_p_lowest d_p_lowest
  b_p_lowest : Binds K d_p_lowest ["weights"] []
  g_p_lowest : mg "lowest" = some (.ref f_p_lowest)
  f_p_found_rooms : Addr
  d_p_found_rooms : FuncData
  F_p_found_rooms : Fun K "found_rooms" "found_rooms" s_p_found_rooms f_p_found_rooms d_p_found_rooms
  b_p_found_rooms : Binds K d_p_found_rooms ["machine"] []
  g_p_found_rooms : mg "found_rooms" = some (.ref f_p_found_rooms)
  f_p_append_new : Addr
  d_p_append_new : FuncData
  F_p_append_new : Fun K "append_new" "append_new" s_p_append_new f_p_append_new d_p_append_new
  b_p_append_new : Binds K d_p_append_new ["found", "rooms"] []
  g_p_append_new : mg "append_new" = some (.ref f_p_append_new)
  f_p_trimmed : Addr
  d_p_trimmed : FuncData
  F_p_trimmed : Fun K "trimmed" "trimmed" s_p_trimmed f_p_trimmed d_p_trimmed
  b_p_trimmed : Binds K d_p_trimmed ["machine"] []
  g_p_trimmed : mg "trimmed" = some (.ref f_p_trimmed)
  f_p_are_unlike : Addr
  d_p_are_unlike : FuncData
  F_p_are_unlike : Fun K "are_unlike" "are_unlike" s_p_are_unlike f_p_are_unlike d_p_are_unlike
  b_p_are_unlike : Binds K d_p_are_unlike ["names"] []
  g_p_are_unlike : mg "are_unlike" = some (.ref f_p_are_unlike)
  f_p_are_signs : Addr
  d_p_are_signs : FuncData
  F_p_are_signs : Fun K "are_signs" "are_signs" s_p_are_signs f_p_are_signs d_p_are_signs
  b_p_are_signs : Binds K d_p_are_signs ["thing"] []
  g_p_are_signs : mg "are_signs" = some (.ref f_p_are_signs)
  f_p_is_pair : Addr
  d_p_is_pair : FuncData
  F_p_is_pair : Fun K "is_pair" "is_pair" s_p_is_pair f_p_is_pair d_p_is_pair
  b_p_is_pair : Binds K d_p_is_pair ["thing"] []
  g_p_is_pair : mg "is_pair" = some (.ref f_p_is_pair)
  f_p_are_pairs : Addr
  d_p_are_pairs : FuncData
  F_p_are_pairs : Fun K "are_pairs" "are_pairs" s_p_are_pairs f_p_are_pairs d_p_are_pairs
  b_p_are_pairs : Binds K d_p_are_pairs ["thing"] []
  g_p_are_pairs : mg "are_pairs" = some (.ref f_p_are_pairs)
  f_p_check_signs : Addr
  d_p_check_signs : FuncData
  F_p_check_signs : Fun K "check_signs" "check_signs" s_p_check_signs f_p_check_signs d_p_check_signs
  b_p_check_signs : Binds K d_p_check_signs ["thing"] []
  g_p_check_signs : mg "check_signs" = some (.ref f_p_check_signs)
  f_p_only : Addr
  d_p_only : FuncData
  F_p_only : Fun K "only" "only" s_p_only f_p_only d_p_only
  b_p_only : Binds K d_p_only ["signs", "machine"] []
  g_p_only : mg "only" = some (.ref f_p_only)
  f_p_rename : Addr
  d_p_rename : FuncData
  F_p_rename : Fun K "rename" "rename" s_p_rename f_p_rename d_p_rename
  b_p_rename : Binds K d_p_rename ["pairs", "machine"] []
  g_p_rename : mg "rename" = some (.ref f_p_rename)
  f_l_well : Addr
  d_l_well : FuncData
  F_l_well : Fun K "_law_well" "_law_well" s_l_well f_l_well d_l_well
  b_l_well : Binds K d_l_well ["_law_cell"] []
  g_l_well : mg "_law_well" = some (.ref f_l_well)
  f_l_draw : Addr
  d_l_draw : FuncData
  F_l_draw : Fun K "_law_draw" "_law_draw" s_l_draw f_l_draw d_l_draw
  b_l_draw : Binds K d_l_draw ["_law_well_here", "_law_many"] []
  g_l_draw : mg "_law_draw" = some (.ref f_l_draw)
  f_l_one : Addr
  d_l_one : FuncData
  F_l_one : Fun K "_law_one" "_law_one" s_l_one f_l_one d_l_one
  b_l_one : Binds K d_l_one ["_law_well_here", "_law_some"] []
  g_l_one : mg "_law_one" = some (.ref f_l_one)
  f_l_names : Addr
  d_l_names : FuncData
  F_l_names : Fun K "_law_names" "_law_names" s_l_names f_l_names d_l_names
  b_l_names : Binds K d_l_names ["_law_well_here", "_law_many"] []
  g_l_names : mg "_law_names" = some (.ref f_l_names)
  f_l_weights : Addr
  d_l_weights : FuncData
  F_l_weights : Fun K "_law_weights" "_law_weights" s_l_weights f_l_weights d_l_weights
  b_l_weights : Binds K d_l_weights ["_law_well_here", "_law_many"] []
  g_l_weights : mg "_law_weights" = some (.ref f_l_weights)
  f_l_machine : Addr
  d_l_machine : FuncData
  F_l_machine : Fun K "_law_machine" "_law_machine" s_l_machine f_l_machine d_l_machine
  b_l_machine : Binds K d_l_machine ["_law_well_here", "_law_signs", "_law_most"] []
  g_l_machine : mg "_law_machine" = some (.ref f_l_machine)
  f_l_divided : Addr
  d_l_divided : FuncData
  F_l_divided : Fun K "_law_divided" "_law_divided" s_l_divided f_l_divided d_l_divided
  b_l_divided : Binds K d_l_divided ["_law_weights_here"] []
  g_l_divided : mg "_law_divided" = some (.ref f_l_divided)
  f_l_due : Addr
  d_l_due : FuncData
  F_l_due : Fun K "_law_due" "_law_due" s_l_due f_l_due d_l_due
  b_l_due : Binds K d_l_due ["_law_steps"] []
  g_l_due : mg "_law_due" = some (.ref f_l_due)
  f_l_said : Addr
  d_l_said : FuncData
  F_l_said : Fun K "_law_said" "_law_said" s_l_said f_l_said d_l_said
  b_l_said : Binds K d_l_said ["_law_deed"] []
  g_l_said : mg "_law_said" = some (.ref f_l_said)
  f_l_pairs : Addr
  d_l_pairs : FuncData
  F_l_pairs : Fun K "_law_pairs" "_law_pairs" s_l_pairs f_l_pairs d_l_pairs
  b_l_pairs : Binds K d_l_pairs ["_law_well_here", "_law_signs", "_law_others"] []
  g_l_pairs : mg "_law_pairs" = some (.ref f_l_pairs)
  f_l_renamed : Addr
  d_l_renamed : FuncData
  F_l_renamed : Fun K "_law_renamed" "_law_renamed" s_l_renamed f_l_renamed d_l_renamed
  b_l_renamed : Binds K d_l_renamed ["_law_pairs_here", "_law_steps"] []
  g_l_renamed : mg "_law_renamed" = some (.ref f_l_renamed)
  f_l_right : Addr
  d_l_right : FuncData
  F_l_right : Fun K "_law_right" "_law_right" s_l_right f_l_right d_l_right
  b_l_right : Binds K d_l_right ["_law_well_here"] []
  g_l_right : mg "_law_right" = some (.ref f_l_right)
  f_law : Addr
  d_law : FuncData
  F_law : Fun K "law" "law" s_law f_law d_law
  b_law : Binds K d_law ["_law_script"] []
  g_law : mg "law" = some (.ref f_law)
  cl_Machine : Cls K c_Machine
  M_Machine : Mk K c_Machine f_m_Machine_init
  ti_Machine : TyIns K c_Machine
  n_Machine_many : NoAttr K c_Machine "many"
  n_Machine_steps : NoAttr K c_Machine "steps"
  h_m_Machine_eq : Meth K c_Machine "__eq__" f_m_Machine_eq
  h_m_Machine_len : Meth K c_Machine "__len__" f_m_Machine_len
  ne_Machine : PySem.W.findIn K (.ref c_Machine) "__ne__" = some (some (.builtin "object.__ne__"))
  nf_Machine_int : PySem.W.notFirst K c_Machine (.type "int") = true
  nf_Machine_str : PySem.W.notFirst K c_Machine (.type "str") = true
  nf_Machine_NoneType : PySem.W.notFirst K c_Machine (.type "NoneType") = true
  nf_Machine_list : PySem.W.notFirst K c_Machine (.type "list") = true
  nf_Machine_tuple : PySem.W.notFirst K c_Machine (.type "tuple") = true
  nf_Machine_dict : PySem.W.notFirst K c_Machine (.type "dict") = true
  nf_Machine_bool : PySem.W.notFirst K c_Machine (.type "bool") = true
  k_Machine : PySem.W.kitOne K (.ref c_Machine) (.ref c_Machine) = some true
  k_Machine_int : PySem.W.kitOne K (.type "int") (.ref c_Machine) = some false
  k_Machine_str : PySem.W.kitOne K (.type "str") (.ref c_Machine) = some false
  k_Machine_NoneType : PySem.W.kitOne K (.type "NoneType") (.ref c_Machine) = some false
  k_Machine_list : PySem.W.kitOne K (.type "list") (.ref c_Machine) = some false
  k_Machine_tuple : PySem.W.kitOne K (.type "tuple") (.ref c_Machine) = some false
  k_Machine_dict : PySem.W.kitOne K (.type "dict") (.ref c_Machine) = some false
  k_Machine_bool : PySem.W.kitOne K (.type "bool") (.ref c_Machine) = some false
  u_LETTERS : Value
  g_LETTERS : mg "LETTERS" = some u_LETTERS
  r_LETTERS : RelV (.str "abcdefghijklmnopqrstuvwxyz") u_LETTERS
  u_LONGEST_NAME : Value
  g_LONGEST_NAME : mg "LONGEST_NAME" = some u_LONGEST_NAME
  r_LONGEST_NAME : RelV (.int 8) u_LONGEST_NAME
  u_MOST_ROOMS : Value
  g_MOST_ROOMS : mg "MOST_ROOMS" = some u_MOST_ROOMS
  r_MOST_ROOMS : RelV (.int 12) u_MOST_ROOMS
  z_isinstance : mg "isinstance" = none
  z_int : mg "int" = none
  z_bool : mg "bool" = none
  z_all : mg "all" = none
  z_str : mg "str" = none
  z_len : mg "len" = none
  z_abs : mg "abs" = none
  z_sorted : mg "sorted" = none
  z_range : mg "range" = none
  z_any : mg "any" = none
  z_tuple : mg "tuple" = none
  z_list : mg "list" = none
  z_enumerate : mg "enumerate" = none
  z_sum : mg "sum" = none
  z_repr : mg "repr" = none
  z_dict : mg "dict" = none
  z_set : mg "set" = none
  y_FarError_sb : PySem.W.subIn K (.ref c_FarError) (.type "BaseException") = some true
  y_FarError_ty : PySem.W.typeIn K (.ref c_FarError) = some (.type "type")
  y_FarError_hd : PySem.W.hasDictIn K c_FarError = true
  y_NoSign_sb : PySem.W.subIn K (.ref c_NoSign) (.type "BaseException") = some true
  y_NoSign_ty : PySem.W.typeIn K (.ref c_NoSign) = some (.type "type")
  y_NoSign_hd : PySem.W.hasDictIn K c_NoSign = true
  i_NoSign_xi : PySem.W.excInitIn K c_NoSign PySem.HandSPX.veTail "ValueError.__new__" = true
  i_NoSign_hd : PySem.W.hasDictIn K c_NoSign = true
  i_NoSign_sa : PySem.W.findIn K (.ref c_NoSign) "__setattr__" = some (some (.builtin "object.__setattr__"))
  i_NoSign_sb : PySem.W.subIn K (.ref c_NoSign) (.type "BaseException") = some true
  i_NoSign_ty : PySem.W.typeIn K (.ref c_NoSign) = some (.type "type")
  i_NoSign_kp : PySem.W.keepIn K (.ref c_NoSign) = true
  i_NoSign_hg : PySem.W.findIn K (.ref c_NoSign) "__getattribute__" = some (some (.builtin "BaseException.__getattribute__"))
  i_NoSign_hk : PySem.W.findIn K (.ref c_NoSign) "__getattr__" = some none
  i_NoSign_no : PySem.W.findIn K (.ref c_NoSign) "sign" = some none
  i_NoSign_in : PySem.W.findIn K (.ref c_NoSign) "__init__" = some (some (.ref f_m_NoSign_init))
  i_NoSign_tf : PySem.W.typeIn K (.ref f_m_NoSign_init) = some (.type "function")
  i_NoSign_ha : PySem.W.findIn K (.ref c_NoSign) "__class__" = some (some (.builtin "object.__class__"))
  i_NoSign_hn : PySem.W.specialIn K (.builtin "object.__class__") "__get__" = some (some (.builtin "getset_descriptor.__get__"))
  i_NoSign_ht : PySem.W.takesIn K (.builtin "object.__class__") = some true
  i_NoSign_hm : PySem.W.mroIn K c_NoSign (.type "object") = some true
  sub_NoSign_FarError : PySem.W.subIn K (.ref c_NoSign) (.ref c_FarError) = some true
  sub_NoSign_NoSign : PySem.W.subIn K (.ref c_NoSign) (.ref c_NoSign) = some true
  kit_NoSign_FarError : PySem.W.kitOne K (.ref c_NoSign) (.ref c_FarError) = some true
end Fb
namespace Fb
open PySem PySem.Spec PyProof.Rows L2
section
variable {P : Program} {w : World} {K : PySem.W.Frag} {mg : Str → Option Value} {base : Heap}
def spWhole : Sp := fun vs H Q _ => ∃ i : Int, vs = [.int i] ∧ Q (.bl true) H
theorem ok_p_is_whole (T : Txt K mg) : FnOk P w K mg base CX0 1 T.f_p_is_whole T.d_p_is_whole ["thing"] spWhole := by
  refine T.F_p_is_whole.ok sc_p_is_whole (fun vs H Q E h => ?_) (fun cdv A outer s H vs Q E hr h => ?_)
  · obtain ⟨i, rfl, _⟩ := h
    rfl
  · obtain ⟨i, rfl, q⟩ := h
    refine ⟨_, (pss_one (ps_ret (pe_and (pe_callB call_isi (by rfl) T.z_isinstance (by decide +kernel) (pa_cons (pv 0) (pa_cons (pe_bltn (v := .ty "int") (by rfl) T.z_int (by decide +kernel) rfl) pa_nil))) (pe_one (pe_not (pe_callB call_isi (by rfl) T.z_isinstance (by decide +kernel) (pa_cons (pv 0) (pa_cons (pe_bltn (v := .ty "bool") (by rfl) T.z_bool (by decide +kernel) rfl) pa_nil)))))))), ?_⟩
    refine ⟨_, rfl, _, _, _, _, true, rfl, .ty _, .base (.int i), kit_ty (by decide +kernel), true, rfl, ?_⟩
    refine iteT ?_
    exact ⟨_, rfl, _, _, _, _, false, rfl, .ty _, .base (.int i), kit_ty (by decide +kernel), false, rfl, q⟩
def spGcd : Sp := fun vs H Q _ => ∃ a b : Int, vs = [.int a, .int b] ∧ Q (.int (Int.gcd a b : Int)) H
theorem ok_p_common_part (T : Txt K mg) : FnOk P w K mg base CX0 1 T.f_p_common_part T.d_p_common_part ["one", "other"] spGcd := by
  refine T.F_p_common_part.ok sc_p_common_part (fun vs H Q E h => ?_) (fun cdv A outer s H vs Q E hr h => ?_)
  · obtain ⟨a, b, rfl, _⟩ := h
    rfl
  · obtain ⟨a, b, rfl, q⟩ := h
    refine ⟨_, (pss_cons (ps_while PassesOwn.never (pt_cmpR op_ne (pv 1) pe_int (nomark _))
  (pss_one (ps_par (i := 0) (j := 1) (by rfl) sc_p_common_part.nd rfl rfl (by decide) rfl rfl (pa_cons (pv 1) (pa_cons (pe_op op_modN (pv 0) (pv 1)) pa_nil)) (by rfl))))
 (pss_one (ps_ret (pe_callB call_abs (by rfl) T.z_abs (by decide +kernel) (pa_cons (pv 0) pa_nil))))), ?_⟩
    refine ⟨fun m σ H' => ∃ x y : Int, σ = [some (.int x), some (.int y)] ∧ m = y.natAbs ∧ Int.gcd x y = Int.gcd a b ∧ H' = H, ⟨_, a, b, rfl, rfl, rfl, rfl⟩, fun m σ H' hW => ?_⟩
    obtain ⟨x, y, rfl, rfl, hg, rfl⟩ := hW
    refine ⟨_, rfl, rfl, _, rfl, ?_⟩
    by_cases hy : y = 0
    · subst hy
      refine iteF ?_
      refine ⟨_, rfl, x, rfl, ?_⟩
      have e : (if x < 0 then -x else x) = (Int.gcd a b : Int) := by
        rw [← hg, Int.gcd_zero_right]
        split <;> omega
      rw [e]
      exact q
    · have ne : (!decide (V.int y = V.int 0)) = true := by
        rw [decide_eq_false (fun z => hy (V.int.inj z))]
        rfl
      rw [ne]
      refine iteT ?_
      refine ⟨fun σ' H'' => σ' = [some (.int y), some (.int (x.fmod y))] ∧ H'' = H', fun σ' H'' h => ?_, ?_⟩
      · obtain ⟨rfl, rfl⟩ := h
        exact ⟨_, fmod_lt x y hy, y, _, rfl, rfl, by rw [gcd_step, hg], rfl⟩
      · exact ⟨_, rfl, _, rfl, _, rfl, _, _, rfl, rfl, hy, _, _, rfl, rfl, rfl⟩
theorem log2_mono {a b : Nat} (h : a ≤ b) : a.log2 ≤ b.log2 := by
  by_cases ha : a = 0
  · subst ha
    simp
  · have hb : b ≠ 0 := by omega
    rw [Nat.le_log2 hb]
    exact Nat.le_trans (Nat.log2_self_le ha) h
theorem nat_abs {n m : Nat} (h : n < m) : (n : Int).natAbs < m := h
end
end Fb
namespace Fb
open PySem PySem.Spec PyProof.Rows L2
section
variable {P : Program} {w : World} {K : PySem.W.Frag} {mg : Str → Option Value} {base : Heap}
def spWell : Sp := fun vs H Q _ => ∃ c : Int, vs = [.int c] ∧ ∀ a H', H a = none → Same H (hid a H') → WellAt H' a 1099511627776 → Q (.ref a) H'
theorem ok_l_well (T : Txt K mg) : FnOk P w K mg base CX0 1 T.f_l_well T.d_l_well ["_law_cell"] spWell := by
  refine T.F_l_well.ok sc_l_well (fun vs H Q E h => ?_) (fun cdv A outer s H vs Q E hr h => ?_)
  · obtain ⟨c, rfl, _⟩ := h
    rfl
  · obtain ⟨c, rfl, q⟩ := h
    refine ⟨_, (pss_one (ps_ret (pe_lst (pa_cons (pe_op op_mul (pv 0) (pe_callTy call_int1 (by rfl) T.z_int (by decide +kernel) (pa_cons (pe_cmpR op_ge (pv 0) (pe_op op_pow pe_int pe_int) (nomark _)) pa_nil))) (pa_cons (pe_op op_mod (pv 0) pe_int) (pa_cons pe_int pa_nil)))))), ?_⟩
    refine ⟨_, rfl, _, rfl, _, _, rfl, rfl, ⟨by decide, by decide, by decide⟩, _, _, rfl, rfl, .inr ⟨_, rfl, _, _, rfl, rfl, ?_, _, rfl, _, _, rfl, rfl, (by show (0 : Int) < 2147483647; decide), ?_⟩⟩
    · right
      split <;> decide
    · refine ⟨by show 3 ≤ sizeLine; decide, fun p np => ?_⟩
      refine q p _ np (fun b o e => ?_) ⟨_, _, _, upd_same, Int.emod_nonneg _ (by decide), Int.emod_lt_of_pos _ (by decide), by decide, by decide⟩
      rw [hid_upd, hid_ne (ne_of_none e np)]
      exact e
def spDraw : Sp := fun vs H Q _ => ∃ (a : Addr) (m : Int) (n : Nat), vs = [.ref a, .int m] ∧ WellAt H a (n + 1) ∧ 0 < m ∧ m.natAbs.log2 < 9000 ∧
  ∀ d H', 0 ≤ d → d < m → Same (hid a H) (hid a H') → WellAt H' a n → Q (.int d) H'
theorem ok_l_draw (T : Txt K mg) : FnOk P w K mg base CX0 1 T.f_l_draw T.d_l_draw ["_law_well_here", "_law_many"] spDraw := by
  refine T.F_l_draw.ok sc_l_draw (fun vs H Q E h => ?_) (fun cdv A outer s H vs Q E hr h => ?_)
  · obtain ⟨a, m, n, rfl, _⟩ := h
    rfl
  · obtain ⟨a, m, n, rfl, ⟨w0, w1, w2, hw, b1, b2, b3, b4⟩, m0, ml, q⟩ := h
    refine ⟨_, (pss_cons (ps_if (pt_cmpR op_gt (pe_ix ix_list (pv 0) pe_int (fun _ _ => rfl)) pe_int (nomark _))
  (pss_cons (ps_set (i := 2) sc_l_draw.nd rfl (.inl rfl) (pe_op op_mod (pe_ix ix_list (pv 0) pe_int (fun _ _ => rfl)) (pv 1)))
 (pss_cons (ps_asg (pe_op op_fdivW (pe_ix ix_list (pv 0) pe_int (fun _ _ => rfl)) (pv 1)) (pg_sub (pv 0) pe_int set_list))
 (pss_one (ps_ret (pv 2)))))
  pss_nil)
 (pss_cons (ps_asg (pe_op op_add (pe_ix ix_list (pv 0) pe_int (fun _ _ => rfl)) pe_int) (pg_sub (pv 0) pe_int set_list))
 (pss_cons (ps_set (i := 3) sc_l_draw.nd rfl (.inl rfl) (pe_ix ix_list (pe_lst (pa_cons pe_int (pa_cons pe_int (pa_cons pe_int (pa_cons pe_int (pa_cons pe_int (pa_cons pe_int (pa_cons pe_int pa_nil)))))))) (pe_op op_mod (pe_ix ix_list (pv 0) pe_int (fun _ _ => rfl)) pe_int) (fun _ _ => rfl)))
 (pss_cons (ps_set (i := 4) sc_l_draw.nd rfl (.inl rfl) (pe_op op_mod (pe_op op_pow (pe_op op_add (pe_op op_add (pe_ix ix_list (pv 0) pe_int (fun _ _ => rfl)) (pe_op op_mul pe_int (pe_ix ix_list (pv 0) pe_int (fun _ _ => rfl)))) pe_int) pe_int) (pv 3)))
 (pss_cons (ps_set (i := 4) sc_l_draw.nd rfl (.inl rfl) (pe_op op_mod (pe_op op_mul (pe_op op_add (pv 4) (pe_ix ix_list (pv 0) pe_int (fun _ _ => rfl))) (pe_op op_add (pe_op op_fdiv (pv 4) pe_int) pe_int)) (pv 3)))
 (pss_one (ps_ret (pe_op op_mod (pe_op op_fdiv (pv 4) pe_int) (pv 1))))))))), ?_⟩
    refine ⟨_, rfl, a, _, _, _, rfl, rfl, SqL.of hw, atI_nat (j := 0) rfl, _, _, rfl, rfl, _, rfl, ite2 (fun h => ?_) (fun h => ?_)⟩
    · refine ⟨_, rfl, a, _, _, _, rfl, rfl, SqL.of hw, atI_nat (j := 0) rfl, _, rfl, _, _, rfl, rfl, m0, ?_⟩
      refine ⟨_, rfl, a, _, _, _, rfl, rfl, SqL.of hw, atI_nat (j := 0) rfl, _, rfl, _, _, rfl, rfl, ⟨m0, ml⟩, _, rfl, a, _, _, 0, rfl, rfl, hw, rfl, ?_⟩
      refine ⟨_, rfl, ?_⟩
      refine q _ _ (Int.emod_nonneg _ (by omega)) (Int.emod_lt_of_pos _ m0) ?_ ⟨_, _, _, upd_same, b1, b2, b3, by omega⟩
      rw [hid_upd]
      exact Same.refl _
    · refine ⟨_, rfl, a, _, _, _, rfl, rfl, SqL.of hw, atI_nat (j := 2) rfl, _, _, rfl, rfl, _, rfl, a, _, _, 2, rfl, rfl, hw, rfl, ?_⟩
      have hw2 : (upd H a (.lst [.int w0, .int w1, .int (w2 + 1)])) a = some (.lst [.int w0, .int w1, .int (w2 + 1)]) := upd_same
      refine ⟨by show 7 ≤ sizeLine; decide, fun p np => ?_⟩
      have npa : p ≠ a := fun z => by
        rw [z, upd_same] at np
        cases np
      have hw3 : (upd (upd H a (.lst [.int w0, .int w1, .int (w2 + 1)])) p (.lst [V.int 2147483647, V.int 2147483629, V.int 2147483587, V.int 2147483579, V.int 2147483563, V.int 2147483549, V.int 2147483543])) a = some (.lst [.int w0, .int w1, .int (w2 + 1)]) := by
        rw [upd_ne npa.symm]
        exact upd_same
      obtain ⟨pr, hpr, p0, p1⟩ := primes7 (k := (w2 + 1) % 7) (Int.emod_nonneg _ (by decide)) (Int.emod_lt_of_pos _ (by decide))
      refine ⟨_, rfl, a, _, _, _, rfl, rfl, SqL.of hw3, atI_nat (j := 2) rfl, _, _, rfl, rfl, (by show (0 : Int) < 7; decide), p, _, _, _, rfl, rfl, sqL_new, hpr, ?_⟩
      refine ⟨_, rfl, a, _, _, _, rfl, rfl, SqL.of hw3, atI_nat (j := 1) rfl, _, rfl, a, _, _, _, rfl, rfl, SqL.of hw3, atI_nat (j := 2) rfl, _, _, rfl, rfl, .inl ⟨by decide, by decide⟩, _, _, rfl, rfl, _, _, rfl, rfl, _, _, rfl, rfl, ?_, _, rfl, _, _, rfl, rfl, p0, ?_⟩
      · exact pow_small (by omega) (by omega)
      · generalize hx : (w1 + 7919 * (w2 + 1) + 1) ^ (5 : Int).toNat % pr = x
        have x0 : 0 ≤ x := by
          rw [← hx]
          exact Int.emod_nonneg _ (by omega)
        have x1 : x < pr := by
          rw [← hx]
          exact Int.emod_lt_of_pos _ p0
        refine ⟨_, rfl, _, rfl, a, _, _, _, rfl, rfl, SqL.of hw3, atI_nat (j := 2) rfl, _, _, rfl, rfl, _, rfl, _, _, rfl, rfl, ⟨by decide, by decide⟩, _, _, rfl, rfl, _, _, rfl, rfl, .inl ⟨by omega, by omega⟩, _, rfl, _, _, rfl, rfl, p0, ?_⟩
        refine ⟨_, rfl, _, _, rfl, rfl, ⟨by decide, by decide⟩, _, rfl, _, _, rfl, rfl, m0, ?_⟩
        refine q _ _ (Int.emod_nonneg _ (by omega)) (Int.emod_lt_of_pos _ m0) ?_ ⟨_, _, _, hw3, b1, b2, by omega, by omega⟩
        rw [hid_updN npa, hid_upd]
        refine same_upd ?_
        rw [hid_ne npa]
        rw [upd_ne npa] at np
        exact np
def spOne (K : PySem.W.Frag) : Sp := fun vs H Q _ => ∃ (a p : Addr) (xs : List V) (n : Nat), vs = [.ref a, .ref p] ∧ WellAt H a (n + 1) ∧ SqL K (hid a H) p xs ∧ 0 < xs.length ∧ xs.length ≤ 1000 ∧
  ∀ (i : Nat) x H', xs[i]? = some x → Same (hid a H) (hid a H') → WellAt H' a n → Q x H'
theorem log_small {m : Nat} (h : m ≤ 1000) : ((m : Int)).natAbs.log2 < 9000 := by
  have h1 : ((m : Int)).natAbs.log2 ≤ (1000 : Nat).log2 := log2_mono (by omega)
  have h2 : (1000 : Nat).log2 < 9000 := by decide
  omega
theorem ok_l_one (T : Txt K mg) : FnOk P w K mg base CX0 2 T.f_l_one T.d_l_one ["_law_well_here", "_law_some"] (spOne K) := by
  refine T.F_l_one.ok sc_l_one (fun vs H Q E h => ?_) (fun cdv A outer s H vs Q E hr h => ?_)
  · obtain ⟨a, p, xs, n, rfl, _⟩ := h
    rfl
  · obtain ⟨a, p, xs, n, rfl, hw, hS, l0, l1, q⟩ := h
    refine ⟨_, (pss_one (ps_ret (pe_ix ix_list (pv 1) (pe_call (ok_l_draw T) (hr.mono (by decide)) (by rfl) T.g_l_draw T.F_l_draw.kp T.b_l_draw .nil pass0 (pa_cons (pv 0) (pa_cons (pe_callB call_len_seq (by rfl) T.z_len (by decide +kernel) (pa_cons (pv 1) pa_nil)) pa_nil))) (fun _ _ => rfl)))), ?_⟩
    refine ⟨_, rfl, _, rfl, _, rfl, p, xs, rfl, .inl (hid_same.seq hS), a, _, n, rfl, hw, by omega, log_small l1, fun d H' d0 d1 s1 w1 => ?_⟩
    obtain ⟨x, e1, e2⟩ := atI_get d0 d1
    exact ⟨p, xs, d, x, rfl, rfl, (s1.trans hid_same).seq hS, e1, q _ x H' e2 s1 w1⟩
end
end Fb
namespace Fb
open PySem PySem.Spec PyProof.Rows L2
section
variable {P : Program} {w : World} {K : PySem.W.Frag} {mg : Str → Option Value} {base : Heap}
def letters : List Nat := ("abcdefghijklmnopqrstuvwxyz" : Str).cps.toList
structure NmOk (x : Str) : Prop where
  l1 : 1 ≤ x.length
  l8 : x.length ≤ 8
  all : ∀ c ∈ x.cps.toList, c ∈ letters
def spName : Sp := fun vs H Q _ => ∃ x : Str, vs = [.str x] ∧ NmOk x ∧ ∀ H', Same H H' → Q (.bl true) H'
theorem ok_p_is_name (T : Txt K mg) : FnOk P w K mg base CX0 1 T.f_p_is_name T.d_p_is_name ["thing"] spName := by
  refine T.F_p_is_name.ok sc_p_is_name (fun vs H Q E h => ?_) (fun cdv A outer s H vs Q E hr h => ?_)
  · obtain ⟨x, rfl, _⟩ := h
    rfl
  · obtain ⟨x, rfl, ok, q⟩ := h
    refine ⟨_, (pss_cons (ps_if (PW.pt (pw_or (pt_not (pt_val (pe_callB call_isi (by rfl) T.z_isinstance (by decide +kernel) (pa_cons (pv 0) (pa_cons (pe_bltn (v := .ty "str") (by rfl) T.z_str (by decide +kernel) rfl) pa_nil))))) (pw_or1 (pt_not (pt_chain op_le op_le pe_int (pe_callB call_len_str (by rfl) T.z_len (by decide +kernel) (pa_cons (pv 0) pa_nil)) (pe_glob (by rfl) T.g_LONGEST_NAME T.r_LONGEST_NAME))))))
  (pss_one (ps_ret pe_bl))
  pss_nil)
 (pss_one (ps_ret (pe_callB (cr_all rfl) (by rfl) T.z_all (by decide +kernel) (pa_cons (pe_lc (own := [("letter", 1)]) (g := (gName 1)) (tt := tYes) (by rfl) sc_p_is_name.nd (pi_str (pv 0)) (blkOk_by (own := [("letter", 1)]) (N := ["thing", "letter"]) (sc := defScope s_p_is_name) (by decide +kernel)) (fun _ _ _ _ _ => by exact (pg_name (i := 1) sc_p_is_name.nd rfl (.inl rfl))) (fun _ _ _ _ _ => by exact pts_nil) (fun _ _ _ _ _ => by exact (pe_cmpR op_in_sign (pv 1) (pe_glob (by rfl) T.g_LETTERS T.r_LETTERS) (by with_unfolding_all rfl)))) pa_nil))))), ?_⟩
    have l8 := ok.l8
    have l1 := ok.l1
    refine ⟨_, rfl, _, _, _, _, true, rfl, .ty _, .base (.str x), kit_ty (by decide +kernel), true, rfl, iteF ?_⟩
    refine ⟨_, rfl, x, rfl, Nat.le_of_lt (small1000 (by omega)), _, _, rfl, rfl, true, ?_, iteT ?_⟩
    · exact congrArg V.bl (decide_eq_true (by omega))
    refine ⟨_, _, rfl, rfl, true, ?_, iteF ?_⟩
    · exact congrArg V.bl (decide_eq_true (by omega))
    have hz : x.cps.size ≤ 8 := l8
    refine ⟨_, rfl, x, rfl, fun D nD => lc_allW (walk_str (z := x)) (fun _ y _ => y = .bl true) (fun _ _ _ _ _ h => h) nD (fun _ _ => trivial) (by omega) (fun i v H2 H3 k hi s2 eD y hk => ?_) (fun H2 ys s2 e l r => ?_)⟩
    · obtain ⟨rfl, c, hc, rfl⟩ := y
      refine ⟨rfl, _, rfl, c, _, rfl, rfl, hk _ _ (Same.refl _) (congrArg V.bl (decide_eq_true ?_))⟩
      exact ok.all c (by rw [← Array.getElem?_toList] at hc; exact List.mem_of_getElem? hc)
    · have ey : ys = (List.replicate ys.length true).map V.bl := by
        refine List.ext_getElem? fun i => ?_
        by_cases hi : i < ys.length
        · rw [List.getElem?_eq_getElem hi, r i _ (List.getElem?_eq_getElem hi), List.getElem?_map, List.getElem?_replicate, if_pos hi]
          rfl
        · rw [List.getElem?_eq_none (by omega), List.getElem?_eq_none (by simp; omega)]
      rw [ey] at e
      refine ⟨D, _, rfl, SqL.of e, ?_⟩
      rw [show (List.replicate ys.length true).all id = true by simp]
      exact q H2 (s2.trans hid_same)
structure Stp where
  room : Nat
  sign : Str
  ws : List Nat
abbrev nts (ns : List Nat) : List V := ns.map fun (n : Nat) => V.int (n : Int)
def IsStp (H : Hp) (v : V) (s : Stp) : Prop := ∃ t wa, v = .ref t ∧ H t = some (.tup [.int s.room, .str s.sign, .ref wa]) ∧ H wa = some (.tup (nts s.ws))
theorem IsStp.mono {H H' : Hp} {v : V} {s : Stp} (h : IsStp H v s) (m : Same H H') : IsStp H' v s := by
  obtain ⟨t, wa, e, h1, h2⟩ := h
  exact ⟨t, wa, e, m _ _ h1, m _ _ h2⟩
structure WtsOk (m : Nat) (ws : List Nat) : Prop where
  len : ws.length = m
  pos : ∃ n ∈ ws, 0 < n
  bd : ∀ n ∈ ws, n < 2 ^ 4000
structure StpOk (m : Nat) (s : Stp) : Prop where
  room : s.room < m
  sign : NmOk s.sign
  wts : WtsOk m s.ws
def spRoom : Sp := fun vs H Q _ => ∃ r m : Nat, vs = [.int r, .int m] ∧ r < m ∧ Q (.bl true) H
theorem ok_p_is_room (T : Txt K mg) : FnOk P w K mg base CX0 2 T.f_p_is_room T.d_p_is_room ["thing", "many"] spRoom := by
  refine T.F_p_is_room.ok sc_p_is_room (fun vs H Q E h => ?_) (fun cdv A outer s H vs Q E hr h => ?_)
  · obtain ⟨r, m, rfl, _⟩ := h
    rfl
  · obtain ⟨r, m, rfl, l, q⟩ := h
    refine ⟨_, (pss_one (ps_ret (pe_and (pe_call (ok_p_is_whole T) (hr.mono (by decide)) (by rfl) T.g_p_is_whole T.F_p_is_whole.kp T.b_p_is_whole .nil pass0 (pa_cons (pv 0) pa_nil)) (pe_one (pe_chain op_le op_lt pe_int (pv 0) (pv 1)))))), ?_⟩
    refine ⟨_, rfl, r, rfl, true, rfl, iteT ?_⟩
    refine ⟨_, rfl, _, _, rfl, rfl, true, congrArg V.bl (decide_eq_true (by omega)), iteT ⟨_, rfl, _, _, rfl, rfl, ?_⟩⟩
    dsimp only
    rw [decide_eq_true (show (r : Int) < (m : Int) by omega)]
    exact q
theorem trues {n : Nat} {ys : List V} (l : ys.length = n) (h : ∀ (i : Nat) y, ys[i]? = some y → y = .bl true) : ys = (List.replicate n true).map V.bl := by
  refine List.ext_getElem? fun i => ?_
  by_cases hi : i < ys.length
  · rw [List.getElem?_eq_getElem hi, h i _ (List.getElem?_eq_getElem hi), List.getElem?_map, List.getElem?_replicate, if_pos (by omega)]
    rfl
  · rw [List.getElem?_eq_none (by omega), List.getElem?_eq_none (by simp; omega)]
theorem all_trues (n : Nat) : (List.replicate n true).all id = true := by simp
def spWts : Sp := fun vs H Q _ => ∃ (wa : Addr) (m : Nat) (ws : List Nat), vs = [.ref wa, .int m] ∧ H wa = some (.tup (nts ws)) ∧ WtsOk m ws ∧ m ≤ 12 ∧ ∀ H', Same H H' → Q (.bl true) H'
theorem ok_p_are_weights (T : Txt K mg) : FnOk P w K mg base CX0 2 T.f_p_are_weights T.d_p_are_weights ["thing", "many"] spWts := by
  refine T.F_p_are_weights.ok sc_p_are_weights (fun vs H Q E h => ?_) (fun cdv A outer s H vs Q E hr h => ?_)
  · obtain ⟨wa, m, ws, rfl, _⟩ := h
    rfl
  · obtain ⟨wa, m, ws, rfl, hw, ok, m12, q⟩ := h
    refine ⟨_, (pss_cons (ps_if (PW.pt (pw_or (pt_not (pt_val (pe_callB call_isi (by rfl) T.z_isinstance (by decide +kernel) (pa_cons (pv 0) (pa_cons (pe_bltn (v := .ty "tuple") (by rfl) T.z_tuple (by decide +kernel) rfl) pa_nil))))) (pw_or1 (pt_cmpR op_ne (pe_callB call_len_seq (by rfl) T.z_len (by decide +kernel) (pa_cons (pv 0) pa_nil)) (pv 1) (nomark _)))))
  (pss_one (ps_ret pe_bl))
  pss_nil)
 (pss_one (ps_ret (pe_and (pe_callB (cr_all rfl) (by rfl) T.z_all (by decide +kernel) (pa_cons (pe_lc (own := [("weight", 2)]) (g := (gName 2)) (tt := tYes) (by rfl) sc_p_are_weights.nd (pi_tup (pv 0)) (blkOk_by (own := [("weight", 2)]) (N := ["thing", "many", "weight"]) (sc := defScope s_p_are_weights) (by decide +kernel)) (fun _ _ _ _ _ => by exact (pg_name (i := 2) sc_p_are_weights.nd rfl (.inl rfl))) (fun _ _ _ _ _ => by exact pts_nil) (fun _ _ _ _ _ => by exact (pe_and (pe_call (ok_p_is_whole T) (hr.mono (by decide)) (by rfl) T.g_p_is_whole T.F_p_is_whole.kp T.b_p_is_whole .nil pass0 (pa_cons (pv 2) pa_nil)) (pe_one (pe_cmpR op_ge (pv 2) pe_int (nomark _)))))) pa_nil)) (pe_one (pe_callB (cr_any rfl) (by rfl) T.z_any (by decide +kernel) (pa_cons (pe_lc (own := [("weight", 2)]) (g := (gName 2)) (tt := tYes) (by rfl) sc_p_are_weights.nd (pi_tup (pv 0)) (blkOk_by (own := [("weight", 2)]) (N := ["thing", "many", "weight"]) (sc := defScope s_p_are_weights) (by decide +kernel)) (fun _ _ _ _ _ => by exact (pg_name (i := 2) sc_p_are_weights.nd rfl (.inl rfl))) (fun _ _ _ _ _ => by exact pts_nil) (fun _ _ _ _ _ => by exact (pe_cmpR op_gt (pv 2) pe_int (nomark _)))) pa_nil))))))), ?_⟩
    have lw : (nts ws).length = m := by rw [List.length_map]; exact ok.len
    refine ⟨_, rfl, _, _, _, _, true, rfl, .ty _, .base (.tup hw), kit_ty (by decide +kernel), true, rfl, iteF ?_⟩
    refine ⟨_, rfl, wa, _, rfl, .inr (.inl (.inl hw)), _, rfl, rfl, _, rfl, ?_⟩
    rw [lw, decide_eq_true rfl]
    refine iteF ?_
    refine ⟨_, rfl, wa, rfl, ⟨_, .inl (.inl hw)⟩, fun D nD => lc_allW (walk_tup (K := K) (a := wa) (xs := nts ws)) (fun _ y _ => y = .bl true) (fun _ _ _ _ _ h => h) nD (fun H' s => .inl (.inl (s _ _ hw))) (by omega) (fun i v H2 H3 k hi s2 eD y hk => ?_) (fun H2 ys s2 e l r => ?_)⟩
    · obtain ⟨rfl, hv⟩ := y
      rw [List.getElem?_map] at hv
      obtain ⟨n, hn, rfl⟩ := Option.map_eq_some_iff.mp hv
      exact ⟨rfl, _, rfl, (n : Int), rfl, true, rfl, iteT ⟨_, rfl, _, _, rfl, rfl, hk _ _ (Same.refl _) (congrArg V.bl (decide_eq_true (by omega)))⟩⟩
    · rw [trues l r] at e
      refine ⟨D, _, rfl, SqL.of e, true, by rw [all_trues], iteT ?_⟩
      have s12 : Same H H2 := s2.trans hid_same
      have hw2 := s12 _ _ hw
      refine ⟨_, rfl, wa, rfl, ⟨_, .inl (.inl hw2)⟩, fun D2 nD2 => lc_allW (walk_tup (K := K) (a := wa) (xs := nts ws)) (fun i y _ => ∃ n, ws[i]? = some n ∧ y = .bl (decide (0 < n))) (fun _ _ _ _ _ h => h) nD2 (fun H' s => .inl (.inl (s _ _ hw2))) (by omega) (fun i v H3 H4 k hi s3 eD y hk => ?_) (fun H3 ys3 s3 e3 l3 r3 => ?_)⟩
      · obtain ⟨rfl, hv⟩ := y
        rw [List.getElem?_map] at hv
        obtain ⟨n, hn, rfl⟩ := Option.map_eq_some_iff.mp hv
        refine ⟨rfl, _, rfl, _, _, rfl, rfl, hk _ _ (Same.refl _) ⟨n, hn, congrArg V.bl (decide_eq_decide.mpr ?_)⟩⟩
        show (n : Int) > 0 ↔ 0 < n
        omega
      · have ey : ys3 = (ws.map fun n => decide (0 < n)).map V.bl := by
          refine List.ext_getElem? fun i => ?_
          by_cases hi : i < ys3.length
          · obtain ⟨n, hn, hy⟩ := r3 i _ (List.getElem?_eq_getElem hi)
            rw [List.getElem?_eq_getElem hi, hy, List.map_map, List.getElem?_map, hn]
            rfl
          · rw [List.getElem?_eq_none (by omega), List.getElem?_eq_none (by rw [List.length_map] at l3; simp; omega)]
        rw [ey] at e3
        refine ⟨D2, _, rfl, SqL.of e3, ?_⟩
        have : (ws.map fun n => decide (0 < n)).any id = true := by
          obtain ⟨n, hn, h0⟩ := ok.pos
          rw [List.any_eq_true]
          exact ⟨true, List.mem_map.mpr ⟨n, hn, decide_eq_true h0⟩, rfl⟩
        rw [this]
        exact q H3 (s12.trans (s3.trans hid_same))
def spStep : Sp := fun vs H Q _ => ∃ (v : V) (m : Nat) (s : Stp), vs = [v, .int m] ∧ IsStp H v s ∧ StpOk m s ∧ m ≤ 12 ∧ ∀ H', Same H H' → Q (.bl true) H'
theorem ok_p_is_step (T : Txt K mg) : FnOk P w K mg base CX0 3 T.f_p_is_step T.d_p_is_step ["thing", "many"] spStep := by
  refine T.F_p_is_step.ok sc_p_is_step (fun vs H Q E h => ?_) (fun cdv A outer s H vs Q E hr h => ?_)
  · obtain ⟨v, m, st, rfl, _⟩ := h
    rfl
  · obtain ⟨v, m, st, rfl, ⟨t, wa, rfl, ht, hw⟩, ok, m12, q⟩ := h
    refine ⟨_, (pss_cons (ps_if (PW.pt (pw_or (pt_not (pt_val (pe_callB call_isi (by rfl) T.z_isinstance (by decide +kernel) (pa_cons (pv 0) (pa_cons (pe_bltn (v := .ty "tuple") (by rfl) T.z_tuple (by decide +kernel) rfl) pa_nil))))) (pw_or1 (pt_cmpR op_ne (pe_callB call_len_seq (by rfl) T.z_len (by decide +kernel) (pa_cons (pv 0) pa_nil)) pe_int (nomark _)))))
  (pss_one (ps_ret pe_bl))
  pss_nil)
 (pss_cons (ps_asg (pv 0) (pg_tup (by rfl) (pgs_cons (pg_name (i := 2) sc_p_is_step.nd rfl (.inl rfl)) (pgs_cons (pg_name (i := 3) sc_p_is_step.nd rfl (.inl rfl)) (pgs_cons (pg_name (i := 4) sc_p_is_step.nd rfl (.inl rfl)) pgs_nil)))))
 (pss_one (ps_ret (pe_and (pe_call (ok_p_is_room T) (hr.mono (by decide)) (by rfl) T.g_p_is_room T.F_p_is_room.kp T.b_p_is_room .nil pass0 (pa_cons (pv 2) (pa_cons (pv 1) pa_nil))) (pe_and (pe_call (ok_p_is_name T) (hr.mono (by decide)) (by rfl) T.g_p_is_name T.F_p_is_name.kp T.b_p_is_name .nil pass0 (pa_cons (pv 3) pa_nil)) (pe_one (pe_call (ok_p_are_weights T) (hr.mono (by decide)) (by rfl) T.g_p_are_weights T.F_p_are_weights.kp T.b_p_are_weights .nil pass0 (pa_cons (pv 4) (pa_cons (pv 1) pa_nil)))))))))), ?_⟩
    refine ⟨_, rfl, _, _, _, _, true, rfl, .ty _, .base (.tup ht), kit_ty (by decide +kernel), true, rfl, iteF ?_⟩
    refine ⟨_, rfl, t, _, rfl, .inr (.inl (.inl ht)), rfl, _, rfl, iteF ?_⟩
    refine ⟨_, rfl, t, _, rfl, .inl (.inl ht), rfl, _, _, rfl, _, _, rfl, _, _, rfl, rfl, ?_⟩
    refine ⟨_, rfl, _, rfl, st.room, m, rfl, ok.room, true, rfl, iteT ?_⟩
    refine ⟨_, rfl, st.sign, rfl, ok.sign, fun H1 s1 => ⟨true, rfl, iteT ?_⟩⟩
    exact ⟨_, rfl, _, rfl, wa, m, st.ws, rfl, s1 _ _ hw, ok.wts, m12, fun H2 s2 => q H2 (s1.trans s2)⟩
end
end Fb
namespace Fb
open PySem PySem.Spec PyProof.Rows L2
section
variable {P : Program} {w : World} {K : PySem.W.Frag} {mg : Str → Option Value} {base : Heap}
abbrev Stp.key (s : Stp) : RS := ((s.room : Int), s.sign)
structure StpsOk (m : Nat) (ss : List Stp) : Prop where
  m1 : 1 ≤ m
  m12 : m ≤ 12
  few : ss.length < 60
  all : ∀ s ∈ ss, StpOk m s
  once : (ss.map Stp.key).Nodup
def kKey (k : RS) : List Key := [.inl k.1, .inr k.2]
theorem kKey_inj {a b : RS} (h : kKey a = kKey b) : a = b := by
  unfold kKey at h
  simp only [List.cons.injEq, Sum.inl.injEq, Sum.inr.injEq, and_true] at h
  exact Prod.ext h.1 h.2
def IsStps (H : Hp) (v : V) (ss : List Stp) : Prop := ∃ p vs, v = .ref p ∧ H p = some (.lst vs) ∧ AllAre (IsStp H) vs ss
theorem IsStps.mono {H H' : Hp} {v : V} {ss : List Stp} (h : IsStps H v ss) (m : Same H H') : IsStps H' v ss := by
  obtain ⟨p, vs, e, h, a⟩ := h
  exact ⟨p, vs, e, m _ _ h, a.imp fun _ _ r => r.mono m⟩
def spSteps : Sp := fun vs H Q _ => ∃ (v : V) (m : Nat) (ss : List Stp), vs = [v, .int m] ∧ IsStps H v ss ∧ StpsOk m ss ∧ ∀ H', Same H H' → Q (.bl true) H'
theorem ok_p_are_steps (T : Txt K mg) : FnOk P w K mg base CX0 4 T.f_p_are_steps T.d_p_are_steps ["thing", "many"] spSteps := by
  refine T.F_p_are_steps.ok sc_p_are_steps (fun vs H Q E h => ?_) (fun cdv A outer s H vs Q E hr h => ?_)
  · obtain ⟨v, m, ss, rfl, _⟩ := h
    rfl
  · obtain ⟨v, m, ss, rfl, ⟨p, xs, rfl, hp, aa⟩, ok, q⟩ := h
    refine ⟨_, (pss_cons (ps_if (PW.pt (pw_or (pt_not (pt_val (pe_callB call_isi (by rfl) T.z_isinstance (by decide +kernel) (pa_cons (pv 0) (pa_cons (pe_bltn (v := .ty "list") (by rfl) T.z_list (by decide +kernel) rfl) pa_nil))))) (pw_or1 (pt_not (pt_val (pe_callB (cr_all rfl) (by rfl) T.z_all (by decide +kernel) (pa_cons (pe_lc (own := [("step", 2)]) (g := (gName 2)) (tt := tYes) (by rfl) sc_p_are_steps.nd (pi_list (pv 0)) (blkOk_by (own := [("step", 2)]) (N := ["thing", "many", "step", "room", "sign", "weights"]) (sc := defScope s_p_are_steps) (by decide +kernel)) (fun _ _ _ _ _ => by exact (pg_name (i := 2) sc_p_are_steps.nd rfl (.inl rfl))) (fun _ _ _ _ _ => by exact pts_nil) (fun _ _ _ _ _ => by exact (pe_call (ok_p_is_step T) (hr.mono (by decide)) (by rfl) T.g_p_is_step T.F_p_is_step.kp T.b_p_is_step .nil pass0 (pa_cons (pv 2) (pa_cons (pv 1) pa_nil))))) pa_nil)))))))
  (pss_one (ps_ret pe_bl))
  pss_nil)
 (pss_one (ps_ret (pe_cmpR op_eq (pe_callB call_lenM (by rfl) T.z_len (by decide +kernel) (pa_cons (pe_scM (units1 hr.units) (own := [("room", 3), ("sign", 4), ("weights", 5)]) (g := (gTup K 3 (gCons (gName 3) (gCons (gName 4) (gCons (gName 5) gNil))))) (tt := tYes) (by rfl) sc_p_are_steps.nd (pi_list (pv 0)) (blkOk_by (own := [("room", 3), ("sign", 4), ("weights", 5)]) (N := ["thing", "many", "step", "room", "sign", "weights"]) (sc := defScope s_p_are_steps) (by decide +kernel)) (fun _ _ _ _ _ => by exact (pg_tup (by rfl) (pgs_cons (pg_name (i := 3) sc_p_are_steps.nd rfl (.inl rfl)) (pgs_cons (pg_name (i := 4) sc_p_are_steps.nd rfl (.inl rfl)) (pgs_cons (pg_name (i := 5) sc_p_are_steps.nd rfl (.inl rfl)) pgs_nil))))) (fun _ _ _ _ _ => by exact pts_nil) (fun _ _ _ _ _ => by exact (pe_tup (pa_cons (pv 3) (pa_cons (pv 4) pa_nil))))) pa_nil)) (pe_callB call_len_seq (by rfl) T.z_len (by decide +kernel) (pa_cons (pv 0) pa_nil)) (nomark _))))), ?_⟩
    have few := ok.few
    refine ⟨_, rfl, _, _, _, _, true, rfl, .ty _, .base (.lst hp), kit_ty (by decide +kernel), true, rfl, iteF ?_⟩
    refine ⟨_, rfl, p, rfl, ⟨_, SqL.of hp⟩, fun D nD => lc_all (K := K) (a := p) (xs := xs) (fun _ y _ => y = .bl true) (fun _ _ _ _ _ h => h) nD (SqL.of hp) (by rw [aa.1]; omega) (fun i x H2 k hi s2 eD hk => ?_) (fun H2 ys s2 e l r => ?_)⟩
    · obtain ⟨st, hst, hx⟩ := aa.at hi
      exact ⟨rfl, _, rfl, _, rfl, x, m, st, rfl, hx.mono (s2.trans hid_same), ok.all st (List.mem_of_getElem? hst), ok.m12, fun H3 s3 => hk _ _ s3 rfl⟩
    · rw [trues l r] at e
      refine ⟨D, _, rfl, SqL.of e, true, by rw [all_trues], iteF ?_⟩
      have s12 : Same H H2 := s2.trans hid_same
      have hp2 := s12 _ _ hp
      have aa2 : AllAre (IsStp H2) xs ss := aa.imp fun _ _ h => h.mono s12
      refine ⟨_, rfl, p, rfl, ⟨_, SqL.of hp2⟩, fun D2 nD2 => ?_⟩
      -- the set of rooms and signs
      have nk : (ss.map fun s => kKey s.key).Nodup := by
        have e : (ss.map fun s => kKey s.key) = (ss.map Stp.key).map kKey := by rw [List.map_map]; rfl
        rw [e]
        exact List.pairwise_map.mpr (ok.once.imp fun h z => h (kKey_inj z))
      let Pv : Nat → Hp → Prop := fun i H' => ∃ L : Keyed, Same H2 (hid D2 H') ∧ H' D2 = some (MSetO P w D2 L) ∧ L.length = i ∧ (∀ q ∈ L, hid D2 H' q.1 = some (.tup (q.2.map kV))) ∧ ∀ q ∈ L, q.2 ∈ (ss.take i).map fun s => kKey s.key
      have start : Pv 0 (upd H2 D2 (MSetO P w D2 [])) := by
        refine ⟨[], fun b o eb => ?_, upd_same, rfl, (fun q h => by cases h), (fun q h => by cases h)⟩
        rw [hid_ne (ne_of_none eb nD2), upd_ne (ne_of_none eb nD2)]
        exact eb
      refine ⟨fun i mm H' => mm = xs.length - i ∧ i ≤ xs.length ∧ Pv i H', ⟨xs.length, by simp, Nat.zero_le _, start⟩, ?_⟩
      rintro i mm H' ⟨rfl, hi, pv⟩
      obtain ⟨L, sL, eL, lL, tL, kL⟩ := id pv
      have sH : Same H2 H' := sL.trans hid_same
      have sq : SqL K H' p xs := sH.seq (SqL.of hp2)
      by_cases hlt : i < xs.length
      · refine .inr ⟨⟨xs, xs[i], sq, List.getElem?_eq_getElem hlt⟩, Pv (i + 1), fun H'' p' => ⟨xs.length - (i + 1), by omega, rfl, hlt, p'⟩, fun x H'' y => ?_⟩
        obtain ⟨rfl, y⟩ := y
        have hx := y xs sq
        obtain ⟨st, hst, t, wa, rfl, ht, hw⟩ := aa2.at hx
        have ht' := sH _ _ ht
        refine ⟨t, _, rfl, .inl (.inl ht'), rfl, _, _, rfl, _, _, rfl, _, _, rfl, rfl, rfl, ?_⟩
        refine ⟨_, rfl, _, rfl, by show 2 ≤ sizeLine; decide, fun c nc => ?_⟩
        have sc := same_upd (o := .tup [.int st.room, .str st.sign]) nc
        have cD : c ≠ D2 := fun z => by
          rw [z, eL] at nc
          cases nc
        refine ⟨c, kKey st.key, L, rfl, upd_same, sc _ _ eL, fun q hq => sc _ _ (hid_same _ _ (tL q hq)), by rw [aa.1] at hlt; omega, fun L' _ new => ?_⟩
        have out : kKey st.key ∉ L.map (·.2) := fun hm => by
          obtain ⟨q, hq, e⟩ := List.mem_map.mp hm
          obtain ⟨s', hs', e'⟩ := List.mem_map.mp (kL q hq)
          obtain ⟨j, hj, ej⟩ := List.mem_iff_getElem.mp hs'
          rw [List.length_take] at hj
          rw [List.getElem_take] at ej
          have g1 : (ss.map fun s => kKey s.key)[j]? = some (kKey st.key) := by
            rw [List.getElem?_map, List.getElem?_eq_getElem (by omega), ej]
            show some (kKey s'.key) = _
            rw [e', e]
          have g2 : (ss.map fun s => kKey s.key)[i]? = some (kKey st.key) := by rw [List.getElem?_map, hst]; rfl
          have := nodup_inj nk g1 g2
          omega
        have pm := new out
        refine ⟨L', ?_, upd_same, by rw [pm.length_eq, List.length_cons, lL], fun q hq => ?_, fun q hq => ?_⟩
        · rw [hid_upd]
          exact sL.trans (hid_mono sc)
        · rw [hid_upd]
          rcases List.mem_cons.mp (pm.mem_iff.mp hq) with rfl | hq
          · rw [hid_ne cD]
            exact upd_same
          · exact hid_mono sc _ _ (tL q hq)
        · rw [List.take_add_one, hst, List.map_append]
          rcases List.mem_cons.mp (pm.mem_iff.mp hq) with rfl | hq
          · exact List.mem_append_right _ (by simp)
          · exact List.mem_append_left _ (kL q hq)
      · have ei : i = xs.length := by omega
        subst ei
        refine .inl ⟨⟨xs, sq, Nat.le_refl _⟩, ?_⟩
        refine ⟨D2, L, rfl, eL, _, rfl, p, xs, rfl, .inl sq, rfl, ?_⟩
        rw [decide_eq_true (show V.int (L.length : Int) = V.int (xs.length : Int) by rw [lL])]
        exact q H' (s12.trans sH)
def gcdF (g : Nat) : List Nat → Nat
  | [] => g
  | n :: r => gcdF (Nat.gcd n g) r
theorem gcdF_snoc (n : Nat) : ∀ (l : List Nat) (g : Nat), gcdF g (l ++ [n]) = Nat.gcd n (gcdF g l)
  | [], _ => rfl
  | _ :: l, _ => gcdF_snoc n l _
theorem gcdF_dvd : ∀ (l : List Nat) (g : Nat), gcdF g l ∣ g ∧ ∀ n ∈ l, gcdF g l ∣ n
  | [], g => ⟨Nat.dvd_refl _, fun n h => by cases h⟩
  | x :: l, g => by
    obtain ⟨h1, h2⟩ := gcdF_dvd l (Nat.gcd x g)
    refine ⟨Nat.dvd_trans h1 (Nat.gcd_dvd_right _ _), fun n hn => ?_⟩
    rcases List.mem_cons.mp hn with rfl | hn
    · exact Nat.dvd_trans h1 (Nat.gcd_dvd_left _ _)
    · exact h2 n hn
theorem gcdF_pos {l : List Nat} {g : Nat} (h : ∃ n ∈ l, 0 < n) : 0 < gcdF g l := by
  obtain ⟨n, hn, h0⟩ := h
  exact Nat.pos_of_dvd_of_pos ((gcdF_dvd l g).2 n hn) h0
def low (ws : List Nat) : List Nat := ws.map (· / gcdF 0 ws)
def spLowest : Sp := fun vs H Q _ => ∃ (wa : Addr) (ws : List Nat), vs = [.ref wa] ∧ H wa = some (.tup (nts ws)) ∧ (∃ n ∈ ws, 0 < n) ∧ (∀ n ∈ ws, n < 2 ^ 4000) ∧ ws.length ≤ 900 ∧ ∀ H' r, Same H H' → H' r = some (.tup (nts (low ws))) → Q (.ref r) H'
theorem ok_p_lowest (T : Txt K mg) : FnOk P w K mg base CX0 2 T.f_p_lowest T.d_p_lowest ["weights"] spLowest := by
  refine T.F_p_lowest.ok sc_p_lowest (fun vs H Q E h => ?_) (fun cdv A outer s H vs Q E hr h => ?_)
  · obtain ⟨wa, ws, rfl, _⟩ := h
    rfl
  · obtain ⟨wa, ws, rfl, hw, pos, bd, l9, q⟩ := h
    refine ⟨_, (pss_cons (ps_set (i := 1) sc_p_lowest.nd rfl (.inr rfl) pe_int)
 (pss_cons (ps_for PassesOwn.never rfl (pi_tup (pv 0)) (pg_name (i := 2) sc_p_lowest.nd rfl (.inl rfl))
  (pss_one (ps_set (i := 1) sc_p_lowest.nd rfl (.inr rfl) (pe_call (ok_p_common_part T) (hr.mono (by decide)) (by rfl) T.g_p_common_part T.F_p_common_part.kp T.b_p_common_part .nil pass0 (pa_cons (pv 2) (pa_cons (pv 1) pa_nil))))))
 (pss_one (ps_ret (pe_callTy call_tuple_of (by rfl) T.z_tuple (by decide +kernel) (pa_cons (pe_lc (own := [("weight", 2)]) (g := (gName 2)) (tt := tYes) (by rfl) sc_p_lowest.nd (pi_tup (pv 0)) (blkOk_by (own := [("weight", 2)]) (N := ["weights", "common", "weight"]) (sc := defScope s_p_lowest) (by decide +kernel)) (fun _ _ _ _ _ => by exact (pg_name (i := 2) sc_p_lowest.nd rfl (.inl rfl))) (fun _ _ _ _ _ => by exact pts_nil) (fun _ _ _ _ _ => by exact (pe_op op_fdivW (pv 2) (pv 1)))) pa_nil)))))), ?_⟩
    have lw : (nts ws).length = ws.length := List.length_map ..
    refine ⟨_, rfl, wa, rfl, ⟨_, .inl (.inl hw)⟩, for_tup (K := K) (a := wa) (xs := nts ws) (fun i σ H' => ∃ y, σ = [some (.ref wa), some (.int (gcdF 0 (ws.take i) : Nat)), y] ∧ H' = H) ⟨none, rfl, rfl⟩ (fun i σ H' _ h => ?_) (fun i x σ H' hi h => ?_) (fun σ H' h => ?_)⟩
    · obtain ⟨y, _, rfl⟩ := h
      exact .inl (.inl hw)
    · obtain ⟨y, rfl, rfl⟩ := h
      rw [List.getElem?_map] at hi
      obtain ⟨n, hn, rfl⟩ := Option.map_eq_some_iff.mp hi
      refine ⟨_, rfl, _, rfl, (n : Int), (gcdF 0 (ws.take i) : Nat), rfl, ?_⟩
      refine ⟨some (.int n), ?_, rfl⟩
      rw [List.take_add_one, hn]
      show _ = [some (V.ref wa), some (.int (gcdF 0 (ws.take i ++ [n]) : Nat)), _]
      rw [gcdF_snoc, Int.gcd_natCast_natCast]
      rfl
    · obtain ⟨y, rfl, rfl⟩ := h
      rw [lw, List.take_length]
      have g0 : 0 < gcdF 0 ws := gcdF_pos pos
      obtain ⟨n0, hn0, h0⟩ := pos
      have gl : gcdF 0 ws < 2 ^ 4000 := Nat.lt_of_le_of_lt (Nat.le_of_dvd h0 ((gcdF_dvd ws 0).2 n0 hn0)) (bd n0 hn0)
      refine ⟨_, rfl, wa, rfl, ⟨_, .inl (.inl hw)⟩, fun D nD => lc_allW (walk_tup (K := K) (a := wa) (xs := nts ws)) (fun i y _ => ∃ n, ws[i]? = some n ∧ y = .int ((n / gcdF 0 ws : Nat))) (fun _ _ _ _ _ h => h) nD (fun H' s => .inl (.inl (s _ _ hw))) (by omega) (fun i v H2 H3 k hi s2 eD y hk => ?_) (fun H2 ys s2 e l r => ?_)⟩
      · obtain ⟨rfl, hv⟩ := y
        rw [List.getElem?_map] at hv
        obtain ⟨n, hn, rfl⟩ := Option.map_eq_some_iff.mp hv
        refine ⟨rfl, _, rfl, _, rfl, _, _, rfl, rfl, wide_div (b := 4000) (by omega) (nat_abs gl) (by decide) (by decide), hk _ _ (Same.refl _) ⟨n, hn, ?_⟩⟩
        dsimp only
        rw [Int.natCast_ediv]
      · have ey : ys = nts (low ws) := by
          refine List.ext_getElem? fun i => ?_
          by_cases hi : i < ys.length
          · obtain ⟨n, hn, hy⟩ := r i _ (List.getElem?_eq_getElem hi)
            rw [List.getElem?_eq_getElem hi, hy]
            unfold nts low
            rw [List.map_map, List.getElem?_map, hn]
            rfl
          · rw [List.getElem?_eq_none (by omega), List.getElem?_eq_none (by simp [nts, low]; omega)]
        rw [ey] at e
        refine ⟨D, _, rfl, .inl ⟨SqL.of e, fun t nt => ?_⟩⟩
        exact q _ t ((s2.trans hid_same).trans (same_upd nt)) upd_same
end
end Fb
namespace Fb
open PySem PySem.Spec PyProof.Rows L2
section
variable {P : Program} {w : World} {K : PySem.W.Frag} {mg : Str → Option Value} {base : Heap}
theorem ms : ¬ (("many" : Str) = "steps") := by decide +kernel
def mflds (m : Nat) (r : Addr) : List (Str × V) := putF "steps" (.ref r) (putF "many" (.int (m : Int)) [])
theorem mflds_many (m : Nat) (r : Addr) : (mflds m r).lookup ("many" : Str) = some (.int (m : Int)) := by
  unfold mflds
  rw [lookup_putF, if_neg ms, lookup_putF, if_pos rfl]
theorem mflds_steps (m : Nat) (r : Addr) : (mflds m r).lookup ("steps" : Str) = some (.ref r) := by
  unfold mflds
  rw [lookup_putF, if_pos rfl]
def lowS (s : Stp) : Stp := ⟨s.room, s.sign, low s.ws⟩
theorem lowS_key (s : Stp) : (lowS s).key = s.key := rfl
structure Sorted (out : List Stp) : Prop where
  up : out.Pairwise fun a b => rsLt a.key b.key = true
def SortedOf (ss out : List Stp) : Prop := out.Perm (ss.map lowS) ∧ Sorted out
theorem sorted_uniq : ∀ {a b : List Stp}, Sorted a → Sorted b → a.Perm b → a = b
  | [], b, _, _, p => (List.Perm.eq_nil p.symm).symm
  | x :: a, [], _, _, p => absurd p.length_eq (by simp)
  | x :: a, y :: b, ⟨ha⟩, ⟨hb⟩, p => by
    have ha' := List.pairwise_cons.mp ha
    have hb' := List.pairwise_cons.mp hb
    have e : x = y := by
      rcases List.mem_cons.mp (p.mem_iff.mp List.mem_cons_self) with e | hx
      · exact e
      · rcases List.mem_cons.mp (p.symm.mem_iff.mp List.mem_cons_self) with e | hy
        · exact e.symm
        · have h1 := hb'.1 x hx
          have h2 := ha'.1 y hy
          have := rsLt_trans h1 h2
          rw [rsLt_irr] at this
          cases this
    subst e
    rw [sorted_uniq ⟨ha'.2⟩ ⟨hb'.2⟩ (List.Perm.cons_inv p)]
theorem AllAre.uncons' {α : Type} {R : V → α → Prop} {v : V} {vs : List V} {xs : List α} (h : AllAre R (v :: vs) xs) : ∃ x r, xs = x :: r ∧ R v x ∧ AllAre R vs r := by
  cases xs with
  | nil => exact absurd h.1 (by simp)
  | cons x r => exact ⟨x, r, rfl, h.2 0 v x rfl rfl, by simpa using h.1, fun i a b h1 h2 => h.2 (i + 1) a b (by simpa using h1) (by simpa using h2)⟩
theorem AllAre.perm {α : Type} {R : V → α → Prop} {xs ys : List V} (p : ys.Perm xs) : ∀ {as : List α}, AllAre R xs as → ∃ bs, AllAre R ys bs ∧ bs.Perm as := by
  induction p with
  | nil => exact fun {as} h => ⟨as, h, List.Perm.refl _⟩
  | cons x _ ih =>
    intro as h
    obtain ⟨a, r, rfl, h1, h2⟩ := h.uncons'
    obtain ⟨bs, b1, b2⟩ := ih h2
    exact ⟨a :: bs, .cons h1 b1, b2.cons a⟩
  | swap x y l =>
    intro as h
    obtain ⟨a, r, rfl, h1, h2⟩ := h.uncons'
    obtain ⟨b, r', rfl, h3, h4⟩ := h2.uncons'
    exact ⟨b :: a :: r', .cons h3 (.cons h1 h4), List.Perm.swap a b r'⟩
  | trans _ _ ih1 ih2 =>
    intro as h
    obtain ⟨bs, b1, b2⟩ := ih2 h
    obtain ⟨cs, c1, c2⟩ := ih1 b1
    exact ⟨cs, c1, c2.trans b2⟩
/-- the room and sign of what stands at a value -/
def kfH (H : Hp) : V → RS
  | .ref t => match H t with
    | some (.tup (.int i :: .str s :: _)) => (i, s)
    | _ => (0, ⟨#[]⟩)
  | _ => (0, ⟨#[]⟩)
theorem kfH_of {H : Hp} {v : V} {s : Stp} (h : IsStp H v s) : kfH H v = s.key := by
  obtain ⟨t, wa, rfl, ht, _⟩ := h
  simp only [kfH, ht]
def spMach (C : Addr) : Sp := fun vs H Q _ => ∃ (p dx : Addr) (m : Nat) (v : V) (ss : List Stp), vs = [.ref p, .int m, v] ∧ H p = some (.ins C dx []) ∧ IsStps H v ss ∧ StpsOk m ss ∧
  ∀ H' r svs out, (∀ a o, H a = some o → a ≠ p → H' a = some o) → H' p = some (.ins C dx (mflds m r)) → H r = none → H' r = some (.lst svs) → AllAre (IsStp H') svs out → SortedOf ss out → Q .non H'
theorem nts_keys (ns : List Nat) : nts ns = (ns.map fun (n : Nat) => (Sum.inl (n : Int) : Key)).map kV := by
  rw [List.map_map]
  rfl
theorem ok_m_Machine_init (T : Txt K mg) : FnOk P w K mg base CX0 5 T.f_m_Machine_init T.d_m_Machine_init ["self", "many", "steps"] (spMach T.c_Machine) := by
  refine T.F_m_Machine_init.ok sc_m_Machine_init (fun vs H Q E h => ?_) (fun cdv A outer s H vs Q E hr h => ?_)
  · obtain ⟨p, dx, m, v, ss, rfl, _⟩ := h
    rfl
  · obtain ⟨p, dx, m, v, ss, rfl, hp, hv, ok, q⟩ := h
    refine ⟨_, PSs.nox (pss_cons (ps_if (PW.pt (pw_or (pt_not (pt_val (pe_call (ok_p_is_whole T) (hr.mono (by decide)) (by rfl) T.g_p_is_whole T.F_p_is_whole.kp T.b_p_is_whole .nil pass0 (pa_cons (pv 1) pa_nil)))) (pw_or1 (pt_not (pt_chain op_le op_le pe_int (pv 1) (pe_glob (by rfl) T.g_MOST_ROOMS T.r_MOST_ROOMS))))))
  (pss_one ps_never)
  pss_nil)
 (pss_cons (ps_if (pt_not (pt_val (pe_call (ok_p_are_steps T) (hr.mono (by decide)) (by rfl) T.g_p_are_steps T.F_p_are_steps.kp T.b_p_are_steps .nil pass0 (pa_cons (pv 2) (pa_cons (pv 1) pa_nil)))))
  (pss_one ps_never)
  pss_nil)
 (pss_cons (ps_fld (pv 0) (pv 1) rfl)
 (pss_one (ps_fld (pv 0) (pe_callB (cr_sortS (units2 hr.units)) (by rfl) T.z_sorted (by decide +kernel) (pa_cons (pe_lc (own := [("room", 3), ("sign", 4), ("weights", 5)]) (g := (gTup K 3 (gCons (gName 3) (gCons (gName 4) (gCons (gName 5) gNil))))) (tt := tYes) (by rfl) sc_m_Machine_init.nd (pi_list (pv 2)) (blkOk_by (own := [("room", 3), ("sign", 4), ("weights", 5)]) (N := ["self", "many", "steps", "room", "sign", "weights"]) (sc := defScope s_m_Machine_init) (by decide +kernel)) (fun _ _ _ _ _ => by exact (pg_tup (by rfl) (pgs_cons (pg_name (i := 3) sc_m_Machine_init.nd rfl (.inl rfl)) (pgs_cons (pg_name (i := 4) sc_m_Machine_init.nd rfl (.inl rfl)) (pgs_cons (pg_name (i := 5) sc_m_Machine_init.nd rfl (.inl rfl)) pgs_nil))))) (fun _ _ _ _ _ => by exact pts_nil) (fun _ _ _ _ _ => by exact (pe_tup (pa_cons (pv 3) (pa_cons (pv 4) (pa_cons (pe_call (ok_p_lowest T) (hr.mono (by decide)) (by rfl) T.g_p_lowest T.F_p_lowest.kp T.b_p_lowest .nil pass0 (pa_cons (pv 5) pa_nil)) pa_nil)))))) pa_nil)) rfl))))), ?_⟩
    have m1 := ok.m1
    have m12 := ok.m12
    refine ⟨_, rfl, (m : Int), rfl, true, rfl, iteF ?_⟩
    refine ⟨_, rfl, _, _, rfl, rfl, true, congrArg V.bl (decide_eq_true (by omega)), iteT ⟨_, _, rfl, rfl, true, congrArg V.bl (decide_eq_true (by omega)), iteF ?_⟩⟩
    refine ⟨_, rfl, _, rfl, v, m, ss, rfl, hv, ok, fun H1 s1 => ⟨true, rfl, iteF ?_⟩⟩
    have hp1 := s1 _ _ hp
    refine ⟨_, rfl, _, rfl, p, T.c_Machine, dx, [], rfl, hp1, T.cl_Machine, T.n_Machine_many, (by show 0 < 1000; decide), ?_⟩
    generalize hH2 : upd H1 p (.ins T.c_Machine dx (putF "many" (.int (m : Int)) [])) = H2
    have k2 : ∀ a o, H1 a = some o → a ≠ p → H2 a = some o := fun a o e ne => by
      rw [← hH2, upd_ne ne]
      exact e
    have hp2 : H2 p = some (.ins T.c_Machine dx (putF "many" (.int (m : Int)) [])) := by rw [← hH2]; exact upd_same
    have nlp : ∀ {a : Addr} {xs : List V}, H1 a = some (.lst xs) → a ≠ p := fun e z => by
      rw [z, hp1] at e
      cases e
    have ntp : ∀ {a : Addr} {xs : List V}, H1 a = some (.tup xs) → a ≠ p := fun e z => by
      rw [z, hp1] at e
      cases e
    obtain ⟨pv, xs, rfl, ev, av⟩ := hv.mono s1
    have ev2 := k2 _ _ ev (nlp ev)
    have av2 : AllAre (IsStp H2) xs ss := av.imp fun _ _ h => by
      obtain ⟨t, wa, e, h1, h2⟩ := h
      exact ⟨t, wa, e, k2 _ _ h1 (ntp h1), k2 _ _ h2 (ntp h2)⟩
    have few := ok.few
    refine ⟨_, rfl, pv, rfl, ⟨_, SqL.of ev2⟩, fun D nD => lc_all (K := K) (a := pv) (xs := xs) (fun i y G => ∃ st, ss[i]? = some st ∧ IsStp G y (lowS st)) (fun _ _ _ _ s h => h.elim fun st f => ⟨st, f.1, f.2.mono s⟩) nD (SqL.of ev2) (by rw [av.1]; omega) (fun i x H3 k hi s3 eD hk => ?_) (fun H3 ys s3 e3 l3 r3 => ?_)⟩
    · obtain ⟨st, hst, t, wa, rfl, ht, hw⟩ := av2.at hi
      have so := ok.all st (List.mem_of_getElem? hst)
      have ht := hid_same _ _ (s3 _ _ ht)
      have hw := hid_same _ _ (s3 _ _ hw)
      refine ⟨t, _, rfl, .inl (.inl ht), rfl, _, _, rfl, _, _, rfl, _, _, rfl, rfl, rfl, ?_⟩
      refine ⟨_, rfl, _, rfl, _, rfl, wa, st.ws, rfl, hw, so.wts.pos, so.wts.bd, by rw [so.wts.len]; omega, fun H4 r4 s4 h4 => ?_⟩
      refine ⟨by show 3 ≤ sizeLine; decide, fun c nc => ?_⟩
      have sc := same_upd (o := .tup [.int st.room, .str st.sign, .ref r4]) nc
      have eD' : ∃ ys, (upd H4 c (.tup [.int st.room, .str st.sign, .ref r4])) D = some (.lst ys) := by
        obtain ⟨ys', e'⟩ := eD
        exact ⟨ys', sc _ _ (s4 _ _ e')⟩
      exact hk _ _ (s4.trans sc) ⟨st, hst, c, r4, rfl, hid_no eD' upd_same (fun _ => nofun), hid_no eD' (sc _ _ h4) (fun _ => nofun)⟩
    · have aS : AllAre (IsStp H3) ys (ss.map lowS) := .of_ix (by rw [l3, av.1, List.length_map]) fun i y hy => by
        obtain ⟨st, hst, h⟩ := r3 i y hy
        exact ⟨lowS st, by rw [List.getElem?_map, hst]; rfl, h.mono hid_same⟩
      have kf_at : ∀ {i : Nat} {y : V} {st : Stp}, ys[i]? = some y → ss[i]? = some st → kfH H3 y = st.key := fun {i y st} hy hs => by
        have := aS.2 i y (lowS st) hy (by rw [List.getElem?_map, hs]; rfl)
        rw [kfH_of this, lowS_key]
      have ixs : ∀ {y : V}, y ∈ ys → ∃ i st, ys[i]? = some y ∧ ss[i]? = some st := fun {y} hy => by
        obtain ⟨i, hi, e⟩ := List.mem_iff_getElem.mp hy
        have hl : i < ss.length := by rw [l3, av.1] at hi; exact hi
        exact ⟨i, ss[i], by rw [List.getElem?_eq_getElem hi, e], List.getElem?_eq_getElem hl⟩
      have one : ∀ x ∈ ys, ∀ y ∈ ys, kfH H3 x = kfH H3 y → x = y := fun x hx y hy e => by
        obtain ⟨i, si, a1, a2⟩ := ixs hx
        obtain ⟨j, sj, b1, b2⟩ := ixs hy
        rw [kf_at a1 a2, kf_at b1 b2] at e
        have := nodup_inj ok.once (i := i) (j := j) (x := si.key) (by rw [List.getElem?_map, a2]; rfl) (by rw [List.getElem?_map, b2, e]; rfl)
        subst this
        rw [a1] at b1
        cases b1
        rfl
      refine ⟨D, ys, kfH H3, rfl, SqL.of e3, by rw [l3, av.1]; omega, fun x hx => ?_, one, fun zs r pm up nr => ?_⟩
      · obtain ⟨i, si, a1, a2⟩ := ixs hx
        obtain ⟨t, wa, rfl, ht, hw⟩ := aS.2 i x (lowS si) a1 (by rw [List.getElem?_map, a2]; rfl)
        refine ⟨t, wa, _, rfl, ?_, by rw [← nts_keys]; exact hw⟩
        rw [kf_at a1 a2]
        exact ht
      · have sr := same_upd (o := .lst zs) nr
        have s23 : Same H2 H3 := s3.trans hid_same
        have hp3 := sr _ _ (s23 _ _ hp2)
        obtain ⟨out, aO, pO⟩ := AllAre.perm pm aS
        have rp : r ≠ p := fun z => by
          rw [z, s23 _ _ hp2] at nr
          cases nr
        refine ⟨_, rfl, p, T.c_Machine, dx, _, rfl, hp3, T.cl_Machine, T.n_Machine_steps, (by show 1 < 1000; decide), ?_⟩
        have keepP : ∀ a o, (upd H3 r (.lst zs)) a = some o → a ≠ p → (upd (upd H3 r (.lst zs)) p (.ins T.c_Machine dx (mflds m r))) a = some o := fun a o e ne => by
          rw [upd_ne ne]
          exact e
        refine q _ r zs out (fun a o e ne => keepP a o (sr _ _ (s23 _ _ (k2 a o (s1 _ _ e) ne))) ne) upd_same ?_ (keepP r _ upd_same rp) (aO.imp fun _ _ h => ?_) ⟨pO, ⟨?_⟩⟩
        · cases e : H r with
          | none => rfl
          | some o =>
            have := s23 _ _ (k2 _ _ (s1 _ _ e) rp)
            rw [nr] at this
            cases this
        · obtain ⟨t, wa, e, h1, h2⟩ := h
          have tp : ∀ {a : Addr} {xs : List V}, H3 a = some (.tup xs) → a ≠ p := fun e z => by
            rw [z, s23 _ _ hp2] at e
            cases e
          exact ⟨t, wa, e, keepP _ _ (sr _ _ h1) (tp h1), keepP _ _ (sr _ _ h2) (tp h2)⟩
        · rw [List.pairwise_iff_getElem]
          intro i j hi hj hij
          have gi : zs[i]? = some (zs[i]'(by rw [aO.1]; exact hi)) := List.getElem?_eq_getElem _
          have gj : zs[j]? = some (zs[j]'(by rw [aO.1]; exact hj)) := List.getElem?_eq_getElem _
          have ki := kfH_of (aO.2 i _ _ gi (List.getElem?_eq_getElem hi))
          have kj := kfH_of (aO.2 j _ _ gj (List.getElem?_eq_getElem hj))
          have le := (List.pairwise_iff_getElem.mp up) i j (by rw [aO.1]; exact hi) (by rw [aO.1]; exact hj) hij
          rw [ki, kj] at le
          cases lt : rsLt out[i].key out[j].key with
          | true => rfl
          | false =>
            exfalso
            have e := rsLt_total lt le
            have nd : (out.map Stp.key).Nodup := by
              refine (pO.map Stp.key).nodup_iff.mpr ?_
              rw [List.map_map]
              exact ok.once
            have := nodup_inj nd (i := i) (j := j) (x := out[i].key) (by rw [List.getElem?_map, List.getElem?_eq_getElem hi]; rfl) (by rw [List.getElem?_map, List.getElem?_eq_getElem hj, e]; rfl)
            omega
end
end Fb
namespace Fb
open PySem PySem.Spec PyProof.Rows L2
section
variable {P : Program} {w : World} {K : PySem.W.Frag} {mg : Str → Option Value} {base : Heap}
def tenNames : List Str := ["a", "ab", "b", "stop", "toss", "abc", "part", "zzzzzzzz", "ba", "aa"]
def kqs : List Nat := ("kqxzjvwmbt" : Str).cps.toList
def NmFrom (z : Str) : Prop := z ∈ tenNames ∨ ∃ c ∈ kqs, z.cps.toList.getLast? = some c
structure NmsOk (m : Nat) (zs : List Str) : Prop where
  len : zs.length = m
  nd : zs.Nodup
  all : ∀ z ∈ zs, NmOk z
  src : ∀ z ∈ zs, NmFrom z
theorem nmOk_of {x : Str} (h : (decide (1 ≤ x.length) && decide (x.length ≤ 8) && x.cps.toList.all fun c => decide (c ∈ letters)) = true) : NmOk x := by
  rw [Bool.and_eq_true, Bool.and_eq_true] at h
  exact ⟨of_decide_eq_true h.1.1, of_decide_eq_true h.1.2, fun c hc => of_decide_eq_true (List.all_eq_true.mp h.2 c hc)⟩
theorem ten_all : ∀ z ∈ tenNames, NmOk z := fun z hz => nmOk_of (by
  have : (tenNames.all fun x => (decide (1 ≤ x.length) && decide (x.length ≤ 8) && x.cps.toList.all fun c => decide (c ∈ letters))) = true := by decide +kernel
  exact List.all_eq_true.mp this z hz)
theorem ten_nd : tenNames.Nodup := by decide +kernel
def rot (k m : Nat) : List Str := (tenNames.drop k ++ tenNames.take k).take m
theorem rot_ok {k m : Nat} (hm : m ≤ 10) : NmsOk m (rot k m) := by
  have pm : (tenNames.drop k ++ tenNames.take k).Perm tenNames := List.perm_append_comm.trans (by rw [List.take_append_drop])
  have l10 : (tenNames.drop k ++ tenNames.take k).length = 10 := pm.length_eq
  have mem : ∀ z ∈ rot k m, z ∈ tenNames := fun z hz => pm.mem_iff.mp (List.mem_of_mem_take hz)
  exact ⟨by unfold rot; rw [List.length_take, l10]; omega, (List.take_sublist _ _).nodup (pm.nodup_iff.mpr ten_nd), fun z hz => ten_all z (mem z hz), fun z hz => .inl (mem z hz)⟩
theorem kq_nd : kqs.Nodup := by decide +kernel
theorem kq_let : ∀ c ∈ kqs, c ∈ letters := by decide +kernel
theorem kq_cut {m : Nat} (h : m ≤ 10) : (cutS ("kqxzjvwmbt" : Str) none (some (m : Int))).cps.toList = kqs.take m := by
  show ((kqs.drop 0).take (HT.sIx 10 10 (some (m : Int)) - 0)).toArray.toList = _
  rw [HT.sIx_nat, Nat.min_eq_left h]
  rfl
theorem of_ends {zs : List Str} {cs : List Nat} (h : zs.map (fun z => z.cps.toList.getLast?) = cs.map some) (nd : cs.Nodup) : zs.Nodup := by
  have h1 : (cs.map some).Nodup := List.pairwise_map.mpr (nd.imp fun hab e => hab (Option.some.inj e))
  rw [← h] at h1
  exact (List.pairwise_map.mp h1).imp fun hab e => hab (by rw [e])
theorem none_of {H H' : Hp} {p : Addr} (s : Same H H') (h : H' p = none) : H p = none := by
  cases e : H p with
  | none => rfl
  | some o =>
    have := s _ _ e
    rw [h] at this
    cases this
def spNames : Sp := fun vs H Q _ => ∃ (a : Addr) (m n : Nat), vs = [.ref a, .int m] ∧ m ≤ 8 ∧ WellAt H a (n + 100) ∧
  ∀ H' p zs, H p = none → Same (hid a H) (hid a H') → WellAt H' a n → H' p = some (.lst (zs.map V.str)) → NmsOk m zs → Q (.ref p) H'
theorem four_at {d : Int} {i : Nat} {x : V} (d0 : 0 ≤ d) (d8 : d < 8) (h : [V.int 0, V.int 0, V.int 1, V.int d][i]? = some x) : ∃ l : Nat, l ≤ 7 ∧ x = .int l := by
  match i with
  | 0 => cases h; exact ⟨0, by omega, rfl⟩
  | 1 => cases h; exact ⟨0, by omega, rfl⟩
  | 2 => cases h; exact ⟨1, by omega, rfl⟩
  | 3 => cases h; exact ⟨d.toNat, by omega, by rw [Int.toNat_of_nonneg d0]⟩
  | k + 4 => cases h
theorem ok_l_names (T : Txt K mg) : FnOk P w K mg base CX0 3 T.f_l_names T.d_l_names ["_law_well_here", "_law_many"] spNames := by
  refine T.F_l_names.ok sc_l_names (fun vs H Q E h => ?_) (fun cdv A outer s H vs Q E hr h => ?_)
  · obtain ⟨a, m, n, rfl, _⟩ := h
    rfl
  · obtain ⟨a, m, n, rfl, m4, hw, q⟩ := h
    refine ⟨_, (pss_cons (ps_if (pt_cmpR op_eq (pe_call (ok_l_draw T) (hr.mono (by decide)) (by rfl) T.g_l_draw T.F_l_draw.kp T.b_l_draw .nil pass0 (pa_cons (pv 0) (pa_cons pe_int pa_nil))) pe_int (nomark _))
  (pss_cons (ps_set (i := 2) sc_l_names.nd rfl (.inl rfl) (pe_lst (pa_cons pe_str (pa_cons pe_str (pa_cons pe_str (pa_cons pe_str (pa_cons pe_str (pa_cons pe_str (pa_cons pe_str (pa_cons pe_str (pa_cons pe_str (pa_cons pe_str pa_nil))))))))))))
 (pss_cons (ps_set (i := 3) sc_l_names.nd rfl (.inl rfl) (pe_call (ok_l_draw T) (hr.mono (by decide)) (by rfl) T.g_l_draw T.F_l_draw.kp T.b_l_draw .nil pass0 (pa_cons (pv 0) (pa_cons pe_int pa_nil))))
 (pss_one (ps_ret (pe_slice sl_list (pe_op op_cat (pe_slice sl_list (pv 2) (po_some (pv 3)) po_none) (pe_slice sl_list (pv 2) po_none (po_some (pv 3)))) po_none (po_some (pv 1)))))))
  pss_nil)
 (pss_cons (ps_set (i := 4) sc_l_names.nd rfl (.inl rfl) (pe_lst pa_nil))
 (pss_cons (ps_for PassesOwn.never rfl (pi_str (pe_slice sl_str pe_str po_none (po_some (pv 1)))) (pg_name (i := 5) sc_l_names.nd rfl (.inl rfl))
  (pss_cons (ps_set (i := 6) sc_l_names.nd rfl (.inl rfl) pe_str)
 (pss_cons (ps_for PassesOwn.never rfl (pi_range1 (by rfl) T.z_range (pa_cons (pe_call (ok_l_one T) (hr.mono (by decide)) (by rfl) T.g_l_one T.F_l_one.kp T.b_l_one .nil pass0 (pa_cons (pv 0) (pa_cons (pe_lst (pa_cons pe_int (pa_cons pe_int (pa_cons pe_int (pa_cons (pe_call (ok_l_draw T) (hr.mono (by decide)) (by rfl) T.g_l_draw T.F_l_draw.kp T.b_l_draw .nil pass0 (pa_cons (pv 0) (pa_cons pe_int pa_nil))) pa_nil))))) pa_nil))) pa_nil)) (pg_name (i := 7) sc_l_names.nd rfl (.inl rfl))
  (pss_one (ps_set (i := 6) sc_l_names.nd rfl (.inl rfl) (pe_op op_add_str (pv 6) (pe_ix ix_str pe_str (pe_call (ok_l_draw T) (hr.mono (by decide)) (by rfl) T.g_l_draw T.F_l_draw.kp T.b_l_draw .nil pass0 (pa_cons (pv 0) (pa_cons pe_int pa_nil))) (fun _ _ => rfl))))))
 (pss_one (ps_expr (pe_bm PySem.F.plainAttrs_list PySem.F.slot_list_append PySem.F.type_list_append mt_append (pv 4) (pa_cons (pe_op op_add_str (pv 6) (pv 5)) pa_nil)))))))
 (pss_one (ps_ret (pv 4)))))), ?_⟩
    refine ⟨_, rfl, a, 3, n + 99, rfl, hw, by decide, by decide, fun d H1 d0 d1 s1 w1 => ⟨rfl, _, rfl, ite2 (fun h => ?_) (fun h => ?_)⟩⟩
    · refine ⟨by show 10 ≤ sizeLine; decide, fun ps nps => ?_⟩
      obtain ⟨w2, s2⟩ := well_new (o := .lst (tenNames.map V.str)) w1 nps
      have hps : (upd H1 ps (.lst (tenNames.map V.str))) ps = some (.lst (tenNames.map V.str)) := upd_same
      have npa := w1.ne nps
      refine ⟨_, rfl, a, 10, n + 98, rfl, w2, by decide, by decide, fun e H2 e0 e1 s3 w3 => ?_⟩
      obtain ⟨k, rfl⟩ : ∃ k : Nat, e = (k : Int) := ⟨e.toNat, (Int.toNat_of_nonneg e0).symm⟩
      have hps2 : H2 ps = some (.lst (tenNames.map V.str)) := hid_same _ _ (s3 _ _ (by rw [hid_ne npa]; exact hps))
      have sH : Same (hid a H) (hid a H2) := s1.trans (s2.trans s3)
      refine ⟨_, rfl, _, rfl, k, rfl, ps, _, rfl, SqL.of hps2, fun p1 np1 => ?_⟩
      have t1 := same_upd (o := .lst (cutV (tenNames.map V.str) (some (k : Int)) none)) np1
      refine ⟨_, rfl, _, rfl, k, rfl, ps, _, rfl, SqL.of (t1 _ _ hps2), fun p2 np2 => ?_⟩
      have t2 := same_upd (o := .lst (cutV (tenNames.map V.str) none (some (k : Int)))) np2
      refine ⟨p1, p2, _, _, rfl, rfl, t2 _ _ upd_same, upd_same, ?_, fun p3 np3 => ?_⟩
      · have h1 := cutV_length (tenNames.map V.str) (some (k : Int)) none
        have h2 := cutV_length (tenNames.map V.str) none (some (k : Int))
        rw [List.length_map] at h1 h2
        have : tenNames.length = 10 := rfl
        exact Nat.le_of_lt (small1000 (by omega))
      have t3 := same_upd (o := .lst (cutV (tenNames.map V.str) (some (k : Int)) none ++ cutV (tenNames.map V.str) none (some (k : Int)))) np3
      refine ⟨_, rfl, m, rfl, p3, _, rfl, SqL.of upd_same, fun p4 np4 => ?_⟩
      have t4 := same_upd (o := .lst (cutV (cutV (tenNames.map V.str) (some (k : Int)) none ++ cutV (tenNames.map V.str) none (some (k : Int))) none (some (m : Int)))) np4
      have st := t1.trans (t2.trans (t3.trans t4))
      refine q _ p4 (rot k m) ?_ (sH.trans (hid_mono st)) ((w3.same st).mono (by omega)) ?_ (rot_ok (by omega))
      · exact none_back sH w3 (none_of (t1.trans (t2.trans t3)) np4)
      · have c1 := cut_from (xs := tenNames.map V.str) (k := k) (by rw [List.length_map]; show k ≤ 10; omega)
        have c2 := cut_to (xs := tenNames.map V.str) (k := k) (by rw [List.length_map]; show k ≤ 10; omega)
        rw [upd_same, c1, c2, ← List.map_drop, ← List.map_take, ← List.map_append, cut_to, ← List.map_take]
        · rfl
        · rw [List.length_map, List.length_append, List.length_drop, List.length_take]
          show m ≤ 10 - k + min k 10
          omega
    · refine ⟨Nat.zero_le _, fun pf nf => ?_⟩
      obtain ⟨w2, s2⟩ := well_new (o := .lst []) w1 nf
      have nfH := none_back s1 w1 nf
      have nfa := w1.ne nf
      have kc := kq_cut (m := m) (by omega)
      have kz : (cutS ("kqxzjvwmbt" : Str) none (some (m : Int))).cps.size = m := by
        rw [← Array.length_toList, kc, List.length_take]
        show min m 10 = m
        omega
      refine ⟨_, rfl, m, rfl, _, rfl, by decide, cutS ("kqxzjvwmbt" : Str) none (some (m : Int)), rfl, ?_⟩
      refine for_it walk_str (fun i σ H' => ∃ (z5 z6 z7 : Option V) (zs : List Str), σ = [some (.ref a), some (.int m), none, none, some (.ref pf), z5, z6, z7] ∧ Same (hid a H) (hid a H') ∧ WellAt H' a (n + 9 * (m - i)) ∧ H' pf = some (.lst (zs.map V.str)) ∧ zs.length = i ∧ zs.map (fun z => z.cps.toList.getLast?) = (kqs.take i).map some ∧ ∀ z ∈ zs, NmOk z) ?_ (fun _ _ _ _ _ => trivial) (fun i v σ H2 H3 hi h y => ?_) (fun σ H2 h => ?_)
      · exact ⟨none, none, none, [], rfl, s1.trans s2, w2.mono (by omega), upd_same, rfl, rfl, fun z hz => by cases hz⟩
      · obtain ⟨rfl, c, hc, rfl⟩ := y
        obtain ⟨z5, z6, z7, zs, rfl, sH, w3, hf, lz, ez, az⟩ := h
        rw [kz] at hi
        rw [← Array.getElem?_toList, kc, List.getElem?_take_of_lt hi] at hc
        have hck : c ∈ kqs := List.mem_of_getElem? hc
        obtain ⟨r, hr9⟩ : ∃ r, n + 9 * (m - i) = r + 9 ∧ r = n + 9 * (m - (i + 1)) := ⟨_, by omega, rfl⟩
        rw [hr9.1] at w3
        refine ⟨_, rfl, _, rfl, a, 8, r + 8, rfl, w3, by decide, by decide, fun d H4 d0 d1 s4 w4 => ⟨by show 4 ≤ sizeLine; decide, fun p4 n4 => ?_⟩⟩
        obtain ⟨w5, s5⟩ := well_new (o := .lst [.int 0, .int 0, .int 1, .int d]) w4 n4
        refine ⟨a, p4, _, r + 7, rfl, w5, sqL_hid w4 n4, by show 0 < 4; decide, by show 4 ≤ 1000; decide, fun j x H5 hx s6 w6 => ?_⟩
        obtain ⟨l, l7, rfl⟩ := four_at d0 d1 hx
        have s46 := s4.trans (s5.trans s6)
        refine ⟨l, rfl, by omega, by omega, for_range (fun j σ H' => ∃ (z7 : Option V) (wd : Str), σ = [some (.ref a), some (.int m), none, none, some (.ref pf), some (.str ⟨#[c]⟩), some (.str wd), z7] ∧ Same (hid a H3) (hid a H') ∧ WellAt H' a (r + (7 - j)) ∧ wd.length = j ∧ ∀ c ∈ wd.cps.toList, c ∈ letters) ⟨_, _, rfl, s46, w6, rfl, fun c hc => by cases hc⟩ (fun j σ H6 hj h => ?_) (fun σ H6 h => ?_)⟩
        · obtain ⟨z7, wd, rfl, s7, w7, lw, aw⟩ := h
          rw [Int.toNat_natCast] at hj
          refine ⟨_, rfl, _, rfl, a, 26, r + (7 - (j + 1)), rfl, w7.mono (by omega), by decide, by decide, fun e H7 e0 e1 s8 w8 => ?_⟩
          obtain ⟨ch, h1, h2⟩ := atI_get (xs := letters) e0 e1
          refine ⟨_, e, ch, rfl, rfl, by decide, h1, _, _, rfl, rfl, ?_, ?_⟩
          · show wd.length + 1 ≤ sizeLine
            exact Nat.le_of_lt (small1000 (by omega))
          · refine ⟨_, _, rfl, s7.trans s8, w8, ?_, fun c' hc' => ?_⟩
            · show (wd.cps ++ #[ch]).size = j + 1
              rw [Array.size_append, show wd.cps.size = j from lw]
              rfl
            · rw [show (wd ++ (⟨#[ch]⟩ : Str)).cps.toList = wd.cps.toList ++ [ch] from Array.toList_append] at hc'
              rcases List.mem_append.mp hc' with h | h
              · exact aw _ h
              · rw [List.mem_singleton] at h
                rw [h]
                exact List.mem_of_getElem? h2
        · obtain ⟨z7, wd, rfl, s7, w7, lw, aw⟩ := h
          rw [Int.toNat_natCast] at lw w7
          have hf6 : H6 pf = some (.lst (zs.map V.str)) := hid_same _ _ (s7 _ _ (by rw [hid_ne nfa]; exact hf))
          refine ⟨_, rfl, .inl ⟨rfl, _, SqL.of hf6⟩, _, rfl, _, rfl, _, _, rfl, rfl, ?_, pf, _, _, rfl, rfl, hf6, ?_, ?_⟩
          · show wd.length + 1 ≤ sizeLine
            exact Nat.le_of_lt (small1000 (by omega))
          · rw [List.length_map]
            exact small1000 (by omega)
          have cp : (wd ++ (⟨#[c]⟩ : Str)).cps.toList = wd.cps.toList ++ [c] := Array.toList_append
          refine ⟨_, _, _, zs ++ [wd ++ ⟨#[c]⟩], rfl, ?_, ?_, ?_, ?_, ?_, fun z hz => ?_⟩
          · rw [hid_updN nfa]
            exact same_over (sH.trans s7) (by rw [hid_ne nfa]; exact nfH)
          · exact (w7.upd nfa).mono (by omega)
          · rw [upd_same, List.map_append]
            rfl
          · rw [List.length_append, lz]
            rfl
          · rw [List.map_append, ez, List.take_add_one, hc, List.map_append]
            show _ ++ [(wd ++ (⟨#[c]⟩ : Str)).cps.toList.getLast?] = _
            rw [cp, List.getLast?_append]
            rfl
          · rcases List.mem_append.mp hz with h | h
            · exact az _ h
            · rw [List.mem_singleton] at h
              subst h
              have lc : (wd ++ (⟨#[c]⟩ : Str)).length = l + 1 := by
                show (wd.cps ++ #[c]).size = l + 1
                rw [Array.size_append, show wd.cps.size = l from lw]
                rfl
              refine ⟨by omega, by omega, fun c' hc' => ?_⟩
              rw [cp] at hc'
              rcases List.mem_append.mp hc' with h | h
              · exact aw _ h
              · rw [List.mem_singleton] at h
                rw [h]
                exact kq_let _ hck
      · obtain ⟨z5, z6, z7, zs, rfl, sH, w3, hf, lz, ez, az⟩ := h
        rw [kz] at lz ez w3
        refine ⟨_, rfl, q H2 pf zs nfH sH (w3.mono (by omega)) hf ⟨lz, of_ends ez ((List.take_sublist _ _).nodup kq_nd), az, fun z hz => .inr ?_⟩⟩
        have : z.cps.toList.getLast? ∈ (kqs.take m).map some := by
          rw [← ez]
          exact List.mem_map.mpr ⟨z, hz, rfl⟩
        obtain ⟨c, hc, e⟩ := List.mem_map.mp this
        exact ⟨c, List.mem_of_mem_take hc, e.symm⟩
end
end Fb
namespace Fb
open PySem PySem.Spec PyProof.Rows L2
section
variable {P : Program} {w : World} {K : PySem.W.Frag} {mg : Str → Option Value} {base : Heap}
theorem flat_rep1 {x : V} : ∀ m : Nat, (List.replicate m [x]).flatten = List.replicate m x
  | 0 => rfl
  | m + 1 => by
    rw [List.replicate_succ, List.flatten_cons, flat_rep1 m]
    rfl
theorem nts_len {ns : List Nat} : (nts ns).length = ns.length := List.length_map ..
theorem nts_at {ns : List Nat} {i : Nat} {v : V} (h : (nts ns)[i]? = some v) : ∃ n, ns[i]? = some n ∧ v = .int (n : Int) := by
  rw [List.getElem?_map] at h
  obtain ⟨n, hn, rfl⟩ := Option.map_eq_some_iff.mp h
  exact ⟨n, hn, rfl⟩
theorem nts_set {ns : List Nat} {j k : Nat} : (nts ns).set j (.int (k : Int)) = nts (ns.set j k) := (List.map_set ..).symm
theorem nts_ints {ns : List Nat} : nts ns = (ns.map fun (n : Nat) => (n : Int)).map V.int := by
  rw [List.map_map]
  rfl
theorem sum_nts : ∀ ns : List Nat, (ns.map fun (n : Nat) => (n : Int)).sum = ((ns.sum : Nat) : Int)
  | [] => rfl
  | n :: r => by
    rw [List.map_cons, List.sum_cons, List.sum_cons, sum_nts r]
    omega
theorem sum_pos : ∀ {ns : List Nat}, ns.sum ≠ 0 → ∃ n ∈ ns, 0 < n
  | [], h => absurd rfl h
  | n :: r, h => by
    by_cases h0 : 0 < n
    · exact ⟨n, List.mem_cons_self, h0⟩
    · rw [List.sum_cons] at h
      obtain ⟨k, hk, k0⟩ := sum_pos (ns := r) (by omega)
      exact ⟨k, List.mem_cons_of_mem _ hk, k0⟩
theorem ixn_lt {m : Nat} {d : Int} (d0 : 0 ≤ d) (d1 : d < m) : ixN m d = some d.toNat := by
  unfold ixN
  rw [if_pos d0, if_pos (by omega)]
theorem mem_setN {ns : List Nat} {j k x : Nat} (h : x ∈ ns.set j k) : x ∈ ns ∨ x = k := List.mem_or_eq_of_mem_set h
def spDWts : Sp := fun vs H Q _ => ∃ (a : Addr) (m n : Nat), vs = [.ref a, .int m] ∧ 1 ≤ m ∧ m ≤ 14 ∧ WellAt H a (n + 20) ∧
  ∀ H' p ws, H p = none → Same (hid a H) (hid a H') → WellAt H' a n → H' p = some (.tup (nts ws)) → ws.length = m → (∃ x ∈ ws, 0 < x) → (∀ x ∈ ws, x ≤ 20) → Q (.ref p) H'
theorem ok_l_weights (T : Txt K mg) : FnOk P w K mg base CX0 2 T.f_l_weights T.d_l_weights ["_law_well_here", "_law_many"] spDWts := by
  refine T.F_l_weights.ok sc_l_weights (fun vs H Q E h => ?_) (fun cdv A outer s H vs Q E hr h => ?_)
  · obtain ⟨a, m, n, rfl, _⟩ := h
    rfl
  · obtain ⟨a, m, n, rfl, m1, m14, hw, q⟩ := h
    refine ⟨_, (pss_cons (ps_set (i := 2) sc_l_weights.nd rfl (.inl rfl) (pe_call (ok_l_draw T) (hr.mono (by decide)) (by rfl) T.g_l_draw T.F_l_draw.kp T.b_l_draw .nil pass0 (pa_cons (pv 0) (pa_cons pe_int pa_nil))))
 (pss_cons (ps_set (i := 3) sc_l_weights.nd rfl (.inl rfl) (pe_op op_rep (pe_lst (pa_cons pe_int pa_nil)) (pv 1)))
 (pss_cons (ps_if (pt_cmpR op_lt (pv 2) pe_int (nomark _))
  (pss_one (ps_for PassesOwn.never rfl (pi_range1 (by rfl) T.z_range (pa_cons (pe_op op_add pe_int (pe_callTy call_int1 (by rfl) T.z_int (by decide +kernel) (pa_cons (pe_cmpR op_gt (pv 2) pe_int (nomark _)) pa_nil))) pa_nil)) (pg_name (i := 4) sc_l_weights.nd rfl (.inl rfl))
  (pss_cons (ps_set (i := 5) sc_l_weights.nd rfl (.inl rfl) (pe_call (ok_l_draw T) (hr.mono (by decide)) (by rfl) T.g_l_draw T.F_l_draw.kp T.b_l_draw .nil pass0 (pa_cons (pv 0) (pa_cons (pv 1) pa_nil))))
 (pss_one (ps_asg (pe_op op_add (pe_op op_add (pe_ix ix_list (pv 3) (pv 5) (fun _ _ => rfl)) pe_int) (pe_call (ok_l_draw T) (hr.mono (by decide)) (by rfl) T.g_l_draw T.F_l_draw.kp T.b_l_draw .nil pass0 (pa_cons (pv 0) (pa_cons pe_int pa_nil)))) (pg_sub (pv 3) (pv 5) set_list))))))
  (pss_one (ps_setLc (i := 3) (own := [("_law_room", 6)]) (g := (gName 6)) (tt := tYes) (by rfl) sc_l_weights.nd rfl rfl (sw_true rfl rfl rfl (by decide +kernel)) (pi_range1 (by rfl) T.z_range (pa_cons (pv 1) pa_nil)) (blkOk_by (own := [("_law_room", 6)]) (N := ["_law_well_here", "_law_many", "_law_way", "_law_found", "_law_k", "_law_at", "_law_room"]) (sc := defScope s_l_weights) (by decide +kernel)) (fun _ _ _ _ _ => by exact (pg_name (i := 6) sc_l_weights.nd rfl (.inl rfl))) (fun _ _ _ _ _ => by exact pts_nil) (fun _ _ _ _ _ => by exact (pe_call (ok_l_draw T) (hr.mono (by decide)) (by rfl) T.g_l_draw T.F_l_draw.kp T.b_l_draw .nil pass0 (pa_cons (pv 0) (pa_cons pe_int pa_nil)))))))
 (pss_cons (ps_if (pt_cmpR op_eq (pe_callB (cr_sum rfl) (by rfl) T.z_sum (by decide +kernel) (pa_cons (pv 3) pa_nil)) pe_int (nomark _))
  (pss_one (ps_asg pe_int (pg_sub (pv 3) (pe_call (ok_l_draw T) (hr.mono (by decide)) (by rfl) T.g_l_draw T.F_l_draw.kp T.b_l_draw .nil pass0 (pa_cons (pv 0) (pa_cons (pv 1) pa_nil))) set_list)))
  pss_nil)
 (pss_one (ps_ret (pe_callTy call_tuple_of (by rfl) T.z_tuple (by decide +kernel) (pa_cons (pv 3) pa_nil)))))))), ?_⟩
    have ml : ((m : Int)).natAbs.log2 < 9000 := log_small (by omega)
    refine ⟨_, rfl, a, 4, n + 19, rfl, hw, by decide, by decide, fun d H1 d0 d1 s1 w1 => ?_⟩
    refine ⟨by show 1 ≤ sizeLine; decide, fun l nl => ?_⟩
    obtain ⟨w2, s2⟩ := well_new (o := .lst [.int 0]) w1 nl
    refine ⟨_, rfl, l, _, _, rfl, rfl, upd_same, by omega, by omega, ?_, fun p np => ?_⟩
    · show 1 * (m : Int).toNat ≤ sizeLine
      rw [Int.toNat_natCast]
      exact Nat.le_of_lt (small1000 (by omega))
    rw [Int.toNat_natCast, flat_rep1]
    obtain ⟨w3, s3⟩ := well_new (o := .lst (List.replicate m (V.int 0))) w2 np
    have npa := w2.ne np
    have npH : H p = none := none_back (s1.trans s2) w2 np
    have s13 := s1.trans (s2.trans s3)
    have e3 : (upd (upd H1 l (.lst [.int 0])) p (.lst (List.replicate m (V.int 0)))) p = some (.lst (nts (List.replicate m 0))) := by
      rw [upd_same, nts, List.map_replicate]
      rfl
    generalize upd (upd H1 l (.lst [.int 0])) p (.lst (List.replicate m (V.int 0))) = H3 at *
    dsimp only [gName]
    refine seq_fin (fun σ H' => ∃ (z4 z5 z6 : Option V) (p : Addr) (ws : List Nat), σ = [some (.ref a), some (.int m), some (.int d), some (.ref p), z4, z5, z6] ∧ H p = none ∧ p ≠ a ∧ Same (hid a H) (hid a H') ∧ WellAt H' a (n + 1) ∧ H' p = some (.lst (nts ws)) ∧ ws.length = m ∧ ∀ x ∈ ws, x ≤ 12) (fun σ H' h => ?_) (fun fin => ?_)
    · obtain ⟨z4, z5, z6, p, ws, rfl, np, npa, sH, wH, e, l, b⟩ := h
      refine seq_fin (fun σ H' => ∃ (ws : List Nat), σ = [some (.ref a), some (.int m), some (.int d), some (.ref p), z4, z5, z6] ∧ Same (hid a H) (hid a H') ∧ WellAt H' a n ∧ H' p = some (.lst (nts ws)) ∧ ws.length = m ∧ (∃ x ∈ ws, 0 < x) ∧ ∀ x ∈ ws, x ≤ 12) (fun σ H' h => ?_) (fun fin => ?_)
      · obtain ⟨ws, rfl, s4, w4, e, l, px, b⟩ := h
        refine ⟨_, rfl, p, _, rfl, .inl ⟨SqL.of e, fun r nr => ?_⟩⟩
        have t := same_upd (o := .tup (nts ws)) nr
        exact q _ r ws (none_back s4 w4 nr) (s4.trans (hid_mono t)) (w4.same t) upd_same l px (fun x hx => Nat.le_trans (b x hx) (by decide))
      · refine ⟨_, rfl, p, ws.map (fun (n : Nat) => (n : Int)), rfl, SqL.of (by rw [e, nts_ints]), rfl, _, rfl, ite2 (fun h => ?_) (fun h => ?_)⟩
        · refine ⟨_, rfl, _, rfl, _, rfl, a, m, n, rfl, wH, by omega, ml, fun d H4 e0 e1 s4 w4 => ?_⟩
          have e4 : H4 p = some (.lst (nts ws)) := hid_same _ _ (s4 _ _ (by rw [hid_ne npa]; exact e))
          refine ⟨p, _, d, d.toNat, rfl, rfl, e4, ixn_lt e0 (by rw [nts_len, l]; exact e1), ?_⟩
          refine fin _ _ ⟨ws.set d.toNat 1, rfl, ?_, w4.upd npa, ?_, by rw [List.length_set, l], ⟨1, ?_, by decide⟩, fun x hx => ?_⟩
          · rw [hid_updN npa]
            exact same_over (sH.trans s4) (by rw [hid_ne npa]; exact np)
          · rw [upd_same, ← nts_set]
            rfl
          · exact List.mem_of_getElem? (i := d.toNat) (List.getElem?_set_self (by omega))
          · rcases mem_setN hx with h | h
            · exact b x h
            · omega
        · refine fin _ _ ⟨ws, rfl, sH, wH.mono (by omega), e, l, sum_pos fun z => ?_, b⟩
          rw [sum_nts, z] at h
          exact h rfl
    · refine ⟨_, rfl, _, _, rfl, rfl, _, rfl, ite2 (fun h => ?_) (fun h => ?_)⟩
      · refine ⟨_, rfl, _, _, rfl, rfl, .inr ⟨_, rfl, _, _, rfl, rfl, _, rfl, ?_, ?_, ?_⟩⟩
        · split <;> decide
        · split <;> decide
        obtain ⟨t, ht, t2⟩ : ∃ t : Nat, ((1 : Int) + if decide (0 < d) = true then 1 else 0).toNat = t ∧ t ≤ 2 := ⟨_, rfl, by split <;> decide⟩
        rw [ht]
        refine for_range (fun i σ H' => ∃ (z4 z5 z6 : Option V) (ws : List Nat), σ = [some (.ref a), some (.int m), some (.int d), some (.ref p), z4, z5, z6] ∧ Same (hid a H) (hid a H') ∧ WellAt H' a (n + 1 + 2 * (t - i)) ∧ H' p = some (.lst (nts ws)) ∧ ws.length = m ∧ ∀ x ∈ ws, x ≤ 6 * i) ⟨_, _, _, _, rfl, s13, w3.mono (by omega), e3, List.length_replicate, fun x hx => ?_⟩ (fun i σ H' hi h => ?_) (fun σ H' h => ?_)
        · rw [(List.mem_replicate.mp hx).2]
          exact Nat.zero_le _
        · obtain ⟨z4, z5, z6, ws, rfl, s4, w4, e4, l4, b4⟩ := h
          have hr : n + 1 + 2 * (t - i) = (n + 1 + 2 * (t - (i + 1))) + 1 + 1 := by omega
          rw [hr] at w4
          refine ⟨_, rfl, _, rfl, a, m, _, rfl, w4, by omega, ml, fun f H5 f0 f1 s5 w5 => ?_⟩
          have e5 : H5 p = some (.lst (nts ws)) := hid_same _ _ (s5 _ _ (by rw [hid_ne npa]; exact e4))
          obtain ⟨x, h1, h2⟩ := atI_get (xs := nts ws) f0 (by rw [nts_len, l4]; exact f1)
          obtain ⟨k, hk, rfl⟩ := nts_at h2
          refine ⟨_, rfl, _, rfl, p, _, f, _, rfl, rfl, SqL.of e5, h1, _, _, rfl, rfl, _, rfl, a, 5, _, rfl, w5, by decide, by decide, fun g H6 g0 g1 s6 w6 => ?_⟩
          have e6 : H6 p = some (.lst (nts ws)) := hid_same _ _ (s6 _ _ (by rw [hid_ne npa]; exact e5))
          refine ⟨_, _, rfl, rfl, _, rfl, _, rfl, p, _, f, f.toNat, rfl, rfl, e6, ixn_lt f0 (by rw [nts_len, l4]; exact f1), ?_⟩
          have ek : ((k : Int) + 1 + g) = ((k + 1 + g.toNat : Nat) : Int) := by omega
          refine ⟨_, _, _, ws.set f.toNat (k + 1 + g.toNat), rfl, ?_, w6.upd npa, by rw [upd_same, ← nts_set, ← ek], by rw [List.length_set, l4], fun x hx => ?_⟩
          · rw [hid_updN npa]
            exact same_over (s4.trans (s5.trans s6)) (by rw [hid_ne npa]; exact npH)
          · have := b4 k (List.mem_of_getElem? hk)
            rcases mem_setN hx with h | h
            · have := b4 x h
              omega
            · omega
        · obtain ⟨z4, z5, z6, ws, rfl, s4, w4, e4, l4, b4⟩ := h
          exact fin _ _ ⟨_, _, _, p, ws, rfl, npH, npa, s4, w4.mono (by omega), e4, l4, fun x hx => Nat.le_trans (b4 x hx) (by omega)⟩
      · refine ⟨_, rfl, m, rfl, by omega, by omega, fun D nD => lc_wellR (a := a) (fun v _ => ∃ k : Nat, k ≤ 12 ∧ v = .int k) (fun _ _ _ _ h => h) 1 (n + 1) nD (w3.mono (by rw [Int.toNat_natCast]; omega)) (by rw [Int.toNat_natCast]; omega) (fun i H4 f kk hi w4 s4 eD hk => ?_) (fun H4 ys s4 w4 e4 l4 r4 => ?_)⟩
        · refine ⟨rfl, _, rfl, a, 7, f, rfl, w4, by decide, by decide, fun g H5 g0 g1 s5 w5 => hk _ _ s5 w5 ⟨g.toNat, by omega, by rw [Int.toNat_of_nonneg g0]⟩⟩
        · obtain ⟨ws, rfl, lw, bw⟩ : ∃ ws : List Nat, ys = nts ws ∧ ws.length = ys.length ∧ ∀ x ∈ ws, x ≤ 12 := by
            clear e4 l4 s4
            induction ys with
            | nil => exact ⟨[], rfl, rfl, fun x hx => by cases hx⟩
            | cons y ys ih =>
              obtain ⟨ws, rfl, lw, bw⟩ := ih (fun y hy => r4 y (List.mem_cons_of_mem _ hy))
              obtain ⟨k, k12, rfl⟩ := r4 y List.mem_cons_self
              exact ⟨k :: ws, rfl, by rw [List.length_cons, List.length_cons, lw], fun x hx => by
                rcases List.mem_cons.mp hx with rfl | h
                · exact k12
                · exact bw x h⟩
          rw [Int.toNat_natCast] at l4
          have nDa := w3.ne nD
          have nDH := none_back s13 w3 nD
          refine fin _ _ ⟨_, _, _, D, ws, rfl, nDH, nDa, ?_, w4, e4, by omega, bw⟩
          exact s13.trans (s4.trans hid_same)
end
end Fb
namespace Fb
open PySem PySem.Spec PyProof.Rows L2
section
variable {P : Program} {w : World} {K : PySem.W.Frag} {mg : Str → Option Value} {base : Heap}
def AnyT (t : TT) (σ : L2.St) (M0 M : Hp → Prop) : Prop := ∀ H, M0 H → ∀ Q : Bool → Hp → Prop, (∀ b H', M H' → Q b H') → t σ H Q
theorem or_any {t u : TT} {σ : L2.St} {M0 M1 M : Hp → Prop} (ht : AnyT t σ M0 M1) (hu : AnyT u σ M1 M) (wk : ∀ H, M1 H → M H) : AnyT (tOr t u) σ M0 M := fun H h Q hQ => ht H h _ fun b H' m => by
  cases b
  · exact iteF (hu H' m Q hQ)
  · exact iteT (hQ _ _ (wk _ m))
theorem and_any {t u : TT} {σ : L2.St} {M0 M1 M : Hp → Prop} (ht : AnyT t σ M0 M1) (hu : AnyT u σ M1 M) (wk : ∀ H, M1 H → M H) : AnyT (tAnd t u) σ M0 M := fun H h Q hQ => ht H h _ fun b H' m => by
  cases b
  · exact iteF (hQ _ _ (wk _ m))
  · exact iteT (hu H' m Q hQ)
theorem if_any {c : TT} {t u : L2.TS} {D : L2.Ends} {σ : L2.St} {H : Hp} (M0 M : Hp → Prop) (h0 : M0 H) (hc : AnyT c σ M0 M) (ht : ∀ H', M H' → t D σ H') (hu : ∀ H', M H' → u D σ H') : tIfS c t u D σ H := hc H h0 _ fun b H' m => by
  cases b
  · exact iteF (hu H' m)
  · exact iteT (ht H' m)
structure DS (m : Nat) (zs : List Str) (i j : Nat) (ss : List Stp) : Prop where
  len : ss.length ≤ i * zs.length + j
  all : ∀ s ∈ ss, StpOk m s ∧ s.sign ∈ zs ∧ (∀ x ∈ s.ws, x ≤ 20) ∧ (s.room < i ∨ (s.room = i ∧ ∃ k, k < j ∧ zs[k]? = some s.sign))
  once : (ss.map Stp.key).Nodup
theorem DS.next {m : Nat} {zs : List Str} {i j : Nat} {ss : List Stp} (h : DS m zs i j ss) : DS m zs i (j + 1) ss :=
  ⟨Nat.le_succ_of_le h.len, fun s hs => ⟨(h.all s hs).1, (h.all s hs).2.1, (h.all s hs).2.2.1, (h.all s hs).2.2.2.imp id fun ⟨e, k, l, g⟩ => ⟨e, k, Nat.lt_succ_of_lt l, g⟩⟩, h.once⟩
theorem DS.row {m : Nat} {zs : List Str} {i : Nat} {ss : List Stp} (h : DS m zs i zs.length ss) : DS m zs (i + 1) 0 ss :=
  ⟨by rw [Nat.succ_mul]; exact h.len, fun s hs => ⟨(h.all s hs).1, (h.all s hs).2.1, (h.all s hs).2.2.1, .inl ((h.all s hs).2.2.2.elim (fun l => Nat.lt_succ_of_lt l) fun ⟨e, _⟩ => by omega)⟩, h.once⟩
theorem twenty {x : Nat} (h : x ≤ 20) : x < 2 ^ 4000 := Nat.lt_of_lt_of_le (Nat.lt_of_le_of_lt h (by decide : 20 < 2 ^ 5)) (Nat.pow_le_pow_right (by decide) (by decide))
theorem DS.add {m k : Nat} {zs : List Str} {i j : Nat} {ss : List Stp} {z : Str} {ws : List Nat} (h : DS m zs i j ss) (ok : NmsOk k zs) (hi : i < m) (hz : zs[j]? = some z) (lw : ws.length = m) (pw : ∃ x ∈ ws, 0 < x) (bw : ∀ x ∈ ws, x ≤ 20) : DS m zs i (j + 1) (ss ++ [⟨i, z, ws⟩]) := by
  have hm := List.mem_of_getElem? hz
  refine ⟨?_, fun s hs => ?_, ?_⟩
  · rw [List.length_append, List.length_singleton]
    have := h.len
    omega
  · rcases List.mem_append.mp hs with hs | hs
    · exact h.next.all s hs
    · rw [List.mem_singleton] at hs
      subst hs
      exact ⟨⟨hi, ok.all _ hm, ⟨lw, pw, fun x hx => twenty (bw x hx)⟩⟩, hm, bw, .inr ⟨rfl, j, Nat.lt_succ_self _, hz⟩⟩
  · rw [List.map_append, List.nodup_append]
    refine ⟨h.once, by simp, fun a ha b hb => ?_⟩
    rw [List.map_singleton, List.mem_singleton] at hb
    subst hb
    rintro rfl
    obtain ⟨s, hs, e⟩ := List.mem_map.mp ha
    have e1 : (s.room : Int) = (i : Int) := congrArg Prod.fst e
    have e2 : s.sign = z := congrArg Prod.snd e
    rcases (h.all s hs).2.2.2 with l | ⟨_, k', lk, g⟩
    · omega
    · rw [e2] at g
      have := (List.getElem?_inj (List.getElem?_eq_some_iff.mp g).1 ok.nd).mp (g.trans hz.symm)
      omega
theorem IsStp.ts {H H' : Hp} {v : V} {s : Stp} (h : IsStp H v s) (t : TS H H') : IsStp H' v s := by
  obtain ⟨p, wa, e, h1, h2⟩ := h
  exact ⟨p, wa, e, t _ _ h1, t _ _ h2⟩
def spDMach : Sp := fun vs H Q _ => ∃ (a sp : Addr) (zs : List Str) (k m0 n : Nat), vs = [.ref a, .ref sp, .int m0] ∧ 1 ≤ m0 ∧ m0 ≤ 12 ∧ 1 ≤ k ∧ k ≤ 4 ∧ NmsOk k zs ∧ sp ≠ a ∧ H sp = some (.lst (zs.map V.str)) ∧ WellAt H a (n + 1200) ∧
  ∀ H' t l m vs ss, Same (hid a H) (hid a H') → WellAt H' a n → 1 ≤ m → m ≤ m0 → H' t = some (.tup [.int (m : Nat), .ref l]) → H t = none → H l = none → H' l = some (.lst vs) → AllAre (IsStp H') vs ss → DS m zs m 0 ss → Q (.ref t) H'
theorem ok_l_machine (T : Txt K mg) : FnOk P w K mg base CX0 3 T.f_l_machine T.d_l_machine ["_law_well_here", "_law_signs", "_law_most"] spDMach := by
  refine T.F_l_machine.ok sc_l_machine (fun vs H Q E h => ?_) (fun cdv A outer s H vs Q E hr h => ?_)
  · obtain ⟨a, sp, zs, k, m0, n, rfl, _⟩ := h
    rfl
  · obtain ⟨a, sp, zs, k, m0, n, rfl, m1, m12, k1, k4, ok, spa, hsp, hw, q⟩ := h
    refine ⟨_, (pss_cons (ps_set (i := 3) sc_l_machine.nd rfl (.inl rfl) (pe_op op_add pe_int (pe_call (ok_l_draw T) (hr.mono (by decide)) (by rfl) T.g_l_draw T.F_l_draw.kp T.b_l_draw .nil pass0 (pa_cons (pv 0) (pa_cons (pv 2) pa_nil)))))
 (pss_cons (ps_set (i := 4) sc_l_machine.nd rfl (.inl rfl) (pe_call (ok_l_draw T) (hr.mono (by decide)) (by rfl) T.g_l_draw T.F_l_draw.kp T.b_l_draw .nil pass0 (pa_cons (pv 0) (pa_cons pe_int pa_nil))))
 (pss_cons (ps_set (i := 5) sc_l_machine.nd rfl (.inl rfl) (pe_call (ok_l_draw T) (hr.mono (by decide)) (by rfl) T.g_l_draw T.F_l_draw.kp T.b_l_draw .nil pass0 (pa_cons (pv 0) (pa_cons (pe_op op_add (pv 3) pe_int) pa_nil))))
 (pss_cons (ps_set (i := 6) sc_l_machine.nd rfl (.inl rfl) (pe_call (ok_l_draw T) (hr.mono (by decide)) (by rfl) T.g_l_draw T.F_l_draw.kp T.b_l_draw .nil pass0 (pa_cons (pv 0) (pa_cons (pe_callB call_len_seq (by rfl) T.z_len (by decide +kernel) (pa_cons (pv 1) pa_nil)) pa_nil))))
 (pss_cons (ps_set (i := 7) sc_l_machine.nd rfl (.inl rfl) (pe_lst pa_nil))
 (pss_cons (ps_for PassesOwn.never rfl (pi_range1 (by rfl) T.z_range (pa_cons (pv 3) pa_nil)) (pg_name (i := 8) sc_l_machine.nd rfl (.inl rfl))
  (pss_one (ps_for PassesOwn.never rfl (pi_enum (by rfl) T.z_enumerate (pa_cons (pv 1) pa_nil)) (pg_tup (by rfl) (pgs_cons (pg_name (i := 9) sc_l_machine.nd rfl (.inl rfl)) (pgs_cons (pg_name (i := 10) sc_l_machine.nd rfl (.inl rfl)) pgs_nil)))
  (pss_one (ps_if (PW.pt (pw_or (PW.pt (pw_and (pt_cmpR op_lt (pv 4) pe_int (nomark _)) (pw_and1 (PW.pt (pw_or (pt_cmpR op_ne (pv 8) (pv 5) (nomark _)) (pw_or1 (pt_cmpR op_lt (pv 9) (pv 6) (nomark _)))))))) (pw_or1 (PW.pt (pw_and (pt_cmpR op_eq (pv 4) pe_int (nomark _)) (pw_and1 (pt_cmpR op_gt (pe_call (ok_l_draw T) (hr.mono (by decide)) (by rfl) T.g_l_draw T.F_l_draw.kp T.b_l_draw .nil pass0 (pa_cons (pv 0) (pa_cons pe_int pa_nil))) pe_int (nomark _))))))))
  (pss_one (ps_expr (pe_bm PySem.F.plainAttrs_list PySem.F.slot_list_append PySem.F.type_list_append mt_append (pv 7) (pa_cons (pe_tup (pa_cons (pv 8) (pa_cons (pv 10) (pa_cons (pe_call (ok_l_weights T) (hr.mono (by decide)) (by rfl) T.g_l_weights T.F_l_weights.kp T.b_l_weights .nil pass0 (pa_cons (pv 0) (pa_cons (pv 3) pa_nil))) pa_nil)))) pa_nil))))
  pss_nil)))))
 (pss_one (ps_ret (pe_tup (pa_cons (pv 3) (pa_cons (pv 7) pa_nil))))))))))), ?_⟩
    refine ⟨_, rfl, _, rfl, a, m0, n + 1199, rfl, hw, by omega, log_small (by omega), fun d H1 d0 d1 s1 w1 => ⟨_, _, rfl, rfl, ?_⟩⟩
    obtain ⟨m, hm⟩ : ∃ m : Nat, 1 + d = (m : Int) := ⟨(1 + d).toNat, by omega⟩
    dsimp only
    rw [hm]
    have mm1 : 1 ≤ m := by omega
    have mm2 : m ≤ m0 := by omega
    clear hm
    refine ⟨_, rfl, a, 3, n + 1198, rfl, w1, by decide, by decide, fun d2 H2 _ _ s2 w2 => ?_⟩
    refine ⟨_, rfl, _, rfl, _, _, rfl, rfl, a, _, n + 1197, rfl, w2, by omega, ?_, fun d3 H3 _ _ s3 w3 => ?_⟩
    · exact log_small (m := m + 1) (by omega)
    have s13 := s1.trans (s2.trans s3)
    have hsp3 : H3 sp = some (.lst (zs.map V.str)) := hid_same _ _ (s13 _ _ (by rw [hid_ne spa]; exact hsp))
    refine ⟨_, rfl, _, rfl, sp, _, rfl, .inl (SqL.of hsp3), a, _, n + 1196, rfl, w3, ?_, ?_, fun d4 H4 _ _ s4 w4 => ?_⟩
    · rw [List.length_map, ok.len]
      omega
    · rw [List.length_map, ok.len]
      exact log_small (by omega)
    refine ⟨Nat.zero_le _, fun pl npl => ?_⟩
    obtain ⟨w5, s5⟩ := well_new (o := .lst []) w4 npl
    have s14 := s13.trans s4
    have npH : H pl = none := none_back s14 w4 npl
    have npa := w4.ne npl
    have s15 := s14.trans s5
    let J : Nat → Nat → Hp → Prop := fun i j H' => ∃ (ss : List Stp) (vs : List V), Same (hid a H) (hid a H') ∧ WellAt H' a (n + 21 * ((m - i) * zs.length - j)) ∧ H' pl = some (.lst vs) ∧ AllAre (IsStp H') vs ss ∧ DS m zs i j ss
    refine ⟨_, rfl, m, rfl, by omega, by omega, for_range (fun i σ H' => ∃ z8 z9 z10, σ = [some (.ref a), some (.ref sp), some (.int m0), some (.int m), some (.int d2), some (.int d3), some (.int d4), some (.ref pl), z8, z9, z10] ∧ J i 0 H') ⟨_, _, _, rfl, [], [], s15, w5.mono ?_, upd_same, .nil, ⟨Nat.zero_le _, fun s hs => (by cases hs), List.nodup_nil⟩⟩ (fun i σ H6 hi h => ?_) (fun σ H6 h => ?_)⟩
    · rw [ok.len, Nat.sub_zero, Nat.sub_zero]
      have : m * k ≤ 12 * 4 := Nat.mul_le_mul (by omega) k4
      omega
    · obtain ⟨z8, z9, z10, rfl, hJ⟩ := h
      rw [Int.toNat_natCast] at hi
      have hsJ : ∀ {i j H'}, J i j H' → H' sp = some (.lst (zs.map V.str)) := fun ⟨_, _, s, _⟩ => hid_same _ _ (s _ _ (by rw [hid_ne spa]; exact hsp))
      refine ⟨_, rfl, sp, _, rfl, SqL.of (hsJ hJ), for_it (walk_enum (K := K) (a := sp) (xs := zs.map V.str)) (fun j σ H' => ∃ z9 z10, σ = [some (.ref a), some (.ref sp), some (.int m0), some (.int m), some (.int d2), some (.int d3), some (.int d4), some (.ref pl), some (.int (0 + (i : Nat))), z9, z10] ∧ J i j H') ⟨_, _, rfl, hJ⟩ (fun j σ H' _ h => ?_) (fun j v σ H7 H8 hj h y => ?_) (fun σ H' h => ?_)⟩
      · obtain ⟨_, _, _, h⟩ := h
        exact SqL.of (hsJ h)
      · obtain ⟨z9, z10, rfl, hJ⟩ := h
        obtain ⟨t, x, y, rfl, nt, rfl, ex, ey⟩ := y
        cases ex
        have ey : (zs.map V.str)[j]? = some y := ey
        rw [List.getElem?_map] at ey
        obtain ⟨z, hz, rfl⟩ := Option.map_eq_some_iff.mp ey
        rw [List.length_map] at hj
        obtain ⟨ss, vs, s7, w7, e7, a7, D7⟩ := hJ
        have st := same_upd (o := .tup [.int (j : Nat), .str z]) nt
        refine ⟨t, _, rfl, .inl (.inl upd_same), rfl, _, _, rfl, _, _, rfl, rfl, ?_⟩
        have hn : n + 21 * ((m - i) * zs.length - j) = (n + 21 * ((m - i) * zs.length - (j + 1))) + 21 := by
          have : 1 * zs.length ≤ (m - i) * zs.length := Nat.mul_le_mul_right _ (by omega)
          omega
        rw [hn] at w7
        obtain ⟨r, er⟩ : ∃ r, r = n + 21 * ((m - i) * zs.length - (j + 1)) := ⟨_, rfl⟩
        rw [← er] at w7
        refine if_any (fun H' => Same (hid a H7) (hid a H') ∧ WellAt H' a (r + 21)) (fun H' => Same (hid a H7) (hid a H') ∧ WellAt H' a (r + 20)) ⟨hid_mono st, w7.same st⟩ ?_ (fun H9 ⟨s9, w9⟩ => ?_) (fun H9 ⟨s9, w9⟩ => ?_)
        · refine or_any (M1 := fun H' => Same (hid a H7) (hid a H') ∧ WellAt H' a (r + 21)) (and_any (M1 := fun H' => Same (hid a H7) (hid a H') ∧ WellAt H' a (r + 21)) (fun H' h Q hQ => ⟨_, rfl, _, _, rfl, rfl, _, rfl, hQ _ _ h⟩) (or_any (M1 := fun H' => Same (hid a H7) (hid a H') ∧ WellAt H' a (r + 21)) (fun H' h Q hQ => ⟨_, rfl, _, rfl, rfl, _, rfl, hQ _ _ h⟩) (fun H' h Q hQ => ⟨_, rfl, _, rfl, _, _, rfl, rfl, _, rfl, hQ _ _ h⟩) (fun _ h => h)) (fun _ h => h)) (and_any (M1 := fun H' => Same (hid a H7) (hid a H') ∧ WellAt H' a (r + 21)) (fun H' h Q hQ => ⟨_, rfl, rfl, _, rfl, hQ _ _ h⟩) (fun H' h Q hQ => ⟨_, rfl, a, 3, r + 20, rfl, h.2, by decide, by decide, fun g H'' _ _ s w => ⟨_, _, rfl, rfl, _, rfl, hQ _ _ ⟨h.1.trans s, w⟩⟩⟩) (fun _ h => ⟨h.1, h.2.mono (by omega)⟩)) (fun _ h => ⟨h.1, h.2.mono (by omega)⟩)
        · have e9 : H9 pl = some (.lst vs) := hid_same _ _ (s9 _ _ (by rw [hid_ne npa]; exact e7))
          refine ⟨_, rfl, .inl ⟨rfl, _, SqL.of e9⟩, _, rfl, _, rfl, _, rfl, _, rfl, a, m, r, rfl, mm1, by omega, w9, fun H10 wa ws nwa s10 w10 ewa lw pw bw => ?_⟩
          refine ⟨by show 3 ≤ sizeLine; decide, fun t2 nt2 => ?_⟩
          have t10 := same_upd (o := .tup [.int (0 + (i : Nat)), .str z, .ref wa]) nt2
          have e11 : (upd H10 t2 (.tup [.int (0 + (i : Nat)), .str z, .ref wa])) pl = some (.lst vs) := t10 _ _ (hid_same _ _ (s10 _ _ (by rw [hid_ne npa]; exact e9)))
          have lv : vs.length < 60 := by
            rw [a7.1]
            have h1 := D7.len
            have h2 : i * zs.length ≤ 11 * zs.length := Nat.mul_le_mul_right _ (by omega)
            rw [ok.len] at h1 h2 hj
            omega
          refine ⟨pl, _, _, rfl, rfl, e11, small1000 (by omega), ?_⟩
          have s711 : Same (hid a H7) (hid a (upd H10 t2 (.tup [.int (0 + (i : Nat)), .str z, .ref wa]))) := s9.trans (s10.trans (hid_mono t10))
          have tt : TS H7 (upd H10 t2 (.tup [.int (0 + (i : Nat)), .str z, .ref wa])) := TS.well w7 s711
          have tl : TS (upd H10 t2 (.tup [.int (0 + (i : Nat)), .str z, .ref wa])) (upd (upd H10 t2 (.tup [.int (0 + (i : Nat)), .str z, .ref wa])) pl (.lst (vs ++ [.ref t2]))) := TS.lst e11
          refine ⟨_, _, rfl, ss ++ [⟨i, z, ws⟩], vs ++ [.ref t2], ?_, ?_, upd_same, ?_, D7.add ok (by omega) hz lw pw bw⟩
          · rw [hid_updN npa]
            exact same_over (s7.trans s711) (by rw [hid_ne npa]; exact npH)
          · rw [← er]
            exact (w10.same t10).upd npa
          · refine AllAre.snoc (a7.imp fun _ _ h => h.ts (tt.trans tl)) ⟨t2, wa, rfl, tl _ _ ?_, tl _ _ (t10 _ _ ewa)⟩
            rw [upd_same, Int.zero_add]
        · refine ⟨_, _, rfl, ss, vs, s7.trans s9, w9.mono (by rw [← er]; omega), hid_same _ _ (s9 _ _ (by rw [hid_ne npa]; exact e7)), a7.imp fun _ _ h => h.ts (TS.well w7 s9), D7.next⟩
      · obtain ⟨z9, z10, rfl, ss, vs, s7, w7, e7, a7, D7⟩ := h
        rw [List.length_map] at w7 D7
        refine ⟨_, _, _, rfl, ss, vs, s7, w7.mono ?_, e7, a7, D7.row⟩
        have : m - i = (m - (i + 1)) + 1 := by omega
        have e2 : (m - i) * zs.length = (m - (i + 1)) * zs.length + zs.length := by rw [this, Nat.add_mul, Nat.one_mul]
        omega
    · obtain ⟨z8, z9, z10, rfl, ss, vs, s7, w7, e7, a7, D7⟩ := h
      rw [Int.toNat_natCast] at w7 D7
      refine ⟨_, rfl, _, rfl, by show 2 ≤ sizeLine; decide, fun t nt => ?_⟩
      have st := same_upd (o := .tup [.int (m : Nat), .ref pl]) nt
      exact q _ t pl m vs ss (s7.trans (hid_mono st)) ((w7.same st).mono (by omega)) mm1 mm2 upd_same (none_back s7 w7 nt) npH (st _ _ e7) (a7.imp fun _ _ h => h.mono st) D7
end
end Fb
namespace Fb
open PySem PySem.Spec PyProof.Rows L2
section
def addNew (f : List Nat) : List Nat → List Nat
  | [] => f
  | r :: rs => addNew (if r ∈ f then f else f ++ [r]) rs
theorem addNew_snoc (r : Nat) : ∀ (rs : List Nat) (f : List Nat), addNew f (rs ++ [r]) = if r ∈ addNew f rs then addNew f rs else addNew f rs ++ [r]
  | [], f => rfl
  | _ :: rs, f => addNew_snoc r rs _
theorem addNew_pre : ∀ (rs : List Nat) (f : List Nat), f <+: addNew f rs
  | [], f => List.prefix_refl f
  | r :: rs, f => by
    show f <+: addNew (if r ∈ f then f else f ++ [r]) rs
    refine List.IsPrefix.trans ?_ (addNew_pre rs _)
    split
    · exact List.prefix_refl f
    · exact List.prefix_append f [r]
structure FOk (m : Nat) (f : List Nat) : Prop where
  nd : f.Nodup
  lt : ∀ r ∈ f, r < m
theorem nodup_len : ∀ (m : Nat) (f : List Nat), f.Nodup → (∀ r ∈ f, r < m) → f.length ≤ m
  | 0, f, _, lt => by
    cases f with
    | nil => exact Nat.le_refl _
    | cons r rs => exact absurd (lt r List.mem_cons_self) (Nat.not_lt_zero r)
  | m + 1, f, nd, lt => by
    by_cases h : m ∈ f
    · have h1 := nodup_len m (f.erase m) (nd.erase m) (fun r hr => by
        have := (nd.mem_erase_iff).mp hr
        have := lt r this.2
        omega)
      rw [List.length_erase_of_mem h] at h1
      omega
    · have := nodup_len m f nd (fun r hr => by
        have h1 := lt r hr
        have : r ≠ m := fun e => h (e ▸ hr)
        omega)
      omega
theorem FOk.len {m : Nat} {f : List Nat} (h : FOk m f) : f.length ≤ m := nodup_len m f h.nd h.lt
theorem addNew_ok {m : Nat} : ∀ {rs f : List Nat}, FOk m f → (∀ r ∈ rs, r < m) → FOk m (addNew f rs)
  | [], f, h, _ => h
  | r :: rs, f, h, hr => by
    refine addNew_ok (rs := rs) ?_ (fun x hx => hr x (List.mem_cons_of_mem _ hx))
    split
    · exact h
    · rename_i hn
      refine ⟨List.nodup_append.mpr ⟨h.nd, by simp, fun a ha b hb e => hn ?_⟩, fun x hx => ?_⟩
      · rw [List.mem_singleton] at hb
        subst hb
        rw [← e]
        exact ha
      · rcases List.mem_append.mp hx with hx | hx
        · exact h.lt x hx
        · rw [List.mem_singleton] at hx
          rw [hx]
          exact hr r List.mem_cons_self
theorem mem_addNew {x : Nat} : ∀ {rs f : List Nat}, x ∈ addNew f rs ↔ x ∈ f ∨ x ∈ rs
  | [], f => by simp [addNew]
  | r :: rs, f => by
    show x ∈ addNew (if r ∈ f then f else f ++ [r]) rs ↔ _
    rw [mem_addNew (rs := rs)]
    split
    · rename_i h
      rw [List.mem_cons]
      constructor
      · rintro (h1 | h1)
        · exact .inl h1
        · exact .inr (.inr h1)
      · rintro (h1 | rfl | h1)
        · exact .inl h1
        · exact .inl h
        · exact .inr h1
    · rw [List.mem_append, List.mem_singleton, List.mem_cons, or_assoc]
def tos (ws : List Nat) : List Nat := (List.range ws.length).filter fun i => decide (0 < ws.getD i 0)
theorem mem_tos {ws : List Nat} {i : Nat} : i ∈ tos ws ↔ i < ws.length ∧ 0 < ws.getD i 0 := by
  unfold tos
  rw [List.mem_filter, List.mem_range, decide_eq_true_iff]
def scan (r : Nat) : List Stp → List Nat → List Nat
  | [], f => f
  | s :: ss, f => scan r ss (if s.room = r then addNew f (tos s.ws) else f)
theorem scan_snoc (r : Nat) (s : Stp) : ∀ (ss : List Stp) (f : List Nat), scan r (ss ++ [s]) f = if s.room = r then addNew (scan r ss f) (tos s.ws) else scan r ss f
  | [], f => rfl
  | _ :: ss, f => scan_snoc r s ss _
theorem scan_pre (r : Nat) : ∀ (ss : List Stp) (f : List Nat), f <+: scan r ss f
  | [], f => List.prefix_refl f
  | s :: ss, f => by
    show f <+: scan r ss (if s.room = r then addNew f (tos s.ws) else f)
    refine List.IsPrefix.trans ?_ (scan_pre r ss _)
    split
    · exact addNew_pre _ f
    · exact List.prefix_refl f
theorem scan_ok {m r : Nat} : ∀ {ss : List Stp} {f : List Nat}, FOk m f → (∀ s ∈ ss, s.ws.length = m) → FOk m (scan r ss f)
  | [], f, h, _ => h
  | s :: ss, f, h, hs => by
    refine scan_ok (ss := ss) ?_ (fun x hx => hs x (List.mem_cons_of_mem _ hx))
    split
    · exact addNew_ok h fun x hx => by
        rw [← hs s List.mem_cons_self]
        exact (mem_tos.mp hx).1
    · exact h
def bfs (out : List Stp) : Nat → Nat → List Nat → List Nat
  | 0, _, f => f
  | k + 1, i, f => match f[i]? with
    | none => f
    | some r => bfs out k (i + 1) (scan r out f)
def foundOf (out : List Stp) (m : Nat) : List Nat := bfs out (m + 1) 0 [0]
theorem bfs_end {out : List Stp} {k i : Nat} {f : List Nat} (h : f.length ≤ i) : bfs out k i f = f := by
  cases k with
  | zero => rfl
  | succ k =>
    unfold bfs
    rw [List.getElem?_eq_none h]
theorem bfs_go {out : List Stp} {k i r : Nat} {f : List Nat} (h : f[i]? = some r) : bfs out (k + 1) i f = bfs out k (i + 1) (scan r out f) := by
  show (match f[i]? with | none => f | some r => bfs out k (i + 1) (scan r out f)) = _
  rw [h]
theorem inV_nts {r : Nat} {f : List Nat} : inV (.int (r : Int)) (nts f) = decide (r ∈ f) := by
  unfold inV
  rw [Bool.eq_iff_iff, List.any_eq_true, decide_eq_true_iff]
  constructor
  · rintro ⟨v, hv, e⟩
    obtain ⟨n, hn, rfl⟩ := List.mem_map.mp hv
    have : ((n : Int) == (r : Int)) = true := e
    rw [beq_iff_eq] at this
    have : n = r := by omega
    rw [← this]
    exact hn
  · intro h
    exact ⟨.int (r : Int), List.mem_map.mpr ⟨r, h, rfl⟩, by show ((r : Int) == (r : Int)) = true; exact beq_self_eq_true _⟩
theorem nts_flat {f : List Nat} : (nts f).all flatV = true := by
  rw [List.all_eq_true]
  intro v hv
  obtain ⟨n, _, rfl⟩ := List.mem_map.mp hv
  rfl
theorem nts_snoc {f : List Nat} {r : Nat} : nts f ++ [.int (r : Int)] = nts (f ++ [r]) := by
  rw [nts, nts, List.map_append]
  rfl
end
end Fb
namespace Fb
open PySem PySem.Spec PyProof.Rows L2
section
variable {P : Program} {w : World} {K : PySem.W.Frag} {mg : Str → Option Value} {base : Heap}
def spAppNew : Sp := fun vs H Q _ => ∃ (pf pr : Addr) (f rs : List Nat), vs = [.ref pf, .ref pr] ∧ H pf = some (.lst (nts f)) ∧ H pr = some (.lst (nts rs)) ∧ pr ≠ pf ∧ f.length + rs.length ≤ 500 ∧
  ∀ H', Same (hid pf H) (hid pf H') → H' pf = some (.lst (nts (addNew f rs))) → Q .non H'
theorem addNew_len : ∀ (rs : List Nat) (f : List Nat), (addNew f rs).length ≤ f.length + rs.length
  | [], f => Nat.le_refl _
  | r :: rs, f => by
    refine Nat.le_trans (addNew_len rs _) ?_
    split
    · rw [List.length_cons]; omega
    · rw [List.length_append, List.length_singleton, List.length_cons]; omega
theorem ok_p_append_new (T : Txt K mg) : FnOk P w K mg base CX0 1 T.f_p_append_new T.d_p_append_new ["found", "rooms"] spAppNew := by
  refine T.F_p_append_new.ok sc_p_append_new (fun vs H Q E h => ?_) (fun cdv A outer s H vs Q E hr h => ?_)
  · obtain ⟨pf, pr, f, rs, rfl, _⟩ := h
    rfl
  · obtain ⟨pf, pr, f, rs, rfl, ef, er, ne, few, q⟩ := h
    refine ⟨_, (pss_one (ps_for PassesOwn.never rfl (pi_list (pv 1)) (pg_name (i := 2) sc_p_append_new.nd rfl (.inl rfl))
  (pss_one (ps_if (pt_cmpR op_notIn_seq (pv 2) (pv 0) (by with_unfolding_all rfl))
  (pss_one (ps_expr (pe_bm PySem.F.plainAttrs_list PySem.F.slot_list_append PySem.F.type_list_append mt_append (pv 0) (pa_cons (pv 2) pa_nil))))
  pss_nil)))), ?_⟩
    refine ⟨_, rfl, pr, rfl, ⟨_, SqL.of er⟩, for_list (K := K) (a := pr) (xs := nts rs) (fun i σ H' => ∃ z, σ = [some (.ref pf), some (.ref pr), z] ∧ Same (hid pf H) (hid pf H') ∧ H' pf = some (.lst (nts (addNew f (rs.take i))))) ⟨_, rfl, Same.refl _, ef⟩ (fun i σ H' _ h => ?_) (fun i x σ H' hx h => ?_) (fun σ H' h => ?_)⟩
    · obtain ⟨z, rfl, s1, e1⟩ := h
      exact SqL.of (hid_same _ _ (s1 _ _ (by rw [hid_ne ne]; exact er)))
    · obtain ⟨z, rfl, s1, e1⟩ := h
      obtain ⟨r, hr', rfl⟩ := nts_at hx
      have et : rs.take (i + 1) = rs.take i ++ [r] := by rw [List.take_add_one, hr']; rfl
      have ea : addNew f (rs.take (i + 1)) = if r ∈ addNew f (rs.take i) then addNew f (rs.take i) else addNew f (rs.take i) ++ [r] := by rw [et, addNew_snoc]
      refine ⟨_, rfl, _, rfl, pf, _, rfl, .inl (SqL.of e1), rfl, nts_flat, _, rfl, ?_⟩
      rw [inV_nts]
      by_cases hm : r ∈ addNew f (rs.take i)
      · rw [decide_eq_true hm]
        refine iteF ⟨_, rfl, s1, ?_⟩
        rw [ea, if_pos hm]
        exact e1
      · rw [decide_eq_false hm]
        refine iteT ⟨_, rfl, .inl ⟨rfl, _, SqL.of e1⟩, _, rfl, pf, _, _, rfl, rfl, e1, ?_, _, rfl, ?_, ?_⟩
        · have h1 := addNew_len (rs.take i) f
          have h2 : (rs.take i).length ≤ rs.length := by rw [List.length_take]; omega
          rw [nts_len]
          exact small1000 (by omega)
        · rw [hid_upd]
          exact s1
        · rw [upd_same, nts_snoc, ea, if_neg hm]
    · obtain ⟨z, rfl, s1, e1⟩ := h
      rw [nts_len, List.take_length] at e1
      exact q H' s1 e1
structure MOk (m : Nat) (out : List Stp) : Prop where
  ok : StpsOk m out
  up : Sorted out
  low : ∀ s ∈ out, Fb.low s.ws = s.ws
def IsMach (C : Addr) (H : Hp) (v : V) (m : Nat) (out : List Stp) : Prop := ∃ p dx r svs, v = .ref p ∧ H p = some (.ins C dx (mflds m r)) ∧ H r = some (.lst svs) ∧ AllAre (IsStp H) svs out
theorem IsMach.mono {C : Addr} {H H' : Hp} {v : V} {m : Nat} {out : List Stp} (h : IsMach C H v m out) (s : Same H H') : IsMach C H' v m out := by
  obtain ⟨p, dx, r, svs, e, h1, h2, a⟩ := h
  exact ⟨p, dx, r, svs, e, s _ _ h1, s _ _ h2, a.imp fun _ _ h => h.mono s⟩
def spFoundR (C : Addr) : Sp := fun vs H Q _ => ∃ (v : V) (m : Nat) (out : List Stp), vs = [v] ∧ IsMach C H v m out ∧ MOk m out ∧ ∀ H' pf, H pf = none → Same H H' → H' pf = some (.lst (nts (foundOf out m))) → Q (.ref pf) H'
theorem pre_at {f g : List Nat} {i r : Nat} (h : f <+: g) (e : f[i]? = some r) : g[i]? = some r := by
  obtain ⟨t, rfl⟩ := h
  rw [List.getElem?_append_left (List.getElem?_eq_some_iff.mp e).1]
  exact e
theorem are_nts {ys : List V} {l : List Nat} (h : AllAre (fun y (i : Nat) => y = V.int (i : Int)) ys l) : ys = nts l := by
  refine List.ext_getElem? fun i => ?_
  by_cases hi : i < ys.length
  · obtain ⟨x, hx, e⟩ := h.at (List.getElem?_eq_getElem hi)
    rw [List.getElem?_eq_getElem hi, List.getElem?_map, hx, e]
    rfl
  · have := h.1
    rw [List.getElem?_eq_none (by omega), List.getElem?_eq_none (by rw [nts_len]; omega)]
theorem ok_p_found_rooms (T : Txt K mg) : FnOk P w K mg base CX0 2 T.f_p_found_rooms T.d_p_found_rooms ["machine"] (spFoundR T.c_Machine) := by
  refine T.F_p_found_rooms.ok sc_p_found_rooms (fun vs H Q E h => ?_) (fun cdv A outer s H vs Q E hr h => ?_)
  · obtain ⟨v, m, out, rfl, _⟩ := h
    rfl
  · obtain ⟨v, m, out, rfl, ⟨p, dx, r0, svs, rfl, hp, hr0, av⟩, ok, q⟩ := h
    refine ⟨_, (pss_cons (ps_set (i := 1) sc_p_found_rooms.nd rfl (.inl rfl) (pe_lst (pa_cons pe_int pa_nil)))
 (pss_cons (ps_set (i := 2) sc_p_found_rooms.nd rfl (.inl rfl) pe_int)
 (pss_cons (ps_while PassesOwn.never (pt_cmpR op_lt (pv 2) (pe_callB call_len_seq (by rfl) T.z_len (by decide +kernel) (pa_cons (pv 1) pa_nil)) (nomark _))
  (pss_cons (ps_for PassesOwn.never rfl (pi_list (pe_fld (pv 0) rfl)) (pg_tup (by rfl) (pgs_cons (pg_name (i := 3) sc_p_found_rooms.nd rfl (.inl rfl)) (pgs_cons (pg_name (i := 4) sc_p_found_rooms.nd rfl (.inl rfl)) (pgs_cons (pg_name (i := 5) sc_p_found_rooms.nd rfl (.inl rfl)) pgs_nil))))
  (pss_one (ps_if (pt_cmpR op_eq (pv 3) (pe_ix ix_list (pv 1) (pv 2) (fun _ _ => rfl)) (nomark _))
  (pss_one (ps_expr (pe_call (ok_p_append_new T) (hr.mono (by decide)) (by rfl) T.g_p_append_new T.F_p_append_new.kp T.b_p_append_new .nil pass0 (pa_cons (pv 1) (pa_cons (pe_lc (own := [("to", 6), ("weight", 7)]) (g := (gTup K 2 (gCons (gName 6) (gCons (gName 7) gNil)))) (tt := _) (by rfl) sc_p_found_rooms.nd (pi_enumT (by rfl) T.z_enumerate (pa_cons (pv 5) pa_nil)) (blkOk_by (own := [("to", 6), ("weight", 7)]) (N := ["machine", "found", "at", "room", "sign", "weights", "to", "weight"]) (sc := defScope s_p_found_rooms) (by decide +kernel)) (fun _ _ _ _ _ => by exact (pg_tup (by rfl) (pgs_cons (pg_name (i := 6) sc_p_found_rooms.nd rfl (.inl rfl)) (pgs_cons (pg_name (i := 7) sc_p_found_rooms.nd rfl (.inl rfl)) pgs_nil)))) (fun _ _ _ _ _ => by exact (pts_one (pt_cmpR op_gt (pv 7) pe_int (nomark _)))) (fun _ _ _ _ _ => by exact (pv 6))) pa_nil)))))
  pss_nil)))
 (pss_one (ps_aug (i := 2) sc_p_found_rooms.nd rfl (.inl rfl) pe_int ip_add))))
 (pss_one (ps_ret (pv 1)))))), ?_⟩
    have m1 := ok.ok.m1
    have m12 := ok.ok.m12
    have wl : ∀ s ∈ out, s.ws.length = m := fun s hs => (ok.ok.all s hs).wts.len
    refine ⟨by show 1 ≤ sizeLine; decide, fun pf nf => ?_⟩
    have s0 := same_upd (o := .lst [.int 0]) nf
    refine ⟨fun c σ H' => ∃ (z3 z4 z5 z6 z7 : Option V) (i : Nat) (f : List Nat), σ = [some (.ref p), some (.ref pf), some (.int (i : Int)), z3, z4, z5, z6, z7] ∧ c = m - i ∧ Same H H' ∧ H' pf = some (.lst (nts f)) ∧ FOk m f ∧ i ≤ f.length ∧ bfs out (m + 1 - i) i f = foundOf out m, ⟨_, none, none, none, none, none, 0, [0], rfl, rfl, s0, upd_same, ⟨by simp, fun r hr => ?_⟩, Nat.zero_le _, rfl⟩, fun c σ H' hW => ?_⟩
    · rw [List.mem_singleton] at hr
      omega
    · obtain ⟨z3, z4, z5, z6, z7, i, f, rfl, rfl, sH, ef, fok, il, eb⟩ := hW
      have fl := fok.len
      refine ⟨_, rfl, _, rfl, pf, _, rfl, .inl (SqL.of ef), _, _, rfl, rfl, _, rfl, ite2 (fun h => ?_) (fun h => ?_)⟩
      · have hi : i < f.length := by
          have h' : (i : Int) < ((nts f).length : Nat) := of_decide_eq_true h
          rw [nts_len] at h'
          omega
        obtain ⟨r, hr'⟩ : ∃ r, f[i]? = some r := ⟨_, List.getElem?_eq_getElem hi⟩
        refine ⟨fun σ' H'' => ∃ (z3 z4 z5 z6 z7 : Option V), σ' = [some (.ref p), some (.ref pf), some (.int ((i : Int) + 1)), z3, z4, z5, z6, z7] ∧ Same H H'' ∧ H'' pf = some (.lst (nts (scan r out f))), fun σ' H'' h => ?_, ?_⟩
        · obtain ⟨z3, z4, z5, z6, z7, rfl, sH', ef'⟩ := h
          have fl' := (scan_pre r out f).length_le
          refine ⟨m - (i + 1), by omega, _, _, _, _, _, i + 1, scan r out f, rfl, rfl, sH', ef', scan_ok fok wl, by omega, ?_⟩
          rw [← eb, show m + 1 - i = (m + 1 - (i + 1)) + 1 by omega, bfs_go hr']
        · refine ⟨_, rfl, p, _, _, _, _, rfl, sH _ _ hp, T.cl_Machine, T.n_Machine_steps, mflds_steps m r0, r0, rfl, ⟨_, SqL.of (sH _ _ hr0)⟩, ?_⟩
          refine for_list (K := K) (a := r0) (xs := svs) (fun j σ H'' => ∃ (z3 z4 z5 z6 z7 : Option V), σ = [some (.ref p), some (.ref pf), some (.int (i : Int)), z3, z4, z5, z6, z7] ∧ Same H H'' ∧ H'' pf = some (.lst (nts (scan r (out.take j) f)))) ⟨_, _, _, _, _, rfl, sH, ef⟩ (fun j σ H'' _ h => ?_) (fun j x σ H'' hx h => ?_) (fun σ H'' h => ?_)
          · obtain ⟨_, _, _, _, _, _, sH', _⟩ := h
            exact SqL.of (sH' _ _ hr0)
          · obtain ⟨z3, z4, z5, z6, z7, rfl, sH', ef'⟩ := h
            obtain ⟨st, hst, t, wa, rfl, ht, hw⟩ := av.at hx
            have so := ok.ok.all st (List.mem_of_getElem? hst)
            have ht' := sH' _ _ ht
            have hw' := sH' _ _ hw
            have et : out.take (j + 1) = out.take j ++ [st] := by rw [List.take_add_one, hst]; rfl
            have es := scan_snoc r st (out.take j) f
            rw [← et] at es
            have fok' : FOk m (scan r (out.take j) f) := scan_ok fok fun s hs => wl s (List.mem_of_mem_take hs)
            have fl' := fok'.len
            have hr2 : (nts (scan r (out.take j) f))[i]? = some (.int (r : Int)) := by
              rw [List.getElem?_map, pre_at (scan_pre r (out.take j) f) hr']
              rfl
            refine ⟨t, _, rfl, .inl (.inl ht'), rfl, _, _, rfl, _, _, rfl, _, _, rfl, rfl, ?_⟩
            refine ⟨_, rfl, _, rfl, _, rfl, pf, _, (i : Int), _, rfl, rfl, SqL.of ef', atI_nat hr2, rfl, _, rfl, ?_⟩
            by_cases hrm : st.room = r
            · rw [if_pos hrm] at es
              rw [hrm, decide_eq_true rfl]
              refine iteT ⟨_, rfl, _, rfl, wa, _, rfl, .inl (.inl hw'), fun D nD => lc_filtW (walk_enumT (K := K) (a := wa) (xs := nts st.ws)) (fun i => decide (0 < st.ws.getD i 0)) (fun i y _ => y = .int (i : Nat)) (fun _ _ _ _ _ h => h) nD (fun H3 s3 => .inl (.inl (s3 _ _ hw'))) (by rw [nts_len, so.wts.len]; omega) (fun k x H3 H4 kt kf hk s3 eD y hkt hkf => ?_) (fun H3 ys s3 e3 a3 => ?_)⟩
              · obtain ⟨tt, x1, y1, rfl, nt, rfl, ex, ey⟩ := y
                cases ex
                have ey : (nts st.ws)[k]? = some y1 := ey
                obtain ⟨n, hn, rfl⟩ := nts_at ey
                have eg : st.ws.getD k 0 = n := by rw [List.getD_eq_getElem?_getD, hn]; rfl
                have st4 := same_upd (o := .tup [.int (k : Nat), .int (n : Int)]) nt
                refine ⟨tt, _, rfl, .inl (.inl upd_same), rfl, _, _, rfl, _, _, rfl, rfl, rfl, ?_⟩
                refine ⟨_, rfl, _, _, rfl, rfl, _, rfl, ?_⟩
                dsimp only
                by_cases h0 : 0 < n
                · rw [decide_eq_true (show (0 : Int) < (n : Int) by omega)]
                  exact iteT ⟨_, rfl, hkt (by rw [eg]; exact decide_eq_true h0) _ _ st4 rfl⟩
                · rw [decide_eq_false (show ¬ (0 : Int) < (n : Int) by omega)]
                  exact iteF (hkf (by rw [eg]; exact decide_eq_false h0) _ st4)
              · have ey : ys = nts (tos st.ws) := by
                  rw [nts_len] at a3
                  exact are_nts a3
                rw [ey] at e3
                have nDp : D ≠ pf := fun z => by
                  rw [z, ef'] at nD
                  cases nD
                have tl : (tos st.ws).length ≤ 12 := by
                  have h1 := List.length_filter_le (fun i => decide (0 < st.ws.getD i 0)) (List.range st.ws.length)
                  rw [List.length_range, so.wts.len] at h1
                  unfold tos
                  rw [so.wts.len]
                  omega
                refine ⟨pf, D, _, tos st.ws, rfl, hid_same _ _ (s3 _ _ ef'), e3, nDp, by omega, fun H5 s5 e5 => ?_⟩
                refine ⟨_, _, _, _, _, rfl, fun b o e => ?_, by rw [es]; exact e5⟩
                have hb : b ≠ pf := ne_of_none e nf
                have h3 := hid_same _ _ (s3 _ _ (sH' _ _ e))
                exact hid_same _ _ (s5 _ _ (by rw [hid_ne hb]; exact h3))
            · rw [if_neg hrm] at es
              rw [decide_eq_false (fun z => hrm (by have := V.int.inj z; omega))]
              refine iteF ⟨_, _, _, _, _, rfl, sH', ?_⟩
              rw [es]
              exact ef'
          · obtain ⟨z3, z4, z5, z6, z7, rfl, sH', ef'⟩ := h
            rw [av.1, List.take_length] at ef'
            refine ⟨_, rfl, _, _, rfl, rfl, ?_⟩
            exact ⟨_, _, _, _, _, rfl, sH', ef'⟩
      · have hi : f.length ≤ i := by
          have h' : ¬ (i : Int) < ((nts f).length : Nat) := fun z => h (decide_eq_true z)
          rw [nts_len] at h'
          omega
        rw [bfs_end hi] at eb
        rw [eb] at ef
        exact ⟨_, rfl, q H' pf nf sH ef⟩
end
end Fb
namespace Fb
open PySem PySem.Spec PyProof.Rows L2
section
theorem mem_scan {r t : Nat} {s : Stp} (ht : t ∈ tos s.ws) (hr : s.room = r) : ∀ {ss : List Stp} {f : List Nat}, s ∈ ss → t ∈ scan r ss f
  | [], f, h => by cases h
  | s' :: ss, f, h => by
    show t ∈ scan r ss (if s'.room = r then addNew f (tos s'.ws) else f)
    rcases List.mem_cons.mp h with rfl | h
    · rw [if_pos hr]
      exact (scan_pre r ss _).subset (mem_addNew.mpr (.inr ht))
    · exact mem_scan ht hr h
def Closed (out : List Stp) (f : List Nat) : Prop := ∀ s ∈ out, s.room ∈ f → ∀ t ∈ tos s.ws, t ∈ f
theorem bfs_spec {m : Nat} {out : List Stp} (wl : ∀ s ∈ out, s.ws.length = m) : ∀ (k i : Nat) (f : List Nat), FOk m f → i ≤ f.length → m + 1 - i ≤ k →
    (∀ (j r : Nat), j < i → f[j]? = some r → ∀ s ∈ out, s.room = r → ∀ t ∈ tos s.ws, t ∈ f) → (f <+: bfs out k i f) ∧ FOk m (bfs out k i f) ∧ Closed out (bfs out k i f)
  | 0, i, f, fok, il, hk, _ => by
    have := fok.len
    omega
  | k + 1, i, f, fok, il, hk, hc => by
    cases e : f[i]? with
    | none =>
      have hl : f.length ≤ i := List.getElem?_eq_none_iff.mp e
      rw [bfs_end hl]
      refine ⟨List.prefix_refl f, fok, fun s hs hr => ?_⟩
      obtain ⟨j, hj⟩ := List.getElem?_of_mem hr
      have := (List.getElem?_eq_some_iff.mp hj).1
      exact hc j s.room (by omega) hj s hs rfl
    | some r =>
      rw [bfs_go e]
      have hi := (List.getElem?_eq_some_iff.mp e).1
      have sp := scan_pre r out f
      have := bfs_spec wl k (i + 1) (scan r out f) (scan_ok fok wl) (by have := sp.length_le; omega) (by omega) (fun j r' hj ej s hs hr t ht => ?_)
      · exact ⟨sp.trans this.1, this.2⟩
      · by_cases hji : j = i
        · subst hji
          have := pre_at sp e
          rw [this] at ej
          cases ej
          exact mem_scan ht hr hs
        · have ej' : f[j]? = some r' := by
            have hl : j < f.length := by omega
            have := pre_at sp (List.getElem?_eq_getElem hl)
            rw [this] at ej
            rw [← ej, List.getElem?_eq_getElem hl]
          exact sp.subset (hc j r' (by omega) ej' s hs hr t ht)
theorem found_spec {m : Nat} {out : List Stp} (ok : MOk m out) : ([0] <+: foundOf out m) ∧ FOk m (foundOf out m) ∧ Closed out (foundOf out m) :=
  bfs_spec (fun s hs => (ok.ok.all s hs).wts.len) (m + 1) 0 [0] ⟨by simp, fun r hr => by
    rw [List.mem_singleton] at hr
    have := ok.ok.m1
    omega⟩ (Nat.zero_le _) (Nat.le_refl _) (fun j r hj => absurd hj (Nat.not_lt_zero j))
def trS (F : List Nat) (s : Stp) : Stp := ⟨F.idxOf s.room, s.sign, F.map fun t => s.ws.getD t 0⟩
def tr (F : List Nat) (out : List Stp) : List Stp := (out.filter fun s => decide (s.room ∈ F)).map (trS F)
theorem dvd_gcdF {d : Nat} : ∀ (l : List Nat) (g : Nat), d ∣ g → (∀ n ∈ l, d ∣ n) → d ∣ gcdF g l
  | [], g, hg, _ => hg
  | n :: l, g, hg, h => dvd_gcdF l (Nat.gcd n g) (Nat.dvd_gcd (h n List.mem_cons_self) hg) (fun x hx => h x (List.mem_cons_of_mem _ hx))
theorem low_one {ws : List Nat} (h : low ws = ws) (pos : ∃ n ∈ ws, 0 < n) : gcdF 0 ws = 1 := by
  obtain ⟨n, hn, n0⟩ := pos
  have g0 := gcdF_pos (g := 0) ⟨n, hn, n0⟩
  obtain ⟨i, hi⟩ := List.getElem?_of_mem hn
  have h2 : (low ws)[i]? = some (n / gcdF 0 ws) := by
    unfold low
    rw [List.getElem?_map, hi]
    rfl
  rw [h, hi] at h2
  have e : n = n / gcdF 0 ws := Option.some.inj h2
  by_cases h1 : gcdF 0 ws = 1
  · exact h1
  · exfalso
    have := Nat.div_lt_self n0 (show 1 < gcdF 0 ws by omega)
    omega
theorem one_low {ws : List Nat} (h : gcdF 0 ws = 1) : low ws = ws := by
  unfold low
  rw [h]
  have : (fun (x : Nat) => x / 1) = id := by
    funext x
    exact Nat.div_one x
  rw [this, List.map_id]
theorem getD_at {ws : List Nat} {t n : Nat} (h : ws[t]? = some n) : ws.getD t 0 = n := by
  rw [List.getD_eq_getElem?_getD, h]
  rfl
theorem trS_ok {m : Nat} {out : List Stp} {F : List Nat} (ok : MOk m out) (fok : FOk m F) (cl : Closed out F) {s : Stp} (hs : s ∈ out) (hr : s.room ∈ F) : StpOk F.length (trS F s) ∧ low (trS F s).ws = (trS F s).ws := by
  have so := ok.ok.all s hs
  have key : ∀ n ∈ s.ws, n ≠ 0 → n ∈ (trS F s).ws := fun n hn n0 => by
    obtain ⟨t, ht⟩ := List.getElem?_of_mem hn
    have hl := (List.getElem?_eq_some_iff.mp ht).1
    refine List.mem_map.mpr ⟨t, cl s hs hr t (mem_tos.mpr ⟨hl, ?_⟩), getD_at ht⟩
    rw [getD_at ht]
    omega
  have mem : ∀ n ∈ (trS F s).ws, n = 0 ∨ n ∈ s.ws := fun n hn => by
    obtain ⟨t, _, rfl⟩ := List.mem_map.mp hn
    rw [List.getD_eq_getElem?_getD]
    cases e : s.ws[t]? with
    | none => exact .inl rfl
    | some n => exact .inr (List.mem_of_getElem? e)
  have pos : ∃ n ∈ (trS F s).ws, 0 < n := by
    obtain ⟨n, hn, n0⟩ := so.wts.pos
    exact ⟨n, key n hn (by omega), n0⟩
  refine ⟨⟨List.idxOf_lt_length_of_mem hr, so.sign, ⟨by show (F.map _).length = _; rw [List.length_map], pos, fun n hn => ?_⟩⟩, one_low ?_⟩
  · rcases mem n hn with rfl | h
    · exact Nat.pow_pos (by decide)
    · exact so.wts.bd n h
  · have g1 := low_one (ok.low s hs) so.wts.pos
    have : gcdF 0 (trS F s).ws ∣ gcdF 0 s.ws := dvd_gcdF _ _ (Nat.dvd_zero _) fun n hn => by
      by_cases n0 : n = 0
      · rw [n0]
        exact Nat.dvd_zero _
      · exact (gcdF_dvd _ 0).2 n (key n hn n0)
    rw [g1] at this
    exact Nat.dvd_one.mp this
theorem tr_low {m : Nat} {out : List Stp} {F : List Nat} (ok : MOk m out) (fok : FOk m F) (cl : Closed out F) : (tr F out).map lowS = tr F out := by
  conv => rhs; rw [← List.map_id (tr F out)]
  refine List.map_congr_left fun s hs => ?_
  obtain ⟨s0, h0, rfl⟩ := List.mem_map.mp hs
  obtain ⟨h1, h2⟩ := List.mem_filter.mp h0
  have := (trS_ok ok fok cl h1 (of_decide_eq_true h2)).2
  show (⟨_, _, low (trS F s0).ws⟩ : Stp) = trS F s0
  rw [this]
theorem idx_inj {F : List Nat} {a b : Nat} (ha : a ∈ F) (hb : b ∈ F) (e : F.idxOf a = F.idxOf b) : a = b := by
  have h1 := List.getElem_idxOf (List.idxOf_lt_length_of_mem ha)
  have h2 := List.getElem_idxOf (List.idxOf_lt_length_of_mem hb)
  rw [← h1, ← h2]
  congr 1
theorem tr_ok {m : Nat} {out : List Stp} {F : List Nat} (ok : MOk m out) (fok : FOk m F) (cl : Closed out F) (f0 : 0 < F.length) : StpsOk F.length (tr F out) := by
  have fl := fok.len
  have m12 := ok.ok.m12
  refine ⟨f0, by omega, ?_, fun s hs => ?_, ?_⟩
  · unfold tr
    rw [List.length_map]
    exact Nat.lt_of_le_of_lt (List.length_filter_le _ _) ok.ok.few
  · obtain ⟨s0, h0, rfl⟩ := List.mem_map.mp hs
    obtain ⟨h1, h2⟩ := List.mem_filter.mp h0
    exact (trS_ok ok fok cl h1 (of_decide_eq_true h2)).1
  · have h1 : out.Pairwise fun a b => a.key ≠ b.key := List.pairwise_map.mp ok.ok.once
    have h2 := h1.filter (fun s => decide (s.room ∈ F))
    unfold tr
    rw [List.map_map]
    refine List.pairwise_map.mpr (List.Pairwise.imp_of_mem (fun {a b} ha hb hab e => hab ?_) h2)
    have ra := of_decide_eq_true (List.mem_filter.mp ha).2
    have rb := of_decide_eq_true (List.mem_filter.mp hb).2
    have e1 : ((F.idxOf a.room : Nat) : Int) = ((F.idxOf b.room : Nat) : Int) := congrArg Prod.fst e
    have e2 : a.sign = b.sign := congrArg Prod.snd e
    have e3 := idx_inj ra rb (by omega)
    exact Prod.ext (by show (a.room : Int) = b.room; omega) e2
/-- what trimmed tells -/
theorem tr_mok {m : Nat} {out out2 : List Stp} {F : List Nat} (ok : MOk m out) (fok : FOk m F) (cl : Closed out F) (f0 : 0 < F.length) (so : SortedOf (tr F out) out2) : MOk F.length out2 ∧ out2.Perm (tr F out) := by
  have p : out2.Perm (tr F out) := by
    have := so.1
    rwa [tr_low ok fok cl] at this
  have t := tr_ok ok fok cl f0
  refine ⟨⟨⟨t.m1, t.m12, by rw [p.length_eq]; exact t.few, fun s hs => t.all s (p.mem_iff.mp hs), (p.map Stp.key).nodup_iff.mpr t.once⟩, so.2, fun s hs => ?_⟩, p⟩
  obtain ⟨s0, h0, rfl⟩ := List.mem_map.mp (p.mem_iff.mp hs)
  obtain ⟨h1, h2⟩ := List.mem_filter.mp h0
  exact (trS_ok ok fok cl h1 (of_decide_eq_true h2)).2
end
end Fb
namespace Fb
open PySem PySem.Spec PyProof.Rows L2
section
variable {P : Program} {w : World} {K : PySem.W.Frag} {mg : Str → Option Value} {base : Heap}
theorem dc_it {J : It} {n : Nat} {G : Hp → Prop} {Y : Nat → Hp → V → Hp → Prop} (w : Walk J n G Y) {g : TG} {tt : TT} {tk tv : TE} {vs : List Nat} {σ : L2.St} {H1 : Hp} {D : Addr} {Qd : Hp → Prop} (Pv : Nat → Hp → Prop) (h0 : Pv 0 (upd H1 D (.dK []))) (hG : ∀ i H, i ≤ n → Pv i H → G H)
    (hs : ∀ i x H H', i < n → Pv i H → Y i H x H' → g x (wipe σ vs) H' fun σ2 H2 => wipe σ2 vs = wipe σ vs ∧ tt σ2 H2 fun b H3 =>
      if b = true then tk σ2 H3 fun y H4 => tv σ2 H4 fun z H5 => ∃ kvs k, y = kV k ∧ H5 D = some (.dK kvs) ∧ kvs.length < sizeLine ∧ Pv (i + 1) (upd H5 D (.dK (putK kvs k z))) else Pv (i + 1) H3) (hd : ∀ H, Pv n H → Qd H) :
    ∃ W : Nat → Nat → Hp → Prop, (∃ m, W 0 m (upd H1 D (.dK []))) ∧ ∀ i m H, W i m H →
      (J.stop i H ∧ Qd H) ∨ (J.go i H ∧ ∃ Nx : Hp → Prop, (∀ H', Nx H' → ∃ m', m' < m ∧ W (i + 1) m' H') ∧ ∀ x H', J.yld i H x H' → g x (wipe σ vs) H' fun σ2 H2 => wipe σ2 vs = wipe σ vs ∧ tt σ2 H2 fun b H3 =>
        if b = true then tk σ2 H3 fun y H4 => tv σ2 H4 fun z H5 => ∃ kvs k, y = kV k ∧ H5 D = some (.dK kvs) ∧ kvs.length < sizeLine ∧ Nx (upd H5 D (.dK (putK kvs k z))) else Nx H3) := by
  refine ⟨fun i m H => m = n - i ∧ i ≤ n ∧ Pv i H, ⟨n, by simp, Nat.zero_le _, h0⟩, ?_⟩
  rintro i m H ⟨rfl, hi, p⟩
  have q := hG i H hi p
  by_cases hlt : i < n
  · exact .inr ⟨w.goes i H hlt q, Pv (i + 1), fun H' p' => ⟨n - (i + 1), by omega, rfl, hlt, p'⟩, fun x H' y => hs i x H H' hlt p (w.yields i H x H' hlt q y)⟩
  · have e : i = n := by omega
    subst e
    exact .inl ⟨w.stops H q, hd H p⟩
theorem call_tuple_ofK {X : Cx} {K : PySem.W.Frag} (hK : X.K = K) : CallR X (.type "tuple") (fun xs H Q => ∃ p ys, xs = [.ref p] ∧ ((SqL K H p ys ∧ ∀ l, H l = none → Q (.ref l) (upd H l (.tup ys))) ∨ (SqT K H p ys ∧ Q (.ref p) H))) := hK ▸ call_tuple_of
theorem mk_mach {C : Addr} {H1 : Hp} {m : Nat} {v : V} {ss : List Stp} {E : XK} {Q : Addr → Hp → Prop} (hv : IsStps H1 v ss) (ok : StpsOk m ss) (q : ∀ H' x out, Same H1 H' → H1 x = none → IsMach C H' (.ref x) m out → SortedOf ss out → Q x H') :
    ∀ x dx, H1 x = none → H1 dx = none → dx ≠ x → spMach C [.ref x, .int m, v] (upd (upd H1 dx (.own x)) x (.ins C dx [])) (fun u H2 => u = .non ∧ Q x H2) E := by
  intro x dx nx nd ne
  have s0 : Same H1 (upd H1 dx (.own x)) := same_upd nd
  have s1 : Same H1 (upd (upd H1 dx (.own x)) x (.ins C dx [])) := s0.trans (same_upd (by rw [upd_ne (Ne.symm ne)]; exact nx))
  refine ⟨x, dx, m, v, ss, rfl, upd_same, hv.mono s1, ok, fun H' r svs out keep hp nr hr av so => ⟨rfl, q H' x out (fun a o e => keep a o (s1 _ _ e) (ne_of_none e nx)) nx ⟨x, dx, r, svs, rfl, hp, hr, av⟩ so⟩⟩
theorem putK_len {kvs : List (Key × V)} {k : Key} {v : V} : (putK kvs k v).length ≤ kvs.length + 1 := by
  unfold putK
  split
  · rw [List.length_map]; omega
  · rw [List.length_append]; exact Nat.le_refl _
theorem idx_at {F : List Nat} {i r : Nat} (nd : F.Nodup) (h : F[i]? = some r) : F.idxOf r = i := by
  have hm := List.mem_of_getElem? h
  have h1 : F[F.idxOf r]? = some r := by rw [List.getElem?_eq_getElem (List.idxOf_lt_length_of_mem hm), List.getElem_idxOf]
  exact (List.getElem?_inj (List.idxOf_lt_length_of_mem hm) nd).mp (h1.trans h.symm)
theorem filt_are {α : Type} {R : V → α → Prop} {p : α → Bool} {xs : List α} : ∀ (k : Nat) (ys : List V), k ≤ xs.length → AllAre (fun y (i : Nat) => ∃ s, xs[i]? = some s ∧ R y s) ys ((List.range k).filter fun i => (xs[i]?).any p) → AllAre R ys ((xs.take k).filter p)
  | 0, ys, _, h => by
    have : ys = [] := List.length_eq_zero_iff.mp h.1
    subst this
    exact .nil
  | k + 1, ys, hk, h => by
    have hx : xs[k]? = some xs[k] := List.getElem?_eq_getElem hk
    rw [List.range_succ, List.filter_append] at h
    rw [List.take_add_one, hx, List.filter_append]
    cases hp : p xs[k] with
    | false =>
      rw [List.filter_cons_of_neg (by rw [hx]; show ¬ (p xs[k] = true); rw [hp]; exact Bool.false_ne_true), List.filter_nil, List.append_nil] at h
      have e : ((some xs[k]).toList.filter p) = [] := by simp [hp]
      rw [e, List.append_nil]
      exact filt_are k ys (by omega) h
    | true =>
      rw [List.filter_cons_of_pos (by rw [hx]; exact hp), List.filter_nil] at h
      have e : ((some xs[k]).toList.filter p) = [xs[k]] := by simp [hp]
      rw [e]
      generalize hL : ((List.range k).filter fun i => (xs[i]?).any p) = L at h
      have hl : ys.length = L.length + 1 := by rw [h.1, List.length_append]; rfl
      have h1 := h.take L.length
      rw [List.take_left] at h1
      have h2 : AllAre R (ys.take L.length) ((xs.take k).filter p) := filt_are k _ (by omega) (by rw [hL]; exact h1)
      have hy : ys[L.length]? = some (ys[L.length]'(by omega)) := List.getElem?_eq_getElem (by omega)
      obtain ⟨s, es, rs⟩ := h.2 L.length _ k hy (by rw [List.getElem?_append_right (Nat.le_refl _), Nat.sub_self]; rfl)
      rw [hx] at es
      cases es
      have ey : ys = ys.take L.length ++ [ys[L.length]'(by omega)] := by
        rw [List.take_append_getElem (by omega), List.take_of_length_le (by omega)]
      rw [ey]
      exact h2.snoc rs
def spTrim (C : Addr) : Sp := fun vs H Q _ => ∃ (v : V) (m : Nat) (out : List Stp), vs = [v] ∧ IsMach C H v m out ∧ MOk m out ∧
  ∀ H' v2 out2, Same H H' → IsMach C H' v2 (foundOf out m).length out2 → SortedOf (tr (foundOf out m) out) out2 → Q v2 H'
theorem ok_p_trimmed (T : Txt K mg) : FnOk P w K mg base CX0 7 T.f_p_trimmed T.d_p_trimmed ["machine"] (spTrim T.c_Machine) := by
  refine T.F_p_trimmed.ok sc_p_trimmed (fun vs H Q E h => ?_) (fun cdv A outer s H vs Q E hr h => ?_)
  · obtain ⟨v, m, out, rfl, _⟩ := h
    rfl
  · obtain ⟨v, m, out, rfl, im, ok, q⟩ := h
    refine ⟨_, (pss_cons (ps_set (i := 1) sc_p_trimmed.nd rfl (.inr rfl) (pe_call (ok_p_found_rooms T) (hr.mono (by decide)) (by rfl) T.g_p_found_rooms T.F_p_found_rooms.kp T.b_p_found_rooms .nil pass0 (pa_cons (pv 0) pa_nil)))
 (pss_cons (ps_set (i := 2) sc_p_trimmed.nd rfl (.inr rfl) (pe_dc (own := [("at", 4), ("room", 5)]) (g := (gTup K 2 (gCons (gName 4) (gCons (gName 5) gNil)))) (tt := tYes) (by rfl) sc_p_trimmed.nd (pi_enum (by rfl) T.z_enumerate (pa_cons (pv 1) pa_nil)) (blkOk_by (own := [("at", 4), ("room", 5)]) (N := ["machine", "found", "numbers", "steps", "at", "room", "sign", "weights", "to"]) (sc := defScope s_p_trimmed) (by decide +kernel)) (fun _ _ _ _ _ => by exact (pg_tup (by rfl) (pgs_cons (pg_name (i := 4) sc_p_trimmed.nd rfl (.inl rfl)) (pgs_cons (pg_name (i := 5) sc_p_trimmed.nd rfl (.inl rfl)) pgs_nil)))) (fun _ _ _ _ _ => by exact pts_nil) (fun _ _ _ _ _ => by exact (pv 5)) (fun _ _ _ _ _ => by exact (pv 4))))
 (pss_cons (ps_setLc (i := 3) (own := [("room", 5), ("sign", 6), ("weights", 7)]) (g := (gTup K 3 (gCons (gName 5) (gCons (gName 6) (gCons (gName 7) gNil))))) (tt := _) (by rfl) sc_p_trimmed.nd rfl rfl (sw_true rfl rfl rfl (by decide +kernel)) (pi_list (pe_fld (pv 0) rfl)) (blkOk_by (own := [("room", 5), ("sign", 6), ("weights", 7)]) (N := ["machine", "found", "numbers", "steps", "at", "room", "sign", "weights", "to"]) (sc := defScope s_p_trimmed) (by decide +kernel)) (fun _ _ _ _ _ => by exact (pg_tup (by rfl) (pgs_cons (pg_name (i := 5) sc_p_trimmed.nd rfl (.inl rfl)) (pgs_cons (pg_name (i := 6) sc_p_trimmed.nd rfl (.inl rfl)) (pgs_cons (pg_name (i := 7) sc_p_trimmed.nd rfl (.inr rfl)) pgs_nil))))) (fun _ _ _ _ _ => by exact (pts_one (pt_cmp (pc_din (units1 hr.units) (pv 5) (pv 2)) (by with_unfolding_all rfl)))) (fun _ _ _ _ _ => by exact (pe_tup (pa_cons (pe_dget (units1 hr.units) (pv 2) (pv 5) (fun _ _ => rfl)) (pa_cons (pv 6) (pa_cons (pe_callTy (call_tuple_ofK (K := K) rfl) (by rfl) T.z_tuple (by decide +kernel) (pa_cons (by exact (pe_lc (own := [("to", 8)]) (g := (gName 8)) (tt := tYes) (by rfl) sc_p_trimmed.nd (pi_listK (K := K) rfl (pv 1)) (by exact blkOk_by (own := [("to", 8)]) (by kernel_rfl)) (fun _ _ _ _ _ => by exact (pg_name (i := 8) sc_p_trimmed.nd rfl (.inl rfl))) (fun _ _ _ _ _ => by exact pts_nil) (fun _ _ _ _ _ => by exact (pe_ix (ix_tupK (K := K) rfl) (pv 7) (pv 8) (fun _ _ => rfl))))) pa_nil)) pa_nil))))))
 (pss_one (ps_ret (pe_make T.M_Machine (ok_m_Machine_init T) (hr.mono (by decide)) (by rfl) T.g_Machine T.b_m_Machine_init .nil pass0 (pa_cons (pe_callB call_len_seq (by rfl) T.z_len (by decide +kernel) (pa_cons (pv 1) pa_nil)) (pa_cons (pv 3) pa_nil)))))))), ?_⟩
    obtain ⟨pre, fok, cl⟩ := found_spec ok
    refine ⟨_, rfl, v, m, out, rfl, im, ok, fun H1 pf npf s1 e1 => ?_⟩
    generalize foundOf out m = F at *
    have f0 : 0 < F.length := pre.length_le
    have fl := fok.len
    have m12 := ok.ok.m12
    refine ⟨_, rfl, pf, _, rfl, SqL.of e1, fun D nD => dc_it (walk_enum (K := K) (a := pf) (xs := nts F)) (fun i H' => ∃ kvs, Same H1 H' ∧ H' D = some (.dK kvs) ∧ kvs.length ≤ i ∧ ∀ r : Nat, valV kvs (.inl (r : Int)) = if r ∈ F.take i then some (.int (F.idxOf r : Nat)) else none) ⟨[], same_upd nD, upd_same, Nat.le_refl _, fun r => by rw [List.take_zero]; rfl⟩ (fun i H' _ h => ?_) (fun i x H2 H3 hi h y => ?_) (fun H2 h => ?_)⟩
    · obtain ⟨_, s2, _⟩ := h
      exact SqL.of (s2 _ _ e1)
    · obtain ⟨kvs, s2, eD, lk, vk⟩ := h
      obtain ⟨t, x1, y1, rfl, nt, rfl, ex, ey⟩ := y
      cases ex
      have ey : (nts F)[i]? = some y1 := ey
      obtain ⟨n, hn, rfl⟩ := nts_at ey
      have st := same_upd (o := .tup [.int (i : Nat), .int (n : Int)]) nt
      rw [nts_len] at hi
      refine ⟨t, _, rfl, .inl (.inl upd_same), rfl, _, _, rfl, _, _, rfl, rfl, rfl, ?_⟩
      dsimp only [tYes]
      rw [if_pos rfl]
      refine ⟨_, rfl, _, rfl, kvs, .inl (n : Int), rfl, st _ _ eD, small1000 (by omega), putK kvs (.inl (n : Int)) (.int (i : Nat)), ?_, upd_same, Nat.le_trans putK_len (by omega), fun r => ?_⟩
      · exact same_over (s2.trans st) nD
      · rw [valV_put, List.take_add_one, hn]
        by_cases hrn : r = n
        · subst hrn
          rw [if_pos rfl, if_pos (List.mem_append.mpr (.inr (by simp))), idx_at fok.nd hn]
        · rw [if_neg (fun z => hrn (by have := Sum.inl.inj z; omega)), vk r]
          have : (r ∈ F.take i ++ (some n).toList) ↔ r ∈ F.take i := by
            rw [List.mem_append]
            constructor
            · rintro (h | h)
              · exact h
              · exact absurd (by simpa using h) hrn
            · exact .inl
          simp only [this]
    · obtain ⟨kvs, s2, eD, lk, vk⟩ := h
      rw [nts_len, List.take_length] at vk
      have s12 := s1.trans s2
      have e12 := s2 _ _ e1
      obtain ⟨p, dx, r0, svs, rfl, hp, hr0, av⟩ := im.mono s12
      refine ⟨_, rfl, p, _, _, _, _, rfl, hp, T.cl_Machine, T.n_Machine_steps, mflds_steps m r0, r0, rfl, ⟨_, SqL.of hr0⟩, fun D2 nD2 => lc_filtW (walk_list (K := K) (a := r0) (xs := svs)) (fun i => (out[i]?).any fun s => decide (s.room ∈ F)) (fun i y G => ∃ s, out[i]? = some s ∧ IsStp G y (trS F s)) (fun _ _ _ _ s h => h.elim fun st f => ⟨st, f.1, f.2.mono s⟩) nD2 (fun H' s => SqL.of (s _ _ hr0)) (by rw [av.1]; have := ok.ok.few; omega) (fun i x H3 H4 kt kf hi s3 eD3 y hkt hkf => ?_) (fun H3 ys s3 e3 a3 => ?_)⟩
      · obtain ⟨rfl, hv⟩ := y
        obtain ⟨st, hst, t, wa, rfl, ht, hw⟩ := av.at hv
        simp only [hst, Option.any_some] at hkt hkf
        have so := ok.ok.all st (List.mem_of_getElem? hst)
        have ht3 := hid_same _ _ (s3 _ _ ht)
        have hw3 := hid_same _ _ (s3 _ _ hw)
        have eD4 := hid_same _ _ (s3 _ _ eD)
        have e13 := hid_same _ _ (s3 _ _ e12)
        have dg : DGet H4 D (.int (st.room : Int)) (if st.room ∈ F then some (.int (F.idxOf st.room : Nat)) else none) := by
          rw [← vk st.room]
          exact DGet.k (k := .inl (st.room : Int)) eD4
        refine ⟨t, _, rfl, .inl (.inl ht3), rfl, _, _, rfl, _, _, rfl, _, _, rfl, rfl, rfl, ?_⟩
        refine ⟨_, rfl, _, rfl, D, _, rfl, dg, _, rfl, ?_⟩
        by_cases hm : st.room ∈ F
        · rw [if_pos hm]
          rw [if_pos hm] at dg
          refine iteT ⟨_, rfl, _, rfl, D, _, rfl, dg, _, rfl, _, rfl, pf, rfl, ⟨_, SqL.of e13⟩, fun D3 nD3 => lc_allW (walk_list (K := K) (a := pf) (xs := nts F)) (fun i y _ => ∃ r, F[i]? = some r ∧ y = .int (st.ws.getD r 0 : Nat)) (fun _ _ _ _ _ h => h) nD3 (fun H' s => SqL.of (s _ _ e13)) (by rw [nts_len]; omega) (fun j x H5 H6 kk hj s5 eD5 y hk => ?_) (fun H5 ys s5 e5 l5 r5 => ?_)⟩
          · obtain ⟨rfl, hv'⟩ := y
            obtain ⟨r, hr', rfl⟩ := nts_at hv'
            have rl : r < st.ws.length := by
              rw [so.wts.len]
              exact fok.lt r (List.mem_of_getElem? hr')
            have hw5 := hid_same _ _ (s5 _ _ hw3)
            refine ⟨rfl, _, rfl, _, rfl, wa, _, (r : Int), .int (st.ws.getD r 0 : Nat), rfl, rfl, .inl (.inl hw5), atI_nat ?_, hk _ _ (Same.refl _) ⟨r, hr', rfl⟩⟩
            rw [List.getElem?_map, List.getElem?_eq_getElem rl, getD_at (List.getElem?_eq_getElem rl)]
            rfl
          · have ey : ys = nts (trS F st).ws := by
              refine List.ext_getElem? fun j => ?_
              show _ = ((F.map _).map _)[j]?
              rw [nts_len] at l5
              by_cases hj : j < ys.length
              · obtain ⟨r, hr', e⟩ := r5 j _ (List.getElem?_eq_getElem hj)
                rw [List.getElem?_eq_getElem hj, e, List.getElem?_map, List.getElem?_map, hr']
                rfl
              · rw [List.getElem?_eq_none (by omega), List.getElem?_eq_none (by rw [List.length_map, List.length_map]; omega)]
            rw [ey] at e5
            refine ⟨D3, _, rfl, .inl ⟨SqL.of e5, fun l nl => ⟨by show 3 ≤ sizeLine; decide, fun t2 nt2 => ?_⟩⟩⟩
            have s45 : Same H4 H5 := s5.trans hid_same
            have sl := same_upd (o := .tup (nts (trS F st).ws)) nl
            have st2 := same_upd (o := .tup [.int (F.idxOf st.room : Nat), .str st.sign, .ref l]) nt2
            have eD2 : ∃ ys, (upd (upd H5 l (.tup (nts (trS F st).ws))) t2 (.tup [.int (F.idxOf st.room : Nat), .str st.sign, .ref l])) D2 = some (.lst ys) := by
              obtain ⟨ys', e'⟩ := eD3
              exact ⟨ys', st2 _ _ (sl _ _ (s45 _ _ e'))⟩
            refine hkt (decide_eq_true hm) _ _ (s45.trans (sl.trans st2)) ⟨st, rfl, t2, l, rfl, hid_no eD2 upd_same (fun _ => nofun), hid_no eD2 (st2 _ _ upd_same) (fun _ => nofun)⟩
        · rw [if_neg hm]
          exact iteF (hkf (decide_eq_false hm) _ (Same.refl _))
      · have a4 : AllAre (IsStp H3) ys (tr F out) := by
          rw [av.1] at a3
          have h1 := filt_are (R := fun y s => IsStp (hid D2 H3) y (trS F s)) (p := fun s => decide (s.room ∈ F)) out.length ys (Nat.le_refl _) a3
          rw [List.take_length] at h1
          refine .of_ix (by unfold tr; rw [List.length_map]; exact h1.1) fun i y hy => ?_
          obtain ⟨s, hs, r⟩ := h1.at hy
          refine ⟨trS F s, ?_, r.mono hid_same⟩
          unfold tr
          rw [List.getElem?_map, hs]
          rfl
        have s23 : Same H2 H3 := s3.trans hid_same
        refine ⟨_, rfl, pf, _, rfl, .inl (SqL.of (s23 _ _ e12)), _, rfl, ?_⟩
        rw [nts_len]
        exact mk_mach ⟨D2, ys, rfl, e3, a4⟩ (tr_ok ok fok cl f0) fun H' x out2 s4 _ im2 so => q H' _ out2 (s12.trans (s23.trans s4)) im2 so
end
end Fb
namespace Fb
open PySem PySem.Spec PyProof.Rows L2
section
theorem gcdF_mul (c : Nat) : ∀ (l : List Nat) (g : Nat), gcdF (c * g) (l.map (c * ·)) = c * gcdF g l
  | [], g => rfl
  | n :: l, g => by
    show gcdF (Nat.gcd (c * n) (c * g)) (l.map (c * ·)) = c * gcdF (Nat.gcd n g) l
    rw [Nat.gcd_mul_left, gcdF_mul c l]
theorem low_back (ws : List Nat) : (low ws).map (gcdF 0 ws * ·) = ws := by
  unfold low
  rw [List.map_map]
  conv => rhs; rw [← List.map_id ws]
  exact List.map_congr_left fun n hn => Nat.mul_div_cancel' ((gcdF_dvd ws 0).2 n hn)
theorem low_gcd {ws : List Nat} (pos : ∃ n ∈ ws, 0 < n) : gcdF 0 (low ws) = 1 := by
  have g0 := gcdF_pos (g := 0) pos
  have h := gcdF_mul (gcdF 0 ws) (low ws) 0
  rw [Nat.mul_zero, low_back] at h
  have : gcdF 0 ws * gcdF 0 (low ws) = gcdF 0 ws * 1 := by rw [Nat.mul_one, ← h]
  exact Nat.eq_of_mul_eq_mul_left g0 this
theorem low_wts {m : Nat} {ws : List Nat} (h : WtsOk m ws) : WtsOk m (low ws) := by
  have g0 := gcdF_pos (g := 0) h.pos
  refine ⟨by unfold low; rw [List.length_map]; exact h.len, ?_, fun x hx => ?_⟩
  · obtain ⟨n, hn, n0⟩ := h.pos
    exact ⟨n / gcdF 0 ws, List.mem_map.mpr ⟨n, hn, rfl⟩, Nat.div_pos (Nat.le_of_dvd n0 ((gcdF_dvd ws 0).2 n hn)) g0⟩
  · obtain ⟨n, hn, rfl⟩ := List.mem_map.mp hx
    exact Nat.lt_of_le_of_lt (Nat.div_le_self _ _) (h.bd n hn)
theorem mok_of {m : Nat} {ss out : List Stp} (ok : StpsOk m ss) (so : SortedOf ss out) : MOk m out := by
  have p := so.1
  have key : (ss.map lowS).map Stp.key = ss.map Stp.key := by
    rw [List.map_map]
    rfl
  refine ⟨⟨ok.m1, ok.m12, by rw [p.length_eq, List.length_map]; exact ok.few, fun s hs => ?_, (p.map Stp.key).nodup_iff.mpr (by rw [key]; exact ok.once)⟩, so.2, fun s hs => ?_⟩
  · obtain ⟨s0, h0, rfl⟩ := List.mem_map.mp (p.mem_iff.mp hs)
    have o := ok.all s0 h0
    exact ⟨o.room, o.sign, low_wts o.wts⟩
  · obtain ⟨s0, h0, rfl⟩ := List.mem_map.mp (p.mem_iff.mp hs)
    exact one_low (low_gcd (ok.all s0 h0).wts.pos)
theorem Sorted.filter {out : List Stp} (h : Sorted out) (p : Stp → Bool) : Sorted (out.filter p) := ⟨h.up.filter p⟩
end
end Fb
namespace Fb
open PySem PySem.Spec PyProof.Rows L2
section
variable {P : Program} {w : World} {K : PySem.W.Frag} {mg : Str → Option Value} {base : Heap}
theorem sort_stps {H : Hp} {D : Addr} {ys : List V} {ss : List Stp} {Q : VK} (e : H D = some (.lst ys)) (a : AllAre (IsStp H) ys ss) (few : ss.length < 60) (once : (ss.map Stp.key).Nodup)
    (q : ∀ zs p out, H p = none → AllAre (IsStp (upd H p (.lst zs))) zs out → out.Perm ss → Sorted out → Q (.ref p) (upd H p (.lst zs))) : rSortS K [.ref D] H Q := by
  have kf_at : ∀ {i : Nat} {y : V} {st : Stp}, ys[i]? = some y → ss[i]? = some st → kfH H y = st.key := fun {i y st} hy hs => kfH_of (a.2 i y st hy hs)
  have ixs : ∀ {y : V}, y ∈ ys → ∃ i st, ys[i]? = some y ∧ ss[i]? = some st := fun {y} hy => by
    obtain ⟨i, hi, e⟩ := List.mem_iff_getElem.mp hy
    have hl : i < ss.length := by rw [a.1] at hi; exact hi
    exact ⟨i, ss[i], by rw [List.getElem?_eq_getElem hi, e], List.getElem?_eq_getElem hl⟩
  refine ⟨D, ys, kfH H, rfl, SqL.of e, by rw [a.1]; omega, fun x hx => ?_, fun x hx y hy e => ?_, fun zs r pm up nr => ?_⟩
  · obtain ⟨i, si, a1, a2⟩ := ixs hx
    obtain ⟨t, wa, rfl, ht, hw⟩ := a.2 i x si a1 a2
    refine ⟨t, wa, _, rfl, ?_, by rw [← nts_keys]; exact hw⟩
    rw [kf_at a1 a2]
    exact ht
  · obtain ⟨i, si, a1, a2⟩ := ixs hx
    obtain ⟨j, sj, b1, b2⟩ := ixs hy
    rw [kf_at a1 a2, kf_at b1 b2] at e
    have := nodup_inj once (i := i) (j := j) (x := si.key) (by rw [List.getElem?_map, a2]; rfl) (by rw [List.getElem?_map, b2, e]; rfl)
    subst this
    rw [a1] at b1
    cases b1
    rfl
  · have sr := same_upd (o := .lst zs) nr
    obtain ⟨out, aO, pO⟩ := AllAre.perm pm a
    refine q zs r out nr (aO.imp fun _ _ h => h.mono sr) pO ⟨?_⟩
    rw [List.pairwise_iff_getElem]
    intro i j hi hj hij
    have gi : zs[i]? = some (zs[i]'(by rw [aO.1]; exact hi)) := List.getElem?_eq_getElem _
    have gj : zs[j]? = some (zs[j]'(by rw [aO.1]; exact hj)) := List.getElem?_eq_getElem _
    have ki := kfH_of (aO.2 i _ _ gi (List.getElem?_eq_getElem hi))
    have kj := kfH_of (aO.2 j _ _ gj (List.getElem?_eq_getElem hj))
    have le := (List.pairwise_iff_getElem.mp up) i j (by rw [aO.1]; exact hi) (by rw [aO.1]; exact hj) hij
    rw [ki, kj] at le
    cases lt : rsLt out[i].key out[j].key with
    | true => rfl
    | false =>
      exfalso
      have e := rsLt_total lt le
      have nd : (out.map Stp.key).Nodup := (pO.map Stp.key).nodup_iff.mpr once
      have := nodup_inj nd (i := i) (j := j) (x := out[i].key) (by rw [List.getElem?_map, List.getElem?_eq_getElem hi]; rfl) (by rw [List.getElem?_map, List.getElem?_eq_getElem hj, e]; rfl)
      omega
theorem sort_stpsB {H0 H : Hp} {D : Addr} {ys : List V} {ss : List Stp} {Q : VK} (s0 : Same H0 H) (e : H D = some (.lst ys)) (a0 : AllAre (IsStp H0) ys ss) (few : ss.length < 60) (once : (ss.map Stp.key).Nodup)
    (q : ∀ zs p out, H p = none → AllAre (IsStp H0) zs out → out.Perm ss → Sorted out → Q (.ref p) (upd H p (.lst zs))) : rSortS K [.ref D] H Q := by
  have a : AllAre (IsStp H) ys ss := a0.imp fun _ _ h => h.mono s0
  have kf_at : ∀ {i : Nat} {y : V} {st : Stp}, ys[i]? = some y → ss[i]? = some st → kfH H y = st.key := fun {i y st} hy hs => kfH_of (a.2 i y st hy hs)
  have ixs : ∀ {y : V}, y ∈ ys → ∃ i st, ys[i]? = some y ∧ ss[i]? = some st := fun {y} hy => by
    obtain ⟨i, hi, e⟩ := List.mem_iff_getElem.mp hy
    have hl : i < ss.length := by rw [a.1] at hi; exact hi
    exact ⟨i, ss[i], by rw [List.getElem?_eq_getElem hi, e], List.getElem?_eq_getElem hl⟩
  refine ⟨D, ys, kfH H, rfl, SqL.of e, by rw [a.1]; omega, fun x hx => ?_, fun x hx y hy e => ?_, fun zs r pm up nr => ?_⟩
  · obtain ⟨i, si, a1, a2⟩ := ixs hx
    obtain ⟨t, wa, rfl, ht, hw⟩ := a.2 i x si a1 a2
    refine ⟨t, wa, _, rfl, ?_, by rw [← nts_keys]; exact hw⟩
    rw [kf_at a1 a2]
    exact ht
  · obtain ⟨i, si, a1, a2⟩ := ixs hx
    obtain ⟨j, sj, b1, b2⟩ := ixs hy
    rw [kf_at a1 a2, kf_at b1 b2] at e
    have := nodup_inj once (i := i) (j := j) (x := si.key) (by rw [List.getElem?_map, a2]; rfl) (by rw [List.getElem?_map, b2, e]; rfl)
    subst this
    rw [a1] at b1
    cases b1
    rfl
  · have sr := same_upd (o := .lst zs) nr
    obtain ⟨out, aO0, pO⟩ := AllAre.perm pm a0
    have aO : AllAre (IsStp H) zs out := aO0.imp fun _ _ h => h.mono s0
    refine q zs r out nr aO0 pO ⟨?_⟩
    rw [List.pairwise_iff_getElem]
    intro i j hi hj hij
    have gi : zs[i]? = some (zs[i]'(by rw [aO.1]; exact hi)) := List.getElem?_eq_getElem _
    have gj : zs[j]? = some (zs[j]'(by rw [aO.1]; exact hj)) := List.getElem?_eq_getElem _
    have ki := kfH_of (aO.2 i _ _ gi (List.getElem?_eq_getElem hi))
    have kj := kfH_of (aO.2 j _ _ gj (List.getElem?_eq_getElem hj))
    have le := (List.pairwise_iff_getElem.mp up) i j (by rw [aO.1]; exact hi) (by rw [aO.1]; exact hj) hij
    rw [ki, kj] at le
    cases lt : rsLt out[i].key out[j].key with
    | true => rfl
    | false =>
      exfalso
      have e := rsLt_total lt le
      have nd : (out.map Stp.key).Nodup := (pO.map Stp.key).nodup_iff.mpr once
      have := nodup_inj nd (i := i) (j := j) (x := out[i].key) (by rw [List.getElem?_map, List.getElem?_eq_getElem hi]; rfl) (by rw [List.getElem?_map, List.getElem?_eq_getElem hj, e]; rfl)
      omega
theorem op_notIn_seqK {X : Cx} {K : PySem.W.Frag} (hK : X.K = K) : OpR X (compareOp .NotIn) (rIn K true) := hK ▸ op_notIn_seq
theorem addNew_nd : ∀ (rs : List Nat) (f : List Nat), rs.Nodup → addNew f rs = f ++ rs.filter fun r => !decide (r ∈ f)
  | [], f, _ => (List.append_nil f).symm
  | r :: rs, f, nd => by
    have nd' := List.nodup_cons.mp nd
    show addNew (if r ∈ f then f else f ++ [r]) rs = _
    rw [addNew_nd rs _ nd'.2]
    by_cases h : r ∈ f
    · rw [if_pos h, List.filter_cons_of_neg (by rw [decide_eq_true h]; decide)]
    · rw [if_neg h, List.filter_cons_of_pos (by rw [decide_eq_false h]; decide), List.append_assoc, List.singleton_append]
      congr 2
      refine List.filter_congr fun x hx => ?_
      have : x ≠ r := fun e => nd'.1 (e ▸ hx)
      simp [this]
theorem tos_nd (ws : List Nat) : (tos ws).Nodup := List.nodup_range.filter _
theorem tos_filter {ws f : List Nat} : (tos ws).filter (fun r => !decide (r ∈ f)) = (List.range ws.length).filter fun i => decide (0 < ws.getD i 0) && !decide (i ∈ f) := by
  unfold tos
  rw [List.filter_filter]
  refine List.filter_congr fun x _ => ?_
  rw [Bool.and_comm]
end
end Fb
namespace Fb
open PySem PySem.Spec PyProof.Rows L2
section
variable {P : Program} {w : World} {K : PySem.W.Frag} {mg : Str → Option Value} {base : Heap}
def NotWhole (K : PySem.W.Frag) (H : Hp) (x : V) : Prop := ∃ t, TyX K H x t ∧ (PySem.W.kitOne K t (.type "int") = some false ∨ (PySem.W.kitOne K t (.type "int") = some true ∧ PySem.W.kitOne K t (.type "bool") = some true))
theorem tyX_mono {H H' : Hp} {x : V} {t : Value} (s : Same H H') (h : TyX K H x t) : TyX K H' x t := by
  cases h with
  | base h =>
    refine .base ?_
    cases h with
    | non => exact .non
    | bl x => exact .bl x
    | int x => exact .int x
    | str x => exact .str x
    | flt x => exact .flt x
    | lst e => exact .lst (s _ _ e)
    | frz e => exact .frz (s _ _ e)
    | tup e => exact .tup (s _ _ e)
    | dK e => exact .dK (s _ _ e)
    | dT e => exact .dT (s _ _ e)
    | ins e cl ha hn htk hm => exact .ins (s _ _ e) cl ha hn htk hm
  | byt b => exact .byt b
  | set e => exact .set (s _ _ e)
  | kList e c => exact .kList e c
  | kTuple e c => exact .kTuple e c
  | kDict e c => exact .kDict e c
  | fTuple e => exact .fTuple (s _ _ e)
  | fDict e => exact .fDict (s _ _ e)
theorem NotWhole.mono {H H' : Hp} {x : V} (h : NotWhole K H x) (s : Same H H') : NotWhole K H' x := by
  obtain ⟨t, ty, k⟩ := h
  exact ⟨t, tyX_mono s ty, k⟩
def nmB (z : Str) : Bool := decide (1 ≤ z.length) && decide (z.length ≤ 8) && z.cps.toList.all fun c => decide (c ∈ letters)
def NotName (K : PySem.W.Frag) (H : Hp) (x : V) : Prop := (∃ t, TyX K H x t ∧ PySem.W.kitOne K t (.type "str") = some false) ∨ ∃ z : Str, x = .str z ∧ z.length ≤ 1000 ∧ nmB z = false
theorem NotName.mono {H H' : Hp} {x : V} (h : NotName K H x) (s : Same H H') : NotName K H' x := h.imp (fun ⟨t, ty, k⟩ => ⟨t, tyX_mono s ty, k⟩) id
theorem oexS (T : Txt K mg) : OexC K T.c_NoSign := oex_of T.i_NoSign_xi T.i_NoSign_hd T.i_NoSign_sa T.i_NoSign_sb T.i_NoSign_ty T.i_NoSign_kp
theorem xfS (T : Txt K mg) : XfC K T.c_NoSign := ⟨T.i_NoSign_hg, T.i_NoSign_hk, T.i_NoSign_sb, T.i_NoSign_hd⟩
def spXInit (C : Addr) (f : Str) : Sp := fun vs H Q _ => ∃ (a : Addr) (x : V), vs = [.ref a, x] ∧ H a = some (exo a C none) ∧ ∀ dx, H dx = none → dx ≠ a → Q .non (upd (upd H dx (exd dx [(f, x)])) a (exo a C (some dx)))
theorem ok_m_NoSign_init (T : Txt K mg) : FnOk P w K mg base CX0 1 T.f_m_NoSign_init T.d_m_NoSign_init ["self", "sign"] (spXInit T.c_NoSign "sign") := by
  refine T.F_m_NoSign_init.ok sc_m_NoSign_init (fun vs H Q E h => ?_) (fun cdv A outer s H vs Q E hr h => ?_)
  · obtain ⟨a, x, rfl, _⟩ := h
    rfl
  · obtain ⟨a, x, rfl, e, q⟩ := h
    refine ⟨_, (pss_one (ps_ost (pv 0) (pv 1))), ?_⟩
    exact ⟨_, rfl, _, rfl, a, T.c_NoSign, rfl, oexS T, T.i_NoSign_no, .inl ⟨e, fun dx n ne => q dx n ne⟩⟩
/-- C(x), the refusal that is raised -/
theorem mk_oex {C : Addr} {f : Str} {H : Hp} {x : V} {Q : XK} (q : ∀ H' d, Same H H' → H' d = some (.xd [(f, x)]) → Q (.ref C) (some d) H') :
    ([x] : List V).length ≤ 1000 ∧ ∀ a, H a = none → spXInit C f (.ref a :: ([x] ++ [])) (upd H a (exo a C none))
      (fun v H2 => v = .non ∧ ∃ (d : Addr) (fs : List (Str × V)), H2 a = some (exo a C (some d)) ∧ H2 d = some (exd d fs) ∧ H d = none ∧ Q (.ref C) (some d) (upd (del H2 a) d (.xd fs))) (fun _ _ _ => False) := by
  refine ⟨by show 1 ≤ 1000; decide, fun a na => ⟨a, x, rfl, upd_same, fun dx n ne => ⟨rfl, dx, [(f, x)], upd_same, ?_, ?_, ?_⟩⟩⟩
  · rw [upd_ne ne]
    exact upd_same
  · rw [upd_ne ne] at n
    exact n
  · have nd : H dx = none := by
      rw [upd_ne ne] at n
      exact n
    refine q _ dx (fun b o e => ?_) upd_same
    have hb : b ≠ dx := ne_of_none e nd
    have ha : b ≠ a := ne_of_none e na
    rw [upd_ne hb, del_ne ha, upd_ne ha, upd_ne hb, upd_ne ha]
    exact e
end
end Fb
namespace Fb
open PySem PySem.Spec PyProof.Rows L2
section
variable {P : Program} {w : World} {K : PySem.W.Frag} {mg : Str → Option Value} {base : Heap}
theorem getD_some {α : Type} {l : List α} {d : α} {i : Nat} (h : i < l.length) : l[i]? = some (l.getD i d) := by
  rw [List.getD_eq_getElem?_getD, List.getElem?_eq_getElem h]
  rfl
theorem len_eq_nd {zs L : List Str} (nL : L.Nodup) (mL : ∀ x, x ∈ L ↔ x ∈ zs) : decide (V.int (L.length : Int) = V.int (zs.length : Int)) = decide zs.Nodup := by
  have le : L.length ≤ zs.length := by
    have : ∀ (r l : List Str), r.Nodup → (∀ i ∈ r, i ∈ l) → r.length ≤ l.length := fun r => by
      induction r with
      | nil => exact fun l _ _ => Nat.zero_le _
      | cons x r ih =>
        intro l nd h
        obtain ⟨a, b⟩ := List.nodup_cons.mp nd
        have hx := h x List.mem_cons_self
        have := ih (l.erase x) b fun i hi => (List.mem_erase_of_ne fun (e : i = x) => a (e ▸ hi)).mpr (h i (List.mem_cons_of_mem _ hi))
        rw [List.length_erase_of_mem hx] at this
        have := List.length_pos_of_mem hx
        rw [List.length_cons]
        omega
    exact this L zs nL fun i hi => (mL i).mp hi
  have key : zs.Nodup ↔ L.length = zs.length := by
    constructor
    · intro nz
      exact ((List.perm_ext_iff_of_nodup nL nz).mpr mL).length_eq
    · intro e
      have : ∀ (r l : List Str), r.Nodup → (∀ i ∈ r, i ∈ l) → r.length = l.length → r.Perm l := fun r => by
        induction r with
        | nil =>
          intro l _ _ h
          rw [List.length_eq_zero_iff.mp h.symm]
        | cons x r ih =>
          intro l nd h len
          obtain ⟨a, b⟩ := List.nodup_cons.mp nd
          have hx := h x List.mem_cons_self
          have p := List.perm_cons_erase hx
          refine (List.Perm.cons x (ih (l.erase x) b (fun i hi => (List.mem_erase_of_ne fun (e : i = x) => a (e ▸ hi)).mpr (h i (List.mem_cons_of_mem _ hi))) ?_)).trans p.symm
          rw [List.length_erase_of_mem hx, ← len]
          rfl
      exact (this L zs nL (fun i hi => (mL i).mp hi) e).nodup_iff.mp nL
  rw [Bool.eq_iff_iff, decide_eq_true_iff, decide_eq_true_iff, key]
  exact ⟨fun h => by have := V.int.inj h; omega, fun h => by rw [h]⟩
theorem are_strsQ {α : Type} {f : α → Str} {ys : List V} {l : List α} (len : ys.length = l.length) (h : ∀ (i : Nat) y, ys[i]? = some y → ∃ x, l[i]? = some x ∧ y = V.str (f x)) : ys = (l.map f).map V.str := by
  refine List.ext_getElem? fun i => ?_
  by_cases hi : i < ys.length
  · obtain ⟨x, hx, e⟩ := h i _ (List.getElem?_eq_getElem hi)
    rw [List.getElem?_eq_getElem hi, e, List.map_map, List.getElem?_map, hx]
    rfl
  · rw [List.getElem?_eq_none (by omega), List.getElem?_eq_none (by rw [List.length_map, List.length_map]; omega)]
def spUnlike : Sp := fun vs H Q _ => ∃ (a : Addr) (zs : List Str), vs = [.ref a] ∧ H a = some (.lst (zs.map V.str)) ∧ zs.length ≤ 60 ∧ ∀ H', Same H H' → Q (.bl (decide zs.Nodup)) H'
theorem ok_p_are_unlike (T : Txt K mg) : FnOk P w K mg base CX0 1 T.f_p_are_unlike T.d_p_are_unlike ["names"] spUnlike := by
  refine T.F_p_are_unlike.ok sc_p_are_unlike (fun vs H Q E h => ?_) (fun cdv A outer s H vs Q E hr h => ?_)
  · obtain ⟨a, zs, rfl, _⟩ := h
    rfl
  · obtain ⟨a, zs, rfl, ha, l60, q⟩ := h
    refine ⟨_, (pss_one (ps_ret (pe_cmpR op_eq (pe_callB call_lenT (by rfl) T.z_len (by decide +kernel) (pa_cons (pe_scT (units1 hr.units) (own := [("name", 1)]) (g := (gName 1)) (tt := tYes) (by rfl) sc_p_are_unlike.nd (pi_list (pv 0)) (blkOk_by (own := [("name", 1)]) (N := ["names", "name"]) (sc := defScope s_p_are_unlike) (by decide +kernel)) (fun _ _ _ _ _ => by exact (pg_name (i := 1) sc_p_are_unlike.nd rfl (.inl rfl))) (fun _ _ _ _ _ => by exact pts_nil) (fun _ _ _ _ _ => by exact (pv 1))) pa_nil)) (pe_callB call_len_seq (by rfl) T.z_len (by decide +kernel) (pa_cons (pv 0) pa_nil)) (nomark _)))), ?_⟩
    have lz : (zs.map V.str).length = zs.length := List.length_map ..
    refine ⟨_, rfl, a, rfl, ⟨_, SqL.of ha⟩, fun D nD => scT_all (walk_list (K := K) (a := a) (xs := zs.map V.str)) (fun i => zs.getD i "") nD (fun H' s => SqL.of (s _ _ ha)) (by omega) (fun i x H1 H2 k hi s1 eD y hk => ?_) (fun H1 L s1 e1 nL mL lL => ?_)⟩
    · obtain ⟨rfl, hv⟩ := y
      rw [List.getElem?_map] at hv
      obtain ⟨z, hz, rfl⟩ := Option.map_eq_some_iff.mp hv
      have := hk H2 (Same.refl _)
      rw [List.getD_eq_getElem?_getD, hz] at this
      exact ⟨rfl, _, rfl, this⟩
    · have mem : ∀ x, x ∈ L ↔ x ∈ zs := fun x => by
        rw [mL x]
        constructor
        · rintro ⟨i, hi, rfl⟩
          rw [lz] at hi
          exact List.mem_of_getElem? (getD_some hi)
        · intro hx
          obtain ⟨i, hi⟩ := List.getElem?_of_mem hx
          exact ⟨i, by rw [lz]; exact (List.getElem?_eq_some_iff.mp hi).1, by rw [List.getD_eq_getElem?_getD, hi]; rfl⟩
      have sH : Same H H1 := s1.trans hid_same
      refine ⟨D, L, rfl, e1, by omega, _, rfl, a, _, rfl, .inl (SqL.of (sH _ _ ha)), rfl, ?_⟩
      rw [lz, len_eq_nd nL mem]
      exact q H1 sH
def spSigns : Sp := fun vs H Q _ => ∃ (a : Addr) (zs : List Str), vs = [.ref a] ∧ H a = some (.lst (zs.map V.str)) ∧ zs.length ≤ 60 ∧ (∀ z ∈ zs, NmOk z) ∧ zs.Nodup ∧ ∀ H', Same H H' → Q (.bl true) H'
theorem ok_p_are_signs (T : Txt K mg) : FnOk P w K mg base CX0 2 T.f_p_are_signs T.d_p_are_signs ["thing"] spSigns := by
  refine T.F_p_are_signs.ok sc_p_are_signs (fun vs H Q E h => ?_) (fun cdv A outer s H vs Q E hr h => ?_)
  · obtain ⟨a, zs, rfl, _⟩ := h
    rfl
  · obtain ⟨a, zs, rfl, ha, l60, nok, nd, q⟩ := h
    refine ⟨_, (pss_one (ps_ret (pe_and (pe_callB call_isi (by rfl) T.z_isinstance (by decide +kernel) (pa_cons (pv 0) (pa_cons (pe_bltn (v := .ty "list") (by rfl) T.z_list (by decide +kernel) rfl) pa_nil))) (pe_and (pe_callB (cr_all rfl) (by rfl) T.z_all (by decide +kernel) (pa_cons (pe_lc (own := [("sign", 1)]) (g := (gName 1)) (tt := tYes) (by rfl) sc_p_are_signs.nd (pi_list (pv 0)) (blkOk_by (own := [("sign", 1)]) (N := ["thing", "sign"]) (sc := defScope s_p_are_signs) (by decide +kernel)) (fun _ _ _ _ _ => by exact (pg_name (i := 1) sc_p_are_signs.nd rfl (.inl rfl))) (fun _ _ _ _ _ => by exact pts_nil) (fun _ _ _ _ _ => by exact (pe_call (ok_p_is_name T) (hr.mono (by decide)) (by rfl) T.g_p_is_name T.F_p_is_name.kp T.b_p_is_name .nil pass0 (pa_cons (pv 1) pa_nil)))) pa_nil)) (pe_one (pe_call (ok_p_are_unlike T) (hr.mono (by decide)) (by rfl) T.g_p_are_unlike T.F_p_are_unlike.kp T.b_p_are_unlike .nil pass0 (pa_cons (pv 0) pa_nil))))))), ?_⟩
    have lz : (zs.map V.str).length = zs.length := List.length_map ..
    refine ⟨_, rfl, _, _, _, _, true, rfl, .ty _, .base (.lst ha), kit_ty (by decide +kernel), true, rfl, iteT ?_⟩
    refine ⟨_, rfl, a, rfl, ⟨_, SqL.of ha⟩, fun D nD => lc_all (K := K) (a := a) (xs := zs.map V.str) (fun _ y _ => y = .bl true) (fun _ _ _ _ _ h => h) nD (SqL.of ha) (by omega) (fun i x H2 k hi s2 eD hk => ?_) (fun H2 ys s2 e l r => ?_)⟩
    · rw [List.getElem?_map] at hi
      obtain ⟨z, hz, rfl⟩ := Option.map_eq_some_iff.mp hi
      exact ⟨rfl, _, rfl, z, rfl, nok z (List.mem_of_getElem? hz), fun H3 s3 => hk _ _ s3 rfl⟩
    · rw [trues l r] at e
      have s12 : Same H H2 := s2.trans hid_same
      refine ⟨D, _, rfl, SqL.of e, true, by rw [all_trues], iteT ⟨_, rfl, a, zs, rfl, s12 _ _ ha, l60, fun H3 s3 => ?_⟩⟩
      rw [decide_eq_true nd]
      exact q H3 (s12.trans s3)
def IsPq (H : Hp) (v : V) (p : Str × Str) : Prop := ∃ t, v = .ref t ∧ H t = some (.tup [.str p.1, .str p.2])
theorem IsPq.mono {H H' : Hp} {v : V} {p : Str × Str} (h : IsPq H v p) (s : Same H H') : IsPq H' v p := by
  obtain ⟨t, e, h⟩ := h
  exact ⟨t, e, s _ _ h⟩
def spIsPair : Sp := fun vs H Q _ => ∃ (v : V) (p : Str × Str), vs = [v] ∧ IsPq H v p ∧ NmOk p.1 ∧ NmOk p.2 ∧ ∀ H', Same H H' → Q (.bl true) H'
theorem ok_p_is_pair (T : Txt K mg) : FnOk P w K mg base CX0 2 T.f_p_is_pair T.d_p_is_pair ["thing"] spIsPair := by
  refine T.F_p_is_pair.ok sc_p_is_pair (fun vs H Q E h => ?_) (fun cdv A outer s H vs Q E hr h => ?_)
  · obtain ⟨v, p, rfl, _⟩ := h
    rfl
  · obtain ⟨v, p, rfl, ⟨t, rfl, ht⟩, n1, n2, q⟩ := h
    refine ⟨_, (pss_one (ps_ret (pe_and (pe_callB call_isi (by rfl) T.z_isinstance (by decide +kernel) (pa_cons (pv 0) (pa_cons (pe_bltn (v := .ty "tuple") (by rfl) T.z_tuple (by decide +kernel) rfl) pa_nil))) (pe_and (pe_cmpR op_eq (pe_callB call_len_seq (by rfl) T.z_len (by decide +kernel) (pa_cons (pv 0) pa_nil)) pe_int (nomark _)) (pe_and (pe_call (ok_p_is_name T) (hr.mono (by decide)) (by rfl) T.g_p_is_name T.F_p_is_name.kp T.b_p_is_name .nil pass0 (pa_cons (pe_ix ix_tup (pv 0) pe_int (fun _ _ => rfl)) pa_nil)) (pe_one (pe_call (ok_p_is_name T) (hr.mono (by decide)) (by rfl) T.g_p_is_name T.F_p_is_name.kp T.b_p_is_name .nil pass0 (pa_cons (pe_ix ix_tup (pv 0) pe_int (fun _ _ => rfl)) pa_nil)))))))), ?_⟩
    refine ⟨_, rfl, _, _, _, _, true, rfl, .ty _, .base (.tup ht), kit_ty (by decide +kernel), true, rfl, iteT ?_⟩
    refine ⟨_, rfl, t, _, rfl, .inr (.inl (.inl ht)), rfl, _, rfl, iteT ?_⟩
    refine ⟨_, rfl, t, _, _, _, rfl, rfl, .inl (.inl ht), atI_nat (j := 0) rfl, p.1, rfl, n1, fun H1 s1 => ⟨true, rfl, iteT ?_⟩⟩
    exact ⟨_, rfl, t, _, _, _, rfl, rfl, .inl (.inl (s1 _ _ ht)), atI_nat (j := 1) rfl, p.2, rfl, n2, fun H2 s2 => q H2 (s1.trans s2)⟩
structure PrsOk (ps : List (Str × Str)) : Prop where
  few : ps.length ≤ 60
  ok : ∀ p ∈ ps, NmOk p.1 ∧ NmOk p.2
  n1 : (ps.map (·.1)).Nodup
  n2 : (ps.map (·.2)).Nodup
def IsPqs (H : Hp) (v : V) (ps : List (Str × Str)) : Prop := ∃ a xs, v = .ref a ∧ H a = some (.lst xs) ∧ AllAre (IsPq H) xs ps
theorem IsPqs.mono {H H' : Hp} {v : V} {ps : List (Str × Str)} (h : IsPqs H v ps) (s : Same H H') : IsPqs H' v ps := by
  obtain ⟨a, xs, e, h, g⟩ := h
  exact ⟨a, xs, e, s _ _ h, g.imp fun _ _ h => h.mono s⟩
def spPairs : Sp := fun vs H Q _ => ∃ (v : V) (ps : List (Str × Str)), vs = [v] ∧ IsPqs H v ps ∧ PrsOk ps ∧ ∀ H', Same H H' → Q (.bl true) H'
theorem ok_p_are_pairs (T : Txt K mg) : FnOk P w K mg base CX0 3 T.f_p_are_pairs T.d_p_are_pairs ["thing"] spPairs := by
  refine T.F_p_are_pairs.ok sc_p_are_pairs (fun vs H Q E h => ?_) (fun cdv A outer s H vs Q E hr h => ?_)
  · obtain ⟨v, ps, rfl, _⟩ := h
    rfl
  · obtain ⟨v, ps, rfl, ⟨a, xs, rfl, ha, av⟩, ok, q⟩ := h
    refine ⟨_, (pss_cons (ps_if (PW.pt (pw_or (pt_not (pt_val (pe_callB call_isi (by rfl) T.z_isinstance (by decide +kernel) (pa_cons (pv 0) (pa_cons (pe_bltn (v := .ty "list") (by rfl) T.z_list (by decide +kernel) rfl) pa_nil))))) (pw_or1 (pt_not (pt_val (pe_callB (cr_all rfl) (by rfl) T.z_all (by decide +kernel) (pa_cons (pe_lc (own := [("pair", 1)]) (g := (gName 1)) (tt := tYes) (by rfl) sc_p_are_pairs.nd (pi_list (pv 0)) (blkOk_by (own := [("pair", 1)]) (N := ["thing", "pair", "elder", "newer"]) (sc := defScope s_p_are_pairs) (by decide +kernel)) (fun _ _ _ _ _ => by exact (pg_name (i := 1) sc_p_are_pairs.nd rfl (.inl rfl))) (fun _ _ _ _ _ => by exact pts_nil) (fun _ _ _ _ _ => by exact (pe_call (ok_p_is_pair T) (hr.mono (by decide)) (by rfl) T.g_p_is_pair T.F_p_is_pair.kp T.b_p_is_pair .nil pass0 (pa_cons (pv 1) pa_nil)))) pa_nil)))))))
  (pss_one (ps_ret pe_bl))
  pss_nil)
 (pss_one (ps_ret (pe_and (pe_call (ok_p_are_unlike T) (hr.mono (by decide)) (by rfl) T.g_p_are_unlike T.F_p_are_unlike.kp T.b_p_are_unlike .nil pass0 (pa_cons (pe_lc (own := [("elder", 2), ("newer", 3)]) (g := (gTup K 2 (gCons (gName 2) (gCons (gName 3) gNil)))) (tt := tYes) (by rfl) sc_p_are_pairs.nd (pi_list (pv 0)) (blkOk_by (own := [("elder", 2), ("newer", 3)]) (N := ["thing", "pair", "elder", "newer"]) (sc := defScope s_p_are_pairs) (by decide +kernel)) (fun _ _ _ _ _ => by exact (pg_tup (by rfl) (pgs_cons (pg_name (i := 2) sc_p_are_pairs.nd rfl (.inl rfl)) (pgs_cons (pg_name (i := 3) sc_p_are_pairs.nd rfl (.inl rfl)) pgs_nil)))) (fun _ _ _ _ _ => by exact pts_nil) (fun _ _ _ _ _ => by exact (pv 2))) pa_nil)) (pe_one (pe_call (ok_p_are_unlike T) (hr.mono (by decide)) (by rfl) T.g_p_are_unlike T.F_p_are_unlike.kp T.b_p_are_unlike .nil pass0 (pa_cons (pe_lc (own := [("elder", 2), ("newer", 3)]) (g := (gTup K 2 (gCons (gName 2) (gCons (gName 3) gNil)))) (tt := tYes) (by rfl) sc_p_are_pairs.nd (pi_list (pv 0)) (blkOk_by (own := [("elder", 2), ("newer", 3)]) (N := ["thing", "pair", "elder", "newer"]) (sc := defScope s_p_are_pairs) (by decide +kernel)) (fun _ _ _ _ _ => by exact (pg_tup (by rfl) (pgs_cons (pg_name (i := 2) sc_p_are_pairs.nd rfl (.inl rfl)) (pgs_cons (pg_name (i := 3) sc_p_are_pairs.nd rfl (.inl rfl)) pgs_nil)))) (fun _ _ _ _ _ => by exact pts_nil) (fun _ _ _ _ _ => by exact (pv 3))) pa_nil))))))), ?_⟩
    have lx : xs.length = ps.length := av.1
    have few := ok.few
    refine ⟨_, rfl, _, _, _, _, true, rfl, .ty _, .base (.lst ha), kit_ty (by decide +kernel), true, rfl, iteF ?_⟩
    refine ⟨_, rfl, a, rfl, ⟨_, SqL.of ha⟩, fun D nD => lc_all (K := K) (a := a) (xs := xs) (fun _ y _ => y = .bl true) (fun _ _ _ _ _ h => h) nD (SqL.of ha) (by omega) (fun i x H2 k hi s2 eD hk => ?_) (fun H2 ys s2 e l r => ?_)⟩
    · obtain ⟨p, hp, hx⟩ := av.at hi
      obtain ⟨o1, o2⟩ := ok.ok p (List.mem_of_getElem? hp)
      exact ⟨rfl, _, rfl, x, p, rfl, hx.mono (s2.trans hid_same), o1, o2, fun H3 s3 => hk _ _ s3 rfl⟩
    · rw [trues l r] at e
      have s12 : Same H H2 := s2.trans hid_same
      refine ⟨D, _, rfl, SqL.of e, true, by rw [all_trues], iteF ?_⟩
      have ha := s12 _ _ ha
      have av := av.imp fun _ _ h => IsPq.mono h s12
      have q : ∀ H', Same H2 H' → Q (.bl true) H' := fun H' s => q H' (s12.trans s)
      clear s12 e l r s2 nD
      refine ⟨_, rfl, a, rfl, ⟨_, SqL.of ha⟩, fun D1 nD1 => lc_allW (walk_list (K := K) (a := a) (xs := xs)) (fun i y _ => ∃ p, ps[i]? = some p ∧ y = .str p.1) (fun _ _ _ _ _ h => h) nD1 (fun H' s => SqL.of (s _ _ ha)) (by omega) (fun i x H5 H6 kk hi s5 eD y hk => ?_) (fun H5 ys s5 e5 l5 r5 => ?_)⟩
      · obtain ⟨rfl, hv⟩ := y
        obtain ⟨p, hp, t, rfl, ht⟩ := av.at hv
        exact ⟨t, _, rfl, .inl (.inl (hid_same _ _ (s5 _ _ ht))), rfl, _, _, rfl, _, _, rfl, rfl, rfl, _, rfl, hk _ _ (Same.refl _) ⟨p, hp, rfl⟩⟩
      rw [are_strsQ (l := ps) (f := (·.1)) (by omega) r5] at e5
      have sA1 := s5.trans (hid_same (a := D1))
      refine ⟨D1, ps.map (·.1), rfl, e5, by rw [List.length_map]; exact few, fun G1 sG1 => ?_⟩
      rw [decide_eq_true ok.n1]
      have sB := sA1.trans sG1
      have ha := sB _ _ ha
      have av := av.imp fun _ _ h => IsPq.mono h sB
      have q : ∀ H', Same G1 H' → Q (.bl true) H' := fun H' s => q H' (sB.trans s)
      clear e5 l5 r5 s5 sA1 sG1 sB nD1
      refine ⟨true, rfl, iteT ?_⟩
      refine ⟨_, rfl, a, rfl, ⟨_, SqL.of ha⟩, fun D2 nD2 => lc_allW (walk_list (K := K) (a := a) (xs := xs)) (fun i y _ => ∃ p, ps[i]? = some p ∧ y = .str p.2) (fun _ _ _ _ _ h => h) nD2 (fun H' s => SqL.of (s _ _ ha)) (by omega) (fun i x H5 H6 kk hi s5 eD y hk => ?_) (fun H5 ys s5 e5 l5 r5 => ?_)⟩
      · obtain ⟨rfl, hv⟩ := y
        obtain ⟨p, hp, t, rfl, ht⟩ := av.at hv
        exact ⟨t, _, rfl, .inl (.inl (hid_same _ _ (s5 _ _ ht))), rfl, _, _, rfl, _, _, rfl, rfl, rfl, _, rfl, hk _ _ (Same.refl _) ⟨p, hp, rfl⟩⟩
      rw [are_strsQ (l := ps) (f := (·.2)) (by omega) r5] at e5
      have sA2 := s5.trans (hid_same (a := D2))
      refine ⟨D2, ps.map (·.2), rfl, e5, by rw [List.length_map]; exact few, fun G2 sG2 => ?_⟩
      rw [decide_eq_true ok.n2]
      exact q _ (sA2.trans sG2)
def spChkSigns : Sp := fun vs H Q _ => ∃ (a : Addr) (zs : List Str), vs = [.ref a] ∧ H a = some (.lst (zs.map V.str)) ∧ zs.length ≤ 60 ∧ (∀ z ∈ zs, NmOk z) ∧ zs.Nodup ∧ ∀ H', Same H H' → Q .non H'
theorem ok_p_check_signs (T : Txt K mg) : FnOk P w K mg base CX0 3 T.f_p_check_signs T.d_p_check_signs ["thing"] spChkSigns := by
  refine T.F_p_check_signs.ok sc_p_check_signs (fun vs H Q E h => ?_) (fun cdv A outer s H vs Q E hr h => ?_)
  · obtain ⟨a, zs, rfl, _⟩ := h
    rfl
  · obtain ⟨a, zs, rfl, ha, l60, nok, nd, q⟩ := h
    refine ⟨_, PSs.nox (pss_one (ps_if (pt_not (pt_val (pe_call (ok_p_are_signs T) (hr.mono (by decide)) (by rfl) T.g_p_are_signs T.F_p_are_signs.kp T.b_p_are_signs .nil pass0 (pa_cons (pv 0) pa_nil))))
  (pss_one ps_never)
  pss_nil)), ?_⟩
    exact ⟨_, rfl, a, zs, rfl, ha, l60, nok, nd, fun H1 s1 => ⟨true, rfl, iteF (q H1 s1)⟩⟩
end
end Fb
namespace Fb
open PySem PySem.Spec PyProof.Rows L2
section
variable {P : Program} {w : World} {K : PySem.W.Frag} {mg : Str → Option Value} {base : Heap}
theorem op_in_seqK {X : Cx} {K : PySem.W.Frag} (hK : X.K = K) : OpR X (compareOp .In) (rIn K false) := by
  subst hK
  exact op_in_seq
theorem inV_strs {z : Str} {zs : List Str} : inV (.str z) (zs.map V.str) = decide (z ∈ zs) := by
  unfold inV
  rw [Bool.eq_iff_iff, List.any_map, List.any_eq_true, decide_eq_true_iff]
  constructor
  · rintro ⟨y, hy, e⟩
    have e : (y == z) = true := e
    rw [beq_iff_eq] at e
    exact e ▸ hy
  · intro h
    exact ⟨z, h, by show (z == z) = true; exact beq_self_eq_true z⟩
theorem flat_strs (zs : List Str) : (zs.map V.str).all flatV = true := List.all_eq_true.mpr fun x hx => by
  obtain ⟨n, _, rfl⟩ := List.mem_map.mp hx
  rfl
def onlyF (zs : List Str) (out : List Stp) : List Stp := out.filter fun s => decide (s.sign ∈ zs)
theorem only_ok {m : Nat} {out : List Stp} (zs : List Str) (ok : StpsOk m out) : StpsOk m (onlyF zs out) :=
  ⟨ok.m1, ok.m12, Nat.lt_of_le_of_lt (List.length_filter_le _ _) ok.few, fun s hs => ok.all s (List.mem_filter.mp hs).1, (List.Sublist.map Stp.key List.filter_sublist).nodup ok.once⟩
theorem only_mok {m : Nat} {out : List Stp} (zs : List Str) (ok : MOk m out) : MOk m (onlyF zs out) := ⟨only_ok zs ok.ok, ok.up.filter _, fun s hs => ok.low s (List.mem_filter.mp hs).1⟩
theorem mok_same {m : Nat} {out o2 : List Stp} (ok : MOk m out) (so : SortedOf out o2) : o2 = out := by
  refine sorted_uniq so.2 ok.up (so.1.trans (List.Perm.of_eq ?_))
  conv => rhs; rw [← List.map_id out]
  refine List.map_congr_left fun s hs => ?_
  show (⟨_, _, low s.ws⟩ : Stp) = s
  rw [ok.low s hs]
def spOnly (C : Addr) : Sp := fun vs H Q _ => ∃ (a : Addr) (v : V) (zs : List Str) (m : Nat) (out : List Stp), vs = [.ref a, v] ∧ H a = some (.lst (zs.map V.str)) ∧ zs.length ≤ 60 ∧ (∀ z ∈ zs, NmOk z) ∧ zs.Nodup ∧ IsMach C H v m out ∧ MOk m out ∧
  ∀ H' v2 o2, Same H H' → IsMach C H' v2 (foundOf (onlyF zs out) m).length o2 → SortedOf (tr (foundOf (onlyF zs out) m) (onlyF zs out)) o2 → Q v2 H'
theorem ok_p_only (T : Txt K mg) : FnOk P w K mg base CX0 8 T.f_p_only T.d_p_only ["signs", "machine"] (spOnly T.c_Machine) := by
  refine T.F_p_only.ok sc_p_only (fun vs H Q E h => ?_) (fun cdv A outer s H vs Q E hr h => ?_)
  · obtain ⟨a, v, zs, m, out, rfl, _⟩ := h
    rfl
  · obtain ⟨a, v, zs, m, out, rfl, ha, l60, nok, nd, ⟨p, dx, r0, svs, rfl, hp, hr0, av⟩, ok, q⟩ := h
    refine ⟨_, (pss_cons (ps_expr (pe_call (ok_p_check_signs T) (hr.mono (by decide)) (by rfl) T.g_p_check_signs T.F_p_check_signs.kp T.b_p_check_signs .nil pass0 (pa_cons (pv 0) pa_nil)))
 (pss_one (ps_ret (pe_call (ok_p_trimmed T) (hr.mono (by decide)) (by rfl) T.g_p_trimmed T.F_p_trimmed.kp T.b_p_trimmed .nil pass0 (pa_cons (pe_make T.M_Machine (ok_m_Machine_init T) (hr.mono (by decide)) (by rfl) T.g_Machine T.b_m_Machine_init .nil pass0 (pa_cons (pe_fld (pv 1) rfl) (pa_cons (pe_lc (own := [("step", 2)]) (g := (gName 2)) (tt := _) (by rfl) sc_p_only.nd (pi_list (pe_fld (pv 1) rfl)) (blkOk_by (own := [("step", 2)]) (N := ["signs", "machine", "step"]) (sc := defScope s_p_only) (by decide +kernel)) (fun _ _ _ _ _ => by exact (pg_name (i := 2) sc_p_only.nd rfl (.inl rfl))) (fun _ _ _ _ _ => by exact (pts_one (pt_cmpR (op_in_seqK (K := K) rfl) (pe_ix (ix_tupK (K := K) rfl) (pv 2) pe_int (fun _ _ => rfl)) (pv 0) (by with_unfolding_all rfl)))) (fun _ _ _ _ _ => by exact (pv 2))) pa_nil))) pa_nil))))), ?_⟩
    have few := ok.ok.few
    have ls : svs.length = out.length := av.1
    refine ⟨_, rfl, a, zs, rfl, ha, l60, nok, nd, fun H1 s1 => ?_⟩
    have ha := s1 _ _ ha
    have hp := s1 _ _ hp
    have hr0 := s1 _ _ hr0
    have av := av.imp fun _ _ h => IsStp.mono h s1
    refine ⟨_, rfl, p, _, _, _, _, rfl, hp, T.cl_Machine, T.n_Machine_many, mflds_many m r0, _, rfl, p, _, _, _, _, rfl, hp, T.cl_Machine, T.n_Machine_steps, mflds_steps m r0, r0, rfl, ⟨_, SqL.of hr0⟩, fun D nD => lc_filtW (walk_list (K := K) (a := r0) (xs := svs)) (fun i => (out[i]?).any fun s => decide (s.sign ∈ zs)) (fun i y G => ∃ s, out[i]? = some s ∧ IsStp G y s) (fun _ _ _ _ s h => h.elim fun st f => ⟨st, f.1, f.2.mono s⟩) nD (fun H' s => SqL.of (s _ _ hr0)) (by omega) (fun i x H3 H4 kt kf hi s3 eD y hkt hkf => ?_) (fun H3 ys s3 e3 a3 => ?_)⟩
    · obtain ⟨rfl, hv⟩ := y
      obtain ⟨st, hst, t, wa, rfl, ht, hw⟩ := av.at hv
      simp only [hst, Option.any_some] at hkt hkf
      have sA := s3.trans (hid_same (a := D))
      have ht' := sA _ _ ht
      refine ⟨rfl, _, rfl, t, _, _, _, rfl, rfl, .inl (.inl ht'), atI_nat (j := 1) rfl, _, rfl, a, _, rfl, .inl (SqL.of (sA _ _ ha)), rfl, flat_strs zs, _, rfl, ?_⟩
      rw [inV_strs]
      by_cases c : st.sign ∈ zs
      · rw [decide_eq_true c] at hkt ⊢
        exact iteT ⟨_, rfl, hkt rfl _ _ (Same.refl _) ⟨st, rfl, t, wa, rfl, s3 _ _ ht, s3 _ _ hw⟩⟩
      · rw [decide_eq_false c] at hkf ⊢
        exact iteF (hkf rfl _ (Same.refl _))
    · rw [ls] at a3
      have h1 := filt_are (R := fun y s => IsStp (hid D H3) y s) (p := fun s => decide (s.sign ∈ zs)) out.length ys (Nat.le_refl _) a3
      rw [List.take_length] at h1
      have h2 : AllAre (IsStp H3) ys (onlyF zs out) := h1.imp fun _ _ h => h.mono hid_same
      have s13 : Same H H3 := s1.trans (s3.trans hid_same)
      dsimp only [tNil]
      refine mk_mach ⟨D, ys, rfl, e3, h2⟩ (only_ok zs ok.ok) fun H5 x o1 s5 _ im so => ?_
      have e := mok_same (only_mok zs ok) so
      subst e
      exact ⟨_, _, _, rfl, im, only_mok zs ok, fun H6 v2 o2 s6 im2 so2 => q H6 v2 o2 (s13.trans (s5.trans s6)) im2 so2⟩
end
end Fb
namespace Fb
open PySem PySem.Spec PyProof.Rows L2
section
variable {P : Program} {w : World} {K : PySem.W.Frag} {mg : Str → Option Value} {base : Heap}
def renO (ps : List (Str × Str)) (z : Str) : Option Str := (ps.reverse.find? fun p => decide (p.1 = z)).map (·.2)
def renF (ps : List (Str × Str)) (z : Str) : Str := (renO ps z).getD z
def renS (ps : List (Str × Str)) (s : Stp) : Stp := ⟨s.room, renF ps s.sign, s.ws⟩
def InjS (ps : List (Str × Str)) (out : List Stp) : Prop := ∀ s ∈ out, ∀ u ∈ out, renF ps s.sign = renF ps u.sign → s.sign = u.sign
theorem renO_snoc (ps : List (Str × Str)) (p : Str × Str) (z : Str) : renO (ps ++ [p]) z = if p.1 = z then some p.2 else renO ps z := by
  unfold renO
  rw [List.reverse_append]
  show (List.find? _ (p :: ps.reverse)).map _ = _
  by_cases c : p.1 = z
  · rw [if_pos c]
    have := List.find?_cons_of_pos (p := fun p : Str × Str => decide (p.1 = z)) (a := p) (l := ps.reverse) (decide_eq_true c)
    rw [this]
    rfl
  · rw [if_neg c]
    have := List.find?_cons_of_neg (p := fun p : Str × Str => decide (p.1 = z)) (a := p) (l := ps.reverse) (by simpa using c)
    rw [this]
theorem ren_ok {ps : List (Str × Str)} (ok : ∀ p ∈ ps, NmOk p.1 ∧ NmOk p.2) {z : Str} (h : NmOk z) : NmOk (renF ps z) := by
  unfold renF renO
  cases e : ps.reverse.find? fun p => decide (p.1 = z) with
  | none => exact h
  | some p => exact (ok p (List.mem_reverse.mp (List.mem_of_find?_eq_some e))).2
theorem ren_nd {ps : List (Str × Str)} {out : List Stp} {L : List Str} (nL : L.Nodup) (mL : ∀ z, z ∈ L ↔ ∃ s ∈ out, s.sign = z) : (L.map (renF ps)).Nodup ↔ InjS ps out := by
  constructor
  · intro nd s hs u hu e
    obtain ⟨i, hi⟩ := List.getElem?_of_mem ((mL _).mpr ⟨s, hs, rfl⟩)
    obtain ⟨j, hj⟩ := List.getElem?_of_mem ((mL _).mpr ⟨u, hu, rfl⟩)
    have := nodup_inj nd (i := i) (j := j) (x := renF ps s.sign) (by rw [List.getElem?_map, hi]; rfl) (by rw [List.getElem?_map, hj]; exact congrArg some e.symm)
    subst this
    rw [hi] at hj
    exact Option.some.inj hj
  · intro inj
    refine List.pairwise_map.mpr (nL.imp_of_mem fun {a b} ha hb ne e => ne ?_)
    obtain ⟨s, hs, rfl⟩ := (mL a).mp ha
    obtain ⟨u, hu, rfl⟩ := (mL b).mp hb
    exact inj s hs u hu e
theorem ren_stps {m : Nat} {ps : List (Str × Str)} {out : List Stp} (ok : ∀ p ∈ ps, NmOk p.1 ∧ NmOk p.2) (so : StpsOk m out) (inj : InjS ps out) : StpsOk m (out.map (renS ps)) := by
  refine ⟨so.m1, so.m12, by rw [List.length_map]; exact so.few, fun s hs => ?_, ?_⟩
  · obtain ⟨s0, h0, rfl⟩ := List.mem_map.mp hs
    have o := so.all s0 h0
    exact ⟨o.room, ren_ok ok o.sign, o.wts⟩
  · rw [List.map_map]
    refine List.pairwise_map.mpr ((List.pairwise_map.mp so.once).imp_of_mem fun {a b} ha hb ne e => ne ?_)
    have e1 : ((a.room : Nat) : Int) = ((b.room : Nat) : Int) := congrArg Prod.fst e
    have e2 : renF ps a.sign = renF ps b.sign := congrArg Prod.snd e
    exact Prod.ext e1 (inj a ha b hb e2)
def spRename (C N : Addr) : Sp := fun vs H Q E => ∃ (v u : V) (ps : List (Str × Str)) (m : Nat) (out : List Stp), vs = [v, u] ∧ IsPqs H v ps ∧ PrsOk ps ∧ IsMach C H u m out ∧ MOk m out ∧
  (InjS ps out → ∀ H' v2 o1 o2, Same H H' → SortedOf (out.map (renS ps)) o1 → IsMach C H' v2 (foundOf o1 m).length o2 → SortedOf (tr (foundOf o1 m) o1) o2 → Q v2 H') ∧
  (¬ InjS ps out → ∀ H' d, Same H H' → H' d = some (.xd [("sign", v)]) → E (.ref N) (some d) H')
set_option maxHeartbeats 1600000 in
theorem ok_p_rename (T : Txt K mg) : FnOk P w K mg base (L2.CX P w) 8 T.f_p_rename T.d_p_rename ["pairs", "machine"] (spRename T.c_Machine T.c_NoSign) := by
  refine T.F_p_rename.okX sc_p_rename (fun vs H Q E h => ?_) (fun cdv A outer s H vs Q E hr h => ?_)
  · obtain ⟨v, u, ps, m, out, rfl, _⟩ := h
    rfl
  · obtain ⟨v, u, ps, m, out, rfl, ip, pok, ⟨p, dx, r0, svs, rfl, hp, hr0, av⟩, ok, q, qe⟩ := h
    refine ⟨_, (pss_cons (ps_if (pt_not (pt_val (pe_call (ok_p_are_pairs T) (hr.mono (by decide)) (by rfl) T.g_p_are_pairs T.F_p_are_pairs.kp T.b_p_are_pairs .nil pass0 (pa_cons (pv 0) pa_nil))))
  (pss_one (ps_raise rfl (takes_of rfl rfl rfl rfl) (pmk_oex (oexS T) T.i_NoSign_in T.i_NoSign_tf (ok_m_NoSign_init T) (hr.mono (by decide)) T.b_m_NoSign_init .nil pass0 (by rfl) T.g_NoSign (pa_cons (pv 0) pa_nil))))
  pss_nil)
 (pss_cons (ps_set (i := 2) sc_p_rename.nd rfl (.inr rfl) (pe_dc (own := [("elder", 5), ("name", 6)]) (g := (gTup K 2 (gCons (gName 5) (gCons (gName 6) gNil)))) (tt := tYes) (by rfl) sc_p_rename.nd (pi_list (pv 0)) (blkOk_by (own := [("elder", 5), ("name", 6)]) (N := ["pairs", "machine", "newer", "signs", "steps", "elder", "name", "room", "sign", "weights"]) (sc := defScope s_p_rename) (by decide +kernel)) (fun _ _ _ _ _ => by exact (pg_tup (by rfl) (pgs_cons (pg_name (i := 5) sc_p_rename.nd rfl (.inl rfl)) (pgs_cons (pg_name (i := 6) sc_p_rename.nd rfl (.inl rfl)) pgs_nil)))) (fun _ _ _ _ _ => by exact pts_nil) (fun _ _ _ _ _ => by exact (pv 5)) (fun _ _ _ _ _ => by exact (pv 6))))
 (pss_cons (ps_set (i := 3) sc_p_rename.nd rfl (.inl rfl) (pe_callB (Fb.cr_sortT rfl) (by rfl) T.z_sorted (by decide +kernel) (pa_cons (pe_scT (units1 hr.units) (own := [("room", 7), ("sign", 8), ("weights", 9)]) (g := (gTup K 3 (gCons (gName 7) (gCons (gName 8) (gCons (gName 9) gNil))))) (tt := tYes) (by rfl) sc_p_rename.nd (pi_list (pe_fld (pv 1) rfl)) (blkOk_by (own := [("room", 7), ("sign", 8), ("weights", 9)]) (N := ["pairs", "machine", "newer", "signs", "steps", "elder", "name", "room", "sign", "weights"]) (sc := defScope s_p_rename) (by decide +kernel)) (fun _ _ _ _ _ => by exact (pg_tup (by rfl) (pgs_cons (pg_name (i := 7) sc_p_rename.nd rfl (.inl rfl)) (pgs_cons (pg_name (i := 8) sc_p_rename.nd rfl (.inl rfl)) (pgs_cons (pg_name (i := 9) sc_p_rename.nd rfl (.inl rfl)) pgs_nil))))) (fun _ _ _ _ _ => by exact pts_nil) (fun _ _ _ _ _ => by exact (pv 8))) pa_nil)))
 (pss_cons (ps_if (pt_not (pt_val (pe_call (ok_p_are_unlike T) (hr.mono (by decide)) (by rfl) T.g_p_are_unlike T.F_p_are_unlike.kp T.b_p_are_unlike .nil pass0 (pa_cons (pe_lc (own := [("sign", 8)]) (g := (gName 8)) (tt := tYes) (by rfl) sc_p_rename.nd (pi_list (pv 3)) (blkOk_by (own := [("sign", 8)]) (N := ["pairs", "machine", "newer", "signs", "steps", "elder", "name", "room", "sign", "weights"]) (sc := defScope s_p_rename) (by decide +kernel)) (fun _ _ _ _ _ => by exact (pg_name (i := 8) sc_p_rename.nd rfl (.inl rfl))) (fun _ _ _ _ _ => by exact pts_nil) (fun _ _ _ _ _ => by exact (pe_dget2 (units1 hr.units) (pv 2) (pv 8) (pv 8) ⟨rfl, rfl, rfl, rfl⟩))) pa_nil))))
  (pss_one (ps_raise rfl (takes_of rfl rfl rfl rfl) (pmk_oex (oexS T) T.i_NoSign_in T.i_NoSign_tf (ok_m_NoSign_init T) (hr.mono (by decide)) T.b_m_NoSign_init .nil pass0 (by rfl) T.g_NoSign (pa_cons (pv 0) pa_nil))))
  pss_nil)
 (pss_cons (ps_setLc (i := 4) (own := [("room", 7), ("sign", 8), ("weights", 9)]) (g := (gTup K 3 (gCons (gName 7) (gCons (gName 8) (gCons (gName 9) gNil))))) (tt := tYes) (by rfl) sc_p_rename.nd rfl rfl (sw_true rfl rfl rfl (by decide +kernel)) (pi_list (pe_fld (pv 1) rfl)) (blkOk_by (own := [("room", 7), ("sign", 8), ("weights", 9)]) (N := ["pairs", "machine", "newer", "signs", "steps", "elder", "name", "room", "sign", "weights"]) (sc := defScope s_p_rename) (by decide +kernel)) (fun _ _ _ _ _ => by exact (pg_tup (by rfl) (pgs_cons (pg_name (i := 7) sc_p_rename.nd rfl (.inl rfl)) (pgs_cons (pg_name (i := 8) sc_p_rename.nd rfl (.inl rfl)) (pgs_cons (pg_name (i := 9) sc_p_rename.nd rfl (.inl rfl)) pgs_nil))))) (fun _ _ _ _ _ => by exact pts_nil) (fun _ _ _ _ _ => by exact (pe_tup (pa_cons (pv 7) (pa_cons (pe_dget2 (units1 hr.units) (pv 2) (pv 8) (pv 8) ⟨rfl, rfl, rfl, rfl⟩) (pa_cons (pv 9) pa_nil))))))
 (pss_one (ps_ret (pe_call (ok_p_trimmed T) (hr.mono (by decide)) (by rfl) T.g_p_trimmed T.F_p_trimmed.kp T.b_p_trimmed .nil pass0 (pa_cons (pe_make T.M_Machine (ok_m_Machine_init T) (hr.mono (by decide)) (by rfl) T.g_Machine T.b_m_Machine_init .nil pass0 (pa_cons (pe_fld (pv 1) rfl) (pa_cons (pv 4) pa_nil))) pa_nil))))))))), ?_⟩
    refine ⟨_, rfl, v, ps, rfl, ip, pok, fun H1 s1 => ⟨true, rfl, iteF ?_⟩⟩
    have ip1 := ip.mono s1
    obtain ⟨a, xs, rfl, ha, ax⟩ := ip1
    have hp := s1 _ _ hp
    have hr0 := s1 _ _ hr0
    have av := av.imp fun _ _ h => IsStp.mono h s1
    have lx : xs.length = ps.length := ax.1
    have f60 := pok.few
    have lo : svs.length = out.length := av.1
    have o60 := ok.ok.few
    refine ⟨_, rfl, a, rfl, ⟨_, SqL.of ha⟩, fun D nD => dc_it (walk_list (K := K) (a := a) (xs := xs)) (fun i H' => ∃ kvs, Same H1 H' ∧ H' D = some (.dK kvs) ∧ kvs.length ≤ i ∧ ∀ z : Str, valV kvs (.inr z) = (renO (ps.take i) z).map V.str) ⟨[], same_upd nD, upd_same, Nat.le_refl _, fun z => rfl⟩ (fun i H' _ h => ?_) (fun i x H2 H3 hi h y => ?_) (fun H2 h => ?_)⟩
    · obtain ⟨_, s2, _⟩ := h
      exact SqL.of (s2 _ _ ha)
    · obtain ⟨kvs, s2, eD, lk, vk⟩ := h
      obtain ⟨rfl, hv⟩ := y
      obtain ⟨pr, hp', t, rfl, ht⟩ := ax.at hv
      refine ⟨t, _, rfl, .inl (.inl (s2 _ _ ht)), rfl, _, _, rfl, _, _, rfl, rfl, rfl, ?_⟩
      dsimp only [tYes]
      rw [if_pos rfl]
      refine ⟨_, rfl, _, rfl, kvs, .inr pr.1, rfl, eD, small1000 (by omega), putK kvs (.inr pr.1) (.str pr.2), same_over s2 nD, upd_same, Nat.le_trans putK_len (by omega), fun z => ?_⟩
      rw [valV_put, List.take_add_one, hp']
      show _ = (renO (ps.take i ++ [pr]) z).map V.str
      rw [renO_snoc]
      by_cases c : pr.1 = z
      · rw [if_pos c, if_pos (by rw [c])]
        rfl
      · rw [if_neg c, if_neg (fun e => c (Sum.inr.inj e).symm), vk z]
    · obtain ⟨kvs, s2, eD, lk, vk⟩ := h
      rw [lx, List.take_length] at vk
      have hp := s2 _ _ hp
      have hr0 := s2 _ _ hr0
      have av := av.imp fun _ _ h => IsStp.mono h s2
      have s12 := s1.trans s2
      have vr : ∀ z : Str, (valV kvs (.inr z)).getD (.str z) = .str (renF ps z) := fun z => by
        rw [vk z]
        unfold renF
        cases renO ps z <;> rfl
      clear ha ax s2 nD s1
      refine ⟨_, rfl, p, _, _, _, _, rfl, hp, T.cl_Machine, T.n_Machine_steps, mflds_steps m r0, r0, rfl, ⟨_, SqL.of hr0⟩, fun D2 nD2 => scT_all (walk_list (K := K) (a := r0) (xs := svs)) (fun i => ((out.map Stp.sign).getD i "")) nD2 (fun H' s => SqL.of (s _ _ hr0)) (by omega) (fun i x H3 H4 k hi s3 eD2 y hk => ?_) (fun H3 L s3 e3 nL mL lL => ?_)⟩
      · obtain ⟨rfl, hv⟩ := y
        obtain ⟨st, hst, t, wa, rfl, ht, hw⟩ := av.at hv
        have := hk H4 (Same.refl _)
        rw [List.getD_eq_getElem?_getD, List.getElem?_map, hst] at this
        have sA := s3.trans (hid_same (a := D2))
        exact ⟨t, _, rfl, .inl (.inl (sA _ _ ht)), rfl, _, _, rfl, _, _, rfl, _, _, rfl, rfl, rfl, _, rfl, this⟩
      have sA := s3.trans (hid_same (a := D2))
      have mem : ∀ z, z ∈ L ↔ ∃ s ∈ out, s.sign = z := fun z => by
        rw [mL z]
        constructor
        · rintro ⟨i, hi, e⟩
          have hi : i < out.length := by omega
          rw [List.getD_eq_getElem?_getD, List.getElem?_map, List.getElem?_eq_getElem hi] at e
          exact ⟨out[i], List.getElem_mem hi, e⟩
        · rintro ⟨s, hs, rfl⟩
          obtain ⟨i, hi⟩ := List.getElem?_of_mem hs
          have il := (List.getElem?_eq_some_iff.mp hi).1
          exact ⟨i, by omega, by rw [List.getD_eq_getElem?_getD, List.getElem?_map, hi]; rfl⟩
      refine ⟨D2, L, rfl, e3, by omega, fun zs q' pm so nq => ?_⟩
      have nz : zs.Nodup := pm.nodup_iff.mpr nL
      have mz : ∀ z, z ∈ zs ↔ ∃ s ∈ out, s.sign = z := fun z => pm.mem_iff.trans (mem z)
      have lz : zs.length ≤ 60 := by rw [pm.length_eq]; omega
      have u := same_upd (o := .lst (zs.map V.str)) nq
      have eq' := @upd_same H3 q' (.lst (zs.map V.str))
      generalize upd H3 q' (.lst (zs.map V.str)) = H5 at *
      have sB := sA.trans u
      have hp := sB _ _ hp
      have hr0 := sB _ _ hr0
      have eD := sB _ _ eD
      have av := av.imp fun _ _ h => IsStp.mono h sB
      have s15 := s12.trans sB
      clear e3 nL mL lL pm so nq u sA sB s3 mem nD2
      refine ⟨_, rfl, q', rfl, ⟨_, SqL.of eq'⟩, fun D3 nD3 => lc_allW (walk_list (K := K) (a := q') (xs := zs.map V.str)) (fun i y _ => ∃ z, zs[i]? = some z ∧ y = .str (renF ps z)) (fun _ _ _ _ _ h => h) nD3 (fun H' s => SqL.of (s _ _ eq')) (by rw [List.length_map]; omega) (fun i x H6 H7 kk hi s6 eD3 y hk => ?_) (fun H6 ys s6 e6 l6 r6 => ?_)⟩
      · obtain ⟨rfl, hv⟩ := y
        rw [List.getElem?_map] at hv
        obtain ⟨z, hz, rfl⟩ := Option.map_eq_some_iff.mp hv
        have eD7 := hid_same _ _ (s6 _ _ eD)
        exact ⟨rfl, _, rfl, D, rfl, .inl ⟨_, .inl eD7⟩, _, rfl, _, rfl, _, DGet.k (k := .inr z) eD7, hk _ _ (Same.refl _) ⟨z, hz, vr z⟩⟩
      rw [are_strsQ (l := zs) (f := renF ps) (by rw [l6, List.length_map]) r6] at e6
      have s56 := s6.trans (hid_same (a := D3))
      refine ⟨D3, zs.map (renF ps), rfl, e6, by rw [List.length_map]; exact lz, fun H8 s8 => ⟨_, rfl, ?_⟩⟩
      have sC := s56.trans s8
      have hp := sC _ _ hp
      have hr0 := sC _ _ hr0
      have eD := sC _ _ eD
      have av := av.imp fun _ _ h => IsStp.mono h sC
      have s18 := s15.trans sC
      clear e6 l6 r6 s6 s56 s8 sC eq' nD3
      by_cases inj : InjS ps out
      · rw [decide_eq_true ((ren_nd nz mz).mpr inj)]
        have sto := ren_stps pok.ok ok.ok inj
        refine iteF ⟨_, rfl, p, _, _, _, _, rfl, hp, T.cl_Machine, T.n_Machine_steps, mflds_steps m r0, r0, rfl, ⟨_, SqL.of hr0⟩, fun D4 nD4 => lc_allW (walk_list (K := K) (a := r0) (xs := svs)) (fun i y G => ∃ s, out[i]? = some s ∧ IsStp G y (renS ps s)) (fun _ _ _ _ s h => h.elim fun st f => ⟨st, f.1, f.2.mono s⟩) nD4 (fun H' s => SqL.of (s _ _ hr0)) (by omega) (fun i x H9 H10 kk hi s9 eD4 y hk => ?_) (fun H9 ys s9 e9 l9 r9 => ?_)⟩
        · obtain ⟨rfl, hv⟩ := y
          obtain ⟨st, hst, t, wa, rfl, ht, hw⟩ := av.at hv
          have sD := s9.trans (hid_same (a := D4))
          have eD10 := sD _ _ eD
          refine ⟨t, _, rfl, .inl (.inl (sD _ _ ht)), rfl, _, _, rfl, _, _, rfl, _, _, rfl, rfl, rfl, ?_⟩
          refine ⟨_, rfl, _, rfl, D, rfl, .inl ⟨_, .inl eD10⟩, _, rfl, _, rfl, _, DGet.k (k := .inr st.sign) eD10, _, rfl, by show 3 ≤ sizeLine; decide, fun t2 nt2 => ?_⟩
          rw [vr st.sign]
          have u := same_upd (o := .tup [.int (st.room : Nat), .str (renF ps st.sign), .ref wa]) nt2
          exact hk _ _ u ⟨st, hst, t2, wa, rfl, hid_no (eD4.imp fun _ e => u _ _ e) upd_same (fun _ => nofun), hid_no (eD4.imp fun _ e => u _ _ e) (u _ _ (sD _ _ hw)) (fun _ => nofun)⟩
        · have aR : AllAre (IsStp H9) ys (out.map (renS ps)) := .of_ix (by rw [l9, List.length_map, lo]) fun i y hy => by
            obtain ⟨s, hs, r⟩ := r9 i y hy
            exact ⟨renS ps s, by rw [List.getElem?_map, hs]; rfl, r.mono hid_same⟩
          have sD := s9.trans (hid_same (a := D4))
          refine ⟨_, rfl, p, _, _, _, _, rfl, sD _ _ hp, T.cl_Machine, T.n_Machine_many, mflds_many m r0, _, rfl, ?_⟩
          dsimp only [tNil]
          refine mk_mach ⟨D4, ys, rfl, e9, aR⟩ sto fun H11 x o1 s11 _ im so1 => ?_
          exact ⟨_, _, _, rfl, im, mok_of sto so1, fun H12 v2 o2 s12' im2 so2 => q inj H12 v2 o1 o2 (s18.trans (sD.trans (s11.trans s12'))) so1 im2 so2⟩
      · rw [decide_eq_false fun h => inj ((ren_nd nz mz).mp h)]
        exact iteT ⟨_, rfl, mk_oex fun H9 d s9 e9 => qe inj H9 d (s18.trans s9) e9⟩
end
end Fb
namespace Fb
open PySem PySem.Spec PyProof.Rows L2
section
theorem low_scale {c : Nat} (c0 : 0 < c) (ws : List Nat) : low (ws.map (· * c)) = low ws := by
  have e : ws.map (· * c) = ws.map (c * ·) := List.map_congr_left fun n _ => Nat.mul_comm n c
  unfold low
  have g := gcdF_mul c ws 0
  rw [Nat.mul_zero] at g
  rw [e, g, List.map_map]
  refine List.map_congr_left fun n _ => ?_
  show c * n / (c * gcdF 0 ws) = n / gcdF 0 ws
  exact Nat.mul_div_mul_left _ _ c0
theorem low_back' (ws : List Nat) : (low ws).map (· * gcdF 0 ws) = ws := by
  have e : (low ws).map (· * gcdF 0 ws) = (low ws).map (gcdF 0 ws * ·) := List.map_congr_left fun n _ => Nat.mul_comm _ _
  rw [e, low_back]
theorem scale_get (ws : List Nat) (c t : Nat) : (ws.map (· * c)).getD t 0 = ws.getD t 0 * c := by
  rw [List.getD_eq_getElem?_getD, List.getD_eq_getElem?_getD, List.getElem?_map]
  cases ws[t]? with
  | none => exact (Nat.zero_mul c).symm
  | some n => rfl
theorem low_get (ws : List Nat) (t : Nat) : ws.getD t 0 = (low ws).getD t 0 * gcdF 0 ws := by
  rw [← scale_get, low_back']
theorem low_mem {ss out : List Stp} (so : SortedOf ss out) {s : Stp} (h : s ∈ ss) : lowS s ∈ out := so.1.mem_iff.mpr (List.mem_map_of_mem h)
theorem sort_ex (ss : List Stp) (once : (ss.map Stp.key).Nodup) : ∃ o : List Stp, o.Perm ss ∧ Sorted o := by
  have tr : ∀ a b c : Stp, (!rsLt b.key a.key) = true → (!rsLt c.key b.key) = true → (!rsLt c.key a.key) = true := fun a b c h1 h2 => by
    rw [Bool.not_eq_true'] at h1 h2 ⊢
    cases e : rsLt c.key a.key with
    | false => rfl
    | true =>
      cases e2 : rsLt a.key b.key with
      | true =>
        rw [rsLt_trans e e2] at h2
        cases h2
      | false =>
        rw [← rsLt_total e2 h1, e] at h2
        cases h2
  have tt : ∀ a b : Stp, ((!rsLt b.key a.key) || !rsLt a.key b.key) = true := fun a b => by
    cases e : rsLt b.key a.key with
    | false => rfl
    | true =>
      cases e2 : rsLt a.key b.key with
      | false => rfl
      | true =>
        have := rsLt_trans e e2
        rw [rsLt_irr] at this
        cases this
  have up := List.pairwise_mergeSort (le := fun a b : Stp => !rsLt b.key a.key) tr tt ss
  have pm := List.mergeSort_perm ss (fun a b : Stp => !rsLt b.key a.key)
  have nd := List.pairwise_map.mp ((pm.map Stp.key).nodup_iff.mpr once)
  refine ⟨_, pm, ⟨(nd.and up).imp fun {a b} h => ?_⟩⟩
  have h2 : rsLt b.key a.key = false := by simpa using h.2
  cases c : rsLt a.key b.key with
  | true => rfl
  | false => exact absurd (rsLt_total c h2) h.1
theorem sortedOf_ex {m : Nat} {ss : List Stp} (ok : StpsOk m ss) : ∃ o, SortedOf ss o := by
  have key : (ss.map lowS).map Stp.key = ss.map Stp.key := by
    rw [List.map_map]
    rfl
  obtain ⟨o, p, up⟩ := sort_ex (ss.map lowS) (by rw [key]; exact ok.once)
  exact ⟨o, p, up⟩
theorem tos_low {ws : List Nat} (pos : ∃ n ∈ ws, 0 < n) : tos (low ws) = tos ws := by
  have g0 := gcdF_pos (g := 0) pos
  unfold tos
  rw [show (low ws).length = ws.length from List.length_map ..]
  refine List.filter_congr fun i _ => ?_
  rw [low_get ws i, Bool.eq_iff_iff, decide_eq_true_iff, decide_eq_true_iff]
  exact ⟨fun h => Nat.mul_pos h g0, fun h => Nat.pos_of_ne_zero fun z => by rw [z, Nat.zero_mul] at h; omega⟩
theorem scan_low (r : Nat) : ∀ (ss : List Stp) (f : List Nat), (∀ s ∈ ss, ∃ n ∈ s.ws, 0 < n) → scan r (ss.map lowS) f = scan r ss f
  | [], _, _ => rfl
  | s :: ss, f, h => by
    show scan r (ss.map lowS) (if s.room = r then addNew f (tos (low s.ws)) else f) = scan r ss (if s.room = r then addNew f (tos s.ws) else f)
    rw [tos_low (h s List.mem_cons_self), scan_low r ss _ fun u hu => h u (List.mem_cons_of_mem _ hu)]
theorem bfs_low {ss : List Stp} (h : ∀ s ∈ ss, ∃ n ∈ s.ws, 0 < n) : ∀ (k i : Nat) (f : List Nat), bfs (ss.map lowS) k i f = bfs ss k i f
  | 0, _, _ => rfl
  | k + 1, i, f => by
    cases e : f[i]? with
    | none =>
      have l := List.getElem?_eq_none_iff.mp e
      rw [bfs_end l, bfs_end l]
    | some r => rw [bfs_go e, bfs_go e, scan_low r ss f h, bfs_low h k]
theorem found_raw {m : Nat} {ss ssS out : List Stp} (ok : StpsOk m ss) (so : SortedOf ss out) (p : ssS.Perm ss) (up : Sorted ssS) : foundOf ssS m = foundOf out m := by
  have e : out = ssS.map lowS := sorted_uniq so.2 ⟨List.pairwise_map.mpr (up.up.imp fun h => h)⟩ (so.1.trans (p.map lowS).symm)
  rw [e]
  exact (bfs_low (fun s hs => (ok.all s (p.mem_iff.mp hs)).wts.pos) _ _ _).symm
theorem trS_scale (F : List Nat) (s : Stp) : (trS F s).ws = (trS F (lowS s)).ws.map (· * gcdF 0 s.ws) := by
  show F.map _ = (F.map _).map _
  rw [List.map_map]
  exact List.map_congr_left fun t _ => low_get s.ws t
section
variable {m : Nat} {ss out : List Stp} {F : List Nat}
theorem trS_low (ok : StpsOk m ss) (so : SortedOf ss out) (fok : FOk m F) (cl : Closed out F) {s : Stp} (hs : s ∈ ss) (hr : s.room ∈ F) : lowS (trS F s) = trS F (lowS s) := by
  have h := (trS_ok (mok_of ok so) fok cl (low_mem so hs) hr).2
  show (⟨_, _, low (trS F s).ws⟩ : Stp) = ⟨_, _, (trS F (lowS s)).ws⟩
  rw [trS_scale, low_scale (gcdF_pos (ok.all s hs).wts.pos), h]
  rfl
theorem trT_ok (ok : StpsOk m ss) (so : SortedOf ss out) (fok : FOk m F) (cl : Closed out F) (f0 : 0 < F.length) : StpsOk F.length (tr F ss) := by
  have fl := fok.len
  have m12 := ok.m12
  refine ⟨f0, by omega, ?_, fun s hs => ?_, ?_⟩
  · unfold tr
    rw [List.length_map]
    exact Nat.lt_of_le_of_lt (List.length_filter_le _ _) ok.few
  · obtain ⟨s0, h0, rfl⟩ := List.mem_map.mp hs
    obtain ⟨h1, h2⟩ := List.mem_filter.mp h0
    have h2 := of_decide_eq_true h2
    have o := ok.all s0 h1
    have t := (trS_ok (mok_of ok so) fok cl (low_mem so h1) h2).1
    refine ⟨t.room, t.sign, by show (F.map _).length = _; rw [List.length_map], ?_, fun n hn => ?_⟩
    · obtain ⟨n, hn, n0⟩ := t.wts.pos
      rw [trS_scale]
      exact ⟨_, List.mem_map_of_mem hn, Nat.mul_pos n0 (gcdF_pos o.wts.pos)⟩
    · obtain ⟨t, _, rfl⟩ := List.mem_map.mp hn
      rw [List.getD_eq_getElem?_getD]
      cases e : s0.ws[t]? with
      | none => exact Nat.pow_pos (by decide)
      | some n => exact o.wts.bd n (List.mem_of_getElem? e)
  · have h1 : ss.Pairwise fun a b => a.key ≠ b.key := List.pairwise_map.mp ok.once
    have h2 := h1.filter (fun s => decide (s.room ∈ F))
    unfold tr
    rw [List.map_map]
    refine List.pairwise_map.mpr (List.Pairwise.imp_of_mem (fun {a b} ha hb hab e => hab ?_) h2)
    have ra := of_decide_eq_true (List.mem_filter.mp ha).2
    have rb := of_decide_eq_true (List.mem_filter.mp hb).2
    have e1 : ((F.idxOf a.room : Nat) : Int) = ((F.idxOf b.room : Nat) : Int) := congrArg Prod.fst e
    have e2 : a.sign = b.sign := congrArg Prod.snd e
    have e3 := idx_inj ra rb (by omega)
    exact Prod.ext (by show (a.room : Int) = b.room; omega) e2
theorem trT_so {o2 : List Stp} (ok : StpsOk m ss) (so : SortedOf ss out) (fok : FOk m F) (cl : Closed out F) (f0 : 0 < F.length) (s2 : SortedOf (tr F out) o2) : SortedOf (tr F ss) o2 := by
  refine ⟨(tr_mok (mok_of ok so) fok cl f0 s2).2.trans (((so.1.filter _).map _).trans (List.Perm.of_eq ?_)), s2.2⟩
  unfold tr
  rw [List.filter_map, List.map_map, List.map_map]
  refine List.map_congr_left fun s hs => ?_
  obtain ⟨h1, h2⟩ := List.mem_filter.mp hs
  exact (trS_low ok so fok cl h1 (of_decide_eq_true h2)).symm
end
/-- what the law tells of the rooms found, in its order -/
def tolF (srt : List Stp) (F : List Nat) (i : Nat) : List Stp := (List.range i).flatMap fun k => (srt.filter fun s => decide (s.room = F.getD k 0)).map fun s => (⟨k, s.sign, s.ws⟩ : Stp)
def trW (F : List Nat) (s : Stp) : Stp := ⟨s.room, s.sign, low (F.map fun t => s.ws.getD t 0)⟩
theorem tol_mem {srt : List Stp} {F : List Nat} {i : Nat} {x : Stp} : x ∈ tolF srt F i ↔ ∃ k s, k < i ∧ s ∈ srt ∧ s.room = F.getD k 0 ∧ x = ⟨k, s.sign, s.ws⟩ := by
  unfold tolF
  rw [List.mem_flatMap]
  constructor
  · rintro ⟨k, hk, hx⟩
    obtain ⟨s, hs, rfl⟩ := List.mem_map.mp hx
    obtain ⟨h1, h2⟩ := List.mem_filter.mp hs
    exact ⟨k, s, List.mem_range.mp hk, h1, of_decide_eq_true h2, rfl⟩
  · rintro ⟨k, s, hk, hs, e, rfl⟩
    exact ⟨k, List.mem_range.mpr hk, List.mem_map.mpr ⟨s, List.mem_filter.mpr ⟨hs, decide_eq_true e⟩, rfl⟩⟩
theorem tol_keys {srt : List Stp} {F : List Nat} (once : (srt.map Stp.key).Nodup) : ∀ i, ((tolF srt F i).map Stp.key).Nodup
  | 0 => List.nodup_nil
  | i + 1 => by
    have e : tolF srt F (i + 1) = tolF srt F i ++ (srt.filter fun s => decide (s.room = F.getD i 0)).map fun s => (⟨i, s.sign, s.ws⟩ : Stp) := by
      unfold tolF
      rw [List.range_succ, List.flatMap_append, List.flatMap_cons, List.flatMap_nil, List.append_nil]
    rw [e, List.map_append, List.nodup_append]
    refine ⟨tol_keys once i, ?_, fun a ha b hb z => ?_⟩
    · rw [List.map_map]
      refine List.pairwise_map.mpr (((List.pairwise_map.mp once).filter _).imp_of_mem fun {a b} ha hb ne e => ne ?_)
      have ra := of_decide_eq_true (List.mem_filter.mp ha).2
      have rb := of_decide_eq_true (List.mem_filter.mp hb).2
      have e2 : a.sign = b.sign := congrArg Prod.snd e
      exact Prod.ext (by show (a.room : Int) = b.room; rw [ra, rb]) e2
    · subst z
      obtain ⟨u, hu, eu⟩ := List.mem_map.mp ha
      obtain ⟨v, hv, ev⟩ := List.mem_map.mp hb
      obtain ⟨k, s, hk, _, _, rfl⟩ := tol_mem.mp hu
      obtain ⟨s2, _, rfl⟩ := List.mem_map.mp hv
      have : ((k : Nat) : Int) = ((i : Nat) : Int) := congrArg Prod.fst (eu.trans ev.symm)
      omega
theorem tol_perm {m : Nat} {srt ss : List Stp} {F : List Nat} (ok : StpsOk m ss) (p : srt.Perm ss) (nd : F.Nodup) : ((tolF srt F F.length).map (trW F)).Perm ((tr F ss).map lowS) := by
  have k1 : (((tolF srt F F.length).map (trW F)).map Stp.key).Nodup := by
    rw [List.map_map]
    exact tol_keys ((p.map Stp.key).nodup_iff.mpr ok.once) _
  have nk : ∀ {l : List Stp}, (l.map Stp.key).Nodup → l.Nodup := fun h => (List.pairwise_map.mp h).imp fun ne e => ne (by rw [e])
  have k2 : (((tr F ss).map lowS).map Stp.key).Nodup := by
    have h1 : ss.Pairwise fun a b => a.key ≠ b.key := List.pairwise_map.mp ok.once
    have h2 := h1.filter (fun s => decide (s.room ∈ F))
    unfold tr
    rw [List.map_map, List.map_map]
    refine List.pairwise_map.mpr (List.Pairwise.imp_of_mem (fun {a b} ha hb hab e => hab ?_) h2)
    have ra := of_decide_eq_true (List.mem_filter.mp ha).2
    have rb := of_decide_eq_true (List.mem_filter.mp hb).2
    have e1 : ((F.idxOf a.room : Nat) : Int) = ((F.idxOf b.room : Nat) : Int) := congrArg Prod.fst e
    have e2 : a.sign = b.sign := congrArg Prod.snd e
    have e3 := idx_inj ra rb (by omega)
    exact Prod.ext (by show (a.room : Int) = b.room; omega) e2
  refine (List.perm_ext_iff_of_nodup (nk k1) (nk k2)).mpr fun x => ?_
  rw [List.mem_map, List.mem_map]
  constructor
  · rintro ⟨y, hy, rfl⟩
    obtain ⟨k, s, hk, hs, e, rfl⟩ := tol_mem.mp hy
    have eF : F[k]? = some s.room := by rw [e, List.getD_eq_getElem?_getD, List.getElem?_eq_getElem hk]; rfl
    exact ⟨trS F s, List.mem_map.mpr ⟨s, List.mem_filter.mpr ⟨p.mem_iff.mp hs, decide_eq_true (List.mem_of_getElem? eF)⟩, rfl⟩, by show (⟨F.idxOf s.room, _, _⟩ : Stp) = ⟨k, _, _⟩; rw [idx_at nd eF]; rfl⟩
  · rintro ⟨y, hy, rfl⟩
    obtain ⟨s, hs, rfl⟩ := List.mem_map.mp hy
    obtain ⟨h1, h2⟩ := List.mem_filter.mp hs
    have h2 := of_decide_eq_true h2
    have hl := List.idxOf_lt_length_of_mem h2
    exact ⟨⟨F.idxOf s.room, s.sign, s.ws⟩, tol_mem.mpr ⟨_, s, hl, p.mem_iff.mpr h1, by rw [List.getD_eq_getElem?_getD, List.getElem?_eq_getElem hl, List.getElem_idxOf]; rfl, rfl⟩, rfl⟩
end
end Fb
namespace Fb
open PySem PySem.Spec PyProof.Rows L2
section
variable {P : Program} {w : World} {K : PySem.W.Frag} {mg : Str → Option Value} {base : Heap}
def spDiv : Sp := fun vs H Q _ => ∃ (wa : Addr) (ws : List Nat), vs = [.ref wa] ∧ H wa = some (.lst (nts ws)) ∧ (∃ n ∈ ws, 0 < n) ∧ (∀ n ∈ ws, n < 2 ^ 4000) ∧ ws.length ≤ 900 ∧ ∀ H' r, Same H H' → H' r = some (.tup (nts (low ws))) → Q (.ref r) H'
theorem ok_l_divided (T : Txt K mg) : FnOk P w K mg base CX0 1 T.f_l_divided T.d_l_divided ["_law_weights_here"] spDiv := by
  refine T.F_l_divided.ok sc_l_divided (fun vs H Q E h => ?_) (fun cdv A outer s H vs Q E hr h => ?_)
  · obtain ⟨wa, ws, rfl, _⟩ := h
    rfl
  · obtain ⟨wa, ws, rfl, hw, pos, bd, l9, q⟩ := h
    refine ⟨_, (pss_cons (ps_set (i := 1) sc_l_divided.nd rfl (.inr rfl) pe_int)
 (pss_cons (ps_for PassesOwn.never rfl (pi_list (pv 0)) (pg_name (i := 2) sc_l_divided.nd rfl (.inl rfl))
  (pss_cons (ps_par (i := 3) (j := 4) (by rfl) sc_l_divided.nd rfl rfl (by decide) rfl rfl (pa_cons (pv 1) (pa_cons (pv 2) pa_nil)) (by rfl))
 (pss_cons (ps_while PassesOwn.never (pt_cmpR op_gt (pv 4) pe_int (nomark _))
  (pss_one (ps_par (i := 3) (j := 4) (by rfl) sc_l_divided.nd rfl rfl (by decide) rfl rfl (pa_cons (pv 4) (pa_cons (pe_op op_mod (pv 3) (pv 4)) pa_nil)) (by rfl))))
 (pss_one (ps_set (i := 1) sc_l_divided.nd rfl (.inr rfl) (pv 3))))))
 (pss_one (ps_ret (pe_callTy call_tuple_of (by rfl) T.z_tuple (by decide +kernel) (pa_cons (pe_lc (own := [("_law_weight", 2)]) (g := (gName 2)) (tt := tYes) (by rfl) sc_l_divided.nd (pi_list (pv 0)) (blkOk_by (own := [("_law_weight", 2)]) (N := ["_law_weights_here", "_law_by", "_law_weight", "_law_one_here", "_law_other"]) (sc := defScope s_l_divided) (by decide +kernel)) (fun _ _ _ _ _ => by exact (pg_name (i := 2) sc_l_divided.nd rfl (.inl rfl))) (fun _ _ _ _ _ => by exact pts_nil) (fun _ _ _ _ _ => by exact (pe_op op_fdivW (pv 2) (pv 1)))) pa_nil)))))), ?_⟩
    have lw : (nts ws).length = ws.length := List.length_map ..
    refine ⟨_, rfl, wa, rfl, ⟨_, SqL.of hw⟩, for_list (K := K) (a := wa) (xs := nts ws) (fun i σ H' => ∃ y2 y3 y4, σ = [some (.ref wa), some (.int (gcdF 0 (ws.take i) : Nat)), y2, y3, y4] ∧ H' = H) ⟨_, _, _, rfl, rfl⟩ (fun i σ H' _ h => ?_) (fun i x σ H' hi h => ?_) (fun σ H' h => ?_)⟩
    · obtain ⟨_, _, _, _, rfl⟩ := h
      exact SqL.of hw
    · obtain ⟨y2, y3, y4, rfl, rfl⟩ := h
      obtain ⟨n, hn, rfl⟩ := nts_at hi
      have et : gcdF 0 (ws.take (i + 1)) = Nat.gcd n (gcdF 0 (ws.take i)) := by rw [List.take_add_one, hn]; exact gcdF_snoc n _ 0
      generalize gcdF 0 (ws.take i) = g at *
      refine ⟨_, rfl, _, rfl, _, _, rfl, ?_⟩
      refine ⟨fun m σ H'' => ∃ x y : Nat, σ = [some (.ref wa), some (.int (g : Nat)), some (.int (n : Nat)), some (.int (x : Nat)), some (.int (y : Nat))] ∧ m = y ∧ Nat.gcd x y = Nat.gcd n g ∧ H'' = H', ⟨_, g, n, rfl, rfl, Nat.gcd_comm _ _, rfl⟩, fun m σ H'' hW => ?_⟩
      obtain ⟨x, y, rfl, rfl, hg, rfl⟩ := hW
      refine ⟨_, rfl, _, _, rfl, rfl, _, rfl, ite2 (fun h => ?_) (fun h => ?_)⟩
      · have hy : 0 < m := by
          have : (0 : Int) < (m : Int) := of_decide_eq_true h
          omega
        refine ⟨fun σ' H3 => σ' = [some (.ref wa), some (.int (g : Nat)), some (.int (n : Nat)), some (.int (m : Nat)), some (.int ((x % m : Nat) : Int))] ∧ H3 = H'', fun σ' H3 h => ?_, ?_⟩
        · obtain ⟨rfl, rfl⟩ := h
          refine ⟨_, Nat.mod_lt x hy, m, _, rfl, rfl, ?_, rfl⟩
          rw [← hg, Nat.gcd_comm x m, Nat.gcd_rec m x]
          exact Nat.gcd_comm _ _
        · refine ⟨_, rfl, _, rfl, _, rfl, _, _, rfl, rfl, (show (0 : Int) < (m : Int) by omega), _, _, rfl, ?_, rfl⟩
          rw [Int.natCast_emod]
          rfl
      · have hy : m = 0 := by
          have : ¬ (0 : Int) < (m : Int) := fun z => h (decide_eq_true z)
          omega
        subst hy
        refine ⟨_, rfl, ?_⟩
        rw [Nat.gcd_zero_right] at hg
        refine ⟨some (.int ((n : Nat) : Int)), some (.int ((x : Nat) : Int)), some (.int ((0 : Nat) : Int)), ?_, rfl⟩
        rw [et, ← hg]
        rfl
    · obtain ⟨y2, y3, y4, rfl, rfl⟩ := h
      rw [lw, List.take_length]
      have g0 : 0 < gcdF 0 ws := gcdF_pos pos
      obtain ⟨n0, hn0, h0⟩ := pos
      have gl : gcdF 0 ws < 2 ^ 4000 := Nat.lt_of_le_of_lt (Nat.le_of_dvd h0 ((gcdF_dvd ws 0).2 n0 hn0)) (bd n0 hn0)
      refine ⟨_, rfl, wa, rfl, ⟨_, SqL.of hw⟩, fun D nD => lc_allW (walk_list (K := K) (a := wa) (xs := nts ws)) (fun i y _ => ∃ n, ws[i]? = some n ∧ y = .int ((n / gcdF 0 ws : Nat))) (fun _ _ _ _ _ h => h) nD (fun H' s => SqL.of (s _ _ hw)) (by omega) (fun i v H2 H3 k hi s2 eD y hk => ?_) (fun H2 ys s2 e l r => ?_)⟩
      · obtain ⟨rfl, hv⟩ := y
        obtain ⟨n, hn, rfl⟩ := nts_at hv
        refine ⟨rfl, _, rfl, _, rfl, _, _, rfl, rfl, wide_div (b := 4000) (by omega) (nat_abs gl) (by decide) (by decide), hk _ _ (Same.refl _) ⟨n, hn, ?_⟩⟩
        dsimp only
        rw [Int.natCast_ediv]
      · have ey : ys = nts (low ws) := by
          refine List.ext_getElem? fun i => ?_
          by_cases hi : i < ys.length
          · obtain ⟨n, hn, hy⟩ := r i _ (List.getElem?_eq_getElem hi)
            rw [List.getElem?_eq_getElem hi, hy]
            unfold nts low
            rw [List.map_map, List.getElem?_map, hn]
            rfl
          · rw [List.getElem?_eq_none (by omega), List.getElem?_eq_none (by simp [nts, low]; omega)]
        rw [ey] at e
        refine ⟨D, _, rfl, .inl ⟨SqL.of e, fun t nt => ?_⟩⟩
        exact q _ t ((s2.trans hid_same).trans (same_upd nt)) upd_same
end
end Fb
namespace Fb
open PySem PySem.Spec PyProof.Rows L2
section
variable {P : Program} {w : World} {K : PySem.W.Frag} {mg : Str → Option Value} {base : Heap}
theorem at_nil {σ : L2.St} {H : Hp} {k : List V → Hp → Prop} (h : k [] H) : tNil σ H k := h
theorem bfs_pre (out : List Stp) : ∀ (k i : Nat) (f : List Nat), f <+: bfs out k i f
  | 0, _, f => List.prefix_refl f
  | k + 1, i, f => by
    cases e : f[i]? with
    | none =>
      rw [bfs_end (List.getElem?_eq_none_iff.mp e)]
      exact List.prefix_refl f
    | some r =>
      rw [bfs_go e]
      exact (scan_pre r out f).trans (bfs_pre out k _ _)
theorem IsStp.hidL {H : Hp} {D : Addr} {v : V} {s : Stp} (e : ∃ ys, H D = some (.lst ys)) (h : IsStp H v s) : IsStp (Fb.hid D H) v s := by
  obtain ⟨t, wa, ev, h1, h2⟩ := h
  exact ⟨t, wa, ev, hid_no e h1 (fun _ => nofun), hid_no e h2 (fun _ => nofun)⟩
def IsTold (H : Hp) (v : V) (n : Nat) (out : List Stp) : Prop := ∃ t r svs, v = .ref t ∧ H t = some (.tup [.str "told", .int (n : Nat), .ref r]) ∧ H r = some (.lst svs) ∧ AllAre (IsStp H) svs out
def spDue : Sp := fun vs H Q _ => ∃ (l : Addr) (m : Nat) (ss out : List Stp) (xs : List V), vs = [.ref l] ∧ H l = some (.lst xs) ∧ AllAre (IsStp H) xs ss ∧ StpsOk m ss ∧ SortedOf ss out ∧
  ∀ H' v o2, Same H H' → IsTold H' v (foundOf out m).length o2 → SortedOf (tr (foundOf out m) out) o2 → Q v H'
set_option maxHeartbeats 3200000 in
theorem ok_l_due (T : Txt K mg) : FnOk P w K mg base CX0 2 T.f_l_due T.d_l_due ["_law_steps"] spDue := by
  refine T.F_l_due.ok sc_l_due (fun vs H Q E h => ?_) (fun cdv A outer s H vs Q E hr h => ?_)
  · obtain ⟨l, m, ss, out, xs, rfl, _⟩ := h
    rfl
  · obtain ⟨l, m, ss, out, xs, rfl, hl, av, ok, so, q⟩ := h
    refine ⟨_, (pss_cons (ps_set (i := 1) sc_l_due.nd rfl (.inr rfl) (pe_lst (pa_cons pe_int pa_nil)))
 (pss_cons (ps_set (i := 2) sc_l_due.nd rfl (.inl rfl) (pe_lst pa_nil))
 (pss_cons (ps_set (i := 3) sc_l_due.nd rfl (.inl rfl) pe_int)
 (pss_cons (ps_while PassesOwn.never (pt_cmpR op_lt (pv 3) (pe_callB call_len_seq (by rfl) T.z_len (by decide +kernel) (pa_cons (pv 1) pa_nil)) (nomark _))
  (pss_cons (ps_for PassesOwn.never rfl (pi_list (pe_callB (cr_sortS (units2 hr.units)) (by rfl) T.z_sorted (by decide +kernel) (pa_cons (pv 0) pa_nil))) (pg_tup (by rfl) (pgs_cons (pg_name (i := 4) sc_l_due.nd rfl (.inl rfl)) (pgs_cons (pg_name (i := 5) sc_l_due.nd rfl (.inl rfl)) (pgs_cons (pg_name (i := 6) sc_l_due.nd rfl (.inl rfl)) pgs_nil))))
  (pss_one (ps_if (pt_cmpR op_eq (pv 4) (pe_ix ix_list (pv 1) (pv 3) (fun _ _ => rfl)) (nomark _))
  (pss_cons (ps_expr (pe_bm PySem.F.plainAttrs_list PySem.F.slot_list_append PySem.F.type_list_append mt_append (pv 2) (pa_cons (pe_tup (pa_cons (pv 3) (pa_cons (pv 5) (pa_cons (pv 6) pa_nil)))) pa_nil)))
 (pss_one (ps_set (i := 1) sc_l_due.nd rfl (.inr rfl) (pe_op op_cat (pv 1) (pe_lc (own := [("_law_to", 8), ("_law_weight", 9)]) (g := (gTup K 2 (gCons (gName 8) (gCons (gName 9) gNil)))) (tt := _) (by rfl) sc_l_due.nd (pi_enumT (by rfl) T.z_enumerate (pa_cons (pv 6) pa_nil)) (blkOk_by (own := [("_law_to", 8), ("_law_weight", 9)]) (N := ["_law_steps", "_law_order", "_law_told", "_law_at", "_law_room", "_law_sign", "_law_weights_here", "_law_found", "_law_to", "_law_weight"]) (sc := defScope s_l_due) (by decide +kernel)) (fun _ _ _ _ _ => by exact (pg_tup (by rfl) (pgs_cons (pg_name (i := 8) sc_l_due.nd rfl (.inl rfl)) (pgs_cons (pg_name (i := 9) sc_l_due.nd rfl (.inl rfl)) pgs_nil)))) (fun _ _ _ _ _ => by exact (pts_one (PW.pt (pw_and (pt_cmpR op_gt (pv 9) pe_int (nomark _)) (pw_and1 (pt_cmpR (op_notIn_seqK (K := K) rfl) (pv 8) (pv 1) (by with_unfolding_all rfl))))))) (fun _ _ _ _ _ => by exact (pv 8)))))))
  pss_nil)))
 (pss_one (ps_set (i := 3) sc_l_due.nd rfl (.inl rfl) (pe_op op_add (pv 3) pe_int)))))
 (pss_cons (ps_setLc (i := 7) (own := [("_law_room", 4), ("_law_sign", 5), ("_law_weights_here", 6)]) (g := (gTup K 3 (gCons (gName 4) (gCons (gName 5) (gCons (gName 6) gNil))))) (tt := tYes) (by rfl) sc_l_due.nd rfl rfl (sw_true rfl rfl rfl (by decide +kernel)) (pi_list (pv 2)) (blkOk_by (own := [("_law_room", 4), ("_law_sign", 5), ("_law_weights_here", 6)]) (N := ["_law_steps", "_law_order", "_law_told", "_law_at", "_law_room", "_law_sign", "_law_weights_here", "_law_found", "_law_to", "_law_weight"]) (sc := defScope s_l_due) (by decide +kernel)) (fun _ _ _ _ _ => by exact (pg_tup (by rfl) (pgs_cons (pg_name (i := 4) sc_l_due.nd rfl (.inl rfl)) (pgs_cons (pg_name (i := 5) sc_l_due.nd rfl (.inl rfl)) (pgs_cons (pg_name (i := 6) sc_l_due.nd rfl (.inr rfl)) pgs_nil))))) (fun _ _ _ _ _ => by exact pts_nil) (fun _ _ _ _ _ => by exact (pe_tup (pa_cons (pv 4) (pa_cons (pv 5) (pa_cons (pe_call (ok_l_divided T) (hr.mono (by decide)) (by rfl) T.g_l_divided T.F_l_divided.kp T.b_l_divided .nil pass0 (pa_cons (by exact (pe_lc (own := [("_law_to", 8)]) (g := (gName 8)) (tt := tYes) (by rfl) sc_l_due.nd (pi_listK (K := K) rfl (pv 1)) (by exact blkOk_by (own := [("_law_to", 8)]) (by kernel_rfl)) (fun _ _ _ _ _ => by exact (pg_name (i := 8) sc_l_due.nd rfl (.inl rfl))) (fun _ _ _ _ _ => by exact pts_nil) (fun _ _ _ _ _ => by exact (pe_ix (ix_tupK (K := K) rfl) (pv 6) (pv 8) (fun _ _ => rfl))))) pa_nil)) pa_nil))))))
 (pss_one (ps_ret (pe_tup (pa_cons pe_str (pa_cons (pe_callB call_len_seq (by rfl) T.z_len (by decide +kernel) (pa_cons (pv 1) pa_nil)) (pa_cons (pe_callB (cr_sortS (units2 hr.units)) (by rfl) T.z_sorted (by decide +kernel) (pa_cons (pv 7) pa_nil)) pa_nil))))))))))), ?_⟩
    have mok := mok_of ok so
    obtain ⟨pre, fokF, cl⟩ := found_spec mok
    have f0 : 0 < (foundOf out m).length := pre.length_le
    have m1 := ok.m1
    have m12 := ok.m12
    have few := ok.few
    obtain ⟨o2, so2⟩ := sortedOf_ex (tr_ok mok fokF cl f0)
    have soT := trT_so ok so fokF cl f0 so2
    obtain ⟨srt, pS, eo⟩ := perm_back so.1.symm
    have upS : Sorted srt := ⟨by
      have := so.2.up
      rw [eo] at this
      exact (List.pairwise_map.mp this).imp fun h => h⟩
    have eF := found_raw ok so pS upS
    have q := fun H' v s i => q H' v o2 s i so2
    have tp := tol_perm ok pS fokF.nd
    have okT := trT_ok ok so fokF cl f0
    have wl : ∀ s ∈ srt, s.ws.length = m := fun s hs => (ok.all s (pS.mem_iff.mp hs)).wts.len
    have ls : srt.length < 60 := by rw [pS.length_eq]; exact few
    have clR : ∀ s ∈ srt, s.room ∈ foundOf out m → ∃ n ∈ (foundOf out m).map (fun t => s.ws.getD t 0), 0 < n := fun s hs hr => (okT.all _ (List.mem_map.mpr ⟨s, List.mem_filter.mpr ⟨pS.mem_iff.mp hs, decide_eq_true hr⟩, rfl⟩)).wts.pos
    generalize foundOf out m = F at *
    have fl := fokF.len
    refine ⟨by show 1 ≤ sizeLine; decide, fun pf nf => ⟨by show 0 ≤ sizeLine; decide, fun ph nh => ?_⟩⟩
    have s0 := same_upd (o := .lst [.int 0]) nf
    have e0 := @upd_same H pf (.lst [.int 0])
    generalize upd H pf (.lst [.int 0]) = H0 at *
    have sh := same_upd (o := .lst []) nh
    have eh := @upd_same H0 ph (.lst [])
    have nhH : H ph = none := none_of s0 nh
    have pfh : pf ≠ ph := fun z => by rw [← z, e0] at nh; cases nh
    have e0 := sh _ _ e0
    generalize upd H0 ph (.lst []) = H1 at *
    have s01 := s0.trans sh
    clear s0 sh nh nf
    refine ⟨fun c σ H' => ∃ (z4 z5 z6 z7 z8 z9 : Option V) (i : Nat) (f : List Nat) (pf : Addr) (vs : List V), σ = [some (.ref l), some (.ref pf), some (.ref ph), some (.int (i : Int)), z4, z5, z6, z7, z8, z9] ∧ c = m - i ∧ Same H H' ∧ H' pf = some (.lst (nts f)) ∧ pf ≠ ph ∧ H' ph = some (.lst vs) ∧ AllAre (IsStp H') vs (tolF srt F i) ∧ vs.length ≤ 60 * i ∧ FOk m f ∧ i ≤ f.length ∧ bfs srt (m + 1 - i) i f = F,
      ⟨_, none, none, none, none, none, none, 0, [0], pf, [], rfl, rfl, s01, e0, pfh, eh, .nil, Nat.le_refl _, ⟨by simp, fun r hr => ?_⟩, Nat.zero_le _, eF⟩, fun c σ H' hW => ?_⟩
    · rw [List.mem_singleton] at hr
      omega
    · obtain ⟨z4, z5, z6, z7, z8, z9, i, f, pf, vs, rfl, rfl, sH, ef, pfh, eh, ah, lh, fok, il, eb⟩ := hW
      have flf := fok.len
      refine ⟨_, rfl, _, rfl, pf, _, rfl, .inl (SqL.of ef), _, _, rfl, rfl, _, rfl, ite2 (fun h => ?_) (fun h => ?_)⟩
      · have hi : i < f.length := by
          have h' : (i : Int) < ((nts f).length : Nat) := of_decide_eq_true h
          rw [nts_len] at h'
          omega
        obtain ⟨r, hr'⟩ : ∃ r, f[i]? = some r := ⟨_, List.getElem?_eq_getElem hi⟩
        have preF : f <+: F := by rw [← eb]; exact bfs_pre srt _ _ _
        have rF : F.getD i 0 = r := by rw [List.getD_eq_getElem?_getD, pre_at preF hr']; rfl
        refine ⟨fun σ' H'' => ∃ (z4 z5 z6 z7 z8 z9 : Option V) (pf : Addr) (vs : List V), σ' = [some (.ref l), some (.ref pf), some (.ref ph), some (.int ((i : Int) + 1)), z4, z5, z6, z7, z8, z9] ∧ Same H H'' ∧ H'' pf = some (.lst (nts (scan r srt f))) ∧ pf ≠ ph ∧ H'' ph = some (.lst vs) ∧ AllAre (IsStp H'') vs (tolF srt F (i + 1)) ∧ vs.length ≤ 60 * (i + 1), fun σ' H'' h => ?_, ?_⟩
        · obtain ⟨z4, z5, z6, z7, z8, z9, pf, vs, rfl, sH', ef', pfh, eh', ah', lh'⟩ := h
          have fl' := (scan_pre r srt f).length_le
          refine ⟨m - (i + 1), by omega, _, _, _, _, _, _, i + 1, scan r srt f, pf, vs, rfl, rfl, sH', ef', pfh, eh', ah', lh', scan_ok fok wl, by omega, ?_⟩
          rw [← eb, show m + 1 - i = (m + 1 - (i + 1)) + 1 by omega, bfs_go hr']
        · refine ⟨_, rfl, at_nil ?_⟩
          refine sort_stpsB sH (sH _ _ hl) av few ok.once fun svs r0 out' np av' pm up => ?_
          have e := (sorted_uniq up upS (pm.trans pS.symm)).symm
          clear pm up
          subst e
          have sn := same_upd (o := .lst svs) np
          have hr0 : (upd H' r0 (.lst svs)) r0 = some (.lst svs) := upd_same
          have rf : r0 ≠ ph := fun z => by
            rw [z, eh] at np
            cases np
          have ef := sn _ _ ef
          have eh := sn _ _ eh
          have ah := ah.imp fun _ _ h => IsStp.mono h sn
          have sHn := sH.trans sn
          generalize upd H' r0 (.lst svs) = H2 at *
          refine ⟨r0, rfl, ⟨_, SqL.of hr0⟩, ?_⟩
          refine for_list (K := K) (a := r0) (xs := svs) (fun j σ H'' => ∃ (z4 z5 z6 z7 z8 z9 : Option V) (pf : Addr) (vs : List V), σ = [some (.ref l), some (.ref pf), some (.ref ph), some (.int (i : Int)), z4, z5, z6, z7, z8, z9] ∧ Same H H'' ∧ H'' r0 = some (.lst svs) ∧ H'' pf = some (.lst (nts (scan r (srt.take j) f))) ∧ pf ≠ ph ∧ H'' ph = some (.lst vs) ∧ AllAre (IsStp H'') vs (tolF srt F i ++ ((srt.take j).filter fun s => decide (s.room = r)).map fun s => (⟨i, s.sign, s.ws⟩ : Stp)) ∧ vs.length ≤ 60 * i + j)
            ⟨_, _, _, _, _, _, pf, vs, rfl, sHn, hr0, ef, pfh, eh, by rw [List.take_zero]; simpa using ah, lh⟩ (fun j σ H'' _ h => ?_) (fun j x σ H'' hx h => ?_) (fun σ H'' h => ?_)
          · obtain ⟨_, _, _, _, _, _, _, _, _, _, er', _⟩ := h
            exact SqL.of er'
          · obtain ⟨z4, z5, z6, z7, z8, z9, pf, vs, rfl, sH', er', ef', pfh, eh', ah', lh'⟩ := h
            obtain ⟨st, hst, t, wa, rfl, ht, hw⟩ := av'.at hx
            have o := ok.all st (pS.mem_iff.mp (List.mem_of_getElem? hst))
            have jl := (List.getElem?_eq_some_iff.mp hst).1
            have ht' := sH' _ _ ht
            have hw' := sH' _ _ hw
            have et : srt.take (j + 1) = srt.take j ++ [st] := by rw [List.take_add_one, hst]; rfl
            have es := scan_snoc r st (srt.take j) f
            rw [← et] at es
            have fok' : FOk m (scan r (srt.take j) f) := scan_ok fok fun s hs => wl s (List.mem_of_mem_take hs)
            have fl' := fok'.len
            have hr2 : (nts (scan r (srt.take j) f))[i]? = some (.int (r : Int)) := by
              rw [List.getElem?_map, pre_at (scan_pre r (srt.take j) f) hr']
              rfl
            refine ⟨t, _, rfl, .inl (.inl ht'), rfl, _, _, rfl, _, _, rfl, _, _, rfl, rfl, ?_⟩
            refine ⟨_, rfl, _, rfl, _, rfl, pf, _, (i : Int), _, rfl, rfl, SqL.of ef', atI_nat hr2, rfl, _, rfl, ?_⟩
            by_cases hrm : st.room = r
            · rw [if_pos hrm, addNew_nd _ _ (tos_nd _), tos_filter] at es
              generalize scan r (srt.take j) f = g at *
              rw [hrm, decide_eq_true rfl]
              refine iteT ⟨_, rfl, .inl ⟨rfl, _, SqL.of eh'⟩, _, rfl, _, rfl, _, rfl, by show 3 ≤ sizeLine; decide, fun t2 nt2 => ?_⟩
              have sn2 := same_upd (o := .tup [.int (i : Nat), .str st.sign, .ref wa]) nt2
              have ht2 : (upd H'' t2 (.tup [.int (i : Nat), .str st.sign, .ref wa])) t2 = some (.tup [.int (i : Nat), .str st.sign, .ref wa]) := upd_same
              have eh2 := sn2 _ _ eh'
              have ef2 := sn2 _ _ ef'
              have er2 := sn2 _ _ er'
              have hw2 := sn2 _ _ hw'
              have sH2 := sH'.trans sn2
              have ah2 := ah'.imp fun _ _ h => IsStp.mono h sn2
              clear sn2 ht' hw' eh' ef' er' sH' ah' nt2
              generalize upd H'' t2 (.tup [.int (i : Nat), .str st.sign, .ref wa]) = G at *
              refine at_nil ⟨ph, vs, _, rfl, rfl, eh2, small1000 (by omega), ?_⟩
              have tl : TS G (upd G ph (.lst (vs ++ [.ref t2]))) := TS.lst eh2
              have ah3 := AllAre.snoc (ah2.imp fun _ _ h => IsStp.ts h tl) (⟨t2, wa, rfl, tl _ _ ht2, tl _ _ hw2⟩ : IsStp (upd G ph (.lst (vs ++ [.ref t2]))) (.ref t2) ⟨i, st.sign, st.ws⟩)
              have hw3 := tl _ _ hw2
              have sH3 := same_over (o := .lst (vs ++ [.ref t2])) sH2 nhH
              have ef3 : (upd G ph (.lst (vs ++ [.ref t2]))) pf = some (.lst (nts g)) := by rw [upd_ne pfh]; exact ef2
              have er3 : (upd G ph (.lst (vs ++ [.ref t2]))) r0 = some (.lst svs) := by rw [upd_ne rf]; exact er2
              have eh3 : (upd G ph (.lst (vs ++ [.ref t2]))) ph = some (.lst (vs ++ [.ref t2])) := upd_same
              have lh3 : (vs ++ [V.ref t2]).length ≤ 60 * i + (j + 1) := by rw [List.length_append, List.length_singleton]; omega
              have et3 : tolF srt F i ++ ((srt.take (j + 1)).filter fun s => decide (s.room = r)).map (fun s => (⟨i, s.sign, s.ws⟩ : Stp)) = (tolF srt F i ++ ((srt.take j).filter fun s => decide (s.room = r)).map fun s => (⟨i, s.sign, s.ws⟩ : Stp)) ++ [⟨i, st.sign, st.ws⟩] := by
                rw [et, List.filter_append, List.map_append, List.append_assoc]
                congr 1
                congr 1
                rw [List.filter_cons_of_pos (by rw [hrm]; exact decide_eq_true rfl)]
                rfl
              rw [← et3] at ah3
              generalize vs ++ [V.ref t2] = vs3 at *
              clear sH2 ah2 hw2 er2 ef2 eh2 tl ht2
              generalize upd G ph (.lst vs3) = G3 at *
              refine ⟨_, rfl, _, rfl, wa, _, rfl, .inl (.inl hw3), fun D nD => lc_filtW (walk_enumT (K := K) (a := wa) (xs := nts st.ws)) (fun i => decide (0 < st.ws.getD i 0) && !decide (i ∈ g)) (fun i y _ => y = .int (i : Nat)) (fun _ _ _ _ _ h => h) nD (fun H3 s3 => .inl (.inl (s3 _ _ hw3))) (by rw [nts_len, o.wts.len]; omega) (fun k x H3 H4 kt kf hk s3 eD y hkt hkf => ?_) (fun H3 ys s3 e3 a3 => ?_)⟩
              · obtain ⟨tt, x1, y1, rfl, nt, rfl, ex, ey⟩ := y
                cases ex
                have ey : (nts st.ws)[k]? = some y1 := ey
                obtain ⟨n, hn, rfl⟩ := nts_at ey
                have eg : st.ws.getD k 0 = n := by rw [List.getD_eq_getElem?_getD, hn]; rfl
                have st4 := same_upd (o := .tup [.int (k : Nat), .int (n : Int)]) nt
                refine ⟨tt, _, rfl, .inl (.inl upd_same), rfl, _, _, rfl, _, _, rfl, rfl, rfl, ?_⟩
                refine ⟨_, rfl, _, _, rfl, rfl, _, rfl, ?_⟩
                by_cases h0 : 0 < n
                · have ef4 := st4 _ _ (hid_same _ _ (s3 _ _ ef3))
                  rw [decide_eq_true (show (0 : Int) < (n : Int) by omega)]
                  refine iteT ⟨_, rfl, _, rfl, pf, _, rfl, .inl (SqL.of ef4), rfl, nts_flat, _, rfl, ?_⟩
                  rw [inV_nts]
                  by_cases hm : k ∈ g
                  · rw [decide_eq_true hm]
                    exact iteF (hkf (by rw [eg, decide_eq_true hm, Bool.not_true, Bool.and_false]) _ st4)
                  · rw [decide_eq_false hm]
                    exact iteT ⟨_, rfl, hkt (by rw [eg, decide_eq_false hm, decide_eq_true h0]; rfl) _ _ st4 rfl⟩
                · rw [decide_eq_false (show ¬ (0 : Int) < (n : Int) by omega)]
                  exact iteF (iteF (hkf (by rw [eg, decide_eq_false h0]; rfl) _ st4))
              · have ey : ys = nts ((List.range st.ws.length).filter fun i => decide (0 < st.ws.getD i 0) && !decide (i ∈ g)) := by
                  rw [nts_len] at a3
                  exact are_nts a3
                have s3' := s3.trans hid_same
                have ef3 := s3' _ _ ef3
                have ll : ys.length ≤ 12 := by
                  rw [ey, nts_len]
                  refine Nat.le_trans (List.length_filter_le _ _) ?_
                  rw [List.length_range, o.wts.len]
                  omega
                refine ⟨pf, D, _, _, rfl, rfl, ef3, e3, ?_, fun p np => ?_⟩
                · rw [nts_len]
                  exact Nat.le_of_lt (small1000 (by omega))
                have s4 := same_upd (o := .lst (nts g ++ ys)) np
                have pph : p ≠ ph := fun z => by
                  rw [z, s3' _ _ eh3] at np
                  cases np
                refine ⟨_, _, _, _, _, _, p, vs3, rfl, (sH3.trans s3').trans s4, s4 _ _ (s3' _ _ er3), ?_, pph, s4 _ _ (s3' _ _ eh3), ah3.imp fun _ _ h => IsStp.mono h (s3'.trans s4), lh3⟩
                rw [upd_same, es, ey, nts, nts, nts, List.map_append]
            · rw [if_neg hrm] at es
              rw [decide_eq_false (fun z => hrm (by have := V.int.inj z; omega))]
              refine iteF ⟨_, _, _, _, _, _, pf, vs, rfl, sH', er', ?_, pfh, eh', ?_, by omega⟩
              · rw [es]
                exact ef'
              · rw [et, List.filter_append, List.filter_cons_of_neg (by rw [decide_eq_true_iff]; exact hrm), List.filter_nil, List.append_nil]
                exact ah'
          · obtain ⟨z4, z5, z6, z7, z8, z9, pf, vs, rfl, sH', er', ef', pfh, eh', ah', lh'⟩ := h
            rw [av'.1, List.take_length] at ef' ah'
            rw [av'.1] at lh'
            refine ⟨_, rfl, _, _, rfl, rfl, ?_⟩
            refine ⟨_, _, _, _, _, _, pf, vs, rfl, sH', ef', pfh, eh', ?_, by omega⟩
            unfold tolF
            rw [List.range_succ, List.flatMap_append, List.flatMap_cons, List.flatMap_nil, List.append_nil, rF]
            exact ah'
      · have hi : f.length ≤ i := by
          have h' : ¬ (i : Int) < ((nts f).length : Nat) := fun z => h (decide_eq_true z)
          rw [nts_len] at h'
          omega
        rw [bfs_end hi] at eb
        rw [eb] at ef il hi flf
        have ei : i = F.length := Nat.le_antisymm il hi
        rw [ei] at ah lh
        clear fok il hi eb
        have la : vs.length = (tolF srt F F.length).length := ah.1
        have fewT := okT.few
        have l2 : (tolF srt F F.length).length = (tr F ss).length := by
          have := tp.length_eq
          rwa [List.length_map, List.length_map] at this
        have onceT : (((tolF srt F F.length).map (trW F)).map Stp.key).Nodup := by
          refine (tp.map Stp.key).nodup_iff.mpr ?_
          rw [List.map_map]
          exact okT.once
        have Fm : ∀ (k : Nat) (s : Stp), (tolF srt F F.length)[k]? = some s → ∃ u ∈ ss, u.ws = s.ws ∧ u.room ∈ F ∧ s.sign = u.sign := fun k s hs => by
          obtain ⟨k2, u, hk2, hu, er, rfl⟩ := tol_mem.mp (List.mem_of_getElem? hs)
          refine ⟨u, pS.mem_iff.mp hu, rfl, ?_, rfl⟩
          rw [er, List.getD_eq_getElem?_getD, List.getElem?_eq_getElem hk2]
          exact List.getElem_mem _
        refine ⟨_, rfl, ph, rfl, ⟨_, SqL.of eh⟩, fun D1 nD1 => lc_allW (walk_list (K := K) (a := ph) (xs := vs)) (fun j y G => ∃ s, (tolF srt F F.length)[j]? = some s ∧ IsStp G y (trW F s)) (fun _ _ _ _ s ⟨u, h1, h2⟩ => ⟨u, h1, IsStp.mono h2 s⟩) nD1 (fun G s => SqL.of (s _ _ eh)) (by omega) (fun j x H5 H6 kk hj s5 eD y hk => ?_) (fun H5 ys s5 e5 l5 r5 => ?_)⟩
        · obtain ⟨rfl, hv⟩ := y
          obtain ⟨s, hs, t, wa, rfl, ht, hw⟩ := ah.at hv
          obtain ⟨u, hu, ews, hur, esg⟩ := Fm j s hs
          have ou := ok.all u hu
          have s5' := s5.trans hid_same
          have ht5 := s5' _ _ ht
          have hw5 := s5' _ _ hw
          have ef5 := s5' _ _ ef
          refine ⟨t, _, rfl, .inl (.inl ht5), rfl, _, _, rfl, _, _, rfl, _, _, rfl, rfl, rfl, ?_⟩
          refine ⟨_, rfl, _, rfl, _, rfl, pf, rfl, ⟨_, SqL.of ef5⟩, fun D3 nD3 => lc_allW (walk_list (K := K) (a := pf) (xs := nts F)) (fun i y _ => ∃ r, F[i]? = some r ∧ y = .int (s.ws.getD r 0 : Nat)) (fun _ _ _ _ _ h => h) nD3 (fun H' s => SqL.of (s _ _ ef5)) (by rw [nts_len]; omega) (fun j x H7 H8 kk hj s7 eD7 y hk => ?_) (fun H7 ys s7 e7 l7 r7 => ?_)⟩
          · obtain ⟨rfl, hv'⟩ := y
            obtain ⟨r, hr', rfl⟩ := nts_at hv'
            have rl : r < s.ws.length := by
              rw [← ews, ou.wts.len]
              exact fokF.lt r (List.mem_of_getElem? hr')
            have hw7 := hid_same _ _ (s7 _ _ hw5)
            refine ⟨rfl, _, rfl, _, rfl, wa, _, (r : Int), .int (s.ws.getD r 0 : Nat), rfl, rfl, .inl (.inl hw7), atI_nat ?_, hk _ _ (Same.refl _) ⟨r, hr', rfl⟩⟩
            rw [List.getElem?_map, List.getElem?_eq_getElem rl, getD_at (List.getElem?_eq_getElem rl)]
            rfl
          · have ey : ys = nts (F.map fun t => s.ws.getD t 0) := by
              refine List.ext_getElem? fun j => ?_
              show _ = ((F.map _).map _)[j]?
              rw [nts_len] at l7
              by_cases hj : j < ys.length
              · obtain ⟨r, hr', e⟩ := r7 j _ (List.getElem?_eq_getElem hj)
                rw [List.getElem?_eq_getElem hj, e, List.getElem?_map, List.getElem?_map, hr']
                rfl
              · rw [List.getElem?_eq_none (by omega), List.getElem?_eq_none (by rw [List.length_map, List.length_map]; omega)]
            rw [ey] at e7
            have s7' := s7.trans hid_same
            refine at_nil ⟨D3, F.map fun t => s.ws.getD t 0, rfl, e7, ?_, fun n hn => ?_, by rw [List.length_map]; omega, fun H9 r9 s9 e9 => ⟨by show 3 ≤ sizeLine; decide, fun t2 nt2 => ?_⟩⟩
            · have := clR u (pS.mem_iff.mpr hu) hur
              rwa [ews] at this
            · obtain ⟨t, _, rfl⟩ := List.mem_map.mp hn
              rw [List.getD_eq_getElem?_getD]
              cases e : s.ws[t]? with
              | none => exact Nat.pow_pos (by decide)
              | some n => exact Nat.lt_of_lt_of_le (ou.wts.bd n (by rw [ews]; exact List.mem_of_getElem? e)) (by decide)
            · have st2 := same_upd (o := .tup [.int (s.room : Nat), .str s.sign, .ref r9]) nt2
              have sA := (s7'.trans s9).trans st2
              refine hk _ _ sA ⟨s, hs, IsStp.hidL ?_ ⟨t2, r9, rfl, upd_same, st2 _ _ e9⟩⟩
              obtain ⟨zs, ez⟩ := eD
              exact ⟨zs, sA _ _ ez⟩
        · have aF : AllAre (IsStp H5) ys ((tolF srt F F.length).map (trW F)) := by
            refine ⟨by rw [List.length_map]; omega, fun j y s hy hs => ?_⟩
            obtain ⟨u, hu, h⟩ := r5 j y hy
            rw [List.getElem?_map, hu] at hs
            cases hs
            exact IsStp.mono h hid_same
          have s5' := s5.trans hid_same
          have ef5 := s5' _ _ ef
          refine ⟨_, rfl, pf, _, rfl, .inl (SqL.of ef5), _, rfl, at_nil (sort_stps e5 aF (by rw [List.length_map]; omega) onceT fun zs p out' np aO pO up => ⟨by show 3 ≤ sizeLine; decide, fun t nt => ?_⟩)⟩
          have eo2 : out' = o2 := sorted_uniq up soT.2 ((pO.trans tp).trans soT.1.symm)
          subst eo2
          have sp := same_upd (o := .lst zs) np
          have s2 := same_upd (o := .tup [.str "told", .int ((nts F).length : Nat), .ref p]) nt
          refine q _ _ (((sH.trans s5').trans sp).trans s2) ⟨t, p, zs, rfl, ?_, s2 _ _ upd_same, aO.imp fun _ _ h => IsStp.mono h s2⟩
          rw [upd_same, nts_len]
end
end Fb
namespace Fb
open PySem PySem.Spec PyProof.Rows L2
section
variable {P : Program} {w : World} {K : PySem.W.Frag} {mg : Str → Option Value} {base : Heap}
theorem nm_strOk {x : Str} (h : NmOk x) : PyData.strOk x = true := by
  show x.cps.all _ = true
  rw [← Array.all_toList, List.all_eq_true]
  intro c hc
  have h1 : ∀ c ∈ letters, decide (c < 0x110000) = true := by decide +kernel
  exact h1 c (h.all c hc)
structure GD (n w : Nat) (d : PyData) : Prop where
  cl : d.canLay0 = true
  sh : d.showable = true
  nd : d.hasDict = false
  i13 : d.intsShort 13 = true
  dp : d.depth ≤ n
  wt : d.weight ≤ w
theorem GD.all {n w : Nat} : ∀ {ds : List PyData}, (∀ d ∈ ds, GD n w d) → PyData.canLayAll0 ds = true ∧ PyData.showableAll ds = true ∧ PyData.hasDictAll ds = false ∧ PyData.intsShortAll 13 ds = true ∧ PyData.depthAll ds ≤ n ∧ PyData.weightAll ds ≤ ds.length * (w + 1)
  | [], _ => ⟨rfl, rfl, rfl, rfl, Nat.zero_le _, Nat.zero_le _⟩
  | d :: ds, h => by
    obtain ⟨a1, a2, a3, a4, a5, a6⟩ := GD.all fun x hx => h x (List.mem_cons_of_mem _ hx)
    have g := h d List.mem_cons_self
    have g5 := g.dp
    have g6 := g.wt
    refine ⟨by simp [PyData.canLayAll0, a1, g.cl], by simp [PyData.showableAll, a2, g.sh], by simp [PyData.hasDictAll, a3, g.nd], by simp [PyData.intsShortAll, a4, g.i13], ?_, ?_⟩
    · simp only [PyData.depthAll]
      omega
    · simp only [PyData.weightAll, List.length_cons, Nat.succ_mul]
      omega
theorem GD.list {n w k : Nat} {ds : List PyData} (h : ∀ d ∈ ds, GD n w d) (l : ds.length ≤ k) : GD (n + 1) (k * (w + 1)) (.list ds) := by
  obtain ⟨a1, a2, a3, a4, a5, a6⟩ := GD.all h
  have := Nat.mul_le_mul_right (w + 1) l
  refine ⟨by simp [PyData.canLay0, a1], by simp [PyData.showable, a2], by simp [PyData.hasDict, a3], by simp [PyData.intsShort, a4], ?_, ?_⟩
  · simp only [PyData.depth]
    omega
  · simp only [PyData.weight]
    omega
theorem GD.tup {n w k : Nat} {ds : List PyData} (h : ∀ d ∈ ds, GD n w d) (l : ds.length ≤ k) : GD (n + 1) (k * (w + 1)) (.tuple ds) := by
  obtain ⟨a1, a2, a3, a4, a5, a6⟩ := GD.all h
  have := Nat.mul_le_mul_right (w + 1) l
  refine ⟨by simp [PyData.canLay0, a1], by simp [PyData.showable, a2], by simp [PyData.hasDict, a3], by simp [PyData.intsShort, a4], ?_, ?_⟩
  · simp only [PyData.depth]
    omega
  · simp only [PyData.weight]
    omega
theorem GD.mono {n n' w w' : Nat} {d : PyData} (h : GD n w d) (hn : n ≤ n') (hw : w ≤ w') : GD n' w' d := ⟨h.cl, h.sh, h.nd, h.i13, Nat.le_trans h.dp hn, Nat.le_trans h.wt hw⟩
theorem gd_int {x : Nat} (h : x < 2 ^ 30) : GD 0 31 (.int (x : Int)) := by
  have lg : x.log2 ≤ 30 := by
    by_cases c : x = 0
    · subst c
      decide
    · have := (Nat.log2_lt c).mpr h
      omega
  refine ⟨by simp [PyData.canLay0], ?_, by simp [PyData.hasDict], ?_, by simp [PyData.depth], ?_⟩
  · simp only [PyData.showable, Int.natAbs_natCast, decide_eq_true_eq]
    omega
  · simp only [PyData.intsShort, decide_eq_true_eq]
    refine PyData.shown_int_le ?_
    rw [Int.natAbs_natCast]
    exact Nat.lt_of_lt_of_le h (by decide)
  · simp only [PyData.weight, Int.natAbs_natCast]
    split
    · exact Nat.zero_le _
    · omega
theorem gd_str {z : Str} (h : NmOk z) : GD 0 8 (.str z) :=
  ⟨by simp [PyData.canLay0, nm_strOk h], by simp [PyData.showable], by simp [PyData.hasDict], by simp [PyData.intsShort], by simp [PyData.depth], by simp only [PyData.weight]; exact h.l8⟩
theorem rep_gd {H : Hp} {v : V} {d : PyData} {n w : Nat} {Q : VK} (hd : Dp K H v d) (g : GD n w d) (hn : n ≤ 60) (hw : w ≤ 2 ^ 20) (q : Q (.str d.shown) H) : rRepr K [v] H Q :=
  ⟨v, rfl, .inl ⟨d, hd, g.sh, g.nd, Nat.le_trans g.dp hn, PyData.shown_fits (by decide) (by decide) (PyData.leavesShort_of_canLay0 13 d g.cl g.i13) (Nat.le_trans g.wt hw), q⟩⟩
def stpD (s : Stp) : PyData := .tuple [.int (s.room : Int), .str s.sign, .tuple (s.ws.map fun (n : Nat) => PyData.int (n : Int))]
theorem dpAll_nts {H : Hp} : ∀ ws : List Nat, DpAll K H (nts ws) (ws.map fun (n : Nat) => PyData.int (n : Int))
  | [] => .nil
  | n :: ws => .cons (.int _) (dpAll_nts ws)
theorem dp_stp {H : Hp} {v : V} {s : Stp} (h : IsStp H v s) : Dp K H v (stpD s) := by
  obtain ⟨t, wa, rfl, h1, h2⟩ := h
  exact .tup (.inl (.inl h1)) (.cons (.int _) (.cons (.str _) (.cons (.tup (.inl (.inl h2)) (dpAll_nts s.ws)) .nil)))
theorem dpAll_stps {H : Hp} : ∀ {vs : List V} {ss : List Stp}, AllAre (IsStp H) vs ss → DpAll K H vs (ss.map stpD)
  | [], [], _ => .nil
  | v :: vs, s :: ss, h => .cons (dp_stp (h.2 0 v s rfl rfl)) (dpAll_stps ⟨by simpa using h.1, fun i a b h1 h2 => h.2 (i + 1) a b (by simpa using h1) (by simpa using h2)⟩)
  | [], _ :: _, h => by simp [AllAre] at h
  | _ :: _, [], h => by simp [AllAre] at h
theorem gd_ints {l : List Nat} {k : Nat} (h : ∀ x ∈ l, x < 2 ^ 30) (hk : l.length ≤ k) : GD 1 (k * 32) (.tuple (l.map fun (n : Nat) => PyData.int (n : Int))) :=
  GD.tup (n := 0) (w := 31) (fun d hd => by
    obtain ⟨x, hx, rfl⟩ := List.mem_map.mp hd
    exact gd_int (h x hx)) (by rw [List.length_map]; exact hk)
theorem le_sum' : ∀ {l : List Nat} {x : Nat}, x ∈ l → x ≤ l.sum
  | y :: l, x, h => by
    rw [List.sum_cons]
    rcases List.mem_cons.mp h with rfl | h
    · omega
    · have := le_sum' h
      omega
theorem gd_stps {m : Nat} {out : List Stp} (ok : StpsOk m out) (sm : ∀ s ∈ out, s.ws.sum < 2 ^ 30) : GD 3 (60 * 1201) (.list (out.map stpD)) := by
  have m12 := ok.m12
  have few := ok.few
  refine GD.list (n := 2) (w := 1200) (fun d hd => ?_) (by rw [List.length_map]; omega)
  obtain ⟨s, hs, rfl⟩ := List.mem_map.mp hd
  have o := ok.all s hs
  have room := o.room
  have gw : GD 1 (12 * 32) (.tuple (s.ws.map fun (n : Nat) => PyData.int (n : Int))) := gd_ints (fun x hx => Nat.lt_of_le_of_lt (le_sum' hx) (sm s hs)) (by rw [o.wts.len]; exact m12)
  refine (GD.tup (n := 1) (w := 384) (k := 3) (fun d hd => ?_) (Nat.le_refl _)).mono (Nat.le_refl _) (by decide)
  rcases (by simpa using hd : d = .int (s.room : Int) ∨ d = .str s.sign ∨ d = .tuple (s.ws.map fun (n : Nat) => PyData.int (n : Int))) with rfl | rfl | rfl
  · exact (gd_int (Nat.lt_of_lt_of_le (show s.room < 12 by omega) (by decide))).mono (by decide) (by decide)
  · exact (gd_str o.sign).mono (by decide) (by decide)
  · exact gw
def prD (p : Str × Str) : PyData := .tuple [.str p.1, .str p.2]
def prsD (ps : List (Str × Str)) : PyData := .list (ps.map prD)
theorem dpAll_prs {H : Hp} : ∀ {vs : List V} {ps : List (Str × Str)}, AllAre (IsPq H) vs ps → DpAll K H vs (ps.map prD)
  | [], [], _ => .nil
  | v :: vs, p :: ps, h => by
    obtain ⟨t, rfl, ht⟩ := h.2 0 v p rfl rfl
    exact .cons (.tup (.inl (.inl ht)) (.cons (.str _) (.cons (.str _) .nil))) (dpAll_prs ⟨by simpa using h.1, fun i a b h1 h2 => h.2 (i + 1) a b (by simpa using h1) (by simpa using h2)⟩)
  | [], _ :: _, h => by simp [AllAre] at h
  | _ :: _, [], h => by simp [AllAre] at h
theorem dp_prs {H : Hp} {v : V} {ps : List (Str × Str)} (h : IsPqs H v ps) : Dp K H v (prsD ps) := by
  obtain ⟨a, xs, rfl, ha, av⟩ := h
  exact .lst (SqL.of ha) (dpAll_prs av)
theorem gd_prs {ps : List (Str × Str)} (ok : PrsOk ps) : GD 2 1200 (prsD ps) := by
  refine (GD.list (n := 1) (w := 18) (k := 60) (fun d hd => ?_) (by rw [List.length_map]; exact ok.few)).mono (Nat.le_refl _) (by decide)
  obtain ⟨p, hp, rfl⟩ := List.mem_map.mp hd
  obtain ⟨n1, n2⟩ := ok.ok p hp
  refine (GD.tup (n := 0) (w := 8) (k := 2) (fun d hd => ?_) (Nat.le_refl _)).mono (Nat.le_refl _) (by decide)
  rcases (by simpa using hd : d = .str p.1 ∨ d = .str p.2) with rfl | rfl
  · exact gd_str n1
  · exact gd_str n2
theorem rep_prs {H : Hp} {v : V} {ps : List (Str × Str)} {Q : VK} (h : IsPqs H v ps) (ok : PrsOk ps) (q : Q (.str (prsD ps).shown) H) : rRepr K [v] H Q := rep_gd (dp_prs h) (gd_prs ok) (by decide) (by decide) q
end
end Fb
namespace Fb
open PySem PySem.Spec PyProof.Rows L2
section
variable {P : Program} {w : World} {K : PySem.W.Frag} {mg : Str → Option Value} {base : Heap}
/-- what merging pairs one by one tells of a key -/
theorem merge_ren {ps : List (Str × Str)} : ∀ (kvs : List (L2.Key × V)), (∀ z : Str, valV (mergeK kvs (ps.map fun p => ((.inr p.1 : L2.Key), V.str p.2))) (.inr z) = ((renO ps z).map V.str).or (valV kvs (.inr z))) := by
  induction ps with
  | nil => exact fun kvs z => rfl
  | cons p ps ih =>
    intro kvs z
    show valV (mergeK (putK kvs (.inr p.1) (.str p.2)) (ps.map _)) (.inr z) = _
    rw [ih, valV_put]
    have e : renO (p :: ps) z = (renO ps z).or (if p.1 = z then some p.2 else none) := by
      unfold renO
      rw [List.reverse_cons, List.find?_append]
      cases c : List.find? (fun p => decide (p.1 = z)) ps.reverse with
      | some q => rfl
      | none =>
        show ((none : Option (Str × Str)).or (List.find? (fun p => decide (p.1 = z)) [p])).map (·.2) = _
        rw [Option.none_or, Option.map_none, Option.none_or]
        by_cases h : p.1 = z
        · simp [h]
        · simp [h]
    rw [e]
    cases renO ps z with
    | some q => rfl
    | none =>
      by_cases h : p.1 = z
      · rw [if_pos h, if_pos (by rw [h])]
        rfl
      · rw [if_neg h, if_neg (fun e => h (Sum.inr.inj e).symm)]
        rfl
theorem un64 {k : Nat} {A : Around} (hr : Room k A) : A.units + 64 < cLine := by
  have := hr.un
  omega
theorem pq_refs {H : Hp} : ∀ {xs : List V} {ps : List (Str × Str)}, AllAre (IsPq H) xs ps → ∃ as : List Addr, xs = as.map V.ref ∧ Paired (fun p kv => SqT K H p [kV kv.1, kv.2]) as (ps.map fun p => ((.inr p.1 : L2.Key), V.str p.2))
  | [], [], _ => ⟨[], rfl, .nil⟩
  | v :: vs, p :: ps, h => by
    obtain ⟨t, rfl, ht⟩ := h.2 0 v p rfl rfl
    obtain ⟨as, e, pr⟩ := pq_refs (xs := vs) (ps := ps) ⟨by simpa using h.1, fun i a b h1 h2 => h.2 (i + 1) a b (by simpa using h1) (by simpa using h2)⟩
    exact ⟨t :: as, by rw [e]; rfl, .cons (.inl (.inl ht)) pr⟩
  | [], _ :: _, h => by simp [AllAre] at h
  | _ :: _, [], h => by simp [AllAre] at h
theorem set_tt {H : Hp} {D : Addr} {zs : List Str} {Q : VK} (e : H D = some (.lst (zs.map V.str))) (few : zs.length ≤ 60) (q : ∀ H' p L, Same H H' → H' p = some (TSetO P w p L) → L.length ≤ zs.length → L.Nodup → (∀ x, x ∈ L ↔ x ∈ zs) → Q (.ref p) H') : rSetT K P w [.ref D] H Q :=
  ⟨D, zs, rfl, SqL.of e, Nat.lt_of_lt_of_le (show zs.length + 1 < 64 by omega) (by decide), fun _ L n ll nL mL => q _ _ L (same_upd n) upd_same ll nL mL⟩
theorem lt_nd {zs L : List Str} (nL : L.Nodup) (mL : ∀ x, x ∈ L ↔ x ∈ zs) (ll : L.length ≤ zs.length) : decide ((L.length : Int) < (zs.length : Int)) = !decide zs.Nodup := by
  have h := len_eq_nd nL mL
  rw [← h]
  by_cases c : L.length = zs.length
  · rw [decide_eq_false (by omega), c, decide_eq_true rfl]
    rfl
  · rw [decide_eq_true (by omega), decide_eq_false fun z => c (by have := V.int.inj z; omega)]
    rfl
def spRenamed : Sp := fun vs H Q _ => ∃ (v : V) (l : Addr) (ps : List (Str × Str)) (m : Nat) (ss : List Stp) (xs : List V), vs = [v, .ref l] ∧ IsPqs H v ps ∧ PrsOk ps ∧ H l = some (.lst xs) ∧ AllAre (IsStp H) xs ss ∧ StpsOk m ss ∧
  (InjS ps ss → ∀ H' u o1 o2, Same H H' → SortedOf (ss.map (renS ps)) o1 → IsTold H' u (foundOf o1 m).length o2 → SortedOf (tr (foundOf o1 m) o1) o2 → Q u H') ∧
  (¬ InjS ps ss → ∀ H' t, Same H H' → H' t = some (.tup [.str "sign", .str (prsD ps).shown, .bl true]) → Q (.ref t) H')
set_option maxHeartbeats 1600000 in
theorem ok_l_renamed (T : Txt K mg) : FnOkG P w K mg base CX0 3 T.f_l_renamed T.d_l_renamed ["_law_pairs_here", "_law_steps"] spRenamed := by
  refine Fb.Fun.okG T.F_l_renamed sc_l_renamed (fun vs H Q E h => ?_) (fun cdv A outer s H vs Q E gd hr h => ?_)
  · obtain ⟨v, l, ps, m, ss, xs, rfl, _⟩ := h
    rfl
  · obtain ⟨v, l, ps, m, ss, xs, rfl, ip, pok, hl, av, ok, q, qe⟩ := h
    refine ⟨_, (pss_cons (ps_set (i := 2) sc_l_renamed.nd rfl (.inr rfl) (pe_callTy (call_dictP rfl) (by rfl) T.z_dict (by decide +kernel) (pa_cons (pv 0) pa_nil)))
 (pss_cons (ps_set (i := 3) sc_l_renamed.nd rfl (.inl rfl) (pe_callB (Fb.cr_sortT rfl) (by rfl) T.z_sorted (by decide +kernel) (pa_cons (pe_callTy (call_setT rfl) (by rfl) T.z_set (by decide +kernel) (pa_cons (pe_lc (own := [("_law_room", 5), ("_law_sign", 6), ("_law_weights_here", 7)]) (g := (gTup K 3 (gCons (gName 5) (gCons (gName 6) (gCons (gName 7) gNil))))) (tt := tYes) (by rfl) sc_l_renamed.nd (pi_list (pv 1)) (blkOk_by (own := [("_law_room", 5), ("_law_sign", 6), ("_law_weights_here", 7)]) (N := ["_law_pairs_here", "_law_steps", "_law_anew", "_law_used", "_law_called", "_law_room", "_law_sign", "_law_weights_here"]) (sc := defScope s_l_renamed) (by decide +kernel)) (fun _ _ _ _ _ => by exact (pg_tup (by rfl) (pgs_cons (pg_name (i := 5) sc_l_renamed.nd rfl (.inl rfl)) (pgs_cons (pg_name (i := 6) sc_l_renamed.nd rfl (.inl rfl)) (pgs_cons (pg_name (i := 7) sc_l_renamed.nd rfl (.inl rfl)) pgs_nil))))) (fun _ _ _ _ _ => by exact pts_nil) (fun _ _ _ _ _ => by exact (pv 6))) pa_nil)) pa_nil)))
 (pss_cons (ps_setLc (i := 4) (own := [("_law_sign", 6)]) (g := (gName 6)) (tt := tYes) (by rfl) sc_l_renamed.nd rfl rfl (sw_true rfl rfl rfl (by decide +kernel)) (pi_list (pv 3)) (blkOk_by (own := [("_law_sign", 6)]) (N := ["_law_pairs_here", "_law_steps", "_law_anew", "_law_used", "_law_called", "_law_room", "_law_sign", "_law_weights_here"]) (sc := defScope s_l_renamed) (by decide +kernel)) (fun _ _ _ _ _ => by exact (pg_name (i := 6) sc_l_renamed.nd rfl (.inl rfl))) (fun _ _ _ _ _ => by exact pts_nil) (fun _ _ _ _ _ => by exact (pe_dget2 (units1 hr.units) (pv 2) (pv 6) (pv 6) ⟨rfl, rfl, rfl, rfl⟩)))
 (pss_cons (ps_if (pt_cmpR op_lt (pe_callB call_lenT (by rfl) T.z_len (by decide +kernel) (pa_cons (pe_callTy (call_setT rfl) (by rfl) T.z_set (by decide +kernel) (pa_cons (pv 4) pa_nil)) pa_nil)) (pe_callB call_len_seq (by rfl) T.z_len (by decide +kernel) (pa_cons (pv 4) pa_nil)) (nomark _))
  (pss_one (ps_ret (pe_tup (pa_cons pe_str (pa_cons (pe_callB (call_repr gd (un64 hr)) (by rfl) T.z_repr (by decide +kernel) (pa_cons (pv 0) pa_nil)) (pa_cons pe_bl pa_nil))))))
  pss_nil)
 (pss_one (ps_ret (pe_call (ok_l_due T) (hr.mono (by decide)) (by rfl) T.g_l_due T.F_l_due.kp T.b_l_due .nil pass0 (pa_cons (pe_lc (own := [("_law_room", 5), ("_law_sign", 6), ("_law_weights_here", 7)]) (g := (gTup K 3 (gCons (gName 5) (gCons (gName 6) (gCons (gName 7) gNil))))) (tt := tYes) (by rfl) sc_l_renamed.nd (pi_list (pv 1)) (blkOk_by (own := [("_law_room", 5), ("_law_sign", 6), ("_law_weights_here", 7)]) (N := ["_law_pairs_here", "_law_steps", "_law_anew", "_law_used", "_law_called", "_law_room", "_law_sign", "_law_weights_here"]) (sc := defScope s_l_renamed) (by decide +kernel)) (fun _ _ _ _ _ => by exact (pg_tup (by rfl) (pgs_cons (pg_name (i := 5) sc_l_renamed.nd rfl (.inl rfl)) (pgs_cons (pg_name (i := 6) sc_l_renamed.nd rfl (.inl rfl)) (pgs_cons (pg_name (i := 7) sc_l_renamed.nd rfl (.inl rfl)) pgs_nil))))) (fun _ _ _ _ _ => by exact pts_nil) (fun _ _ _ _ _ => by exact (pe_tup (pa_cons (pv 5) (pa_cons (pe_dget2 (units1 hr.units) (pv 2) (pv 6) (pv 6) ⟨rfl, rfl, rfl, rfl⟩) (pa_cons (pv 7) pa_nil)))))) pa_nil)))))))), ?_⟩
    obtain ⟨a, ys, rfl, ha, ax⟩ := ip
    have ip : IsPqs H (.ref a) ps := ⟨a, ys, rfl, ha, ax⟩
    have lx : xs.length = ss.length := av.1
    have few := ok.few
    obtain ⟨as, eas, pas⟩ := pq_refs (K := K) ax
    refine ⟨_, rfl, a, as, _, rfl, by rw [← eas]; exact SqL.of ha, pas, fun D nD => ?_⟩
    have mr : ∀ z : Str, valV (mergeK [] (ps.map fun p => ((.inr p.1 : L2.Key), V.str p.2))) (.inr z) = (renO ps z).map V.str := fun z => by
      rw [merge_ren]
      cases renO ps z <;> rfl
    generalize mergeK [] (ps.map fun p => ((.inr p.1 : L2.Key), V.str p.2)) = kvs at *
    have vr : ∀ z : Str, (valV kvs (.inr z)).getD (.str z) = .str (renF ps z) := fun z => by
      rw [mr z]
      unfold renF
      cases renO ps z <;> rfl
    have s1 := same_upd (o := .dK kvs) nD
    have eD := @upd_same H D (.dK kvs)
    generalize upd H D (.dK kvs) = H1 at *
    have hl := s1 _ _ hl
    have av := av.imp fun _ _ h => IsStp.mono h s1
    refine ⟨_, rfl, l, rfl, ⟨_, SqL.of hl⟩, fun D2 nD2 => lc_allW (walk_list (K := K) (a := l) (xs := xs)) (fun i y _ => ∃ s, ss[i]? = some s ∧ y = .str s.sign) (fun _ _ _ _ _ h => h) nD2 (fun H' s => SqL.of (s _ _ hl)) (by omega) (fun i x H5 H6 kk hi s5 eD5 y hk => ?_) (fun H5 ys5 s5 e5 l5 r5 => ?_)⟩
    · obtain ⟨rfl, hv⟩ := y
      obtain ⟨st, hst, t, wa, rfl, ht, hw⟩ := av.at hv
      have sA := s5.trans (hid_same (a := D2))
      exact ⟨t, _, rfl, .inl (.inl (sA _ _ ht)), rfl, _, _, rfl, _, _, rfl, _, _, rfl, rfl, rfl, _, rfl, hk _ _ (Same.refl _) ⟨st, hst, rfl⟩⟩
    rw [are_strsQ (l := ss) (f := Stp.sign) (by omega) r5] at e5
    have s5' := s5.trans (hid_same (a := D2))
    refine at_nil (set_tt (P := P) (w := w) e5 (by rw [List.length_map]; omega) fun HT Dt L sT eT lL nL mL => ?_)
    have mem : ∀ z, z ∈ L ↔ ∃ s ∈ ss, s.sign = z := fun z => by rw [mL z, List.mem_map]
    rw [List.length_map] at lL
    refine ⟨Dt, L, rfl, eT, by omega, fun zs q' pm so nq => ?_⟩
    have nz : zs.Nodup := pm.nodup_iff.mpr nL
    have mz : ∀ z, z ∈ zs ↔ ∃ s ∈ ss, s.sign = z := fun z => pm.mem_iff.trans (mem z)
    have lz : zs.length ≤ 60 := by rw [pm.length_eq]; omega
    have u := same_upd (o := .lst (zs.map V.str)) nq
    have eq' := @upd_same HT q' (.lst (zs.map V.str))
    have sB := s5'.trans (sT.trans u)
    generalize upd HT q' (.lst (zs.map V.str)) = H7 at *
    have hl := sB _ _ hl
    have eD := sB _ _ eD
    have av := av.imp fun _ _ h => IsStp.mono h sB
    have s17 := s1.trans sB
    clear e5 nL mL lL pm so nq u sB s5 s5' mem nD2 eT sT r5 l5 s1 nD
    refine ⟨_, rfl, q', rfl, ⟨_, SqL.of eq'⟩, fun D3 nD3 => lc_allW (walk_list (K := K) (a := q') (xs := zs.map V.str)) (fun i y _ => ∃ z, zs[i]? = some z ∧ y = .str (renF ps z)) (fun _ _ _ _ _ h => h) nD3 (fun H' s => SqL.of (s _ _ eq')) (by rw [List.length_map]; omega) (fun i x H8 H9 kk hi s6 eD3 y hk => ?_) (fun H6 ys s6 e6 l6 r6 => ?_)⟩
    · obtain ⟨rfl, hv⟩ := y
      rw [List.getElem?_map] at hv
      obtain ⟨z, hz, rfl⟩ := Option.map_eq_some_iff.mp hv
      have eD9 := hid_same _ _ (s6 _ _ eD)
      exact ⟨rfl, _, rfl, D, rfl, .inl ⟨_, .inl eD9⟩, _, rfl, _, rfl, _, DGet.k (k := .inr z) eD9, hk _ _ (Same.refl _) ⟨z, hz, vr z⟩⟩
    rw [are_strsQ (l := zs) (f := renF ps) (by rw [l6, List.length_map]) r6] at e6
    have s6' := s6.trans (hid_same (a := D3))
    have lzr : (zs.map (renF ps)).length ≤ 60 := by rw [List.length_map]; exact lz
    refine ⟨_, rfl, at_nil (set_tt (P := P) (w := w) e6 lzr fun HT Dt L sT eT lL nL mL => ?_)⟩
    have sC := s6'.trans sT
    have hl := sC _ _ hl
    have eD := sC _ _ eD
    have av := av.imp fun _ _ h => IsStp.mono h sC
    have s18 := s17.trans sC
    refine ⟨Dt, L, rfl, eT, by omega, _, rfl, D3, _, rfl, .inl (SqL.of (sT _ _ e6)), _, _, rfl, rfl, _, rfl, ?_⟩
    rw [show ((zs.map (renF ps)).map V.str).length = (zs.map (renF ps)).length from List.length_map .., lt_nd nL mL lL]
    clear e6 l6 r6 s6 s6' sC eq' nD3 sT eT lL nL mL s17
    by_cases inj : InjS ps ss
    · rw [decide_eq_true ((ren_nd nz mz).mpr inj)]
      have sto := ren_stps pok.ok ok inj
      refine iteF ⟨_, rfl, l, rfl, ⟨_, SqL.of hl⟩, fun D4 nD4 => lc_allW (walk_list (K := K) (a := l) (xs := xs)) (fun i y G => ∃ s, ss[i]? = some s ∧ IsStp G y (renS ps s)) (fun _ _ _ _ s h => h.elim fun st f => ⟨st, f.1, f.2.mono s⟩) nD4 (fun H' s => SqL.of (s _ _ hl)) (by omega) (fun i x H9 H10 kk hi s9 eD4 y hk => ?_) (fun H9 ys s9 e9 l9 r9 => ?_)⟩
      · obtain ⟨rfl, hv⟩ := y
        obtain ⟨st, hst, t, wa, rfl, ht, hw⟩ := av.at hv
        have sD := s9.trans (hid_same (a := D4))
        have eD10 := sD _ _ eD
        refine ⟨t, _, rfl, .inl (.inl (sD _ _ ht)), rfl, _, _, rfl, _, _, rfl, _, _, rfl, rfl, rfl, ?_⟩
        refine ⟨_, rfl, _, rfl, D, rfl, .inl ⟨_, .inl eD10⟩, _, rfl, _, rfl, _, DGet.k (k := .inr st.sign) eD10, _, rfl, by show 3 ≤ sizeLine; decide, fun t2 nt2 => ?_⟩
        rw [vr st.sign]
        have u := same_upd (o := .tup [.int (st.room : Nat), .str (renF ps st.sign), .ref wa]) nt2
        exact hk _ _ u ⟨st, hst, t2, wa, rfl, hid_no (eD4.imp fun _ e => u _ _ e) upd_same (fun _ => nofun), hid_no (eD4.imp fun _ e => u _ _ e) (u _ _ (sD _ _ hw)) (fun _ => nofun)⟩
      · have aR : AllAre (IsStp H9) ys (ss.map (renS ps)) := .of_ix (by rw [l9, List.length_map, lx]) fun i y hy => by
          obtain ⟨s, hs, r⟩ := r9 i y hy
          exact ⟨renS ps s, by rw [List.getElem?_map, hs]; rfl, r.mono hid_same⟩
        have sD := s9.trans (hid_same (a := D4))
        obtain ⟨o1, so1⟩ := sortedOf_ex sto
        exact at_nil ⟨D4, m, _, o1, ys, rfl, e9, aR, sto, so1, fun H11 u o2 s11 it so2 => q inj H11 u o1 o2 (s18.trans (sD.trans s11)) so1 it so2⟩
    · rw [decide_eq_false fun h => inj ((ren_nd nz mz).mp h)]
      refine iteT ⟨_, rfl, at_nil (rep_prs (ip.mono s18) pok ⟨by show 3 ≤ sizeLine; decide, fun t nt => qe inj _ t (s18.trans (same_upd nt)) upd_same⟩)⟩
end
end Fb
namespace Fb
open PySem PySem.Spec PyProof.Rows L2
section
variable {P : Program} {w : World} {K : PySem.W.Frag} {mg : Str → Option Value} {base : Heap}
/-- [x for x in texts if a draw says so]: some of them, in their order -/
theorem lc_drawF {b : Addr} {zs : List Str} {g : TG} {tt : TT} {te : TE} {vs : List Nat} {σ : L2.St} {H1 : Hp} {D a : Addr} {Qd : Hp → Prop} (f : Nat) (hD : H1 D = none) (hw : WellAt H1 a (f + zs.length)) (hn : zs.length ≤ 900) (hb : (hid a H1) b = some (.lst (zs.map V.str)))
    (hs : ∀ z H m (kt : V → Hp → Prop) (kf : Hp → Prop), z ∈ zs → WellAt H a (m + 1) → Same (hid a H1) (hid a H) → (∀ H4, Same (hid a H) (hid a H4) → WellAt H4 a m → kt (.str z) H4) → (∀ H4, Same (hid a H) (hid a H4) → WellAt H4 a m → kf H4) →
      g (.str z) (wipe σ vs) H fun σ2 H2 => wipe σ2 vs = wipe σ vs ∧ tt σ2 H2 fun bb H3 => if bb = true then te σ2 H3 kt else kf H3)
    (hd : ∀ (H : Hp) (L : List Str), Same (hid a H1) (hid D (hid a H)) → WellAt H a f → H D = some (.lst (L.map V.str)) → L.Sublist zs → Qd H) :
    ∃ W : Nat → Nat → Hp → Prop, (∃ m, W 0 m (upd H1 D (.lst []))) ∧ ∀ i m H, W i m H →
      ((Itl K b).stop i H ∧ Qd H) ∨ ((Itl K b).go i H ∧ ∃ Nx : Hp → Prop, (∀ H', Nx H' → ∃ m', m' < m ∧ W (i + 1) m' H') ∧ ∀ x H', (Itl K b).yld i H x H' → g x (wipe σ vs) H' fun σ2 H2 => wipe σ2 vs = wipe σ vs ∧ tt σ2 H2 fun b H3 =>
        if b = true then te σ2 H3 fun y H4 => ∃ acc, H4 D = some (.lst acc) ∧ acc.length < sizeLine ∧ Nx (upd H4 D (.lst (acc ++ [y]))) else Nx H3) := by
  have nD : D ≠ a := hw.ne hD
  have lz : (zs.map V.str).length = zs.length := List.length_map ..
  refine lc_it (walk_list (K := K) (a := b) (xs := zs.map V.str)) (fun i H => ∃ L : List Str, Same (hid a H1) (hid D (hid a H)) ∧ WellAt H a (f + (zs.length - i)) ∧ H D = some (.lst (L.map V.str)) ∧ L.Sublist (zs.take i)) ⟨[], ?_, hw.upd nD, upd_same, List.nil_sublist _⟩ (fun i H _ h => ?_) (fun i x H H' hi h y => ?_) (fun H h => ?_)
  · rw [hid2_upd nD]
    intro c o e
    have hc : c ≠ D := fun z => by
      rw [z, hid_ne nD, hD] at e
      cases e
    rw [hid_ne hc]
    exact e
  · obtain ⟨L, s, _⟩ := h
    exact SqL.of (hid_same _ _ ((s.trans hid_same) _ _ hb))
  · obtain ⟨L, s, w, e, sub⟩ := h
    obtain ⟨rfl, hv⟩ := y
    rw [List.getElem?_map] at hv
    obtain ⟨z, hz, rfl⟩ := Option.map_eq_some_iff.mp hv
    rw [lz] at hi
    have ec : f + (zs.length - i) = (f + (zs.length - (i + 1))) + 1 := by omega
    rw [ec] at w
    have et : zs.take (i + 1) = zs.take i ++ [z] := by rw [List.take_add_one, hz]; rfl
    have at4 : ∀ {H4 : Hp}, Same (hid a H') (hid a H4) → H4 D = some (.lst (L.map V.str)) := fun {H4} s4 => by
      have := s4 D (.lst (L.map V.str)) (by rw [hid_ne nD]; exact e)
      rw [hid_ne nD] at this
      exact this
    refine hs z H' _ _ _ (List.mem_of_getElem? hz) w (s.trans hid_same) (fun H4 s4 w4 => ?_) (fun H4 s4 w4 => ?_)
    · have l1 := sub.length_le
      have l2 := List.length_take_le i zs
      refine ⟨L.map V.str, at4 s4, small1000 (by rw [List.length_map]; omega), L ++ [z], ?_, w4.upd nD, ?_, ?_⟩
      · rw [hid2_upd nD]
        exact s.trans (hid_mono s4)
      · rw [upd_same, List.map_append]
        rfl
      · rw [et]
        exact List.Sublist.append sub (List.Sublist.refl _)
    · refine ⟨L, s.trans (hid_mono s4), w4, at4 s4, ?_⟩
      rw [et]
      exact sub.trans (List.sublist_append_left _ _)
  · obtain ⟨L, s, w, e, sub⟩ := h
    rw [lz, Nat.sub_self] at w
    rw [lz, List.take_length] at sub
    exact hd H L s w e sub
theorem pe_bmK {X : Cx} {K : PySem.W.Frag} {o e : Expr} {es : List Expr} {to : TE} {t : TA} {name : Str} {apos cpos : Pos} {T id : String} {r : V → List V → Hp → VK → Prop} (hK : X.K = K) (pa : PlainAttrs T) (slot : Slot T name id) (hty : typeOf (.builtin id) = pure (.type "method_descriptor")) (hm : MtR X id r) (ho : PE X o to) (ha : PA X (e :: es) t)
    (hbase : attributeBase o name X.env (eval o X.env) = eval o X.env := by rfl)
    (hfew : ((backTo cpos (starEach (e :: es) X.env)).all (fun x => !x.1) && (backToKw cpos (keywordEach [] X.env)).all (fun x => x.1.isSome)
      && decide ((e :: es).length + ([] : List Keyword).length + (if ([] : List Keyword).isEmpty then 0 else 1) < 30)) = true := by rfl)
    (hline : (apos.endLine == cpos.line) = true := by rfl) (hs : starEach (e :: es) X.env = (false, eval e X.env) :: starEach es X.env := by rfl) (hplain : (backTo cpos (starEach es X.env)).any (·.1) = false := by rfl) :
    PE X (.Call (.Attribute o name apos) (e :: es) [] cpos) (tBM K T r to t) := by
  subst hK
  exact pe_bm pa slot hty hm ho ha hbase hfew hline hs hplain
theorem cut_fromk (xs : List V) (k : Nat) : cutV xs (some (k : Int)) none = xs.drop k := by
  by_cases h : k ≤ xs.length
  · exact cut_from h
  · unfold cutV
    rw [HT.sIx_nat, HT.sIx_none, Nat.min_eq_right (by omega), List.drop_of_length_le (by omega), List.drop_of_length_le (by omega), List.take_nil]
theorem cut_toS (l : List Str) (k : Nat) : cutV (l.map V.str) none (some (k : Int)) = (l.take k).map V.str := (cut_tok _ k).trans List.map_take.symm
theorem cut_fromS (l : List Str) (k : Nat) : cutV (l.map V.str) (some (k : Int)) none = (l.drop k).map V.str := (cut_fromk _ k).trans List.map_drop.symm
theorem cut_to1 (l : List Str) : cutV (l.map V.str) none (some 1) = (l.take 1).map V.str := cut_toS l 1
theorem cut_from1 (l : List Str) : cutV (l.map V.str) (some 1) none = (l.drop 1).map V.str := cut_fromS l 1
theorem if_join {tc : TT} {t1 t2 u : L2.TS} {e : Ends} {σ : L2.St} {H : Hp} (C : L2.St → Hp → Prop) (hN : ∀ σ H, C σ H → u e σ H) (h : ∀ N : L2.St → Hp → Prop, (∀ σ H, C σ H → N σ H) → tIfS tc t1 t2 { e with nx := N } σ H) : tSeq (tIfS tc t1 t2) u e σ H :=
  h _ hN
theorem at_name {i : Nat} {x : V} {σ : L2.St} {H : Hp} {k : L2.St → Hp → Prop} (h : k (σ.set i (some x)) H) : gName i x σ H k := h
theorem nx_tseq {t u : L2.TS} {e : Ends} {rt : VK} {bk ct : L2.St → Hp → Prop} {σ : L2.St} {H : Hp} (h : tSeq t u e σ H) : Ends.nx { nx := tSeq t u e, rt := rt, bk := bk, ct := ct } σ H := h
theorem hidk {a D : Addr} {G G' : Hp} {o : HO} (s : Same (hid a G) (hid a G')) (n : D ≠ a) (e : G D = some o) : G' D = some o := by
  have := s D o (by rw [hid_ne n]; exact e)
  rwa [hid_ne n] at this
/-- a heap written over where nothing stood before -/
theorem hid_over {H H' : Hp} {a p : Addr} {o : HO} (s : Same (hid a H) (hid a H')) (np : H p = none) : Same (hid a H) (hid a (upd H' p o)) := fun b x e => by
  by_cases hb : b = a
  · rw [hb] at e
    simp [hid] at e
  · rw [hid_ne hb] at e ⊢
    rw [upd_ne (ne_of_none e np)]
    have := s b x (by rw [hid_ne hb]; exact e)
    rwa [hid_ne hb] at this
theorem AllAre.rev {β : Type} {R : V → β → Prop} {xs : List V} {ys : List β} (h : AllAre R xs ys) : AllAre R xs.reverse ys.reverse := by
  refine ⟨by rw [List.length_reverse, List.length_reverse]; exact h.1, fun i a b ha hb => ?_⟩
  have hi : i < xs.length := by
    have := (List.getElem?_eq_some_iff.mp ha).1
    rwa [List.length_reverse] at this
  have l : xs.length = ys.length := h.1
  rw [List.getElem?_reverse hi] at ha
  rw [List.getElem?_reverse (by omega), ← l] at hb
  exact h.2 _ a b ha hb
theorem erase_perm {α : Type} {l : List α} {i : Nat} (h : i < l.length) : (l[i] :: l.eraseIdx i).Perm l := by
  rw [List.eraseIdx_eq_take_drop_succ]
  have := List.take_append_drop i l
  conv => rhs; rw [← this, List.drop_eq_getElem_cons h]
  exact List.perm_middle.symm
theorem map_erase {l : List Str} {i : Nat} : (l.map V.str).eraseIdx i = (l.eraseIdx i).map V.str := by
  rw [List.eraseIdx_eq_take_drop_succ, List.eraseIdx_eq_take_drop_succ, ← List.map_take, ← List.map_drop, ← List.map_append]
def spLPairs : Sp := fun vs H Q _ => ∃ (a p1 p2 : Addr) (zs : List Str) (k n : Nat), vs = [.ref a, .ref p1, .ref p2] ∧ WellAt H a (n + 20) ∧ NmsOk 8 zs ∧ 1 ≤ k ∧ k ≤ 4 ∧ (hid a H) p1 = some (.lst ((zs.take k).map V.str)) ∧ (hid a H) p2 = some (.lst ((zs.drop 4).map V.str)) ∧
  ∀ H' d xs ps, H d = none → Same (hid a H) (hid a H') → WellAt H' a n → H' d = some (.lst xs) → AllAre (IsPq H') xs ps → PrsOk ps → Q (.ref d) H'
set_option maxHeartbeats 1600000 in
theorem ok_l_pairs (T : Txt K mg) : FnOk P w K mg base CX0 2 T.f_l_pairs T.d_l_pairs ["_law_well_here", "_law_signs", "_law_others"] spLPairs := by
  refine T.F_l_pairs.ok sc_l_pairs (fun vs H Q E h => ?_) (fun cdv A outer s H vs Q E hr h => ?_)
  · obtain ⟨a, p1, p2, zs, k, n, rfl, _⟩ := h
    rfl
  · obtain ⟨a, p1, p2, zs, k, n, rfl, hw, nm, k1, k4, h1, h2, q⟩ := h
    refine ⟨_, (pss_cons (ps_setLc (i := 3) (own := [("_law_sign", 8)]) (g := (gName 8)) (tt := _) (by rfl) sc_l_pairs.nd rfl rfl (sw_true rfl rfl rfl (by decide +kernel)) (pi_list (pe_op op_cat (pv 1) (pe_slice sl_list (pv 2) po_none (po_some pe_int)))) (blkOk_by (own := [("_law_sign", 8)]) (N := ["_law_well_here", "_law_signs", "_law_others", "_law_elder", "_law_way", "_law_newer", "_law_pool", "_law_pairs_here", "_law_sign", "_law_k"]) (sc := defScope s_l_pairs) (by decide +kernel)) (fun _ _ _ _ _ => by exact (pg_name (i := 8) sc_l_pairs.nd rfl (.inl rfl))) (fun _ _ _ _ _ => by exact (pts_one (pt_cmpR op_gt (pe_call (ok_l_draw T) (hr.mono (by decide)) (by rfl) T.g_l_draw T.F_l_draw.kp T.b_l_draw .nil pass0 (pa_cons (pv 0) (pa_cons pe_int pa_nil))) pe_int (nomark _)))) (fun _ _ _ _ _ => by exact (pv 8)))
 (pss_cons (ps_set (i := 4) sc_l_pairs.nd rfl (.inl rfl) (pe_call (ok_l_draw T) (hr.mono (by decide)) (by rfl) T.g_l_draw T.F_l_draw.kp T.b_l_draw .nil pass0 (pa_cons (pv 0) (pa_cons pe_int pa_nil))))
 (pss_cons (ps_set (i := 5) sc_l_pairs.nd rfl (.inr rfl) (pe_slice sl_list (pe_op op_cat (pe_slice sl_list (pv 2) (po_some pe_int) po_none) (pv 1)) po_none (po_some (pe_callB call_len_seq (by rfl) T.z_len (by decide +kernel) (pa_cons (pv 3) pa_nil)))))
 (pss_cons (ps_if (PW.pt (pw_and (pt_cmpR op_eq (pv 4) pe_int (nomark _)) (pw_and1 (pt_cmpR (op_neNil hr.units0) (pv 3) (pe_lst pa_nil) (nomark _)))))
  (pss_one (ps_set (i := 5) sc_l_pairs.nd rfl (.inr rfl) (pe_op op_cat (pe_slice sl_list (pv 3) (po_some pe_int) po_none) (pe_slice sl_list (pv 3) po_none (po_some pe_int)))))
  pss_nil)
 (pss_cons (ps_if (pt_cmpR op_eq (pv 4) pe_int (nomark _))
  (pss_cons (ps_set (i := 6) sc_l_pairs.nd rfl (.inr rfl) (pe_op op_cat (pv 1) (pv 2)))
 (pss_one (ps_set (i := 5) sc_l_pairs.nd rfl (.inr rfl) (pe_lc (own := [("_law_sign", 8)]) (g := (gName 8)) (tt := tYes) (by rfl) sc_l_pairs.nd (pi_list (pv 3)) (blkOk_by (own := [("_law_sign", 8)]) (N := ["_law_well_here", "_law_signs", "_law_others", "_law_elder", "_law_way", "_law_newer", "_law_pool", "_law_pairs_here", "_law_sign", "_law_k"]) (sc := defScope s_l_pairs) (by decide +kernel)) (fun _ _ _ _ _ => by exact (pg_name (i := 8) sc_l_pairs.nd rfl (.inl rfl))) (fun _ _ _ _ _ => by exact pts_nil) (fun _ _ _ _ _ => by exact (pe_bmK (K := K) rfl PySem.F.plainAttrs_list PySem.F.slot_list_pop PySem.F.type_list_pop mt_popAt (pv 6) (pa_cons (pe_call (ok_l_draw T) (hr.mono (by decide)) (by rfl) T.g_l_draw T.F_l_draw.kp T.b_l_draw .nil pass0 (pa_cons (pv 0) (pa_cons (pe_callB (call_len_seqK (K := K) rfl) (by rfl) T.z_len (by decide +kernel) (pa_cons (pv 6) pa_nil)) pa_nil))) pa_nil)))))))
  pss_nil)
 (pss_cons (ps_setLc (i := 7) (own := [("_law_k", 9), ("_law_sign", 8)]) (g := (gTup K 2 (gCons (gName 9) (gCons (gName 8) gNil)))) (tt := tYes) (by rfl) sc_l_pairs.nd rfl rfl (sw_true rfl rfl rfl (by decide +kernel)) (pi_enum (by rfl) T.z_enumerate (pa_cons (pv 3) pa_nil)) (blkOk_by (own := [("_law_k", 9), ("_law_sign", 8)]) (N := ["_law_well_here", "_law_signs", "_law_others", "_law_elder", "_law_way", "_law_newer", "_law_pool", "_law_pairs_here", "_law_sign", "_law_k"]) (sc := defScope s_l_pairs) (by decide +kernel)) (fun _ _ _ _ _ => by exact (pg_tup (by rfl) (pgs_cons (pg_name (i := 9) sc_l_pairs.nd rfl (.inl rfl)) (pgs_cons (pg_name (i := 8) sc_l_pairs.nd rfl (.inl rfl)) pgs_nil)))) (fun _ _ _ _ _ => by exact pts_nil) (fun _ _ _ _ _ => by exact (pe_tup (pa_cons (pv 8) (pa_cons (pe_ix (ix_listK (K := K) rfl) (pv 5) (pv 9) (fun _ _ => rfl)) pa_nil)))))
 (pss_cons (ps_if (pt_cmpR op_eq (pe_call (ok_l_draw T) (hr.mono (by decide)) (by rfl) T.g_l_draw T.F_l_draw.kp T.b_l_draw .nil pass0 (pa_cons (pv 0) (pa_cons pe_int pa_nil))) pe_int (nomark _))
  (pss_one (ps_set (i := 7) sc_l_pairs.nd rfl (.inl rfl) (pe_revL (pv 7))))
  pss_nil)
 (pss_one (ps_ret (pv 7)))))))))), ?_⟩
    have len8 := nm.len
    obtain ⟨sg, hsg⟩ : ∃ l, l = zs.take k := ⟨_, rfl⟩
    obtain ⟨ot, hot⟩ : ∃ l, l = zs.drop 4 := ⟨_, rfl⟩
    rw [← hsg] at h1
    rw [← hot] at h2
    have lsg : sg.length = k := by rw [hsg, List.length_take]; omega
    have lot : ot.length = 4 := by rw [hot, List.length_drop]; omega
    have sub0 : (sg ++ ot).Sublist zs := by
      have h1 : zs.take 4 ++ zs.drop 4 = zs := List.take_append_drop 4 zs
      have h2 : (zs.take k).Sublist (zs.take 4) := by
        have := List.take_sublist k (zs.take 4)
        rwa [List.take_take, Nat.min_eq_left k4] at this
      have h3 := List.Sublist.append h2 (List.Sublist.refl (zs.drop 4))
      rwa [h1, ← hsg, ← hot] at h3
    have nd0 : (sg ++ ot).Nodup := sub0.nodup nm.nd
    have ok0 : ∀ z ∈ sg ++ ot, NmOk z := fun z hz => nm.all z (sub0.subset hz)
    clear sub0 hsg hot nm len8
    -- the elder ones
    refine ⟨_, rfl, _, rfl, 1, rfl, p2, _, rfl, SqL.of (hid_same _ _ h2), fun q1 nq1 => ?_⟩
    rw [cut_to1]
    obtain ⟨w1, s1⟩ := well_new (o := .lst ((ot.take 1).map V.str)) hw nq1
    have e1 := @upd_same H q1 (.lst ((ot.take 1).map V.str))
    generalize upd H q1 (.lst ((ot.take 1).map V.str)) = G1 at *
    refine ⟨p1, q1, _, _, rfl, rfl, hid_same _ _ (s1 _ _ h1), e1, Nat.le_of_lt (small1000 (by rw [List.length_map, List.length_map, lsg, List.length_take]; omega)), fun q2 nq2 => ?_⟩
    rw [← List.map_append]
    obtain ⟨w2, s2⟩ := well_new (o := .lst ((sg ++ ot.take 1).map V.str)) w1 nq2
    have e2 := @upd_same G1 q2 (.lst ((sg ++ ot.take 1).map V.str))
    have q2a := w1.ne nq2
    generalize upd G1 q2 (.lst ((sg ++ ot.take 1).map V.str)) = G2 at *
    have lb : (sg ++ ot.take 1).length = k + 1 := by rw [List.length_append, lsg, List.length_take]; omega
    refine ⟨q2, rfl, ⟨_, SqL.of e2⟩, fun D nD => lc_drawF (K := K) (a := a) (b := q2) (zs := sg ++ ot.take 1) (n + 15) nD (w2.mono (by omega)) (by omega) (by rw [hid_ne q2a]; exact e2) (fun z H3 m kt kf hz w3 s3 hkt hkf => ?_) (fun H3 L s3 w3 e3 sub => ?_)⟩
    · refine ⟨rfl, _, rfl, a, 3, m, rfl, w3, by decide, by decide, fun d H4 d0 d1 s4 w4 => ⟨_, _, rfl, rfl, _, rfl, ite2 (fun _ => ⟨_, rfl, hkt H4 s4 w4⟩) (fun _ => hkf H4 s4 w4)⟩⟩
    have Da := w2.ne nD
    have s03 := (s1.trans s2).trans (s3.trans hid_same)
    have nDH : H D = none := none_back (s1.trans s2) w2 nD
    have e3 : (hid a H3) D = some (.lst (L.map V.str)) := by rw [hid_ne Da]; exact e3
    have lL : L.length ≤ k + 1 := by rw [← lb]; exact sub.length_le
    have ndL : L.Nodup := by
      refine sub.nodup (List.Sublist.nodup ?_ nd0)
      exact List.Sublist.append (List.Sublist.refl _) (List.take_sublist _ _)
    have inL : ∀ z ∈ L, z ∈ sg ++ ot := fun z hz => by
      rcases List.mem_append.mp (sub.subset hz) with h | h
      · exact List.mem_append_left _ h
      · exact List.mem_append_right _ (List.mem_of_mem_take h)
    clear s1 s2 s3 w1 w2 e1 e2 nD nq1 nq2 sub hw
    -- the newer ones
    refine ⟨_, rfl, a, 4, n + 14, rfl, w3, by decide, by decide, fun d H4 d0 d1 s4 w4 => ?_⟩
    have s04 := s03.trans s4
    have e4 := s4 _ _ e3
    clear s03 s4 w3 e3
    refine ⟨_, rfl, 1, rfl, p2, _, rfl, SqL.of (hid_same _ _ (s04 _ _ h2)), fun q3 nq3 => ?_⟩
    rw [cut_from1]
    obtain ⟨w5, s5⟩ := well_new (o := .lst ((ot.drop 1).map V.str)) w4 nq3
    have e5 := @upd_same H4 q3 (.lst ((ot.drop 1).map V.str))
    generalize upd H4 q3 (.lst ((ot.drop 1).map V.str)) = H5 at *
    have s05 := s04.trans s5
    refine ⟨_, rfl, q3, p1, _, _, rfl, rfl, e5, hid_same _ _ (s05 _ _ h1), Nat.le_of_lt (small1000 (by rw [List.length_map, List.length_map, lsg, List.length_drop]; omega)), fun q4 nq4 => ?_⟩
    rw [← List.map_append]
    obtain ⟨w6, s6⟩ := well_new (o := .lst ((ot.drop 1 ++ sg).map V.str)) w5 nq4
    have e6 := @upd_same H5 q4 (.lst ((ot.drop 1 ++ sg).map V.str))
    generalize upd H5 q4 (.lst ((ot.drop 1 ++ sg).map V.str)) = H6 at *
    have s06 := s05.trans s6
    have eD6 := (s5.trans s6) _ _ e4
    refine ⟨_, rfl, D, _, rfl, .inl (SqL.of (hid_same _ _ eD6)), _, rfl, q4, _, rfl, SqL.of e6, fun q5 nq5 => ?_⟩
    rw [cut_toS]
    obtain ⟨w7, s7⟩ := well_new (o := .lst (((ot.drop 1 ++ sg).take (L.map V.str).length).map V.str)) w6 nq5
    have e7 := @upd_same H6 q5 (.lst (((ot.drop 1 ++ sg).take (L.map V.str).length).map V.str))
    have q5a := w6.ne nq5
    generalize upd H6 q5 (.lst (((ot.drop 1 ++ sg).take (L.map V.str).length).map V.str)) = H7 at *
    have s07 := s06.trans s7
    have eD7 := s7 _ _ eD6
    have lN : ((ot.drop 1 ++ sg).take (L.map V.str).length).length = L.length := by
      rw [List.length_take, List.length_append, List.length_drop, List.length_map]
      omega
    have ndN : ((ot.drop 1 ++ sg).take (L.map V.str).length).Nodup := by
      refine (List.take_sublist _ _).nodup (List.perm_append_comm.nodup_iff.mp ?_)
      exact (List.Sublist.append (List.Sublist.refl sg) (List.drop_sublist 1 ot)).nodup nd0
    have inN : ∀ z ∈ (ot.drop 1 ++ sg).take (L.map V.str).length, z ∈ sg ++ ot := fun z hz => by
      rcases List.mem_append.mp (List.mem_of_mem_take hz) with h | h
      · exact List.mem_append_right _ (List.mem_of_mem_drop h)
      · exact List.mem_append_left _ h
    generalize (ot.drop 1 ++ sg).take (L.map V.str).length = Nw at *
    clear s04 s05 s06 s5 s6 s7 w4 w5 w6 e5 e6 e4 eD6 nq3 nq4
    let C : L2.St → Hp → Prop := fun σ H' => ∃ (y6 : Option V) (N : Addr) (Nw : List Str), σ = [some (.ref a), some (.ref p1), some (.ref p2), some (.ref D), some (.int d), some (.ref N), y6, none, none, none] ∧ Same (hid a H) (hid a H') ∧ WellAt H' a (n + 10) ∧ (hid a H') D = some (.lst (L.map V.str)) ∧ (hid a H') N = some (.lst (Nw.map V.str)) ∧ Nw.length = L.length ∧ Nw.Nodup ∧ ∀ z ∈ Nw, z ∈ sg ++ ot
    refine at_name (nx_tseq ?_)
    refine if_join (C := C) (fun σ H' hC => ?_) (fun Nx hNx => ?_)
    · obtain ⟨y6, N, Nw, rfl, sH, w, eD, eN, lN, ndN, inN⟩ := hC
      clear q5a e7 s07 w7 eD7 nq5
      let C2 : L2.St → Hp → Prop := fun σ H' => ∃ (y6 : Option V) (N : Addr) (Nw : List Str), σ = [some (.ref a), some (.ref p1), some (.ref p2), some (.ref D), some (.int d), some (.ref N), y6, none, none, none] ∧ Same (hid a H) (hid a H') ∧ WellAt H' a (n + 1) ∧ (hid a H') D = some (.lst (L.map V.str)) ∧ (hid a H') N = some (.lst (Nw.map V.str)) ∧ Nw.length = L.length ∧ Nw.Nodup ∧ ∀ z ∈ Nw, z ∈ sg ++ ot
      refine if_join (C := C2) (fun σ H' hC => ?_) (fun Nx hNx => ?_)
      · obtain ⟨y6, N, Nw, rfl, sH, w, eD, eN, lN, ndN, inN⟩ := hC
        have eD' := hid_same _ _ eD
        have eN' := hid_same _ _ eN
        refine ⟨_, rfl, D, _, rfl, SqL.of eD', fun D3 nD3 => lc_allW (walk_enum (K := K) (a := D) (xs := L.map V.str)) (fun i y G => ∃ p, (L.zip Nw)[i]? = some p ∧ IsPq G y p) (fun _ _ _ _ s h => h.elim fun p f => ⟨p, f.1, f.2.mono s⟩) nD3 (fun G s => SqL.of (s _ _ eD')) (by rw [List.length_map]; omega) (fun i x H5 H6 kk hi s5 eD5 y hk => ?_) (fun H5 ys s5 e5 l5 r5 => ?_)⟩
        · obtain ⟨tt, x1, y1, rfl, nt, rfl, ex, ey⟩ := y
          cases ex
          have ey : (L.map V.str)[i]? = some y1 := ey
          rw [List.getElem?_map] at ey
          obtain ⟨z, hz, rfl⟩ := Option.map_eq_some_iff.mp ey
          obtain ⟨u, hu⟩ : ∃ u, Nw[i]? = some u := ⟨_, List.getElem?_eq_getElem (by have := (List.getElem?_eq_some_iff.mp hz).1; omega)⟩
          have st := same_upd (o := .tup [.int (i : Nat), .str z]) nt
          have eN6 := st _ _ (hid_same _ _ (s5 _ _ eN'))
          refine ⟨tt, _, rfl, .inl (.inl upd_same), rfl, _, _, rfl, _, _, rfl, rfl, rfl, ?_⟩
          refine ⟨_, rfl, _, rfl, _, rfl, N, _, (i : Int), .str u, rfl, rfl, SqL.of eN6, atI_nat (by rw [List.getElem?_map, hu]; rfl), by show 2 ≤ sizeLine; decide, fun t2 nt2 => ?_⟩
          have u2 := same_upd (o := .tup [.str z, .str u]) nt2
          exact hk _ _ (st.trans u2) ⟨(z, u), List.getElem?_zip_eq_some.mpr ⟨hz, hu⟩, t2, rfl, hid_no (eD5.imp fun _ e => u2 _ _ (st _ _ e)) upd_same (fun _ => nofun)⟩
        · have lz : (L.zip Nw).length = L.length := by rw [List.length_zip]; omega
          rw [List.length_map] at l5
          have s5' := s5.trans (hid_same (a := D3))
          have av : AllAre (IsPq H5) ys (L.zip Nw) := .of_ix (by omega) fun i y hy => by
            obtain ⟨p, hp, r⟩ := r5 i y hy
            exact ⟨p, hp, r.mono hid_same⟩
          have pok : PrsOk (L.zip Nw) := ⟨by omega, fun p hp => ⟨ok0 _ (inL _ (List.of_mem_zip hp).1), ok0 _ (inN _ (List.of_mem_zip hp).2)⟩, by
            have := List.map_fst_zip (l₁ := L) (l₂ := Nw) (by omega)
            show ((L.zip Nw).map Prod.fst).Nodup
            rw [this]
            exact ndL, by
            have := List.map_snd_zip (l₁ := L) (l₂ := Nw) (by omega)
            show ((L.zip Nw).map Prod.snd).Nodup
            rw [this]
            exact ndN⟩
          generalize L.zip Nw = ps at *
          have w5 := w.same s5'
          have D3a := w.ne nD3
          have nD3H := none_back sH w nD3
          have sH5 := sH.trans (hid_mono s5')
          refine ⟨_, rfl, a, 2, n, rfl, w5, by decide, by decide, fun d2 H6 d0 d1 s6 w6 => ⟨rfl, _, rfl, ?_⟩⟩
          have e6 : H6 D3 = some (.lst ys) := hidk s6 D3a e5
          have av6 : AllAre (IsPq H6) ys ps := av.imp fun _ _ h => by
            obtain ⟨t, e, ht⟩ := h
            have ta : t ≠ a := fun z => by
              obtain ⟨_, _, _, ea, _⟩ := w5
              rw [z, ea] at ht
              cases ht
            exact ⟨t, e, hidk s6 ta ht⟩
          refine ite2 (fun _ => ⟨_, rfl, D3, ys, rfl, SqL.of e6, fun r nr => ?_⟩) (fun _ => ⟨_, rfl, q _ D3 ys ps nD3H (sH5.trans s6) w6 e6 av6 pok⟩)
          obtain ⟨w7, s7⟩ := well_new (o := .lst ys.reverse) w6 nr
          have sr := same_upd (o := .lst ys.reverse) nr
          refine ⟨_, rfl, q _ r ys.reverse ps.reverse (none_back (sH5.trans s6) w6 nr) ((sH5.trans s6).trans s7) w7 upd_same (av6.rev.imp fun _ _ h => IsPq.mono h sr) ⟨by rw [List.length_reverse]; exact pok.few, fun p hp => pok.ok p (List.mem_reverse.mp hp), by rw [List.map_reverse]; exact (List.reverse_perm _).nodup_iff.mpr pok.n1, by rw [List.map_reverse]; exact (List.reverse_perm _).nodup_iff.mpr pok.n2⟩⟩
      · refine ⟨_, rfl, rfl, _, rfl, ite2 (fun _ => ?_) (fun _ => hNx _ _ ⟨y6, N, Nw, rfl, sH, w.mono (by omega), eD, eN, lN, ndN, inN⟩)⟩
        refine ⟨_, rfl, _, rfl, p1, p2, _, _, rfl, rfl, hid_same _ _ (sH _ _ h1), hid_same _ _ (sH _ _ h2), Nat.le_of_lt (small1000 (by rw [List.length_map, List.length_map]; omega)), fun pl npl => ?_⟩
        rw [← List.map_append]
        obtain ⟨w8, s8⟩ := well_new (o := .lst ((sg ++ ot).map V.str)) w npl
        have e8 := @upd_same H' pl (.lst ((sg ++ ot).map V.str))
        have pla := w.ne npl
        have nplH := none_back sH w npl
        have eD := hid_same _ _ (s8 _ _ eD)
        have plD : D ≠ pl := fun z => by
          have := hid_same (a := a) (H := H') D _ (by assumption)
          rw [z, npl] at this
          cases this
        have sH8 := sH.trans s8
        generalize upd H' pl (.lst ((sg ++ ot).map V.str)) = G8 at *
        refine ⟨_, rfl, D, rfl, ⟨_, SqL.of eD⟩, fun D2 nD2 => ?_⟩
        have nD2H := none_back sH8 w8 nD2
        have D2a := w8.ne nD2
        have D2D : D ≠ D2 := fun z => by rw [z, nD2] at eD; cases eD
        have D2p : pl ≠ D2 := fun z => by rw [z, nD2] at e8; cases e8
        refine lc_it (walk_list (K := K) (a := D) (xs := L.map V.str)) (fun i G => ∃ (Nl Pl : List Str), Same (hid a H) (hid a G) ∧ WellAt G a (n + 10 - i) ∧ G D = some (.lst (L.map V.str)) ∧ G pl = some (.lst (Pl.map V.str)) ∧ G D2 = some (.lst (Nl.map V.str)) ∧ Nl.length = i ∧ (Nl ++ Pl).Perm (sg ++ ot)) ⟨[], sg ++ ot, hid_over sH8 nD2H, w8.upd D2a, by rw [upd_ne D2D]; exact eD, by rw [upd_ne D2p]; exact e8, upd_same, rfl, List.Perm.refl _⟩ (fun i G _ h => ?_) (fun i x G G' hi h y => ?_) (fun G h => ?_)
        · obtain ⟨_, _, _, _, eD, _⟩ := h
          exact SqL.of eD
        · obtain ⟨Nl, Pl, s, w, eD, eP, eA, lN', pm⟩ := h
          obtain ⟨rfl, hv⟩ := y
          rw [List.length_map] at hi
          have lpm := pm.length_eq
          rw [List.length_append, List.length_append, lsg, lot] at lpm
          have lp : 0 < Pl.length := by omega
          refine ⟨rfl, ?_⟩
          dsimp only [tYes]
          rw [if_pos rfl]
          refine ⟨_, rfl, .inl ⟨rfl, _, SqL.of eP⟩, _, rfl, _, rfl, pl, _, rfl, .inl (SqL.of eP), a, ((Pl.map V.str).length : Nat), n + 10 - (i + 1), rfl, w.mono (by omega), by rw [List.length_map]; omega, log_small (by rw [List.length_map]; omega), fun d' G4 d0 d1 s4 w4 => ?_⟩
          have eP4 := hidk s4 pla eP
          have eD4 := hidk s4 Da eD
          have eA4 := hidk s4 D2a eA
          obtain ⟨j, rfl⟩ : ∃ j : Nat, d' = (j : Int) := ⟨d'.toNat, (Int.toNat_of_nonneg d0).symm⟩
          rw [List.length_map] at d1
          have jl : j < Pl.length := by omega
          refine ⟨pl, Pl.map V.str, (j : Int), j, .str Pl[j], rfl, rfl, eP4, by omega, by omega, ?_, by rw [List.getElem?_map, List.getElem?_eq_getElem jl]; rfl, ?_⟩
          · have h1 : ¬ ((j : Int) < 0) := by omega
            have h2 : (0 : Int) ≤ (j : Int) := by omega
            have h3 : (j : Int) < ((Pl.map V.str).length : Nat) := by rw [List.length_map]; omega
            simp only [seqIndex?, if_neg h1, decide_eq_true h2, decide_eq_true h3, Bool.and_self, if_true, Int.toNat_natCast]
          rw [map_erase]
          refine ⟨Nl.map V.str, by rw [upd_ne D2p.symm]; exact eA4, small1000 (by rw [List.length_map]; omega), Nl ++ [Pl[j]], Pl.eraseIdx j, hid_over (hid_over (s.trans s4) nplH) nD2H, (w4.upd pla).upd D2a, by rw [upd_ne D2D, upd_ne plD]; exact eD4, by rw [upd_ne D2p]; exact upd_same, ?_, by rw [List.length_append, lN']; rfl, ?_⟩
          · rw [upd_same, List.map_append]
            rfl
          · rw [List.append_assoc]
            exact (List.Perm.append_left Nl (erase_perm jl)).trans pm
        · obtain ⟨Nl, Pl, s, w, eD, eP, eA, lN', pm⟩ := h
          rw [List.length_map] at lN' w
          have nd := pm.nodup_iff.mpr nd0
          rw [List.nodup_append] at nd
          exact hNx _ _ ⟨_, D2, Nl, rfl, s, w.mono (by omega), by rw [hid_ne Da]; exact eD, by rw [hid_ne D2a]; exact eA, lN', nd.1, fun z hz => pm.mem_iff.mp (List.mem_append_left _ hz)⟩
    · have eD7' := hid_same _ _ eD7
      refine ⟨_, rfl, rfl, _, rfl, ite2 (fun _ => ⟨_, rfl, Nat.zero_le _, fun e0 n0 => ?_⟩) (fun _ => iteF (hNx _ _ ⟨_, q5, Nw, rfl, s07, w7.mono (by omega), eD7, by rw [hid_ne q5a]; exact e7, lN, ndN, inN⟩))⟩
      obtain ⟨w8, s8⟩ := well_new (o := .lst []) w7 n0
      have t8 := same_upd (o := .lst []) n0
      have e0e := @upd_same H7 e0 (.lst [])
      have eD8 := t8 _ _ eD7'
      have s08 := s07.trans s8
      have eN8 := t8 _ _ e7
      generalize upd H7 e0 (.lst []) = H8 at *
      refine ⟨D, e0, _, rfl, rfl, SqL.of eD8, SqL.of e0e, _, rfl, ite2 (fun _ => ?_) (fun _ => hNx _ _ ⟨_, q5, Nw, rfl, s08, w8.mono (by omega), by rw [hid_ne Da]; exact eD8, by rw [hid_ne q5a]; exact eN8, lN, ndN, inN⟩)⟩
      refine ⟨_, rfl, 1, rfl, D, _, rfl, SqL.of eD8, fun r1 nr1 => ?_⟩
      rw [cut_from1]
      obtain ⟨w9, s9⟩ := well_new (o := .lst ((L.drop 1).map V.str)) w8 nr1
      have t9 := same_upd (o := .lst ((L.drop 1).map V.str)) nr1
      have e9 := @upd_same H8 r1 (.lst ((L.drop 1).map V.str))
      generalize upd H8 r1 (.lst ((L.drop 1).map V.str)) = H9 at *
      refine ⟨_, rfl, 1, rfl, D, _, rfl, SqL.of (t9 _ _ eD8), fun r2 nr2 => ?_⟩
      rw [cut_to1]
      obtain ⟨w10, s10⟩ := well_new (o := .lst ((L.take 1).map V.str)) w9 nr2
      have t10 := same_upd (o := .lst ((L.take 1).map V.str)) nr2
      have e10 := @upd_same H9 r2 (.lst ((L.take 1).map V.str))
      generalize upd H9 r2 (.lst ((L.take 1).map V.str)) = H10 at *
      refine ⟨r1, r2, _, _, rfl, rfl, t10 _ _ e9, e10, Nat.le_of_lt (small1000 (by rw [List.length_map, List.length_map, List.length_drop, List.length_take]; omega)), fun r3 nr3 => ?_⟩
      rw [← List.map_append]
      obtain ⟨w11, s11⟩ := well_new (o := .lst ((L.drop 1 ++ L.take 1).map V.str)) w10 nr3
      have r3a := w10.ne nr3
      have pm : (L.drop 1 ++ L.take 1).Perm L := by
        have := List.take_append_drop 1 L
        conv => rhs; rw [← this]
        exact List.perm_append_comm
      exact hNx _ _ ⟨_, r3, L.drop 1 ++ L.take 1, rfl, s08.trans (s9.trans (s10.trans s11)), w11.mono (by omega), (s9.trans (s10.trans s11)) _ _ (by rw [hid_ne Da]; exact eD8), by rw [hid_ne r3a]; exact upd_same, pm.length_eq, pm.nodup_iff.mpr ndL, fun z hz => inL z (pm.mem_iff.mp hz)⟩
end
end Fb
namespace Fb
open PySem PySem.Spec PyProof.Rows L2
section
open LamX
variable {P : Program} {w : World} {K : PySem.W.Frag} {mg mb : Str → Option Value}
/-- what is tracked at the beginning: the script, where the written part doesn't tell it, and the empty tables -/
def firstH (K : PySem.W.Frag) (cs : List (Addr × Addr)) (a : Addr) (o : Obj) (xs : List V) : Hp := fun b => if b = a then (if K.lookup a = none then some (.frz o (.lst xs)) else none) else if b ∈ cs.map (·.2) then some (.tbl #[]) else none
theorem begin_atT {s : Shared} {a : Addr} {vs : List Value} {ns : List Int} {cs : List (Addr × Addr)} (kin : K.In s.heap) (glob : s.heap.Ns mainGlobals mg) (blt : s.heap.Ns builtinsNs mb) (boot : ∀ x : Str, x ≠ "__name__" → mb x = bootBuiltins x) (lim : s.heap.NoLimit) (gens : s.gens = #[])
    (tabs : ∀ p ∈ cs, s.heap.get? p.2 = some { cls := .none, data := .fields #[] }) (noK : ∀ p ∈ cs, K.lookup p.2 = none) (codes : ∀ p ∈ cs, PySem.W.CodeHd s.heap p.1 p.2)
    (bmain : ∃ (bm : Addr) (ob : Obj), mg "__builtins__" = some (.ref bm) ∧ bm ≠ builtinsNs ∧ s.heap.get? bm = some ob ∧ ob.cls = .type "module" ∧ ob.dict = some builtinsNs ∧ ob.data = .plain)
    (obj : s.heap.get? a = some { cls := .type "list", data := .seq vs.toArray }) (isn : IntsAre vs ns) (few : ns.length ≤ sizeLine) :
    ∃ (base : Heap) (H : Hp), K.In base ∧ base.Ns mainGlobals mg ∧ Env0 P w K mg base callerA [] s H ∧ SqL K H a (ns.map V.int) ∧ (∀ p ∈ cs, H p.2 = some (.tbl #[])) ∧ (∀ p ∈ cs, TabB base mg p.1 p.2) ∧ ∀ b o, s.heap.get? b = some o → H b = none ∨ (b ∈ cs.map (·.2) ∧ H b = some (.tbl #[])) ∨ ∃ u, H b = some (.frz o u) := by
  have rv := vals_ints isn
  obtain ⟨ob, hob⟩ : ∃ ob : Obj, ob = { cls := .type "list", data := .seq vs.toArray } := ⟨_, rfl⟩
  rw [← hob] at obj
  have at_ : ∀ b, b ∈ cs.map (·.2) → s.heap.get? b = some { cls := .none, data := .fields #[] } ∧ K.lookup b = none := fun b hb => by
    obtain ⟨p, hp, rfl⟩ := List.mem_map.mp hb
    exact ⟨tabs p hp, noK p hp⟩
  have out : a ∉ cs.map (·.2) := fun h => by
    have e := (at_ a h).1
    rw [obj, hob] at e
    cases e
  obtain ⟨H, hH⟩ : ∃ H, H = firstH K cs a ob (ns.map V.int) := ⟨_, rfl⟩
  have told : ∀ {b : Addr} {u : HO}, H b = some u → (b = a ∧ K.lookup a = none ∧ u = .frz ob (.lst (ns.map V.int))) ∨ (b ∈ cs.map (·.2) ∧ u = .tbl #[]) := fun {b u} h => by
    rw [hH] at h
    unfold firstH at h
    by_cases c : b = a
    · rw [if_pos c] at h
      by_cases k : K.lookup a = none
      · rw [if_pos k] at h
        exact .inl ⟨c, k, (Option.some.inj h).symm⟩
      · rw [if_neg k] at h
        cases h
    · rw [if_neg c] at h
      by_cases m : b ∈ cs.map (·.2)
      · rw [if_pos m] at h
        exact .inr ⟨m, (Option.some.inj h).symm⟩
      · rw [if_neg m] at h
        cases h
  have tabH : ∀ b, b ∈ cs.map (·.2) → H b = some (.tbl #[]) := fun b hb => by
    have c : b ≠ a := fun z => out (z ▸ hb)
    rw [hH]
    exact (if_neg c).trans (if_pos hb)
  have free : ∀ {b : Addr} {o : Obj}, s.heap.get? b = some o → (∀ vs n, o.data ≠ .seq vs n) → o.data ≠ .fields #[] → H b = none := fun {b o} e n1 n2 => by
    cases q : H b with
    | none => rfl
    | some u =>
      rcases told q with ⟨z, _, _⟩ | ⟨z, _⟩
      · rw [z, obj, hob] at e
        cases e
        exact absurd rfl (n1 _ _)
      · rw [(at_ b z).1] at e
        cases e
        exact absurd rfl n2
  have get : ∀ {b : Addr} {o : Obj}, s.heap.get? b = some o → H b = none → (hidT s.heap H).get? b = some o := fun e c => hidT_get e c
  have nsp : ∀ {b : Addr} {m : Str → Option Value}, s.heap.Ns b m → (hidT s.heap H).Ns b m := by
    rintro b m ⟨o, es, ep, e, d, r⟩
    refine ⟨o, es, ep, get e (free e (fun vs n z => ?_) fun z => ?_), d, r⟩
    · rw [d] at z
      cases z
    · rw [d] at z
      cases z
  have kin' : K.In (hidT s.heap H) := fun b o e => get (kin b o e) (by
    cases q : H b with
    | none => rfl
    | some u =>
      rcases told q with ⟨z, k, _⟩ | ⟨z, _⟩
      · rw [z, k] at e
        cases e
      · rw [(at_ b z).2] at e
        cases e)
  have hok : HOk P w H s.heap := fun b u e => by
    rcases told e with ⟨rfl, _, rfl⟩ | ⟨z, rfl⟩
    · exact ⟨obj, by rw [List.length_map]; exact few, vs, _, rv, by rw [obj, hob]⟩
    · exact (at_ b z).1
  refine ⟨hidT s.heap H, H, kin', nsp glob, ⟨rfl, ⟨kin', nsp glob, ⟨mb, nsp blt, boot⟩, lim.elim fun mc h => ⟨mc, nsp h.1, h.2⟩⟩, fun b o e => of_hidT e, Nat.le_of_eq (hidT_size _ _), trivial, (fun b hb => by cases hb), hok, .of_eq gens⟩, ?_, fun p hp => tabH _ (List.mem_map.mpr ⟨p, hp, rfl⟩), fun p hp => ⟨?_, ?_, fun z => ?_⟩, fun b o e => ?_⟩
  · cases lk : K.lookup a with
    | none => exact .inl (.inr ⟨ob, by rw [hH]; exact (if_pos rfl).trans (if_pos lk)⟩)
    | some o =>
      have e := kin a o lk
      rw [obj] at e
      have e := Option.some.inj e
      subst e
      subst hob
      exact .inr ⟨_, vs.toArray, _, lk, rfl, rfl, rfl, by rw [List.size_toArray, isn.length]; exact few, by simpa using rv⟩
  · obtain ⟨o, us, file, tf, flags, tg, inF, text, tt, e1, r1, r2, r3, r4, r5, r6, r7, r8, hne⟩ := codes p hp
    refine ⟨o, us, file, tf, flags, tg, inF, text, tt, get e1 (free e1 (fun vs n z => ?_) fun z => ?_), r1, r2, r3, r4, r5, r6, r7, r8, hne⟩
    · rw [r2] at z
      cases z
    · rw [r2] at z
      cases z
      simp at r3
  · obtain ⟨bm, ob', b1, b2, b3, b4, b5, b6⟩ := bmain
    have nG : bm ≠ mainGlobals := fun q => by
      obtain ⟨o, es, ep, e, hd, _⟩ := glob
      rw [q, e] at b3
      cases b3
      rw [hd] at b6
      cases b6
    have nP : bm ≠ p.2 := fun q => by
      rw [q, tabs p hp] at b3
      cases b3
      cases b6
    refine ⟨bm, ob', b1, b2, nG, nP, get b3 (free b3 (fun vs n z => ?_) fun z => ?_), b4, b5, b6⟩
    · rw [b6] at z
      cases z
    · rw [b6] at z
      cases z
  · obtain ⟨o, es, ep, e, hd, _⟩ := glob
    rw [z, tabs p hp] at e
    cases e
    cases hd
  · cases hb : H b with
    | none => exact .inl rfl
    | some u =>
      rcases told hb with ⟨rfl, _, rfl⟩ | ⟨z, rfl⟩
      · rw [obj] at e
        cases e
        exact .inr (.inr ⟨_, rfl⟩)
      · exact .inr (.inl ⟨z, rfl⟩)
/-- the end: the tables are those of the defs named -/
theorem walk_ofTG {l : PySem.W.OpenLaw} {n k : Nat} {q : Program} {loose : List Str} {XP : (Str → Option Value) → Heap → Prop} {YP : World → Heap → Prop} {d : DefRec} {K : Params → PySem.W.Frag} {x : Str}
    (most : l.most = some n) (most2 : n ≤ sizeLine) (nodef : d.params.defaults = []) (hr : Room k callerA) (kin : ∀ (w : World) (h : Heap), YP w h → (K w.params).In h)
    (F : ∀ (w : World) (mg : Str → Option Value) (fa : Addr) (h : Heap), (K w.params).In h → h.Ns mainGlobals mg → mg d.name = some (.ref fa) →
      ∃ (fd : FuncData) (cs : List (Addr × Addr)) (sp : Sp), (∀ p ∈ cs, ∃ y dd, (recsOf q).find? (fun e => e.name == y) = some dd ∧ PySem.W.tabIn (K w.params) y = some p) ∧ (∀ p ∈ cs, (K w.params).lookup p.2 = none) ∧ (∀ (s : Shared) (u : Value), BindsTo s fd ⟨[u], []⟩ [(x, u)]) ∧
        (∀ (H : Hp) (a : Addr) (ns : List Int), ns.length ≤ n → (∀ p ∈ cs, H p.2 = some (.tbl #[])) → SqL (K w.params) H a (ns.map V.int) → sp [.ref a] H (fun v _ => v = .bl true) fun _ _ _ => False) ∧
        ∀ base : Heap, (K w.params).In base → base.Ns mainGlobals mg → (∀ p ∈ cs, TabB base mg p.1 p.2) → FnOkG l.prog w (K w.params) mg base CX0 k fa fd [x] sp) :
    PySem.W.WalkO q loose XP YP l.row.toRowW d [] (fun f vs => PySem.call f vs) := by
  apply Att.attach_call most nodef
  intro w s0 s1 mg mb fa o pm cd doc a vs ns G Y ho hd hcd hmg hobj hints hlen hg
  have KX := kin w _ Y
  obtain ⟨fd, cs, sp, tab, noK, bind, told, promise⟩ := F w mg fa _ KX G.T.g hmg
  have tb : ∀ p ∈ cs, PySem.W.CodeHd s1.heap p.1 p.2 ∧ s1.heap.get? p.2 = some { cls := .none, data := .fields #[] } := fun p hp => by
    obtain ⟨y, dd, h1, h2⟩ := tab p hp
    exact PySem.W.tab_of G.T KX h1 h2
  obtain ⟨base, H, kb, gb, e0, sq, hT, TB, old⟩ := begin_atT (P := l.prog) (w := w) (cs := cs) KX G.T.g G.T.b G.T.builtins G.T.nolimit hg (fun p hp => (tb p hp).2) noK (fun p hp => (tb p hp).1) G.T.bmain hobj hints (Nat.le_trans hlen most2)
  refine codeAny_mono ((promise base kb gb TB).go callerA [] s1 H ⟨[.ref a], []⟩ [.ref a] [.ref a] (fun v _ => v = .bl true) (fun _ _ _ => False) ⟨rfl, hr, e0, bind s1 (.ref a), .cons rfl .nil, told H a ns hlen hT sq⟩) ?_
  intro r s2 end'
  match r, end' with
  | .ok (.ret u), ⟨v, H2, os, bare, un, hok, ru, tv⟩ =>
    have tv : v = .bl true := tv
    subst tv
    have ru : u = Value.bool true := ru
    subst ru
    have grown : ∀ p ∈ cs, ∃ more : Array Value, s2.heap.get? p.2 = some { cls := .none, data := .fields more } := fun p hp => by
      obtain ⟨more, z⟩ := un.tbls p.2 #[] (hT p hp)
      exact ⟨_, hok p.2 _ z⟩
    have stays : ∀ b ob, b ∉ cs.map (·.2) → s1.heap.get? b = some ob → s2.heap.get? b = some ob := fun b ob nb e => by
      rcases old b ob e with z | ⟨z, _⟩ | ⟨u2, fb⟩
      · exact un.keep b ob e z (fun c => by cases c) (by simp)
      · exact absurd z nb
      · exact (hok b _ (un.frzs b ob _ fb)).1
    refine ⟨rfl, ⟨fun b ob e => ?_, fun b ob e => ?_⟩, os, bare⟩
    · by_cases hb : b ∈ cs.map (·.2)
      · obtain ⟨p, hp, ep⟩ := List.mem_map.mp hb
        obtain ⟨more, hm⟩ := grown p hp
        rw [← ep] at e ⊢
        rw [(tb p hp).2] at e
        cases e
        exact .inr (.inl ⟨((tb p hp).1.tab (tb p hp).2).isCodeTable, rfl, #[], more, rfl, by rw [Array.empty_append]; exact hm⟩)
      · exact .inl (stays b ob hb e)
    · by_cases hb : b ∈ cs.map (·.2)
      · obtain ⟨p, hp, ep⟩ := List.mem_map.mp hb
        obtain ⟨more, hm⟩ := grown p hp
        rw [← ep]
        exact ⟨_, hm⟩
      · exact ⟨ob, stays b ob hb e⟩
/-- the code of a def whose table the written part tells -/
theorem code_is {x : Str} {c P f : Addr} {oc : Value} {od : Option Addr} {fd : FuncData} {sl : Array (Option Value)} (ht : PySem.W.tabIn K x = some (c, P)) (hn : PySem.W.nsIn K mainGlobals x = some (some (.ref f))) (hl : K.lookup f = some ⟨oc, od, .func fd, sl⟩) : fd.code = .ref c := by
  unfold PySem.W.tabIn at ht
  rw [hn] at ht
  dsimp only at ht
  rw [hl] at ht
  dsimp only at ht
  split at ht
  · rename_i c2 hc
    split at ht
    · split at ht
      · cases ht
        exact hc
      · cases ht
    · cases ht
  · cases ht
end
section
variable {P : Program} {w : World} {K : PySem.W.Frag} {mg : Str → Option Value} {base : Heap}
/-- a def by its body, where no repr is under way and its code is told -/
theorem Fun.okGC {x qual : Str} {st : Stmt} {f c : Addr} {fd : FuncData} {N ps : List Str} {k : Nat} {sp : Sp} (F : Fun K x qual st f fd) (hc : fd.code = .ref c) (S : FnScope N ps (defScope st)) (ln : ∀ vs H Q E, sp vs H Q E → vs.length = ps.length)
    (body : ∀ (A : Around) (outer : List Env) (s : Shared) (H : Hp) (vs : List V) (Q : VK) (E : XK), A.guards = some [] → Room k (A.deeper (envOfC qual (defScope st) s.heap.objs.size f (.ref c))) → sp vs H Q E →
      ∃ t, PSs (cxOf CX0 P w K mg base N qual (defScope st) f (.ref c) A outer s H E).nox (defBody st) t ∧ t { nx := fun _ H2 => Q .non H2, rt := Q } (start N vs) H) : FnOkG P w K mg base CX0 (k + 1) f fd ps sp where
  ln := ln
  go := by
    rintro A outer s H args us vs Q E ⟨gd, hr, e0, hb, rv, hsp⟩
    obtain ⟨oc, od, kV, doc, pm, an, cdv, ct, osl, rfl, look, rec⟩ := F.ex
    obtain rfl : cdv = .ref c := hc
    obtain ⟨kin, lim⟩ := env0_in e0
    obtain ⟨t, pss, reads⟩ := body A outer s H vs Q E gd (hr.deeper _) hsp
    have pss := pss.nox
    have par : ∀ y ∈ ps.zip us, (defScope st).names.lookup y.1 = some .local ∨ ((defScope st).names.lookup y.1 = some .cell ∧ ((cellsFrom (s.heap.objs.size + 1) (defScope st).names []).lookup y.1).isSome = true) := by
      intro y hy
      obtain ⟨n, v⟩ := y
      have hn := S.par n (List.of_mem_zip hy).1
      exact hn.imp id fun c => ⟨c, PySem.W.cellsFrom_some _ _ _ (Or.inl c)⟩
    apply codeAny_call_function hr.depth (kin _ _ look) rfl S.co S.gen rfl (PySem.W.codeRec_of kin rec)
    apply hb
    apply wpAny_newFunctionEnv_cells S.kind par
    rintro env rfl s1 inn
    constructor
    · exact lim.keeps inn.toInCall.keep
    apply codeAny_func
    have I0 := inv_start (CX := CX0) (P := P) (w := w) (K := K) (mg := mg) (base := base) (E := E) S hr.hd e0 (ln _ _ _ _ hsp) rv inn
    apply wpAny_mono (pss.run [] s1 (start N vs) H _ I0 reads)
    · intro fl s2 hfl
      match fl, hfl with
      | .ret u, ⟨v, σ2, H2, I2, r2, q2⟩ => exact body_end I2 r2 q2
      | .next, ⟨σ2, H2, I2, q2⟩ => exact body_end (v := .non) (u := .none) I2 rfl q2
      | .brk, ⟨_, _, _, no⟩ => exact no.elim
      | .cont, ⟨_, _, _, no⟩ => exact no.elim
    · exact fun _ _ h => h
end
section
/-- the written part tells the table of the def named, and not what it holds -/
def tabOk (K : PySem.W.Frag) (x : Str) : Bool := match PySem.W.tabIn K x with
  | some p => (K.lookup p.2).isNone
  | none => false
theorem tabOk_ex {K : PySem.W.Frag} {x : Str} (h : tabOk K x = true) : ∃ c P, PySem.W.tabIn K x = some (c, P) ∧ K.lookup P = none := by
  unfold tabOk at h
  split at h
  · rename_i p e
    exact ⟨p.1, p.2, e, Option.isNone_iff_eq_none.mp h⟩
  · cases h
end
end Fb
namespace Fb
open PySem PySem.Spec PyProof.Rows L2
section
open LamX
variable {K : PySem.W.Frag} {mg : Str → Option Value}
theorem excCS (T : Txt K mg) : ExcC K T.c_NoSign := ⟨T.i_NoSign_hg, T.i_NoSign_hk, T.i_NoSign_sb, T.i_NoSign_hd, T.i_NoSign_ha, T.i_NoSign_hn, T.i_NoSign_ht, T.i_NoSign_hm⟩
theorem exmSS (T : Txt K mg) : PySem.W.exmOne K (.ref T.c_NoSign) (.ref T.c_NoSign) = some true := PySem.W.exm_ref T.y_NoSign_sb T.y_NoSign_hd T.y_NoSign_ty T.sub_NoSign_NoSign
theorem call_reprK {X : Cx} {K : PySem.W.Frag} (hK : X.K = K) (gd : X.A.guards = some []) (hu : X.A.units + 64 < cLine) : CallR X (.builtin "repr") (rRepr K) := hK ▸ call_repr gd hu
def TTSaid (C N : Addr) : (XK → Hp → VK → Prop) → Hp → VK → Prop := fun tl H Q => ∀ (Es : XK) (Qs : VK),
  (∀ (v : V) (ps : List (Str × Str)) (dd : Addr) (H' : Hp), H' dd = some (.xd [("sign", v)]) → IsPqs H' v ps → PrsOk ps → (∀ H2 t, Same H' H2 → H2 t = some (.tup [.str "sign", .str (prsD ps).shown, .bl true]) → Q (.ref t) H2) → Es (.ref N) (some dd) H') →
  (∀ (v : V) (m : Nat) (out : List Stp) (H' : Hp), IsMach C H' v m out → (∀ H2 u, Same H' H2 → IsTold H2 u m out → Q u H2) → Qs v H') → tl Es H Qs
theorem takes_len {X : Cx} {W : WX} (tk : Takes X W) : Takes X (fun cls d σ H => σ.length = X.N.length → W cls d σ H) := fun e s xx => by
  obtain ⟨a, B, sI, pins', σ', H', cls, d, e1, J, nb, up, sky, na, os, ag, w⟩ := xx
  exact tk e s ⟨a, B, sI, pins', σ', H', cls, d, e1, J, nb, up, sky, na, os, ag, w J.len⟩
theorem three {α : Type} {l : List α} (h : l.length = 3) : ∃ x y z, l = [x, y, z] :=
  match l, h with
  | [x, y, z], _ => ⟨x, y, z, rfl⟩
theorem said_gives {X : Cx} (T : Txt X.K X.mg) (gd : X.A.guards = some []) {k : Nat} (hr : Room (k + 1) X.A) {g : Addr} {cdg : Value} {q : Str} :
    GivesTo X ["_law_deed", "_law_found", "e"] "_law_said" (defScope s_l_said) g cdg (defBody s_l_said) "_law_deed" q (TTSaid T.c_Machine T.c_NoSign) := by
  intro f c' s H Q tl act hc h
  refine ⟨_, pss_cons (ps_try_manyN (X := (cxOf C8.CX0 X.prog X.w X.K X.mg X.base ["_law_deed", "_law_found", "e"] "_law_said" (defScope s_l_said) g cdg X.A X.stack s H C8.E0).nox) rfl rfl sc_l_said.nd L2.takes0
      (tb := fun W D σ H => ∃ Ech : XK, (∀ cls d σ' H', Ech cls d H' → σ'.length = 3 → W cls d σ' H') ∧ σ[0]? = some (some (.ref f)) ∧ H c' = some (CodeO c' q) ∧ tl Ech H (fun v H1 => gName 1 v σ H1 D.nx))
      (fun W pn xe tk _ => ?_)
      (HdsN.as (i := 2) rfl rfl ⟨rfl, by decide, .inl T.g_NoSign⟩ (fun a oe cls d pn hz hf => pss_one (ps_ret (pe_tup (pa_cons pe_str (pa_cons (pe_callB (call_reprK (K := X.K) rfl gd (by have := hr.un; show X.A.units + 3 + 64 < cLine; omega)) (by rfl) T.z_repr (by decide +kernel) (pa_cons (pe_xf (xfS T) T.i_NoSign_no hz hf (pv 2)) pa_nil)) (pa_cons (pe_callB (call_isErrD (K := X.K) rfl hz hf) (by rfl) T.z_isinstance (by decide +kernel) (pa_cons (pv 2) (pa_cons (pe_glob (v := .ref T.c_FarError) (by rfl) T.g_FarError rfl) pa_nil))) pa_nil))))))
      (HdsN.cons ⟨rfl, by decide, .inl T.g_FarError⟩ (fun a oe cls d pn hz hf => pss_one (ps_ret (pe_tup (pa_cons pe_str pa_nil))))
      .nil)))
    (pss_one (ps_ret (pe_tup (pa_cons pe_str (pa_cons (pe_fld (pv 1) rfl) (pa_cons (pe_fld (pv 1) rfl) pa_nil)))))), ?_⟩
  · refine ⟨fun pins s' σ H' D I h' => ?_⟩
    obtain ⟨Ech, hW, h1, h2, h3⟩ := h'
    exact (pss_one (ps_set (i := 1) sc_l_said.nd rfl (.inl rfl) (act _ pn xe Ech _ _ (takes_len tk) hW))).run pins s' σ H' D I ⟨h1, h2, h3⟩
  · refine ⟨fun cls d H' => ∃ (v : V) (ps : List (Str × Str)) (dd : Addr), cls = .ref T.c_NoSign ∧ d = some dd ∧ H' dd = some (.xd [("sign", v)]) ∧ IsPqs H' v ps ∧ PrsOk ps ∧ ∀ H2 t, Same H' H2 → H2 t = some (.tup [.str "sign", .str (prsD ps).shown, .bl true]) → Q (.ref t) H2,
      fun cls d σ' H' hE hl => ?_, rfl, hc, h _ _ (fun v ps dd H' e ip ok q => ⟨v, ps, dd, rfl, rfl, e, ip, ok, q⟩) (fun v m out H' im q => ?_)⟩
    · obtain ⟨v, ps, dd, rfl, rfl, e, ip, ok, q⟩ := hE
      obtain ⟨x, y, z, rfl⟩ := three hl
      refine ⟨true, exmSS T, fun _ a na => ?_, fun z => nomatch z⟩
      refine ⟨_, rfl, rfl, rfl, dd, _, _, rfl, e, rfl, at_nil (rep_prs ip ok ?_)⟩
      refine ⟨_, rfl, T.c_NoSign, dd, _, _, _, true, rfl, rfl, e, excCS T, rfl, .own _, T.kit_NoSign_FarError, by show 3 ≤ sizeLine; decide, fun p np => ?_⟩
      exact q _ p (same_upd np) upd_same
    · obtain ⟨p, dx', r, svs, ep, hp, hr0, av⟩ := id im
      cases ep
      refine ⟨_, rfl, p, _, _, _, _, rfl, hp, T.cl_Machine, T.n_Machine_many, mflds_many m r, _, rfl, p, _, _, _, _, rfl, hp, T.cl_Machine, T.n_Machine_steps, mflds_steps m r, by show 3 ≤ sizeLine; decide, fun t nt => ?_⟩
      have st := same_upd (o := .tup [.str "told", .int (m : Nat), .ref r]) nt
      exact q _ _ st ⟨t, r, svs, rfl, upd_same, st _ _ hr0, av.imp fun _ _ h => h.mono st⟩
end
end Fb
namespace Fb
open PySem PySem.Spec PyProof.Rows L2
section
open LamX
theorem pe_said {X : Cx} (T : Txt X.K X.mg) {c P : Addr} {params : Arguments} {body : Expr} {scope : Scope} {t : XK → TE} {p lpos pos : Pos} {k : Nat} (gd : X.A.guards = some []) (hr : Room (k + 2) X.A) (TB : TabB X.base X.mg c P) (hcode : X.env.code = .ref c) (hg : Gl X "_law_said")
    (L : LamS X.env.scope scope) (hdef : defaultsOf params X.env = ([], []))
    (hbind : ∀ (q : Str) (cl : List (Str × Addr)) (pm cv ctv : Value), bindArgs (PySem.W.kla_fn "<lambda>" q params body scope cl pm cv ctv) ⟨[], []⟩ = pure [])
    (hbody : ∀ (A : Around) (outer : List Env) (s : Shared) (H : Hp) (E : XK) (f c' : Addr), Room k (A.deeper (lamEnv X scope s.heap.objs.size f c')) → PE (lamCx X A outer s H E scope f c') body (t E)) :
    PE X (.Call (.Name "_law_said" p) [.Lambda params body scope lpos] [] pos) (tLam [(P, X.env.qual ++ "<lambda>")] (TTSaid T.c_Machine T.c_NoSign) t) := by
  obtain ⟨oc, od, kV, doc, pm, an, cdv, ct, osl, efd, look, rec⟩ := T.F_l_said.ex
  have b := T.b_l_said
  rw [efd] at look b
  refine pe_lamcall (x := "_law_said") (a := "_law_deed") (Ng := ["_law_deed", "_law_found", "e"]) hg T.g_l_said T.F_l_said.kp look rec b sc_l_said rfl (.inl rfl) (said_gives (k := k + 1) T gd hr) TB hcode (List.mem_singleton.mpr rfl) (fun q hq _ => ?_) hr L hdef hbind hbody
  rw [List.mem_singleton.mp hq]
end
end Fb
namespace Fb
open PySem PySem.Spec PyProof.Rows L2
section
variable {P : Program} {w : World} {K : PySem.W.Frag} {mg : Str → Option Value} {base : Heap}
theorem low_sum_le (ws : List Nat) : (low ws).sum ≤ ws.sum := by
  unfold low
  generalize gcdF 0 ws = g
  induction ws with
  | nil => exact Nat.le_refl _
  | cons n ws ih =>
    rw [List.map_cons, List.sum_cons, List.sum_cons]
    have := Nat.div_le_self n g
    omega
theorem sum_le_mul {b : Nat} : ∀ ws : List Nat, (∀ n ∈ ws, n ≤ b) → ws.sum ≤ ws.length * b
  | [], _ => Nat.zero_le _
  | n :: ws, h => by
    have h1 := h n List.mem_cons_self
    have h2 := sum_le_mul ws fun x hx => h x (List.mem_cons_of_mem _ hx)
    rw [List.sum_cons, List.length_cons, Nat.succ_mul]
    omega
theorem out_sums {ss out : List Stp} {c : Nat} (so : SortedOf ss out) (h : ∀ s ∈ ss, s.ws.sum ≤ c) : (∀ s ∈ out, s.ws.sum ≤ c) ∧ out.length = ss.length := by
  refine ⟨fun s hs => ?_, by rw [so.1.length_eq, List.length_map]⟩
  obtain ⟨s0, h0, rfl⟩ := List.mem_map.mp (so.1.mem_iff.mp hs)
  exact Nat.le_trans (low_sum_le s0.ws) (h s0 h0)
theorem DS.sums {m k : Nat} {zs : List Str} {ss : List Stp} (h : DS m zs m 0 ss) (ok : NmsOk k zs) (k4 : k ≤ 4) (m1 : 1 ≤ m) (m12 : m ≤ 12) : StpsOk m ss ∧ ss.length ≤ m * k ∧ ∀ s ∈ ss, s.ws.sum ≤ m * 20 := by
  have h1 := h.len
  rw [ok.len] at h1
  have h2 : m * k ≤ 12 * 4 := Nat.mul_le_mul m12 k4
  refine ⟨⟨m1, m12, by omega, fun s hs => (h.all s hs).1, h.once⟩, by omega, fun s hs => ?_⟩
  have o := h.all s hs
  have := sum_le_mul s.ws o.2.2.1
  rw [o.1.wts.len] at this
  exact this
end
end Fb
namespace Fb
open PySem PySem.Spec PyProof.Rows L2
section
open LamX
variable {P : Program} {w : World} {K : PySem.W.Frag} {mg : Str → Option Value} {base : Heap}
theorem ok_app {x y : Str} (hx : PyData.strOk x = true) (hy : PyData.strOk y = true) : PyData.strOk (x ++ y) = true := by
  show (x.cps ++ y.cps).all _ = true
  rw [Array.all_append, Bool.and_eq_true]
  exact ⟨hx, hy⟩
theorem quote_in (x : Str) : reprQuote x = 34 ∨ reprQuote x = 39 := by
  unfold reprQuote
  split
  · exact .inl rfl
  · exact .inr rfl
theorem char_ok : ∀ q ∈ [34, 39], ∀ c ∈ letters, (Builtin.Str.reprChar q c).all (fun d => decide (d < 0x110000)) = true := by decide +kernel
theorem repr_ok {x : Str} (h : NmOk x) : PyData.strOk (reprText x) = true := by
  have hq : reprQuote x ∈ [34, 39] := by
    rcases quote_in x with e | e <;> rw [e] <;> simp
  have hq2 : decide (reprQuote x < 0x110000) = true := by
    rcases quote_in x with e | e <;> rw [e] <;> decide
  show (Array.push _ _).all _ = true
  rw [Array.all_push, Bool.and_eq_true]
  refine ⟨?_, hq2⟩
  rw [← Array.foldl_toList]
  have key : ∀ (l : List Nat) (acc : Array Nat), (∀ c ∈ l, c ∈ letters) → acc.all (fun d => decide (d < 0x110000)) = true → (l.foldl (fun out c => out ++ (Builtin.Str.reprChar (reprQuote x) c).toArray) acc).all (fun d => decide (d < 0x110000)) = true := fun l => by
    induction l with
    | nil => exact fun acc _ h => h
    | cons c l ih =>
      intro acc hl ha
      refine ih _ (fun d hd => hl d (List.mem_cons_of_mem _ hd)) ?_
      rw [Array.all_append, ha, Bool.true_and, List.all_toArray]
      exact char_ok _ hq c (hl c List.mem_cons_self)
  refine key _ _ (fun c hc => h.all c hc) ?_
  rw [← Array.all_toList]
  show (decide (reprQuote x < 0x110000) && true) = true
  rw [hq2]
  rfl
theorem from_ok : ∀ (ts : List Str) (k : Nat) (acc : Str), PyData.strOk acc = true → (∀ t ∈ ts, PyData.strOk t = true) → PyData.strOk (textFrom k acc ts) = true
  | [], _, _, h, _ => h
  | t :: r, k, acc, h, ht => by
    refine from_ok r (k + 1) _ (ok_app (ok_app h ?_) (ht t List.mem_cons_self)) fun x hx => ht x (List.mem_cons_of_mem _ hx)
    split <;> decide +kernel
theorem shown_all (ds : List PyData) : PyData.shownAll ds = ds.map PyData.shown := by
  induction ds with
  | nil => rfl
  | cons d ds ih => rw [PyData.shownAll, ih]; rfl
theorem prs_ok {ps : List (Str × Str)} (ok : PrsOk ps) : PyData.strOk (prsD ps).shown = true := by
  show PyData.strOk (listText (PyData.shownAll (ps.map prD))) = true
  refine ok_app (from_ok _ _ _ (by decide +kernel) fun t ht => ?_) (by decide +kernel)
  rw [shown_all, List.map_map] at ht
  obtain ⟨p, hp, rfl⟩ := List.mem_map.mp ht
  obtain ⟨n1, n2⟩ := ok.ok p hp
  show PyData.strOk (tupleText [reprText p.1, reprText p.2]) = true
  refine ok_app (ok_app (by decide +kernel) ?_) (show PyData.strOk (")" : Str) = true by decide +kernel)
  show PyData.strOk (reprText p.1 ++ ", " ++ reprText p.2) = true
  exact ok_app (ok_app (repr_ok n1) (by decide +kernel)) (repr_ok n2)
theorem sign_ok : PyData.strOk ("sign" : Str) = true := by decide +kernel
theorem told_ok : PyData.strOk ("told" : Str) = true := by decide +kernel
theorem ne_sign {H : Hp} {t u : Addr} {z : Str} {Q : VK} (hz : PyData.strOk z = true) (ht : H t = some (.tup [.str "sign", .str z, .bl true])) (hu : H u = some (.tup [.str "sign", .str z, .bl true])) (q : Q (.bl false) H) : rNeD K (.ref t) (.ref u) H Q := by
  have sh : SeqAt.shaped (.tuple [.str "sign", .str z, .bool true]) = true := by
    unfold SeqAt.shaped
    rw [Bool.and_eq_true]
    exact ⟨by simp [PyData.canLay0, PyData.canLayAll0, hz, sign_ok], decide_eq_true (by simp [PyData.depth, PyData.depthAll])⟩
  have dp : ∀ {a : Addr}, H a = some (.tup [.str "sign", .str z, .bl true]) → Dp K H (.ref a) (.tuple [.str "sign", .str z, .bool true]) := fun h => .tup (.inl (.inl h)) (.cons (.str _) (.cons (.str _) (.cons (.bl _) .nil)))
  refine ⟨_, _, dp ht, dp hu, sh, sh, ?_⟩
  rw [SeqAt.eqv_refl _ (SeqAt.canLay_of_shaped sh)]
  exact q
theorem lay_nts : ∀ ws : List Nat, PyData.canLayAll0 (ws.map fun (n : Nat) => PyData.int (n : Int)) = true ∧ PyData.depthAll (ws.map fun (n : Nat) => PyData.int (n : Int)) = 0
  | [] => ⟨rfl, rfl⟩
  | n :: ws => by
    obtain ⟨h1, h2⟩ := lay_nts ws
    constructor
    · simp [PyData.canLayAll0, PyData.canLay0, h1]
    · simp [PyData.depthAll, PyData.depth, h2]
theorem lay_stps : ∀ ss : List Stp, (∀ s ∈ ss, NmOk s.sign) → PyData.canLayAll0 (ss.map stpD) = true ∧ PyData.depthAll (ss.map stpD) ≤ 2
  | [], _ => ⟨rfl, Nat.zero_le _⟩
  | s :: ss, hs => by
    obtain ⟨h1, h2⟩ := lay_stps ss (fun x hx => hs x (List.mem_cons_of_mem _ hx))
    obtain ⟨h3, h4⟩ := lay_nts s.ws
    have h5 := nm_strOk (hs s List.mem_cons_self)
    constructor
    · simp [PyData.canLayAll0, h1, stpD, PyData.canLay0, h3, h5]
    · simp only [List.map_cons, PyData.depthAll, stpD, PyData.depth, h4]
      omega
theorem dp_told {H : Hp} {x : V} {n : Nat} {out : List Stp} (h : IsTold H x n out) : Dp K H x (.tuple [.str "told", .int (n : Nat), .list (out.map stpD)]) := by
  obtain ⟨t, r, svs, rfl, h1, h2, h3⟩ := h
  exact .tup (.inl (.inl h1)) (.cons (.str _) (.cons (.int _) (.cons (.lst (SqL.of h2) (dpAll_stps h3)) .nil)))
theorem ne_told {H : Hp} {x y : V} {n : Nat} {out : List Stp} {Q : VK} (hs : ∀ s ∈ out, NmOk s.sign) (hx : IsTold H x n out) (hy : IsTold H y n out) (q : Q (.bl false) H) : rNeD K x y H Q := by
  obtain ⟨h1, h2⟩ := lay_stps out hs
  have sh : SeqAt.shaped (.tuple [.str "told", .int (n : Nat), .list (out.map stpD)]) = true := by
    unfold SeqAt.shaped
    rw [Bool.and_eq_true]
    refine ⟨by simp [PyData.canLay0, PyData.canLayAll0, h1, told_ok], decide_eq_true ?_⟩
    simp only [PyData.depth, PyData.depthAll]
    omega
  refine ⟨_, _, dp_told hx, dp_told hy, sh, sh, ?_⟩
  rw [SeqAt.eqv_refl _ (SeqAt.canLay_of_shaped sh)]
  exact q
theorem IsTold.mono {H H' : Hp} {x : V} {n : Nat} {out : List Stp} (h : IsTold H x n out) (s : Same H H') : IsTold H' x n out := by
  obtain ⟨t, r, svs, e, h1, h2, h3⟩ := h
  exact ⟨t, r, svs, e, s _ _ h1, s _ _ h2, h3.imp fun _ _ h => h.mono s⟩
section
variable {m : Nat} {ss o1 : List Stp} {ps : List (Str × Str)} {zs : List Str}
theorem only_so (so : SortedOf ss o1) : SortedOf (onlyF zs ss) (onlyF zs o1) := by
  refine ⟨(so.1.filter _).trans (List.Perm.of_eq ?_), ⟨so.2.up.filter _⟩⟩
  unfold onlyF
  rw [List.filter_map]
  rfl
theorem inj_iff (so : SortedOf ss o1) : InjS ps o1 ↔ InjS ps ss := by
  constructor
  · intro h s hs u hu e
    exact h (lowS s) (so.1.mem_iff.mpr (List.mem_map_of_mem hs)) (lowS u) (so.1.mem_iff.mpr (List.mem_map_of_mem hu)) e
  · intro h s hs u hu e
    obtain ⟨s0, h0, rfl⟩ := List.mem_map.mp (so.1.mem_iff.mp hs)
    obtain ⟨u0, k0, rfl⟩ := List.mem_map.mp (so.1.mem_iff.mp hu)
    exact h s0 h0 u0 k0 e
theorem ren_same {a b : List Stp} (so : SortedOf ss o1) (ok : MOk m o1) (ha : SortedOf (o1.map (renS ps)) a) (hb : SortedOf (ss.map (renS ps)) b) : a = b := by
  refine sorted_uniq ha.2 hb.2 (ha.1.trans (List.Perm.trans ?_ hb.1.symm))
  refine (((so.1.map (renS ps)).map lowS)).trans (List.Perm.of_eq ?_)
  rw [List.map_map, List.map_map, List.map_map]
  refine List.map_congr_left fun s hs => ?_
  have := ok.low (lowS s) (so.1.mem_iff.mpr (List.mem_map_of_mem hs))
  show (⟨_, _, low (low s.ws)⟩ : Stp) = ⟨_, _, low s.ws⟩
  have e : low (low s.ws) = low s.ws := this
  rw [e]
  rfl
theorem sg_ok {F : List Nat} {o2 : List Stp} (h : ∀ s ∈ ss, NmOk s.sign) (so : SortedOf (tr F ss) o2) : ∀ s ∈ o2, NmOk s.sign := fun s hs => by
  obtain ⟨s0, h0, rfl⟩ := List.mem_map.mp (so.1.mem_iff.mp hs)
  obtain ⟨s1, h1, rfl⟩ := List.mem_map.mp h0
  exact h s1 (List.mem_filter.mp h1).1
theorem sg_so {o2 : List Stp} (h : ∀ s ∈ ss, NmOk s.sign) (so : SortedOf ss o2) : ∀ s ∈ o2, NmOk s.sign := fun s hs => by
  obtain ⟨s0, h0, rfl⟩ := List.mem_map.mp (so.1.mem_iff.mp hs)
  exact h s0 h0
theorem only_nil (o : List Stp) : onlyF [] o = [] := by
  unfold onlyF
  rw [List.filter_eq_nil_iff]
  intro s _ h
  exact absurd (of_decide_eq_true h) (by simp)
theorem found_nil : foundOf [] m = [0] := by
  show bfs [] (m + 1) 0 [0] = [0]
  rw [bfs_go (r := 0) rfl]
  exact bfs_end (Nat.le_refl _)
theorem ren_nil (o : List Stp) : o.map (renS []) = o := by
  conv => rhs; rw [← List.map_id o]
  rfl
theorem prs_nil : PrsOk [] := ⟨Nat.zero_le _, (fun p hp => absurd hp List.not_mem_nil), List.nodup_nil, List.nodup_nil⟩
theorem inj_nil : InjS [] o1 := fun _ _ _ _ e => e
end
def noT (H : Hp) : Hp := fun b => match H b with
  | some (.tbl _) => none
  | x => x
theorem noT_at {H : Hp} {b : Addr} {o : HO} (h : H b = some o) (n : ∀ ps, o ≠ .tbl ps) : noT H b = some o := by
  unfold noT
  rw [h]
  cases o <;> first | rfl | exact absurd rfl (n _)
theorem noT_of {H : Hp} {b : Addr} {o : HO} (h : noT H b = some o) : H b = some o ∧ ∀ ps, o ≠ .tbl ps := by
  unfold noT at h
  cases e : H b with
  | none =>
    rw [e] at h
    cases h
  | some x =>
    rw [e] at h
    cases x <;> first | (cases h; exact ⟨rfl, fun _ => nofun⟩) | cases h
theorem noT_lst {H : Hp} {b : Addr} {xs : List V} (h : H b = some (.lst xs)) : noT H b = some (.lst xs) := noT_at h fun _ => nofun
theorem noT_tup {H : Hp} {b : Addr} {xs : List V} (h : H b = some (.tup xs)) : noT H b = some (.tup xs) := noT_at h fun _ => nofun
theorem IsStp.noT {H : Hp} {v : V} {s : Stp} (h : IsStp H v s) : IsStp (noT H) v s := by
  obtain ⟨t, wa, e, h1, h2⟩ := h
  exact ⟨t, wa, e, noT_tup h1, noT_tup h2⟩
theorem IsPqs.noT {H : Hp} {v : V} {ps : List (Str × Str)} (h : IsPqs H v ps) : IsPqs (noT H) v ps := by
  obtain ⟨a, xs, e, h1, h2⟩ := h
  refine ⟨a, xs, e, noT_lst h1, h2.imp fun _ _ ⟨t, e, h⟩ => ⟨t, e, noT_tup h⟩⟩
theorem IsMach.noT {C : Addr} {H : Hp} {v : V} {m : Nat} {out : List Stp} (h : IsMach C H v m out) : IsMach C (noT H) v m out := by
  obtain ⟨p, dx, r, svs, e, h1, h2, h3⟩ := h
  exact ⟨p, dx, r, svs, e, noT_at h1 fun _ => nofun, noT_lst h2, h3.imp fun _ _ h => h.noT⟩
/-- the tables stay where only the well changes -/
theorem tabs_well {T : List (Addr × Str)} {H H' : Hp} {a : Addr} {n : Nat} (t : Tabs T H) (w : WellAt H a n) (s : Same (hid a H) (hid a H')) : Tabs T H' := fun p hp => by
  obtain ⟨ps, h1, h2, h3⟩ := t p hp
  refine ⟨ps, hid_same _ _ (s _ _ (hid_keep w h1 fun _ => nofun)), h2, fun pos cv h => ?_⟩
  obtain ⟨c, e1, e2⟩ := h3 pos cv h
  refine ⟨c, e1, hid_same _ _ (s _ _ (hid_keep w e2 fun _ z => ?_))⟩
  unfold CodeO at z
  cases z
end
end Fb
namespace Fb
open PySem PySem.Spec PyProof.Rows L2
section
open LamX
variable {P : Program} {w : World} {K : PySem.W.Frag} {mg : Str → Option Value} {base : Heap}
abbrev lamQ : Str := (envOfC "_law_right" (defScope s_l_right) 0 0 .none).qual ++ "<lambda>"
def spRight (tp : Addr) : Sp := fun vs H Q _ => ∃ a : Addr, vs = [.ref a] ∧ WellAt H a 1099511627776 ∧ Tabs [(tp, lamQ)] H ∧ ∀ H', ExtN (hid a H) H' → Tabs [(tp, lamQ)] H' → Q (.bl true) H'
theorem dpAll_strs {H : Hp} : ∀ zs : List Str, DpAll K H (zs.map V.str) (zs.map PyData.str)
  | [] => .nil
  | z :: zs => .cons (.str z) (dpAll_strs zs)
def handD (sm : List Str) (prs : List (Str × Str)) : PyData := .tuple [.list (sm.map PyData.str), prsD prs]
theorem hand_sh {sm : List Str} {prs : List (Str × Str)} (h : ∀ z ∈ sm, NmOk z) (ok : PrsOk prs) : SeqAt.shaped (handD sm prs) = true := by
  have g1 : GD 2 (sm.length * 9 + 1200) (.list (sm.map PyData.str)) := (GD.list (n := 0) (w := 8) (fun d hd => by
    obtain ⟨z, hz, rfl⟩ := List.mem_map.mp hd
    exact gd_str (h z hz)) (Nat.le_of_eq (List.length_map ..))).mono (by decide) (by omega)
  have g2 := (gd_prs ok).mono (Nat.le_refl 2) (show 1200 ≤ sm.length * 9 + 1200 by omega)
  have g3 := GD.tup (n := 2) (w := sm.length * 9 + 1200) (k := 2) (ds := [.list (sm.map PyData.str), prsD prs]) (fun d hd => by
    rcases (by simpa using hd : d = .list (sm.map PyData.str) ∨ d = prsD prs) with rfl | rfl
    · exact g1
    · exact g2) (Nat.le_refl _)
  unfold SeqAt.shaped
  rw [Bool.and_eq_true]
  exact ⟨g3.cl, decide_eq_true (Nat.le_trans g3.dp (by decide))⟩
theorem IsStp.hidW {H : Hp} {a : Addr} {n : Nat} {v : V} {s : Stp} (w : WellAt H a n) (h : IsStp H v s) : IsStp (hid a H) v s := by
  obtain ⟨t, wa, e, h1, h2⟩ := h
  exact ⟨t, wa, e, hid_keep w h1 (fun _ => nofun), hid_keep w h2 (fun _ => nofun)⟩
theorem IsMach.hidW {C : Addr} {H : Hp} {a : Addr} {n m : Nat} {v : V} {out : List Stp} (w : WellAt H a n) (h : IsMach C H v m out) : IsMach C (hid a H) v m out := by
  obtain ⟨p, dx, r, svs, e, h1, h2, h3⟩ := h
  have ra : r ≠ a := fun z => by
    obtain ⟨w0, w1, w2, ea, _⟩ := w
    rw [z, ea] at h2
    cases h2
    obtain ⟨st, _, t, wa, e, _⟩ := h3.at (i := 0) rfl
    cases e
  exact ⟨p, dx, r, svs, e, hid_keep w h1 (fun _ => nofun), by rw [hid_ne ra]; exact h2, h3.imp fun _ _ h => IsStp.hidW w h⟩
theorem nms_take {zs : List Str} {k : Nat} (h : NmsOk 8 zs) (k4 : k ≤ 4) : NmsOk k (zs.take k) :=
  ⟨by rw [List.length_take, h.len]; omega, (List.take_sublist _ _).nodup h.nd, fun z hz => h.all z (List.mem_of_mem_take hz), fun z hz => h.src z (List.mem_of_mem_take hz)⟩
theorem cut_from4 (l : List Str) : cutV (l.map V.str) (some 4) none = (l.drop 4).map V.str := cut_fromS l 4
theorem cut_to6 (l : List Str) : cutV (l.map V.str) none (some 6) = (l.take 6).map V.str := cut_toS l 6
set_option maxHeartbeats 3200000 in
theorem ok_l_right (T : Txt K mg) {c tp : Addr} (hc : T.d_l_right.code = .ref c) (TB : TabB base mg c tp) : FnOkG P w K mg base CX0 11 T.f_l_right T.d_l_right ["_law_well_here"] (spRight tp) := by
  refine Fb.Fun.okGC T.F_l_right hc sc_l_right (fun vs H Q E h => ?_) (fun A outer s H vs Q E gd hr h => ?_)
  · obtain ⟨a, rfl, _⟩ := h
    rfl
  · obtain ⟨a, rfl, hw, tb, q⟩ := h
    refine ⟨_, (pss_cons (ps_set (i := 1) sc_l_right.nd rfl (.inl rfl) (pe_call (ok_l_names T) (hr.mono (by decide)) (by rfl) T.g_l_names T.F_l_names.kp T.b_l_names .nil pass0 (pa_cons (pv 0) (pa_cons pe_int pa_nil))))
 (pss_cons (ps_set (i := 2) sc_l_right.nd rfl (.inl rfl) (pe_slice sl_list (pv 1) po_none (po_some (pe_op op_add pe_int (pe_call (ok_l_draw T) (hr.mono (by decide)) (by rfl) T.g_l_draw T.F_l_draw.kp T.b_l_draw .nil pass0 (pa_cons (pv 0) (pa_cons pe_int pa_nil)))))))
 (pss_cons (ps_set (i := 3) sc_l_right.nd rfl (.inl rfl) (pe_slice sl_list (pv 1) (po_some pe_int) po_none))
 (pss_cons (ps_asg (pe_call (ok_l_machine T) (hr.mono (by decide)) (by rfl) T.g_l_machine T.F_l_machine.kp T.b_l_machine .nil pass0 (pa_cons (pv 0) (pa_cons (pv 2) (pa_cons (pe_call (ok_l_one T) (hr.mono (by decide)) (by rfl) T.g_l_one T.F_l_one.kp T.b_l_one .nil pass0 (pa_cons (pv 0) (pa_cons (pe_lst (pa_cons pe_int (pa_cons pe_int (pa_cons pe_int (pa_cons pe_int pa_nil))))) pa_nil))) pa_nil)))) (pg_tup (by rfl) (pgs_cons (pg_name (i := 4) sc_l_right.nd rfl (.inl rfl)) (pgs_cons (pg_name (i := 5) sc_l_right.nd rfl (.inl rfl)) pgs_nil))))
 (pss_cons (ps_set (i := 6) sc_l_right.nd rfl (.inr rfl) (pe_make T.M_Machine (ok_m_Machine_init T) (hr.mono (by decide)) (by rfl) T.g_Machine T.b_m_Machine_init .nil pass0 (pa_cons (pv 4) (pa_cons (pe_callTy call_list_of (by rfl) T.z_list (by decide +kernel) (pa_cons (pv 5) pa_nil)) pa_nil))))
 (pss_cons (ps_set (i := 7) sc_l_right.nd rfl (.inl rfl) (pe_callB (call_repr gd (un64 hr)) (by rfl) T.z_repr (by decide +kernel) (pa_cons (pe_fld (pv 6) rfl) pa_nil)))
 (pss_cons (ps_set (i := 8) sc_l_right.nd rfl (.inr rfl) (pe_lc (own := [("_law_sign", 12)]) (g := (gName 12)) (tt := _) (by rfl) sc_l_right.nd (pi_list (pe_slice sl_list (pv 1) po_none (po_some pe_int))) (blkOk_by (own := [("_law_sign", 12)]) (N := ["_law_well_here", "_law_names_here", "_law_signs", "_law_others", "_law_many", "_law_steps", "_law_first", "_law_kept", "_law_some", "_law_pairs_here", "_law_handed", "_law_turn", "_law_sign", "_law_step"]) (sc := defScope s_l_right) (by decide +kernel)) (fun _ _ _ _ _ => by exact (pg_name (i := 12) sc_l_right.nd rfl (.inl rfl))) (fun _ _ _ _ _ => by exact (pts_one (pt_cmpR op_eq (pe_call (ok_l_draw T) (hr.mono (by decide)) (by rfl) T.g_l_draw T.F_l_draw.kp T.b_l_draw .nil pass0 (pa_cons (pv 0) (pa_cons pe_int pa_nil))) pe_int (nomark _)))) (fun _ _ _ _ _ => by exact (pv 12))))
 (pss_cons (ps_if (pt_cmpR op_eq (pe_call (ok_l_draw T) (hr.mono (by decide)) (by rfl) T.g_l_draw T.F_l_draw.kp T.b_l_draw .nil pass0 (pa_cons (pv 0) (pa_cons pe_int pa_nil))) pe_int (nomark _))
  (pss_one (ps_set (i := 8) sc_l_right.nd rfl (.inr rfl) (pe_revL (pv 8))))
  pss_nil)
 (pss_cons (ps_set (i := 9) sc_l_right.nd rfl (.inr rfl) (pe_call (ok_l_pairs T) (hr.mono (by decide)) (by rfl) T.g_l_pairs T.F_l_pairs.kp T.b_l_pairs .nil pass0 (pa_cons (pv 0) (pa_cons (pv 2) (pa_cons (pv 3) pa_nil)))))
 (pss_cons (ps_set (i := 10) sc_l_right.nd rfl (.inl rfl) (pe_tup (pa_cons (pe_callTy call_list_of (by rfl) T.z_list (by decide +kernel) (pa_cons (pv 8) pa_nil)) (pa_cons (pe_callTy call_list_of (by rfl) T.z_list (by decide +kernel) (pa_cons (pv 9) pa_nil)) pa_nil))))
 (pss_cons (ps_for PassesOwn.never rfl (pi_range1 (by rfl) T.z_range (pa_cons pe_int pa_nil)) (pg_name (i := 11) sc_l_right.nd rfl (.inl rfl))
  (pss_cons (ps_if (pt_cmpR (op_neD hr.units) (pe_said T gd hr TB rfl (by rfl) (lamS_by (sc := defScope s_l_right) (by decide +kernel)) rfl (fun _ _ _ _ _ => rfl) (fun A outer s H E f c' hr2 => (pe_call (ok_p_only T) (hr2.mono (by decide)) (by rfl) T.g_p_only T.F_p_only.kp T.b_p_only .nil pass0 (pa_cons (pv 8) (pa_cons (pv 6) pa_nil))))) (pe_call (ok_l_due T) (hr.mono (by decide)) (by rfl) T.g_l_due T.F_l_due.kp T.b_l_due .nil pass0 (pa_cons (pe_lc (own := [("_law_step", 13)]) (g := (gName 13)) (tt := _) (by rfl) sc_l_right.nd (pi_list (pv 5)) (blkOk_by (own := [("_law_step", 13)]) (N := ["_law_well_here", "_law_names_here", "_law_signs", "_law_others", "_law_many", "_law_steps", "_law_first", "_law_kept", "_law_some", "_law_pairs_here", "_law_handed", "_law_turn", "_law_sign", "_law_step"]) (sc := defScope s_l_right) (by decide +kernel)) (fun _ _ _ _ _ => by exact (pg_name (i := 13) sc_l_right.nd rfl (.inl rfl))) (fun _ _ _ _ _ => by exact (pts_one (pt_cmpR (op_in_seqK (K := K) rfl) (pe_ix (ix_tupK (K := K) rfl) (pv 13) pe_int (fun _ _ => rfl)) (pv 8) (by with_unfolding_all rfl)))) (fun _ _ _ _ _ => by exact (pv 13))) pa_nil)) (nomark _))
  (pss_one (ps_ret pe_bl))
  pss_nil)
 (pss_cons (ps_if (pt_cmpR (op_neD hr.units) (pe_said T gd hr TB rfl (by rfl) (lamS_by (sc := defScope s_l_right) (by decide +kernel)) rfl (fun _ _ _ _ _ => rfl) (fun A outer s H E f c' hr2 => (pe_call (ok_p_rename T) (hr2.mono (by decide)) (by rfl) T.g_p_rename T.F_p_rename.kp T.b_p_rename .nil (passes_call (takes_of rfl rfl rfl rfl) (fun _ _ _ _ h => h)) (pa_cons (pv 9) (pa_cons (pv 6) pa_nil))))) (pe_callG (ok_l_renamed T) gd (hr.mono (by decide)) (by rfl) T.g_l_renamed T.F_l_renamed.kp T.b_l_renamed .nil pass0 (pa_cons (pv 9) (pa_cons (pv 5) pa_nil))) (nomark _))
  (pss_one (ps_ret pe_bl))
  pss_nil)
 (pss_cons (ps_if (pt_cmpR (op_neD hr.units) (pe_said T gd hr TB rfl (by rfl) (lamS_by (sc := defScope s_l_right) (by decide +kernel)) rfl (fun _ _ _ _ _ => rfl) (fun A outer s H E f c' hr2 => (pe_call (ok_p_only T) (hr2.mono (by decide)) (by rfl) T.g_p_only T.F_p_only.kp T.b_p_only .nil pass0 (pa_cons (pe_lst pa_nil) (pa_cons (pv 6) pa_nil))))) (pe_tup (pa_cons pe_str (pa_cons pe_int (pa_cons (pe_lst pa_nil) pa_nil)))) (nomark _))
  (pss_one (ps_ret pe_bl))
  pss_nil)
 (pss_one (ps_if (pt_cmpR (op_neD hr.units) (pe_said T gd hr TB rfl (by rfl) (lamS_by (sc := defScope s_l_right) (by decide +kernel)) rfl (fun _ _ _ _ _ => rfl) (fun A outer s H E f c' hr2 => (pe_call (ok_p_rename T) (hr2.mono (by decide)) (by rfl) T.g_p_rename T.F_p_rename.kp T.b_p_rename .nil (passes_call (takes_of rfl rfl rfl rfl) (fun _ _ _ _ h => h)) (pa_cons (pe_lst pa_nil) (pa_cons (pv 6) pa_nil))))) (pe_call (ok_l_due T) (hr.mono (by decide)) (by rfl) T.g_l_due T.F_l_due.kp T.b_l_due .nil pass0 (pa_cons (pv 5) pa_nil)) (nomark _))
  (pss_one (ps_ret pe_bl))
  pss_nil))))))
 (pss_one (ps_ret (pe_and (pe_cmpR (op_eqD hr.units) (pe_tup (pa_cons (pv 8) (pa_cons (pv 9) pa_nil))) (pv 10) (nomark _)) (pe_one (pe_cmpR op_eq (pe_callB (call_repr gd (un64 hr)) (by rfl) T.z_repr (by decide +kernel) (pa_cons (pe_fld (pv 6) rfl) pa_nil)) (pv 7) (nomark _))))))))))))))))), ?_⟩
    have w0 := hw.mono (show 3000 ≤ 1099511627776 by decide)
    -- the names
    refine ⟨_, rfl, a, 8, 2900, rfl, by decide, w0, fun H1 pn zs npn s1 w1 epn nok => ?_⟩
    have pna := w0.ne npn
    have epn : (hid a H1) pn = some (.lst (zs.map V.str)) := by rw [hid_ne pna]; exact epn
    refine ⟨_, rfl, _, rfl, a, 4, 2899, rfl, w1, by decide, by decide, fun d H2 d0 d1 s2 w2 => ⟨_, _, rfl, rfl, ?_⟩⟩
    obtain ⟨k, hk, k1, k4⟩ : ∃ k : Nat, 1 + d = (k : Int) ∧ 1 ≤ k ∧ k ≤ 4 := ⟨(1 + d).toNat, by omega, by omega, by omega⟩
    dsimp only
    rw [hk]
    have epn2 := hid_same _ _ (s2 _ _ epn)
    refine ⟨_, rfl, pn, _, rfl, SqL.of epn2, fun ps nps => ?_⟩
    rw [cut_toS]
    obtain ⟨w3, s3⟩ := well_new (o := .lst ((zs.take k).map V.str)) w2 nps
    have eps := @upd_same H2 ps (.lst ((zs.take k).map V.str))
    have psa := w2.ne nps
    have epn3 := s3 _ _ (s2 _ _ epn)
    generalize upd H2 ps (.lst ((zs.take k).map V.str)) = H3 at *
    refine ⟨_, rfl, 4, rfl, pn, _, rfl, SqL.of (hid_same _ _ epn3), fun po npo => ?_⟩
    rw [cut_from4]
    obtain ⟨w4, s4⟩ := well_new (o := .lst ((zs.drop 4).map V.str)) w3 npo
    have epo := @upd_same H3 po (.lst ((zs.drop 4).map V.str))
    have poa := w3.ne npo
    have epn4 := s4 _ _ epn3
    have eps4 : (hid a (upd H3 po (.lst ((zs.drop 4).map V.str)))) ps = some (.lst ((zs.take k).map V.str)) := s4 _ _ (by rw [hid_ne psa]; exact eps)
    have epo4 : (hid a (upd H3 po (.lst ((zs.drop 4).map V.str)))) po = some (.lst ((zs.drop 4).map V.str)) := by rw [hid_ne poa]; exact epo
    generalize upd H3 po (.lst ((zs.drop 4).map V.str)) = H4 at *
    have s04 := s1.trans (s2.trans (s3.trans s4))
    clear s1 s2 s3 s4 w0 w1 w2 w3 epn epn2 epn3 eps epo npn nps npo hk d0 d1
    -- the machine
    refine ⟨_, rfl, _, rfl, _, rfl, by show 4 ≤ sizeLine; decide, fun q1 nq1 => ?_⟩
    obtain ⟨w5, s5⟩ := well_new (o := .lst [.int 3, .int 6, .int 6, .int 12]) w4 nq1
    refine ⟨a, q1, [.int 3, .int 6, .int 6, .int 12], 2898, rfl, w5, sqL_hid w4 nq1, by decide, by decide, fun i1 x1 H6 hx1 s6 w6 => ?_⟩
    obtain ⟨mx, rfl, mx1, mx12⟩ : ∃ mx : Nat, x1 = .int (mx : Int) ∧ 1 ≤ mx ∧ mx ≤ 12 := by
      have := List.mem_of_getElem? hx1
      rcases (by simpa using this : x1 = .int 3 ∨ x1 = .int 6 ∨ x1 = .int 12) with rfl | rfl | rfl
      · exact ⟨3, rfl, by decide, by decide⟩
      · exact ⟨6, rfl, by decide, by decide⟩
      · exact ⟨12, rfl, by decide, by decide⟩
    have s46 := s5.trans s6
    refine ⟨a, ps, zs.take k, k, mx, 1698, rfl, mx1, mx12, k1, k4, nms_take nok k4, psa, hid_same _ _ (s46 _ _ eps4), w6, fun H7 t1 l1 m vs1 ss s7 w7 m1 m12 et1 nt1 nl1 el1 av1 dr1 => ?_⟩
    refine ⟨t1, _, rfl, .inl (.inl et1), rfl, _, _, rfl, _, _, rfl, rfl, ?_⟩
    have l1a := w6.ne nl1
    obtain ⟨sok, lss, sums⟩ := dr1.sums (nms_take nok k4) k4 m1 (by omega)
    have s47 := s46.trans s7
    have s07 := s04.trans s47
    have epn7 := s47 _ _ epn4
    have eps7 := s47 _ _ eps4
    have epo7 := s47 _ _ epo4
    have el1 : (hid a H7) l1 = some (.lst vs1) := by rw [hid_ne l1a]; exact el1
    have av1 := av1.imp fun _ _ h => IsStp.hidW w7 h
    clear s5 s6 s7 s46 s47 s04 w4 w5 w6 epn4 eps4 epo4 et1 nt1 nl1 nq1 hx1 dr1
    refine ⟨_, rfl, _, rfl, l1, _, rfl, .inl (SqL.of (hid_same _ _ el1)), fun q2 nq2 => ?_⟩
    obtain ⟨w8, s8⟩ := well_new (o := .lst vs1) w7 nq2
    have t8 := same_upd (o := .lst vs1) nq2
    have e8 := @upd_same H7 q2 (.lst vs1)
    generalize upd H7 q2 (.lst vs1) = H8 at *
    refine at_nil (mk_mach ⟨q2, vs1, rfl, e8, av1.imp fun _ _ h => IsStp.mono h (hid_same.trans t8)⟩ sok fun H9 x o1 s9 nx im so => ?_)
    have mok := mok_of sok so
    have sum1 := (out_sums so sums).1
    have s79 := s8.trans (hid_mono s9)
    have w9 := w8.same s9
    obtain ⟨p, dx, r0, svs, ep, hp, hr0, avS⟩ := id im
    cases ep
    have dpk : ∀ {F : Hp}, F r0 = some (.lst svs) → AllAre (IsStp F) svs o1 → Dp K F (.ref r0) (.list (o1.map stpD)) := fun h1 h2 => .lst (SqL.of h1) (dpAll_stps h2)
    have gdk := gd_stps mok.ok fun s hs => Nat.lt_of_le_of_lt (sum1 s hs) (Nat.lt_of_le_of_lt (Nat.mul_le_mul_right 20 sok.m12) (by decide))
    refine ⟨_, rfl, x, _, _, _, _, rfl, hp, T.cl_Machine, T.n_Machine_steps, mflds_steps m r0, at_nil (rep_gd (dpk hr0 avS) gdk (by decide) (by decide) ?_)⟩
    have imH := IsMach.hidW w9 im
    -- some of the signs
    have epn9 := s79 _ _ epn7
    refine ⟨_, rfl, 6, rfl, pn, _, rfl, SqL.of (hid_same _ _ epn9), fun q3 nq3 => ?_⟩
    rw [cut_to6]
    obtain ⟨w10, s10⟩ := well_new (o := .lst ((zs.take 6).map V.str)) w9 nq3
    have e10 := @upd_same H9 q3 (.lst ((zs.take 6).map V.str))
    have q3a := w9.ne nq3
    generalize upd H9 q3 (.lst ((zs.take 6).map V.str)) = H10 at *
    have l6 : (zs.take 6).length = 6 := by rw [List.length_take, nok.len]; rfl
    refine ⟨q3, rfl, ⟨_, SqL.of e10⟩, fun D nD => lc_drawF (K := K) (a := a) (b := q3) (zs := zs.take 6) 1600 nD (w10.mono (by omega)) (by omega) (by rw [hid_ne q3a]; exact e10) (fun z H3 m' kt kf hz w3 s3 hkt hkf => ?_) (fun H11 L s11 w11 e11 sub => ?_)⟩
    · exact ⟨rfl, _, rfl, a, 2, m', rfl, w3, by decide, by decide, fun d H4 d0 d1 s4 w4 => ⟨rfl, _, rfl, ite2 (fun _ => ⟨_, rfl, hkt H4 s4 w4⟩) (fun _ => hkf H4 s4 w4)⟩⟩
    have Da := w10.ne nD
    have s9B : Same (hid a H9) (hid a H11) := s10.trans (s11.trans hid_same)
    have s0B := (s07.trans s79).trans s9B
    have imB := imH.mono s9B
    have eD : (hid a H11) D = some (.lst (L.map V.str)) := by rw [hid_ne Da]; exact e11
    have ndL : L.Nodup := sub.nodup ((List.take_sublist _ _).nodup nok.nd)
    have okL : ∀ z ∈ L, NmOk z := fun z hz => nok.all z (List.mem_of_mem_take (sub.subset hz))
    have lL : L.length ≤ 6 := by rw [← l6]; exact sub.length_le
    have s7B := s79.trans s9B
    have eps := s7B _ _ eps7
    have epo := s7B _ _ epo7
    have el1 := s7B _ _ el1
    have av1 := av1.imp fun _ _ h => IsStp.mono h s7B
    clear s10 s11 w10 e10 e11 q3a nq3 nD l6 sub epn7 epn9 eps7 epo7 s79 s9B s7B w7 w8 w9 s07 s8 s9 t8 e8 im nx imH hp hr0 avS nq2
    let C : L2.St → Hp → Prop := fun σ F => ∃ (S : Addr) (sm : List Str), σ = [some (.ref a), some (.ref pn), some (.ref ps), some (.ref po), some (.int (m : Nat)), some (.ref l1), some (.ref x), some (.str (PyData.list (o1.map stpD)).shown), some (.ref S), none, none, none, none, none] ∧ Same (hid a H11) (hid a F) ∧ WellAt F a 1500 ∧ (hid a F) S = some (.lst (sm.map V.str)) ∧ sm.Nodup ∧ (∀ z ∈ sm, NmOk z) ∧ sm.length ≤ 6
    refine at_name (nx_tseq ?_)
    refine if_join (C := C) (fun σ F hC => ?_) (fun Nx hNx => ?_)
    · obtain ⟨S, sm, rfl, sF, wF, eS, ndS, okS, lS⟩ := hC
      -- the renamings
      refine ⟨_, rfl, _, rfl, _, rfl, a, ps, po, zs, k, 1480, rfl, wF, nok, k1, k4, sF _ _ eps, sF _ _ epo, fun G dp xp prs ndp sG wG edp avp pok => ?_⟩
      have sBG := sF.trans sG
      have eSG := hid_same _ _ (sG _ _ eS)
      have imG := (imB.mono sBG).mono hid_same
      have elG := hid_same _ _ (sBG _ _ el1)
      have avG := av1.imp fun _ _ h => IsStp.mono (IsStp.mono h sBG) hid_same
      have s0G := s0B.trans sBG
      have tbG := tabs_well tb hw s0G
      -- handed
      refine ⟨_, rfl, S, _, rfl, .inl (SqL.of eSG), fun u1 nu1 => ?_⟩
      have t1 := same_upd (o := .lst (sm.map V.str)) nu1
      have e1 := @upd_same G u1 (.lst (sm.map V.str))
      generalize upd G u1 (.lst (sm.map V.str)) = G1 at *
      refine ⟨_, rfl, dp, _, rfl, .inl (SqL.of (t1 _ _ edp)), fun u2 nu2 => ?_⟩
      have t2 := same_upd (o := .lst xp) nu2
      have e2 := @upd_same G1 u2 (.lst xp)
      generalize upd G1 u2 (.lst xp) = G2 at *
      refine ⟨by show 2 ≤ sizeLine; decide, fun t nt => ?_⟩
      have t3 := same_upd (o := .tup [.ref u1, .ref u2]) nt
      have e3 := @upd_same G2 t (.tup [.ref u1, .ref u2])
      generalize upd G2 t (.tup [.ref u1, .ref u2]) = G3 at *
      have tG := t1.trans (t2.trans t3)
      have ex : ExtN (hid a H) G3 := fun b o h _ => tG _ _ (hid_same _ _ (s0G b o h))
      have tb3 := tbG.ext tG
      have eS := noT_lst (tG _ _ eSG)
      have im := (imG.mono tG).noT
      have el := noT_lst (tG _ _ elG)
      have av := avG.imp fun _ _ h => IsStp.noT (IsStp.mono h tG)
      have ip := IsPqs.noT (⟨dp, xp, rfl, tG _ _ edp, avp.imp fun _ _ h => IsPq.mono h tG⟩ : IsPqs G3 (.ref dp) prs)
      have edpZ := noT_lst (tG _ _ edp)
      have e1 := noT_lst ((t2.trans t3) _ _ e1)
      have e2 := noT_lst (t3 _ _ e2)
      have e3 := noT_tup e3
      have Z0 : Same (noT G3) G3 := fun b o h => (noT_of h).1
      have avp := ip
      have sgO : ∀ s ∈ o1, NmOk s.sign := fun s hs => (mok.ok.all s hs).sign
      have nZ : ∀ b o, noT G3 b = some o → ∀ ps, o ≠ .tbl ps := fun b o h => (noT_of h).2
      generalize noT G3 = Z at *
      clear t1 t2 t3 tG nu1 nu2 nt tbG s0G avG elG imG eSG sBG sG sF wF wG edp ndp imB el1 av1 s0B eps epo w11 eD ndL okL lL Da
      refine ⟨2, rfl, by decide, by decide, for_range (lo := 0) (n := (2 : Int).toNat) (fun j σ F => ∃ y11 y12 y13, σ = [some (.ref a), some (.ref pn), some (.ref ps), some (.ref po), some (.int (m : Nat)), some (.ref l1), some (.ref x), some (.str (PyData.list (o1.map stpD)).shown), some (.ref S), some (.ref dp), some (.ref t), y11, y12, y13] ∧ Same Z F ∧ ExtN (hid a H) F ∧ Tabs [(tp, lamQ)] F) ⟨_, _, _, rfl, Z0, ex, tb3⟩ (fun j σ F hj h => ?_) (fun σ F h => ?_)⟩
      · obtain ⟨y11, y12, y13, rfl, sF, exF, tbF⟩ := h
        have lv : vs1.length = ss.length := av.1
        have few := sok.few
        -- the signs left
        refine ⟨tbF, fun F1 eN tb1 Es Qs hE hQ => ?_⟩
        have s1 : Same Z F1 := fun b o h => eN b o (sF b o h) (nZ b o h)
        have ex1 := exF.trans eN
        clear sF exF tbF eN
        refine ⟨_, rfl, _, rfl, S, .ref x, sm, m, o1, rfl, s1 _ _ eS, by omega, okS, ndS, im.mono s1, mok, fun F2 v2 o2 s2 im2 so2 => hQ v2 _ o2 F2 im2 fun F3 u3 s3 tu3 => ?_⟩
        have sF := s1.trans (s2.trans s3)
        have exF := ex1.trans (ExtN.of (s2.trans s3))
        have tbF := tb1.ext (s2.trans s3)
        clear s1 s2 s3 ex1 tb1 im2
        have avF := av.imp fun _ _ h => IsStp.mono h sF
        have eSF := sF _ _ eS
        refine ⟨_, rfl, l1, rfl, ⟨_, SqL.of (sF _ _ el)⟩, fun D nD => lc_filtW (walk_list (K := K) (a := l1) (xs := vs1)) (fun i => (ss[i]?).any fun s => decide (s.sign ∈ sm)) (fun i y G => ∃ s, ss[i]? = some s ∧ IsStp G y s) (fun _ _ _ _ s h => h.elim fun st f => ⟨st, f.1, f.2.mono s⟩) nD (fun H' s => SqL.of (s _ _ (sF _ _ el))) (by omega) (fun i x H3 H4 kt kf hi s3 eD y hkt hkf => ?_) (fun H3 ys s3 e3' a3 => ?_)⟩
        · obtain ⟨rfl, hv⟩ := y
          obtain ⟨st, hst, t, wa, rfl, ht, hw⟩ := avF.at hv
          simp only [hst, Option.any_some] at hkt hkf
          have sA := s3.trans (hid_same (a := D))
          have ht' := sA _ _ ht
          refine ⟨rfl, _, rfl, t, _, _, _, rfl, rfl, .inl (.inl ht'), atI_nat (j := 1) rfl, _, rfl, S, _, rfl, .inl (SqL.of (sA _ _ eSF)), rfl, flat_strs sm, _, rfl, ?_⟩
          rw [inV_strs]
          by_cases c : st.sign ∈ sm
          · rw [decide_eq_true c] at hkt ⊢
            exact iteT ⟨_, rfl, hkt rfl _ _ (Same.refl _) ⟨st, rfl, t, wa, rfl, s3 _ _ ht, s3 _ _ hw⟩⟩
          · rw [decide_eq_false c] at hkf ⊢
            exact iteF (hkf rfl _ (Same.refl _))
        rw [lv] at a3
        have h1 := filt_are (R := fun y s => IsStp (hid D H3) y s) (p := fun s => decide (s.sign ∈ sm)) ss.length ys (Nat.le_refl _) a3
        rw [List.take_length] at h1
        have h2 : AllAre (IsStp H3) ys (onlyF sm ss) := h1.imp fun _ _ h => h.mono hid_same
        have s3' := s3.trans (hid_same (a := D))
        refine at_nil ⟨D, m, onlyF sm ss, onlyF sm o1, ys, rfl, e3', h2, only_ok sm sok, only_so so, fun F5 v5 o5 s5 tu5 so5 => ?_⟩
        have e5 : o5 = o2 := sorted_uniq so5.2 so2.2 (so5.1.trans so2.1.symm)
        subst e5
        have sX := s3'.trans s5
        refine ne_told (sg_ok (fun s hs => sgO s (List.mem_filter.mp hs).1) so2) (tu3.mono sX) tu5 ⟨_, rfl, iteF ?_⟩
        have sF := sF.trans sX
        have exF := exF.trans (ExtN.of sX)
        have tbF := tbF.ext sX
        clear tu3 tu5 so5 so2 s5 s3' sX h2 h1 a3 e3' s3 eSF avF nD
        -- the signs renamed
        refine nx_tseq ?_
        refine if_join (C := fun σ F => σ = [some (.ref a), some (.ref pn), some (.ref ps), some (.ref po), some (.int (m : Nat)), some (.ref l1), some (.ref x), some (.str (PyData.list (o1.map stpD)).shown), some (.ref S), some (.ref dp), some (.ref t), some (.int (0 + (j : Int))), y12, y13] ∧ Same Z F ∧ ExtN (hid a H) F ∧ Tabs [(tp, lamQ)] F) (fun σ F hC => ?_) (fun Nx hNx => ?_)
        · obtain ⟨rfl, sF, exF, tbF⟩ := hC
          -- no sign left
          refine ⟨tbF, fun F1 eN tb1 Es Qs hE hQ => ?_⟩
          have s1 : Same Z F1 := fun b o h => eN b o (sF b o h) (nZ b o h)
          have ex1 := exF.trans eN
          clear sF exF tbF eN
          refine ⟨Nat.zero_le _, fun e0 n0 => ?_⟩
          have s2 := same_upd (o := .lst []) n0
          have ee := @upd_same F1 e0 (.lst [])
          generalize upd F1 e0 (.lst []) = F2 at *
          refine ⟨_, rfl, e0, .ref x, [], m, o1, rfl, ee, by decide, (fun z hz => absurd hz List.not_mem_nil), List.nodup_nil, (im.mono s1).mono s2, mok, fun F3 v2 o2 s3 im2 so2 => hQ v2 _ o2 F3 im2 fun F4 u4 s4 tu4 => ?_⟩
          rw [only_nil, found_nil] at so2 tu4
          have eo : o2 = [] := List.Perm.eq_nil so2.1
          subst eo
          refine ⟨Nat.zero_le _, fun e5 n5 => ?_⟩
          have s5 := same_upd (o := .lst []) n5
          have ee5 := @upd_same F4 e5 (.lst [])
          generalize upd F4 e5 (.lst []) = F5 at *
          refine ⟨by show 3 ≤ sizeLine; decide, fun t6 nt6 => ?_⟩
          have s6 := same_upd (o := .tup [.str "told", .int 1, .ref e5]) nt6
          refine ne_told (n := 1) (out := []) (fun s hs => absurd hs List.not_mem_nil) (tu4.mono (s5.trans s6)) ⟨t6, e5, [], rfl, upd_same, s6 _ _ ee5, .nil⟩ ⟨_, rfl, iteF ?_⟩
          have sX := s2.trans (s3.trans (s4.trans (s5.trans s6)))
          have sF := s1.trans sX
          have exF := ex1.trans (ExtN.of sX)
          have tbF := tb1.ext sX
          clear s1 s2 s3 s4 s5 s6 sX ex1 tb1 tu4 so2 im2 ee ee5
          generalize upd F5 t6 (.tup [.str "told", .int 1, .ref e5]) = F6 at *
          -- nothing renamed
          refine ⟨tbF, fun F1 eN tb1 Es Qs hE hQ => ?_⟩
          have s1 : Same Z F1 := fun b o h => eN b o (sF b o h) (nZ b o h)
          have ex1 := exF.trans eN
          clear sF exF tbF eN
          refine ⟨Nat.zero_le _, fun e0 n0 => ?_⟩
          have s2 := same_upd (o := .lst []) n0
          have ee := @upd_same F1 e0 (.lst [])
          generalize upd F1 e0 (.lst []) = F2 at *
          refine ⟨_, rfl, .ref e0, .ref x, [], m, o1, rfl, ⟨e0, [], rfl, ee, .nil⟩, prs_nil, (im.mono s1).mono s2, mok, fun _ F3 v2 o1' o2 s3 so1 im2 so2 => hQ v2 _ o2 F3 im2 fun F4 u4 s4 tu4 => ?_, fun hi => absurd inj_nil hi⟩
          rw [ren_nil] at so1
          have eo := mok_same mok so1
          subst eo
          have sX := s2.trans (s3.trans s4)
          have sF := s1.trans sX
          refine ⟨_, rfl, l1, m, ss, o1', vs1, rfl, sF _ _ el, av.imp fun _ _ h => IsStp.mono h sF, sok, so, fun F5 v5 o5 s5 tu5 so5 => ?_⟩
          have e5 : o5 = o2 := sorted_uniq so5.2 so2.2 (so5.1.trans so2.1.symm)
          subst e5
          have sY := sX.trans s5
          exact ne_told (sg_ok sgO so2) (tu4.mono s5) tu5 ⟨_, rfl, iteF ⟨_, _, _, rfl, s1.trans sY, ex1.trans (ExtN.of sY), tb1.ext sY⟩⟩
        refine ⟨tbF, fun F1 eN tb1 Es Qs hE hQ => ?_⟩
        have s1 : Same Z F1 := fun b o h => eN b o (sF b o h) (nZ b o h)
        have ex1 := exF.trans eN
        clear sF exF tbF eN
        refine ⟨_, rfl, _, rfl, .ref dp, .ref x, prs, m, o1, rfl, ip.mono s1, pok, im.mono s1, mok, fun hi F2 v2 o1' o2 s2 so1 im2 so2 => hQ v2 _ o2 F2 im2 fun F3 u3 s3 tu3 => ?_, fun hi F2 d s2 ed => hE (.ref dp) prs d F2 ed ((ip.mono s1).mono s2) pok fun F3 t3 s3 et3 => ?_⟩
        · have sX := s2.trans s3
          have sF := s1.trans sX
          refine ⟨_, rfl, _, rfl, .ref dp, l1, prs, m, ss, vs1, rfl, ip.mono sF, pok, sF _ _ el, av.imp fun _ _ h => IsStp.mono h sF, sok, fun _ F5 v5 o1'' o5 s5 so1'' tu5 so5 => ?_, fun hn => absurd ((inj_iff so).mp hi) hn⟩
          have eo := ren_same so mok so1 so1''
          subst eo
          have e5 : o5 = o2 := sorted_uniq so5.2 so2.2 (so5.1.trans so2.1.symm)
          subst e5
          have sY := sX.trans s5
          refine ne_told (sg_ok (sg_so (fun s hs => ?_) so1) so2) (tu3.mono s5) tu5 ⟨_, rfl, iteF (hNx _ _ ⟨rfl, s1.trans sY, ex1.trans (ExtN.of sY), tb1.ext sY⟩)⟩
          obtain ⟨s0, h0, rfl⟩ := List.mem_map.mp hs
          exact ren_ok pok.ok (sgO s0 h0)
        · have sX := s2.trans s3
          have sF := s1.trans sX
          refine ⟨_, rfl, _, rfl, .ref dp, l1, prs, m, ss, vs1, rfl, ip.mono sF, pok, sF _ _ el, av.imp fun _ _ h => IsStp.mono h sF, sok, fun hn => absurd ((inj_iff so).mpr hn) hi, fun _ F5 t5 s5 et5 => ?_⟩
          have sY := sX.trans s5
          exact ne_sign (prs_ok pok) (s5 _ _ et3) et5 ⟨_, rfl, iteF (hNx _ _ ⟨rfl, s1.trans sY, ex1.trans (ExtN.of sY), tb1.ext sY⟩)⟩
      · obtain ⟨y11, y12, y13, rfl, sF, exF, tbF⟩ := h
        refine ⟨_, rfl, _, rfl, by show 2 ≤ sizeLine; decide, fun t2 nt2 => ?_⟩
        have s2 := same_upd (o := .tup [.ref S, .ref dp]) nt2
        have et2 := @upd_same F t2 (.tup [.ref S, .ref dp])
        generalize upd F t2 (.tup [.ref S, .ref dp]) = F2 at *
        have sF2 := sF.trans s2
        have sh := hand_sh okS pok
        obtain ⟨_, xp2, ep2, edp2, avp2⟩ := id ip
        cases ep2
        rw [edpZ] at edp2
        cases edp2
        have dpp : Dp K F2 (.ref dp) (prsD prs) := dp_prs (ip.mono sF2)
        have dpu : Dp K F2 (.ref u2) (prsD prs) := by
          exact dp_prs ⟨u2, xp, rfl, sF2 _ _ e2, avp2.imp fun _ _ h => IsPq.mono h sF2⟩
        refine ⟨_, rfl, handD sm prs, handD sm prs, .tup (.inl (.inl et2)) (.cons (.lst (SqL.of (sF2 _ _ eS)) (dpAll_strs sm)) (.cons dpp .nil)), .tup (.inl (.inl (sF2 _ _ e3))) (.cons (.lst (SqL.of (sF2 _ _ e1)) (dpAll_strs sm)) (.cons dpu .nil)), sh, sh, ?_⟩
        rw [SeqAt.eqv_refl _ (SeqAt.canLay_of_shaped sh)]
        refine ⟨true, rfl, iteT ?_⟩
        obtain ⟨p, dx', r1, svs', ep, hp, hr1, avS⟩ := im.mono sF2
        cases ep
        refine ⟨_, rfl, x, _, _, _, _, rfl, hp, T.cl_Machine, T.n_Machine_steps, mflds_steps m r1, at_nil (rep_gd (.lst (SqL.of hr1) (dpAll_stps avS)) gdk (by decide) (by decide) ⟨_, rfl, rfl, ?_⟩)⟩
        rw [decide_eq_true rfl]
        exact q F2 (exF.trans (ExtN.of s2)) (tbF.ext s2)
    · refine ⟨_, rfl, a, 2, 1599, rfl, w11, by decide, by decide, fun d H12 d0 d1 s12 w12 => ⟨rfl, _, rfl, ite2 (fun _ => ?_) (fun _ => hNx _ _ ⟨D, L, rfl, s12, w12.mono (by decide), s12 _ _ eD, ndL, okL, lL⟩)⟩⟩
      refine ⟨_, rfl, D, _, rfl, SqL.of (hid_same _ _ (s12 _ _ eD)), fun r nr => ?_⟩
      rw [← List.map_reverse]
      obtain ⟨w13, s13⟩ := well_new (o := .lst (L.reverse.map V.str)) w12 nr
      have ra := w12.ne nr
      exact hNx _ _ ⟨r, L.reverse, rfl, s12.trans s13, w13.mono (by decide), by rw [hid_ne ra]; exact upd_same, (List.reverse_perm _).nodup_iff.mpr ndL, fun z hz => okL z (List.mem_reverse.mp hz), by rw [List.length_reverse]; exact lL⟩
end
end Fb
namespace Fb
open PySem PySem.Spec PyProof.Rows L2
section
open LamX
variable {P : Program} {w : World} {K : PySem.W.Frag} {mg : Str → Option Value} {base : Heap}
def spLaw (K : PySem.W.Frag) (tp : Addr) : Sp := fun vs H Q _ => ∃ (a : Addr) (ns : List Int), vs = [.ref a] ∧ SqL K H a (ns.map V.int) ∧ ns.length ≤ 63 ∧ H tp = some (.tbl #[]) ∧ ∀ H', Q (.bl true) H'
theorem all_ints {ns : List Int} {x : V} {i : Nat} (h : ([V.int 0, V.int 1] ++ cutV (ns.map V.int) none (some 6))[i]? = some x) : ∃ z : Int, x = .int z := by
  rcases List.mem_append.mp (List.mem_of_getElem? h) with h | h
  · rcases (by simpa using h : x = .int 0 ∨ x = .int 1) with rfl | rfl <;> exact ⟨_, rfl⟩
  · rw [show cutV (ns.map V.int) none (some 6) = (ns.map V.int).take 6 from cut_tok _ 6] at h
    obtain ⟨z, _, rfl⟩ := List.mem_map.mp (List.mem_of_mem_take h)
    exact ⟨z, rfl⟩
theorem ok_law (T : Txt K mg) {c tp : Addr} (hc : T.d_l_right.code = .ref c) (TB : TabB base mg c tp) : FnOkG P w K mg base CX0 14 T.f_law T.d_law ["_law_script"] (spLaw K tp) := by
  refine Fb.Fun.okG T.F_law sc_law (fun vs H Q E h => ?_) (fun cdv A outer s H vs Q E gd hr h => ?_)
  · obtain ⟨a, ns, rfl, _⟩ := h
    rfl
  · obtain ⟨a, ns, rfl, hS, hlen, ht, q⟩ := h
    refine ⟨_, (pss_cons (ps_for PassesOwn.never rfl (pi_list (pe_op op_cat (pe_lst (pa_cons pe_int (pa_cons pe_int pa_nil))) (pe_slice sl_list (pv 0) po_none (po_some pe_int)))) (pg_name (i := 1) sc_law.nd rfl (.inl rfl))
  (pss_one (ps_if (pt_not (pt_val (pe_callG (ok_l_right T hc TB) gd (hr.mono (by decide)) (by rfl) T.g_l_right T.F_l_right.kp T.b_l_right .nil pass0 (pa_cons (pe_call (ok_l_well T) (hr.mono (by decide)) (by rfl) T.g_l_well T.F_l_well.kp T.b_l_well .nil pass0 (pa_cons (pv 1) pa_nil)) pa_nil))))
  (pss_one (ps_ret pe_bl))
  pss_nil)))
 (pss_one (ps_ret pe_bl))), ?_⟩
    refine ⟨by show 2 ≤ sizeLine; decide, fun c1 n1 => ?_⟩
    have s1 := same_upd (o := .lst [.int 0, .int 1]) n1
    have e1 := @upd_same H c1 (.lst [.int 0, .int 1])
    generalize upd H c1 (.lst [.int 0, .int 1]) = H1 at *
    refine ⟨_, rfl, 6, rfl, a, _, rfl, s1.seq hS, fun c2 n2 => ?_⟩
    have s2 := same_upd (o := .lst (cutV (ns.map V.int) none (some 6))) n2
    have e2 := @upd_same H1 c2 (.lst (cutV (ns.map V.int) none (some 6)))
    generalize upd H1 c2 (.lst (cutV (ns.map V.int) none (some 6))) = H2 at *
    refine ⟨c1, c2, _, _, rfl, rfl, s2 _ _ e1, e2, ?_, fun c3 n3 => ?_⟩
    · have := cutV_length (ns.map V.int) none (some 6)
      rw [List.length_map] at this
      exact Nat.le_of_lt (small1000 (by show 2 + _ ≤ 1000; omega))
    have s3 := same_upd (o := .lst ([V.int 0, V.int 1] ++ cutV (ns.map V.int) none (some 6))) n3
    have e3 := @upd_same H2 c3 (.lst ([V.int 0, V.int 1] ++ cutV (ns.map V.int) none (some 6)))
    generalize upd H2 c3 (.lst ([V.int 0, V.int 1] ++ cutV (ns.map V.int) none (some 6))) = H3 at *
    have tb : Tabs [(tp, lamQ)] H3 := fun p hp => by
      rw [List.mem_singleton.mp hp]
      exact TabS.nil ((s1.trans (s2.trans s3)) _ _ ht)
    refine ⟨c3, rfl, ⟨_, SqL.of e3⟩, for_list (K := K) (a := c3) (xs := [V.int 0, V.int 1] ++ cutV (ns.map V.int) none (some 6)) (fun i σ F => ∃ y1, σ = [some (.ref a), y1] ∧ F c3 = some (.lst ([V.int 0, V.int 1] ++ cutV (ns.map V.int) none (some 6))) ∧ Tabs [(tp, lamQ)] F) ⟨_, rfl, e3, tb⟩ (fun i σ F _ h => ?_) (fun i x σ F hx h => ?_) (fun σ F h => ?_)⟩
    · obtain ⟨_, _, e, _⟩ := h
      exact SqL.of e
    · obtain ⟨y1, rfl, e, tbF⟩ := h
      obtain ⟨z, rfl⟩ := all_ints hx
      refine ⟨_, rfl, z, rfl, fun aw F1 nA sA wA => ?_⟩
      exact ⟨aw, rfl, wA, tbF.ext (sA.trans hid_same), fun F2 ex tb2 => ⟨true, rfl, iteF ⟨_, rfl, ex _ _ (sA _ _ e) (fun _ => nofun), tb2⟩⟩⟩
    · obtain ⟨y1, rfl, _⟩ := h
      exact q F
end
end Fb
namespace Fb
open PySem PySem.Spec PyProof.Rows L2
set_option maxHeartbeats 4000000 in
theorem all_mk {l : PySem.W.OpenLaw} {q : Program} {w : World} {K : PySem.W.Frag} {h : Heap} {mg : Str → Option Value} {fa : Addr} (X : K.In h) (G : h.Ns mainGlobals mg) (hfa : mg "law" = some (.ref fa))
    {c_FarError c_NoMachine c_NoSign c_Machine f_m_NoMachine_init f_m_NoSign_init f_p_is_whole f_p_is_name f_p_common_part f_m_Machine_init f_m_Machine_eq f_m_Machine_len f_p_is_room f_p_are_weights f_p_is_step f_p_are_steps f_p_lowest f_p_found_rooms f_p_append_new f_p_trimmed f_p_are_unlike f_p_are_signs f_p_is_pair f_p_are_pairs f_p_check_signs f_p_only f_p_rename f_l_well f_l_draw f_l_one f_l_names f_l_weights f_l_machine f_l_divided f_l_due f_l_said f_l_pairs f_l_renamed f_l_right f_law : Addr} {od_m_NoMachine_init an_m_NoMachine_init od_m_NoSign_init an_m_NoSign_init od_p_is_whole an_p_is_whole od_p_is_name an_p_is_name od_p_common_part an_p_common_part od_m_Machine_init an_m_Machine_init od_m_Machine_eq an_m_Machine_eq od_m_Machine_len an_m_Machine_len od_p_is_room an_p_is_room od_p_are_weights an_p_are_weights od_p_is_step an_p_is_step od_p_are_steps an_p_are_steps od_p_lowest an_p_lowest od_p_found_rooms an_p_found_rooms od_p_append_new an_p_append_new od_p_trimmed an_p_trimmed od_p_are_unlike an_p_are_unlike od_p_are_signs an_p_are_signs od_p_is_pair an_p_is_pair od_p_are_pairs an_p_are_pairs od_p_check_signs an_p_check_signs od_p_only an_p_only od_p_rename an_p_rename od_l_well an_l_well od_l_draw an_l_draw od_l_one an_l_one od_l_names an_l_names od_l_weights an_l_weights od_l_machine an_l_machine od_l_divided an_l_divided od_l_due an_l_due od_l_said an_l_said od_l_pairs an_l_pairs od_l_renamed an_l_renamed od_l_right an_l_right od_law an_law : Option Addr} {sl_m_NoMachine_init sl_m_NoSign_init sl_p_is_whole sl_p_is_name sl_p_common_part sl_m_Machine_init sl_m_Machine_eq sl_m_Machine_len sl_p_is_room sl_p_are_weights sl_p_is_step sl_p_are_steps sl_p_lowest sl_p_found_rooms sl_p_append_new sl_p_trimmed sl_p_are_unlike sl_p_are_signs sl_p_is_pair sl_p_are_pairs sl_p_check_signs sl_p_only sl_p_rename sl_l_well sl_l_draw sl_l_one sl_l_names sl_l_weights sl_l_machine sl_l_divided sl_l_due sl_l_said sl_l_pairs sl_l_renamed sl_l_right sl_law : Array (Option Value)} {oc_m_NoMachine_init kV_m_NoMachine_init dc_m_NoMachine_init pm_m_NoMachine_init cd_m_NoMachine_init ct_m_NoMachine_init oc_m_NoSign_init kV_m_NoSign_init dc_m_NoSign_init pm_m_NoSign_init cd_m_NoSign_init ct_m_NoSign_init oc_p_is_whole kV_p_is_whole dc_p_is_whole pm_p_is_whole cd_p_is_whole ct_p_is_whole oc_p_is_name kV_p_is_name dc_p_is_name pm_p_is_name cd_p_is_name ct_p_is_name oc_p_common_part kV_p_common_part dc_p_common_part pm_p_common_part cd_p_common_part ct_p_common_part oc_m_Machine_init kV_m_Machine_init dc_m_Machine_init pm_m_Machine_init cd_m_Machine_init ct_m_Machine_init oc_m_Machine_eq kV_m_Machine_eq dc_m_Machine_eq pm_m_Machine_eq cd_m_Machine_eq ct_m_Machine_eq oc_m_Machine_len kV_m_Machine_len dc_m_Machine_len pm_m_Machine_len cd_m_Machine_len ct_m_Machine_len oc_p_is_room kV_p_is_room dc_p_is_room pm_p_is_room cd_p_is_room ct_p_is_room oc_p_are_weights kV_p_are_weights dc_p_are_weights pm_p_are_weights cd_p_are_weights ct_p_are_weights oc_p_is_step kV_p_is_step dc_p_is_step pm_p_is_step cd_p_is_step ct_p_is_step oc_p_are_steps kV_p_are_steps dc_p_are_steps pm_p_are_steps cd_p_are_steps ct_p_are_steps oc_p_lowest kV_p_lowest dc_p_lowest pm_p_lowest cd_p_lowest ct_p_lowest oc_p_found_rooms kV_p_found_rooms dc_p_found_rooms pm_p_found_rooms cd_p_found_rooms ct_p_found_rooms oc_p_append_new kV_p_append_new dc_p_append_new pm_p_append_new cd_p_append_new ct_p_append_new oc_p_trimmed kV_p_trimmed dc_p_trimmed pm_p_trimmed cd_p_trimmed ct_p_trimmed oc_p_are_unlike kV_p_are_unlike dc_p_are_unlike pm_p_are_unlike cd_p_are_unlike ct_p_are_unlike oc_p_are_signs kV_p_are_signs dc_p_are_signs pm_p_are_signs cd_p_are_signs ct_p_are_signs oc_p_is_pair kV_p_is_pair dc_p_is_pair pm_p_is_pair cd_p_is_pair ct_p_is_pair oc_p_are_pairs kV_p_are_pairs dc_p_are_pairs pm_p_are_pairs cd_p_are_pairs ct_p_are_pairs oc_p_check_signs kV_p_check_signs dc_p_check_signs pm_p_check_signs cd_p_check_signs ct_p_check_signs oc_p_only kV_p_only dc_p_only pm_p_only cd_p_only ct_p_only oc_p_rename kV_p_rename dc_p_rename pm_p_rename cd_p_rename ct_p_rename oc_l_well kV_l_well dc_l_well pm_l_well cd_l_well ct_l_well oc_l_draw kV_l_draw dc_l_draw pm_l_draw cd_l_draw ct_l_draw oc_l_one kV_l_one dc_l_one pm_l_one cd_l_one ct_l_one oc_l_names kV_l_names dc_l_names pm_l_names cd_l_names ct_l_names oc_l_weights kV_l_weights dc_l_weights pm_l_weights cd_l_weights ct_l_weights oc_l_machine kV_l_machine dc_l_machine pm_l_machine cd_l_machine ct_l_machine oc_l_divided kV_l_divided dc_l_divided pm_l_divided cd_l_divided ct_l_divided oc_l_due kV_l_due dc_l_due pm_l_due cd_l_due ct_l_due oc_l_said kV_l_said dc_l_said pm_l_said cd_l_said ct_l_said oc_l_pairs kV_l_pairs dc_l_pairs pm_l_pairs cd_l_pairs ct_l_pairs oc_l_renamed kV_l_renamed dc_l_renamed pm_l_renamed cd_l_renamed ct_l_renamed oc_l_right kV_l_right dc_l_right pm_l_right cd_l_right ct_l_right oc_law kV_law dc_law pm_law cd_law ct_law : Value} {tkc_LETTERS : _} {tkc_LONGEST_NAME : _} {tkc_MOST_ROOMS : _}
    (a_FarError : PySem.W.nsIn K mainGlobals "FarError" = some (some (.ref c_FarError)))
    (a_NoMachine : PySem.W.nsIn K mainGlobals "NoMachine" = some (some (.ref c_NoMachine)))
    (a_NoSign : PySem.W.nsIn K mainGlobals "NoSign" = some (some (.ref c_NoSign)))
    (a_Machine : PySem.W.nsIn K mainGlobals "Machine" = some (some (.ref c_Machine)))
    (a_m_NoMachine_init : PySem.W.findIn K (.ref c_NoMachine) "__init__" = some (some (.ref f_m_NoMachine_init)))
    (l_m_NoMachine_init : K.lookup f_m_NoMachine_init = some ⟨oc_m_NoMachine_init, od_m_NoMachine_init, .func (PySem.W.fnOf "__init__" "NoMachine.__init__" (defArgs s_m_NoMachine_init) (defBody s_m_NoMachine_init) (defScope s_m_NoMachine_init) .none kV_m_NoMachine_init dc_m_NoMachine_init pm_m_NoMachine_init an_m_NoMachine_init cd_m_NoMachine_init ct_m_NoMachine_init), sl_m_NoMachine_init⟩)
    (c_m_NoMachine_init_ : PySem.W.codeIn K cd_m_NoMachine_init "NoMachine.__init__" = true)
    (k_m_NoMachine_init_ : PySem.W.keepIn K (.ref f_m_NoMachine_init) = true)
    (a_m_NoSign_init : PySem.W.findIn K (.ref c_NoSign) "__init__" = some (some (.ref f_m_NoSign_init)))
    (l_m_NoSign_init : K.lookup f_m_NoSign_init = some ⟨oc_m_NoSign_init, od_m_NoSign_init, .func (PySem.W.fnOf "__init__" "NoSign.__init__" (defArgs s_m_NoSign_init) (defBody s_m_NoSign_init) (defScope s_m_NoSign_init) .none kV_m_NoSign_init dc_m_NoSign_init pm_m_NoSign_init an_m_NoSign_init cd_m_NoSign_init ct_m_NoSign_init), sl_m_NoSign_init⟩)
    (c_m_NoSign_init_ : PySem.W.codeIn K cd_m_NoSign_init "NoSign.__init__" = true)
    (k_m_NoSign_init_ : PySem.W.keepIn K (.ref f_m_NoSign_init) = true)
    (a_p_is_whole : PySem.W.nsIn K mainGlobals "is_whole" = some (some (.ref f_p_is_whole)))
    (l_p_is_whole : K.lookup f_p_is_whole = some ⟨oc_p_is_whole, od_p_is_whole, .func (PySem.W.fnOf "is_whole" "is_whole" (defArgs s_p_is_whole) (defBody s_p_is_whole) (defScope s_p_is_whole) .none kV_p_is_whole dc_p_is_whole pm_p_is_whole an_p_is_whole cd_p_is_whole ct_p_is_whole), sl_p_is_whole⟩)
    (c_p_is_whole_ : PySem.W.codeIn K cd_p_is_whole "is_whole" = true)
    (k_p_is_whole_ : PySem.W.keepIn K (.ref f_p_is_whole) = true)
    (a_p_is_name : PySem.W.nsIn K mainGlobals "is_name" = some (some (.ref f_p_is_name)))
    (l_p_is_name : K.lookup f_p_is_name = some ⟨oc_p_is_name, od_p_is_name, .func (PySem.W.fnOf "is_name" "is_name" (defArgs s_p_is_name) (defBody s_p_is_name) (defScope s_p_is_name) .none kV_p_is_name dc_p_is_name pm_p_is_name an_p_is_name cd_p_is_name ct_p_is_name), sl_p_is_name⟩)
    (c_p_is_name_ : PySem.W.codeIn K cd_p_is_name "is_name" = true)
    (k_p_is_name_ : PySem.W.keepIn K (.ref f_p_is_name) = true)
    (a_p_common_part : PySem.W.nsIn K mainGlobals "common_part" = some (some (.ref f_p_common_part)))
    (l_p_common_part : K.lookup f_p_common_part = some ⟨oc_p_common_part, od_p_common_part, .func (PySem.W.fnOf "common_part" "common_part" (defArgs s_p_common_part) (defBody s_p_common_part) (defScope s_p_common_part) .none kV_p_common_part dc_p_common_part pm_p_common_part an_p_common_part cd_p_common_part ct_p_common_part), sl_p_common_part⟩)
    (c_p_common_part_ : PySem.W.codeIn K cd_p_common_part "common_part" = true)
    (k_p_common_part_ : PySem.W.keepIn K (.ref f_p_common_part) = true)
    (a_m_Machine_init : PySem.W.findIn K (.ref c_Machine) "__init__" = some (some (.ref f_m_Machine_init)))
    (l_m_Machine_init : K.lookup f_m_Machine_init = some ⟨oc_m_Machine_init, od_m_Machine_init, .func (PySem.W.fnOf "__init__" "Machine.__init__" (defArgs s_m_Machine_init) (defBody s_m_Machine_init) (defScope s_m_Machine_init) .none kV_m_Machine_init dc_m_Machine_init pm_m_Machine_init an_m_Machine_init cd_m_Machine_init ct_m_Machine_init), sl_m_Machine_init⟩)
    (c_m_Machine_init_ : PySem.W.codeIn K cd_m_Machine_init "Machine.__init__" = true)
    (k_m_Machine_init_ : PySem.W.keepIn K (.ref f_m_Machine_init) = true)
    (a_m_Machine_eq : PySem.W.findIn K (.ref c_Machine) "__eq__" = some (some (.ref f_m_Machine_eq)))
    (l_m_Machine_eq : K.lookup f_m_Machine_eq = some ⟨oc_m_Machine_eq, od_m_Machine_eq, .func (PySem.W.fnOf "__eq__" "Machine.__eq__" (defArgs s_m_Machine_eq) (defBody s_m_Machine_eq) (defScope s_m_Machine_eq) .none kV_m_Machine_eq dc_m_Machine_eq pm_m_Machine_eq an_m_Machine_eq cd_m_Machine_eq ct_m_Machine_eq), sl_m_Machine_eq⟩)
    (c_m_Machine_eq_ : PySem.W.codeIn K cd_m_Machine_eq "Machine.__eq__" = true)
    (k_m_Machine_eq_ : PySem.W.keepIn K (.ref f_m_Machine_eq) = true)
    (a_m_Machine_len : PySem.W.findIn K (.ref c_Machine) "__len__" = some (some (.ref f_m_Machine_len)))
    (l_m_Machine_len : K.lookup f_m_Machine_len = some ⟨oc_m_Machine_len, od_m_Machine_len, .func (PySem.W.fnOf "__len__" "Machine.__len__" (defArgs s_m_Machine_len) (defBody s_m_Machine_len) (defScope s_m_Machine_len) .none kV_m_Machine_len dc_m_Machine_len pm_m_Machine_len an_m_Machine_len cd_m_Machine_len ct_m_Machine_len), sl_m_Machine_len⟩)
    (c_m_Machine_len_ : PySem.W.codeIn K cd_m_Machine_len "Machine.__len__" = true)
    (k_m_Machine_len_ : PySem.W.keepIn K (.ref f_m_Machine_len) = true)
    (a_p_is_room : PySem.W.nsIn K mainGlobals "is_room" = some (some (.ref f_p_is_room)))
    (l_p_is_room : K.lookup f_p_is_room = some ⟨oc_p_is_room, od_p_is_room, .func (PySem.W.fnOf "is_room" "is_room" (defArgs s_p_is_room) (defBody s_p_is_room) (defScope s_p_is_room) .none kV_p_is_room dc_p_is_room pm_p_is_room an_p_is_room cd_p_is_room ct_p_is_room), sl_p_is_room⟩)
    (c_p_is_room_ : PySem.W.codeIn K cd_p_is_room "is_room" = true)
    (k_p_is_room_ : PySem.W.keepIn K (.ref f_p_is_room) = true)
    (a_p_are_weights : PySem.W.nsIn K mainGlobals "are_weights" = some (some (.ref f_p_are_weights)))
    (l_p_are_weights : K.lookup f_p_are_weights = some ⟨oc_p_are_weights, od_p_are_weights, .func (PySem.W.fnOf "are_weights" "are_weights" (defArgs s_p_are_weights) (defBody s_p_are_weights) (defScope s_p_are_weights) .none kV_p_are_weights dc_p_are_weights pm_p_are_weights an_p_are_weights cd_p_are_weights ct_p_are_weights), sl_p_are_weights⟩)
    (c_p_are_weights_ : PySem.W.codeIn K cd_p_are_weights "are_weights" = true)
    (k_p_are_weights_ : PySem.W.keepIn K (.ref f_p_are_weights) = true)
    (a_p_is_step : PySem.W.nsIn K mainGlobals "is_step" = some (some (.ref f_p_is_step)))
    (l_p_is_step : K.lookup f_p_is_step = some ⟨oc_p_is_step, od_p_is_step, .func (PySem.W.fnOf "is_step" "is_step" (defArgs s_p_is_step) (defBody s_p_is_step) (defScope s_p_is_step) .none kV_p_is_step dc_p_is_step pm_p_is_step an_p_is_step cd_p_is_step ct_p_is_step), sl_p_is_step⟩)
    (c_p_is_step_ : PySem.W.codeIn K cd_p_is_step "is_step" = true)
    (k_p_is_step_ : PySem.W.keepIn K (.ref f_p_is_step) = true)
    (a_p_are_steps : PySem.W.nsIn K mainGlobals "are_steps" = some (some (.ref f_p_are_steps)))
    (l_p_are_steps : K.lookup f_p_are_steps = some ⟨oc_p_are_steps, od_p_are_steps, .func (PySem.W.fnOf "are_steps" "are_steps" (defArgs s_p_are_steps) (defBody s_p_are_steps) (defScope s_p_are_steps) .none kV_p_are_steps dc_p_are_steps pm_p_are_steps an_p_are_steps cd_p_are_steps ct_p_are_steps), sl_p_are_steps⟩)
    (c_p_are_steps_ : PySem.W.codeIn K cd_p_are_steps "are_steps" = true)
    (k_p_are_steps_ : PySem.W.keepIn K (.ref f_p_are_steps) = true)
    (a_p_lowest : PySem.W.nsIn K mainGlobals "lowest" = some (some (.ref f_p_lowest)))
    (l_p_lowest : K.lookup f_p_lowest = some ⟨oc_p_lowest, od_p_lowest, .func (PySem.W.fnOf "lowest" "lowest" (defArgs s_p_lowest) (defBody s_p_lowest) (defScope s_p_lowest) .none kV_p_lowest dc_p_lowest pm_p_lowest an_p_lowest cd_p_lowest ct_p_lowest), sl_p_lowest⟩)
    (c_p_lowest_ : PySem.W.codeIn K cd_p_lowest "lowest" = true)
    (k_p_lowest_ : PySem.W.keepIn K (.ref f_p_lowest) = true)
    (a_p_found_rooms : PySem.W.nsIn K mainGlobals "found_rooms" = some (some (.ref f_p_found_rooms)))
    (l_p_found_rooms : K.lookup f_p_found_rooms = some ⟨oc_p_found_rooms, od_p_found_rooms, .func (PySem.W.fnOf "found_rooms" "found_rooms" (defArgs s_p_found_rooms) (defBody s_p_found_rooms) (defScope s_p_found_rooms) .none kV_p_found_rooms dc_p_found_rooms pm_p_found_rooms an_p_found_rooms cd_p_found_rooms ct_p_found_rooms), sl_p_found_rooms⟩)
    (c_p_found_rooms_ : PySem.W.codeIn K cd_p_found_rooms "found_rooms" = true)
    (k_p_found_rooms_ : PySem.W.keepIn K (.ref f_p_found_rooms) = true)
    (a_p_append_new : PySem.W.nsIn K mainGlobals "append_new" = some (some (.ref f_p_append_new)))
    (l_p_append_new : K.lookup f_p_append_new = some ⟨oc_p_append_new, od_p_append_new, .func (PySem.W.fnOf "append_new" "append_new" (defArgs s_p_append_new) (defBody s_p_append_new) (defScope s_p_append_new) .none kV_p_append_new dc_p_append_new pm_p_append_new an_p_append_new cd_p_append_new ct_p_append_new), sl_p_append_new⟩)
    (c_p_append_new_ : PySem.W.codeIn K cd_p_append_new "append_new" = true)
    (k_p_append_new_ : PySem.W.keepIn K (.ref f_p_append_new) = true)
    (a_p_trimmed : PySem.W.nsIn K mainGlobals "trimmed" = some (some (.ref f_p_trimmed)))
    (l_p_trimmed : K.lookup f_p_trimmed = some ⟨oc_p_trimmed, od_p_trimmed, .func (PySem.W.fnOf "trimmed" "trimmed" (defArgs s_p_trimmed) (defBody s_p_trimmed) (defScope s_p_trimmed) .none kV_p_trimmed dc_p_trimmed pm_p_trimmed an_p_trimmed cd_p_trimmed ct_p_trimmed), sl_p_trimmed⟩)
    (c_p_trimmed_ : PySem.W.codeIn K cd_p_trimmed "trimmed" = true)
    (k_p_trimmed_ : PySem.W.keepIn K (.ref f_p_trimmed) = true)
    (a_p_are_unlike : PySem.W.nsIn K mainGlobals "are_unlike" = some (some (.ref f_p_are_unlike)))
    (l_p_are_unlike : K.lookup f_p_are_unlike = some ⟨oc_p_are_unlike, od_p_are_unlike, .func (PySem.W.fnOf "are_unlike" "are_unlike" (defArgs s_p_are_unlike) (defBody s_p_are_unlike) (defScope s_p_are_unlike) .none kV_p_are_unlike dc_p_are_unlike pm_p_are_unlike an_p_are_unlike cd_p_are_unlike ct_p_are_unlike), sl_p_are_unlike⟩)
    (c_p_are_unlike_ : PySem.W.codeIn K cd_p_are_unlike "are_unlike" = true)
    (k_p_are_unlike_ : PySem.W.keepIn K (.ref f_p_are_unlike) = true)
    (a_p_are_signs : PySem.W.nsIn K mainGlobals "are_signs" = some (some (.ref f_p_are_signs)))
    (l_p_are_signs : K.lookup f_p_are_signs = some ⟨oc_p_are_signs, od_p_are_signs, .func (PySem.W.fnOf "are_signs" "are_signs" (defArgs s_p_are_signs) (defBody s_p_are_signs) (defScope s_p_are_signs) .none kV_p_are_signs dc_p_are_signs pm_p_are_signs an_p_are_signs cd_p_are_signs ct_p_are_signs), sl_p_are_signs⟩)
    (c_p_are_signs_ : PySem.W.codeIn K cd_p_are_signs "are_signs" = true)
    (k_p_are_signs_ : PySem.W.keepIn K (.ref f_p_are_signs) = true)
    (a_p_is_pair : PySem.W.nsIn K mainGlobals "is_pair" = some (some (.ref f_p_is_pair)))
    (l_p_is_pair : K.lookup f_p_is_pair = some ⟨oc_p_is_pair, od_p_is_pair, .func (PySem.W.fnOf "is_pair" "is_pair" (defArgs s_p_is_pair) (defBody s_p_is_pair) (defScope s_p_is_pair) .none kV_p_is_pair dc_p_is_pair pm_p_is_pair an_p_is_pair cd_p_is_pair ct_p_is_pair), sl_p_is_pair⟩)
    (c_p_is_pair_ : PySem.W.codeIn K cd_p_is_pair "is_pair" = true)
    (k_p_is_pair_ : PySem.W.keepIn K (.ref f_p_is_pair) = true)
    (a_p_are_pairs : PySem.W.nsIn K mainGlobals "are_pairs" = some (some (.ref f_p_are_pairs)))
    (l_p_are_pairs : K.lookup f_p_are_pairs = some ⟨oc_p_are_pairs, od_p_are_pairs, .func (PySem.W.fnOf "are_pairs" "are_pairs" (defArgs s_p_are_pairs) (defBody s_p_are_pairs) (defScope s_p_are_pairs) .none kV_p_are_pairs dc_p_are_pairs pm_p_are_pairs an_p_are_pairs cd_p_are_pairs ct_p_are_pairs), sl_p_are_pairs⟩)
    (c_p_are_pairs_ : PySem.W.codeIn K cd_p_are_pairs "are_pairs" = true)
    (k_p_are_pairs_ : PySem.W.keepIn K (.ref f_p_are_pairs) = true)
    (a_p_check_signs : PySem.W.nsIn K mainGlobals "check_signs" = some (some (.ref f_p_check_signs)))
    (l_p_check_signs : K.lookup f_p_check_signs = some ⟨oc_p_check_signs, od_p_check_signs, .func (PySem.W.fnOf "check_signs" "check_signs" (defArgs s_p_check_signs) (defBody s_p_check_signs) (defScope s_p_check_signs) .none kV_p_check_signs dc_p_check_signs pm_p_check_signs an_p_check_signs cd_p_check_signs ct_p_check_signs), sl_p_check_signs⟩)
    (c_p_check_signs_ : PySem.W.codeIn K cd_p_check_signs "check_signs" = true)
    (k_p_check_signs_ : PySem.W.keepIn K (.ref f_p_check_signs) = true)
    (a_p_only : PySem.W.nsIn K mainGlobals "only" = some (some (.ref f_p_only)))
    (l_p_only : K.lookup f_p_only = some ⟨oc_p_only, od_p_only, .func (PySem.W.fnOf "only" "only" (defArgs s_p_only) (defBody s_p_only) (defScope s_p_only) .none kV_p_only dc_p_only pm_p_only an_p_only cd_p_only ct_p_only), sl_p_only⟩)
    (c_p_only_ : PySem.W.codeIn K cd_p_only "only" = true)
    (k_p_only_ : PySem.W.keepIn K (.ref f_p_only) = true)
    (a_p_rename : PySem.W.nsIn K mainGlobals "rename" = some (some (.ref f_p_rename)))
    (l_p_rename : K.lookup f_p_rename = some ⟨oc_p_rename, od_p_rename, .func (PySem.W.fnOf "rename" "rename" (defArgs s_p_rename) (defBody s_p_rename) (defScope s_p_rename) .none kV_p_rename dc_p_rename pm_p_rename an_p_rename cd_p_rename ct_p_rename), sl_p_rename⟩)
    (c_p_rename_ : PySem.W.codeIn K cd_p_rename "rename" = true)
    (k_p_rename_ : PySem.W.keepIn K (.ref f_p_rename) = true)
    (a_l_well : PySem.W.nsIn K mainGlobals "_law_well" = some (some (.ref f_l_well)))
    (l_l_well : K.lookup f_l_well = some ⟨oc_l_well, od_l_well, .func (PySem.W.fnOf "_law_well" "_law_well" (defArgs s_l_well) (defBody s_l_well) (defScope s_l_well) .none kV_l_well dc_l_well pm_l_well an_l_well cd_l_well ct_l_well), sl_l_well⟩)
    (c_l_well_ : PySem.W.codeIn K cd_l_well "_law_well" = true)
    (k_l_well_ : PySem.W.keepIn K (.ref f_l_well) = true)
    (a_l_draw : PySem.W.nsIn K mainGlobals "_law_draw" = some (some (.ref f_l_draw)))
    (l_l_draw : K.lookup f_l_draw = some ⟨oc_l_draw, od_l_draw, .func (PySem.W.fnOf "_law_draw" "_law_draw" (defArgs s_l_draw) (defBody s_l_draw) (defScope s_l_draw) .none kV_l_draw dc_l_draw pm_l_draw an_l_draw cd_l_draw ct_l_draw), sl_l_draw⟩)
    (c_l_draw_ : PySem.W.codeIn K cd_l_draw "_law_draw" = true)
    (k_l_draw_ : PySem.W.keepIn K (.ref f_l_draw) = true)
    (a_l_one : PySem.W.nsIn K mainGlobals "_law_one" = some (some (.ref f_l_one)))
    (l_l_one : K.lookup f_l_one = some ⟨oc_l_one, od_l_one, .func (PySem.W.fnOf "_law_one" "_law_one" (defArgs s_l_one) (defBody s_l_one) (defScope s_l_one) .none kV_l_one dc_l_one pm_l_one an_l_one cd_l_one ct_l_one), sl_l_one⟩)
    (c_l_one_ : PySem.W.codeIn K cd_l_one "_law_one" = true)
    (k_l_one_ : PySem.W.keepIn K (.ref f_l_one) = true)
    (a_l_names : PySem.W.nsIn K mainGlobals "_law_names" = some (some (.ref f_l_names)))
    (l_l_names : K.lookup f_l_names = some ⟨oc_l_names, od_l_names, .func (PySem.W.fnOf "_law_names" "_law_names" (defArgs s_l_names) (defBody s_l_names) (defScope s_l_names) .none kV_l_names dc_l_names pm_l_names an_l_names cd_l_names ct_l_names), sl_l_names⟩)
    (c_l_names_ : PySem.W.codeIn K cd_l_names "_law_names" = true)
    (k_l_names_ : PySem.W.keepIn K (.ref f_l_names) = true)
    (a_l_weights : PySem.W.nsIn K mainGlobals "_law_weights" = some (some (.ref f_l_weights)))
    (l_l_weights : K.lookup f_l_weights = some ⟨oc_l_weights, od_l_weights, .func (PySem.W.fnOf "_law_weights" "_law_weights" (defArgs s_l_weights) (defBody s_l_weights) (defScope s_l_weights) .none kV_l_weights dc_l_weights pm_l_weights an_l_weights cd_l_weights ct_l_weights), sl_l_weights⟩)
    (c_l_weights_ : PySem.W.codeIn K cd_l_weights "_law_weights" = true)
    (k_l_weights_ : PySem.W.keepIn K (.ref f_l_weights) = true)
    (a_l_machine : PySem.W.nsIn K mainGlobals "_law_machine" = some (some (.ref f_l_machine)))
    (l_l_machine : K.lookup f_l_machine = some ⟨oc_l_machine, od_l_machine, .func (PySem.W.fnOf "_law_machine" "_law_machine" (defArgs s_l_machine) (defBody s_l_machine) (defScope s_l_machine) .none kV_l_machine dc_l_machine pm_l_machine an_l_machine cd_l_machine ct_l_machine), sl_l_machine⟩)
    (c_l_machine_ : PySem.W.codeIn K cd_l_machine "_law_machine" = true)
    (k_l_machine_ : PySem.W.keepIn K (.ref f_l_machine) = true)
    (a_l_divided : PySem.W.nsIn K mainGlobals "_law_divided" = some (some (.ref f_l_divided)))
    (l_l_divided : K.lookup f_l_divided = some ⟨oc_l_divided, od_l_divided, .func (PySem.W.fnOf "_law_divided" "_law_divided" (defArgs s_l_divided) (defBody s_l_divided) (defScope s_l_divided) .none kV_l_divided dc_l_divided pm_l_divided an_l_divided cd_l_divided ct_l_divided), sl_l_divided⟩)
    (c_l_divided_ : PySem.W.codeIn K cd_l_divided "_law_divided" = true)
    (k_l_divided_ : PySem.W.keepIn K (.ref f_l_divided) = true)
    (a_l_due : PySem.W.nsIn K mainGlobals "_law_due" = some (some (.ref f_l_due)))
    (l_l_due : K.lookup f_l_due = some ⟨oc_l_due, od_l_due, .func (PySem.W.fnOf "_law_due" "_law_due" (defArgs s_l_due) (defBody s_l_due) (defScope s_l_due) .none kV_l_due dc_l_due pm_l_due an_l_due cd_l_due ct_l_due), sl_l_due⟩)
    (c_l_due_ : PySem.W.codeIn K cd_l_due "_law_due" = true)
    (k_l_due_ : PySem.W.keepIn K (.ref f_l_due) = true)
    (a_l_said : PySem.W.nsIn K mainGlobals "_law_said" = some (some (.ref f_l_said)))
    (l_l_said : K.lookup f_l_said = some ⟨oc_l_said, od_l_said, .func (PySem.W.fnOf "_law_said" "_law_said" (defArgs s_l_said) (defBody s_l_said) (defScope s_l_said) .none kV_l_said dc_l_said pm_l_said an_l_said cd_l_said ct_l_said), sl_l_said⟩)
    (c_l_said_ : PySem.W.codeIn K cd_l_said "_law_said" = true)
    (k_l_said_ : PySem.W.keepIn K (.ref f_l_said) = true)
    (a_l_pairs : PySem.W.nsIn K mainGlobals "_law_pairs" = some (some (.ref f_l_pairs)))
    (l_l_pairs : K.lookup f_l_pairs = some ⟨oc_l_pairs, od_l_pairs, .func (PySem.W.fnOf "_law_pairs" "_law_pairs" (defArgs s_l_pairs) (defBody s_l_pairs) (defScope s_l_pairs) .none kV_l_pairs dc_l_pairs pm_l_pairs an_l_pairs cd_l_pairs ct_l_pairs), sl_l_pairs⟩)
    (c_l_pairs_ : PySem.W.codeIn K cd_l_pairs "_law_pairs" = true)
    (k_l_pairs_ : PySem.W.keepIn K (.ref f_l_pairs) = true)
    (a_l_renamed : PySem.W.nsIn K mainGlobals "_law_renamed" = some (some (.ref f_l_renamed)))
    (l_l_renamed : K.lookup f_l_renamed = some ⟨oc_l_renamed, od_l_renamed, .func (PySem.W.fnOf "_law_renamed" "_law_renamed" (defArgs s_l_renamed) (defBody s_l_renamed) (defScope s_l_renamed) .none kV_l_renamed dc_l_renamed pm_l_renamed an_l_renamed cd_l_renamed ct_l_renamed), sl_l_renamed⟩)
    (c_l_renamed_ : PySem.W.codeIn K cd_l_renamed "_law_renamed" = true)
    (k_l_renamed_ : PySem.W.keepIn K (.ref f_l_renamed) = true)
    (a_l_right : PySem.W.nsIn K mainGlobals "_law_right" = some (some (.ref f_l_right)))
    (l_l_right : K.lookup f_l_right = some ⟨oc_l_right, od_l_right, .func (PySem.W.fnOf "_law_right" "_law_right" (defArgs s_l_right) (defBody s_l_right) (defScope s_l_right) .none kV_l_right dc_l_right pm_l_right an_l_right cd_l_right ct_l_right), sl_l_right⟩)
    (c_l_right_ : PySem.W.codeIn K cd_l_right "_law_right" = true)
    (k_l_right_ : PySem.W.keepIn K (.ref f_l_right) = true)
    (a_law : PySem.W.nsIn K mainGlobals "law" = some (some (.ref f_law)))
    (l_law : K.lookup f_law = some ⟨oc_law, od_law, .func (PySem.W.fnOf "law" "law" (defArgs s_law) (defBody s_law) (defScope s_law) .none kV_law dc_law pm_law an_law cd_law ct_law), sl_law⟩)
    (c_law_ : PySem.W.codeIn K cd_law "law" = true)
    (k_law_ : PySem.W.keepIn K (.ref f_law) = true)
    (pg_Machine : PySem.W.plainGet K c_Machine Str.empty = true)
    (hd_Machine : PySem.W.hasDictIn K c_Machine = true)
    (po_Machine : PySem.W.plainOver K c_Machine = true)
    (sa_Machine : PySem.W.findIn K (.ref c_Machine) "__setattr__" = some (some (.builtin "object.__setattr__")))
    (mk_Machine : PySem.W.makesIn K c_Machine = true)
    (kc_Machine : PySem.W.keepIn K (.ref c_Machine) = true)
    (if_Machine : PySem.W.isFn K (.ref f_m_Machine_init) = true)
    (ha_Machine : PySem.W.findIn K (.ref c_Machine) "__class__" = some (some (.builtin "object.__class__")))
    (hn_Machine : PySem.W.specialIn K (.builtin "object.__class__") "__get__" = some (some (.builtin "getset_descriptor.__get__")))
    (ht_Machine : PySem.W.takesIn K (.builtin "object.__class__") = some true)
    (hm_Machine : PySem.W.mroIn K c_Machine (.type "object") = some true)
    (n_Machine_many : PySem.W.findIn K (.ref c_Machine) "many" = some none)
    (n_Machine_steps : PySem.W.findIn K (.ref c_Machine) "steps" = some none)
    (i_m_Machine_eq : PySem.W.isFn K (.ref f_m_Machine_eq) = true)
    (i_m_Machine_len : PySem.W.isFn K (.ref f_m_Machine_len) = true)
    (nn_Machine : PySem.W.findIn K (.ref c_Machine) "__ne__" = some (some (.builtin "object.__ne__")))
    (nf_Machine_int : PySem.W.notFirst K c_Machine (.type "int") = true)
    (nf_Machine_str : PySem.W.notFirst K c_Machine (.type "str") = true)
    (nf_Machine_NoneType : PySem.W.notFirst K c_Machine (.type "NoneType") = true)
    (nf_Machine_list : PySem.W.notFirst K c_Machine (.type "list") = true)
    (nf_Machine_tuple : PySem.W.notFirst K c_Machine (.type "tuple") = true)
    (nf_Machine_dict : PySem.W.notFirst K c_Machine (.type "dict") = true)
    (nf_Machine_bool : PySem.W.notFirst K c_Machine (.type "bool") = true)
    (ko_Machine : PySem.W.kitOne K (.ref c_Machine) (.ref c_Machine) = some true)
    (ko_Machine_int : PySem.W.kitOne K (.type "int") (.ref c_Machine) = some false)
    (ko_Machine_str : PySem.W.kitOne K (.type "str") (.ref c_Machine) = some false)
    (ko_Machine_NoneType : PySem.W.kitOne K (.type "NoneType") (.ref c_Machine) = some false)
    (ko_Machine_list : PySem.W.kitOne K (.type "list") (.ref c_Machine) = some false)
    (ko_Machine_tuple : PySem.W.kitOne K (.type "tuple") (.ref c_Machine) = some false)
    (ko_Machine_dict : PySem.W.kitOne K (.type "dict") (.ref c_Machine) = some false)
    (ko_Machine_bool : PySem.W.kitOne K (.type "bool") (.ref c_Machine) = some false)
    (ac_LETTERS : PySem.W.nsIn K mainGlobals "LETTERS" = some (some (Value.str "abcdefghijklmnopqrstuvwxyz" tkc_LETTERS)))
    (ac_LONGEST_NAME : PySem.W.nsIn K mainGlobals "LONGEST_NAME" = some (some (Value.int 8 tkc_LONGEST_NAME)))
    (ac_MOST_ROOMS : PySem.W.nsIn K mainGlobals "MOST_ROOMS" = some (some (Value.int 12 tkc_MOST_ROOMS)))
    (zz_isinstance : PySem.W.nsIn K mainGlobals "isinstance" = some none)
    (zz_int : PySem.W.nsIn K mainGlobals "int" = some none)
    (zz_bool : PySem.W.nsIn K mainGlobals "bool" = some none)
    (zz_all : PySem.W.nsIn K mainGlobals "all" = some none)
    (zz_str : PySem.W.nsIn K mainGlobals "str" = some none)
    (zz_len : PySem.W.nsIn K mainGlobals "len" = some none)
    (zz_abs : PySem.W.nsIn K mainGlobals "abs" = some none)
    (zz_sorted : PySem.W.nsIn K mainGlobals "sorted" = some none)
    (zz_range : PySem.W.nsIn K mainGlobals "range" = some none)
    (zz_any : PySem.W.nsIn K mainGlobals "any" = some none)
    (zz_tuple : PySem.W.nsIn K mainGlobals "tuple" = some none)
    (zz_list : PySem.W.nsIn K mainGlobals "list" = some none)
    (zz_enumerate : PySem.W.nsIn K mainGlobals "enumerate" = some none)
    (zz_sum : PySem.W.nsIn K mainGlobals "sum" = some none)
    (zz_repr : PySem.W.nsIn K mainGlobals "repr" = some none)
    (zz_dict : PySem.W.nsIn K mainGlobals "dict" = some none)
    (zz_set : PySem.W.nsIn K mainGlobals "set" = some none)
    (fact_y_FarError_sb : PySem.W.subIn K (.ref c_FarError) (.type "BaseException") = some true)
    (fact_y_FarError_ty : PySem.W.typeIn K (.ref c_FarError) = some (.type "type"))
    (fact_y_FarError_hd : PySem.W.hasDictIn K c_FarError = true)
    (fact_y_NoSign_sb : PySem.W.subIn K (.ref c_NoSign) (.type "BaseException") = some true)
    (fact_y_NoSign_ty : PySem.W.typeIn K (.ref c_NoSign) = some (.type "type"))
    (fact_y_NoSign_hd : PySem.W.hasDictIn K c_NoSign = true)
    (fact_i_NoSign_xi : PySem.W.excInitIn K c_NoSign PySem.HandSPX.veTail "ValueError.__new__" = true)
    (fact_i_NoSign_hd : PySem.W.hasDictIn K c_NoSign = true)
    (fact_i_NoSign_sa : PySem.W.findIn K (.ref c_NoSign) "__setattr__" = some (some (.builtin "object.__setattr__")))
    (fact_i_NoSign_sb : PySem.W.subIn K (.ref c_NoSign) (.type "BaseException") = some true)
    (fact_i_NoSign_ty : PySem.W.typeIn K (.ref c_NoSign) = some (.type "type"))
    (fact_i_NoSign_kp : PySem.W.keepIn K (.ref c_NoSign) = true)
    (fact_i_NoSign_hg : PySem.W.findIn K (.ref c_NoSign) "__getattribute__" = some (some (.builtin "BaseException.__getattribute__")))
    (fact_i_NoSign_hk : PySem.W.findIn K (.ref c_NoSign) "__getattr__" = some none)
    (fact_i_NoSign_no : PySem.W.findIn K (.ref c_NoSign) "sign" = some none)
    (fact_i_NoSign_in : PySem.W.findIn K (.ref c_NoSign) "__init__" = some (some (.ref f_m_NoSign_init)))
    (fact_i_NoSign_tf : PySem.W.typeIn K (.ref f_m_NoSign_init) = some (.type "function"))
    (fact_i_NoSign_ha : PySem.W.findIn K (.ref c_NoSign) "__class__" = some (some (.builtin "object.__class__")))
    (fact_i_NoSign_hn : PySem.W.specialIn K (.builtin "object.__class__") "__get__" = some (some (.builtin "getset_descriptor.__get__")))
    (fact_i_NoSign_ht : PySem.W.takesIn K (.builtin "object.__class__") = some true)
    (fact_i_NoSign_hm : PySem.W.mroIn K c_NoSign (.type "object") = some true)
    (fact_sub_NoSign_FarError : PySem.W.subIn K (.ref c_NoSign) (.ref c_FarError) = some true)
    (fact_sub_NoSign_NoSign : PySem.W.subIn K (.ref c_NoSign) (.ref c_NoSign) = some true)
    (fact_kit_NoSign_FarError : PySem.W.kitOne K (.ref c_NoSign) (.ref c_FarError) = some true)
    (to_l_right : Fb.tabOk K "_law_right" = true)
    (tq_l_right : ∃ dd, (recsOf q).find? (fun e => e.name == ("_law_right" : Str)) = some dd)
    : ∃ (fd : FuncData) (cs : List (Addr × Addr)) (sp : Sp), (∀ p ∈ cs, ∃ y dd, (recsOf q).find? (fun e => e.name == y) = some dd ∧ PySem.W.tabIn K y = some p) ∧ (∀ p ∈ cs, K.lookup p.2 = none) ∧ (∀ (s : Shared) (v : Value), BindsTo s fd ⟨[v], []⟩ [("_law_script", v)]) ∧ (∀ (H : Hp) (a : Addr) (ns : List Int), ns.length ≤ 63 → (∀ p ∈ cs, H p.2 = some (.tbl #[])) → SqL K H a (ns.map V.int) → sp [.ref a] H (fun v _ => v = .bl true) fun _ _ _ => False) ∧ ∀ base : Heap, K.In base → base.Ns mainGlobals mg → (∀ p ∈ cs, LamX.TabB base mg p.1 p.2) → Fb.FnOkG l.prog w K mg base CX0 14 fa fd ["_law_script"] sp := by
  have e := hfa.symm.trans (PySem.W.mg_of X G a_law)
  cases e
  have F_m_NoMachine_init := fun_mk (st := s_m_NoMachine_init) l_m_NoMachine_init c_m_NoMachine_init_ k_m_NoMachine_init_
  have b_m_NoMachine_init := F_m_NoMachine_init.binds (ps := ["self", "part"]) fun _ _ _ _ _ _ us hl => match us, hl with | [_, _], _ => rfl
  have F_m_NoSign_init := fun_mk (st := s_m_NoSign_init) l_m_NoSign_init c_m_NoSign_init_ k_m_NoSign_init_
  have b_m_NoSign_init := F_m_NoSign_init.binds (ps := ["self", "sign"]) fun _ _ _ _ _ _ us hl => match us, hl with | [_, _], _ => rfl
  have F_p_is_whole := fun_mk (st := s_p_is_whole) l_p_is_whole c_p_is_whole_ k_p_is_whole_
  have b_p_is_whole := F_p_is_whole.binds (ps := ["thing"]) fun _ _ _ _ _ _ us hl => match us, hl with | [_], _ => rfl
  have F_p_is_name := fun_mk (st := s_p_is_name) l_p_is_name c_p_is_name_ k_p_is_name_
  have b_p_is_name := F_p_is_name.binds (ps := ["thing"]) fun _ _ _ _ _ _ us hl => match us, hl with | [_], _ => rfl
  have F_p_common_part := fun_mk (st := s_p_common_part) l_p_common_part c_p_common_part_ k_p_common_part_
  have b_p_common_part := F_p_common_part.binds (ps := ["one", "other"]) fun _ _ _ _ _ _ us hl => match us, hl with | [_, _], _ => rfl
  have F_m_Machine_init := fun_mk (st := s_m_Machine_init) l_m_Machine_init c_m_Machine_init_ k_m_Machine_init_
  have b_m_Machine_init := F_m_Machine_init.binds (ps := ["self", "many", "steps"]) fun _ _ _ _ _ _ us hl => match us, hl with | [_, _, _], _ => rfl
  have F_m_Machine_eq := fun_mk (st := s_m_Machine_eq) l_m_Machine_eq c_m_Machine_eq_ k_m_Machine_eq_
  have b_m_Machine_eq := F_m_Machine_eq.binds (ps := ["self", "other"]) fun _ _ _ _ _ _ us hl => match us, hl with | [_, _], _ => rfl
  have F_m_Machine_len := fun_mk (st := s_m_Machine_len) l_m_Machine_len c_m_Machine_len_ k_m_Machine_len_
  have b_m_Machine_len := F_m_Machine_len.binds (ps := ["self"]) fun _ _ _ _ _ _ us hl => match us, hl with | [_], _ => rfl
  have F_p_is_room := fun_mk (st := s_p_is_room) l_p_is_room c_p_is_room_ k_p_is_room_
  have b_p_is_room := F_p_is_room.binds (ps := ["thing", "many"]) fun _ _ _ _ _ _ us hl => match us, hl with | [_, _], _ => rfl
  have F_p_are_weights := fun_mk (st := s_p_are_weights) l_p_are_weights c_p_are_weights_ k_p_are_weights_
  have b_p_are_weights := F_p_are_weights.binds (ps := ["thing", "many"]) fun _ _ _ _ _ _ us hl => match us, hl with | [_, _], _ => rfl
  have F_p_is_step := fun_mk (st := s_p_is_step) l_p_is_step c_p_is_step_ k_p_is_step_
  have b_p_is_step := F_p_is_step.binds (ps := ["thing", "many"]) fun _ _ _ _ _ _ us hl => match us, hl with | [_, _], _ => rfl
  have F_p_are_steps := fun_mk (st := s_p_are_steps) l_p_are_steps c_p_are_steps_ k_p_are_steps_
  have b_p_are_steps := F_p_are_steps.binds (ps := ["thing", "many"]) fun _ _ _ _ _ _ us hl => match us, hl with | [_, _], _ => rfl
  have F_p_lowest := fun_mk (st := s_p_lowest) l_p_lowest c_p_lowest_ k_p_lowest_
  have b_p_lowest := F_p_lowest.binds (ps := ["weights"]) fun _ _ _ _ _ _ us hl => match us, hl with | [_], _ => rfl
  have F_p_found_rooms := fun_mk (st := s_p_found_rooms) l_p_found_rooms c_p_found_rooms_ k_p_found_rooms_
  have b_p_found_rooms := F_p_found_rooms.binds (ps := ["machine"]) fun _ _ _ _ _ _ us hl => match us, hl with | [_], _ => rfl
  have F_p_append_new := fun_mk (st := s_p_append_new) l_p_append_new c_p_append_new_ k_p_append_new_
  have b_p_append_new := F_p_append_new.binds (ps := ["found", "rooms"]) fun _ _ _ _ _ _ us hl => match us, hl with | [_, _], _ => rfl
  have F_p_trimmed := fun_mk (st := s_p_trimmed) l_p_trimmed c_p_trimmed_ k_p_trimmed_
  have b_p_trimmed := F_p_trimmed.binds (ps := ["machine"]) fun _ _ _ _ _ _ us hl => match us, hl with | [_], _ => rfl
  have F_p_are_unlike := fun_mk (st := s_p_are_unlike) l_p_are_unlike c_p_are_unlike_ k_p_are_unlike_
  have b_p_are_unlike := F_p_are_unlike.binds (ps := ["names"]) fun _ _ _ _ _ _ us hl => match us, hl with | [_], _ => rfl
  have F_p_are_signs := fun_mk (st := s_p_are_signs) l_p_are_signs c_p_are_signs_ k_p_are_signs_
  have b_p_are_signs := F_p_are_signs.binds (ps := ["thing"]) fun _ _ _ _ _ _ us hl => match us, hl with | [_], _ => rfl
  have F_p_is_pair := fun_mk (st := s_p_is_pair) l_p_is_pair c_p_is_pair_ k_p_is_pair_
  have b_p_is_pair := F_p_is_pair.binds (ps := ["thing"]) fun _ _ _ _ _ _ us hl => match us, hl with | [_], _ => rfl
  have F_p_are_pairs := fun_mk (st := s_p_are_pairs) l_p_are_pairs c_p_are_pairs_ k_p_are_pairs_
  have b_p_are_pairs := F_p_are_pairs.binds (ps := ["thing"]) fun _ _ _ _ _ _ us hl => match us, hl with | [_], _ => rfl
  have F_p_check_signs := fun_mk (st := s_p_check_signs) l_p_check_signs c_p_check_signs_ k_p_check_signs_
  have b_p_check_signs := F_p_check_signs.binds (ps := ["thing"]) fun _ _ _ _ _ _ us hl => match us, hl with | [_], _ => rfl
  have F_p_only := fun_mk (st := s_p_only) l_p_only c_p_only_ k_p_only_
  have b_p_only := F_p_only.binds (ps := ["signs", "machine"]) fun _ _ _ _ _ _ us hl => match us, hl with | [_, _], _ => rfl
  have F_p_rename := fun_mk (st := s_p_rename) l_p_rename c_p_rename_ k_p_rename_
  have b_p_rename := F_p_rename.binds (ps := ["pairs", "machine"]) fun _ _ _ _ _ _ us hl => match us, hl with | [_, _], _ => rfl
  have F_l_well := fun_mk (st := s_l_well) l_l_well c_l_well_ k_l_well_
  have b_l_well := F_l_well.binds (ps := ["_law_cell"]) fun _ _ _ _ _ _ us hl => match us, hl with | [_], _ => rfl
  have F_l_draw := fun_mk (st := s_l_draw) l_l_draw c_l_draw_ k_l_draw_
  have b_l_draw := F_l_draw.binds (ps := ["_law_well_here", "_law_many"]) fun _ _ _ _ _ _ us hl => match us, hl with | [_, _], _ => rfl
  have F_l_one := fun_mk (st := s_l_one) l_l_one c_l_one_ k_l_one_
  have b_l_one := F_l_one.binds (ps := ["_law_well_here", "_law_some"]) fun _ _ _ _ _ _ us hl => match us, hl with | [_, _], _ => rfl
  have F_l_names := fun_mk (st := s_l_names) l_l_names c_l_names_ k_l_names_
  have b_l_names := F_l_names.binds (ps := ["_law_well_here", "_law_many"]) fun _ _ _ _ _ _ us hl => match us, hl with | [_, _], _ => rfl
  have F_l_weights := fun_mk (st := s_l_weights) l_l_weights c_l_weights_ k_l_weights_
  have b_l_weights := F_l_weights.binds (ps := ["_law_well_here", "_law_many"]) fun _ _ _ _ _ _ us hl => match us, hl with | [_, _], _ => rfl
  have F_l_machine := fun_mk (st := s_l_machine) l_l_machine c_l_machine_ k_l_machine_
  have b_l_machine := F_l_machine.binds (ps := ["_law_well_here", "_law_signs", "_law_most"]) fun _ _ _ _ _ _ us hl => match us, hl with | [_, _, _], _ => rfl
  have F_l_divided := fun_mk (st := s_l_divided) l_l_divided c_l_divided_ k_l_divided_
  have b_l_divided := F_l_divided.binds (ps := ["_law_weights_here"]) fun _ _ _ _ _ _ us hl => match us, hl with | [_], _ => rfl
  have F_l_due := fun_mk (st := s_l_due) l_l_due c_l_due_ k_l_due_
  have b_l_due := F_l_due.binds (ps := ["_law_steps"]) fun _ _ _ _ _ _ us hl => match us, hl with | [_], _ => rfl
  have F_l_said := fun_mk (st := s_l_said) l_l_said c_l_said_ k_l_said_
  have b_l_said := F_l_said.binds (ps := ["_law_deed"]) fun _ _ _ _ _ _ us hl => match us, hl with | [_], _ => rfl
  have F_l_pairs := fun_mk (st := s_l_pairs) l_l_pairs c_l_pairs_ k_l_pairs_
  have b_l_pairs := F_l_pairs.binds (ps := ["_law_well_here", "_law_signs", "_law_others"]) fun _ _ _ _ _ _ us hl => match us, hl with | [_, _, _], _ => rfl
  have F_l_renamed := fun_mk (st := s_l_renamed) l_l_renamed c_l_renamed_ k_l_renamed_
  have b_l_renamed := F_l_renamed.binds (ps := ["_law_pairs_here", "_law_steps"]) fun _ _ _ _ _ _ us hl => match us, hl with | [_, _], _ => rfl
  have F_l_right := fun_mk (st := s_l_right) l_l_right c_l_right_ k_l_right_
  have b_l_right := F_l_right.binds (ps := ["_law_well_here"]) fun _ _ _ _ _ _ us hl => match us, hl with | [_], _ => rfl
  have F_law := fun_mk (st := s_law) l_law c_law_ k_law_
  have b_law := F_law.binds (ps := ["_law_script"]) fun _ _ _ _ _ _ us hl => match us, hl with | [_], _ => rfl
  obtain ⟨tc_l_right, tp_l_right, tb_l_right, tn_l_right⟩ := tabOk_ex to_l_right
  exact ⟨PySem.W.fnOf "law" "law" (defArgs s_law) (defBody s_law) (defScope s_law) .none kV_law dc_law pm_law an_law cd_law ct_law, [(tc_l_right, tp_l_right)], Fb.spLaw K tp_l_right, fun p hp => by
      rw [List.mem_singleton.mp hp]
      exact tq_l_right.elim fun dd h => ⟨_, dd, h, tb_l_right⟩, fun p hp => by
      rw [List.mem_singleton.mp hp]
      exact tn_l_right, fun s v => .of_eq rfl, fun H a ns hl hT hS => ⟨a, ns, rfl, hS, hl, hT _ (List.mem_singleton.mpr rfl), fun _ => rfl⟩, fun base _ _ TB => ok_law (⟨c_FarError, (PySem.W.mg_of X G a_FarError), c_NoMachine, (PySem.W.mg_of X G a_NoMachine), c_NoSign, (PySem.W.mg_of X G a_NoSign), c_Machine, (PySem.W.mg_of X G a_Machine), f_m_NoMachine_init, _, F_m_NoMachine_init, b_m_NoMachine_init, f_m_NoSign_init, _, F_m_NoSign_init, b_m_NoSign_init, f_p_is_whole, _, F_p_is_whole, b_p_is_whole, (PySem.W.mg_of X G a_p_is_whole), f_p_is_name, _, F_p_is_name, b_p_is_name, (PySem.W.mg_of X G a_p_is_name), f_p_common_part, _, F_p_common_part, b_p_common_part, (PySem.W.mg_of X G a_p_common_part), f_m_Machine_init, _, F_m_Machine_init, b_m_Machine_init, f_m_Machine_eq, _, F_m_Machine_eq, b_m_Machine_eq, f_m_Machine_len, _, F_m_Machine_len, b_m_Machine_len, f_p_is_room, _, F_p_is_room, b_p_is_room, (PySem.W.mg_of X G a_p_is_room), f_p_are_weights, _, F_p_are_weights, b_p_are_weights, (PySem.W.mg_of X G a_p_are_weights), f_p_is_step, _, F_p_is_step, b_p_is_step, (PySem.W.mg_of X G a_p_is_step), f_p_are_steps, _, F_p_are_steps, b_p_are_steps, (PySem.W.mg_of X G a_p_are_steps), f_p_lowest, _, F_p_lowest, b_p_lowest, (PySem.W.mg_of X G a_p_lowest), f_p_found_rooms, _, F_p_found_rooms, b_p_found_rooms, (PySem.W.mg_of X G a_p_found_rooms), f_p_append_new, _, F_p_append_new, b_p_append_new, (PySem.W.mg_of X G a_p_append_new), f_p_trimmed, _, F_p_trimmed, b_p_trimmed, (PySem.W.mg_of X G a_p_trimmed), f_p_are_unlike, _, F_p_are_unlike, b_p_are_unlike, (PySem.W.mg_of X G a_p_are_unlike), f_p_are_signs, _, F_p_are_signs, b_p_are_signs, (PySem.W.mg_of X G a_p_are_signs), f_p_is_pair, _, F_p_is_pair, b_p_is_pair, (PySem.W.mg_of X G a_p_is_pair), f_p_are_pairs, _, F_p_are_pairs, b_p_are_pairs, (PySem.W.mg_of X G a_p_are_pairs), f_p_check_signs, _, F_p_check_signs, b_p_check_signs, (PySem.W.mg_of X G a_p_check_signs), f_p_only, _, F_p_only, b_p_only, (PySem.W.mg_of X G a_p_only), f_p_rename, _, F_p_rename, b_p_rename, (PySem.W.mg_of X G a_p_rename), f_l_well, _, F_l_well, b_l_well, (PySem.W.mg_of X G a_l_well), f_l_draw, _, F_l_draw, b_l_draw, (PySem.W.mg_of X G a_l_draw), f_l_one, _, F_l_one, b_l_one, (PySem.W.mg_of X G a_l_one), f_l_names, _, F_l_names, b_l_names, (PySem.W.mg_of X G a_l_names), f_l_weights, _, F_l_weights, b_l_weights, (PySem.W.mg_of X G a_l_weights), f_l_machine, _, F_l_machine, b_l_machine, (PySem.W.mg_of X G a_l_machine), f_l_divided, _, F_l_divided, b_l_divided, (PySem.W.mg_of X G a_l_divided), f_l_due, _, F_l_due, b_l_due, (PySem.W.mg_of X G a_l_due), f_l_said, _, F_l_said, b_l_said, (PySem.W.mg_of X G a_l_said), f_l_pairs, _, F_l_pairs, b_l_pairs, (PySem.W.mg_of X G a_l_pairs), f_l_renamed, _, F_l_renamed, b_l_renamed, (PySem.W.mg_of X G a_l_renamed), f_l_right, _, F_l_right, b_l_right, (PySem.W.mg_of X G a_l_right), _, _, F_law, b_law, (PySem.W.mg_of X G a_law), ⟨pg_Machine, hd_Machine, po_Machine, sa_Machine⟩, ⟨mk_Machine, a_m_Machine_init, if_Machine, kc_Machine⟩, ⟨ha_Machine, hn_Machine, ht_Machine, hm_Machine⟩, n_Machine_many, n_Machine_steps, ⟨a_m_Machine_eq, i_m_Machine_eq, k_m_Machine_eq_⟩, ⟨a_m_Machine_len, i_m_Machine_len, k_m_Machine_len_⟩, nn_Machine, nf_Machine_int, nf_Machine_str, nf_Machine_NoneType, nf_Machine_list, nf_Machine_tuple, nf_Machine_dict, nf_Machine_bool, ko_Machine, ko_Machine_int, ko_Machine_str, ko_Machine_NoneType, ko_Machine_list, ko_Machine_tuple, ko_Machine_dict, ko_Machine_bool, _, (PySem.W.mg_of X G ac_LETTERS), ⟨_, rfl⟩, _, (PySem.W.mg_of X G ac_LONGEST_NAME), ⟨_, rfl⟩, _, (PySem.W.mg_of X G ac_MOST_ROOMS), ⟨_, rfl⟩, (PySem.W.mg_none_of X G zz_isinstance), (PySem.W.mg_none_of X G zz_int), (PySem.W.mg_none_of X G zz_bool), (PySem.W.mg_none_of X G zz_all), (PySem.W.mg_none_of X G zz_str), (PySem.W.mg_none_of X G zz_len), (PySem.W.mg_none_of X G zz_abs), (PySem.W.mg_none_of X G zz_sorted), (PySem.W.mg_none_of X G zz_range), (PySem.W.mg_none_of X G zz_any), (PySem.W.mg_none_of X G zz_tuple), (PySem.W.mg_none_of X G zz_list), (PySem.W.mg_none_of X G zz_enumerate), (PySem.W.mg_none_of X G zz_sum), (PySem.W.mg_none_of X G zz_repr), (PySem.W.mg_none_of X G zz_dict), (PySem.W.mg_none_of X G zz_set), fact_y_FarError_sb, fact_y_FarError_ty, fact_y_FarError_hd, fact_y_NoSign_sb, fact_y_NoSign_ty, fact_y_NoSign_hd, fact_i_NoSign_xi, fact_i_NoSign_hd, fact_i_NoSign_sa, fact_i_NoSign_sb, fact_i_NoSign_ty, fact_i_NoSign_kp, fact_i_NoSign_hg, fact_i_NoSign_hk, fact_i_NoSign_no, fact_i_NoSign_in, fact_i_NoSign_tf, fact_i_NoSign_ha, fact_i_NoSign_hn, fact_i_NoSign_ht, fact_i_NoSign_hm, fact_sub_NoSign_FarError, fact_sub_NoSign_NoSign, fact_kit_NoSign_FarError⟩ : Txt K mg) (code_is tb_l_right a_l_right l_l_right) (TB _ (List.mem_singleton.mpr rfl))⟩
end Fb
open PySem PySem.W PyProof.Rows
set_option maxRecDepth 100000 in
set_option maxHeartbeats 0 in
theorem PySem.Challenge.cw_farbetween_k68_signs_left_and_renamed_holds : PySem.Challenge.rw_farbetween_k68_signs_left_and_renamed.Holds := by
  w_on; o_law; k_head; (case hw => w_witness2)
  k_fill
  refine Fb.walk_ofTG (l := PySem.Challenge.rw_farbetween_k68_signs_left_and_renamed) (n := 63) (k := 14) (x := "_law_script") rfl (by decide) rfl ⟨rfl, by decide, by decide⟩ (fun w h Y => PySem.W.km_in_of Y) ?F
  case F =>
    intro w mg fa h KX G hmg
    refine' Fb.all_mk KX G hmg ?a_FarError ?a_NoMachine ?a_NoSign ?a_Machine ?a_m_NoMachine_init ?l_m_NoMachine_init ?c_m_NoMachine_init_ ?k_m_NoMachine_init_ ?a_m_NoSign_init ?l_m_NoSign_init ?c_m_NoSign_init_ ?k_m_NoSign_init_ ?a_p_is_whole ?l_p_is_whole ?c_p_is_whole_ ?k_p_is_whole_ ?a_p_is_name ?l_p_is_name ?c_p_is_name_ ?k_p_is_name_ ?a_p_common_part ?l_p_common_part ?c_p_common_part_ ?k_p_common_part_ ?a_m_Machine_init ?l_m_Machine_init ?c_m_Machine_init_ ?k_m_Machine_init_ ?a_m_Machine_eq ?l_m_Machine_eq ?c_m_Machine_eq_ ?k_m_Machine_eq_ ?a_m_Machine_len ?l_m_Machine_len ?c_m_Machine_len_ ?k_m_Machine_len_ ?a_p_is_room ?l_p_is_room ?c_p_is_room_ ?k_p_is_room_ ?a_p_are_weights ?l_p_are_weights ?c_p_are_weights_ ?k_p_are_weights_ ?a_p_is_step ?l_p_is_step ?c_p_is_step_ ?k_p_is_step_ ?a_p_are_steps ?l_p_are_steps ?c_p_are_steps_ ?k_p_are_steps_ ?a_p_lowest ?l_p_lowest ?c_p_lowest_ ?k_p_lowest_ ?a_p_found_rooms ?l_p_found_rooms ?c_p_found_rooms_ ?k_p_found_rooms_ ?a_p_append_new ?l_p_append_new ?c_p_append_new_ ?k_p_append_new_ ?a_p_trimmed ?l_p_trimmed ?c_p_trimmed_ ?k_p_trimmed_ ?a_p_are_unlike ?l_p_are_unlike ?c_p_are_unlike_ ?k_p_are_unlike_ ?a_p_are_signs ?l_p_are_signs ?c_p_are_signs_ ?k_p_are_signs_ ?a_p_is_pair ?l_p_is_pair ?c_p_is_pair_ ?k_p_is_pair_ ?a_p_are_pairs ?l_p_are_pairs ?c_p_are_pairs_ ?k_p_are_pairs_ ?a_p_check_signs ?l_p_check_signs ?c_p_check_signs_ ?k_p_check_signs_ ?a_p_only ?l_p_only ?c_p_only_ ?k_p_only_ ?a_p_rename ?l_p_rename ?c_p_rename_ ?k_p_rename_ ?a_l_well ?l_l_well ?c_l_well_ ?k_l_well_ ?a_l_draw ?l_l_draw ?c_l_draw_ ?k_l_draw_ ?a_l_one ?l_l_one ?c_l_one_ ?k_l_one_ ?a_l_names ?l_l_names ?c_l_names_ ?k_l_names_ ?a_l_weights ?l_l_weights ?c_l_weights_ ?k_l_weights_ ?a_l_machine ?l_l_machine ?c_l_machine_ ?k_l_machine_ ?a_l_divided ?l_l_divided ?c_l_divided_ ?k_l_divided_ ?a_l_due ?l_l_due ?c_l_due_ ?k_l_due_ ?a_l_said ?l_l_said ?c_l_said_ ?k_l_said_ ?a_l_pairs ?l_l_pairs ?c_l_pairs_ ?k_l_pairs_ ?a_l_renamed ?l_l_renamed ?c_l_renamed_ ?k_l_renamed_ ?a_l_right ?l_l_right ?c_l_right_ ?k_l_right_ ?a_law ?l_law ?c_law_ ?k_law_ ?pg_Machine ?hd_Machine ?po_Machine ?sa_Machine ?mk_Machine ?kc_Machine ?if_Machine ?ha_Machine ?hn_Machine ?ht_Machine ?hm_Machine ?n_Machine_many ?n_Machine_steps ?i_m_Machine_eq ?i_m_Machine_len ?nn_Machine ?nf_Machine_int ?nf_Machine_str ?nf_Machine_NoneType ?nf_Machine_list ?nf_Machine_tuple ?nf_Machine_dict ?nf_Machine_bool ?ko_Machine ?ko_Machine_int ?ko_Machine_str ?ko_Machine_NoneType ?ko_Machine_list ?ko_Machine_tuple ?ko_Machine_dict ?ko_Machine_bool ?ac_LETTERS ?ac_LONGEST_NAME ?ac_MOST_ROOMS ?zz_isinstance ?zz_int ?zz_bool ?zz_all ?zz_str ?zz_len ?zz_abs ?zz_sorted ?zz_range ?zz_any ?zz_tuple ?zz_list ?zz_enumerate ?zz_sum ?zz_repr ?zz_dict ?zz_set ?fact_y_FarError_sb ?fact_y_FarError_ty ?fact_y_FarError_hd ?fact_y_NoSign_sb ?fact_y_NoSign_ty ?fact_y_NoSign_hd ?fact_i_NoSign_xi ?fact_i_NoSign_hd ?fact_i_NoSign_sa ?fact_i_NoSign_sb ?fact_i_NoSign_ty ?fact_i_NoSign_kp ?fact_i_NoSign_hg ?fact_i_NoSign_hk ?fact_i_NoSign_no ?fact_i_NoSign_in ?fact_i_NoSign_tf ?fact_i_NoSign_ha ?fact_i_NoSign_hn ?fact_i_NoSign_ht ?fact_i_NoSign_hm ?fact_sub_NoSign_FarError ?fact_sub_NoSign_NoSign ?fact_kit_NoSign_FarError ?to_l_right ?tq_l_right
    (case a_FarError => k_is)
    (case a_NoMachine => k_is)
    (case a_NoSign => k_is)
    (case a_Machine => k_is)
    (case a_m_NoMachine_init => k_is)
    (case l_m_NoMachine_init => k_is)
    (case c_m_NoMachine_init_ => k_is)
    (case k_m_NoMachine_init_ => k_is)
    (case a_m_NoSign_init => k_is)
    (case l_m_NoSign_init => k_is)
    (case c_m_NoSign_init_ => k_is)
    (case k_m_NoSign_init_ => k_is)
    (case a_p_is_whole => k_is)
    (case l_p_is_whole => k_is)
    (case c_p_is_whole_ => k_is)
    (case k_p_is_whole_ => k_is)
    (case a_p_is_name => k_is)
    (case l_p_is_name => k_is)
    (case c_p_is_name_ => k_is)
    (case k_p_is_name_ => k_is)
    (case a_p_common_part => k_is)
    (case l_p_common_part => k_is)
    (case c_p_common_part_ => k_is)
    (case k_p_common_part_ => k_is)
    (case a_m_Machine_init => k_is)
    (case l_m_Machine_init => k_is)
    (case c_m_Machine_init_ => k_is)
    (case k_m_Machine_init_ => k_is)
    (case a_m_Machine_eq => k_is)
    (case l_m_Machine_eq => k_is)
    (case c_m_Machine_eq_ => k_is)
    (case k_m_Machine_eq_ => k_is)
    (case a_m_Machine_len => k_is)
    (case l_m_Machine_len => k_is)
    (case c_m_Machine_len_ => k_is)
    (case k_m_Machine_len_ => k_is)
    (case a_p_is_room => k_is)
    (case l_p_is_room => k_is)
    (case c_p_is_room_ => k_is)
    (case k_p_is_room_ => k_is)
    (case a_p_are_weights => k_is)
    (case l_p_are_weights => k_is)
    (case c_p_are_weights_ => k_is)
    (case k_p_are_weights_ => k_is)
    (case a_p_is_step => k_is)
    (case l_p_is_step => k_is)
    (case c_p_is_step_ => k_is)
    (case k_p_is_step_ => k_is)
    (case a_p_are_steps => k_is)
    (case l_p_are_steps => k_is)
    (case c_p_are_steps_ => k_is)
    (case k_p_are_steps_ => k_is)
    (case a_p_lowest => k_is)
    (case l_p_lowest => k_is)
    (case c_p_lowest_ => k_is)
    (case k_p_lowest_ => k_is)
    (case a_p_found_rooms => k_is)
    (case l_p_found_rooms => k_is)
    (case c_p_found_rooms_ => k_is)
    (case k_p_found_rooms_ => k_is)
    (case a_p_append_new => k_is)
    (case l_p_append_new => k_is)
    (case c_p_append_new_ => k_is)
    (case k_p_append_new_ => k_is)
    (case a_p_trimmed => k_is)
    (case l_p_trimmed => k_is)
    (case c_p_trimmed_ => k_is)
    (case k_p_trimmed_ => k_is)
    (case a_p_are_unlike => k_is)
    (case l_p_are_unlike => k_is)
    (case c_p_are_unlike_ => k_is)
    (case k_p_are_unlike_ => k_is)
    (case a_p_are_signs => k_is)
    (case l_p_are_signs => k_is)
    (case c_p_are_signs_ => k_is)
    (case k_p_are_signs_ => k_is)
    (case a_p_is_pair => k_is)
    (case l_p_is_pair => k_is)
    (case c_p_is_pair_ => k_is)
    (case k_p_is_pair_ => k_is)
    (case a_p_are_pairs => k_is)
    (case l_p_are_pairs => k_is)
    (case c_p_are_pairs_ => k_is)
    (case k_p_are_pairs_ => k_is)
    (case a_p_check_signs => k_is)
    (case l_p_check_signs => k_is)
    (case c_p_check_signs_ => k_is)
    (case k_p_check_signs_ => k_is)
    (case a_p_only => k_is)
    (case l_p_only => k_is)
    (case c_p_only_ => k_is)
    (case k_p_only_ => k_is)
    (case a_p_rename => k_is)
    (case l_p_rename => k_is)
    (case c_p_rename_ => k_is)
    (case k_p_rename_ => k_is)
    (case a_l_well => k_is)
    (case l_l_well => k_is)
    (case c_l_well_ => k_is)
    (case k_l_well_ => k_is)
    (case a_l_draw => k_is)
    (case l_l_draw => k_is)
    (case c_l_draw_ => k_is)
    (case k_l_draw_ => k_is)
    (case a_l_one => k_is)
    (case l_l_one => k_is)
    (case c_l_one_ => k_is)
    (case k_l_one_ => k_is)
    (case a_l_names => k_is)
    (case l_l_names => k_is)
    (case c_l_names_ => k_is)
    (case k_l_names_ => k_is)
    (case a_l_weights => k_is)
    (case l_l_weights => k_is)
    (case c_l_weights_ => k_is)
    (case k_l_weights_ => k_is)
    (case a_l_machine => k_is)
    (case l_l_machine => k_is)
    (case c_l_machine_ => k_is)
    (case k_l_machine_ => k_is)
    (case a_l_divided => k_is)
    (case l_l_divided => k_is)
    (case c_l_divided_ => k_is)
    (case k_l_divided_ => k_is)
    (case a_l_due => k_is)
    (case l_l_due => k_is)
    (case c_l_due_ => k_is)
    (case k_l_due_ => k_is)
    (case a_l_said => k_is)
    (case l_l_said => k_is)
    (case c_l_said_ => k_is)
    (case k_l_said_ => k_is)
    (case a_l_pairs => k_is)
    (case l_l_pairs => k_is)
    (case c_l_pairs_ => k_is)
    (case k_l_pairs_ => k_is)
    (case a_l_renamed => k_is)
    (case l_l_renamed => k_is)
    (case c_l_renamed_ => k_is)
    (case k_l_renamed_ => k_is)
    (case a_l_right => k_is)
    (case l_l_right => k_is)
    (case c_l_right_ => k_is)
    (case k_l_right_ => k_is)
    (case a_law => k_is)
    (case l_law => k_is)
    (case c_law_ => k_is)
    (case k_law_ => k_is)
    (case pg_Machine => k_is)
    (case hd_Machine => k_is)
    (case po_Machine => k_is)
    (case sa_Machine => k_is)
    (case mk_Machine => k_is)
    (case kc_Machine => k_is)
    (case if_Machine => k_is)
    (case ha_Machine => k_is)
    (case hn_Machine => k_is)
    (case ht_Machine => k_is)
    (case hm_Machine => k_is)
    (case n_Machine_many => k_is)
    (case n_Machine_steps => k_is)
    (case i_m_Machine_eq => k_is)
    (case i_m_Machine_len => k_is)
    (case nn_Machine => k_is)
    (case nf_Machine_int => k_is)
    (case nf_Machine_str => k_is)
    (case nf_Machine_NoneType => k_is)
    (case nf_Machine_list => k_is)
    (case nf_Machine_tuple => k_is)
    (case nf_Machine_dict => k_is)
    (case nf_Machine_bool => k_is)
    (case ko_Machine => kit_is)
    (case ko_Machine_int => kit_is)
    (case ko_Machine_str => kit_is)
    (case ko_Machine_NoneType => kit_is)
    (case ko_Machine_list => kit_is)
    (case ko_Machine_tuple => kit_is)
    (case ko_Machine_dict => kit_is)
    (case ko_Machine_bool => kit_is)
    (case ac_LETTERS => k_is)
    (case ac_LONGEST_NAME => k_is)
    (case ac_MOST_ROOMS => k_is)
    (case zz_isinstance => k_is)
    (case zz_int => k_is)
    (case zz_bool => k_is)
    (case zz_all => k_is)
    (case zz_str => k_is)
    (case zz_len => k_is)
    (case zz_abs => k_is)
    (case zz_sorted => k_is)
    (case zz_range => k_is)
    (case zz_any => k_is)
    (case zz_tuple => k_is)
    (case zz_list => k_is)
    (case zz_enumerate => k_is)
    (case zz_sum => k_is)
    (case zz_repr => k_is)
    (case zz_dict => k_is)
    (case zz_set => k_is)
    (case fact_y_FarError_sb => k_is)
    (case fact_y_FarError_ty => k_is)
    (case fact_y_FarError_hd => k_is)
    (case fact_y_NoSign_sb => k_is)
    (case fact_y_NoSign_ty => k_is)
    (case fact_y_NoSign_hd => k_is)
    (case fact_i_NoSign_xi => kx_is)
    (case fact_i_NoSign_hd => k_is)
    (case fact_i_NoSign_sa => k_is)
    (case fact_i_NoSign_sb => k_is)
    (case fact_i_NoSign_ty => k_is)
    (case fact_i_NoSign_kp => k_is)
    (case fact_i_NoSign_hg => k_is)
    (case fact_i_NoSign_hk => k_is)
    (case fact_i_NoSign_no => k_is)
    (case fact_i_NoSign_in => k_is)
    (case fact_i_NoSign_tf => k_is)
    (case fact_i_NoSign_ha => k_is)
    (case fact_i_NoSign_hn => k_is)
    (case fact_i_NoSign_ht => k_is)
    (case fact_i_NoSign_hm => k_is)
    (case fact_sub_NoSign_FarError => first | rfl | k_is)
    (case fact_sub_NoSign_NoSign => first | rfl | k_is)
    (case fact_kit_NoSign_FarError => kit_is)
    (case to_l_right => kernel_rfl)
    (case tq_l_right => exact ⟨_, rfl⟩)
