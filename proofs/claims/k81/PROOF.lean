import PyProof.Rows.All
import Wide.All
import OpenK.AllK
import Wide.FinOn
import HandS.ForMost
import HandS.Wide
import HandS.IsInst
import HandS.Defaults
import HandS.OwnEq
import HandS.Zip
import HandS.Style
import HandS.SetFor
import KE.RegKIsAll
import HandS.FStr
import HandS.NoneIn
import HandS.Exc
import HandS.TryOnly
import HandS.ExcOwn
import HandS.WordsExc
import HandS.ExcIs
import HandS.Walk
import HandS.TupSets
import HandS.SetBool
import KE.GoesMore
import HandS.DictComp
import HandS.TupMul
import HandS.Dict
import HandS.TryMany
import HandS.ExcInit
import HandS.ExcField
import KE.KExcLine
import HandS.TupAny
import KE.KExcIs
import HandS.Conv
import KE.KDictKeyed
import KE.KDictList
import HandS.Text
import HandS.StrMore
import HandS.TupLe
import HandS.WideBits
import HandS.Codes
import HandS.Flow
import HandS.Style
import KE.GoesRaise
import KE.KAsSuite
import PyProof.FString5
import PyProof.StrBlock2
import PySem.Challenge.RW_farbetween_k81_machine_texts_refused
set_option Elab.async false
set_option linter.all false
set_option maxRecDepth 100000
/-! Part A: rules and mathematics that hang on no row. -/
namespace Fb
open PySem PySem.Spec PyProof.Rows L2
/-! ### rules -/
section
variable {X : Cx}
/-- // by any divisor but 0 below 2 ^ 9000 -/
def CDivZ (_ j : Int) : Prop := j ≠ 0 ∧ j.natAbs.log2 < 9000
theorem op_fdivZ : OpR X (binaryOp .FloorDiv) (rI CDivZ fun i j => .int (i.fdiv j)) := opI fun _ _ _ _ _ _ _ hc q => floordiv_int hc.1 q (.inl (PyProof.noPylong_of_log2 hc.2))
def ipC (C : Int → Int → Prop) (f : Int → Int → Int) : TIp := fun x y H Q => ∃ i j, x = .int i ∧ y = .int j ∧ C i j ∧ Q (.int (f i j)) H
theorem ip_mulW : PIp X .Mult (ipC CMulW fun i j => i * j) := by
  intro pins s σ H x y v u Q I r1 r2 h
  obtain ⟨i, j, e1, e2, hc, q⟩ := h
  subst e1; subst e2
  obtain ⟨t, rfl⟩ := r1
  obtain ⟨t', rfl⟩ := r2
  exact imul_int ⟨.int _, H, I.tok _, ⟨_, rfl⟩, q⟩ hc.ok
end
/-! ### the same rules with the written part named (within a comprehension) -/
section
variable {X : Cx} {K : PySem.W.Frag} {e : Expr} {ta : TE} {f : Str} {pos : Pos}
theorem pe_fldK (hK : X.K = K) (he : PE X e ta) (hb : attributeBase e f X.env (eval e X.env) = eval e X.env) : PE X (.Attribute e f pos) (tFld K ta f) := hK ▸ pe_fld he hb
theorem ix_listK (hK : X.K = K) : IxR X (rIxL K) := hK ▸ ix_list
theorem ix_tupK (hK : X.K = K) : IxR X (rIxT K) := hK ▸ ix_tup
theorem sl_listK (hK : X.K = K) : SlR X (rSlL K) := hK ▸ sl_list
theorem call_len_seqK (hK : X.K = K) : CallR X (.builtin "len") (fun xs H Q => ∃ p ys, xs = [.ref p] ∧ (SqL K H p ys ∨ SqT K H p ys) ∧ Q (.int ys.length) H) := hK ▸ call_len_seq
theorem call_isiK (hK : X.K = K) : CallR X (.builtin "isinstance") (rIsi K) := hK ▸ call_isi
end
/-- what isinstance asks of a class -/
structure TyIns (K : PySem.W.Frag) (C : Addr) : Prop where
  ha : PySem.W.findIn K (.ref C) "__class__" = some (some (.builtin "object.__class__"))
  hn : PySem.W.specialIn K (.builtin "object.__class__") "__get__" = some (some (.builtin "getset_descriptor.__get__"))
  htk : PySem.W.takesIn K (.builtin "object.__class__") = some true
  hm : PySem.W.mroIn K C (.type "object") = some true
/-! ### heaps -/
theorem same_upd {H : Hp} {p : Addr} {o : HO} (h : H p = none) : Same H (upd H p o) := fun b x e => by
  rw [upd_ne (ne_of_none e h)]
  exact e
theorem same_upd2 {G H : Hp} {p : Addr} {o : HO} (s : Same G H) (h : H p = none) : Same G (upd H p o) := s.trans (same_upd h)
/-- over a new object that has been stored into once more -/
theorem same_over {G H : Hp} {p : Addr} {o : HO} (s : Same G H) (h : G p = none) : Same G (upd H p o) := fun b x e => by
  rw [upd_ne (ne_of_none e h)]
  exact s _ _ e
theorem sqT_new {K : PySem.W.Frag} {H : Hp} {p : Addr} {xs : List V} : SqT K (upd H p (.tup xs)) p xs := .inl (.inl upd_same)
theorem sqL_new {K : PySem.W.Frag} {H : Hp} {p : Addr} {xs : List V} : SqL K (upd H p (.lst xs)) p xs := .inl (.inl upd_same)
/-- the heap without what stands at a -/
def hid (a : Addr) (H : Hp) : Hp := fun b => if b = a then none else H b
theorem hid_same {a : Addr} {H : Hp} : Same (hid a H) H := fun b o e => by
  unfold hid at e
  by_cases h : b = a
  · rw [if_pos h] at e; cases e
  · rw [if_neg h] at e; exact e
theorem hid_ne {a b : Addr} {H : Hp} (h : b ≠ a) : hid a H b = H b := if_neg h
theorem hid_self {a : Addr} {H : Hp} : hid a H a = none := if_pos rfl
theorem hid_mono {a : Addr} {H H' : Hp} (s : Same H H') : Same (hid a H) (hid a H') := fun b o e => by
  by_cases h : b = a
  · rw [h, hid_self] at e; cases e
  · rw [hid_ne h] at e ⊢; exact s _ _ e
theorem hid_upd {a : Addr} {H : Hp} {o : HO} : hid a (upd H a o) = hid a H := by
  funext b
  by_cases h : b = a
  · rw [h, hid_self, hid_self]
  · rw [hid_ne h, hid_ne h, upd_ne h]
theorem hid_updN {a p : Addr} {H : Hp} {o : HO} (h : p ≠ a) : hid a (upd H p o) = upd (hid a H) p o := by
  funext b
  by_cases hb : b = a
  · rw [hb, hid_self, upd_ne (Ne.symm h), hid_self]
  · rw [hid_ne hb]
    by_cases hp : b = p
    · rw [hp, upd_same, upd_same]
    · rw [upd_ne hp, upd_ne hp, hid_ne hb]
/-! ### shares in the heap -/
theorem tb : ¬ (("top" : Str) = "bottom") := by decide +kernel
def flds (q : Rat) : List (Str × V) := putF "bottom" (.int (q.den : Int)) (putF "top" (.int q.num) [])
theorem flds_top (q : Rat) : (flds q).lookup ("top" : Str) = some (.int q.num) := by
  unfold flds
  rw [lookup_putF, if_neg tb, lookup_putF, if_pos rfl]
theorem flds_bottom (q : Rat) : (flds q).lookup ("bottom" : Str) = some (.int (q.den : Int)) := by
  unfold flds
  rw [lookup_putF, if_pos rfl]
def IsShare (C : Addr) (H : Hp) (v : V) (q : Rat) : Prop := ∃ p dx, v = .ref p ∧ H p = some (.ins C dx (flds q))
theorem IsShare.mono {C : Addr} {H H' : Hp} {v : V} {q : Rat} (h : IsShare C H v q) (s : Same H H') : IsShare C H' v q := by
  obtain ⟨p, dx, e, h⟩ := h
  exact ⟨p, dx, e, s _ _ h⟩
/-! ### the greatest common part, and lowest terms -/
theorem gcd_step (a b : Int) : Int.gcd b (a.fmod b) = Int.gcd a b := by
  have e : a.fmod b = a - b * a.fdiv b := Int.fmod_def a b
  rw [e, Int.gcd_sub_mul_left_right, Int.gcd_comm]
theorem fmod_lt (a b : Int) (h : b ≠ 0) : (a.fmod b).natAbs < b.natAbs := by
  rw [Int.fmod_eq_emod]
  have h1 := Int.emod_nonneg a h
  have h2 := Int.emod_lt a h
  split
  · omega
  · rename_i z
    have h3 : ¬ b ∣ a := fun d => z (.inr d)
    have h4 : a % b ≠ 0 := fun e => h3 (Int.dvd_of_emod_eq_zero e)
    have h5 : ¬ 0 ≤ b := fun d => z (.inl d)
    omega
/-- the divisor that brings t over b to lowest terms, its sign the bottom's -/
def cut (t b : Int) : Int := if b < 0 then -(Int.gcd t b : Int) else (Int.gcd t b : Int)
theorem gcd_pos {t b : Int} (h : b ≠ 0) : 0 < Int.gcd t b := Int.gcd_pos_of_ne_zero_right _ h
theorem cut_ne {t b : Int} (h : b ≠ 0) : cut t b ≠ 0 := by
  have := gcd_pos (t := t) h
  unfold cut
  split <;> omega
theorem cut_abs {t b : Int} : (cut t b).natAbs = Int.gcd t b := by
  unfold cut
  split <;> omega
theorem cut_le {t b : Int} (h : b ≠ 0) : (cut t b).natAbs ≤ b.natAbs := by
  rw [cut_abs]
  exact Nat.le_of_dvd (by omega) (Int.natAbs_dvd_natAbs.mpr (Int.gcd_dvd_right t b))
theorem cut_top {t b : Int} (h : b ≠ 0) : t.fdiv (cut t b) = (Rat.divInt t b).num := by
  have d : (Int.gcd t b : Int) ∣ t := Int.gcd_dvd_left t b
  rw [Rat.num_divInt, Int.gcd_comm b t]
  unfold cut
  by_cases hb : b < 0
  · rw [if_pos hb, Int.sign_eq_neg_one_of_neg hb, Int.fdiv_eq_ediv_of_dvd (Int.neg_dvd.mpr d), Int.ediv_neg, Int.neg_one_mul, Int.neg_ediv_of_dvd d]
  · rw [if_neg hb, Int.sign_eq_one_of_pos (by omega), Int.one_mul, Int.fdiv_eq_ediv_of_dvd d]
theorem cut_bottom {t b : Int} (h : b ≠ 0) : b.fdiv (cut t b) = ((Rat.divInt t b).den : Int) := by
  have d : (Int.gcd t b : Int) ∣ b := Int.gcd_dvd_right t b
  rw [Rat.den_divInt, if_neg h, Int.gcd_comm b t]
  unfold cut
  rw [Int.natCast_ediv]
  by_cases hb : b < 0
  · rw [if_pos hb, Int.fdiv_eq_ediv_of_dvd (Int.neg_dvd.mpr d), Int.ediv_neg, ← Int.neg_ediv_of_dvd d]
    congr 1
    omega
  · rw [if_neg hb, Int.fdiv_eq_ediv_of_dvd d]
    congr 1
    omega
end Fb

/-! Part A2: shares as rational numbers, their bounds; sums over a common bottom; lists that comprehensions make. -/
namespace Fb
open PySem PySem.Spec PyProof.Rows L2
/-! ### bounds -/
structure Bd (n : Nat) (q : Rat) : Prop where
  num : q.num.natAbs < 2 ^ n
  den : q.den < 2 ^ n
theorem Bd.mono {n m : Nat} {q : Rat} (h : Bd n q) (l : n ≤ m) : Bd m q :=
  ⟨Nat.lt_of_lt_of_le h.num (Nat.pow_le_pow_right (by decide) l), Nat.lt_of_lt_of_le h.den (Nat.pow_le_pow_right (by decide) l)⟩
theorem Bd.pos {n : Nat} {q : Rat} (h : Bd n q) : 0 < n := by
  have := h.den
  have := q.den_pos
  cases n with
  | zero => simp at *; omega
  | succ n => omega
theorem divInt_num_le {t b : Int} (h : b ≠ 0) : (Rat.divInt t b).num.natAbs ≤ t.natAbs := by
  have d : (cut t b) ∣ t := by
    have d := Int.gcd_dvd_left t b
    unfold cut
    split
    · exact Int.neg_dvd.mpr d
    · exact d
  have e : (Rat.divInt t b).num * cut t b = t := by
    rw [← cut_top h, Int.fdiv_eq_ediv_of_dvd d, Int.ediv_mul_cancel d]
  have e2 := congrArg Int.natAbs e
  rw [Int.natAbs_mul] at e2
  have := cut_ne (t := t) h
  rw [← e2]
  exact Nat.le_mul_of_pos_right _ (by omega)
theorem divInt_den_le {t b : Int} (h : b ≠ 0) : (Rat.divInt t b).den ≤ b.natAbs := by
  rw [Rat.den_divInt, if_neg h]
  exact Nat.div_le_self _ _
theorem Bd.divInt {t b : Int} {n : Nat} (h : b ≠ 0) (ht : t.natAbs < 2 ^ n) (hb : b.natAbs < 2 ^ n) : Bd n (Rat.divInt t b) :=
  ⟨Nat.lt_of_le_of_lt (divInt_num_le h) ht, Nat.lt_of_le_of_lt (divInt_den_le h) hb⟩
theorem den_ne (q : Rat) : (q.den : Int) ≠ 0 := by
  have := q.den_pos
  omega
theorem den_abs {n : Nat} {q : Rat} (h : Bd n q) : (q.den : Int).natAbs < 2 ^ n := by
  have := h.den
  omega
theorem dens_ne (x y : Rat) : (x.den : Int) * (y.den : Int) ≠ 0 := Int.mul_ne_zero (den_ne x) (den_ne y)
theorem rat_add (x y : Rat) : Rat.divInt (x.num * (y.den : Int) + y.num * (x.den : Int)) ((x.den : Int) * (y.den : Int)) = x + y := by
  rw [Rat.add_def', ← Int.natCast_mul, Rat.divInt_ofNat]
theorem rat_sub (x y : Rat) : Rat.divInt (x.num * (y.den : Int) - y.num * (x.den : Int)) ((x.den : Int) * (y.den : Int)) = x - y := by
  rw [Rat.sub_def', ← Int.natCast_mul, Rat.divInt_ofNat]
theorem rat_mul (x y : Rat) : Rat.divInt (x.num * y.num) ((x.den : Int) * (y.den : Int)) = x * y := by
  rw [Rat.mul_def', ← Int.natCast_mul, Rat.divInt_ofNat]
theorem rat_div (x y : Rat) : Rat.divInt (x.num * (y.den : Int)) ((x.den : Int) * y.num) = x / y := by
  rw [Rat.div_def, Rat.inv_def, ← Rat.divInt_mul_divInt, Rat.num_divInt_den]
theorem sum_lt {a b : Int} {n : Nat} (ha : a.natAbs < 2 ^ n) (hb : b.natAbs < 2 ^ n) : (a + b).natAbs < 2 ^ (n + 1) := by
  rw [Nat.pow_succ]
  omega
theorem sub_lt {a b : Int} {n : Nat} (ha : a.natAbs < 2 ^ n) (hb : b.natAbs < 2 ^ n) : (a - b).natAbs < 2 ^ (n + 1) := by
  rw [Nat.pow_succ]
  omega
theorem up {a : Int} {n m : Nat} (ha : a.natAbs < 2 ^ n) (h : n ≤ m) : a.natAbs < 2 ^ m := Nat.lt_of_lt_of_le ha (Nat.pow_le_pow_right (by decide) h)
theorem Bd.add {n m : Nat} {x y : Rat} (hx : Bd n x) (hy : Bd m y) : Bd (n + m + 1) (x + y) := by
  rw [← rat_add]
  refine .divInt (dens_ne x y) (sum_lt (wide_lt hx.num (den_abs hy)) ?_) (up (wide_lt (den_abs hx) (den_abs hy)) (by omega))
  have := wide_lt hy.num (den_abs hx)
  rw [Nat.add_comm] at this
  exact this
theorem Bd.sub {n m : Nat} {x y : Rat} (hx : Bd n x) (hy : Bd m y) : Bd (n + m + 1) (x - y) := by
  rw [← rat_sub]
  refine .divInt (dens_ne x y) (sub_lt (wide_lt hx.num (den_abs hy)) ?_) (up (wide_lt (den_abs hx) (den_abs hy)) (by omega))
  have := wide_lt hy.num (den_abs hx)
  rw [Nat.add_comm] at this
  exact this
theorem Bd.mul {n m : Nat} {x y : Rat} (hx : Bd n x) (hy : Bd m y) : Bd (n + m) (x * y) := by
  rw [← rat_mul]
  exact .divInt (dens_ne x y) (wide_lt hx.num hy.num) (wide_lt (den_abs hx) (den_abs hy))
theorem Bd.div {n m : Nat} {x y : Rat} (hx : Bd n x) (hy : Bd m y) (h0 : y ≠ 0) : Bd (n + m) (x / y) := by
  rw [← rat_div]
  exact .divInt (Int.mul_ne_zero (den_ne x) (fun z => h0 (Rat.num_eq_zero.mp z))) (wide_lt hx.num (den_abs hy)) (wide_lt (den_abs hx) hy.num)
theorem log_of {a : Int} {n : Nat} (h0 : 0 < n) (h : a.natAbs < 2 ^ n) (h9 : n ≤ 9000) : a.natAbs.log2 < 9000 := Nat.lt_of_lt_of_le (PySem.Flt.log2_lt_of h0 h) h9
/-! ### sums over a common bottom -/
def lcmOn : Nat → List Rat → Nat
  | L, [] => L
  | L, q :: r => lcmOn (L * (q.den / Nat.gcd L q.den)) r
theorem lcmOn_pos : ∀ (qs : List Rat) (L : Nat), 0 < L → 0 < lcmOn L qs
  | [], _, h => h
  | q :: r, L, h => by
    refine lcmOn_pos r _ (Nat.mul_pos h (Nat.div_pos (Nat.le_of_dvd q.den_pos (Nat.gcd_dvd_right _ _)) (Nat.gcd_pos_of_pos_left _ h)))
theorem lcmOn_dvd : ∀ (qs : List Rat) (L : Nat), L ∣ lcmOn L qs
  | [], L => Nat.dvd_refl L
  | _ :: r, L => Nat.dvd_trans (Nat.dvd_mul_right L _) (lcmOn_dvd r _)
theorem den_dvd_step (L d : Nat) : d ∣ L * (d / Nat.gcd L d) := by
  rw [← Nat.mul_div_assoc _ (Nat.gcd_dvd_right L d)]
  exact Nat.dvd_lcm_right L d
theorem den_dvd_lcm : ∀ (qs : List Rat) (L : Nat) (q : Rat), q ∈ qs → q.den ∣ lcmOn L qs
  | x :: r, L, q, h => by
    rcases List.mem_cons.mp h with e | h
    · subst e
      exact Nat.dvd_trans (den_dvd_step L q.den) (lcmOn_dvd r _)
    · exact den_dvd_lcm r _ q h
theorem lcmOn_lt : ∀ (qs : List Rat) (L n a : Nat), (∀ q ∈ qs, q.den < 2 ^ n) → L < 2 ^ a → lcmOn L qs < 2 ^ (a + n * qs.length)
  | [], L, n, a, _, h => by simpa [lcmOn] using h
  | q :: r, L, n, a, hq, h => by
    have h1 : L * (q.den / Nat.gcd L q.den) < 2 ^ (a + n) := by
      rw [Nat.pow_add]
      exact Nat.lt_of_le_of_lt (Nat.mul_le_mul_left _ (Nat.div_le_self _ _)) (Nat.mul_lt_mul'' h (hq q List.mem_cons_self))
    have := lcmOn_lt r _ n (a + n) (fun x hx => hq x (List.mem_cons_of_mem _ hx)) h1
    rw [List.length_cons, Nat.mul_succ]
    rw [show a + (n * r.length + n) = a + n + n * r.length by omega]
    exact this
def rsum : List Rat → Rat
  | [] => 0
  | q :: r => q + rsum r
theorem rsum_append : ∀ (a b : List Rat), rsum (a ++ b) = rsum a + rsum b
  | [], b => (Rat.zero_add _).symm
  | q :: r, b => by
    show q + rsum (r ++ b) = q + rsum r + rsum b
    rw [rsum_append r b, Rat.add_assoc]
theorem divInt_add_same (a b d : Int) : Rat.divInt (a + b) d = Rat.divInt a d + Rat.divInt b d := by
  by_cases h : d = 0
  · subst h
    simp [Rat.zero_add]
  · rw [Rat.divInt_add_divInt _ _ h h, ← Int.add_mul, Rat.divInt_mul_right h]
def topsOf (L : Nat) (qs : List Rat) : List Int := qs.map fun q => q.num * ((L / q.den : Nat) : Int)
theorem tops_one {L : Nat} {q : Rat} (h0 : 0 < L) (hd : q.den ∣ L) : Rat.divInt (q.num * ((L / q.den : Nat) : Int)) (L : Int) = q := by
  obtain ⟨k, rfl⟩ := hd
  have hk : k ≠ 0 := fun z => by
    subst z
    simp at h0
  rw [Nat.mul_div_cancel_left _ q.den_pos, Int.natCast_mul, Rat.divInt_mul_right (by omega), Rat.num_divInt_den]
theorem tops_sum {L : Nat} (h0 : 0 < L) : ∀ (qs : List Rat), (∀ q ∈ qs, q.den ∣ L) → Rat.divInt (topsOf L qs).sum (L : Int) = rsum qs
  | [], _ => by simp [topsOf, rsum]
  | q :: r, h => by
    show Rat.divInt (q.num * ((L / q.den : Nat) : Int) + (topsOf L r).sum) (L : Int) = q + rsum r
    rw [divInt_add_same, tops_one h0 (h q List.mem_cons_self), tops_sum h0 r fun x hx => h x (List.mem_cons_of_mem _ hx)]
/-- n bounds each share, N their number -/
structure Few (n N : Nat) (qs : List Rat) : Prop where
  bd : ∀ q ∈ qs, Bd n q
  len : qs.length ≤ N
  small : n * N ≤ 8000
  most : N ≤ 999
  pos : 0 < n
/-! ### values that stand for a list of things -/
def AllAre {α : Type} (R : V → α → Prop) (vs : List V) (xs : List α) : Prop := vs.length = xs.length ∧ ∀ (i : Nat) (v : V) (x : α), vs[i]? = some v → xs[i]? = some x → R v x
theorem AllAre.nil {α : Type} {R : V → α → Prop} : AllAre R [] [] := ⟨rfl, fun i v x h => by simp at h⟩
theorem AllAre.at {α : Type} {R : V → α → Prop} {vs : List V} {xs : List α} {i : Nat} {v : V} (h : AllAre R vs xs) (e : vs[i]? = some v) : ∃ x, xs[i]? = some x ∧ R v x := by
  have hi : i < xs.length := by
    have := (List.getElem?_eq_some_iff.mp e).1
    rw [← h.1]
    exact this
  exact ⟨xs[i], List.getElem?_eq_getElem hi, h.2 i v _ e (List.getElem?_eq_getElem hi)⟩
theorem AllAre.imp {α : Type} {R R' : V → α → Prop} {vs : List V} {xs : List α} (h : AllAre R vs xs) (f : ∀ v x, R v x → R' v x) : AllAre R' vs xs := ⟨h.1, fun i v x a b => f _ _ (h.2 i v x a b)⟩
theorem AllAre.cons {α : Type} {R : V → α → Prop} {v : V} {x : α} {vs : List V} {xs : List α} (r : R v x) (h : AllAre R vs xs) : AllAre R (v :: vs) (x :: xs) := by
  refine ⟨by simp [h.1], fun i a b h1 h2 => ?_⟩
  cases i with
  | zero =>
    simp at h1 h2
    subst h1; subst h2
    exact r
  | succ i =>
    simp at h1 h2
    exact h.2 i a b h1 h2
theorem AllAre.append {α : Type} {R : V → α → Prop} : ∀ {vs us : List V} {xs ys : List α}, AllAre R vs xs → AllAre R us ys → AllAre R (vs ++ us) (xs ++ ys)
  | [], us, [], ys, _, h => h
  | v :: vs, us, x :: xs, ys, h, h' => by
    have t : AllAre R vs xs := ⟨by simpa using h.1, fun i a b h1 h2 => h.2 (i + 1) a b (by simpa using h1) (by simpa using h2)⟩
    exact .cons (h.2 0 v x rfl rfl) (t.append h')
  | [], _, _ :: _, _, h, _ => by simp [AllAre] at h
  | _ :: _, _, [], _, h, _ => by simp [AllAre] at h
theorem AllAre.snoc {α : Type} {R : V → α → Prop} {v : V} {x : α} {vs : List V} {xs : List α} (h : AllAre R vs xs) (r : R v x) : AllAre R (vs ++ [v]) (xs ++ [x]) := h.append (.cons r .nil)
theorem AllAre.take {α : Type} {R : V → α → Prop} {vs : List V} {xs : List α} (n : Nat) (h : AllAre R vs xs) : AllAre R (vs.take n) (xs.take n) := by
  refine ⟨by simp [h.1], fun i a b h1 h2 => ?_⟩
  rw [List.getElem?_take] at h1 h2
  split at h1
  · rw [if_pos (by assumption)] at h2
    exact h.2 i a b h1 h2
  · cases h1
theorem AllAre.drop {α : Type} {R : V → α → Prop} {vs : List V} {xs : List α} (n : Nat) (h : AllAre R vs xs) : AllAre R (vs.drop n) (xs.drop n) := by
  refine ⟨by simp [h.1], fun i a b h1 h2 => ?_⟩
  rw [List.getElem?_drop] at h1 h2
  exact h.2 _ a b h1 h2
theorem AllAre.reverse {α : Type} {R : V → α → Prop} {vs : List V} {xs : List α} (h : AllAre R vs xs) : AllAre R vs.reverse xs.reverse := by
  refine ⟨by simp [h.1], fun i a b h1 h2 => ?_⟩
  have l1 := (List.getElem?_eq_some_iff.mp h1).1
  have l2 := (List.getElem?_eq_some_iff.mp h2).1
  rw [List.length_reverse] at l1 l2
  rw [List.getElem?_reverse l1] at h1
  rw [List.getElem?_reverse l2, ← h.1] at h2
  exact h.2 _ a b h1 h2
/-- a list of shares -/
def IsShares (C : Addr) (H : Hp) (v : V) (qs : List Rat) : Prop := ∃ p vs, v = .ref p ∧ H p = some (.lst vs) ∧ AllAre (IsShare C H) vs qs
theorem IsShares.mono {C : Addr} {H H' : Hp} {v : V} {qs : List Rat} (h : IsShares C H v qs) (s : Same H H') : IsShares C H' v qs := by
  obtain ⟨p, vs, e, h, a⟩ := h
  exact ⟨p, vs, e, s _ _ h, a.imp fun _ _ r => r.mono s⟩
/-! ### comprehensions that only make -/
/-- [e for x in xs]: what is told of the i-th item is told of it to the end -/
theorem lc_all {K : PySem.W.Frag} {a : Addr} {xs : List V} {g : TG} {te : TE} {vs : List Nat} {σ : L2.St} {H1 : Hp} {D : Addr} {Qd : Hp → Prop} (R : Nat → V → Hp → Prop) (mono : ∀ i v H H', Same H H' → R i v H → R i v H')
    (hD : H1 D = none) (hS : SqL K H1 a xs) (hz : xs.length ≤ 1000)
    (hs : ∀ i x H (k : V → Hp → Prop), xs[i]? = some x → Same H1 (hid D H) → (∃ ys, H D = some (.lst ys)) → (∀ y H4, Same H H4 → R i y (hid D H4) → k y H4) → g x (wipe σ vs) H fun σ2 H2 => wipe σ2 vs = wipe σ vs ∧ te σ2 H2 k)
    (hd : ∀ H ys, Same H1 (hid D H) → H D = some (.lst ys) → ys.length = xs.length → (∀ i y, ys[i]? = some y → R i y (hid D H)) → Qd H) :
    ∃ W : Nat → Nat → Hp → Prop, (∃ m, W 0 m (upd H1 D (.lst []))) ∧ ∀ i m H, W i m H →
      ((Itl K a).stop i H ∧ Qd H) ∨ ((Itl K a).go i H ∧ ∃ Nx : Hp → Prop, (∀ H', Nx H' → ∃ m', m' < m ∧ W (i + 1) m' H') ∧ ∀ x H', (Itl K a).yld i H x H' → g x (wipe σ vs) H' fun σ2 H2 => wipe σ2 vs = wipe σ vs ∧ tYes σ2 H2 fun b H3 =>
        if b = true then te σ2 H3 fun y H4 => ∃ acc, H4 D = some (.lst acc) ∧ acc.length < sizeLine ∧ Nx (upd H4 D (.lst (acc ++ [y]))) else Nx H3) := by
  refine lc_list (xs := xs) (fun i H => ∃ ys, Same H1 (hid D H) ∧ H D = some (.lst ys) ∧ ys.length = i ∧ ∀ j y, ys[j]? = some y → R j y (hid D H)) ⟨[], ?_, upd_same, rfl, fun j y h => by simp at h⟩ (fun i H _ h => ?_) (fun i x H hx h => ?_) (fun H h => ?_)
  · intro b o e
    rw [hid_ne (ne_of_none e hD), upd_ne (ne_of_none e hD)]
    exact e
  · obtain ⟨ys, s, _⟩ := h
    exact (s.trans hid_same).seq hS
  · obtain ⟨ys, s, e, l, r⟩ := h
    have hi : i < xs.length := (List.getElem?_eq_some_iff.mp hx).1
    refine hs i x H (fun y H4 => ∃ acc, H4 D = some (.lst acc) ∧ acc.length < sizeLine ∧ ∃ ys, Same H1 (hid D (upd H4 D (.lst (acc ++ [y])))) ∧ (upd H4 D (.lst (acc ++ [y]))) D = some (.lst ys) ∧ ys.length = i + 1 ∧ ∀ j y', ys[j]? = some y' → R j y' (hid D (upd H4 D (.lst (acc ++ [y]))))) hx s ⟨_, e⟩ fun y H4 s4 ry => ?_
    refine ⟨ys, s4 _ _ e, small1000 (by omega), ys ++ [y], ?_, upd_same, by simp [l], fun j y' h => ?_⟩
    · rw [hid_upd]
      exact s.trans (hid_mono s4)
    · rw [hid_upd]
      by_cases hj : j < ys.length
      · rw [List.getElem?_append_left hj] at h
        exact mono _ _ _ _ (hid_mono s4) (r j y' h)
      · rw [List.getElem?_append_right (by omega)] at h
        have hj2 : j - ys.length = 0 := by
          have := (List.getElem?_eq_some_iff.mp h).1
          simp at this
          omega
        rw [hj2] at h
        simp at h
        subst h
        have : j = i := by omega
        rw [this]
        exact ry
  · obtain ⟨ys, s, e, l, r⟩ := h
    exact hd H ys s e l r
end Fb

/-! Part A3: the well of draws, pairs, equality of pairs. -/
namespace Fb
open PySem PySem.Spec PyProof.Rows L2
/-- the well at a, good for n draws more -/
def WellAt (H : Hp) (a : Addr) (n : Nat) : Prop := ∃ w0 w1 w2 : Int, H a = some (.lst [.int w0, .int w1, .int w2]) ∧ 0 ≤ w1 ∧ w1 < 2147483647 ∧ 0 ≤ w2 ∧ w2 + (n : Int) ≤ 1099511627776
theorem WellAt.mono {H : Hp} {a : Addr} {n m : Nat} (h : WellAt H a n) (l : m ≤ n) : WellAt H a m := by
  obtain ⟨w0, w1, w2, e, a1, a2, a3, a4⟩ := h
  exact ⟨w0, w1, w2, e, a1, a2, a3, by omega⟩
theorem WellAt.same {H H' : Hp} {a : Addr} {n : Nat} (h : WellAt H a n) (s : Same H H') : WellAt H' a n := by
  obtain ⟨w0, w1, w2, e, r⟩ := h
  exact ⟨w0, w1, w2, s _ _ e, r⟩
theorem WellAt.ne {H : Hp} {a p : Addr} {n : Nat} (h : WellAt H a n) (e : H p = none) : p ≠ a := by
  obtain ⟨w0, w1, w2, ea, _⟩ := h
  intro z
  rw [z, ea] at e
  cases e
/-- what the seven primes are -/
theorem primes7 {k : Int} (h0 : 0 ≤ k) (h7 : k < 7) : ∃ p : Int, atI [V.int 2147483647, V.int 2147483629, V.int 2147483587, V.int 2147483579, V.int 2147483563, V.int 2147483549, V.int 2147483543] k = some (.int p) ∧ 0 < p ∧ p < 2147483648 := by
  have : k = 0 ∨ k = 1 ∨ k = 2 ∨ k = 3 ∨ k = 4 ∨ k = 5 ∨ k = 6 := by omega
  rcases this with e | e | e | e | e | e | e <;> subst e <;> exact ⟨_, rfl, by decide, by decide⟩
theorem atI_get {α : Type} {xs : List α} {i : Int} (h0 : 0 ≤ i) (h : i < xs.length) : ∃ x, atI xs i = some x ∧ xs[i.toNat]? = some x := by
  have hl : i.toNat < xs.length := by omega
  have g := List.getElem?_eq_getElem hl
  have e : ((i.toNat : Nat) : Int) = i := by omega
  have q := atI_nat g
  rw [e] at q
  exact ⟨_, q, g⟩
/-- a share's two numbers, as a tuple -/
def IsTup2 (H : Hp) (v : V) (t b : Int) : Prop := ∃ p, v = .ref p ∧ H p = some (.tup [.int t, .int b])
theorem IsTup2.mono {H H' : Hp} {v : V} {t b : Int} (h : IsTup2 H v t b) (s : Same H H') : IsTup2 H' v t b := by
  obtain ⟨p, e, h⟩ := h
  exact ⟨p, e, s _ _ h⟩
theorem IsTup2.dp {K : PySem.W.Frag} {H : Hp} {v : V} {t b : Int} (h : IsTup2 H v t b) : Dp K H v (.tuple [.int t, .int b]) := by
  obtain ⟨p, rfl, h⟩ := h
  exact .tup (.inl (.inl h)) (.cons (.int _) (.cons (.int _) .nil))
theorem eqv_tup2 (a b c d : Int) : PyData.eqv (.tuple [.int a, .int b]) (.tuple [.int c, .int d]) = (a == c && b == d) := by
  simp [PyData.eqv, PyData.eqvAll]
theorem shaped2 (a b : Int) : SeqAt.shaped (.tuple [.int a, .int b]) = true := rfl
/-- objects of other kinds than the well's are not hidden with it -/
theorem hid_keep {H : Hp} {a p : Addr} {n : Nat} {o : HO} (w : WellAt H a n) (h : H p = some o) (ho : ∀ xs, o ≠ .lst xs) : hid a H p = some o := by
  obtain ⟨w0, w1, w2, e, _⟩ := w
  rw [hid_ne]
  · exact h
  · intro z
    rw [z, e] at h
    cases h
    exact ho _ rfl
theorem IsTup2.hid {H : Hp} {a : Addr} {n : Nat} {v : V} {t b : Int} (w : WellAt H a n) (h : IsTup2 H v t b) : IsTup2 (hid a H) v t b := by
  obtain ⟨p, e, h⟩ := h
  exact ⟨p, e, hid_keep w h (fun _ => nofun)⟩
theorem IsShare.hid {C : Addr} {H : Hp} {a : Addr} {n : Nat} {v : V} {q : Rat} (w : WellAt H a n) (h : IsShare C H v q) : IsShare C (hid a H) v q := by
  obtain ⟨p, dx, e, h⟩ := h
  exact ⟨p, dx, e, hid_keep w h (fun _ => nofun)⟩
theorem pow_small {i : Int} (h0 : 0 ≤ i) (h : i < 18446744073709551616) : CPow i 5 := ⟨by decide, by decide, by omega⟩
theorem log_pos {m : Int} (h0 : 0 < m) {n : Nat} (hn : 0 < n) (h9 : n ≤ 9000) (h : m < 2 ^ n) : CDivW 0 m := by
  refine ⟨h0, log_of hn ?_ h9⟩
  have : ((2 ^ n : Nat) : Int) = 2 ^ n := by simp
  omega
end Fb
namespace Fb
open PySem PySem.Spec PyProof.Rows L2
/-- a new object beside the well -/
theorem well_new {H : Hp} {a p : Addr} {n : Nat} {o : HO} (w : WellAt H a n) (np : H p = none) : WellAt (upd H p o) a n ∧ Same (hid a H) (hid a (upd H p o)) :=
  ⟨w.same (same_upd np), hid_mono (same_upd np)⟩
theorem sqL_hid {K : PySem.W.Frag} {H : Hp} {a p : Addr} {n : Nat} {xs : List V} (w : WellAt H a n) (np : H p = none) : SqL K (hid a (upd H p (.lst xs))) p xs := by
  rw [hid_updN (w.ne np)]
  exact sqL_new
theorem tup_hid {H : Hp} {a p : Addr} {n : Nat} {t b : Int} (w : WellAt H a n) (np : H p = none) : IsTup2 (hid a (upd H p (.tup [.int t, .int b]))) (.ref p) t b := by
  refine ⟨p, rfl, ?_⟩
  rw [hid_updN (w.ne np), upd_same]
theorem mem5 {α : Type} {a b c d e x : α} {i : Nat} (h : [a, b, c, d, e][i]? = some x) : x = a ∨ x = b ∨ x = c ∨ x = d ∨ x = e := by
  have := List.mem_of_getElem? h
  simpa using this
theorem mem4 {α : Type} {a b c d x : α} {i : Nat} (h : [a, b, c, d][i]? = some x) : x = a ∨ x = b ∨ x = c ∨ x = d := by
  have := List.mem_of_getElem? h
  simpa using this
theorem mem3 {α : Type} {a b c x : α} {i : Nat} (h : [a, b, c][i]? = some x) : x = a ∨ x = b ∨ x = c := by
  have := List.mem_of_getElem? h
  simpa using this
theorem divInt_self (q : Rat) : Rat.divInt q.num (q.den : Int) = q := Rat.num_divInt_den q
end Fb

/-! Part A4: comprehensions beside the well; the law's loop over its numbers. -/
namespace Fb
open PySem PySem.Spec PyProof.Rows L2
theorem hid2_upd {a D : Addr} {H : Hp} {o : HO} (h : D ≠ a) : hid D (hid a (upd H D o)) = hid D (hid a H) := by
  rw [hid_updN h, hid_upd]
theorem hid2_ne {a D : Addr} {H : Hp} (h : D ≠ a) : hid a H D = H D := hid_ne h
theorem WellAt.upd {H : Hp} {a D : Addr} {n : Nat} {o : HO} (w : WellAt H a n) (h : D ≠ a) : WellAt (L2.upd H D o) a n := by
  obtain ⟨w0, w1, w2, e, r⟩ := w
  exact ⟨w0, w1, w2, by rw [upd_ne h.symm]; exact e, r⟩
/-- [e for x in range(..)], each turn at most c draws: what is told of each item stays -/
theorem lc_wellR {lo : Int} {n : Nat} {g : TG} {te : TE} {vs : List Nat} {σ : L2.St} {H1 : Hp} {D a : Addr} {Qd : Hp → Prop} (R : V → Hp → Prop) (mono : ∀ v H H', Same H H' → R v H → R v H') (c f : Nat)
    (hD : H1 D = none) (hw : WellAt H1 a (f + c * n)) (hn : n ≤ 1000)
    (hs : ∀ i H m (k : V → Hp → Prop), i < n → WellAt H a (m + c) → Same (hid a H1) (hid D (hid a H)) → (∃ ys, H D = some (.lst ys)) → (∀ y H4, Same (hid a H) (hid a H4) → WellAt H4 a m → R y (hid D (hid a H4)) → k y H4) →
      g (.int (lo + i)) (wipe σ vs) H fun σ2 H2 => wipe σ2 vs = wipe σ vs ∧ te σ2 H2 k)
    (hd : ∀ H ys, Same (hid a H1) (hid D (hid a H)) → WellAt H a f → H D = some (.lst ys) → ys.length = n → (∀ y ∈ ys, R y (hid D (hid a H))) → Qd H) :
    ∃ W : Nat → Nat → Hp → Prop, (∃ m, W 0 m (upd H1 D (.lst []))) ∧ ∀ i m H, W i m H →
      ((Itr lo n).stop i H ∧ Qd H) ∨ ((Itr lo n).go i H ∧ ∃ Nx : Hp → Prop, (∀ H', Nx H' → ∃ m', m' < m ∧ W (i + 1) m' H') ∧ ∀ x H', (Itr lo n).yld i H x H' → g x (wipe σ vs) H' fun σ2 H2 => wipe σ2 vs = wipe σ vs ∧ tYes σ2 H2 fun b H3 =>
        if b = true then te σ2 H3 fun y H4 => ∃ acc, H4 D = some (.lst acc) ∧ acc.length < sizeLine ∧ Nx (upd H4 D (.lst (acc ++ [y]))) else Nx H3) := by
  have nD : D ≠ a := hw.ne hD
  refine lc_range (fun i H => ∃ ys, Same (hid a H1) (hid D (hid a H)) ∧ WellAt H a (f + c * (n - i)) ∧ H D = some (.lst ys) ∧ ys.length = i ∧ ∀ y ∈ ys, R y (hid D (hid a H))) ⟨[], ?_, hw.upd nD, upd_same, rfl, fun y h => by simp at h⟩ (fun i H hi h => ?_) (fun H h => ?_)
  · rw [hid2_upd nD]
    intro b o e
    have hb : b ≠ D := fun z => by
      rw [z, hid_ne nD, hD] at e
      cases e
    rw [hid_ne hb]
    exact e
  · obtain ⟨ys, s, w, e, l, r⟩ := h
    have ec : f + c * (n - i) = (f + c * (n - (i + 1))) + c := by
      have : n - i = (n - (i + 1)) + 1 := by omega
      rw [this, Nat.mul_succ]
      omega
    rw [ec] at w
    refine hs i H _ (fun y H4 => ∃ acc, H4 D = some (.lst acc) ∧ acc.length < sizeLine ∧ ∃ ys, Same (hid a H1) (hid D (hid a (upd H4 D (.lst (acc ++ [y]))))) ∧ WellAt (upd H4 D (.lst (acc ++ [y]))) a (f + c * (n - (i + 1))) ∧ (upd H4 D (.lst (acc ++ [y]))) D = some (.lst ys) ∧ ys.length = i + 1 ∧ ∀ y' ∈ ys, R y' (hid D (hid a (upd H4 D (.lst (acc ++ [y])))))) hi w s ⟨_, e⟩ fun y H4 s4 w4 ry => ?_
    have e4 : H4 D = some (.lst ys) := by
      have := s4 D (.lst ys) (by rw [hid_ne nD]; exact e)
      rw [hid_ne nD] at this
      exact this
    refine ⟨ys, e4, small1000 (by omega), ys ++ [y], ?_, w4.upd nD, upd_same, by simp [l], fun y' h => ?_⟩
    · rw [hid2_upd nD]
      exact s.trans (hid_mono s4)
    · rw [hid2_upd nD]
      rcases List.mem_append.mp h with h | h
      · exact mono _ _ _ (hid_mono s4) (r y' h)
      · have : y' = y := by simpa using h
        rw [this]
        exact ry
  · obtain ⟨ys, s, w, e, l, r⟩ := h
    rw [Nat.sub_self, Nat.mul_zero] at w
    exact hd H ys s w e l r
/-- what is no list is not hidden with a list -/
theorem hid_no {H : Hp} {D p : Addr} {o : HO} (e : ∃ ys, H D = some (.lst ys)) (h : H p = some o) (ho : ∀ xs, o ≠ .lst xs) : hid D H p = some o := by
  obtain ⟨ys, e⟩ := e
  rw [hid_ne]
  · exact h
  · intro z
    rw [z, e] at h
    cases h
    exact ho _ rfl
theorem IsTup2.hidL {H : Hp} {D : Addr} {v : V} {t b : Int} (e : ∃ ys, H D = some (.lst ys)) (h : IsTup2 H v t b) : IsTup2 (Fb.hid D H) v t b := by
  obtain ⟨p, rfl, h⟩ := h
  exact ⟨p, rfl, hid_no e h (fun _ => nofun)⟩
theorem IsShare.hidL {C : Addr} {H : Hp} {D : Addr} {v : V} {q : Rat} (e : ∃ ys, H D = some (.lst ys)) (h : IsShare C H v q) : IsShare C (Fb.hid D H) v q := by
  obtain ⟨p, dx, rfl, h⟩ := h
  exact ⟨p, dx, rfl, hid_no e h (fun _ => nofun)⟩
theorem allAre_of {α : Type} {R : V → α → Prop} : ∀ {ys : List V}, (∀ y ∈ ys, ∃ x, R y x) → ∃ xs, AllAre R ys xs
  | [], _ => ⟨[], .nil⟩
  | y :: ys, h => by
    obtain ⟨x, hx⟩ := h y List.mem_cons_self
    obtain ⟨xs, hxs⟩ := allAre_of (ys := ys) fun z hz => h z (List.mem_cons_of_mem _ hz)
    exact ⟨x :: xs, .cons hx hxs⟩
theorem AllAre.of_ix {α : Type} {R : V → α → Prop} {ys : List V} {xs : List α} (l : ys.length = xs.length) (h : ∀ (i : Nat) y, ys[i]? = some y → ∃ x, xs[i]? = some x ∧ R y x) : AllAre R ys xs := ⟨l, fun i v x a b => by
  obtain ⟨x', e, r⟩ := h i v a
  rw [e] at b
  cases b
  exact r⟩
theorem AllAre.mem {α : Type} {R : V → α → Prop} {ys : List V} {xs : List α} (h : AllAre R ys xs) {x : α} (hx : x ∈ xs) : ∃ y, R y x := by
  obtain ⟨i, hi, e⟩ := List.mem_iff_getElem.mp hx
  have hl : i < ys.length := by rw [h.1]; exact hi
  exact ⟨ys[i], h.2 i _ x (List.getElem?_eq_getElem hl) (by rw [List.getElem?_eq_getElem hi, e])⟩
theorem rsum_take {qs : List Rat} {i : Nat} {z : Rat} (h : qs[i]? = some z) : rsum (qs.take (i + 1)) = rsum (qs.take i) + z := by
  rw [List.take_add_one, h, rsum_append]
  show rsum (qs.take i) + (z + 0) = _
  rw [Rat.add_zero]
theorem rsum_bd {n : Nat} : ∀ {qs : List Rat}, (∀ q ∈ qs, Bd n q) → Bd ((n + 1) * qs.length + 1) (rsum qs)
  | [], _ => by
    rw [List.length_nil, Nat.mul_zero]
    exact ⟨by decide, by decide⟩
  | q :: r, h => by
    have h1 := (h q List.mem_cons_self).add (rsum_bd (qs := r) fun x hx => h x (List.mem_cons_of_mem _ hx))
    refine h1.mono ?_
    rw [List.length_cons, Nat.mul_succ]
    omega
/-- the law's numbers are whole numbers -/
theorem cells_int {ns : List Int} {lo hi : Option Int} {more : List Int} {i : Nat} {x : V} (h : (cutV (ns.map V.int) lo hi ++ more.map V.int)[i]? = some x) : ∃ z, x = .int z := by
  have m := List.mem_of_getElem? h
  rcases List.mem_append.mp m with m | m
  · have m2 : x ∈ ns.map V.int := by
      unfold cutV at m
      exact List.mem_of_mem_drop (List.mem_of_mem_take m)
    obtain ⟨z, _, e⟩ := List.mem_map.mp m2
    exact ⟨z, e.symm⟩
  · obtain ⟨z, _, e⟩ := List.mem_map.mp m
    exact ⟨z, e.symm⟩
/-- over a heap that has the well's address free, the hidden heap's facts are facts -/
theorem same_hid {H0 H : Hp} {a : Addr} (s : Same H0 (hid a H)) : Same H0 H := s.trans hid_same
/-! ### orders of fractions -/
theorem divInt_neg_iff {n m : Int} (hm : m ≠ 0) : Rat.divInt n m < 0 ↔ n * m < 0 := by
  have key : ∀ {n m : Int}, 0 < m → (Rat.divInt n m < 0 ↔ n * m < 0) := fun {n m} hm => by
    rw [← Rat.not_le, Rat.divInt_nonneg_iff_of_pos_right hm]
    constructor
    · intro h
      exact Int.mul_neg_of_neg_of_pos (by omega) hm
    · intro h z
      have := Int.mul_nonneg z (Int.le_of_lt hm)
      omega
  rcases Int.lt_or_gt_of_ne hm with h | h
  · have e : Rat.divInt n m = Rat.divInt (-n) (-m) := (Rat.neg_divInt_neg n m).symm
    rw [e, key (by omega), Int.neg_mul_neg]
  · exact key h
theorem lt_cross {a b c d : Int} (hb : b ≠ 0) (hd : d ≠ 0) : Rat.divInt a b < Rat.divInt c d ↔ (a * d - c * b) * b * d < 0 := by
  have e : Rat.divInt a b - Rat.divInt c d = Rat.divInt (a * d - c * b) (b * d) := Rat.divInt_sub_divInt a c hb hd
  rw [Int.mul_assoc, ← divInt_neg_iff (Int.mul_ne_zero hb hd), ← e, ← Rat.not_le, Rat.le_iff_sub_nonneg, Rat.not_le]
end Fb

/-! Part A5: rules for ==, != and str of an instance of the program's own class (own __eq__ and __str__, no own __ne__). -/
namespace Fb
open PySem PySem.Spec PyProof.Rows L2
section
variable {prog : Program} {w : World} {A : Around} {E : Value → Shared → Prop} {s : Shared} {K : PySem.W.Frag} {x C f L : Addr} {h0 : Heap} {m : Str → Option Value} {ox : Obj} {od : Option Obj} {b tb : Value}
theorem slot_object_ne : Slot "object" "__ne__" "object.__ne__" :=
  .of (owner := "object") (n := "__ne__") (by rw [typeLookup_type, builtinLookup_eq_fast]; kernel_rfl) (by decide +kernel) (by decide +kernel) (by decide +kernel)
    (by first | exact .inl (by decide +kernel) | exact .inr (by decide +kernel)) (by rw [isSubtype_type]; kernel_rfl)
/-- a special method that is a built-in slot, looked up as comparisons do -/
theorem ifBound_B {M : Model} {name : Str} {id : String} {args : List Value} {Q : Option Value → Shared → Prop} (X : K.In s.heap) (I : PySem.W.InstAt s.heap x ox C od) (hs : PySem.W.findIn K (.ref C) name = some (some (.builtin id)))
    (hb : ∀ self, bindSpecial (.builtin id) self = pure (.builtin id, [self]))
    (h : wpAny M A (call (.builtin id) (.ref x :: args)) (fun v => Q (some v)) E s) : wpAny M A (callSpecialIfBound? (.ref x) name args) Q E s := by
  simp only [callSpecialIfBound?, bindSpecialIfBound?]
  refine wpAny_holding (wpAny_bind (wpAny_bind (wpAny_bind (I.type.here ((PySem.W.looks_findIn X hs).here ?_)))))
  refine wpAny_bind (wpAny_askSetting (wpAny_ite ?_))
  have fin : wpAny M A (call (.builtin id) ([.ref x] ++ args) >>= fun v => pure (some v)) Q E s := wpAny_bind (wpAny_mono h (fun v s' h' => wpAny_pure h') fun _ _ h' => h')
  split
  · exact wpAny_bind ((PySem.W.Looks.of_pure (hb _)).here (wpAny_pure (by exact fin)))
  · exact wpAny_tryCatch (wpAny_bind ((PySem.W.Looks.of_pure (hb _)).here (wpAny_pure (by exact fin))))
theorem objNe_K {Q : Value → Shared → Prop} (hu : A.in1.units < cLine) (X : K.In s.heap) (I : PySem.W.InstAt s.heap x ox C od) (hm : PySem.W.mroIn K C (.type "object") = some true) (hs : PySem.W.findIn K (.ref C) "__eq__" = some (some (.ref f))) (hf : PySem.W.isFn K (.ref f) = true)
    (h : wpAny (model prog w) A.in1 (call (.ref f) [.ref x, b]) (fun v s' => ∃ r, v = .bool r ∧ Q (.bool (!r)) s') E s) : wpAny (model prog w) A (call (.builtin "object.__ne__") [.ref x, b]) Q E s := by
  refine wpAny_call (codeAny_call_builtin slot_object_ne.plain PySem.F.cmpEntry_ne (PySem.W.check_slot (i := "object.__ne__") (owner := "object") (n := "__ne__") (by decide +kernel) (by decide +kernel) (I.type.andThen (PySem.W.looks_mroIn X hm)) (PySem.F.cmpArgs_ne _ _) ?_))
  unfold Builtin.«object.__ne__»
  refine wpAny_bind (m := slotArgs "__ne__" 1 _) (wpAny_pure ?_)
  refine wpAny_bind (m := cRoomFor _ _) (wpAny_cRoomFor hu ?_)
  refine wpAny_bind (m := callSpecialIfBound? (.ref x) (Str.ofString "__eq__") _) (PySem.W.ifBound_K X I hs hf (wpAny_mono h (fun r s' hq => ?_) fun _ _ y => y))
  obtain ⟨r, rfl, q⟩ := hq
  exact wpAny_bind (wpAny_truthy_bool (wpAny_pure q))
theorem ne_K {Q : Value → Shared → Prop} (hu : A.units < cLine) (hu1 : A.in1.units < cLine) (F : PyProof.Rows.Fr h0 L s.heap m) (X₀ : K.In h0) (I : PySem.W.InstAt s.heap x ox C od) (hb : PySem.W.Looks (model prog w) s.heap (typeOf b) tb) (hn : PySem.W.notFirst K C tb = true)
    (hne : PySem.W.findIn K (.ref C) "__ne__" = some (some (.builtin "object.__ne__"))) (hm : PySem.W.mroIn K C (.type "object") = some true) (hs : PySem.W.findIn K (.ref C) "__eq__" = some (some (.ref f))) (hf : PySem.W.isFn K (.ref f) = true)
    (h : wpAny (model prog w) A.in1 (call (.ref f) [.ref x, b]) (fun v s' => ∃ r, v = .bool r ∧ Q (.bool (!r)) s') E s) : wpAny (model prog w) A (richCompare .NotEq (.ref x) b) Q E s := by
  have X := X₀.keeps F.keep
  have one : wpAny (model prog w) A (tryCompare (.ref x) (cmpInfo .NotEq).2.1 b) (fun r s' => ∃ v, r = some v ∧ Q v s') E s := by
    unfold tryCompare
    refine wpAny_bind (ifBound_B X I hne slot_object_ne.bind (objNe_K hu1 X I hm hs hf (wpAny_mono h (fun v s' hv => ?_) fun _ _ e => e)))
    obtain ⟨r, rfl, q⟩ := hv
    exact ⟨r, rfl, wpAny_pure ⟨_, rfl, q⟩⟩
  unfold richCompare
  simp only [oneThing_ref]
  refine wpAny_holding (wpAny_bind (wpAny_cRoomFor hu ?_))
  refine wpAny_bind (I.type.here (wpAny_bind (hb.here ?_)))
  split
  · rename_i q
    have e : PySem.W.subIn K tb (.ref C) = some false := by
      rcases Bool.or_eq_true_iff.mp hn with e | e
      · rw [beq_iff_eq.mp e] at q; simp at q
      · exact beq_iff_eq.mp e
    refine wpAny_bind ((PySem.W.looks_subIn X e).here ?_)
    simp only [Bool.false_eq_true, if_false]
    refine wpAny_bind (wpAny_mono one (fun r s' z => ?_) fun _ _ e => e)
    obtain ⟨v, rfl, hq⟩ := z
    exact wpAny_pure hq
  · refine wpAny_bind (wpAny_pure ?_)
    simp only [Bool.false_eq_true, if_false]
    refine wpAny_bind (wpAny_mono one (fun r s' z => ?_) fun _ _ e => e)
    obtain ⟨v, rfl, hq⟩ := z
    exact wpAny_pure hq
open Builtin Builtin.Str in
theorem str_K {Q : Value → Shared → Prop} (hu : A.in1.in1.units < cLine) (X : K.In s.heap) (I : PySem.W.InstAt s.heap x ox C od) (hs : PySem.W.findIn K (.ref C) "__str__" = some (some (.ref f))) (hf : PySem.W.isFn K (.ref f) = true)
    (h : wpAny (model prog w) A.in1.in1 (call (.ref f) [.ref x]) (PySem.W.StrBack Q) E s) : wpAny (model prog w) A (call (.type "str") [.ref x]) Q E s := by
  refine callType_codes (T := "str") (Bi := Builtin.«object.__init__») (Q₁ := fun r s₁ => ∃ y u, r = .str y u ∧ Q r s₁) PySem.F.called_str (PySem.F.typeCall_str_1 _) PySem.F.entry_object_init ?_ ?_
  · refine codeAny_of_tree ?_
    show wpAny _ A.in1.in1 (do checkBuiltinCall "str.__new__" ⟨[.type "str", .ref x], []⟩; again (.builtin "str.__new__" ⟨[.type "str", .ref x], []⟩)) _ _ s
    refine wpAny_bind (wpAny_of_eq (PySem.F.newCall_str_1 _) (wpAny_pure ⟨plainId_quiet (by decide +kernel) _, codeAny_builtin PySem.F.entry_str_new ?_⟩))
    rw [Around.under_plainId (by decide +kernel) _]
    rw [str_new_tree]
    refine wpAny_bind (wpAny_pure ?_)
    refine wpAny_bind (wpAny_of_eq isSubtype_str_str ?_)
    have key : wpAny (model prog w) A.in1.in1 (PySem.Builtin.Str.strOf (.ref x)) (fun r s₁ => ∃ y u, r = .str y u ∧ Q r s₁) E s := by
      unfold PySem.Builtin.Str.strOf
      rw [show isExactStr (.ref x) = false from rfl]
      refine wpAny_bind (m := cRoomFor _ _) (wpAny_cRoomFor hu ?_)
      refine wpAny_bind (m := callSpecial? (.ref x) (Str.ofString "__str__")) (PySem.W.special_fn X I hs (beq_iff_eq.mp hf) (wpAny_mono h (fun r s' z => ?_) fun _ _ y => y))
      cases r <;> first | exact z.elim | exact wpAny_pure ⟨_, _, rfl, z⟩
    exact wpAny_bind (wpAny_mono key (fun r s₁ hr => wpAny_pure hr) fun _ _ y => y)
  · rintro obj s₁ ⟨y, u, rfl, hq⟩
    exact ⟨typeIs_str _ _ _, PySem.F.args_object_init_2 _ _, object_init_meets PySem.F.called_str.init.lookup PySem.F.called_str.made (by decide) prog w A.in1 _ s₁ ⟨typeIs_str _ _ _, rfl, hq⟩⟩
end
section
variable {X : Cx} {k : Nat} {C f : Addr} {fd : FuncData} {ps : List Str} {sp : Sp}
/-- what is asked of the two: the first an instance of C, the second of a type that is no subclass -/
def rOwn2 (K : PySem.W.Frag) (C : Addr) (sp : Sp) (g : Bool → Bool) : R2 := fun x y H Q => ∃ a dx fs t, x = .ref a ∧ H a = some (.ins C dx fs) ∧ TyX K H y t ∧ PySem.W.notFirst K C t = true ∧ sp [x, y] H (fun v H' => ∃ r, v = .bl r ∧ Q (.bl (g r)) H') E0
theorem run_in {A : Around} {pins : List (Addr × Obj)} {σ : L2.St} {H : Hp} {s : Shared} {Q : VK} {us : List Value} {vs : List V} (F : FnOk X.prog X.w X.K X.mg X.base CX0 k f fd ps sp) (hr : Room k A) (he : Env0 X.prog X.w X.K X.mg X.base A X.stack s H) (hb : Binds X.K fd ps [])
    (I : Inv X pins σ H s) (r : Vals vs us) (h : sp vs H Q E0) : wpAny (model X.prog X.w) A (call (.ref f) us) (EP X pins σ Q) X.xe s := by
  have hl : (us ++ []).length = ps.length := by rw [List.append_nil, ← r.length]; exact F.len _ _ _ _ h
  have hbb := hb s us I.kIn hl
  rw [List.append_nil] at hbb
  refine wpAny_call (codeAny_mono (F.run A X.stack s H ⟨us, []⟩ us vs Q E0 hr he hbb r h) fun r s' hq => ?_)
  cases r with
  | error e => exact hq.elim
  | ok fl =>
    cases fl with
    | ret u => exact I.after hq
    | next => exact False.elim hq
    | brk => exact False.elim hq
    | cont => exact False.elim hq
theorem op_eqOwn (F : FnOk X.prog X.w X.K X.mg X.base CX0 k f fd ps sp) (hr : Room (k + 1) X.A) (hb : Binds X.K fd ps []) (hs : PySem.W.findIn X.K (.ref C) "__eq__" = some (some (.ref f))) (hf : PySem.W.isFn X.K (.ref f) = true) :
    OpR X (compareOp .Eq) (rOwn2 X.K C sp id) := by
  intro pins s σ H x y v u Q I rx ry h
  obtain ⟨a, dx, fs, t, rfl, ha, ty, hn, hsp⟩ := h
  cases rx
  obtain ⟨P, Z, p, _⟩ := kit_of I ry ty
  obtain ⟨mA, J, _⟩ := ins_get I.hok ha
  obtain ⟨od, J, _⟩ := J.look
  obtain ⟨m, hF⟩ := I.fr
  show wpAny (model X.prog X.w) X.A (richCompare .Eq (.ref a) u) (EP X pins σ Q) X.xe s
  refine PySem.W.cmp_K (op := .Eq) (tb := t) hr.units0 hF I.ok.mod.kin J (Z.ty _ _ I.kIn p) hn hs hf ?_
  refine wpAny_mono (run_in F (hr.mono (Nat.le_succ k)) I.env0 hb I (vs := [.ref a, y]) (.cons rfl (.cons ry .nil)) hsp) (fun r s' z => ?_) fun _ _ e => e
  obtain ⟨z1, H', I', rz, b, rfl, q⟩ := z
  cases rz
  exact ⟨.bl b, H', I', rfl, q⟩
theorem op_neOwn (F : FnOk X.prog X.w X.K X.mg X.base CX0 k f fd ps sp) (hr : Room (k + 1) X.A) (hb : Binds X.K fd ps []) (hs : PySem.W.findIn X.K (.ref C) "__eq__" = some (some (.ref f))) (hf : PySem.W.isFn X.K (.ref f) = true)
    (hne : PySem.W.findIn X.K (.ref C) "__ne__" = some (some (.builtin "object.__ne__"))) (hm : PySem.W.mroIn X.K C (.type "object") = some true) :
    OpR X (compareOp .NotEq) (rOwn2 X.K C sp not) := by
  intro pins s σ H x y v u Q I rx ry h
  obtain ⟨a, dx, fs, t, rfl, ha, ty, hn, hsp⟩ := h
  cases rx
  obtain ⟨P, Z, p, _⟩ := kit_of I ry ty
  obtain ⟨mA, J, _⟩ := ins_get I.hok ha
  obtain ⟨od, J, _⟩ := J.look
  obtain ⟨m, hF⟩ := I.fr
  show wpAny (model X.prog X.w) X.A (richCompare .NotEq (.ref a) u) (EP X pins σ Q) X.xe s
  refine ne_K (tb := t) hr.units0 hr.in1.units0 hF I.ok.mod.kin J (Z.ty _ _ I.kIn p) hn hne hm hs hf ?_
  refine wpAny_mono (run_in (A := X.A.in1) F hr.in1 I.env0.in1 hb I (vs := [.ref a, y]) (.cons rfl (.cons ry .nil)) hsp) (fun r s' z => ?_) fun _ _ e => e
  obtain ⟨z1, H', I', rz, b, rfl, q⟩ := z
  cases rz
  exact ⟨b, rfl, .bl (!b), H', I', rfl, q⟩
/-- str of an instance -/
theorem call_strOwn (F : FnOk X.prog X.w X.K X.mg X.base CX0 k f fd ps sp) (hr : Room (k + 2) X.A) (hb : Binds X.K fd ps []) (hs : PySem.W.findIn X.K (.ref C) "__str__" = some (some (.ref f))) (hf : PySem.W.isFn X.K (.ref f) = true) :
    CallR X (.type "str") (fun xs H Q => ∃ a dx fs, xs = [.ref a] ∧ H a = some (.ins C dx fs) ∧ sp [.ref a] H (fun v H' => ∃ z, v = .str z ∧ Q v H') E0) := by
  intro pins s σ H xs us Q I r h
  obtain ⟨a, dx, fs, rfl, ha, hsp⟩ := h
  obtain ⟨u, rfl, ru⟩ := vals1 r
  cases ru
  obtain ⟨mA, J, _⟩ := ins_get I.hok ha
  obtain ⟨od, J, _⟩ := J.look
  refine str_K hr.in1.in1.units0 I.kIn J hs hf ?_
  refine wpAny_mono (run_in (A := X.A.in1.in1) F hr.in1.in1 I.env0.in1.in1 hb I (vs := [.ref a]) (.cons rfl .nil) hsp) (fun r s' z => ?_) fun _ _ e => e
  obtain ⟨z1, H', I', rz, y, rfl, q⟩ := z
  obtain ⟨t, rfl⟩ := rz
  exact ⟨.str y, H', I', ⟨t, rfl⟩, q⟩
/-- the same with the written part named -/
theorem op_eqOwnK {K : PySem.W.Frag} (hK : X.K = K) (F : FnOk X.prog X.w X.K X.mg X.base CX0 k f fd ps sp) (hr : Room (k + 1) X.A) (hb : Binds X.K fd ps []) (hs : PySem.W.findIn X.K (.ref C) "__eq__" = some (some (.ref f))) (hf : PySem.W.isFn X.K (.ref f) = true) :
    OpR X (compareOp .Eq) (rOwn2 K C sp id) := hK ▸ op_eqOwn F hr hb hs hf
end
end Fb

/-! Part A6: counting truths; orders. -/
namespace Fb
open PySem PySem.Spec PyProof.Rows L2
section
variable {X : Cx}
def isT : Value → Bool
  | .bool b => b
  | _ => false
/-- xs.count(True), xs a list of truths -/
def rCntB (K : PySem.W.Frag) : V → List V → Hp → VK → Prop := fun x xs H Q => ∃ (p : Addr) (bs : List Bool), x = .ref p ∧ xs = [.bl true] ∧ SqL K H p (bs.map V.bl) ∧ Q (.int (bs.count true : Nat)) H
theorem mt_countB : MtR X "list.count" (rCntB X.K) := by
  intro pins s σ H x xs v us Q I rx rxs h
  obtain ⟨p, bs, rfl, rfl, hs, q⟩ := h
  cases rx
  obtain ⟨u, rfl, ru⟩ := rxs.one
  cases ru
  obtain ⟨its, rv, ⟨⟨cls, dd, data, sl⟩, n, ho, hc, hdn, hd⟩, hlen⟩ := I.list hs
  simp only at hc hd
  subst hc hd
  have hb := rv.bls
  refine call_meets PySem.F.slot_list_count ⟨_, ho, rfl⟩ PySem.F.entry_list_count (PySem.F.args_list_count_2 _ _)
    (SeqAt.list_countAt p its.toArray n dd sl (.bool true) isT) ⟨ho, fun y hy => ?_, ?_⟩
  · have hy' : y ∈ its := by simpa using hy
    rw [hb] at hy'
    obtain ⟨b, _, rfl⟩ := List.mem_map.mp hy'
    have e := eqAt_V (A := X.A.in1) (s := s) (y := .bl b) (x := .bl true) (u := .bool b) (v := .bool true) rfl rfl rfl rfl
    have e2 : eqV (.bl b) (.bl true) = isT (.bool b) := by cases b <;> rfl
    rw [e2] at e
    exact e
  · have ec : its.toArray.toList.countP isT = bs.count true := by
      rw [hb]
      clear hb rv hs hlen hdn ho q
      induction bs with
      | nil => rfl
      | cons b r ih =>
        simp only [List.map_cons, List.countP_cons, List.count_cons] at ih ⊢
        cases b <;> simp_all [isT]
    refine ⟨.int (bs.count true : Nat), H, I.tok _, ⟨s.toks, ?_⟩, q⟩
    show Value.int ((its.toArray.toList.countP isT : Nat) : Int) s.toks = Value.int ((bs.count true : Nat) : Int) s.toks
    rw [ec]
end
theorem one_of_three (x y : Rat) : [decide (x < y), decide (x = y), decide (y < x)].count true = 1 := by
  by_cases h1 : x < y
  · have h2 : x ≠ y := Rat.ne_of_lt h1
    have h3 : ¬ y < x := Rat.not_lt.mpr (Rat.le_of_lt h1)
    simp [h1, h2, h3]
  · by_cases h2 : x = y
    · subst h2
      simp [h1]
    · have h3 : y < x := Rat.lt_of_le_of_ne (Rat.not_lt.mp h1) (fun e => h2 e.symm)
      simp [h1, h2, h3]
theorem lt_trans' {x y z : Rat} (h1 : x < y) (h2 : y < z) : x < z := by
  have h := Rat.le_trans (Rat.le_of_lt h1) (Rat.le_of_lt h2)
  refine Rat.lt_of_le_of_ne h fun e => ?_
  subst e
  exact Rat.not_le.mpr h1 (Rat.le_of_lt h2)
theorem bd0 : Bd 1 0 := ⟨by decide, by decide⟩
theorem bd1 : Bd 1 1 := ⟨by decide, by decide⟩
theorem rsum_rev : ∀ qs : List Rat, rsum qs.reverse = rsum qs
  | [] => rfl
  | q :: r => by
    rw [List.reverse_cons, rsum_append, rsum_rev r]
    show rsum r + (q + 0) = q + rsum r
    rw [Rat.add_zero, Rat.add_comm]
end Fb
namespace Fb
open PySem PySem.Spec PyProof.Rows L2
theorem cut_from {xs : List V} {k : Nat} (h : k ≤ xs.length) : cutV xs (some (k : Int)) none = xs.drop k := by
  unfold cutV
  rw [HT.sIx_nat, HT.sIx_none, Nat.min_eq_left h]
  exact List.take_of_length_le (by rw [List.length_drop]; exact Nat.le_refl _)
theorem cut_to {xs : List V} {k : Nat} (h : k ≤ xs.length) : cutV xs none (some (k : Int)) = xs.take k := by
  unfold cutV
  rw [HT.sIx_nat, HT.sIx_none, Nat.min_eq_left h]
  rfl
/-- a share with its bound -/
def Sh (C : Addr) (n : Nat) (G : Hp) (v : V) (q : Rat) : Prop := IsShare C G v q ∧ Bd n q
theorem Sh.mono {C : Addr} {n : Nat} {G G' : Hp} {v : V} {q : Rat} (h : Sh C n G v q) (s : Same G G') : Sh C n G' v q := ⟨h.1.mono s, h.2⟩
theorem AllAre.few {C : Addr} {n N : Nat} {G : Hp} {vs : List V} {qs : List Rat} (h : AllAre (Sh C n G) vs qs) (l : vs.length ≤ N) (s : n * N ≤ 8000) (m : N ≤ 999) (p : 0 < n) : Few n N qs :=
  ⟨fun q hq => by obtain ⟨y, hy⟩ := h.mem hq; exact hy.2, by rw [← h.1]; exact l, s, m, p⟩
theorem AllAre.shares {C : Addr} {n : Nat} {G H : Hp} {p : Addr} {vs : List V} {qs : List Rat} (h : AllAre (Sh C n G) vs qs) (s : Same G H) (e : H p = some (.lst vs)) : IsShares C H (.ref p) qs :=
  ⟨p, vs, rfl, e, h.imp fun _ _ r => r.1.mono s⟩
theorem bd_div {n : Nat} {t b : Int} (h : b ≠ 0) (ht : t.natAbs < 2 ^ n) (hb : b.natAbs < 2 ^ n) : Bd n (Rat.divInt t b) := .divInt h ht hb
end Fb

/-! Part A7: errors of the program's own: made in a constructor inside a try, asked for their class in the suite. -/
namespace Fb
open PySem PySem.Spec PyProof.Rows L2
section
variable {X : Cx} {CX : CXT} {k : Nat} {f C : Addr} {fd : FuncData} {ps : List Str} {sp : Sp} {dvs : List V} {ds : List Value} {E : L2.St → XK} {x : Str} {p pos : Pos} {e : Expr} {es : List Expr} {t : TA}
theorem run_makeS {pins : List (Addr × Obj)} {σ : L2.St} {H : Hp} {s : Shared} {Q : VK} {us : List Value} {vs : List V} (M : Mk X.K C f) (F : FnOk X.prog X.w X.K X.mg X.base CX k f fd ps sp) (hr : Room (k + 1) X.A) (hb : Binds X.K fd ps ds) (hd : Vals dvs ds)
    (hx : PassesAt CX X σ (E σ)) (I : Inv X pins σ H s) (r : Vals vs us)
    (h : ∀ x dx, H x = none → H dx = none → dx ≠ x → sp (.ref x :: (vs ++ dvs)) (upd (upd H dx (.own x)) x (.ins C dx [])) (fun v H2 => v = .non ∧ Q (.ref x) H2) (E σ)) :
    wpAny (model X.prog X.w) X.A (call (.ref C) us) (EP X pins σ Q) X.xe s := by
  have hq := h (s.heap.objs.size + 1) s.heap.objs.size (I.hok.fresh (Nat.le_succ _)) (I.hok.fresh (Nat.le_refl _)) (Nat.ne_of_lt (Nat.lt_succ_self _))
  have I2 := Inv.made (C := C) I
  have r2 : Vals (V.ref (s.heap.objs.size + 1) :: (vs ++ dvs)) (Value.ref (s.heap.objs.size + 1) :: (us ++ ds)) := .cons rfl (r.append hd)
  have hl : (Value.ref (s.heap.objs.size + 1) :: us ++ ds).length = ps.length := by
    have e := r2.length
    rw [F.len _ _ _ _ hq] at e
    exact e.symm
  refine wpAny_call (make_map (f := f) I.kIn M.makes M.init (beq_iff_eq.mp M.fn) (codeAny_mono (F.run _ X.stack _ _ ⟨Value.ref (s.heap.objs.size + 1) :: us, []⟩ (Value.ref (s.heap.objs.size + 1) :: (us ++ ds)) _ _ (E σ) (hr.make C us [])
    (I2.env0.make C us []) (hb _ (Value.ref (s.heap.objs.size + 1) :: us) I2.kIn hl) r2 hq) fun r s' hq' => ?_))
  cases r with
  | error e => exact hx pins _ _ e s' I2 hq'
  | ok fl =>
    cases fl with
    | ret u =>
      obtain ⟨v, H', I3, rv, ev, q3⟩ := I2.after hq'
      subst ev
      exact ⟨rv, ⟨V.ref (s.heap.objs.size + 1), H', I3, rfl, q3⟩⟩
    | next => exact False.elim hq'
    | brk => exact False.elim hq'
    | cont => exact False.elim hq'
def tMakeS (C : Addr) (sp : Sp) (dvs : List V) (E : L2.St → XK) (t : TA) : TE := fun σ H Q => t σ H fun vs H1 => ∀ x dx, H1 x = none → H1 dx = none → dx ≠ x →
  sp (.ref x :: (vs ++ dvs)) (upd (upd H1 dx (.own x)) x (.ins C dx [])) (fun v H2 => v = .non ∧ Q (.ref x) H2) (E σ)
theorem pe_makeS (M : Mk X.K C f) (F : FnOk X.prog X.w X.K X.mg X.base CX k f fd ps sp) (hr : Room (k + 1) X.A) (hg : Gl X x) (hm : X.mg x = some (.ref C)) (hb : Binds X.K fd ps ds) (hd : Vals dvs ds) (hx : ∀ σ, PassesAt CX X σ (E σ))
    (ha : PA X (e :: es) t) (hdb : (x == ("__debug__" : Str)) = false := by decide) (he : starEach (e :: es) X.env = (false, eval e X.env) :: starEach es X.env := by rfl) (hpl : (backTo pos (starEach es X.env)).any (·.1) = false := by rfl) :
    PE X (.Call (.Name x p) (e :: es) [] pos) (tMakeS C sp dvs E t) := by
  refine ⟨fun pins s σ H Q I h => ?_⟩
  refine wpAny_Call_Name_kw (ld_glob I hg hm ?_ hdb)
  refine PySem.W.callWith_K (h₀ := X.base) I.ok.mod.kin M.kp (thn (ha.run pos pins s σ H _ I h) fun us s1 ⟨vs, H1, I1, r, q⟩ => ⟨I1.kIn, ?_⟩) he hpl
  exact run_makeS M F hr hb hd (hx σ) I1 r q
end
section
variable {X : Cx} {a : Addr} {oe : Obj} {cls : Value} {d : Option Addr} {pn : List (Addr × Obj)}
/-- isinstance(e, c) and isinstance(e, (c, ..)), e the error that the suite holds, of a class of the program's own -/
def rIsErr (K : PySem.W.Frag) (cls : Value) (d : Option Addr) (a : Addr) : List V → Hp → VK → Prop := fun xs H Q => ∃ (D : Addr) (c : V) (u : Value) (b : Bool), cls = .ref D ∧ d = none ∧ ExcC K D ∧ xs = [.ref a, c] ∧ ClsV c u ∧ PySem.W.kitOne K (.ref D) u = some b ∧ Q (.bl b) H
theorem call_isErr (hz : Zc cls d oe) (hf : ∃ vs, oe.data = .fields vs) : CallR (X.suite a ((a, oe) :: pn)) (.builtin "isinstance") (rIsErr X.K cls d a) := by
  intro pins s σ H xs us Q I r h
  obtain ⟨D, c, u, b, rfl, rfl, C, rfl, k, e, q⟩ := h
  exact call_isE (X := X) C hz hf pins s σ H _ us Q I r ⟨c, u, b, rfl, fun w hw => k.eq hw, e, q⟩
def rIsErrT (K : PySem.W.Frag) (cls : Value) (d : Option Addr) (a : Addr) : List V → Hp → VK → Prop := fun xs H Q => ∃ (D tp : Addr) (cs : List V) (us : List Value) (b : Bool), cls = .ref D ∧ d = none ∧ ExcC K D ∧ xs = [.ref a, .ref tp] ∧ H tp = some (.tup cs) ∧ Paired ClsV cs us ∧ PySem.W.kitAny K (.ref D) us = some b ∧ Q (.bl b) H
theorem call_isErrT (hz : Zc cls d oe) (hf : ∃ vs, oe.data = .fields vs) : CallR (X.suite a ((a, oe) :: pn)) (.builtin "isinstance") (rIsErrT X.K cls d a) := by
  intro pins s σ H xs us Q I r h
  obtain ⟨D, tp, cs, ws, b, rfl, rfl, C, rfl, hT, k, e, q⟩ := h
  obtain ⟨u1, u2, rfl, r1, r2⟩ := vals2 r
  cases r1
  cases r2
  obtain ⟨hget, _⟩ := I.pin (a, oe) (List.mem_append.mpr (.inl List.mem_cons_self))
  obtain ⟨vs, hv⟩ := hf
  have J : PySem.W.InstAt s.heap a oe D none := by
    obtain ⟨oc, od, oda, osl⟩ := oe
    obtain ⟨h1, h2⟩ := hz
    dsimp only at h1 h2 hv
    subst h1 h2 hv
    exact ⟨hget, rfl, rfl, trivial⟩
  obtain ⟨_, its, rv, o, h1, h2, n, h3⟩ := (show ObjOk X.prog X.w H s.heap tp (.tup cs) from I.hok tp _ hT)
  have e3 := ClsV.all k rv
  subst e3
  obtain ⟨oc, od, dt, sl⟩ := o
  simp only at h2 h3
  subst h2 h3
  exact PySem.W.kia_tup (PySem.W.handS_kitx_exc C.hg C.hk C.hs C.hd C.ha C.hn C.ht C.hm) I.kIn J h1 e (fun z => nomatch z) fun tk => ⟨.bl b, H, I.kept (t' := tk) fun _ _ z => z, rfl, q⟩
end
end Fb

/-! Part A8: == and != of lists whose items have an own __eq__, with either answer; pairs that stand for fractions. -/
namespace Fb
open PySem PySem.Spec PySem.SeqAt
open AutoSeq1 (wpAny_loadPart')
open MeetsSeq MeetsSeq2 MeetsSeq3 SeqRoads2
section
variable {prog : Program} {w : World} {A : Around} {R : Result → Shared → Prop}
def ListB (prog : Program) (w : World) (A : Around) (E : Value → Shared → Prop) (l b : Addr) (N : Nat) (e : Nat → Bool) (I : Shared → Prop) : Prop :=
  ∀ s, I s → ∃ (items items2 : Array Value) (n n2 : Nat), s.heap.get? l = some { cls := .type "list", data := .seq items n } ∧ s.heap.get? b = some { cls := .type "list", data := .seq items2 n2 } ∧ items.size = N ∧ items2.size = N ∧
    ∀ i (h1 : i < items.size) (h2 : i < items2.size), wpAny (model prog w) A.in1 (eqBool items[i] items2[i]) (fun r s' => r = e i ∧ I s') E s

/-- at each turn the two lists are read anew: N items each, of the i-th two e tells whether they are equal -/
theorem eq_loopB_eq (l b : Addr) (N : Nat) (e : Nat → Bool) (I : Shared → Prop) (hl : ListB prog w A (fun e s' => R (.error e) s') l b N e I)
    (fin : ∀ s, I s → R (.ok (.ret (.bool (((List.range N).all e))))) s) (k : Nat) :
    ∀ i : Nat, N - i = k → i ≤ N → ((List.range N).take i).all e = true → ∀ s, I s →
      wpAny (model prog w) A.in1 (Builtin.«list.__eq__.loop» ⟨[.ref l, .ref b, rawInt i, rawInt 2], []⟩) (GQ.FinOf prog w A R) (fun e s' => R (.error e) s') s := by
  induction k with
  | zero =>
    intro i hk hi ht s h
    obtain ⟨items, items2, n, n2, hl1, hb1, hs1, hs2, _⟩ := hl _ h
    have hi' : i = N := by omega
    have hR : R (.ok (.ret (.bool ( true)))) s := by
      have := fin s h
      rw [hi', List.take_of_length_le (by simp)] at ht
      rwa [ht] at this
    obtain ⟨hp, g, d, tk, os⟩ := s
    wp_walk using wpAny_loadPart' hl1, wpAny_loadPart' hb1
    have hi1 : items[((i : Nat) : Int).toNat]? = none := by simp; omega
    have hi2 : items2[((i : Nat) : Int).toNat]? = none := by simp; omega
    rw [hi1, hi2]
    wp_walk using wpAny_loadPart' hl1, wpAny_loadPart' hb1
    show R (.ok (.ret (.bool (items.size == items2.size)))) _
    rw [hs1, hs2]
    simpa using hR
  | succ k ih =>
    intro i hk hi ht s h
    obtain ⟨items, items2, n, n2, hl1, hb1, hs1, hs2, turn⟩ := hl _ h
    have hlt : i < items.size := by omega
    have hlt2 : i < items2.size := by omega
    have htn := turn i hlt hlt2
    obtain ⟨hp, g, d, tk, os⟩ := s
    wp_walk using wpAny_loadPart' hl1, wpAny_loadPart' hb1
    have hi1 : items[((i : Nat) : Int).toNat]? = some items[i] := by simp [hlt]
    have hi2 : items2[((i : Nat) : Int).toNat]? = some items2[i] := by simp [hlt2]
    have hc : ((i : Int) + 1) = ((i + 1 : Nat) : Int) := by omega
    rw [hi1, hi2]
    refine wpAny_bind (wpAny_mono htn (fun r s2 h2 => ?_) fun _ _ x => x)
    obtain ⟨hr, h2⟩ := h2
    have hd : (List.range N).drop i = i :: (List.range N).drop (i + 1) := by
      rw [List.drop_eq_getElem_cons (by simp; omega)]
      simp
    cases hb' : e i with
    | true =>
      rw [hb'] at hr
      subst hr
      have ht2 : ((List.range N).take (i + 1)).all e = true := by
        rw [List.take_add_one, List.all_append, ht]
        simp [show i < N by omega, hb']
      have hrec := ih (i + 1) (by omega) (by omega) ht2 s2 h2
      obtain ⟨hp2, g2, d2, tk2, os2⟩ := s2
      wp_walk
      rw [hc]
      exact ⟨plainId_quiet plain_eq_loop _, codeAny_builtin entry_eq_loop (by
        rw [Around.under_plainId plain_eq_loop _]
        exact hrec)⟩
    | false =>
      rw [hb'] at hr
      subst hr
      have hR := fin s2 h2
      have hall : (List.range N).all e = false := by
        rw [← List.take_append_drop i (List.range N), List.all_append, ht, hd, List.all_cons, hb']
        rfl
      rw [hall] at hR
      obtain ⟨items', items2', n', n2', hl2, hb2, hs1', hs2', _⟩ := hl _ h2
      obtain ⟨hp2, g2, d2, tk2, os2⟩ := s2
      have hi1' : items'[((i : Nat) : Int).toNat]? = some (items'[i]'(by omega)) := by simp [show i < items'.size by omega]
      have hi2' : items2'[((i : Nat) : Int).toNat]? = some (items2'[i]'(by omega)) := by simp [show i < items2'.size by omega]
      wp_walk using wpAny_loadPart' hl2, wpAny_loadPart' hb2
      rw [hi1', hi2']
      wp_walk
      simpa using hR
theorem list_eqB_eq (l b : Addr) (N : Nat) (e : Nat → Bool) (I : Shared → Prop) (hl : ListB prog w A (fun e s' => R (.error e) s') l b N e I)
    (fin : ∀ s, I s → R (.ok (.ret (.bool (((List.range N).all e))))) s) {s : Shared} (h : I s) :
    wpAny (model prog w) A.in1 (Builtin.«list.__eq__» ⟨[.ref l, .ref b], []⟩) (GQ.FinOf prog w A R) (fun e s' => R (.error e) s') s := by
  obtain ⟨items, items2, n, n2, hl1, hb1, hs1, hs2, _⟩ := hl _ h
  have hrec := eq_loopB_eq (A := A) (R := R) l b N e I hl fin _ 0 rfl (Nat.zero_le _) rfl s h
  obtain ⟨hp, g, d, tk, os⟩ := s
  have f3 := AutoSeq1.sub_list_list
  have hne : ¬ (items.size != items2.size) = true := by simp [hs1, hs2]
  wp_walk using wpAny_loadPart' hl1, wpAny_loadPart' hb1
  exact ⟨plainId_quiet plain_eq_loop _, codeAny_builtin entry_eq_loop (by
    rw [Around.under_plainId plain_eq_loop _]
    exact hrec)⟩
theorem rc_listB_eq {E : Value → Shared → Prop} {s : Shared} {l b : Addr} {N : Nat} {Q : Value → Shared → Prop} (hu : A.units < cLine) (e : Nat → Bool) (I : Shared → Prop) (hl : ListB prog w A E l b N e I)
    (fin : ∀ s, I s → Q (.bool (((List.range N).all e))) s) (h : I s) : wpAny (model prog w) A (richCompare .Eq (.ref l) (.ref b)) Q E s := by
  obtain ⟨items, items2, n, n2, hl1, hb1, _, _, _⟩ := hl _ h
  refine wpAny_richCompare_same_room (op := .Eq) ⟨_, hl1, rfl⟩ ⟨_, hb1, rfl⟩ F.slot_list_eq (GQ.call_here F.slot_list_eq ⟨_, hl1, rfl⟩ F.entry_list_eq (F.args_list_eq_2 _ _) ?_) hu
  exact list_eqB_eq (R := wants (fun v s' => v ≠ .notImplemented ∧ Q v s') E) l b N e I hl (fun s' q => ⟨(fun x => nomatch x), fin s' q⟩) h

/-- at each turn the two lists are read anew: N items each, of the i-th two e tells whether they are equal -/
theorem eq_loopB_ne (l b : Addr) (N : Nat) (e : Nat → Bool) (I : Shared → Prop) (hl : ListB prog w A (fun e s' => R (.error e) s') l b N e I)
    (fin : ∀ s, I s → R (.ok (.ret (.bool (!((List.range N).all e))))) s) (k : Nat) :
    ∀ i : Nat, N - i = k → i ≤ N → ((List.range N).take i).all e = true → ∀ s, I s →
      wpAny (model prog w) A.in1 (Builtin.«list.__eq__.loop» ⟨[.ref l, .ref b, rawInt i, rawInt 3], []⟩) (GQ.FinOf prog w A R) (fun e s' => R (.error e) s') s := by
  induction k with
  | zero =>
    intro i hk hi ht s h
    obtain ⟨items, items2, n, n2, hl1, hb1, hs1, hs2, _⟩ := hl _ h
    have hi' : i = N := by omega
    have hR : R (.ok (.ret (.bool (! true)))) s := by
      have := fin s h
      rw [hi', List.take_of_length_le (by simp)] at ht
      rwa [ht] at this
    obtain ⟨hp, g, d, tk, os⟩ := s
    wp_walk using wpAny_loadPart' hl1, wpAny_loadPart' hb1
    have hi1 : items[((i : Nat) : Int).toNat]? = none := by simp; omega
    have hi2 : items2[((i : Nat) : Int).toNat]? = none := by simp; omega
    rw [hi1, hi2]
    wp_walk using wpAny_loadPart' hl1, wpAny_loadPart' hb1
    show R (.ok (.ret (.bool (items.size != items2.size)))) _
    rw [hs1, hs2]
    simpa using hR
  | succ k ih =>
    intro i hk hi ht s h
    obtain ⟨items, items2, n, n2, hl1, hb1, hs1, hs2, turn⟩ := hl _ h
    have hlt : i < items.size := by omega
    have hlt2 : i < items2.size := by omega
    have htn := turn i hlt hlt2
    obtain ⟨hp, g, d, tk, os⟩ := s
    wp_walk using wpAny_loadPart' hl1, wpAny_loadPart' hb1
    have hi1 : items[((i : Nat) : Int).toNat]? = some items[i] := by simp [hlt]
    have hi2 : items2[((i : Nat) : Int).toNat]? = some items2[i] := by simp [hlt2]
    have hc : ((i : Int) + 1) = ((i + 1 : Nat) : Int) := by omega
    rw [hi1, hi2]
    refine wpAny_bind (wpAny_mono htn (fun r s2 h2 => ?_) fun _ _ x => x)
    obtain ⟨hr, h2⟩ := h2
    have hd : (List.range N).drop i = i :: (List.range N).drop (i + 1) := by
      rw [List.drop_eq_getElem_cons (by simp; omega)]
      simp
    cases hb' : e i with
    | true =>
      rw [hb'] at hr
      subst hr
      have ht2 : ((List.range N).take (i + 1)).all e = true := by
        rw [List.take_add_one, List.all_append, ht]
        simp [show i < N by omega, hb']
      have hrec := ih (i + 1) (by omega) (by omega) ht2 s2 h2
      obtain ⟨hp2, g2, d2, tk2, os2⟩ := s2
      wp_walk
      rw [hc]
      exact ⟨plainId_quiet plain_eq_loop _, codeAny_builtin entry_eq_loop (by
        rw [Around.under_plainId plain_eq_loop _]
        exact hrec)⟩
    | false =>
      rw [hb'] at hr
      subst hr
      have hR := fin s2 h2
      have hall : (List.range N).all e = false := by
        rw [← List.take_append_drop i (List.range N), List.all_append, ht, hd, List.all_cons, hb']
        rfl
      rw [hall] at hR
      obtain ⟨items', items2', n', n2', hl2, hb2, hs1', hs2', _⟩ := hl _ h2
      obtain ⟨hp2, g2, d2, tk2, os2⟩ := s2
      have hi1' : items'[((i : Nat) : Int).toNat]? = some (items'[i]'(by omega)) := by simp [show i < items'.size by omega]
      have hi2' : items2'[((i : Nat) : Int).toNat]? = some (items2'[i]'(by omega)) := by simp [show i < items2'.size by omega]
      wp_walk using wpAny_loadPart' hl2, wpAny_loadPart' hb2
      rw [hi1', hi2']
      wp_walk
      simpa using hR
theorem list_eqB_ne (l b : Addr) (N : Nat) (e : Nat → Bool) (I : Shared → Prop) (hl : ListB prog w A (fun e s' => R (.error e) s') l b N e I)
    (fin : ∀ s, I s → R (.ok (.ret (.bool (!((List.range N).all e))))) s) {s : Shared} (h : I s) :
    wpAny (model prog w) A.in1 (Builtin.«list.__ne__» ⟨[.ref l, .ref b], []⟩) (GQ.FinOf prog w A R) (fun e s' => R (.error e) s') s := by
  obtain ⟨items, items2, n, n2, hl1, hb1, hs1, hs2, _⟩ := hl _ h
  have hrec := eq_loopB_ne (A := A) (R := R) l b N e I hl fin _ 0 rfl (Nat.zero_le _) rfl s h
  obtain ⟨hp, g, d, tk, os⟩ := s
  have f3 := AutoSeq1.sub_list_list
  have hne : ¬ (items.size != items2.size) = true := by simp [hs1, hs2]
  wp_walk using wpAny_loadPart' hl1, wpAny_loadPart' hb1
  exact ⟨plainId_quiet plain_eq_loop _, codeAny_builtin entry_eq_loop (by
    rw [Around.under_plainId plain_eq_loop _]
    exact hrec)⟩
theorem rc_listB_ne {E : Value → Shared → Prop} {s : Shared} {l b : Addr} {N : Nat} {Q : Value → Shared → Prop} (hu : A.units < cLine) (e : Nat → Bool) (I : Shared → Prop) (hl : ListB prog w A E l b N e I)
    (fin : ∀ s, I s → Q (.bool (!((List.range N).all e))) s) (h : I s) : wpAny (model prog w) A (richCompare .NotEq (.ref l) (.ref b)) Q E s := by
  obtain ⟨items, items2, n, n2, hl1, hb1, _, _, _⟩ := hl _ h
  refine wpAny_richCompare_same_room (op := .NotEq) ⟨_, hl1, rfl⟩ ⟨_, hb1, rfl⟩ F.slot_list_ne (GQ.call_here F.slot_list_ne ⟨_, hl1, rfl⟩ F.entry_list_ne (F.args_list_ne_2 _ _) ?_) hu
  exact list_eqB_ne (R := wants (fun v s' => v ≠ .notImplemented ∧ Q v s') E) l b N e I hl (fun s' q => ⟨(fun x => nomatch x), fin s' q⟩) h
end
end Fb

namespace Fb
open PySem PySem.Spec PyProof.Rows L2
/-- what == of two values tells, by the abstract heap -/
abbrev EqvB := V → V → Bool → Hp → Prop
/-- == tells what D says, and nothing else changes -/
def EqB (X : Cx) (n : Nat) (D : EqvB) : Prop :=
  ∀ (A : Around) (pins : List (Addr × Obj)) (s : Shared) (σ : L2.St) (H : Hp) (x y : V) (u v : Value) (b : Bool), Sub X n A → Inv X pins σ H s → RelV x u → RelV y v → D x y b H →
    wpAny (model X.prog X.w) A (eqBool u v) (fun r s' => r = b ∧ Inv X pins σ H s') X.xe s
def RcB (X : Cx) (n : Nat) (op : CmpOp) (g : Bool → Bool) (D : EqvB) : Prop :=
  ∀ (A : Around) (pins : List (Addr × Obj)) (s : Shared) (σ : L2.St) (H : Hp) (x y : V) (u v : Value) (b : Bool), Sub X n A → Inv X pins σ H s → RelV x u → RelV y v → D x y b H →
    wpAny (model X.prog X.w) A (richCompare op u v) (fun r s' => r = .bool (g b) ∧ Inv X pins σ H s') X.xe s
def Refl (D : EqvB) : Prop := ∀ x b H, D x x b H → b = true
section
variable {X : Cx} {n : Nat} {D : EqvB}
theorem RcB.eqB (h : RcB X n .Eq id D) (hr : ∀ x y b H, D x y b H → ∃ a c, x = .ref a ∧ y = .ref c) (hf : Refl D) : EqB X n D := by
  intro A pins s σ H x y u v b sb I rx ry d
  obtain ⟨a, c, rfl, rfl⟩ := hr _ _ _ _ d
  cases rx
  cases ry
  by_cases hab : a = c
  · subst hab
    rw [hf _ _ _ d]
    exact SeqAt.EqAt.same (A := A) (s := s) (.ref a) X.prog X.w X.xe _ ⟨rfl, I⟩
  · refine GQ.eqBool_refG hab (wpAny_mono (h A pins s σ H (.ref a) (.ref c) _ _ b sb I rfl rfl d) (fun r s' q => ?_) fun _ _ x => x)
    obtain ⟨hr', q⟩ := q
    exact ⟨b, hr', rfl, q⟩
/-- instances of the class at C with the text's own ==, whose promise sp tells b and changes nothing -/
def DInsB (C : Addr) (sp : Sp) : EqvB := fun x y b H => ∃ a c dx dy fs gs, x = .ref a ∧ y = .ref c ∧ H a = some (.ins C dx fs) ∧ H c = some (.ins C dy gs) ∧ sp [x, y] H (fun v H' => v = .bl b ∧ H' = H) E0
theorem rcB_ins {C f : Addr} {fd : FuncData} {ps : List Str} {sp : Sp} (F : FnOk X.prog X.w X.K X.mg X.base CX0 n f fd ps sp)
    (hs : PySem.W.findIn X.K (.ref C) "__eq__" = some (some (.ref f))) (hf : PySem.W.isFn X.K (.ref f) = true) (hb : Binds X.K fd ps []) : RcB X n .Eq id (DInsB C sp) := by
  intro A pins s σ H x y u v b sb I rx ry d
  obtain ⟨a, c, dx, dy, fs, gs, rfl, rfl, ha, hc, hsp⟩ := d
  cases rx
  cases ry
  obtain ⟨mA, J, _⟩ := ins_get I.hok ha
  obtain ⟨mB, J', _⟩ := ins_get I.hok hc
  obtain ⟨od, J, _⟩ := J.look
  obtain ⟨od', J', _⟩ := J'.look
  obtain ⟨m, hF⟩ := I.fr
  refine PySem.W.cmp_K (op := .Eq) (tb := .ref C) sb.room.units0 hF I.ok.mod.kin J J'.type (by simp [PySem.W.notFirst]) hs hf ?_
  have e0 : Env0 X.prog X.w X.K X.mg X.base A X.stack s H := by
    have e := I.env0
    exact ⟨by rw [sb.fr]; exact e.frames, e.mod, e.bs, e.bsz, e.funs, e.frf, e.hok, e.bare⟩
  refine wpAny_mono (run_in F sb.room e0 hb I (vs := [.ref a, .ref c]) (.cons rfl (.cons rfl .nil)) hsp) (fun r s' z => ?_) fun _ _ e => e
  obtain ⟨z1, H', I', rz, rfl, rfl⟩ := z
  cases rz
  exact ⟨rfl, I'⟩
def DListB (D : EqvB) : EqvB := fun x y b H => ∃ a c xs ys, x = .ref a ∧ y = .ref c ∧ H a = some (.lst xs) ∧ H c = some (.lst ys) ∧ xs.length = ys.length ∧
  ∃ e : Nat → Bool, (∀ (i : Nat) x y, xs[i]? = some x → ys[i]? = some y → D x y (e i) H) ∧ b = (List.range xs.length).all e
theorem refl_list (h : Refl D) : Refl (DListB D) := by
  intro x b H d
  obtain ⟨a, c, xs, ys, rfl, e, ha, hc, _, f, hf, rfl⟩ := d
  cases e
  rw [ha] at hc
  cases hc
  rw [List.all_eq_true]
  intro i hi
  have hi : i < xs.length := by simpa using hi
  exact h _ _ _ (hf i xs[i] xs[i] (List.getElem?_eq_getElem hi) (List.getElem?_eq_getElem hi))
theorem turnB (h : EqB X n D) {A : Around} (sb : Sub X (n + 1) A) {pins : List (Addr × Obj)} {σ : L2.St} {H : Hp} {xs ys : List V} {its its2 : List Value} {e : Nat → Bool} (p : ∀ (i : Nat) x y, xs[i]? = some x → ys[i]? = some y → D x y (e i) H) (r : Vals xs its) (r2 : Vals ys its2)
    (i : Nat) (h1 : i < its.toArray.size) (h2 : i < its2.toArray.size) (s' : Shared) (l : Inv X pins σ H s') :
    wpAny (model X.prog X.w) A.in1 (eqBool its.toArray[i] its2.toArray[i]) (fun r s2 => r = e i ∧ Inv X pins σ H s2) X.xe s' := by
  have g1 : its[i]? = some its.toArray[i] := by
    have h1' : i < its.length := by simpa using h1
    rw [List.getElem?_eq_getElem h1'] <;> simp
  have g2 : its2[i]? = some its2.toArray[i] := by
    have h2' : i < its2.length := by simpa using h2
    rw [List.getElem?_eq_getElem h2'] <;> simp
  have k1 : i < xs.length := by rw [r.length]; simpa using h1
  have k2 : i < ys.length := by rw [r2.length]; simpa using h2
  obtain ⟨u, hu, ru⟩ := r.get (List.getElem?_eq_getElem k1)
  obtain ⟨v, hv, rv⟩ := r2.get (List.getElem?_eq_getElem k2)
  rw [g1] at hu
  rw [g2] at hv
  rw [Option.some.inj hu, Option.some.inj hv]
  exact h A.in1 pins s' σ H _ _ u v _ sb.in1 l ru rv (p i _ _ (List.getElem?_eq_getElem k1) (List.getElem?_eq_getElem k2))
theorem rcB_list (h : EqB X n D) : RcB X (n + 1) .Eq id (DListB D) := by
  intro A pins s σ H x y u v b sb I rx ry d
  obtain ⟨a, c, xs, ys, rfl, rfl, ha, hc, hl, e, p, rfl⟩ := d
  cases rx
  cases ry
  refine rc_listB_eq (N := xs.length) sb.room.units0 e (fun s' => Inv X pins σ H s') (fun s' q => ?_) (fun s' q => ⟨rfl, q⟩) I
  obtain ⟨z, its, k, r, ea⟩ := q.hok a _ ha
  obtain ⟨z2, its2, k2, r2, ec⟩ := q.hok c _ hc
  exact ⟨its.toArray, its2.toArray, k, k2, ea, ec, by rw [List.size_toArray, ← r.length], by rw [List.size_toArray, ← r2.length, hl], fun i h1 h2 => turnB h sb p r r2 i h1 h2 s' q⟩
theorem rcB_listN (h : EqB X n D) : RcB X (n + 1) .NotEq not (DListB D) := by
  intro A pins s σ H x y u v b sb I rx ry d
  obtain ⟨a, c, xs, ys, rfl, rfl, ha, hc, hl, e, p, rfl⟩ := d
  cases rx
  cases ry
  refine rc_listB_ne (N := xs.length) sb.room.units0 e (fun s' => Inv X pins σ H s') (fun s' q => ?_) (fun s' q => ⟨rfl, q⟩) I
  obtain ⟨z, its, k, r, ea⟩ := q.hok a _ ha
  obtain ⟨z2, its2, k2, r2, ec⟩ := q.hok c _ hc
  exact ⟨its.toArray, its2.toArray, k, k2, ea, ec, by rw [List.size_toArray, ← r.length], by rw [List.size_toArray, ← r2.length, hl], fun i h1 h2 => turnB h sb p r r2 i h1 h2 s' q⟩
theorem eqB_list (h : EqB X n D) (hf : Refl D) : EqB X (n + 1) (DListB D) := (rcB_list h).eqB (fun _ _ _ _ d => let ⟨a, c, _, _, hx, hy, _⟩ := d; ⟨a, c, hx, hy⟩) (refl_list hf)
/-- x == y, x != y as expressions -/
def rEqB (g : Bool → Bool) (D : EqvB) : R2 := fun x y H Q => ∃ b, D x y b H ∧ Q (.bl (g b)) H
theorem op_eqB (h : RcB X n .Eq id D) (hr : Room n X.A) : OpR X (compareOp .Eq) (rEqB id D) := by
  intro pins s σ H x y v u Q I rx ry hq
  obtain ⟨b, d, q⟩ := hq
  show wpAny (model X.prog X.w) X.A (richCompare .Eq v u) (EP X pins σ Q) X.xe s
  refine wpAny_mono (h X.A pins s σ H x y v u b ⟨hr, rfl⟩ I rx ry d) (fun r s' z => ?_) fun _ _ x => x
  obtain ⟨rfl, I'⟩ := z
  exact ⟨.bl b, H, I', rfl, q⟩
theorem op_neB (h : RcB X n .NotEq not D) (hr : Room n X.A) : OpR X (compareOp .NotEq) (rEqB not D) := by
  intro pins s σ H x y v u Q I rx ry hq
  obtain ⟨b, d, q⟩ := hq
  show wpAny (model X.prog X.w) X.A (richCompare .NotEq v u) (EP X pins σ Q) X.xe s
  refine wpAny_mono (h X.A pins s σ H x y v u b ⟨hr, rfl⟩ I rx ry d) (fun r s' z => ?_) fun _ _ x => x
  obtain ⟨rfl, I'⟩ := z
  exact ⟨.bl (!b), H, I', rfl, q⟩
end
/-! ### tuples, != with equal items -/
section
open PySem.SeqAt MeetsSeq MeetsSeq2 MeetsSeq3 SeqRoads2
open AutoSeq1 (wpAny_loadPart')
variable {prog : Program} {w : World} {A : Around} {R : Result → Shared → Prop}
theorem tuple_neG (l b : Addr) (items items2 : Array Value) (n n2 : Nat) (dd dd2 : Option Addr) (sl sl2 : Array (Option Value)) (hsz : items.size = items2.size) (I : Shared → Prop)
    (turn : ∀ i (h1 : i < items.size) (h2 : i < items2.size) s, I s → wpAny (model prog w) A.in1 (eqBool items[i] items2[i]) (fun r s' => r = true ∧ I s') (fun e s' => R (.error e) s') s)
    (fin : ∀ s, I s → R (.ok (.ret (.bool false))) s) {s : Shared} (hl1 : s.heap.get? l = some { cls := .type "tuple", dict := dd, data := .seq items n, slots := sl }) (hb1 : s.heap.get? b = some { cls := .type "tuple", dict := dd2, data := .seq items2 n2, slots := sl2 }) (h : I s) :
    wpAny (model prog w) A.in1 (Builtin.«tuple.__ne__» ⟨[.ref l, .ref b], []⟩) (GQ.FinOf prog w A R) (fun e s' => R (.error e) s') s := by
  have f2 := AutoSeq1.sub_tuple_tuple
  have hZ : (items.toList.zip items2.toList).length = items.size := by simp [hsz]
  have h0 := h
  obtain ⟨hp, g, d, tk, os⟩ := s
  wp_walk using wpAny_loadPart' hl1, wpAny_loadPart' hb1, wpAny_forIn_list _ (fun rest b s' => b.1 = none ∧ ∃ i, rest = (items.toList.zip items2.toList).drop i ∧ i ≤ items.size ∧ I s') _
  case turn =>
    rintro ⟨y, x⟩ rest b s' ⟨hb', i, hz, hi, hI⟩
    have hlt : i < (items.toList.zip items2.toList).length := by
      rcases Nat.lt_or_ge i (items.toList.zip items2.toList).length with h' | h'
      · exact h'
      · rw [List.drop_of_length_le h'] at hz; cases hz
    have h1 : i < items.size := hZ ▸ hlt
    have h2 : i < items2.size := hsz ▸ h1
    rw [List.drop_eq_getElem_cons hlt] at hz
    injection hz with hyx hrest
    have hy : y = items[i] := by have := congrArg Prod.fst hyx; simpa using this
    have hx : x = items2[i] := by have := congrArg Prod.snd hyx; simpa using this
    subst hy hx
    refine wpAny_bind (wpAny_mono (turn i h1 h2 s' hI) (fun r s2 q2 => ?_) fun _ _ x => x)
    obtain ⟨hr, q2⟩ := q2
    subst hr
    wp_walk
    exact ⟨rfl, i + 1, hrest, h1, q2⟩
  case fin =>
    rintro ⟨b1, b2⟩ s' ⟨hb', i, hz, hi, hI⟩
    simp only at hb'
    subst hb'
    have hR : R (.ok (.ret (.bool false))) s' := fin s' hI
    wp_walk
    simpa [Builtin.Tuple.tupleCompareSizes, hsz] using hR
  case h =>
    exact ⟨rfl, 0, rfl, Nat.zero_le _, h0⟩
theorem rc_tupN {E : Value → Shared → Prop} {s : Shared} {l b : Addr} {items items2 : Array Value} {Q : Value → Shared → Prop} (hsz : items.size = items2.size) (hu : A.units < cLine) (I : Shared → Prop)
    (hl : s.heap.IsTuple l items) (hb : s.heap.IsTuple b items2)
    (turn : ∀ i (h1 : i < items.size) (h2 : i < items2.size) s, I s → wpAny (model prog w) A.in1 (eqBool items[i] items2[i]) (fun r s' => r = true ∧ I s') E s)
    (fin : ∀ s, I s → Q (.bool false) s) (h : I s) : wpAny (model prog w) A (richCompare .NotEq (.ref l) (.ref b)) Q E s := by
  obtain ⟨⟨cls, dd, data, sl⟩, ho, hc, n, hd⟩ := id hl
  obtain ⟨⟨cls2, dd2, data2, sl2⟩, ho2, hc2, n2, hd2⟩ := id hb
  simp only at hc hd hc2 hd2
  subst hc hd hc2 hd2
  refine wpAny_richCompare_same_room (op := .NotEq) ⟨_, ho, rfl⟩ ⟨_, ho2, rfl⟩ F.slot_tuple_ne (GQ.call_here F.slot_tuple_ne ⟨_, ho, rfl⟩ F.entry_tuple_ne (F.args_tuple_ne_2 _ _) ?_) hu
  exact tuple_neG (R := wants (fun v s' => v ≠ .notImplemented ∧ Q v s') E) l b items items2 n n2 dd dd2 sl sl2 hsz I turn (fun s' q => ⟨(fun x => nomatch x), fin s' q⟩) ho ho2 h
end
section
variable {X : Cx} {n : Nat} {D : EqvB}
/-- two tuples of as many items, each two equal -/
def DTupT (K : PySem.W.Frag) (D : EqvB) : EqvB := fun x y b H => ∃ a c xs ys, x = .ref a ∧ y = .ref c ∧ SqT K H a xs ∧ SqT K H c ys ∧ xs.length = ys.length ∧ (∀ (i : Nat) x y, xs[i]? = some x → ys[i]? = some y → D x y true H) ∧ b = true
theorem rcB_tupN (h : EqB X n D) : RcB X (n + 1) .NotEq not (DTupT X.K D) := by
  intro A pins s σ H x y u v b sb I rx ry d
  obtain ⟨a, c, xs, ys, rfl, rfl, ha, hc, hl, p, rfl⟩ := d
  cases rx
  cases ry
  obtain ⟨its, r, e, z⟩ := I.tuple ha
  obtain ⟨its2, r2, e2, z2⟩ := I.tuple hc
  have hsz : its.toArray.size = its2.toArray.size := by rw [List.size_toArray, List.size_toArray, ← r.length, ← r2.length]; exact hl
  exact rc_tupN hsz sb.room.units0 (fun s' => Inv X pins σ H s') e e2 (fun i h1 h2 s' q => turnB (e := fun _ => true) h sb p r r2 i h1 h2 s' q) (fun s' q => ⟨rfl, q⟩) I
end
end Fb

namespace Fb
open PySem PySem.Spec PyProof.Rows L2
/-- a suite's if without else, both ways told by one condition -/
theorem ite_mid {c A : Prop} [Decidable c] {Rest : L2.St → Hp → Prop} {σ : L2.St} {H : Hp} (M : L2.St → Hp → Prop) (h1 : c → (∀ σ H, M σ H → Rest σ H) → A) (h2 : ¬ c → M σ H) (h3 : ∀ σ H, M σ H → Rest σ H) : if c then A else Rest σ H := by
  by_cases h : c
  · rw [if_pos h]
    exact h1 h h3
  · rw [if_neg h]
    exact h3 _ _ (h2 h)
theorem cr_sumK {X : Cx} {K : PySem.W.Frag} (hK : X.K = K) (hc : X.calm = true) : CallR X (.builtin "sum") (rSum K) := hK ▸ cr_sum hc
theorem none_back {H H' : Hp} {a p : Addr} {f : Nat} (s : Same (hid a H) (hid a H')) (w : WellAt H' a f) (h : H' p = none) : H p = none := by
  have hp : p ≠ a := w.ne h
  cases e : H p with
  | none => rfl
  | some o =>
    have := s p o (by rw [hid_ne hp]; exact e)
    rw [hid_ne hp, h] at this
    cases this
/-- a list of weights of the law's own, beside the well -/
structure WtAt (H : Hp) (a : Addr) (m : Nat) (B : Int) (f : Nat) (pw : Addr) (ns : List Int) (H' : Hp) : Prop where
  new : H pw = none
  ne : pw ≠ a
  at_ : H' pw = some (.lst (ns.map V.int))
  len : ns.length = m
  bd : ∀ x ∈ ns, 0 ≤ x ∧ x ≤ B
  same : Same (hid a H) (hid pw (hid a H'))
  well : WellAt H' a f
theorem WtAt.step {H : Hp} {a : Addr} {m : Nat} {B : Int} {f f' : Nat} {pw : Addr} {ns : List Int} {H1 H2 : Hp} (h : WtAt H a m B f pw ns H1) (s : Same (hid a H1) (hid a H2)) (w : WellAt H2 a f') : WtAt H a m B f' pw ns H2 := by
  refine ⟨h.new, h.ne, ?_, h.len, h.bd, h.same.trans (hid_mono s), w⟩
  have := s pw _ (by rw [hid_ne h.ne]; exact h.at_)
  rwa [hid_ne h.ne] at this
theorem WtAt.upB {H : Hp} {a : Addr} {m : Nat} {B B' : Int} {f : Nat} {pw : Addr} {ns : List Int} {H1 : Hp} (h : WtAt H a m B f pw ns H1) (l : B ≤ B') : WtAt H a m B' f pw ns H1 :=
  ⟨h.new, h.ne, h.at_, h.len, fun x hx => ⟨(h.bd x hx).1, Int.le_trans (h.bd x hx).2 l⟩, h.same, h.well⟩
theorem WtAt.set {H : Hp} {a : Addr} {m : Nat} {B : Int} {f : Nat} {pw : Addr} {ns : List Int} {H1 : Hp} (h : WtAt H a m B f pw ns H1) (j : Nat) {v : Int} (v0 : 0 ≤ v) (v1 : v ≤ B) : WtAt H a m B f pw (ns.set j v) (upd H1 pw (.lst ((ns.map V.int).set j (.int v)))) := by
  refine ⟨h.new, h.ne, by rw [upd_same, ← List.map_set], by rw [List.length_set, h.len], fun x hx => ?_, by rw [hid2_upd h.ne]; exact h.same, h.well.upd h.ne⟩
  rcases List.mem_or_eq_of_mem_set hx with e | e
  · exact h.bd x e
  · subst e
    exact ⟨v0, v1⟩
/-! ### heaps -/
/-- a heap as the law draws it -/
structure HeapOk (qs : List Rat) : Prop where
  nn : ∀ q ∈ qs, 0 ≤ q
  den : ∃ S : Nat, 0 < S ∧ S ≤ 1000 ∧ ∀ q ∈ qs, q.den ∣ S
  one : rsum qs = 1
theorem rsum_div (S : Int) : ∀ ns : List Int, rsum (ns.map fun x => Rat.divInt x S) = Rat.divInt ns.sum S
  | [] => by simp [rsum]
  | x :: r => by
    rw [List.map_cons, List.sum_cons, divInt_add_same, ← rsum_div S r]
    rfl
theorem sum_nn : ∀ {ns : List Int}, (∀ x ∈ ns, 0 ≤ x) → 0 ≤ ns.sum
  | [], _ => by simp
  | x :: r, h => by
    rw [List.sum_cons]
    have := h x List.mem_cons_self
    have := sum_nn (ns := r) fun y hy => h y (List.mem_cons_of_mem _ hy)
    omega
theorem sum_le {B : Int} : ∀ {ns : List Int}, (∀ x ∈ ns, x ≤ B) → ns.sum ≤ ns.length * B
  | [], _ => by simp
  | x :: r, h => by
    rw [List.sum_cons, List.length_cons]
    have := h x List.mem_cons_self
    have := sum_le (ns := r) fun y hy => h y (List.mem_cons_of_mem _ hy)
    have e : ((r.length + 1 : Nat) : Int) * B = (r.length : Int) * B + B := by
      rw [Int.natCast_add, Int.add_mul]
      simp
    rw [e]
    omega
theorem sum_ge : ∀ {ns : List Int}, (∀ x ∈ ns, 0 ≤ x) → ∀ {x : Int}, x ∈ ns → x ≤ ns.sum
  | y :: r, h, x, hx => by
    rw [List.sum_cons]
    have h0 := h y List.mem_cons_self
    have hr := sum_nn (ns := r) fun y hy => h y (List.mem_cons_of_mem _ hy)
    rcases List.mem_cons.mp hx with e | e
    · subst e
      omega
    · have := sum_ge (ns := r) (fun y hy => h y (List.mem_cons_of_mem _ hy)) e
      omega
theorem den_dvd_bot {t : Int} {S : Nat} (h : 0 < S) : (Rat.divInt t (S : Int)).den ∣ S := by
  rw [Rat.den_divInt, if_neg (by omega)]
  simp only [Int.natAbs_natCast]
  refine Nat.div_dvd_of_dvd ?_
  have := Int.gcd_dvd_left (S : Int) t
  exact Int.natCast_dvd_natCast.mp this
theorem heap_ok {ns : List Int} {B : Int} (hb : ∀ x ∈ ns, 0 ≤ x ∧ x ≤ B) (h0 : 0 < ns.sum) (hl : ns.length ≤ 12) (hB : 0 ≤ B ∧ B ≤ 60) : HeapOk (ns.map fun x => Rat.divInt x ns.sum) := by
  have hS : ((ns.sum.toNat : Nat) : Int) = ns.sum := by omega
  have le : ns.sum ≤ 1000 := by
    have := sum_le fun x hx => (hb x hx).2
    have := Int.mul_le_mul (a := (ns.length : Int)) (b := B) (c := 12) (d := 60) (by omega) hB.2 hB.1 (by decide)
    omega
  refine ⟨fun q hq => ?_, ⟨ns.sum.toNat, by omega, by omega, fun q hq => ?_⟩, ?_⟩
  · obtain ⟨x, hx, rfl⟩ := List.mem_map.mp hq
    exact (Rat.divInt_nonneg_iff_of_pos_right h0).mpr (hb x hx).1
  · obtain ⟨x, hx, rfl⟩ := List.mem_map.mp hq
    rw [← hS]
    exact den_dvd_bot (by omega)
  · rw [rsum_div, Rat.divInt_self' (by omega)]
end Fb

/-! Part A11: pairs that stand for fractions, vectors and tables of them; a list compared with []; the mathematics of filling. -/
namespace Fb
open PySem PySem.Spec PyProof.Rows L2
section
variable {X : Cx}
/-- a list against [] -/
def rNil (K : PySem.W.Frag) (g : Bool → Bool) : R2 := fun x y H Q => ∃ a c xs, x = .ref a ∧ y = .ref c ∧ SqL K H a xs ∧ SqL K H c [] ∧ Q (.bl (g xs.isEmpty)) H
theorem op_eqNil (hu : X.A.units < cLine) : OpR X (compareOp .Eq) (rNil X.K id) := by
  intro pins s σ H x y v u Q I rx ry h
  obtain ⟨a, c, xs, rfl, rfl, ha, hc, q⟩ := h
  cases rx
  cases ry
  obtain ⟨its, r, hl, _⟩ := I.list ha
  obtain ⟨its2, r2, hl2, _⟩ := I.list hc
  cases r2
  show wpAny (model X.prog X.w) X.A (richCompare .Eq (.ref a) (.ref c)) (EP X pins σ Q) X.xe s
  cases r with
  | nil => exact SeqAt.RcAt.lists (e := fun _ => true) hl.isList hl2.isList rfl hu (fun j h => absurd h (by simp)) X.prog X.w X.xe _ ⟨.bl true, H, I, rfl, q⟩
  | cons _ _ => exact SeqAt.RcAt.lists_lengths hl.isList hl2.isList (by simp) hu X.prog X.w X.xe _ ⟨.bl false, H, I, rfl, q⟩
theorem op_neNil (hu : X.A.units < cLine) : OpR X (compareOp .NotEq) (rNil X.K not) := by
  intro pins s σ H x y v u Q I rx ry h
  obtain ⟨a, c, xs, rfl, rfl, ha, hc, q⟩ := h
  cases rx
  cases ry
  obtain ⟨its, r, hl, _⟩ := I.list ha
  obtain ⟨its2, r2, hl2, _⟩ := I.list hc
  cases r2
  show wpAny (model X.prog X.w) X.A (richCompare .NotEq (.ref a) (.ref c)) (EP X pins σ Q) X.xe s
  cases r with
  | nil => exact SeqAt.RcNeAt.lists (e := fun _ => true) hl.isList hl2.isList rfl hu (fun j h => absurd h (by simp)) X.prog X.w X.xe _ ⟨.bl false, H, I, rfl, q⟩
  | cons _ _ => exact SeqAt.RcNeAt.lists_lengths hl.isList hl2.isList (by simp) hu X.prog X.w X.xe _ ⟨.bl true, H, I, rfl, q⟩
theorem op_eqNilK {K : PySem.W.Frag} (hK : X.K = K) (hu : X.A.units < cLine) : OpR X (compareOp .Eq) (rNil K id) := hK ▸ op_eqNil hu
end
/-! ### pairs -/
def IsPr (H : Hp) (v : V) (q : Rat) : Prop := IsTup2 H v q.num (q.den : Int)
theorem IsPr.mono {H H' : Hp} {v : V} {q : Rat} (h : IsPr H v q) (s : Same H H') : IsPr H' v q := IsTup2.mono h s
def IsPrs (H : Hp) (v : V) (qs : List Rat) : Prop := ∃ p vs, v = .ref p ∧ H p = some (.lst vs) ∧ AllAre (IsPr H) vs qs
theorem IsPrs.mono {H H' : Hp} {v : V} {qs : List Rat} (h : IsPrs H v qs) (s : Same H H') : IsPrs H' v qs := by
  obtain ⟨p, vs, e, h, a⟩ := h
  exact ⟨p, vs, e, s _ _ h, a.imp fun _ _ r => r.mono s⟩
/-- tuples stay -/
def TS (H H' : Hp) : Prop := ∀ p xs, H p = some (.tup xs) → H' p = some (.tup xs)
theorem TS.rfl' {H : Hp} : TS H H := fun _ _ h => h
theorem TS.trans {H H1 H2 : Hp} (a : TS H H1) (b : TS H1 H2) : TS H H2 := fun p xs h => b p xs (a p xs h)
theorem TS.same {H H' : Hp} (s : Same H H') : TS H H' := fun p xs h => s p _ h
theorem TS.well {H H' : Hp} {a : Addr} {n : Nat} (w : WellAt H a n) (s : Same (hid a H) (hid a H')) : TS H H' := fun p xs h => hid_same _ _ (s p _ (hid_keep w h (fun _ => nofun)))
theorem TS.lst {H : Hp} {p : Addr} {ys : List V} {o : HO} (h : H p = some (.lst ys)) : TS H (upd H p o) := fun b xs e => by
  rw [upd_ne (fun z => by rw [z, h] at e; cases e)]
  exact e
theorem IsPr.ts {H H' : Hp} {v : V} {q : Rat} (h : IsPr H v q) (s : TS H H') : IsPr H' v q := by
  obtain ⟨p, e, h⟩ := h
  exact ⟨p, e, s _ _ h⟩
theorem IsTup2.ts {H H' : Hp} {v : V} {t b : Int} (h : IsTup2 H v t b) (s : TS H H') : IsTup2 H' v t b := by
  obtain ⟨p, e, h⟩ := h
  exact ⟨p, e, s _ _ h⟩
/-- a list of m pairs -/
def VecAt (H : Hp) (p : Addr) (m : Nat) (h : Nat → Rat) : Prop := ∃ vs, H p = some (.lst vs) ∧ vs.length = m ∧ ∀ (i : Nat) v, vs[i]? = some v → IsPr H v (h i)
theorem VecAt.ts {H H' : Hp} {p : Addr} {m : Nat} {h : Nat → Rat} (v : VecAt H p m h) (s : TS H H') (e : H' p = H p) : VecAt H' p m h := by
  obtain ⟨vs, ev, l, r⟩ := v
  exact ⟨vs, by rw [e]; exact ev, l, fun i v hv => (r i v hv).ts s⟩
theorem VecAt.at {H : Hp} {p : Addr} {m : Nat} {h : Nat → Rat} (v : VecAt H p m h) {j : Nat} (hj : j < m) : ∃ vs x, H p = some (.lst vs) ∧ vs.length = m ∧ vs[j]? = some x ∧ IsPr H x (h j) := by
  obtain ⟨vs, ev, l, r⟩ := v
  have hj' : j < vs.length := by omega
  exact ⟨vs, _, ev, l, List.getElem?_eq_getElem hj', r j _ (List.getElem?_eq_getElem hj')⟩
def put (h : Nat → Rat) (j : Nat) (z : Rat) : Nat → Rat := fun i => if i = j then z else h i
theorem VecAt.set {H : Hp} {p : Addr} {m : Nat} {h : Nat → Rat} {vs : List V} {j : Nat} {x : V} {z : Rat} (v : VecAt H p m h) (e : H p = some (.lst vs)) (hx : IsPr H x z) : VecAt (upd H p (.lst (vs.set j x))) p m (put h j z) := by
  obtain ⟨vs', ev, l, r⟩ := v
  rw [e] at ev
  cases ev
  have s : TS H (upd H p (.lst (vs.set j x))) := TS.lst e
  refine ⟨_, upd_same, by rw [List.length_set, l], fun i y hy => ?_⟩
  unfold put
  rw [List.getElem?_set] at hy
  by_cases hij : j = i
  · subst hij
    rw [if_pos rfl] at hy
    rw [if_pos rfl]
    split at hy
    · cases hy
      exact hx.ts s
    · cases hy
  · rw [if_neg hij] at hy
    rw [if_neg (fun z => hij z.symm)]
    exact (r i y hy).ts s
/-! ### sums over ranges -/
def rsumN (n : Nat) (f : Nat → Rat) : Rat := rsum ((List.range n).map f)
theorem rsumN_succ (n : Nat) (f : Nat → Rat) : rsumN (n + 1) f = rsumN n f + f n := by
  unfold rsumN
  rw [List.range_succ, List.map_append, rsum_append]
  show _ + (f n + 0) = _
  rw [Rat.add_zero]
theorem rsumN_congr {n : Nat} {f g : Nat → Rat} (h : ∀ i, i < n → f i = g i) : rsumN n f = rsumN n g := by
  induction n with
  | zero => rfl
  | succ n ih => rw [rsumN_succ, rsumN_succ, ih fun i hi => h i (by omega), h n (by omega)]
theorem rsumN_add (n : Nat) (f g : Nat → Rat) : rsumN n (fun i => f i + g i) = rsumN n f + rsumN n g := by
  induction n with
  | zero => exact (Rat.add_zero 0).symm
  | succ n ih => rw [rsumN_succ, rsumN_succ, rsumN_succ, ih]; grind
theorem rsumN_zero {n : Nat} {f : Nat → Rat} (h : ∀ i, i < n → f i = 0) : rsumN n f = 0 := by
  induction n with
  | zero => rfl
  | succ n ih => rw [rsumN_succ, ih fun i hi => h i (by omega), h n (by omega), Rat.add_zero]
theorem rsumN_nn {n : Nat} {f : Nat → Rat} (h : ∀ i, i < n → 0 ≤ f i) : 0 ≤ rsumN n f := by
  induction n with
  | zero => exact Rat.le_refl
  | succ n ih =>
    rw [rsumN_succ]
    have h1 := ih fun i hi => h i (by omega)
    have h2 := h n (by omega)
    grind
theorem rsumN_ge {n : Nat} {f : Nat → Rat} (h : ∀ i, i < n → 0 ≤ f i) {j : Nat} (hj : j < n) : f j ≤ rsumN n f := by
  induction n with
  | zero => omega
  | succ n ih =>
    rw [rsumN_succ]
    have h2 := h n (by omega)
    have h3 := rsumN_nn fun i (hi : i < n) => h i (by omega)
    by_cases e : j = n
    · subst e
      grind
    · have := ih (fun i hi => h i (by omega)) (by omega)
      grind
theorem rsumN_put {n : Nat} {f : Nat → Rat} {j : Nat} {z : Rat} (hj : j < n) : rsumN n (put f j z) = rsumN n f + (z - f j) := by
  induction n with
  | zero => omega
  | succ n ih =>
    rw [rsumN_succ, rsumN_succ]
    by_cases e : j = n
    · subst e
      rw [rsumN_congr (g := f) fun i hi => by unfold put; rw [if_neg (by omega)]]
      unfold put
      rw [if_pos rfl]
      grind
    · rw [ih (by omega)]
      have : put f j z n = f n := by unfold put; rw [if_neg (fun h => e h.symm)]
      rw [this]
      grind
theorem rsumN_put' {n : Nat} {f : Nat → Rat} {j : Nat} {z : Rat} (hj : n ≤ j) : rsumN n (put f j z) = rsumN n f :=
  rsumN_congr fun i hi => by unfold put; rw [if_neg (by omega)]
theorem rsumN_swap (m k : Nat) (T : Nat → Nat → Rat) : rsumN m (fun x => rsumN k (T x)) = rsumN k fun y => rsumN m fun x => T x y := by
  induction m with
  | zero => exact (rsumN_zero fun _ _ => rfl).symm
  | succ m ih =>
    rw [rsumN_succ, ih, ← rsumN_add]
    exact rsumN_congr fun i _ => (rsumN_succ m _).symm
/-! ### bottoms -/
theorem den_sub {a b : Rat} {S : Nat} (h0 : 0 < S) (ha : a.den ∣ S) (hb : b.den ∣ S) : (a - b).den ∣ S := by
  have e : a - b = Rat.divInt (a.num * ((S / a.den : Nat) : Int) + -(b.num * ((S / b.den : Nat) : Int))) (S : Int) := by
    rw [divInt_add_same, tops_one h0 ha, ← Rat.neg_divInt, tops_one h0 hb, Rat.sub_eq_add_neg]
  rw [e]
  exact den_dvd_bot h0
theorem bd_frac {q : Rat} {S : Nat} (q0 : 0 ≤ q) (q1 : q ≤ 1) (h0 : 0 < S) (hS : S ≤ 1000000) (hd : q.den ∣ S) : Bd 21 q := by
  have h1 : q.den ≤ S := Nat.le_of_dvd h0 hd
  have n0 : 0 ≤ q.num := Rat.num_nonneg.mpr q0
  have n1 : q.num ≤ (q.den : Int) := by
    have := (Rat.le_iff q 1).mp q1
    simpa using this
  exact ⟨by omega, by omega⟩
/-! ### filling -/
structure FillM (m k : Nat) (p q : Nat → Rat) (S : Nat) (h g : Nat → Rat) (T : Nat → Nat → Rat) (sp : List (Nat × Nat)) : Prop where
  row : ∀ x, x < m → h x + rsumN k (T x) = p x
  col : ∀ y, y < k → g y + rsumN m (fun x => T x y) = q y
  h0 : ∀ x, x < m → 0 ≤ h x ∧ h x ≤ 1 ∧ (h x).den ∣ S
  g0 : ∀ y, y < k → 0 ≤ g y ∧ g y ≤ 1 ∧ (g y).den ∣ S
  t0 : ∀ x y, x < m → y < k → 0 ≤ T x y ∧ T x y ≤ 1 ∧ (T x y).den ∣ S
  done : ∀ x y, x < m → y < k → (x, y) ∉ sp → h x = 0 ∨ g y = 0
  todo : ∀ xy ∈ sp, T xy.1 xy.2 = 0
  inb : ∀ xy ∈ sp, xy.1 < m ∧ xy.2 < k
  nd : sp.Nodup
def put2 (T : Nat → Nat → Rat) (x y : Nat) (z : Rat) : Nat → Nat → Rat := fun i => if i = x then put (T x) y z else T i
theorem FillM.step {m k : Nat} {p q : Nat → Rat} {S : Nat} {h g : Nat → Rat} {T : Nat → Nat → Rat} {sp : List (Nat × Nat)} (F : FillM m k p q S h g T sp) (hS : 0 < S) {c x y : Nat} (hc : sp[c]? = some (x, y)) {z : Rat} (hz : z = if g y < h x then g y else h x) :
    FillM m k p q S (put h x (h x - z)) (put g y (g y - z)) (put2 T x y z) (sp.eraseIdx c) := by
  have hm := List.mem_of_getElem? hc
  have hx : x < m := (F.inb _ hm).1
  have hy : y < k := (F.inb _ hm).2
  have t : T x y = 0 := F.todo _ hm
  obtain ⟨l1, l2, e1, e2⟩ : ∃ l1 l2, sp = l1 ++ (x, y) :: l2 ∧ sp.eraseIdx c = l1 ++ l2 := by
    have hl := (List.getElem?_eq_some_iff.mp hc).1
    refine ⟨sp.take c, sp.drop (c + 1), ?_, List.eraseIdx_eq_take_drop_succ ..⟩
    have := (List.getElem?_eq_some_iff.mp hc).2
    rw [← this, ← List.drop_eq_getElem_cons hl, List.take_append_drop]
  have nin : (x, y) ∉ sp.eraseIdx c := by
    have nd := F.nd
    rw [e1] at nd
    rw [e2]
    have := List.nodup_append.mp nd
    have h2 := List.nodup_cons.mp this.2.1
    intro hmem
    rcases List.mem_append.mp hmem with h | h
    · exact this.2.2 _ h _ List.mem_cons_self rfl
    · exact h2.1 h
  obtain ⟨hx0, hx1, hxd⟩ := F.h0 x hx
  obtain ⟨gy0, gy1, gyd⟩ := F.g0 y hy
  have z3 : 0 ≤ z ∧ z ≤ h x ∧ z ≤ g y ∧ z.den ∣ S ∧ (h x - z = 0 ∨ g y - z = 0) := by
    subst hz
    split
    · exact ⟨gy0, by grind, by grind, gyd, .inr (by grind)⟩
    · exact ⟨hx0, by grind, by grind, hxd, .inl (by grind)⟩
  obtain ⟨z0, zh, zg, zd, zz⟩ := z3
  refine ⟨fun i hi => ?_, fun j hj => ?_, fun i hi => ?_, fun j hj => ?_, fun i j hi hj => ?_, fun i j hi' hj hn => ?_, fun xy hxy => ?_, fun xy hxy => F.inb xy (List.mem_of_mem_eraseIdx hxy), F.nd.sublist (List.eraseIdx_sublist ..)⟩
  · have := F.row i hi
    by_cases e : i = x
    · subst e
      simp only [put, put2, if_true]
      rw [rsumN_put (f := T i) (z := z) hy, t]
      grind
    · simp only [put, put2, if_neg e]
      exact this
  · have := F.col j hj
    by_cases e : j = y
    · subst e
      have e2 : (fun i => put2 T x j z i j) = put (fun i => T i j) x z := by
        funext i
        by_cases e : i = x
        · subst e
          simp [put2, put]
        · simp [put2, put, e]
      rw [e2, rsumN_put hx]
      simp only [put, if_true]
      rw [t]
      grind
    · have e2 : (fun i => put2 T x y z i j) = fun i => T i j := by
        funext i
        by_cases e' : i = x
        · subst e'
          simp [put2, put, e]
        · simp [put2, e']
      rw [e2]
      simp only [put, if_neg e]
      exact this
  · by_cases e : i = x
    · subst e
      simp only [put, if_true]
      exact ⟨by grind, by grind, den_sub hS hxd zd⟩
    · simp only [put, if_neg e]
      exact F.h0 i hi
  · by_cases e : j = y
    · subst e
      simp only [put, if_true]
      exact ⟨by grind, by grind, den_sub hS gyd zd⟩
    · simp only [put, if_neg e]
      exact F.g0 j hj
  · by_cases e : i = x
    · subst e
      by_cases e' : j = y
      · subst e'
        simp only [put2, put, if_true]
        exact ⟨z0, by grind, zd⟩
      · simp only [put2, put, if_true, if_neg e']
        exact F.t0 i j hi hj
    · simp only [put2, if_neg e]
      exact F.t0 i j hi hj
  · by_cases e : (i, j) = (x, y)
    · cases e
      simp only [put, if_true]
      exact zz
    · have hn' : (i, j) ∉ sp := fun hmem => by
        refine hn ?_
        rw [e1] at hmem
        rw [e2]
        rcases List.mem_append.mp hmem with h | h
        · exact List.mem_append_left _ h
        · rcases List.mem_cons.mp h with h | h
          · exact absurd h e
          · exact List.mem_append_right _ h
      have := F.done i j hi' hj hn'
      simp only [put]
      split <;> split <;> grind
  · have hmem := List.mem_of_mem_eraseIdx hxy
    have t' := F.todo xy hmem
    have ne : xy ≠ (x, y) := fun e => nin (e ▸ hxy)
    obtain ⟨b, d⟩ := xy
    by_cases e : b = x
    · subst e
      have e' : d ≠ y := fun e' => ne (by rw [e'])
      simp only [put2, put, if_true, if_neg e']
      exact t'
    · simp only [put2, if_neg e]
      exact t'
theorem FillM.end_ {m k : Nat} {p q : Nat → Rat} {S : Nat} {h g : Nat → Rat} {T : Nat → Nat → Rat} (F : FillM m k p q S h g T []) (hp : rsumN m p = rsumN k q) : (∀ x, x < m → rsumN k (T x) = p x) ∧ ∀ y, y < k → rsumN m (fun x => T x y) = q y := by
  have e1 : rsumN m h + rsumN m (fun x => rsumN k (T x)) = rsumN m p := by
    rw [← rsumN_add]
    exact rsumN_congr F.row
  have e2 : rsumN k g + rsumN k (fun y => rsumN m fun x => T x y) = rsumN k q := by
    rw [← rsumN_add]
    exact rsumN_congr F.col
  rw [rsumN_swap] at e1
  have e3 : rsumN m h = rsumN k g := by grind
  have hz : (∀ x, x < m → h x = 0) ∧ ∀ y, y < k → g y = 0 := by
    by_cases hh : ∀ x, x < m → h x = 0
    · refine ⟨hh, fun y hy => ?_⟩
      have z := rsumN_zero hh
      have := rsumN_ge (fun i hi => (F.g0 i hi).1) hy
      have := (F.g0 y hy).1
      rw [← e3, z] at *
      grind
    · obtain ⟨x, hx⟩ := Classical.not_forall.mp hh
      obtain ⟨hx, hne⟩ := Classical.not_imp.mp hx
      have gz : ∀ y, y < k → g y = 0 := fun y hy => (F.done x y hx hy (by simp)).resolve_left hne
      refine ⟨fun i hi => ?_, gz⟩
      have z := rsumN_zero gz
      have := rsumN_ge (fun i hi => (F.h0 i hi).1) hi
      have := (F.h0 i hi).1
      rw [e3, z] at *
      grind
  exact ⟨fun x hx => by have := F.row x hx; rw [hz.1 x hx] at this; grind, fun y hy => by have := F.col y hy; rw [hz.2 y hy] at this; grind⟩
end Fb

/-! Part A12: the state of filling a plan, on the heap. -/
namespace Fb
open PySem PySem.Spec PyProof.Rows L2
theorem nodup_inj {α : Type} {l : List α} (nd : l.Nodup) {i j : Nat} {x : α} (hi : l[i]? = some x) (hj : l[j]? = some x) : i = j := by
  obtain ⟨i1, i2⟩ := List.getElem?_eq_some_iff.mp hi
  obtain ⟨j1, j2⟩ := List.getElem?_eq_some_iff.mp hj
  have p := List.pairwise_iff_getElem.mp nd
  rcases Nat.lt_trichotomy i j with h | h | h
  · exact absurd (i2.trans j2.symm) (p i j i1 j1 h)
  · exact h
  · exact absurd (j2.trans i2.symm) (p j i j1 i1 h)
structure FillAt (H0 : Hp) (a : Addr) (f m k : Nat) (ph pw pp ps : Addr) (rs : List Addr) (h g : Nat → Rat) (T : Nat → Nat → Rat) (sp : List (Nat × Nat)) (H : Hp) : Prop where
  same : Same (hid a H0) (hid a H)
  well : WellAt H a f
  new : ∀ p ∈ ph :: pw :: pp :: ps :: rs, H0 p = none ∧ p ≠ a
  dis : (ph :: pw :: pp :: ps :: rs).Nodup
  have_ : VecAt H ph m h
  want : VecAt H pw k g
  tab : H pp = some (.lst (rs.map V.ref))
  rlen : rs.length = m
  rows : ∀ (x : Nat) r, rs[x]? = some r → VecAt H r k (T x)
  spots : ∃ sv, H ps = some (.lst sv) ∧ AllAre (fun v (xy : Nat × Nat) => IsTup2 H v (xy.1 : Int) (xy.2 : Int)) sv sp
section
variable {H0 : Hp} {a : Addr} {f f' m k : Nat} {ph pw pp ps : Addr} {rs : List Addr} {h g : Nat → Rat} {T : Nat → Nat → Rat} {sp : List (Nat × Nat)} {H H' : Hp}
/-- tuples stay and the lists of filling stay -/
theorem FillAt.keep (F : FillAt H0 a f m k ph pw pp ps rs h g T sp H) (s : Same (hid a H) (hid a H')) (w : WellAt H' a f') : FillAt H0 a f' m k ph pw pp ps rs h g T sp H' := by
  have t := TS.well F.well s
  have e : ∀ p ∈ ph :: pw :: pp :: ps :: rs, ∀ o, H p = some o → H' p = some o := fun p hp o ho => by
    have := s p o (by rw [hid_ne (F.new p hp).2]; exact ho)
    rwa [hid_ne (F.new p hp).2] at this
  have v : ∀ p ∈ ph :: pw :: pp :: ps :: rs, ∀ n d, VecAt H p n d → VecAt H' p n d := fun p hp n d hv => by
    obtain ⟨vs, ev, l, r⟩ := hv
    exact ⟨vs, e p hp _ ev, l, fun i v hv => (r i v hv).ts t⟩
  refine ⟨F.same.trans s, w, F.new, F.dis, v _ (by simp) _ _ F.have_, v _ (by simp) _ _ F.want, e _ (by simp) _ F.tab, F.rlen, fun x r hr => v r ?_ _ _ (F.rows x r hr), ?_⟩
  · have := List.mem_of_getElem? hr
    simp [this]
  · obtain ⟨sv, es, as⟩ := F.spots
    exact ⟨sv, e _ (by simp) _ es, as.imp fun _ _ r => r.ts t⟩
/-- one of the lists of filling is set -/
theorem FillAt.upd_ (F : FillAt H0 a f m k ph pw pp ps rs h g T sp H) {p : Addr} {ys : List V} {o : HO} (hp : p ∈ ph :: pw :: pp :: ps :: rs) (e : H p = some (.lst ys)) :
    Same (hid a H0) (hid a (upd H p o)) ∧ WellAt (upd H p o) a f ∧ TS H (upd H p o) := by
  obtain ⟨n0, na⟩ := F.new p hp
  refine ⟨fun b u eb => ?_, F.well.upd na, TS.lst e⟩
  have hb : b ≠ p := fun z => by
    rw [z, hid_ne na, n0] at eb
    cases eb
  rw [hid_updN na, upd_ne hb]
  exact F.same b u eb
theorem FillAt.setH (F : FillAt H0 a f m k ph pw pp ps rs h g T sp H) {vs : List V} {j : Nat} {x : V} {z : Rat} (e : H ph = some (.lst vs)) (hx : IsPr H x z) : FillAt H0 a f m k ph pw pp ps rs (put h j z) g T sp (upd H ph (.lst (vs.set j x))) := by
  obtain ⟨s, w, t⟩ := F.upd_ (o := .lst (vs.set j x)) (by simp) e
  have d := List.nodup_cons.mp F.dis
  have ne : ∀ q ∈ pw :: pp :: ps :: rs, q ≠ ph := fun q hq z => d.1 (z ▸ hq)
  refine ⟨s, w, F.new, F.dis, F.have_.set e hx, F.want.ts t (upd_ne (ne _ (by simp))), by rw [upd_ne (ne _ (by simp))]; exact F.tab, F.rlen, fun x r hr => (F.rows x r hr).ts t (upd_ne (ne _ ?_)), ?_⟩
  · have := List.mem_of_getElem? hr
    simp [this]
  · obtain ⟨sv, es, as⟩ := F.spots
    exact ⟨sv, by rw [upd_ne (ne _ (by simp))]; exact es, as.imp fun _ _ r => r.ts t⟩
theorem FillAt.setW (F : FillAt H0 a f m k ph pw pp ps rs h g T sp H) {vs : List V} {j : Nat} {x : V} {z : Rat} (e : H pw = some (.lst vs)) (hx : IsPr H x z) : FillAt H0 a f m k ph pw pp ps rs h (put g j z) T sp (upd H pw (.lst (vs.set j x))) := by
  obtain ⟨s, w, t⟩ := F.upd_ (o := .lst (vs.set j x)) (by simp) e
  have d0 := List.nodup_cons.mp F.dis
  have d := List.nodup_cons.mp d0.2
  have ne : ∀ q ∈ pp :: ps :: rs, q ≠ pw := fun q hq z => d.1 (z ▸ hq)
  have ne0 : ph ≠ pw := fun z => d0.1 (by simp [z])
  refine ⟨s, w, F.new, F.dis, F.have_.ts t (upd_ne ne0), F.want.set e hx, by rw [upd_ne (ne _ (by simp))]; exact F.tab, F.rlen, fun x r hr => (F.rows x r hr).ts t (upd_ne (ne _ ?_)), ?_⟩
  · have := List.mem_of_getElem? hr
    simp [this]
  · obtain ⟨sv, es, as⟩ := F.spots
    exact ⟨sv, by rw [upd_ne (ne _ (by simp))]; exact es, as.imp fun _ _ r => r.ts t⟩
theorem FillAt.setR (F : FillAt H0 a f m k ph pw pp ps rs h g T sp H) {r : Addr} {vs : List V} {x y : Nat} {v : V} {z : Rat} (hr : rs[x]? = some r) (e : H r = some (.lst vs)) (hx : IsPr H v z) : FillAt H0 a f m k ph pw pp ps rs h g (put2 T x y z) sp (upd H r (.lst (vs.set y v))) := by
  have hm := List.mem_of_getElem? hr
  obtain ⟨s, w, t⟩ := F.upd_ (o := .lst (vs.set y v)) (by simp [hm]) e
  have d := F.dis
  simp only [List.nodup_cons, List.mem_cons, not_or] at d
  have n1 : ph ≠ r := fun z => d.1.2.2.2 (z ▸ hm)
  have n2 : pw ≠ r := fun z => d.2.1.2.2 (z ▸ hm)
  have n3 : pp ≠ r := fun z => d.2.2.1.2 (z ▸ hm)
  have n4 : ps ≠ r := fun z => d.2.2.2.1 (z ▸ hm)
  refine ⟨s, w, F.new, F.dis, F.have_.ts t (upd_ne n1), F.want.ts t (upd_ne n2), by rw [upd_ne n3]; exact F.tab, F.rlen, fun x' r' hr' => ?_, ?_⟩
  · by_cases ex : x' = x
    · subst ex
      rw [hr] at hr'
      cases hr'
      have := (F.rows x' r hr).set (j := y) e hx
      simpa [put2] using this
    · have hne : r' ≠ r := fun z => by
        have nd := d.2.2.2.2
        exact ex (nodup_inj nd hr' (z ▸ hr))
      simp only [put2, if_neg ex]
      exact (F.rows x' r' hr').ts t (upd_ne hne)
  · obtain ⟨sv, es, as⟩ := F.spots
    exact ⟨sv, by rw [upd_ne n4]; exact es, as.imp fun _ _ r => r.ts t⟩
theorem AllAre.erase {α : Type} {R : V → α → Prop} {vs : List V} {xs : List α} (h : AllAre R vs xs) (n : Nat) : AllAre R (vs.eraseIdx n) (xs.eraseIdx n) := by
  rw [List.eraseIdx_eq_take_drop_succ, List.eraseIdx_eq_take_drop_succ]
  exact (h.take n).append (h.drop (n + 1))
theorem FillAt.pop (F : FillAt H0 a f m k ph pw pp ps rs h g T sp H) {sv : List V} {j : Nat} (e : H ps = some (.lst sv)) : FillAt H0 a f m k ph pw pp ps rs h g T (sp.eraseIdx j) (upd H ps (.lst (sv.eraseIdx j))) := by
  obtain ⟨s, w, t⟩ := F.upd_ (o := .lst (sv.eraseIdx j)) (by simp) e
  have d := F.dis
  simp only [List.nodup_cons, List.mem_cons, not_or] at d
  have n1 : ph ≠ ps := d.1.2.2.1
  have n2 : pw ≠ ps := d.2.1.2.1
  have n3 : pp ≠ ps := d.2.2.1.1
  refine ⟨s, w, F.new, F.dis, F.have_.ts t (upd_ne n1), F.want.ts t (upd_ne n2), by rw [upd_ne n3]; exact F.tab, F.rlen, fun x' r' hr' => (F.rows x' r' hr').ts t (upd_ne fun z => d.2.2.2.1 (z ▸ List.mem_of_getElem? hr')), ?_⟩
  obtain ⟨sv', es, as⟩ := F.spots
  rw [e] at es
  cases es
  exact ⟨_, upd_same, (as.erase j).imp fun _ _ r => r.ts t⟩
end
/-- the plan that is told -/
structure PlanOk (m k : Nat) (p q : Nat → Rat) (T : Nat → Nat → Rat) : Prop where
  row : ∀ x, x < m → rsumN k (T x) = p x
  col : ∀ y, y < k → rsumN m (fun x => T x y) = q y
  t0 : ∀ x y, x < m → y < k → 0 ≤ T x y ∧ Bd 21 (T x y)
  den : ∃ S : Nat, 0 < S ∧ S ≤ 1000000 ∧ ∀ x y, x < m → y < k → T x y ≤ 1 ∧ (T x y).den ∣ S
end Fb

/-! Part A13: comprehensions that make rows; lists and functions. -/
namespace Fb
open PySem PySem.Spec PyProof.Rows L2
theorem pi_listK {X : Cx} {K : PySem.W.Frag} {tg l : Expr} {tl : TE} (hK : X.K = K) (hl : PE X l tl) : PI X tg l (iList K tl) := hK ▸ pi_list hl
theorem VecAt.same {H H' : Hp} {p : Addr} {m : Nat} {h : Nat → Rat} (v : VecAt H p m h) (s : Same H H') : VecAt H' p m h := by
  obtain ⟨vs, ev, l, r⟩ := v
  exact ⟨vs, s _ _ ev, l, fun i v hv => (r i v hv).mono s⟩
theorem lc_rows {K : PySem.W.Frag} {a : Addr} {xs : List V} {g : TG} {te : TE} {vs : List Nat} {σ : L2.St} {H1 : Hp} {D : Addr} {Qd : Hp → Prop} (k : Nat) (f : Nat → Rat)
    (hD : H1 D = none) (hS : SqL K H1 a xs) (hz : xs.length ≤ 1000)
    (hs : ∀ (i : Nat) x H (kk : V → Hp → Prop), xs[i]? = some x → Same H1 H → (∀ r H4, H r = none → Same H H4 → VecAt H4 r k f → kk (.ref r) H4) → g x (wipe σ vs) H fun σ2 H2 => wipe σ2 vs = wipe σ vs ∧ te σ2 H2 kk)
    (hd : ∀ H rs, Same H1 (hid D H) → H D = some (.lst (rs.map V.ref)) → rs.length = xs.length → (D :: rs).Nodup → (∀ r ∈ rs, H1 r = none ∧ VecAt H r k f) → Qd H) :
    ∃ W : Nat → Nat → Hp → Prop, (∃ m, W 0 m (upd H1 D (.lst []))) ∧ ∀ i m H, W i m H →
      ((Itl K a).stop i H ∧ Qd H) ∨ ((Itl K a).go i H ∧ ∃ Nx : Hp → Prop, (∀ H', Nx H' → ∃ m', m' < m ∧ W (i + 1) m' H') ∧ ∀ x H', (Itl K a).yld i H x H' → g x (wipe σ vs) H' fun σ2 H2 => wipe σ2 vs = wipe σ vs ∧ tYes σ2 H2 fun b H3 =>
        if b = true then te σ2 H3 fun y H4 => ∃ acc, H4 D = some (.lst acc) ∧ acc.length < sizeLine ∧ Nx (upd H4 D (.lst (acc ++ [y]))) else Nx H3) := by
  refine lc_list (xs := xs) (fun i H => ∃ rs : List Addr, Same H1 (hid D H) ∧ H D = some (.lst (rs.map V.ref)) ∧ rs.length = i ∧ (D :: rs).Nodup ∧ ∀ r ∈ rs, H1 r = none ∧ VecAt H r k f) ⟨[], ?_, upd_same, rfl, by simp, fun r h => by simp at h⟩ (fun i H _ h => ?_) (fun i x H hx h => ?_) (fun H h => ?_)
  · intro b o e
    rw [hid_ne (ne_of_none e hD), upd_ne (ne_of_none e hD)]
    exact e
  · obtain ⟨rs, s, _⟩ := h
    exact (s.trans hid_same).seq hS
  · obtain ⟨rs, s, e, l, nd, r⟩ := h
    have hi : i < xs.length := (List.getElem?_eq_some_iff.mp hx).1
    refine hs i x H (fun y H4 => ∃ acc, H4 D = some (.lst acc) ∧ acc.length < sizeLine ∧ ∃ rs : List Addr, Same H1 (hid D (upd H4 D (.lst (acc ++ [y])))) ∧ (upd H4 D (.lst (acc ++ [y]))) D = some (.lst (rs.map V.ref)) ∧ rs.length = i + 1 ∧ (D :: rs).Nodup ∧ ∀ r ∈ rs, H1 r = none ∧ VecAt (upd H4 D (.lst (acc ++ [y]))) r k f) hx (s.trans hid_same) fun q H4 nq s4 vq => ?_
    have e4 := s4 _ _ e
    have qD : q ≠ D := fun z => by rw [z, e] at nq; cases nq
    have up : ∀ r', r' ≠ D → VecAt H4 r' k f → VecAt (upd H4 D (.lst (rs.map V.ref ++ [.ref q]))) r' k f := fun r' hr v => v.ts (TS.lst e4) (upd_ne hr)
    refine ⟨_, e4, small1000 (by rw [List.length_map]; omega), rs ++ [q], ?_, by rw [upd_same]; simp, by simp [l], ?_, fun r' hr' => ?_⟩
    · rw [hid_upd]
      exact s.trans (hid_mono s4)
    · have n1 := List.nodup_cons.mp nd
      refine List.nodup_cons.mpr ⟨?_, ?_⟩
      · simp only [List.mem_append, List.mem_singleton, not_or]
        exact ⟨n1.1, fun z => qD z.symm⟩
      · refine List.nodup_append.mpr ⟨n1.2, by simp, fun x hx y hy => ?_⟩
        have : y = q := by simpa using hy
        subst this
        intro z
        obtain ⟨vs', ev, _⟩ := (r x hx).2
        rw [z, nq] at ev
        cases ev
    · rcases List.mem_append.mp hr' with h | h
      · have n1 := List.nodup_cons.mp nd
        exact ⟨(r r' h).1, up r' (fun z => n1.1 (z ▸ h)) ((r r' h).2.same s4)⟩
      · have : r' = q := by simpa using h
        subst this
        refine ⟨?_, up _ qD vq⟩
        cases e' : H1 r' with
        | none => rfl
        | some o =>
          have := hid_same _ _ (s _ _ e')
          rw [nq] at this
          cases this
  · obtain ⟨rs, s, e, l, nd, r⟩ := h
    exact hd H rs s e l nd r
/-- [e for x in range(..)] that only makes -/
theorem lc_allR {lo : Int} {n : Nat} {g : TG} {te : TE} {vs : List Nat} {σ : L2.St} {H1 : Hp} {D : Addr} {Qd : Hp → Prop} (R : Nat → V → Hp → Prop) (mono : ∀ i v H H', Same H H' → R i v H → R i v H')
    (hD : H1 D = none) (hz : n ≤ 1000)
    (hs : ∀ i H (k : V → Hp → Prop), i < n → Same H1 (hid D H) → (∃ ys, H D = some (.lst ys)) → (∀ y H4, Same H H4 → R i y (hid D H4) → k y H4) → g (.int (lo + i)) (wipe σ vs) H fun σ2 H2 => wipe σ2 vs = wipe σ vs ∧ te σ2 H2 k)
    (hd : ∀ H ys, Same H1 (hid D H) → H D = some (.lst ys) → ys.length = n → (∀ i y, ys[i]? = some y → R i y (hid D H)) → Qd H) :
    ∃ W : Nat → Nat → Hp → Prop, (∃ m, W 0 m (upd H1 D (.lst []))) ∧ ∀ i m H, W i m H →
      ((Itr lo n).stop i H ∧ Qd H) ∨ ((Itr lo n).go i H ∧ ∃ Nx : Hp → Prop, (∀ H', Nx H' → ∃ m', m' < m ∧ W (i + 1) m' H') ∧ ∀ x H', (Itr lo n).yld i H x H' → g x (wipe σ vs) H' fun σ2 H2 => wipe σ2 vs = wipe σ vs ∧ tYes σ2 H2 fun b H3 =>
        if b = true then te σ2 H3 fun y H4 => ∃ acc, H4 D = some (.lst acc) ∧ acc.length < sizeLine ∧ Nx (upd H4 D (.lst (acc ++ [y]))) else Nx H3) := by
  refine lc_range (fun i H => ∃ ys, Same H1 (hid D H) ∧ H D = some (.lst ys) ∧ ys.length = i ∧ ∀ j y, ys[j]? = some y → R j y (hid D H)) ⟨[], ?_, upd_same, rfl, fun j y h => by simp at h⟩ (fun i H hi h => ?_) (fun H h => ?_)
  · intro b o e
    rw [hid_ne (ne_of_none e hD), upd_ne (ne_of_none e hD)]
    exact e
  · obtain ⟨ys, s, e, l, r⟩ := h
    refine hs i H (fun y H4 => ∃ acc, H4 D = some (.lst acc) ∧ acc.length < sizeLine ∧ ∃ ys, Same H1 (hid D (upd H4 D (.lst (acc ++ [y])))) ∧ (upd H4 D (.lst (acc ++ [y]))) D = some (.lst ys) ∧ ys.length = i + 1 ∧ ∀ j y', ys[j]? = some y' → R j y' (hid D (upd H4 D (.lst (acc ++ [y]))))) hi s ⟨_, e⟩ fun y H4 s4 ry => ?_
    refine ⟨ys, s4 _ _ e, small1000 (by omega), ys ++ [y], ?_, upd_same, by simp [l], fun j y' h => ?_⟩
    · rw [hid_upd]
      exact s.trans (hid_mono s4)
    · rw [hid_upd]
      by_cases hj : j < ys.length
      · rw [List.getElem?_append_left hj] at h
        exact mono _ _ _ _ (hid_mono s4) (r j y' h)
      · rw [List.getElem?_append_right (by omega)] at h
        have hj2 : j - ys.length = 0 := by
          have := (List.getElem?_eq_some_iff.mp h).1
          simp at this
          omega
        rw [hj2] at h
        simp at h
        subst h
        have : j = i := by omega
        rw [this]
        exact ry
  · obtain ⟨ys, s, e, l, r⟩ := h
    exact hd H ys s e l r
/-! ### lists and functions -/
def at0 (l : List Rat) (i : Nat) : Rat := l.getD i 0
theorem at0_of {l : List Rat} {i : Nat} {z : Rat} (h : l[i]? = some z) : at0 l i = z := by
  unfold at0
  rw [List.getD_eq_getElem?_getD, h]
  rfl
theorem at0_mem {l : List Rat} {i : Nat} (h : i < l.length) : at0 l i ∈ l := by
  rw [at0_of (List.getElem?_eq_getElem h)]
  exact List.getElem_mem h
theorem rsumN_at0 (l : List Rat) : rsumN l.length (at0 l) = rsum l := by
  unfold rsumN
  congr 1
  refine List.ext_getElem (by simp) fun i h1 h2 => ?_
  simp only [List.getElem_map, List.getElem_range]
  exact at0_of (List.getElem?_eq_getElem h2)
theorem IsPrs.vec {H : Hp} {p : Addr} {qs : List Rat} (h : IsPrs H (.ref p) qs) : VecAt H p qs.length (at0 qs) := by
  obtain ⟨p', vs, e, h, a⟩ := h
  cases e
  refine ⟨vs, h, a.1, fun i v hv => ?_⟩
  obtain ⟨z, hz, r⟩ := a.at hv
  rw [at0_of hz]
  exact r
theorem VecAt.prs {H : Hp} {p : Addr} {m : Nat} {f : Nat → Rat} (v : VecAt H p m f) : IsPrs H (.ref p) ((List.range m).map f) := by
  obtain ⟨vs, e, l, r⟩ := v
  refine ⟨p, vs, rfl, e, .of_ix (by simp [l]) fun i y hy => ⟨f i, ?_, r i y hy⟩⟩
  have hi := (List.getElem?_eq_some_iff.mp hy).1
  rw [List.getElem?_map, List.getElem?_range (by omega)]
  rfl
/-- the spots of filling, row by row -/
def spotsTo (k : Nat) : Nat → List (Nat × Nat)
  | 0 => []
  | x + 1 => spotsTo k x ++ (List.range k).map fun y => (x, y)
theorem spotsTo_len (k : Nat) : ∀ m, (spotsTo k m).length = m * k
  | 0 => by simp [spotsTo]
  | m + 1 => by
    rw [spotsTo, List.length_append, spotsTo_len k m, List.length_map, List.length_range, Nat.succ_mul]
theorem spotsTo_mem {k x y : Nat} : ∀ {m : Nat}, (x, y) ∈ spotsTo k m ↔ x < m ∧ y < k
  | 0 => by simp [spotsTo]
  | m + 1 => by
    rw [spotsTo, List.mem_append, spotsTo_mem, List.mem_map]
    simp only [List.mem_range, Prod.mk.injEq]
    constructor
    · rintro (h | ⟨y', h1, h2, h3⟩)
      · omega
      · omega
    · intro h
      by_cases e : x < m
      · exact .inl ⟨e, h.2⟩
      · exact .inr ⟨y, h.2, by omega, rfl⟩
theorem spotsTo_nodup (k : Nat) : ∀ m, (spotsTo k m).Nodup
  | 0 => by simp [spotsTo]
  | m + 1 => by
    rw [spotsTo]
    refine List.nodup_append.mpr ⟨spotsTo_nodup k m, ?_, fun a ha b hb => ?_⟩
    · refine List.pairwise_map.mpr (List.Pairwise.imp (fun h z => h ?_) List.nodup_range)
      simpa using z
    · obtain ⟨x, y⟩ := a
      have h1 := spotsTo_mem.mp ha
      obtain ⟨y', _, rfl⟩ := List.mem_map.mp hb
      intro z
      cases z
      omega
theorem heap_le1 {l : List Rat} (h : HeapOk l) {q : Rat} (hq : q ∈ l) : q ≤ 1 := by
  obtain ⟨i, hi, e⟩ := List.mem_iff_getElem.mp hq
  have := rsumN_ge (n := l.length) (f := at0 l) (fun j hj => h.nn _ (at0_mem hj)) hi
  rw [rsumN_at0, h.one, at0_of (List.getElem?_eq_getElem hi), e] at this
  exact this
theorem FillM.start {pl ql : List Rat} (hp : HeapOk pl) (hq : HeapOk ql) : ∃ S : Nat, 0 < S ∧ S ≤ 1000000 ∧ FillM pl.length ql.length (at0 pl) (at0 ql) S (at0 pl) (at0 ql) (fun _ _ => 0) (spotsTo ql.length pl.length) := by
  obtain ⟨S1, a1, a2, a3⟩ := hp.den
  obtain ⟨S2, b1, b2, b3⟩ := hq.den
  refine ⟨S1 * S2, Nat.mul_pos a1 b1, Nat.mul_le_mul a2 b2, fun x _ => ?_, fun y _ => ?_, fun x hx => ?_, fun y hy => ?_, fun _ _ _ _ => ?_, fun x y hx hy hn => absurd (spotsTo_mem.mpr ⟨hx, hy⟩) hn, fun _ _ => rfl, fun xy h => spotsTo_mem.mp h, spotsTo_nodup _ _⟩
  · rw [rsumN_zero fun _ _ => rfl, Rat.add_zero]
  · rw [rsumN_zero fun _ _ => rfl, Rat.add_zero]
  · have := at0_mem hx
    exact ⟨hp.nn _ this, heap_le1 hp this, Nat.dvd_trans (a3 _ this) (Nat.dvd_mul_right _ _)⟩
  · have := at0_mem hy
    exact ⟨hq.nn _ this, heap_le1 hq this, Nat.dvd_trans (b3 _ this) (Nat.dvd_mul_left _ _)⟩
  · exact ⟨Rat.le_refl, by decide, Nat.one_dvd _⟩
theorem FillAt.ext {H0 : Hp} {a : Addr} {f m k : Nat} {ph pw pp ps : Addr} {rs : List Addr} {h g : Nat → Rat} {T : Nat → Nat → Rat} {sp more : List (Nat × Nat)} {H : Hp} (F : FillAt H0 a f m k ph pw pp ps rs h g T sp H) {sv ys : List V} (e : H ps = some (.lst sv)) (hy : AllAre (fun v (xy : Nat × Nat) => IsTup2 H v (xy.1 : Int) (xy.2 : Int)) ys more) :
    FillAt H0 a f m k ph pw pp ps rs h g T (sp ++ more) (upd H ps (.lst (sv ++ ys))) := by
  obtain ⟨s, w, t⟩ := F.upd_ (o := .lst (sv ++ ys)) (by simp) e
  have d := F.dis
  simp only [List.nodup_cons, List.mem_cons, not_or] at d
  have n1 : ph ≠ ps := d.1.2.2.1
  have n2 : pw ≠ ps := d.2.1.2.1
  have n3 : pp ≠ ps := d.2.2.1.1
  refine ⟨s, w, F.new, F.dis, F.have_.ts t (upd_ne n1), F.want.ts t (upd_ne n2), by rw [upd_ne n3]; exact F.tab, F.rlen, fun x' r' hr' => (F.rows x' r' hr').ts t (upd_ne fun z => d.2.2.2.1 (z ▸ List.mem_of_getElem? hr')), ?_⟩
  obtain ⟨sv', es, as⟩ := F.spots
  rw [e] at es
  cases es
  exact ⟨_, upd_same, (as.append hy).imp fun _ _ r => r.ts t⟩
end Fb

/-! Part A14: filters of lists, suites with one end. -/
namespace Fb
open PySem PySem.Spec PyProof.Rows L2
theorem seq_fin {t u : L2.TS} {D : Ends} {σ : L2.St} {H : Hp} (M : L2.St → Hp → Prop) (h2 : ∀ σ H, M σ H → u D σ H) (h1 : (∀ σ H, M σ H → u D σ H) → t { D with nx := u D } σ H) : tSeq t u D σ H := h1 h2
/-- [e for x in xs if ..]: whether something is left -/
theorem lc_some {K : PySem.W.Frag} {a : Addr} {xs : List V} {g : TG} {tt : TT} {te : TE} {vs : List Nat} {σ : L2.St} {H1 : Hp} {D : Addr} {Qd : Hp → Prop} (t : Nat → Bool)
    (hD : H1 D = none) (hS : SqL K H1 a xs) (hz : xs.length ≤ 1000)
    (hs : ∀ (i : Nat) x H (kt : V → Hp → Prop) (kf : Hp → Prop), xs[i]? = some x → Same H1 H → (t i = true → ∀ y H4, Same H H4 → kt y H4) → (t i = false → ∀ H4, Same H H4 → kf H4) →
      g x (wipe σ vs) H fun σ2 H2 => wipe σ2 vs = wipe σ vs ∧ tt σ2 H2 fun b H3 => if b = true then te σ2 H3 kt else kf H3)
    (hd : ∀ H ys, Same H1 (hid D H) → H D = some (.lst ys) → ys.isEmpty = (List.range xs.length).all (fun i => !t i) → Qd H) :
    ∃ W : Nat → Nat → Hp → Prop, (∃ m, W 0 m (upd H1 D (.lst []))) ∧ ∀ i m H, W i m H →
      ((Itl K a).stop i H ∧ Qd H) ∨ ((Itl K a).go i H ∧ ∃ Nx : Hp → Prop, (∀ H', Nx H' → ∃ m', m' < m ∧ W (i + 1) m' H') ∧ ∀ x H', (Itl K a).yld i H x H' → g x (wipe σ vs) H' fun σ2 H2 => wipe σ2 vs = wipe σ vs ∧ tt σ2 H2 fun b H3 =>
        if b = true then te σ2 H3 fun y H4 => ∃ acc, H4 D = some (.lst acc) ∧ acc.length < sizeLine ∧ Nx (upd H4 D (.lst (acc ++ [y]))) else Nx H3) := by
  have ra : ∀ i, (List.range (i + 1)).all (fun i => !t i) = ((List.range i).all (fun i => !t i) && !t i) := fun i => by
    rw [List.range_succ, List.all_append]
    simp
  refine lc_list (xs := xs) (fun i H => ∃ ys, Same H1 (hid D H) ∧ H D = some (.lst ys) ∧ ys.length ≤ i ∧ ys.isEmpty = (List.range i).all (fun i => !t i)) ⟨[], ?_, upd_same, Nat.zero_le _, rfl⟩ (fun i H _ h => ?_) (fun i x H hx h => ?_) (fun H h => ?_)
  · intro b o e
    rw [hid_ne (ne_of_none e hD), upd_ne (ne_of_none e hD)]
    exact e
  · obtain ⟨ys, s, _⟩ := h
    exact (s.trans hid_same).seq hS
  · obtain ⟨ys, s, e, l, r⟩ := h
    have hi : i < xs.length := (List.getElem?_eq_some_iff.mp hx).1
    refine hs i x H (fun y H4 => ∃ acc, H4 D = some (.lst acc) ∧ acc.length < sizeLine ∧ ∃ ys, Same H1 (hid D (upd H4 D (.lst (acc ++ [y])))) ∧ (upd H4 D (.lst (acc ++ [y]))) D = some (.lst ys) ∧ ys.length ≤ i + 1 ∧ ys.isEmpty = (List.range (i + 1)).all (fun i => !t i)) _ hx (s.trans hid_same) (fun ht y H4 s4 => ?_) (fun ht H4 s4 => ?_)
    · refine ⟨ys, s4 _ _ e, small1000 (by omega), ys ++ [y], ?_, upd_same, by simp; omega, ?_⟩
      · rw [hid_upd]
        exact s.trans (hid_mono s4)
      · rw [ra, ht]
        simp
    · refine ⟨ys, s.trans (hid_mono s4), s4 _ _ e, by omega, ?_⟩
      rw [ra, ht, r]
      simp
  · obtain ⟨ys, s, e, l, r⟩ := h
    exact hd H ys s e r
end Fb

/-! Part A15: comprehensions over any walk, of one and of two clauses; sums of products. -/
namespace Fb
open PySem PySem.Spec PyProof.Rows L2
section
variable {X : Cx} {K : PySem.W.Frag}
theorem pi_enumK {e : Expr} {ta : TA} {p pos tpos : Pos} {elts : List Expr} {kk : Nat} (hK : X.K = K) (hg : Gl X "enumerate") (hm : X.mg "enumerate" = none) (ha : PA X [e] ta) (hs : starEach [e] X.env = [(false, eval e X.env)] := by rfl) :
    PI X (.Tuple elts kk tpos) (.Call (.Name "enumerate" p) [e] [] pos) (iEnum K ta) := hK ▸ pi_enum hg hm ha hs
theorem pi_zipK {e e2 : Expr} {ta : TA} {p pos tpos : Pos} {elts : List Expr} {kk : Nat} (hK : X.K = K) (hg : Gl X "zip") (hm : X.mg "zip" = none) (ha : PA X [e, e2] ta)
    (hs : starEach [e, e2] X.env = (false, eval e X.env) :: starEach [e2] X.env := by rfl) (hpl : (backTo pos (starEach [e2] X.env)).any (·.1) = false := by rfl) :
    PI X (.Tuple elts kk tpos) (.Call (.Name "zip" p) [e, e2] [] pos) (iZip K ta) := hK ▸ pi_zip hg hm ha hs hpl
theorem pi_tupK {tg l : Expr} {tl : TE} (hK : X.K = K) (hl : PE X l tl) : PI X tg l (iTup K tl) := hK ▸ pi_tup hl
end
section
variable {J : It} {n : Nat} {G : Hp → Prop} {Y : Nat → Hp → V → Hp → Prop}
/-- [e for .. in ..] that only makes, over any walk -/
theorem lc_allW (w : Walk J n G Y) {g : TG} {te : TE} {vs : List Nat} {σ : L2.St} {H1 : Hp} {D : Addr} {Qd : Hp → Prop} (R : Nat → V → Hp → Prop) (mono : ∀ i v H H', Same H H' → R i v H → R i v H')
    (hD : H1 D = none) (hS : ∀ H, Same H1 H → G H) (hz : n ≤ 1000)
    (hs : ∀ i x H H' (k : V → Hp → Prop), i < n → Same H1 (hid D H) → (∃ ys, H D = some (.lst ys)) → Y i H x H' → (∀ y H4, Same H H4 → R i y (hid D H4) → k y H4) → g x (wipe σ vs) H' fun σ2 H2 => wipe σ2 vs = wipe σ vs ∧ te σ2 H2 k)
    (hd : ∀ H ys, Same H1 (hid D H) → H D = some (.lst ys) → ys.length = n → (∀ i y, ys[i]? = some y → R i y (hid D H)) → Qd H) :
    ∃ W : Nat → Nat → Hp → Prop, (∃ m, W 0 m (upd H1 D (.lst []))) ∧ ∀ i m H, W i m H →
      (J.stop i H ∧ Qd H) ∨ (J.go i H ∧ ∃ Nx : Hp → Prop, (∀ H', Nx H' → ∃ m', m' < m ∧ W (i + 1) m' H') ∧ ∀ x H', J.yld i H x H' → g x (wipe σ vs) H' fun σ2 H2 => wipe σ2 vs = wipe σ vs ∧ tYes σ2 H2 fun b H3 =>
        if b = true then te σ2 H3 fun y H4 => ∃ acc, H4 D = some (.lst acc) ∧ acc.length < sizeLine ∧ Nx (upd H4 D (.lst (acc ++ [y]))) else Nx H3) := by
  refine lc_it w (fun i H => ∃ ys, Same H1 (hid D H) ∧ H D = some (.lst ys) ∧ ys.length = i ∧ ∀ j y, ys[j]? = some y → R j y (hid D H)) ⟨[], ?_, upd_same, rfl, fun j y h => by simp at h⟩ (fun i H _ h => ?_) (fun i x H H' hi h y => ?_) (fun H h => ?_)
  · intro b o e
    rw [hid_ne (ne_of_none e hD), upd_ne (ne_of_none e hD)]
    exact e
  · obtain ⟨ys, s, _⟩ := h
    exact hS H (s.trans hid_same)
  · obtain ⟨ys, s, e, l, r⟩ := h
    refine hs i x H H' (fun y H4 => ∃ acc, H4 D = some (.lst acc) ∧ acc.length < sizeLine ∧ ∃ ys, Same H1 (hid D (upd H4 D (.lst (acc ++ [y])))) ∧ (upd H4 D (.lst (acc ++ [y]))) D = some (.lst ys) ∧ ys.length = i + 1 ∧ ∀ j y', ys[j]? = some y' → R j y' (hid D (upd H4 D (.lst (acc ++ [y]))))) hi s ⟨_, e⟩ y fun y H4 s4 ry => ?_
    refine ⟨ys, s4 _ _ e, small1000 (by omega), ys ++ [y], ?_, upd_same, by simp [l], fun j y' h => ?_⟩
    · rw [hid_upd]
      exact s.trans (hid_mono s4)
    · rw [hid_upd]
      by_cases hj : j < ys.length
      · rw [List.getElem?_append_left hj] at h
        exact mono _ _ _ _ (hid_mono s4) (r j y' h)
      · rw [List.getElem?_append_right (by omega)] at h
        have hj2 : j - ys.length = 0 := by
          have := (List.getElem?_eq_some_iff.mp h).1
          simp at this
          omega
        rw [hj2] at h
        simp at h
        subst h
        have : j = i := by omega
        rw [this]
        exact ry
  · obtain ⟨ys, s, e, l, r⟩ := h
    exact hd H ys s e l r
/-- [e for .. in .. if ..] over any walk: whether something is left -/
theorem lc_someW (w : Walk J n G Y) {g : TG} {tt : TT} {te : TE} {vs : List Nat} {σ : L2.St} {H1 : Hp} {D : Addr} {Qd : Hp → Prop} (t : Nat → Bool)
    (hD : H1 D = none) (hS : ∀ H, Same H1 H → G H) (hz : n ≤ 1000)
    (hs : ∀ (i : Nat) x H H' (kt : V → Hp → Prop) (kf : Hp → Prop), i < n → Same H1 H → Y i H x H' → (t i = true → ∀ y H4, Same H H4 → kt y H4) → (t i = false → ∀ H4, Same H H4 → kf H4) →
      g x (wipe σ vs) H' fun σ2 H2 => wipe σ2 vs = wipe σ vs ∧ tt σ2 H2 fun b H3 => if b = true then te σ2 H3 kt else kf H3)
    (hd : ∀ H ys, Same H1 (hid D H) → H D = some (.lst ys) → ys.isEmpty = (List.range n).all (fun i => !t i) → Qd H) :
    ∃ W : Nat → Nat → Hp → Prop, (∃ m, W 0 m (upd H1 D (.lst []))) ∧ ∀ i m H, W i m H →
      (J.stop i H ∧ Qd H) ∨ (J.go i H ∧ ∃ Nx : Hp → Prop, (∀ H', Nx H' → ∃ m', m' < m ∧ W (i + 1) m' H') ∧ ∀ x H', J.yld i H x H' → g x (wipe σ vs) H' fun σ2 H2 => wipe σ2 vs = wipe σ vs ∧ tt σ2 H2 fun b H3 =>
        if b = true then te σ2 H3 fun y H4 => ∃ acc, H4 D = some (.lst acc) ∧ acc.length < sizeLine ∧ Nx (upd H4 D (.lst (acc ++ [y]))) else Nx H3) := by
  have ra : ∀ i, (List.range (i + 1)).all (fun i => !t i) = ((List.range i).all (fun i => !t i) && !t i) := fun i => by
    rw [List.range_succ, List.all_append]
    simp
  refine lc_it w (fun i H => ∃ ys, Same H1 (hid D H) ∧ H D = some (.lst ys) ∧ ys.length ≤ i ∧ ys.isEmpty = (List.range i).all (fun i => !t i)) ⟨[], ?_, upd_same, Nat.zero_le _, rfl⟩ (fun i H _ h => ?_) (fun i x H H' hi h y => ?_) (fun H h => ?_)
  · intro b o e
    rw [hid_ne (ne_of_none e hD), upd_ne (ne_of_none e hD)]
    exact e
  · obtain ⟨ys, s, _⟩ := h
    exact hS H (s.trans hid_same)
  · obtain ⟨ys, s, e, l, r⟩ := h
    refine hs i x H H' (fun y H4 => ∃ acc, H4 D = some (.lst acc) ∧ acc.length < sizeLine ∧ ∃ ys, Same H1 (hid D (upd H4 D (.lst (acc ++ [y])))) ∧ (upd H4 D (.lst (acc ++ [y]))) D = some (.lst ys) ∧ ys.length ≤ i + 1 ∧ ys.isEmpty = (List.range (i + 1)).all (fun i => !t i)) _ hi (s.trans hid_same) y (fun ht y H4 s4 => ?_) (fun ht H4 s4 => ?_)
    · refine ⟨ys, s4 _ _ e, small1000 (by omega), ys ++ [y], ?_, upd_same, by simp; omega, ?_⟩
      · rw [hid_upd]
        exact s.trans (hid_mono s4)
      · rw [ra, ht]
        simp
    · refine ⟨ys, s.trans (hid_mono s4), s4 _ _ e, by omega, ?_⟩
      rw [ra, ht, r]
      simp
  · obtain ⟨ys, s, e, l, r⟩ := h
    exact hd H ys s e r
/-- the second clause's own loop -/
theorem lc_inner (w : Walk J n G Y) {g1 : TG} {tt1 : TT} {te : TE} {vs1 : List Nat} {σ2 : L2.St} {H4 : Hp} {D : Addr} {Nx : Hp → Prop} (Pv : Nat → Hp → Prop) (h0 : Pv 0 H4) (hG : ∀ j H, j ≤ n → Pv j H → G H)
    (hs : ∀ j x H H', j < n → Pv j H → Y j H x H' → g1 x (wipe σ2 vs1) H' fun σ3 H5 => wipe σ3 vs1 = wipe σ2 vs1 ∧ tt1 σ3 H5 fun b H6 =>
      if b = true then te σ3 H6 fun y H7 => ∃ acc, H7 D = some (.lst acc) ∧ acc.length < sizeLine ∧ Pv (j + 1) (upd H7 D (.lst (acc ++ [y]))) else Pv (j + 1) H6) (hd : ∀ H, Pv n H → Nx H) :
    ∃ W1 : Nat → Nat → Hp → Prop, (∃ m, W1 0 m H4) ∧ ∀ j k H, W1 j k H →
      (J.stop j H ∧ Nx H) ∨ (J.go j H ∧ ∃ Nx1 : Hp → Prop, (∀ H', Nx1 H' → ∃ k', k' < k ∧ W1 (j + 1) k' H') ∧ ∀ x H', J.yld j H x H' → g1 x (wipe σ2 vs1) H' fun σ3 H5 => wipe σ3 vs1 = wipe σ2 vs1 ∧ tt1 σ3 H5 fun b H6 =>
        if b = true then te σ3 H6 fun y H7 => ∃ acc, H7 D = some (.lst acc) ∧ acc.length < sizeLine ∧ Nx1 (upd H7 D (.lst (acc ++ [y]))) else Nx1 H6) := by
  refine ⟨fun i m H => m = n - i ∧ i ≤ n ∧ Pv i H, ⟨n, by simp, Nat.zero_le _, h0⟩, ?_⟩
  rintro i m H ⟨rfl, hi, p⟩
  have q := hG i H hi p
  by_cases hlt : i < n
  · exact .inr ⟨w.goes i H hlt q, Pv (i + 1), fun H' p' => ⟨n - (i + 1), by omega, rfl, hlt, p'⟩, fun x H' y => hs i x H H' hlt p (w.yields i H x H' hlt q y)⟩
  · have e : i = n := by omega
    subst e
    exact .inl ⟨w.stops H q, hd H p⟩
/-- the items of one turn of the first clause -/
def Block (R : Nat → V → Hp → Prop) (m : Nat) (b : List V) (H : Hp) : Prop := b.length = m ∧ ∀ (j : Nat) y, b[j]? = some y → R j y H
theorem Block.mono {R : Nat → V → Hp → Prop} {m : Nat} {b : List V} {H H' : Hp} (mono : ∀ j v H H', Same H H' → R j v H → R j v H') (s : Same H H') (h : Block R m b H) : Block R m b H' := ⟨h.1, fun j y hy => mono j y H H' s (h.2 j y hy)⟩
/-- what the second clause's source is, seen from the i-th turn of the first -/
def InC (m : Nat) (R : Nat → V → Hp → Prop) (g1 : TG) (te : TE) (vs1 : List Nat) (D : Addr) (H : Hp) (σ2 : L2.St) (J1 : It) (H4 : Hp) : Prop :=
  Same H H4 ∧ ∃ (G1 : Hp → Prop) (Y1 : Nat → Hp → V → Hp → Prop), Walk J1 m G1 Y1 ∧ (∀ H5, Same (hid D H4) (hid D H5) → (∃ ys, H5 D = some (.lst ys)) → G1 H5) ∧
    ∀ j x1 H5 H6 (k : V → Hp → Prop), j < m → Same (hid D H4) (hid D H5) → (∃ ys, H5 D = some (.lst ys)) → Y1 j H5 x1 H6 → (∀ y H7, Same H5 H7 → R j y (hid D H7) → k y H7) →
      g1 x1 (wipe σ2 vs1) H6 fun σ3 H8 => wipe σ3 vs1 = wipe σ2 vs1 ∧ te σ3 H8 k
theorem lc2_all (w : Walk J n G Y) {g g1 : TG} {wi1 : TI} {te : TE} {vs vs1 : List Nat} {σ : L2.St} {H1 : Hp} {D : Addr} {Qd : Hp → Prop} (m : Nat → Nat) (R : Nat → Nat → V → Hp → Prop) (mono : ∀ i j v H H', Same H H' → R i j v H → R i j v H')
    (M : Nat) (hm : ∀ i, i < n → m i ≤ M) (hnM : n * M ≤ 999) (hD : H1 D = none) (hS : ∀ H, Same H1 H → G H)
    (hs : ∀ i x H H' (kk : L2.St → It → Hp → Prop), i < n → Same H1 (hid D H) → (∃ ys, H D = some (.lst ys)) → Y i H x H' → (∀ σ2 J1 H4, InC (m i) (R i) g1 te vs1 D H σ2 J1 H4 → kk σ2 J1 H4) →
      g x (wipe σ vs) H' fun σ2 H2 => wipe σ2 vs = wipe σ vs ∧ wi1 σ2 H2 (kk σ2))
    (hd : ∀ H (bs : List (List V)), Same H1 (hid D H) → H D = some (.lst bs.flatten) → bs.length = n → (∀ (i : Nat) b, bs[i]? = some b → Block (R i) (m i) b (hid D H)) → Qd H) :
    ∃ W : Nat → Nat → Hp → Prop, (∃ m, W 0 m (upd H1 D (.lst []))) ∧ ∀ i m H, W i m H →
      (J.stop i H ∧ Qd H) ∨ (J.go i H ∧ ∃ Nx : Hp → Prop, (∀ H', Nx H' → ∃ m', m' < m ∧ W (i + 1) m' H') ∧ ∀ x H', J.yld i H x H' → g x (wipe σ vs) H' fun σ2 H2 => wipe σ2 vs = wipe σ vs ∧ tYes σ2 H2 fun b H3 =>
        if b = true then wi1 σ2 H3 fun J1 H4 => ∃ W1 : Nat → Nat → Hp → Prop, (∃ m, W1 0 m H4) ∧ ∀ j k H, W1 j k H →
          (J1.stop j H ∧ Nx H) ∨ (J1.go j H ∧ ∃ Nx1 : Hp → Prop, (∀ H', Nx1 H' → ∃ k', k' < k ∧ W1 (j + 1) k' H') ∧ ∀ x H', J1.yld j H x H' → g1 x (wipe σ2 vs1) H' fun σ3 H5 => wipe σ3 vs1 = wipe σ2 vs1 ∧ tYes σ3 H5 fun b H6 =>
            if b = true then te σ3 H6 fun y H7 => ∃ acc, H7 D = some (.lst acc) ∧ acc.length < sizeLine ∧ Nx1 (upd H7 D (.lst (acc ++ [y]))) else Nx1 H6)
        else Nx H3) := by
  have fl : ∀ (bs : List (List V)), (∀ (i : Nat) b, bs[i]? = some b → b.length ≤ M) → bs.flatten.length ≤ bs.length * M := fun bs => by
    induction bs with
    | nil => intro _; simp
    | cons b r ih =>
      intro h
      have h1 := h 0 b rfl
      have h2 := ih fun i b hb => h (i + 1) b hb
      rw [List.flatten_cons, List.length_append, List.length_cons, Nat.succ_mul]
      omega
  let Pv : Nat → Hp → Prop := fun i H => ∃ bs : List (List V), Same H1 (hid D H) ∧ H D = some (.lst bs.flatten) ∧ bs.length = i ∧ ∀ (i : Nat) b, bs[i]? = some b → Block (R i) (m i) b (hid D H)
  refine ⟨fun i m H => m = n - i ∧ i ≤ n ∧ Pv i H, ⟨n, by simp, Nat.zero_le _, [], ?_, upd_same, rfl, fun i b h => by simp at h⟩, ?_⟩
  · intro b o e
    rw [hid_ne (ne_of_none e hD), upd_ne (ne_of_none e hD)]
    exact e
  rintro i mm H ⟨rfl, hi, p⟩
  obtain ⟨bs, s, e, l, r⟩ := id p
  have q := hS H (s.trans hid_same)
  by_cases hlt : i < n
  · refine .inr ⟨w.goes i H hlt q, Pv (i + 1), fun H' p' => ⟨n - (i + 1), by omega, rfl, hlt, p'⟩, fun x H' y => ?_⟩
    refine hs i x H H' _ hlt s ⟨_, e⟩ (w.yields i H x H' hlt q y) fun σ2 J1 H4 inc => ?_
    obtain ⟨s4, G1, Y1, w1, hG1, hs1⟩ := inc
    have e4 := s4 _ _ e
    refine lc_inner w1 (fun j H5 => ∃ b : List V, Same (hid D H4) (hid D H5) ∧ H5 D = some (.lst (bs.flatten ++ b)) ∧ Block (R i) j b (hid D H5)) ⟨[], Same.refl _, by rw [List.append_nil]; exact e4, rfl, fun j y h => by simp at h⟩ (fun j H5 _ h => ?_) (fun j x1 H5 H6 hj h y1 => ?_) (fun H5 h => ?_)
    · obtain ⟨b, s5, e5, _⟩ := h
      exact hG1 H5 s5 ⟨_, e5⟩
    · obtain ⟨b, s5, e5, b5⟩ := h
      refine hs1 j x1 H5 H6 _ hj s5 ⟨_, e5⟩ y1 fun y H7 s7 ry => ?_
      refine ⟨_, s7 _ _ e5, small1000 ?_, b ++ [y], ?_, ?_, ?_⟩
      · have h1 := fl bs fun i b hb => by
          have hi' : i < n := by
            have := (List.getElem?_eq_some_iff.mp hb).1
            omega
          rw [(r i b hb).1]
          exact hm i hi'
        have h2 : b.length < M := by
          have := hm i hlt
          rw [b5.1]
          omega
        have h3 : (i + 1) * M ≤ n * M := Nat.mul_le_mul_right _ hlt
        rw [Nat.succ_mul] at h3
        rw [List.length_append]
        rw [l] at h1
        omega
      · rw [hid_upd]
        exact s5.trans (hid_mono s7)
      · rw [upd_same, List.append_assoc]
      · rw [hid_upd]
        refine ⟨by rw [List.length_append, b5.1]; rfl, fun j' y' h => ?_⟩
        by_cases hj' : j' < b.length
        · rw [List.getElem?_append_left hj'] at h
          exact mono _ _ _ _ _ (hid_mono s7) (b5.2 j' y' h)
        · rw [List.getElem?_append_right (by omega)] at h
          have hj2 : j' - b.length = 0 := by
            have := (List.getElem?_eq_some_iff.mp h).1
            simp at this
            omega
          rw [hj2] at h
          simp at h
          subst h
          have hb := b5.1
          have : j' = j := by omega
          rw [this]
          exact ry
    · obtain ⟨b, s5, e5, b5⟩ := h
      refine ⟨bs ++ [b], s.trans ((hid_mono s4).trans s5), by rw [e5]; simp, by simp [l], fun i' b' h => ?_⟩
      by_cases hi' : i' < bs.length
      · rw [List.getElem?_append_left hi'] at h
        exact (r i' b' h).mono (mono i') ((hid_mono s4).trans s5)
      · rw [List.getElem?_append_right (by omega)] at h
        have hj2 : i' - bs.length = 0 := by
          have := (List.getElem?_eq_some_iff.mp h).1
          simp at this
          omega
        rw [hj2] at h
        simp at h
        subst h
        have : i' = i := by omega
        rw [this]
        exact b5
  · have e' : i = n := by omega
    subst e'
    exact .inl ⟨w.stops H q, hd H bs s e l r⟩
end
/-! ### slots that a comprehension sets are wiped -/
theorem wipe_in {σ : L2.St} {i : Nat} : ∀ {vs : List Nat}, i ∈ vs → (wipe σ vs)[i]? = if i < σ.length then some none else none
  | v :: vs, h => by
    unfold wipe
    rw [List.getElem?_set, wipe_length]
    by_cases e : v = i
    · subst e
      rw [if_pos rfl]
    · rw [if_neg e]
      exact wipe_in ((List.mem_cons.mp h).resolve_left fun z => e z.symm)
theorem wipe_eq {σ σ' : L2.St} {vs : List Nat} (hl : σ'.length = σ.length) (h : ∀ i, i ∉ vs → σ'[i]? = σ[i]?) : wipe σ' vs = wipe σ vs := by
  refine List.ext_getElem? fun i => ?_
  by_cases hi : i ∈ vs
  · rw [wipe_in hi, wipe_in hi, hl]
  · rw [wipe_out hi, wipe_out hi, h i hi]
theorem wipe1 {σ : L2.St} {vs : List Nat} {i : Nat} {x : Option V} (hi : i ∈ vs) : wipe ((wipe σ vs).set i x) vs = wipe σ vs := by
  refine wipe_eq (by rw [List.length_set, wipe_length]) fun j hj => ?_
  have n1 : i ≠ j := fun e => hj (e ▸ hi)
  rw [List.getElem?_set_ne n1, wipe_out hj]
theorem wipe2 {σ : L2.St} {vs : List Nat} {i j : Nat} {x y : Option V} (hi : i ∈ vs) (hj : j ∈ vs) : wipe (((wipe σ vs).set i x).set j y) vs = wipe σ vs := by
  refine wipe_eq (by rw [List.length_set, List.length_set, wipe_length]) fun l hl => ?_
  have n1 : i ≠ l := fun e => hl (e ▸ hi)
  have n2 : j ≠ l := fun e => hl (e ▸ hj)
  rw [List.getElem?_set_ne n2, List.getElem?_set_ne n1, wipe_out hl]
theorem look_out {σ : L2.St} {vs : List Nat} {i j l : Nat} {x y o : Option V} (h : σ[l]? = some o) (hl : l ∉ vs) (n1 : i ≠ l) (n2 : j ≠ l) : (((wipe σ vs).set i x).set j y)[l]? = some o := by
  rw [List.getElem?_set_ne n2, List.getElem?_set_ne n1, wipe_out hl, h]
theorem look_1 {σ : L2.St} {vs : List Nat} {i j : Nat} {x y : Option V} (hl : i < σ.length) (n : j ≠ i) : (((wipe σ vs).set i x).set j y)[i]? = some x := by
  rw [List.getElem?_set_ne n, List.getElem?_set_self (by rw [wipe_length]; exact hl)]
theorem look_2 {σ : L2.St} {vs : List Nat} {i j : Nat} {x y : Option V} (hl : j < σ.length) : (((wipe σ vs).set i x).set j y)[j]? = some y := by
  rw [List.getElem?_set_self (by rw [List.length_set, wipe_length]; exact hl)]
theorem look_len {σ : L2.St} {vs : List Nat} {i j n : Nat} {x y : Option V} (hl : σ.length = n) : (((wipe σ vs).set i x).set j y).length = n := by
  rw [List.length_set, List.length_set, wipe_length, hl]
/-- rows put one behind the other -/
theorem AllAre.flatten {α : Type} {R : V → α → Prop} : ∀ {bs : List (List V)} {xss : List (List α)}, bs.length = xss.length → (∀ (i : Nat) b xs, bs[i]? = some b → xss[i]? = some xs → AllAre R b xs) → AllAre R bs.flatten xss.flatten
  | [], [], _, _ => .nil
  | b :: bs, xs :: xss, l, h => by
    rw [List.flatten_cons, List.flatten_cons]
    exact (h 0 b xs rfl rfl).append (AllAre.flatten (by simpa using l) fun i b xs h1 h2 => h (i + 1) b xs h1 h2)
  | [], _ :: _, l, _ => by simp at l
  | _ :: _, [], l, _ => by simp at l
/-! ### sums of products -/
def dot (qs rs : List Rat) : Rat := rsum (List.zipWith (· * ·) qs rs)
theorem tops_dot {U G : Nat} (hU : 0 < U) (hG : 0 < G) : ∀ (qs rs : List Rat), (∀ q ∈ qs, q.den ∣ U) → (∀ r ∈ rs, r.den ∣ G) →
    Rat.divInt (List.zipWith (· * ·) (topsOf U qs) (topsOf G rs)).sum ((U : Int) * (G : Int)) = dot qs rs
  | [], _, _, _ => by simp [topsOf, dot, rsum]
  | _ :: _, [], _, _ => by simp [topsOf, dot, rsum]
  | q :: qs, r :: rs, h1, h2 => by
    have ih := tops_dot hU hG qs rs (fun x hx => h1 x (List.mem_cons_of_mem _ hx)) fun x hx => h2 x (List.mem_cons_of_mem _ hx)
    have t1 := tops_one hU (h1 q List.mem_cons_self)
    have t2 := tops_one hG (h2 r List.mem_cons_self)
    show Rat.divInt ((q.num * ((U / q.den : Nat) : Int)) * (r.num * ((G / r.den : Nat) : Int)) + (List.zipWith (· * ·) (topsOf U qs) (topsOf G rs)).sum) ((U : Int) * (G : Int)) = q * r + dot qs rs
    rw [divInt_add_same, ih, ← Rat.divInt_mul_divInt, t1, t2]
theorem den_add {a b : Rat} {S : Nat} (h0 : 0 < S) (ha : a.den ∣ S) (hb : b.den ∣ S) : (a + b).den ∣ S := by
  have e : a + b = Rat.divInt (a.num * ((S / a.den : Nat) : Int) + b.num * ((S / b.den : Nat) : Int)) (S : Int) := by
    rw [divInt_add_same, tops_one h0 ha, tops_one h0 hb]
  rw [e]
  exact den_dvd_bot h0
end Fb

/-! Part A16: fractions over a common bottom that are not great; sums of products of pairs. -/
namespace Fb
open PySem PySem.Spec PyProof.Rows L2
structure Nice (S M : Nat) (q : Rat) : Prop where
  den : q.den ∣ S
  abs : q.num.natAbs ≤ M * q.den
theorem Nice.mono {S S' M M' : Nat} {q : Rat} (h : Nice S M q) (d : S ∣ S') (l : M ≤ M') : Nice S' M' q := ⟨Nat.dvd_trans h.den d, Nat.le_trans h.abs (Nat.mul_le_mul_right _ l)⟩
theorem Nice.bd {S M n : Nat} {q : Rat} (h : Nice S M q) (S0 : 0 < S) (h1 : S < 2 ^ n) (h2 : M * S < 2 ^ n) : Bd n q := by
  have l := Nat.le_of_dvd S0 h.den
  exact ⟨Nat.lt_of_le_of_lt (Nat.le_trans h.abs (Nat.mul_le_mul_left _ l)) h2, Nat.lt_of_le_of_lt l h1⟩
theorem divInt_cross {t b : Int} {q : Rat} (hb : b ≠ 0) (h : Rat.divInt t b = q) : q.num * b = t * (q.den : Int) := by
  have e : Rat.divInt q.num (q.den : Int) = Rat.divInt t b := by rw [divInt_self, h]
  exact (Rat.divInt_eq_divInt_iff (den_ne q) hb).mp e
theorem Nice.of {t : Int} {b S M : Nat} (hb : 0 < b) (d : b ∣ S) (h : t.natAbs ≤ M * b) : Nice S M (Rat.divInt t (b : Int)) := by
  refine ⟨Nat.dvd_trans (den_dvd_bot hb) d, ?_⟩
  have e := divInt_cross (t := t) (b := (b : Int)) (by omega) rfl
  generalize Rat.divInt t (b : Int) = q at e
  have e2 := congrArg Int.natAbs e
  rw [Int.natAbs_mul, Int.natAbs_mul, Int.natAbs_natCast, Int.natAbs_natCast] at e2
  have h3 : q.num.natAbs * b ≤ (M * q.den) * b := by
    rw [e2, Nat.mul_right_comm]
    exact Nat.mul_le_mul_right _ h
  exact Nat.le_of_mul_le_mul_right h3 hb
theorem Nice.add {S M N : Nat} {x y : Rat} (S0 : 0 < S) (hx : Nice S M x) (hy : Nice S N y) : Nice S (M + N) (x + y) := by
  refine ⟨den_add S0 hx.den hy.den, ?_⟩
  have e := divInt_cross (dens_ne x y) (rat_add x y)
  generalize x + y = q at e
  have e2 := congrArg Int.natAbs e
  rw [Int.natAbs_mul, Int.natAbs_mul, Int.natAbs_mul, Int.natAbs_natCast, Int.natAbs_natCast, Int.natAbs_natCast] at e2
  have h1 : (x.num * (y.den : Int) + y.num * (x.den : Int)).natAbs ≤ (M + N) * (x.den * y.den) := by
    refine Nat.le_trans (Int.natAbs_add_le _ _) ?_
    rw [Int.natAbs_mul, Int.natAbs_mul, Int.natAbs_natCast, Int.natAbs_natCast, Nat.add_mul]
    refine Nat.add_le_add ?_ ?_
    · rw [← Nat.mul_assoc]
      exact Nat.mul_le_mul_right _ hx.abs
    · rw [Nat.mul_comm x.den, ← Nat.mul_assoc]
      exact Nat.mul_le_mul_right _ hy.abs
  have h3 : q.num.natAbs * (x.den * y.den) ≤ ((M + N) * q.den) * (x.den * y.den) := by
    rw [e2, Nat.mul_right_comm]
    exact Nat.mul_le_mul_right _ h1
  exact Nat.le_of_mul_le_mul_right h3 (Nat.mul_pos x.den_pos y.den_pos)
theorem Nice.neg {S M : Nat} {x : Rat} (h : Nice S M x) : Nice S M (-x) := by
  refine ⟨by rw [Rat.neg_den]; exact h.den, ?_⟩
  rw [Rat.neg_num, Rat.neg_den, Int.natAbs_neg]
  exact h.abs
theorem Nice.sub {S M N : Nat} {x y : Rat} (S0 : 0 < S) (hx : Nice S M x) (hy : Nice S N y) : Nice S (M + N) (x - y) := by
  rw [Rat.sub_eq_add_neg]
  exact hx.add S0 hy.neg
theorem Nice.mul {S T M N : Nat} {x y : Rat} (hx : Nice S M x) (hy : Nice T N y) : Nice (S * T) (M * N) (x * y) := by
  have e := divInt_cross (dens_ne x y) (rat_mul x y)
  have dd : (x * y).den ∣ x.den * y.den := by
    rw [← rat_mul, ← Int.natCast_mul]
    exact den_dvd_bot (Nat.mul_pos x.den_pos y.den_pos)
  refine ⟨Nat.dvd_trans dd (Nat.mul_dvd_mul hx.den hy.den), ?_⟩
  generalize x * y = q at e
  have e2 := congrArg Int.natAbs e
  rw [Int.natAbs_mul, Int.natAbs_mul, Int.natAbs_mul, Int.natAbs_mul, Int.natAbs_natCast, Int.natAbs_natCast, Int.natAbs_natCast] at e2
  have h3 : q.num.natAbs * (x.den * y.den) ≤ ((M * N) * q.den) * (x.den * y.den) := by
    rw [e2]
    have := Nat.mul_le_mul hx.abs hy.abs
    calc x.num.natAbs * y.num.natAbs * q.den ≤ (M * x.den) * (N * y.den) * q.den := Nat.mul_le_mul_right _ this
      _ = M * N * q.den * (x.den * y.den) := by
        simp only [Nat.mul_comm, Nat.mul_assoc, Nat.mul_left_comm]
  exact Nat.le_of_mul_le_mul_right h3 (Nat.mul_pos x.den_pos y.den_pos)
theorem Nice.zero {S : Nat} : Nice S 0 0 := ⟨Nat.one_dvd _, by decide⟩
theorem Nice.rsum {S M : Nat} (S0 : 0 < S) : ∀ {qs : List Rat}, (∀ q ∈ qs, Nice S M q) → Nice S (M * qs.length) (Fb.rsum qs)
  | [], _ => by
    rw [List.length_nil, Nat.mul_zero]
    exact Nice.zero
  | q :: r, h => by
    have h1 := (h q List.mem_cons_self).add S0 (Nice.rsum S0 (qs := r) fun x hx => h x (List.mem_cons_of_mem _ hx))
    rw [List.length_cons, Nat.mul_succ, Nat.add_comm]
    exact h1
theorem mem_zip {qs rs : List Rat} {z : Rat} (h : z ∈ List.zipWith (· * ·) qs rs) : ∃ q ∈ qs, ∃ r ∈ rs, z = q * r := by
  obtain ⟨i, hi, e⟩ := List.mem_iff_getElem.mp h
  rw [List.getElem_zipWith] at e
  exact ⟨_, List.getElem_mem _, _, List.getElem_mem _, e.symm⟩
/-- row by row is the same as all in one -/
theorem dot_rows : ∀ {css pss : List (List Rat)}, css.length = pss.length → (∀ (i : Nat) c p, css[i]? = some c → pss[i]? = some p → c.length = p.length) → dot css.flatten pss.flatten = rsum (List.zipWith dot css pss)
  | [], [], _, _ => rfl
  | c :: css, p :: pss, l, h => by
    have ih := dot_rows (css := css) (pss := pss) (by simpa using l) fun i c p h1 h2 => h (i + 1) c p h1 h2
    have h0 : c.length = p.length := h 0 c p rfl rfl
    show dot (c ++ css.flatten) (p ++ pss.flatten) = dot c p + rsum (List.zipWith dot css pss)
    rw [← ih]
    unfold dot
    rw [List.zipWith_append h0, rsum_append]
  | [], _ :: _, l, _ => by simp at l
  | _ :: _, [], l, _ => by simp at l
theorem lcm_len {qs : List Rat} {n N a : Nat} (h : ∀ q ∈ qs, q.den < 2 ^ n) (l : qs.length ≤ N) (ha : 1 + n * N ≤ a) : lcmOn 1 qs < 2 ^ a := by
  have h1 := lcmOn_lt qs 1 n 1 h (by decide)
  refine Nat.lt_of_lt_of_le h1 (Nat.pow_le_pow_right (by decide) ?_)
  have := Nat.mul_le_mul_left n l
  omega
theorem flat_len {l : List (List Rat)} {k : Nat} (h : ∀ qs ∈ l, qs.length ≤ k) : l.flatten.length ≤ l.length * k := by
  induction l with
  | nil => simp
  | cons b r ih =>
    have h1 := h b List.mem_cons_self
    have h2 := ih fun q hq => h q (List.mem_cons_of_mem _ hq)
    rw [List.flatten_cons, List.length_append, List.length_cons, Nat.succ_mul]
    omega
theorem mem_rows {l : List (List Rat)} {q : Rat} (h : q ∈ l.flatten) : ∃ r ∈ l, q ∈ r := List.mem_flatten.mp h
/-- [e for .. in ..] over any walk, each turn at most c draws -/
theorem lc_wellW {J : It} {n : Nat} {G : Hp → Prop} {Y : Nat → Hp → V → Hp → Prop} (w : Walk J n G Y) {g : TG} {te : TE} {vs : List Nat} {σ : L2.St} {H1 : Hp} {D a : Addr} {Qd : Hp → Prop} (R : V → Hp → Prop) (mono : ∀ v H H', Same H H' → R v H → R v H') (c f : Nat)
    (hD : H1 D = none) (hw : WellAt H1 a (f + c * n)) (hn : n ≤ 1000) (hS : ∀ H, Same (hid a H1) (hid a H) → G H)
    (hs : ∀ i x H H' m (k : V → Hp → Prop), i < n → WellAt H a (m + c) → Same (hid a H1) (hid D (hid a H)) → (∃ ys, H D = some (.lst ys)) → Y i H x H' → (∀ y H4, Same (hid a H) (hid a H4) → WellAt H4 a m → R y (hid D (hid a H4)) → k y H4) →
      g x (wipe σ vs) H' fun σ2 H2 => wipe σ2 vs = wipe σ vs ∧ te σ2 H2 k)
    (hd : ∀ H ys, Same (hid a H1) (hid D (hid a H)) → WellAt H a f → H D = some (.lst ys) → ys.length = n → (∀ y ∈ ys, R y (hid D (hid a H))) → Qd H) :
    ∃ W : Nat → Nat → Hp → Prop, (∃ m, W 0 m (upd H1 D (.lst []))) ∧ ∀ i m H, W i m H →
      (J.stop i H ∧ Qd H) ∨ (J.go i H ∧ ∃ Nx : Hp → Prop, (∀ H', Nx H' → ∃ m', m' < m ∧ W (i + 1) m' H') ∧ ∀ x H', J.yld i H x H' → g x (wipe σ vs) H' fun σ2 H2 => wipe σ2 vs = wipe σ vs ∧ tYes σ2 H2 fun b H3 =>
        if b = true then te σ2 H3 fun y H4 => ∃ acc, H4 D = some (.lst acc) ∧ acc.length < sizeLine ∧ Nx (upd H4 D (.lst (acc ++ [y]))) else Nx H3) := by
  have nD : D ≠ a := hw.ne hD
  refine lc_it w (fun i H => ∃ ys, Same (hid a H1) (hid D (hid a H)) ∧ WellAt H a (f + c * (n - i)) ∧ H D = some (.lst ys) ∧ ys.length = i ∧ ∀ y ∈ ys, R y (hid D (hid a H))) ⟨[], ?_, hw.upd nD, upd_same, rfl, fun y h => by simp at h⟩ (fun i H _ h => ?_) (fun i x H H' hi h y => ?_) (fun H h => ?_)
  · rw [hid2_upd nD]
    intro b o e
    have hb : b ≠ D := fun z => by
      rw [z, hid_ne nD, hD] at e
      cases e
    rw [hid_ne hb]
    exact e
  · obtain ⟨ys, s, _⟩ := h
    exact hS H (s.trans hid_same)
  · obtain ⟨ys, s, w, e, l, r⟩ := h
    have ec : f + c * (n - i) = (f + c * (n - (i + 1))) + c := by
      have : n - i = (n - (i + 1)) + 1 := by omega
      rw [this, Nat.mul_succ]
      omega
    rw [ec] at w
    refine hs i x H H' _ (fun y H4 => ∃ acc, H4 D = some (.lst acc) ∧ acc.length < sizeLine ∧ ∃ ys, Same (hid a H1) (hid D (hid a (upd H4 D (.lst (acc ++ [y]))))) ∧ WellAt (upd H4 D (.lst (acc ++ [y]))) a (f + c * (n - (i + 1))) ∧ (upd H4 D (.lst (acc ++ [y]))) D = some (.lst ys) ∧ ys.length = i + 1 ∧ ∀ y' ∈ ys, R y' (hid D (hid a (upd H4 D (.lst (acc ++ [y])))))) hi w s ⟨_, e⟩ y fun y H4 s4 w4 ry => ?_
    have e4 : H4 D = some (.lst ys) := by
      have := s4 D (.lst ys) (by rw [hid_ne nD]; exact e)
      rw [hid_ne nD] at this
      exact this
    refine ⟨ys, e4, small1000 (by omega), ys ++ [y], ?_, w4.upd nD, upd_same, by simp [l], fun y' h => ?_⟩
    · rw [hid2_upd nD]
      exact s.trans (hid_mono s4)
    · rw [hid2_upd nD]
      rcases List.mem_append.mp h with h | h
      · exact mono _ _ _ (hid_mono s4) (r y' h)
      · have : y' = y := by simpa using h
        rw [this]
        exact ry
  · obtain ⟨ys, s, w, e, l, r⟩ := h
    rw [Nat.sub_self, Nat.mul_zero] at w
    exact hd H ys s w e l r
end Fb

/-! Part S1: sets of objects that are found by a key of their own (tuples of ints and texts): searching, laying anew, adding. -/
namespace Fb
open PySem PySem.Spec PyProof.Rows L2
theorem units1 {u : Nat} (h : u + 64 < cLine) : u + 1 < cLine := by omega
theorem units2 {u : Nat} (h : u + 64 < cLine) : u + 2 < cLine := by omega
section
variable {P : Program} {w : World}
/-- objects known by keys: their hash, and what the model asks of two of them -/
structure Known (P : Program) (w : World) (κ : Type) [DecidableEq κ] where
  at_ : Heap → κ → Addr → Prop
  hf : κ → Int
  eq_ : ∀ {A : Around} {E : Value → Shared → Prop} {s : Shared} {k l : κ} {b c : Addr} {Q : Bool → Shared → Prop}, A.units < cLine → at_ s.heap k b → at_ s.heap l c → Q (decide (k = l)) s → wpAny (model P w) A (eqBool (.ref b) (.ref c)) Q E s
  unseen : ∀ {A : Around} {E : Value → Shared → Prop} {s : Shared} {k : κ} {b : Addr} {ys : List Value} {Q : Bool → Shared → Prop}, at_ s.heap k b → (∀ y ∈ ys, ∃ l c, y = Value.ref c ∧ at_ s.heap l c) → Q false s → wpAny (model P w) A (searchCouldBeSeen (.ref b) ys) Q E s
  byVal : ∀ {A : Around} {E : Value → Shared → Prop} {s : Shared} {k : κ} {b : Addr} {Q : Bool → Shared → Prop}, at_ s.heap k b → (∀ r, Q r s) → wpAny (model P w) A (hashByValue 8 (.ref b)) Q E s
  stays : ∀ {h h' : Heap} {k : κ} {a b : Addr} {o : Obj} {es : Array (Int × Value)} {ep : Nat} {t : SetTable}, at_ h k b → h.get? a = some o → o.data = .set es ep t → Heap.SameBut a h h' → at_ h' k b
  keeps : ∀ {h h' : Heap} {k : κ} {b : Addr}, at_ h k b → (∀ c o, h.get? c = some o → h'.get? c = some o) → at_ h' k b
variable {κ : Type} [DecidableEq κ] (N : Known P w κ)
def entries (L : List (Addr × κ)) : List (Int × Value) := L.map fun p => (N.hf p.2, Value.ref p.1)
/-- a set of them, with its table -/
structure KSet (h : Heap) (a : Addr) (L : List (Addr × κ)) (es : Array (Int × Value)) (ep : Nat) (t : SetTable) : Prop where
  obj : ∃ o, h.get? a = some o ∧ o.ExactSet ∧ o.data = .set es ep t
  ents : es.toList = entries N L
  tab : TabOk t (L.map fun p => N.hf p.2)
  once : (L.map (·.2)).Nodup
  all : ∀ p ∈ L, N.at_ h p.2 p.1
  ld : w.params.followText "set-order" = true ∨ t.led = true
  room : L.length * 5 < t.mask * 3
  few : L.length < 64
variable {N}
theorem entries_len {L : List (Addr × κ)} {es : Array (Int × Value)} (h : es.toList = entries N L) : es.size = L.length := by
  rw [← Array.length_toList, h]
  exact List.length_map ..
theorem entries_at {L : List (Addr × κ)} {es : Array (Int × Value)} (h : es.toList = entries N L) {i : Nat} {p : Addr × κ} (hp : L[i]? = some p) : es[i]? = some (N.hf p.2, Value.ref p.1) := by
  rw [← Array.getElem?_toList, h, entries, List.getElem?_map, hp]
  rfl
theorem fits_by {t : SetTable} {n : Nat} (h1 : t.place.size = n) (h2 : t.dummies = #[]) (h3 : n ≤ t.mask) : t.fits n = true := by
  simp only [SetTable.fits, SetTable.fill, h2, Bool.and_eq_true, beq_iff_eq, decide_eq_true_eq]
  exact ⟨h1, by show t.place.size + 0 ≤ t.mask; omega⟩
variable {h₀ : Heap} {a : Addr} {L : List (Addr × κ)} {es : Array (Int × Value)} {ep : Nat} {t : SetTable}
theorem KSet.fit {s : Shared} (R : KSet N s.heap a L es ep t) : t.fits es.size = true := by
  have e1 := R.tab.sz
  have e2 := entries_len R.ents
  have e3 := R.room
  rw [List.length_map] at e1
  exact fits_by (by omega) R.tab.dm (by omega)
theorem not_gave {t : SetTable} (h : MaskOk t.mask) : ¬ t.gaveWay = true := by
  unfold SetTable.gaveWay
  rw [mask_odd h]
  decide
/-- the probe's way from its c-th place on -/
abbrev wayP (m : Nat) (h : Int) (c : Nat) : SetTable.Probe := nth m (runAt m (SetTable.bits h % (m + 1)) (SetTable.bits h)) c
theorem nth_clean (m : Nat) : ∀ (n : Nat) (p : SetTable.Probe), p.dummy = none → (nth m p n).dummy = none
  | 0, _, h => h
  | n + 1, p, h => nth_clean m n (adv m p) (by unfold adv; split <;> exact h)
theorem wayP_from (m : Nat) (h : Int) (c q : Nat) : nth m (wayP m h c) q = wayP m h (c + q) := (nth_add m c _ q).symm
/-- what is asked of the search -/
structure Ask (N : Known P w κ) (L : List (Addr × κ)) (t : SetTable) (k : κ) (K : Nat) : Prop where
  fuel : K < 10 * SetTable.turns t.mask
  empty : way t.mask (N.hf k) K ∉ t.place.toList
  full : ∀ c, c < K → way t.mask (N.hf k) c ∈ t.place.toList
theorem seek {A : Around} {E : Value → Shared → Prop} {s : Shared} (R : KSet N s.heap a L es ep t) {x : Addr} {k : κ} (hx : N.at_ s.heap k x) (hu : A.units < cLine) {K : Nat} (W : Ask N L t k K) {Q : SetFound → Shared → Prop}
    (yes : k ∈ L.map (·.2) → Q (.there none) s) (no : k ∉ L.map (·.2) → Q (.free (way t.mask (N.hf k) K) false) s) (m : Nat) :
    ∀ (c f : Nat) (st : Option SetTable.Probe), K - c = m → m < f → c ≤ K → st.getD (t.probeStart (N.hf k)) = wayP t.mask (N.hf k) c →
      (∀ (i : Nat) p, L[i]? = some p → p.2 = k → ∃ d, c ≤ d ∧ d < K ∧ t.place.toList[i]? = some (way t.mask (N.hf k) d)) → wpAny (model P w) A (setSearchFrom a (.ref x) (N.hf k) true f st) Q E s := by
  induction m using Nat.strongRecOn with
  | ind m ih =>
  intro c f st hm hf hc hst ahead
  obtain ⟨o, ho, hex, hd⟩ := R.obj
  cases f with
  | zero => omega
  | succ f =>
  rw [setSearchFrom_succ]
  refine wpAny_bind (wpAny_setState_of ho hd R.fit ?_)
  dsimp only
  refine wp_if_neg (not_gave R.tab.mok) ?_
  try refine wpAny_bind (wpAny_pure ?_)
  have J : ∀ q, (nth t.mask (wayP t.mask (N.hf k) c) q).j = way t.mask (N.hf k) (c + q) := fun q => congrArg SetTable.Probe.j (wayP_from t.mask (N.hf k) c q)
  have at_h : ∀ (i : Nat) p, L[i]? = some p → (fun i => (es[i]?.map (·.1)).getD 0) i = N.hf p.2 := fun i p hp => by
    dsimp only
    rw [entries_at R.ents hp]
    rfl
  have end_ : c + (K - c) = K := by omega
  have g := go_spec t R.tab.ris R.tab.dm (fun i => (es[i]?.map (·.1)).getD 0) (N.hf k) (10 * SetTable.turns t.mask) (K - c) (wayP t.mask (N.hf k) c) (nth_clean _ _ _ rfl) (by have := W.fuel; omega)
    (fun q hq => by rw [J]; exact W.full _ (by omega)) (by rw [J, end_]; exact W.empty)
  rcases g with ⟨q, i, hq, hi, hh, before, met⟩ | ⟨none_, met⟩
  · have met' : t.probe (fun i => (es[i]?.map (·.1)).getD 0) (N.hf k) (st.getD (t.probeStart (N.hf k))) = some (.candidate (way t.mask (N.hf k) (c + q)) i (wayP t.mask (N.hf k) (c + (q + 1)))) := by
      rw [hst, ← J, ← wayP_from]
      exact met
    rw [met']
    dsimp only
    rw [J] at hi
    have il : i < L.length := by
      have e1 := (List.getElem?_eq_some_iff.mp hi).1
      have e2 := R.tab.sz
      rw [List.length_map] at e2
      rw [Array.length_toList] at e1
      omega
    have hp := List.getElem?_eq_getElem il
    generalize L[i] = p at hp
    have pm := List.mem_of_getElem? hp
    have live := slot_live R.tab.ris hi
    have tail : wpAny (model P w) A (searchRest a (.ref x) (N.hf k) true f es t (way t.mask (N.hf k) (c + q)) i (wayP t.mask (N.hf k) (c + (q + 1)))) Q E s := by
      unfold searchRest
      rw [entries_at R.ents hp]
      dsimp only
      refine wpAny_bind (wpAny_holding (N.eq_ hu (R.all p pm) hx ?_))
      refine wpAny_bind (wpAny_setState_of ho hd R.fit ?_)
      dsimp only
      by_cases e : p.2 = k
      · exact wp_if_pos (by simp [e]) (wpAny_pure (yes (List.mem_map.mpr ⟨p, pm, e⟩)))
      · refine wp_if_neg (by simp [e]) ?_
        try refine wpAny_bind (wpAny_pure ?_)
        rw [sameMem]
        dsimp only
        simp only [if_true, live, entries_at R.ents hp]
        refine wpAny_bind (wpAny_isSame_ref_self (wpAny_bind (wpAny_pure ?_)))
        simp only [if_true]
        refine wp_if_neg (by simp [e]) ?_
        refine ih (K - (c + (q + 1))) (by omega) (c + (q + 1)) f _ rfl (by omega) (by omega) rfl fun i' p' hp' hk' => ?_
        obtain ⟨d, d1, d2, d3⟩ := ahead i' p' hp' hk'
        refine ⟨d, ?_, d2, d3⟩
        have n1 : ¬ d < c + q := fun z => before (d - c) i' (by omega) (by rw [J, show c + (d - c) = d by omega]; exact d3) ((at_h i' p' hp').trans (congrArg N.hf hk'))
        have n2 : d ≠ c + q := fun z => by
          rw [z] at d3
          have l2 := slot_live R.tab.ris d3
          rw [live] at l2
          cases l2
          rw [hp] at hp'
          cases hp'
          exact e hk'
        omega
    by_cases hl : t.led = true
    · refine wp_if_neg (by simp [hl]) ?_
      try refine wpAny_bind (wpAny_pure ?_)
      exact tail
    · refine wp_if_pos (by simp [hl]) ?_
      refine wpAny_bind (N.unseen hx (fun y hy => ?_) ?_)
      · obtain ⟨e, he, rfl⟩ := List.mem_map.mp hy
        have he : e ∈ es.toList := by
          have : e ∈ es ∧ e.1 = N.hf k := by simpa using he
          simpa using this.1
        rw [R.ents] at he
        obtain ⟨p', hp', rfl⟩ := List.mem_map.mp he
        exact ⟨p'.2, p'.1, rfl, R.all p' hp'⟩
      · refine wp_if_neg (by decide) ?_
        try refine wpAny_bind (wpAny_pure ?_)
        exact tail
  · have met' : t.probe (fun i => (es[i]?.map (·.1)).getD 0) (N.hf k) (st.getD (t.probeStart (N.hf k))) = some (.empty (way t.mask (N.hf k) K) none) := by
      have e : way t.mask (N.hf k) K = (nth t.mask (wayP t.mask (N.hf k) c) (K - c)).j := by rw [J, end_]
      rw [hst, e]
      exact met
    rw [met']
    dsimp only
    refine wpAny_pure (no fun hk => ?_)
    obtain ⟨p, pm, e⟩ := List.mem_map.mp hk
    obtain ⟨i, hi, ei⟩ := List.getElem_of_mem pm
    have hp : L[i]? = some p := by rw [List.getElem?_eq_getElem hi, ei]
    obtain ⟨d, d1, d2, d3⟩ := ahead i p hp e
    exact none_ (d - c) i (by omega) (by rw [J, show c + (d - c) = d by omega]; exact d3) ((at_h i p hp).trans (congrArg N.hf e))
theorem search {A : Around} {E : Value → Shared → Prop} {s : Shared} (R : KSet N s.heap a L es ep t) {x : Addr} {k : κ} (hx : N.at_ s.heap k x) (hu : A.units < cLine) {Q : SetFound → Shared → Prop} (yes : k ∈ L.map (·.2) → Q (.there none) s)
    (no : ∀ K, Ask N L t k K → k ∉ L.map (·.2) → Q (.free (way t.mask (N.hf k) K) false) s) : wpAny (model P w) A (setSearch a (.ref x) (N.hf k) true) Q E s := by
  have rm := R.room
  obtain ⟨K, k1, k2, k3⟩ := R.tab.first (by rw [List.length_map]; omega) (N.hf k)
  have W : Ask N L t k K := ⟨k1, k2, k3⟩
  have small : K < 100000 := by
    have : 10 * SetTable.turns t.mask ≤ 1420 := by
      unfold SetTable.turns
      rcases R.tab.mok with e | e | e <;> omega
    omega
  unfold setSearch
  refine seek R hx hu W yes (no K W) (K - 0) 0 100000 none rfl (by omega) (Nat.zero_le _) rfl fun i p hp hk => ?_
  have il : i < t.place.toList.length := by
    have e1 := (List.getElem?_eq_some_iff.mp hp).1
    have e2 := R.tab.sz
    rw [List.length_map] at e2
    rw [Array.length_toList]
    omega
  have hj := List.getElem?_eq_getElem il
  obtain ⟨d, d1, d2⟩ := R.tab.before k2 (i := i) (by rw [List.getElem?_map, hp, ← hk]; rfl) hj
  exact ⟨d, Nat.zero_le _, d1, by rw [hj, d2]⟩
/-! ### laid anew -/
theorem filterMap_ix {α : Type} (L : List α) : ∀ n, n ≤ L.length → (List.range n).filterMap (fun i => L[i]?) = L.take n
  | 0, _ => rfl
  | n + 1, h => by
    have hl : n < L.length := h
    have e := List.getElem?_eq_getElem hl
    rw [List.range_succ, List.filterMap_append, filterMap_ix L n (Nat.le_of_lt hl), List.take_add_one, e]
    simp [List.filterMap, e]
theorem reorder (order : List Nat) (hs : es.toList = entries N L) (hp : ∀ i ∈ order, i < L.length) :
    order.filterMap (fun i => es[i]?) = entries N (order.filterMap fun i => L[i]?) ∧ ((order.filterMap fun i => L[i]?).map fun p => N.hf p.2) = order.map fun i => (es.map (·.1)).getD i 0 := by
  induction order with
  | nil => exact ⟨rfl, rfl⟩
  | cons i r ih =>
    have hi := hp i List.mem_cons_self
    obtain ⟨e1, e2⟩ := ih fun j hj => hp j (List.mem_cons_of_mem _ hj)
    have g := List.getElem?_eq_getElem hi
    have ge := entries_at hs g
    refine ⟨?_, ?_⟩
    · rw [List.filterMap_cons_some ge, List.filterMap_cons_some g, e1]
      rfl
    · rw [List.filterMap_cons_some g, List.map_cons, List.map_cons, e2]
      congr 1
      have e5 : (es.map (·.1))[i]? = some (N.hf (L[i]).2) := by
        rw [Array.getElem?_map, ge]
        rfl
      simp [Array.getD_eq_getD_getElem?, e5]
theorem relay {A : Around} {E : Value → Shared → Prop} {s : Shared} {o : Obj} (ho : s.heap.get? a = some o) (hex : o.ExactSet) (hd : o.data = .set es ep t) (he : es.toList = entries N L) (hz : t.place.size = es.size) (hdm : t.dummies = #[]) (hle : es.size ≤ t.mask)
    (once : (L.map (·.2)).Nodup) (all : ∀ p ∈ L, N.at_ s.heap p.2 p.1) (ld : w.params.followText "set-order" = true ∨ t.led = true) (few : L.length < 64) {want M : Nat}
    (hw : SetTable.sizeAbove want - 1 = M) (hM : MaskOk M) (h128 : SetTable.sizeAbove want ≤ 128) (room : L.length * 5 < M * 3) {Q : Unit → Shared → Prop}
    (q : ∀ h' L' es' ep' t', Heap.SameBut a s.heap h' → KSet N h' a L' es' ep' t' → L'.Perm L → Q () { s with heap := h' }) : wpAny (model P w) A (setRelay a want) Q E s := by
  have ln := entries_len he
  obtain ⟨t', order, e, hp, T, em, el, epl, ed⟩ := relaid_ok t (hs := es.map (·.1)) (wanted := want) hw hM (by rw [Array.size_map, ln]; omega)
  rw [Array.size_map, ln] at hp
  obtain ⟨r1, r2⟩ := reorder order.toList he fun i hi => List.mem_range.mp (hp.mem_iff.mp hi)
  rw [← r2] at T
  have pm : (order.toList.filterMap fun i => L[i]?).Perm L := by
    have := hp.filterMap fun i => L[i]?
    rw [filterMap_ix L _ (Nat.le_refl _), List.take_length] at this
    exact this
  generalize (order.toList.filterMap fun i => L[i]?) = L2 at r1 T pm
  have r1 : (order.filterMap (es[·]?)).toList = entries N L2 := by
    rw [Array.toList_filterMap]
    exact r1
  have hs2 : (order.filterMap (es[·]?)).size = es.size := by rw [entries_len r1, pm.length_eq, ln]
  rw [setRelay_eq]
  refine wpAny_bind (wpAny_setState_of ho hd (fits_by hz hdm hle) ?_)
  dsimp only
  refine wp_if_neg (by rw [sizeLine_eq]; omega) ?_
  try refine wpAny_bind (wpAny_pure ?_)
  rw [e]
  dsimp only
  refine wpAny_bind ?_
  refine wp_if_neg (by rw [hs2]; simp) ?_
  try refine wpAny_bind (wpAny_pure ?_)
  refine wpAny_pure ?_
  dsimp only
  refine wpAny_storeSet_of ho hd ?_ (by rw [hs2, ln, sizeLine_eq]; omega)
  have sb : Heap.SameBut a s.heap (s.heap.update a (Obj.putSet (order.filterMap (es[·]?)) t')) := Heap.SameBut.update ..
  exact q _ L2 _ (ep + 1) t' sb ⟨⟨_, store_at ho hd, ⟨hex.1, hex.2.1, hex.2.2⟩, rfl⟩, r1, T, (pm.map (·.2)).nodup_iff.mpr once, fun p hm => N.stays (all p (pm.mem_iff.mp hm)) ho hd sb, by rw [el]; exact ld, by rw [pm.length_eq, em]; exact room, by rw [pm.length_eq]; exact few⟩ pm
/-! ### adding -/
theorem add_key {A : Around} {E : Value → Shared → Prop} {s : Shared} (R : KSet N s.heap a L es ep t) {x : Addr} {k : κ} (hx : N.at_ s.heap k x) (hu : A.units < cLine) (few : L.length + 1 < 64) {Q : Bool → Shared → Prop}
    (q : ∀ b h' L' es' ep' t', Heap.SameBut a s.heap h' → KSet N h' a L' es' ep' t' → (k ∈ L.map (·.2) → L' = L) → (k ∉ L.map (·.2) → L'.Perm ((x, k) :: L)) → Q b { s with heap := h' }) :
    wpAny (model P w) A (setAddHashed a (.ref x) (N.hf k)) Q E s := by
  obtain ⟨o, ho, hex, hd⟩ := R.obj
  have ln := entries_len R.ents
  have rm := R.room
  unfold setAddHashed
  refine wpAny_holding ?_
  rw [show (100000 : Nat) = 99999 + 1 from rfl, setAddHashedIn_succ]
  refine wpAny_bind (wpAny_setState_of ho hd R.fit ?_)
  dsimp only
  refine wp_if_neg (by simp [byScan, Value.scannable]) ?_
  try refine wpAny_bind (wpAny_pure ?_)
  refine wpAny_bind (search R hx hu (fun hm => ?_) fun K W hm => ?_)
  · exact wpAny_pure (q false s.heap L es ep t (Heap.SameBut.refl a s.heap) R (fun _ => rfl) fun z => absurd hm z)
  · dsimp only
    refine wpAny_bind (wpAny_setState_of ho hd R.fit ?_)
    dsimp only
    obtain ⟨q1, q2, q3, q4, q5, q6, _, _, q9⟩ := R.tab.put W.empty W.full
    generalize t.put (way t.mask (N.hf k) K) = tp at q1 q3 q4 q5 q9 ⊢
    obtain ⟨t0, i⟩ := tp
    dsimp only at q1 q3 q4 q5 q9 ⊢
    subst q1
    generalize SetTable.below t.place (way t.mask (N.hf k) K) = i at q2 q3 ⊢
    have either : ∀ (r : Bool), ∃ t1 : SetTable, (if r = true then t0 else { t0 with plain := false }) = t1 ∧ t1.place = t0.place ∧ t1.dummies = t0.dummies ∧ t1.mask = t0.mask ∧ t1.led = t0.led ∧ t1.fill = t0.fill := fun r => by
      cases r
      · exact ⟨_, rfl, rfl, rfl, rfl, rfl, rfl⟩
      · exact ⟨_, rfl, rfl, rfl, rfl, rfl, rfl⟩
    have goOn : ∀ r, wpAny (model P w) A (do
        storeSet a (SetTable.insertAt es i (N.hf k, Value.ref x)) (if r = true then t0 else { t0 with plain := false })
        if !false && (if r = true then t0 else { t0 with plain := false }).tooFull then setRelay a (SetTable.grown (es.size + 1))
        return true) Q E s := fun r => ?_
    · by_cases hpl : t0.plain = true
      · first
          | (refine wpAny_bind ?_; refine wp_if_pos hpl ?_; exact N.byVal hx goOn)
          | exact wp_if_pos hpl (wpAny_bind (N.byVal hx goOn))
      · first
          | (refine wpAny_bind ?_; refine wp_if_neg hpl ?_; exact wpAny_pure (goOn true))
          | exact wp_if_neg hpl (wpAny_bind (wpAny_pure (goOn true)))
    obtain ⟨t1, et, f1, f2, f3, f4, f5⟩ := either r
    rw [et]
    have q3 : TabOk t1 _ := ⟨by rw [f1]; exact q3.ris, by rw [f2]; exact q3.dm, by rw [f1]; exact q3.sz, by rw [f3]; exact q3.mok, by rw [f1, f3]; exact q3.bd, by rw [f1, f3]; exact q3.reach⟩
    rw [← f3] at q4
    rw [← f4] at q5
    rw [← f5] at q9
    clear f1 f2 f3 f4 f5 et either
    have he : (SetTable.insertAt es i (N.hf k, Value.ref x)).toList = entries N (L.take i ++ (x, k) :: L.drop i) := by
      rw [SetTable.toList_insertAt, R.ents]
      simp only [entries, List.map_append, List.map_cons, List.map_take, List.map_drop]
    have pm := put_perm L i (x, k)
    rw [show (L.map fun p => N.hf p.2).take i ++ N.hf k :: (L.map fun p => N.hf p.2).drop i = (L.take i ++ (x, k) :: L.drop i).map (fun p => N.hf p.2) by simp only [List.map_append, List.map_cons, List.map_take, List.map_drop]] at q3
    generalize SetTable.insertAt es i (N.hf k, Value.ref x) = es1 at he ⊢
    generalize L.take i ++ (x, k) :: L.drop i = L1 at pm q3 he
    have l1 : L1.length = L.length + 1 := pm.length_eq
    have z1 : es1.size = L.length + 1 := by rw [entries_len he, l1]
    have once1 : (L1.map (·.2)).Nodup := (pm.map (·.2)).nodup_iff.mpr (List.nodup_cons.mpr ⟨hm, R.once⟩)
    refine wpAny_bind (wpAny_storeSet_of ho hd ?_ (by rw [z1, sizeLine_eq]; omega))
    have sb : Heap.SameBut a s.heap (s.heap.update a (Obj.putSet es1 t1)) := Heap.SameBut.update ..
    have ho1 := store_at (es' := es1) (t' := t1) ho hd
    generalize s.heap.update a (Obj.putSet es1 t1) = h1 at sb ho1 ⊢
    have all1 : ∀ p ∈ L1, N.at_ h1 p.2 p.1 := fun p hp => by
      rcases List.mem_cons.mp (pm.mem_iff.mp hp) with rfl | hp
      · exact N.stays hx ho hd sb
      · exact N.stays (R.all p hp) ho hd sb
    have ld1 : w.params.followText "set-order" = true ∨ t1.led = true := by rw [q5]; exact R.ld
    have full : t1.tooFull = true ↔ (L.length + 1) * 5 ≥ t.mask * 3 := by
      unfold SetTable.tooFull
      rw [decide_eq_true_eq, q9, List.length_map, q4]
    by_cases hf : t1.tooFull = true
    · first
        | (refine wpAny_bind ?_; refine wp_if_pos (by simp [hf]) ?_)
        | (refine wp_if_pos (by simp [hf]) ?_; refine wpAny_bind ?_)
      have hf := full.mp hf
      have sz1 : t1.place.size = es1.size := by
        have := q3.sz
        rw [List.length_map, l1] at this
        rw [this, z1]
      have two : (t.mask = 7 ∧ L.length = 4) ∨ (t.mask = 31 ∧ L.length = 18) := by
        rcases R.tab.mok with e | e | e <;> rw [e] at hf rm <;> omega
      rw [ln]
      have grow : ∀ M, SetTable.sizeAbove (SetTable.grown (L.length + 1)) - 1 = M → MaskOk M → SetTable.sizeAbove (SetTable.grown (L.length + 1)) ≤ 128 → (L.length + 1) * 5 < M * 3 →
          wpAny (model P w) A (setRelay a (SetTable.grown (L.length + 1))) (fun _ s' => wpAny (model P w) A (pure true) Q E s') E { s with heap := h1 } := fun M g1 g2 g3 g4 =>
        relay (s := { s with heap := h1 }) ho1 ⟨hex.1, hex.2.1, hex.2.2⟩ rfl he sz1 q3.dm (by rw [z1, q4]; rcases two with ⟨_, _⟩ | ⟨_, _⟩ <;> omega) once1 all1 ld1 (by omega) g1 g2 g3 (by rw [l1]; exact g4)
          fun h2 L2 es2 ep2 t2 sb2 R2 pm2 => wpAny_pure (q true h2 L2 es2 ep2 t2 (sb.trans sb2) R2 (fun z => absurd z hm) fun _ => pm2.trans pm)
      rcases two with ⟨_, e⟩ | ⟨_, e⟩
      · exact grow 31 (by rw [e, size_20]) (.inr (.inl rfl)) (by rw [e, size_20]; decide) (by omega)
      · exact grow 127 (by rw [e, size_76]) (.inr (.inr rfl)) (by rw [e, size_76]; decide) (by omega)
    · first
        | refine wp_if_neg (by simp [hf]) ?_
        | (refine wpAny_bind ?_; refine wp_if_neg (by simp [hf]) ?_; refine wpAny_pure ?_)
      have hf : ¬ (L.length + 1) * 5 ≥ t.mask * 3 := fun z => hf (full.mpr z)
      exact wpAny_pure (q true h1 L1 es1 (ep + 1) t1 sb ⟨⟨_, ho1, ⟨hex.1, hex.2.1, hex.2.2⟩, rfl⟩, he, q3, once1, all1, ld1, by rw [l1, q4]; omega, by omega⟩ (fun z => absurd z hm) fun _ => pm)
theorem fresh_set {h : Heap} (ho : h.get? a = some { cls := .type "set", dict := none, data := .set #[] 0 (.fresh 0 0 (!w.params.followText "set-order")) }) : KSet N h a [] #[] 0 (.fresh 0 0 (!w.params.followText "set-order")) := by
  refine ⟨⟨_, ho, ⟨rfl, rfl, rfl⟩, rfl⟩, rfl, ⟨?_, rfl, rfl, .inl rfl, fun x h => ?_, fun i h j e => ?_⟩, List.nodup_nil, fun p h => ?_, ?_, by show 0 * 5 < 7 * 3; decide, by show 0 < 64; decide⟩
  · exact .nil
  · cases h
  · cases e
  · cases h
  · cases w.params.followText "set-order"
    · exact .inr rfl
    · exact .inl rfl
end
/-! ### tuples of ints and texts -/
section
variable {P : Program} {w : World}
theorem items_plain {ks : List Key} {vs : List Value} (h : ItemsAre (mixKind P w) ks vs) : ∀ v ∈ vs, (∃ i t, v = Value.int i t) ∨ ∃ x t, v = Value.str x t := by
  induction h with
  | nil => intro v hv; cases hv
  | cons h1 _ ih =>
    intro v hv
    rcases List.mem_cons.mp hv with rfl | hv
    · rcases keyIs_shape h1 with ⟨i, t, _, e⟩ | ⟨x, t, _, e⟩
      · exact .inl ⟨i, t, e⟩
      · exact .inr ⟨x, t, e⟩
    · exact ih v hv
theorem plain_cls {v : Value} (h : (∃ i t, v = Value.int i t) ∨ ∃ x t, v = Value.str x t) (n : Nat) : ofAClassStatement n v = pure false := by
  rcases h with ⟨i, t, rfl⟩ | ⟨x, t, rfl⟩ <;> cases n <;> rfl
theorem plain_hash {v : Value} (h : (∃ i t, v = Value.int i t) ∨ ∃ x t, v = Value.str x t) (n : Nat) : ∃ r, hashByValue n v = pure r := by
  rcases h with ⟨i, t, rfl⟩ | ⟨x, t, rfl⟩
  · exact ⟨_, hashByValue_scannable n rfl⟩
  · exact ⟨_, hashByValue_scannable n rfl⟩
theorem tup_cls {A : Around} {E : Value → Shared → Prop} {s : Shared} {k : List Key} {b : Addr} {Q : Bool → Shared → Prop} (hk : IsTupleKey (mixKind P w) s.heap k b) (q : Q false s) : wpAny (model P w) A (ofAClassStatement 8 (.ref b)) Q E s := by
  have ty := hk.typeIs
  obtain ⟨o, its, n, ho, _, hd, hi⟩ := hk
  unfold ofAClassStatement
  refine wpAny_bind (wpAny_typeOf ty ?_)
  dsimp only
  simp only [show (("tuple" : String) == "tuple") = true by decide, if_true, Bool.not_true, Bool.false_eq_true, if_false]
  try refine wpAny_bind (wpAny_pure ?_)
  try simp only [Bool.not_true, Bool.false_eq_true, if_false]
  show wpAny _ _ (seqItems? (.ref b) >>= _) _ _ s
  refine wpAny_bind (wpAny_seqItems ho hd ?_)
  dsimp only
  refine wpAny_bind ?_
  show wpAny _ _ (forIn its _ _) _ _ s
  rw [← Array.forIn_toList]
  refine wpAny_forIn_list _ (fun rest r s' => r.1 = none ∧ s' = s ∧ ∀ v ∈ rest, (∃ i t, v = Value.int i t) ∨ ∃ x t, v = Value.str x t) _ ?_ ?_ _ _ ⟨rfl, rfl, items_plain hi⟩
  · rintro v rest r s' ⟨_, rfl, al⟩
    rw [plain_cls (al v List.mem_cons_self)]
    refine wpAny_bind (wpAny_pure ?_)
    simp only [Bool.false_eq_true, if_false]
    exact wpAny_pure ⟨rfl, rfl, fun u hu => al u (List.mem_cons_of_mem _ hu)⟩
  · rintro ⟨r1, r2⟩ s' ⟨hr, rfl, _⟩
    simp only at hr
    subst hr
    exact wpAny_pure q
theorem tup_byVal {A : Around} {E : Value → Shared → Prop} {s : Shared} {k : List Key} {b : Addr} {Q : Bool → Shared → Prop} (hk : IsTupleKey (mixKind P w) s.heap k b) (q : ∀ r, Q r s) : wpAny (model P w) A (hashByValue 8 (.ref b)) Q E s := by
  have ty := hk.typeIs
  obtain ⟨o, its, n, ho, _, hd, hi⟩ := hk
  unfold hashByValue
  refine wpAny_bind (wpAny_specialOf ty F.slot_tuple_hash.lookup ?_)
  show wpAny _ _ (seqItems? (.ref b) >>= _) _ _ s
  refine wpAny_bind (wpAny_seqItems ho hd ?_)
  refine wpAny_bind ?_
  show wpAny _ _ (forIn its _ _) _ _ s
  rw [← Array.forIn_toList]
  refine wpAny_forIn_list _ (fun rest r s' => s' = s ∧ ∀ v ∈ rest, (∃ i t, v = Value.int i t) ∨ ∃ x t, v = Value.str x t) _ ?_ ?_ _ _ ⟨rfl, items_plain hi⟩
  · rintro v rest r s' ⟨rfl, al⟩
    obtain ⟨c, e⟩ := plain_hash (al v List.mem_cons_self) 7
    rw [e]
    refine wpAny_bind (wpAny_pure ?_)
    cases c
    · simp only [Bool.not_false, if_true]
      exact wpAny_pure (wpAny_pure (q false))
    · simp only [Bool.not_true, Bool.false_eq_true, if_false]
      exact wpAny_pure ⟨rfl, fun u hu => al u (List.mem_cons_of_mem _ hu)⟩
  · rintro ⟨r1, r2⟩ s' ⟨rfl, _⟩
    cases r1
    · exact wpAny_pure (q _)
    · exact wpAny_pure (q _)
theorem tup_unseen {A : Around} {E : Value → Shared → Prop} {s : Shared} {k : List Key} {b : Addr} {ys : List Value} {Q : Bool → Shared → Prop} (hk : IsTupleKey (mixKind P w) s.heap k b) (hy : ∀ y ∈ ys, ∃ l c, y = Value.ref c ∧ IsTupleKey (mixKind P w) s.heap l c) (q : Q false s) :
    wpAny (model P w) A (searchCouldBeSeen (.ref b) ys) Q E s := by
  unfold searchCouldBeSeen
  refine wpAny_bind (wpAny_forIn_list _ (fun rest r s' => r.1 = none ∧ s' = s ∧ ∀ y ∈ rest, ∃ l c, y = Value.ref c ∧ IsTupleKey (mixKind P w) s.heap l c) _ ?_ ?_ _ _ ⟨rfl, rfl, hy⟩)
  · rintro v rest r s' ⟨_, rfl, al⟩
    obtain ⟨l, c, rfl, hc⟩ := al v List.mem_cons_self
    have more : ∀ y ∈ rest, ∃ l c, y = Value.ref c ∧ IsTupleKey (mixKind P w) s'.heap l c := fun u hu => al u (List.mem_cons_of_mem _ hu)
    dsimp only
    by_cases hv : (b == c || (carriedByValue (.ref b) && carriedByValue (.ref c))) = true
    · exact wp_if_pos hv (wpAny_pure ⟨rfl, rfl, more⟩)
    · refine wp_if_neg hv (wpAny_bind (wpAny_eqIsQuiet_tuple hk ?_))
      simp only [Bool.not_true, Bool.false_eq_true, if_false]
      refine wpAny_bind (wpAny_eqIsQuiet_tuple hc ?_)
      simp only [Bool.not_true, Bool.false_eq_true, if_false]
      refine wpAny_bind (tup_cls hk ?_)
      simp only [Bool.false_eq_true, if_false]
      refine wpAny_bind (tup_cls hc ?_)
      simp only [Bool.false_eq_true, if_false]
      exact wpAny_pure ⟨rfl, rfl, more⟩
  · rintro ⟨r1, r2⟩ s' ⟨hr, rfl, _⟩
    simp only at hr
    subst hr
    exact wpAny_pure q
/-- tuples of ints and texts are known by what they hold -/
def mixT (P : Program) (w : World) : Known P w (List Key) where
  at_ := fun h k b => IsTupleKey (mixKind P w) h k b
  hf := tupleKeyHash (mixKind P w)
  eq_ := fun hu hb hc q => wpAny_eqBool_tuple hu hb hc q
  unseen := fun hb hy q => tup_unseen hb hy q
  byVal := fun hb q => tup_byVal hb q
  stays := fun {h h' k a b o es ep t} hb ho hd sb => by
    obtain ⟨o', its, n, e, c, d, i⟩ := hb
    have ne : b ≠ a := by
      rintro rfl
      rw [ho] at e
      cases e
      rw [hd] at d
      cases d
    exact ⟨o', its, n, (sb.2 b ne).trans e, c, d, i⟩
  keeps := fun {h h' k b} hb hk => by
    obtain ⟨o', its, n, e, c, d, i⟩ := hb
    exact ⟨o', its, n, hk b o' e, c, d, i⟩
end
end Fb

/-! Part S2: set comprehensions of tuples of ints and texts, and how many a set has. -/
namespace Fb
open PySem PySem.Spec PyProof.Rows L2
abbrev Keyed := List (Addr × List Key)
/-- what the set's object tells by itself -/
def MSet (P : Program) (w : World) (h : Heap) (a : Addr) (L : Keyed) : Prop := ∃ es ep t, (∃ o, h.get? a = some o ∧ o.ExactSet ∧ o.data = .set es ep t) ∧ es.toList = entries (mixT P w) L ∧ TabOk t (L.map fun p => (mixT P w).hf p.2) ∧ (L.map (·.2)).Nodup ∧
  (w.params.followText "set-order" = true ∨ t.led = true) ∧ L.length * 5 < t.mask * 3 ∧ L.length < 64
def MSetO (P : Program) (w : World) (a : Addr) (L : Keyed) : HO := .ext fun h => MSet P w h a L
theorem KSet.bare {P : Program} {w : World} {h : Heap} {a : Addr} {L : Keyed} {es : Array (Int × Value)} {ep : Nat} {t : SetTable} (R : KSet (mixT P w) h a L es ep t) : MSet P w h a L := ⟨es, ep, t, R.obj, R.ents, R.tab, R.once, R.ld, R.room, R.few⟩
theorem MSet.with {P : Program} {w : World} {h : Heap} {a : Addr} {L : Keyed} (R : MSet P w h a L) (al : ∀ p ∈ L, (mixT P w).at_ h p.2 p.1) : ∃ es ep t, KSet (mixT P w) h a L es ep t := by
  obtain ⟨es, ep, t, r1, r2, r3, r4, r5, r6, r7⟩ := R
  exact ⟨es, ep, t, r1, r2, r3, r4, al, r5, r6, r7⟩
theorem MSet.ok {P : Program} {w : World} {H : Hp} {h : Heap} {a : Addr} {L : Keyed} (R : MSet P w h a L) : ObjOk P w H h a (MSetO P w a L) := by
  have ⟨_, _, _, ⟨o, ho, _⟩, _⟩ := R
  refine ⟨R, ⟨o, ho⟩, fun h1 h2 p k => ?_⟩
  obtain ⟨es, ep, t, ⟨o', ho', r⟩, q⟩ := (show MSet P w h1 a L from p)
  exact ⟨es, ep, t, ⟨o', k o' ho', r⟩, q⟩
theorem keys_of {P : Program} {w : World} : ∀ {ks : List Key} {us : List Value}, Vals (ks.map kV) us → ItemsAre (mixKind P w) ks us
  | [], _, .nil => .nil
  | .inl i :: ks, _, .cons r q => by
    obtain ⟨t, rfl⟩ := r
    exact .cons (by show Value.isInt i (Value.int i t) = true; simp [Value.isInt]) (keys_of q)
  | .inr x :: ks, _, .cons r q => by
    obtain ⟨t, rfl⟩ := r
    exact .cons (by show Value.isStrOf x (Value.str x t) = true; simp [Value.isStrOf]) (keys_of q)
section
variable {X : Cx} {pins : List (Addr × Obj)} {σ : L2.St} {H : Hp} {s : Shared}
theorem mix_at (I : Inv X pins σ H s) {b : Addr} {k : List Key} (h : H b = some (.tup (k.map kV))) : (mixT X.prog X.w).at_ s.heap k b := by
  obtain ⟨_, its, r, o, ho, hc, n, hd⟩ := (show ObjOk X.prog X.w H s.heap b (.tup (k.map kV)) from I.hok b _ h)
  exact ⟨o, its.toArray, n, ho, hc, hd, by simpa using keys_of r⟩
/-- set.add -/
theorem add_mix {A : Around} {E : Value → Shared → Prop} {D b : Addr} {L : Keyed} {k : List Key} {Q : Value → Shared → Prop} (hA : A.units + 1 < cLine) (I : Inv X pins σ H s) (hD : H D = some (MSetO X.prog X.w D L)) (hb : H b = some (.tup (k.map kV))) (al : ∀ p ∈ L, H p.1 = some (.tup (p.2.map kV))) (few : L.length + 1 < 64)
    (q : ∀ s' L', (k ∈ L.map (·.2) → L' = L) → (k ∉ L.map (·.2) → L'.Perm ((b, k) :: L)) → Inv X pins σ (upd H D (MSetO X.prog X.w D L')) s' → Q .none s') : wpAny (model X.prog X.w) A (call (.builtin "set.add") [.ref D, .ref b]) Q E s := by
  obtain ⟨es, ep, t, R⟩ := MSet.with (I.hok D _ hD).1 fun p hp => mix_at I (al p hp)
  have kb := mix_at I hb
  obtain ⟨o, ho, hex, hd⟩ := R.obj
  have ty : s.TypeIs (.ref D) "set" := ⟨o, ho, hex.1⟩
  refine wpAny_call_entry F.slot_set_add ty F.entry_set_add ?_ (F.args_set_add_2 _ _)
  unfold Builtin.«set.add» Builtin.Frozenset.oneOther
  simp only [List.isEmpty_nil, bind_assoc]
  unfold Builtin.Frozenset.addrOf setAdd
  refine wpAny_bind (wpAny_pure ?_)
  try dsimp only
  refine wpAny_bind (wpAny_pure ?_)
  try dsimp only
  refine wpAny_bind (wpAny_holding ?_)
  refine wpAny_bind (wpAny_pyHash_tuple (by show A.in1.units < cLine; exact hA) kb ?_)
  refine add_key (N := mixT X.prog X.w) (s := { s with toks := s.toks + (k.length + 1) }) R kb (by show A.in1.units < cLine; exact hA) few fun r h' L' es' ep' t' sb R' y n => ?_
  show wpAny _ _ (ret Value.none) _ _ _
  refine wpAny_pure ⟨_, rfl, q _ L' y n ?_⟩
  have he : ∃ u, h'.get? D = some u := by
    obtain ⟨o', ho', _⟩ := R'.obj
    exact ⟨o', ho'⟩
  exact I.write (e := D) (t' := s.toks + (k.length + 1)) (by rw [hD]; trivial) (.inl rfl) (fun c u hc hu => (sb.2 c hc).trans hu) he R'.bare.ok
end
section
variable {X : Cx}
/-- {elt for target in iter if ..}, elt a tuple of ints and texts -/
def tScM (P : Program) (w : World) (wi : TI) (g : TG) (tt : TT) (te : TE) (vs : List Nat) : TE := fun σ H Q => wi σ H fun J H1 => ∀ D, H1 D = none → ∃ W : Nat → Nat → Hp → Prop, (∃ m, W 0 m (upd H1 D (MSetO P w D []))) ∧ ∀ i m H, W i m H →
  (J.stop i H ∧ Q (.ref D) H) ∨ (J.go i H ∧ ∃ Nx : Hp → Prop, (∀ H', Nx H' → ∃ m', m' < m ∧ W (i + 1) m' H') ∧ ∀ x H', J.yld i H x H' → g x (wipe σ vs) H' fun σ2 H2 => wipe σ2 vs = wipe σ vs ∧ tt σ2 H2 fun b H3 =>
    if b = true then te σ2 H3 fun y H4 => ∃ (c : Addr) (k : List Key) (L : Keyed), y = .ref c ∧ H4 c = some (.tup (k.map kV)) ∧ H4 D = some (MSetO P w D L) ∧ (∀ p ∈ L, H4 p.1 = some (.tup (p.2.map kV))) ∧ L.length + 1 < 64 ∧
      ∀ L', (k ∈ L.map (·.2) → L' = L) → (k ∉ L.map (·.2) → L'.Perm ((c, k) :: L)) → Nx (upd H4 D (MSetO P w D L')) else Nx H3)
theorem mset_new {P : Program} {w : World} {H : Hp} {h : Heap} : ObjOk P w H (h.push { cls := .type "set", dict := none, data := .set #[] 0 (.fresh 0 0 (!w.params.followText "set-order")) }) h.objs.size (MSetO P w h.objs.size []) :=
  (fresh_set (N := mixT P w) (Heap.get?_push_size _ rfl)).bare.ok
theorem pe_scM {elt tg iter : Expr} {ifs : List Expr} {scope : Scope} {own : List (Str × Nat)} {pos : Pos} {wi : TI} {g : TG} {tt : TT} {te : TE} (hu : X.A.units + 1 < cLine) (hc : X.calm = true) (hN : X.N.Nodup) (hi : PI X tg iter wi) (ok : BlkOk X.N X.env.scope scope own)
    (hg : ∀ (s : Shared) (H : Hp) (C : Addr) (cl : List (Str × Addr)) (fp : List Addr), PG (X.blk s H scope (compEnvC scope cl C X.env) fp) tg g)
    (ht : ∀ (s : Shared) (H : Hp) (C : Addr) (cl : List (Str × Addr)) (fp : List Addr), PTs (X.blk s H scope (compEnvC scope cl C X.env) fp) ifs tt)
    (he : ∀ (s : Shared) (H : Hp) (C : Addr) (cl : List (Str × Addr)) (fp : List Addr), PE (X.blk s H scope (compEnvC scope cl C X.env) fp) elt te)
    (hs : ∀ x, foldedSetIterable iter X.env x = pure x := by intro _; rfl) : PE X (.SetComp elt [⟨tg, iter, ifs, 0⟩] scope pos) (tScM X.prog X.w wi g tt te (own.map (·.2))) := by
  refine ⟨fun pins s σ H Q I h => ?_⟩
  rw [PpSet.eval_SetComp]
  have free : ∀ y ∈ scope.names, y.2 = .free → ∃ c, X.env.cells.lookup y.1 = some c := fun y hy e => (ok.free y hy e).elim (fun k => I.ok.has _ (.inl k)) fun k => I.ok.has _ (.inr k)
  refine wpAny_comprehension_free (use := none) rfl hs (closure_ok free) ok.kind (fun y hy e => by rw [ok.uniq y hy, e]) (thn (hi.run pins s σ H _ I h) fun xv s1 hx => thn hx fun itv s2 h2 => ?_)
  obtain ⟨it, fp, tn, J, H2, rfl, I2, T, st2, f2, q⟩ := h2
  refine PpSet.newSet_ok (newEnv_comp ?_)
  have nD : H2 s2.heap.objs.size = none := I2.hok.fresh (Nat.le_refl _)
  obtain ⟨W, ⟨m0, w0⟩, turn⟩ := q _ nD
  have I3 : Inv X pins σ (upd H2 s2.heap.objs.size (MSetO X.prog X.w s2.heap.objs.size [])) { s2 with heap := s2.heap.push { cls := .type "set", dict := none, data := .set #[] 0 (.fresh 0 0 (!X.w.params.followText "set-order")) } } :=
    I2.laid (t' := s2.toks) (fun b o e => Heap.get?_push_of_some _ e) (Nat.le_refl _) mset_new
  have small : ∀ b ∈ fp, b < s2.heap.objs.size := fun b hb => (T.obj _ _ st2 b hb).elim fun o e => Heap.lt_size e.1
  have size3 : (s2.heap.push { cls := .type "set", dict := none, data := .set #[] 0 (.fresh 0 0 (!X.w.params.followText "set-order")) }).objs.size = s2.heap.objs.size + 1 := Heap.size_push ..
  have st3 : tn 0 (s2.heap.push { cls := .type "set", dict := none, data := .set #[] 0 (.fresh 0 0 (!X.w.params.followText "set-order")) }) := T.keep _ _ _ st2 fun b _ o e => Heap.get?_push_of_some _ e
  generalize hD : s2.heap.objs.size = D at *
  generalize hs3 : ({ s2 with heap := s2.heap.push { cls := .type "set", dict := none, data := .set #[] 0 (.fresh 0 0 (!X.w.params.followText "set-order")) } } : Shared) = s3 at *
  have h3 : s3.heap = s2.heap.push { cls := .type "set", dict := none, data := .set #[] 0 (.fresh 0 0 (!X.w.params.followText "set-order")) } := by rw [← hs3]
  have f3 : ∀ b ∈ fp, FpOk X pins (upd H2 D (MSetO X.prog X.w D [])) b ∧ b < s3.heap.objs.size := fun b hb => by
    have l := small b hb
    refine ⟨⟨?_, (f2 b hb).2⟩, by rw [h3, size3]; exact Nat.lt_succ_of_lt l⟩
    rw [upd_ne (Nat.ne_of_lt l)]
    exact (f2 b hb).1
  have I4 := block_start I3 ok hN f3
  have n0 : ∀ b ∈ fp, (upd H2 D (MSetO X.prog X.w D [])) b = none := fun b hb => (f3 b hb).1.1
  generalize hH3 : upd H2 D (MSetO X.prog X.w D []) = H3 at *
  have pg := hg s3 H3 s3.heap.objs.size (cellsFrom (s3.heap.objs.size + 1) scope.names (cloFrom X.env.cells scope.names [])) fp
  have pt := ht s3 H3 s3.heap.objs.size (cellsFrom (s3.heap.objs.size + 1) scope.names (cloFrom X.env.cells scope.names [])) fp
  have pe := he s3 H3 s3.heap.objs.size (cellsFrom (s3.heap.objs.size + 1) scope.names (cloFrom X.env.cells scope.names [])) fp
  have top : (compEnvC scope (cellsFrom (s3.heap.objs.size + 1) scope.names (cloFrom X.env.cells scope.names [])) s3.heap.objs.size X.env).locals = s3.heap.objs.size := rfl
  show codeAny _ _ (.compStart (.SetComp elt [⟨tg, iter, ifs, 0⟩] scope pos) 0 (.ref it) (.ref D) (compEnvC scope (cellsFrom (s3.heap.objs.size + 1) scope.names (cloFrom X.env.cells scope.names [])) s3.heap.objs.size X.env)) _ { s3 with heap := pushCells (s3.heap.push { cls := .type "dict", data := .dict #[] }) scope.names }
  generalize compEnvC scope (cellsFrom (s3.heap.objs.size + 1) scope.names (cloFrom X.env.cells scope.names [])) s3.heap.objs.size X.env = ce at I4 pg pt pe top ⊢
  have st4 : tn 0 ({ s3 with heap := pushCells (s3.heap.push { cls := .type "dict", data := .dict #[] }) scope.names } : Shared).heap := T.keep _ _ _ (h3 ▸ st3) fun b _ o e => pushCells_keeps _ _ _ _ (Heap.get?_push_of_some _ e)
  generalize ({ s3 with heap := pushCells (s3.heap.push { cls := .type "dict", data := .dict #[] }) scope.names } : Shared) = s4 at I4 st4 ⊢
  have fps : ∀ {σ' : L2.St} {H' : Hp} {s' : Shared}, Inv (X.blk s3 H3 scope ce fp) [] σ' H' s' → (∀ b ∈ fp, H' b = none) → ∀ b ∈ fp, FpOk (X.blk s3 H3 scope ce fp) [] H' b := fun {σ' H' s'} I' hn b hb =>
    ⟨hn b hb, (I'.ok.exf b hb).1, I'.ok.exfs b hb, .inl hb, fun x c e => (I'.ok.exf b hb).2 x c e, fun p hp => absurd (show p ∈ ([] : List (Addr × Obj)) ++ [] from hp) (by simp)⟩
  have loop : codeAny (model X.prog X.w) X.A (.compLoop (.SetComp elt [⟨tg, iter, ifs, 0⟩] scope pos) 0 (.ref it) (.ref D) ce) (compPost (model X.prog X.w) X.A X.xe none (EP X pins σ Q) (.ref D) s3.heap.objs.size) s4 := by
    refine PpSet.compLoopS_any (fun n s' => ∃ i H', Inv (X.blk s3 H3 scope ce fp) [] (wipe σ (own.map (·.2))) H' s' ∧ tn i s'.heap ∧ (∀ b ∈ fp, H' b = none) ∧ W i n H') ?_ m0 ⟨0, H3, I4, st4, n0, w0⟩
    rintro n s5 ⟨i, H5, I5, st5, n5, w5⟩
    rcases turn i n H5 w5 with ⟨stop, fin⟩ | ⟨go, Nx, next, step⟩
    · refine thnF (T.done (X.blk s3 H3 scope ce fp) rfl rfl rfl hc i [] s5 _ H5 (fun _ _ => False) I5 (fps I5 n5) st5 stop) fun r s6 ⟨hr, I6⟩ => ?_
      subst hr
      have I7 : Inv X pins σ H5 s6 := I3.call' (ch := fp) I6.os I6.base I6.hok I6.bare fun b hb => let f := (f3 b hb).1; ⟨f.2.2.2.1, f.2.1, f.2.2.2.2.1, f.2.2.2.2.2⟩
      have nC : H5 s3.heap.objs.size = none := by
        have := (show H5 ce.locals = none from I6.free)
        rwa [top] at this
      obtain ⟨m, hn, _⟩ := I6.loc
      have hn : s6.heap.Ns s3.heap.objs.size m := by
        have := (show s6.heap.Ns ce.locals m from hn)
        rwa [top] at this
      obtain ⟨g0, g1, g2, g3, g4, g5⟩ := I3.fpOk (Nat.le_refl _) nC
      exact ⟨m, hn, fun h'' sb => ⟨.ref D, H5, I7.turned (t' := s6.toks) (fun b o hb e => (sb.2 b hb).trans e) g0 g1 g3 g4 g5, rfl, fin⟩⟩
    · refine thnF (T.item (X.blk s3 H3 scope ce fp) rfl rfl rfl hc i [] s5 _ H5 (fun _ _ => False) I5 (fps I5 n5) st5 go) fun r s6 ⟨u, hr, h6⟩ => ?_
      subst hr
      refine thnF h6 fun _ s7 ⟨x, H7, I7, r7, y7, st7, n7⟩ => ?_
      refine thnF (pg.run _ s7 _ H7 x u _ (I7.pinned (fps I7 n7) (T.obj _ _ st7)) r7 (step x H7 y7)) fun _ s8 ⟨σ8, H8, I8, hw8, q8⟩ => ?_
      refine thnF (pt.run _ s8 σ8 H8 _ I8 q8) fun b s9 ⟨H9, I9, q9⟩ => ?_
      have on : ∀ {s' : Shared} {H' : Hp}, Inv (X.blk s3 H3 scope ce fp) ([] ++ pinsAt fp s7.heap) σ8 H' s' → Nx H' → ∃ m, m < n ∧ ∃ i H', Inv (X.blk s3 H3 scope ce fp) [] (wipe σ (own.map (·.2))) H' s' ∧ tn i s'.heap ∧ (∀ b ∈ fp, H' b = none) ∧ W i m H' := fun {s' H'} I' nx => by
        obtain ⟨m', hm, w'⟩ := next H' nx
        have pin : ∀ b ∈ fp, ∀ o, s7.heap.get? b = some o → s'.heap.get? b = some o ∧ H' b = none := fun b hb o e =>
          let z := I'.pin (b, o) (List.mem_append_right _ (List.mem_append_right _ (mem_pinsAt hb e)))
          ⟨z.1, z.2.1⟩
        refine ⟨m', hm, i + 1, H', (I'.unpinned (pins := [])).weak (by rw [← hw8, wipe_length]) (fun j v e => ?_), T.keep _ _ _ st7 fun b hb o e => (pin b hb o e).1, fun b hb => ?_, w'⟩
        · rw [← hw8] at e
          exact (wipe_some e).1
        · obtain ⟨o, e, _⟩ := T.obj _ _ st7 b hb
          exact (pin b hb o e).2
      cases b with
      | false =>
        simp only [Bool.false_eq_true, if_false] at q9 ⊢
        exact on I9 q9
      | true =>
        simp only [if_true] at q9 ⊢
        refine thnF (pe.run _ s9 σ8 H9 _ I9 q9) fun z s10 ⟨yv, H10, I10, r10, c, k, L, ey, ec, eD, al, few, nx⟩ => ?_
        subst ey
        cases r10
        exact add_mix (X := X.blk s3 H3 scope ce fp) hu I10 eD ec al few fun s11 L' y' n' I11 => on I11 (nx L' y' n')
  exact PpSet.codeAny_compStart_set loop (T.self X.A 0 _ _ _ st4 loop)
/-- how many it has -/
theorem call_lenM : CallR X (.builtin "len") (fun xs H Q => ∃ (a : Addr) (L : Keyed), xs = [.ref a] ∧ H a = some (MSetO X.prog X.w a L) ∧ Q (.int L.length) H) := by
  intro pins s σ H xs us Q I r h
  obtain ⟨a, L, rfl, ha, q⟩ := h
  obtain ⟨u, rfl, ru⟩ := vals1 r
  cases ru
  obtain ⟨es, ep, t, ⟨o, ho, hex, hd⟩, he, T, _, _, room, few⟩ := (I.hok a _ ha).1
  have ln := entries_len he
  have sz := T.sz
  rw [List.length_map] at sz
  refine call_len_set ho hex hd (fits_by (by omega) T.dm (by omega)) (by omega) ?_
  refine ⟨.int L.length, H, I.kept (t' := s.toks + 1 + 1) fun _ _ e => e, ⟨s.toks + 1, ?_⟩, q⟩
  rw [ln]
end
end Fb

/-! Part S3: sorted of steps: tuples of a room, a sign and a tuple, no two of the same room and sign. -/
namespace Fb
open PySem PySem.Spec PyProof.Rows L2
/-! ### the order -/
abbrev RS := Int × Str
def rsLt (a b : RS) : Bool := decide (a.1 < b.1) || (decide (a.1 = b.1) && decide (a.2.cps.toList < b.2.cps.toList))
theorem rsLt_iff {a b : RS} : rsLt a b = true ↔ a.1 < b.1 ∨ (a.1 = b.1 ∧ a.2.cps.toList < b.2.cps.toList) := by
  simp [rsLt]
theorem rsLt_irr (a : RS) : rsLt a a = false := by
  cases h : rsLt a a with
  | false => rfl
  | true =>
    rcases rsLt_iff.mp h with h | ⟨_, h⟩
    · omega
    · exact absurd h (List.lt_irrefl _)
theorem rsLt_trans {a b c : RS} (h1 : rsLt a b = true) (h2 : rsLt b c = true) : rsLt a c = true := by
  rcases rsLt_iff.mp h1 with h1 | ⟨e1, h1⟩ <;> rcases rsLt_iff.mp h2 with h2 | ⟨e2, h2⟩ <;> refine rsLt_iff.mpr ?_
  · left; omega
  · left; omega
  · left; omega
  · right; exact ⟨by omega, List.lt_trans h1 h2⟩
theorem str_ext {x y : Str} (h : x.cps.toList = y.cps.toList) : x = y := by
  cases x
  cases y
  congr 1
  exact Array.ext' h
theorem rsLt_total {a b : RS} (h1 : rsLt a b = false) (h2 : rsLt b a = false) : a = b := by
  have n1 : ¬ (a.1 < b.1 ∨ (a.1 = b.1 ∧ a.2.cps.toList < b.2.cps.toList)) := fun h => by rw [rsLt_iff.mpr h] at h1; cases h1
  have n2 : ¬ (b.1 < a.1 ∨ (b.1 = a.1 ∧ b.2.cps.toList < a.2.cps.toList)) := fun h => by rw [rsLt_iff.mpr h] at h2; cases h2
  have e1 : a.1 = b.1 := by
    have : ¬ a.1 < b.1 := fun h => n1 (.inl h)
    have : ¬ b.1 < a.1 := fun h => n2 (.inl h)
    omega
  have l1 : ¬ a.2.cps.toList < b.2.cps.toList := fun h => n1 (.inr ⟨e1, h⟩)
  have l2 : ¬ b.2.cps.toList < a.2.cps.toList := fun h => n2 (.inr ⟨e1.symm, h⟩)
  have e2 : a.2 = b.2 := str_ext (List.le_antisymm (List.not_lt.mp l2) (List.not_lt.mp l1))
  exact Prod.ext e1 e2
/-- how many of l stand before k -/
def rk (l : List RS) (k : RS) : Int := (l.countP fun x => rsLt x k : Nat)
theorem countP_le {α : Type} {p q : α → Bool} : ∀ {l : List α}, (∀ x ∈ l, p x = true → q x = true) → l.countP p ≤ l.countP q
  | [], _ => Nat.le_refl _
  | x :: l, h => by
    have ih := countP_le (p := p) (q := q) (l := l) fun y hy => h y (List.mem_cons_of_mem _ hy)
    have hx := h x List.mem_cons_self
    rw [List.countP_cons, List.countP_cons]
    cases e : p x
    · simp only [Bool.false_eq_true, if_false]
      omega
    · rw [hx e]
      omega
theorem countP_lt {α : Type} {p q : α → Bool} : ∀ {l : List α}, (∀ x ∈ l, p x = true → q x = true) → (∃ x ∈ l, p x = false ∧ q x = true) → l.countP p < l.countP q
  | [], _, h => by simp at h
  | x :: l, h, ⟨y, hy, py, qy⟩ => by
    have le := countP_le (p := p) (q := q) (l := l) fun y hy => h y (List.mem_cons_of_mem _ hy)
    have hx := h x List.mem_cons_self
    rw [List.countP_cons, List.countP_cons]
    rcases List.mem_cons.mp hy with rfl | hy
    · rw [py, qy]
      simp only [Bool.false_eq_true, if_false, if_true]
      omega
    · have lt := countP_lt (p := p) (q := q) (l := l) (fun y hy => h y (List.mem_cons_of_mem _ hy)) ⟨y, hy, py, qy⟩
      cases e : p x
      · simp only [Bool.false_eq_true, if_false]
        omega
      · rw [hx e]
        omega
theorem rk_lt {l : List RS} {a b : RS} (ha : a ∈ l) (hb : b ∈ l) : decide (rk l a < rk l b) = rsLt a b := by
  cases h : rsLt a b with
  | true =>
    refine decide_eq_true ?_
    have := countP_lt (p := fun x => rsLt x a) (q := fun x => rsLt x b) (l := l) (fun x _ hx => rsLt_trans hx h) ⟨a, ha, rsLt_irr a, h⟩
    unfold rk
    omega
  | false =>
    refine decide_eq_false ?_
    have : (l.countP fun x => rsLt x b) ≤ l.countP fun x => rsLt x a := by
      cases h2 : rsLt b a with
      | true => exact countP_le fun x _ hx => rsLt_trans hx h2
      | false => rw [rsLt_total h h2]; exact Nat.le_refl _
    unfold rk
    omega
/-! ### steps in the model's heap -/
section
variable {P : Program} {w : World}
/-- v is a tuple of the room and the sign of k, and a tuple -/
def StepIn (P : Program) (w : World) (h : Heap) (v : Value) (k : RS) : Prop :=
  ∃ (t wa : Addr) (o : Obj) (n : Nat) (t1 t2 : Tok) (ks : List Key), v = .ref t ∧ h.get? t = some o ∧ o.cls = .type "tuple" ∧ o.data = .seq #[.int k.1 t1, .str k.2 t2, .ref wa] n ∧ IsTupleKey (mixKind P w) h ks wa
theorem StepIn.keeps {h h' : Heap} {v : Value} {k : RS} (x : StepIn P w h v k) (kp : ∀ b o, h.get? b = some o → o.cls = .type "tuple" → h'.get? b = some o) : StepIn P w h' v k := by
  obtain ⟨t, wa, o, n, t1, t2, ks, e, ho, hc, hd, o3, it3, n3, ho3, hc3, r3⟩ := x
  exact ⟨t, wa, o, n, t1, t2, ks, e, kp _ _ ho hc, hc, hd, o3, it3, n3, kp _ _ ho3 hc3, hc3, r3⟩
theorem firsts {h : Heap} {kf : Value → RS} : ∀ vs : List Value, (∀ v ∈ vs, StepIn P w h v (kf v)) → ∃ fs : List Value, PySem.W.KatTups h vs fs ∧ fs.length = vs.length ∧ ∀ f ∈ fs, ∃ i t, f = Value.int i t
  | [], _ => ⟨[], PySem.W.KatTups.nil, rfl, fun f hf => by cases hf⟩
  | v :: vs, x => by
    obtain ⟨fs, k, hl, hi⟩ := firsts vs fun u hu => x u (List.mem_cons_of_mem _ hu)
    obtain ⟨t, wa, o, n, t1, t2, ks, rfl, ho, hc, hd, _⟩ := x v List.mem_cons_self
    refine ⟨.int _ t1 :: fs, PySem.W.KatTups.cons ho hc hd rfl k, by rw [List.length_cons, List.length_cons, hl], fun f hf => ?_⟩
    rcases List.mem_cons.mp hf with rfl | hf
    · exact ⟨_, _, rfl⟩
    · exact hi f hf
theorem kind_steps {A : Around} {E : Value → Shared → Prop} {s : Shared} {vs : List Value} {kf : Value → RS} {r : Value → Int} (h2 : 2 ≤ vs.length) (hu : A.units < cLine) (x : ∀ v ∈ vs, StepIn P w s.heap v (kf v)) (one : ∀ v ∈ vs, ∀ u ∈ vs, kf v = kf u → v = u)
    (hr : ∀ v ∈ vs, ∀ u ∈ vs, decide (r v < r u) = rsLt (kf v) (kf u)) (Q : SortKind → Shared → Prop) (h : ∀ κ, TS.Cmp P w A s κ (pairsOf vs) r → Q κ s) : wpAny (model P w) A (keyKind' vs.toArray) Q E s := by
  obtain ⟨fs, k, hl, hi⟩ := firsts vs x
  refine PySem.W.kat_kind (T := Value.type "int") k (by omega) (fun f hf => ?_) rfl (h _ ?_)
  · obtain ⟨i, t, rfl⟩ := hi f hf
    exact PySem.W.Looks.of_pure rfl
  · intro p q hp hq Q' E' hQ
    rw [pairsOf_toList] at hp hq
    have mp := (mem_zip_self hp).2
    have mq := (mem_zip_self hq).2
    have hQ : Q' (rsLt (kf p.1) (kf q.1)) s := by
      rw [← hr _ mp _ mq]
      exact hQ
    have same := one _ mp _ mq
    obtain ⟨t, wa, o, n, t1, t2, ks, e1, ho, hc, hd, kw⟩ := x _ mp
    obtain ⟨t', wa', o', n', t1', t2', ks', e2, ho', hc', hd', kw'⟩ := x _ mq
    rw [e1, e2]
    rw [e1, e2] at same
    have same : kf p.1 = kf q.1 → t = t' := fun e => by
      rw [e1, e2] at e
      have := same e
      cases this
      rfl
    generalize kf p.1 = a at *
    generalize kf q.1 = b at *
    refine PySem.W.kat_lt ho hd ho' hd' ?_
    show PySem.W.KatLex P w A true false Q' [(.int a.1 t1, .int b.1 t1'), (.str a.2 t2, .str b.2 t2'), (.ref wa, .ref wa')] 0 s
    refine PySem.W.kat_cons (wpAny_eqBool_int ?_)
    refine PySem.W.kat_go (fun e => PySem.W.kat_yes ?_) (fun e => PySem.W.kat_no ?_)
    · have e := of_decide_eq_true e
      refine PySem.W.kat_cons (wpAny_eqBool_str ?_)
      refine PySem.W.kat_go (fun e' => PySem.W.kat_yes ?_) (fun e' => PySem.W.kat_no ?_)
      · have e' := of_decide_eq_true e'
        have ab : a = b := Prod.ext e e'
        have tt := same ab
        subst tt
        rw [ho] at ho'
        cases ho'
        rw [hd] at hd'
        have hw : wa = wa' := by
          have := (Data.seq.inj hd').1
          simp at this
          exact this.2.2
        subst hw
        rw [ab, rsLt_irr] at hQ
        refine PySem.W.kat_cons (wpAny_eqBool_tuple hu kw kw ?_)
        refine PySem.W.kat_go (fun _ => PySem.W.kat_yes (PySem.W.kat_nil hQ)) (fun z => ?_)
        rw [decide_eq_true rfl] at z
        cases z
      · show wpAny _ _ (oneLt' false _ _) _ _ _
        refine PySem.W.kat_one _ _ (lt_str ?_)
        have : rsLt a b = decide (a.2.cps.toList < b.2.cps.toList) := by
          unfold rsLt
          rw [decide_eq_false (by omega), decide_eq_true e]
          rfl
        rw [this] at hQ
        exact hQ
    · show wpAny _ _ (oneLt' true _ _) _ _ _
      refine oneLt_int ?_
      have ne : ¬ a.1 = b.1 := by simpa using e
      have : rsLt a b = decide (a.1 < b.1) := by
        unfold rsLt
        rw [decide_eq_false ne, Bool.false_and, Bool.or_false]
      rw [this] at hQ
      exact hQ
theorem sort_steps {A : Around} {E : Value → Shared → Prop} {s : Shared} {a : Addr} {vs : List Value} {n : Nat} {Q : PySem.Fin → Shared → Prop} {kf : Value → RS} (ho : s.heap.get? a = some (seqObj "list" vs.toArray n)) (h64 : vs.length < 64) (hu : A.units < cLine)
    (x : ∀ v ∈ vs, StepIn P w s.heap v (kf v)) (one : ∀ v ∈ vs, ∀ u ∈ vs, kf v = kf u → v = u)
    (h : ∀ out : Array Value, out.toList.Perm vs → out.toList.Pairwise (fun u v => rsLt (kf v) (kf u) = false) → Q (.done (.ret .none)) { s with heap := sortedHeap s.heap a vs out }) : wpAny (model P w) A (Builtin.«list.sort» ⟨[.ref a], []⟩) Q E s := by
  have keep : ∀ b o, s.heap.get? b = some o → o.cls = .type "tuple" → (TS.midHeap s.heap a vs).get? b = some o := fun b o e hc => by
    refine TS.midHeap_old ?_ e
    rintro rfl
    rw [ho] at e
    cases e
    exact absurd (Value.type.inj hc) (by decide)
  have hr : ∀ v ∈ vs, ∀ u ∈ vs, decide (rk (vs.map kf) (kf v) < rk (vs.map kf) (kf u)) = rsLt (kf v) (kf u) := fun v hv u hu => rk_lt (List.mem_map_of_mem hv) (List.mem_map_of_mem hu)
  refine SK.plain_sort (r := fun v => rk (vs.map kf) (kf v)) ho h64 (fun h2 Q' hQ => ?_) fun ps out h1 h2 h3 => ?_
  · exact kind_steps (s := { s with heap := TS.midHeap s.heap a vs }) h2 hu (fun v hv => (x v hv).keeps keep) one hr Q' hQ
  · obtain ⟨p, o⟩ := TS.out_rank (r := fun v => rk (vs.map kf) (kf v)) h1 h2 h3
    refine h out p (List.Pairwise.imp_of_mem (fun {u v} hu hv hle => ?_) o)
    rw [← hr v (p.mem_iff.mp hv) u (p.mem_iff.mp hu)]
    exact decide_eq_false (by omega)
end
section
variable {X : Cx}
theorem step_in {pins : List (Addr × Obj)} {σ : L2.St} {H : Hp} {s : Shared} (I : Inv X pins σ H s) {t wa : Addr} {k : RS} {ks : List Key} (h : H t = some (.tup [.int k.1, .str k.2, .ref wa])) (hw : H wa = some (.tup (ks.map kV))) : StepIn X.prog X.w s.heap (.ref t) k := by
  obtain ⟨_, its, r, o, ho, hc, n, hd⟩ := (show ObjOk X.prog X.w H s.heap t _ from I.hok t _ h)
  cases r with
  | cons r1 r =>
  cases r with
  | cons r2 r =>
  cases r with
  | cons r3 r =>
  cases r
  obtain ⟨t1, rfl⟩ := r1
  obtain ⟨t2, rfl⟩ := r2
  cases r3
  exact ⟨t, wa, o, n, t1, t2, ks, rfl, ho, hc, hd, mix_at I hw⟩
/-- sorted(xs), xs a list of steps, no two of the same room and sign -/
def rSortS (K : PySem.W.Frag) : List V → Hp → VK → Prop := fun vs H Q => ∃ (a : Addr) (xs : List V) (kf : V → RS), vs = [V.ref a] ∧ SqL K H a xs ∧ xs.length < 64 ∧ (∀ x ∈ xs, ∃ t wa ks, x = .ref t ∧ H t = some (.tup [.int (kf x).1, .str (kf x).2, .ref wa]) ∧ H wa = some (.tup (List.map kV ks))) ∧
  (∀ x ∈ xs, ∀ y ∈ xs, kf x = kf y → x = y) ∧ ∀ (ys : List V) (p : Addr), ys.Perm xs → ys.Pairwise (fun x y => rsLt (kf y) (kf x) = false) → H p = none → Q (.ref p) (upd H p (.lst ys))
theorem cr_sortS (hu : X.A.units + 2 < cLine) : CallR X (.builtin "sorted") (rSortS X.K) := by
  intro pins s σ H vs us Q I r h
  obtain ⟨a, xs, kf, rfl, hs, h64, hx, one, q⟩ := h
  obtain ⟨its, rv, hl, hz⟩ := I.list hs
  rw [Vals.ref1 r]
  obtain ⟨e1, e2⟩ := bkV_refs rv fun x m => by
    obtain ⟨t, _, _, e, _⟩ := hx x m
    exact ⟨t, e⟩
  have st : ∀ v ∈ its, StepIn X.prog X.w s.heap v (kf (bkV v)) := fun v hv => by
    obtain ⟨t, rfl⟩ := e2 v hv
    obtain ⟨t', wa, ks, e, h1, h2⟩ := hx (.ref t) (by rw [e1]; exact List.mem_map.mpr ⟨_, hv, rfl⟩)
    cases e
    exact step_in I h1 h2
  have on : ∀ v ∈ its, ∀ u ∈ its, kf (bkV v) = kf (bkV u) → v = u := fun v hv u hu e => by
    have := one (bkV v) (by rw [e1]; exact List.mem_map_of_mem hv) (bkV u) (by rw [e1]; exact List.mem_map_of_mem hu) e
    obtain ⟨t, rfl⟩ := e2 v hv
    obtain ⟨t', rfl⟩ := e2 u hu
    cases this
    rfl
  have n64 : its.length < 64 := by rw [← rv.length]; exact h64
  refine Calls.call_function_entry kind_sorted plain_sorted entry_sorted (args_sorted1 _) ?_
  unfold Builtin.«sorted»
  refine wpAny_bind (m := checkCount "sorted" 1 1 _) (wpAny_pure ?_)
  refine wpAny_bind (collect_list hl.isList ?_ (by rw [sizeLine_eq]; omega))
  refine wpAny_bind (wpAny_newList ?_ (by rw [sizeLine_eq]; omega))
  have sz : ((s.heap.push (seqObj "list" #[] 0)).update s.heap.objs.size (Obj.mapSeq (· ++ its.toArray))).objs.size = s.heap.objs.size + 1 := (Heap.size_update ..).trans (size_push' _ _)
  have new : (((s.heap.push (seqObj "list" #[] 0)).update s.heap.objs.size (Obj.mapSeq (· ++ its.toArray))).push (seqObj "list" its.toArray 0)).get? (s.heap.objs.size + 1) = some (seqObj "list" its.toArray 0) := sz ▸ Heap.get?_push_size _ rfl
  have old : ∀ b o, s.heap.get? b = some o → (((s.heap.push (seqObj "list" #[] 0)).update s.heap.objs.size (Obj.mapSeq (· ++ its.toArray))).push (seqObj "list" its.toArray 0)).get? b = some o := fun b o e => by
    have l : b < s.heap.objs.size := Heap.lt_size e
    rw [Heap.get?_push_ne _ _ _ (by rw [sz]; exact Nat.ne_of_lt (Nat.lt_succ_of_lt l)), Heap.get?_update_ne _ _ _ _ (Nat.ne_of_lt l), Heap.get?_push_ne _ _ _ (Nat.ne_of_lt l)]
    exact e
  show wpAny _ _ _ _ _ { s with heap := ((s.heap.push (seqObj "list" #[] 0)).update s.heap.objs.size (Obj.mapSeq (· ++ its.toArray))).push (seqObj "list" its.toArray 0) }
  rw [sz]
  refine wpAny_bind (wpAny_holding (wpAny_call_entry slot_list_sort ⟨_, new, rfl⟩ entry_list_sort (sort_steps (kf := fun v => kf (bkV v)) new n64 (by show X.A.units + 2 < cLine; exact hu) (fun v hv => (st v hv).keeps fun b o e _ => old b o e) on fun out a1 a2 => ⟨_, rfl, ?_⟩) (args_list_sort _)))
  refine wpAny_pure ⟨_, rfl, ?_⟩
  obtain ⟨ep, he'⟩ := PyProof.Rows.sortedAll_at s.heap its out
  have h3 : ∀ u ∈ out.toList, ∃ a, u = Value.ref a := fun u hu => e2 u (a1.mem_iff.mp hu)
  have hp : (out.toList.map bkV).Perm xs := by
    rw [e1]
    exact a1.map bkV
  refine ⟨.ref _, upd H (s.heap.objs.size + 1) (.lst (out.toList.map bkV)), I.laid (t' := s.toks) (fun _ _ => PyProof.Rows.sortedAll_old) (Nat.le_succ _) ⟨by rw [hp.length_eq]; exact hz, out.toList, ep, bkV_vals h3, he'⟩, rfl, q _ _ hp ?_ (I.hok.fresh (Nat.le_succ _))⟩
  rw [List.pairwise_map]
  exact a2
end
end Fb

/-! Part S4: enumerate of a tuple. -/
namespace Fb
open PySem PySem.Spec PyProof.Rows L2
open AutoSeq1 (wpAny_loadPart')
set_option maxHeartbeats 1000000 in
theorem meets_enumT (l : Addr) (items : Array Value) :
    Meets (Builtin.«enumerate.__new__» ⟨[.type "enumerate", .ref l], []⟩) (fun _ R s => s.heap.IsTuple l items ∧
      R (.ok (.ret (.ref (s.heap.push { cls := .type "tuple_iterator", data := .fields #[.ref l, .int 0 0] }).objs.size)))
        { s with heap := (s.heap.push { cls := .type "tuple_iterator", data := .fields #[.ref l, .int 0 0] }).push { cls := .type "enumerate", data := .fields #[.none, .bool false, .ref s.heap.objs.size, rawInt 0, .none, .none] } }) :=
  .of_wp fun prog w A R s h => by
    obtain ⟨hp, g, d, tk, os⟩ := s; obtain ⟨hL, h⟩ := h
    have hsub := sub_enumerate
    have q1 : ∀ {A' : Around} {E : Value → Shared → Prop} {Q : Value → Shared → Prop}, Q (.ref hp.objs.size) ⟨hp.push { cls := .type "tuple_iterator", data := .fields #[.ref l, .int 0 0] }, g, d, tk, os⟩ → wpAny (model prog w) A' (pyIter (.ref l)) Q E ⟨hp, g, d, tk, os⟩ :=
      fun q => wpAny_pyIter_tuple hL q
    wp_walk using q1
    refine wpAny_stack_any fun st => wpAny_pure ?_
    split
    · rename_i c _ _ _ _ _
      cases (c == Value.type "enumerate")
      · wp_walk using q1
        exact ⟨_, rfl, h⟩
      · wp_walk using q1
        exact ⟨_, rfl, h⟩
    · wp_walk using q1
      exact ⟨_, rfl, h⟩
theorem call_enumT {prog : Program} {w : World} {A : Around} {E : Value → Shared → Prop} {s : Shared} {l : Addr} {items : Array Value} {Q : Value → Shared → Prop} (hL : s.heap.IsTuple l items)
    (h : ∀ h', IsEnum h' (s.heap.objs.size + 1) s.heap.objs.size 0 .none → h'.IsTupleIter s.heap.objs.size l 0 → h'.objs.size = s.heap.objs.size + 2 →
      (∀ b o, s.heap.get? b = some o → h'.get? b = some o) → Q (.ref (s.heap.objs.size + 1)) { s with heap := h' }) :
    wpAny (model prog w) A (call (.type "enumerate") [.ref l]) Q E s := by
  refine callType_new F.called_enumerate (by decide) (F.typeCall_enumerate_1 _) (F.newCall_enumerate_1 _) (fun obj => F.args_object_init_2 obj _) F.entry_enumerate_new
    (meets_enumT l items) ⟨hL, ?_⟩
  have hz : (s.heap.push { cls := .type "tuple_iterator", data := .fields #[.ref l, .int 0 0] }).objs.size = s.heap.objs.size + 1 := Heap.size_push ..
  show _ ∧ _
  rw [hz]
  have he : IsEnum ((s.heap.push { cls := .type "tuple_iterator", data := .fields #[.ref l, .int 0 0] }).push
      { cls := .type "enumerate", data := .fields #[.none, .bool false, .ref s.heap.objs.size, rawInt 0, .none, .none] }) (s.heap.objs.size + 1) s.heap.objs.size 0 .none := by
    have := Heap.get?_push_size (s.heap.push { cls := .type "tuple_iterator", data := .fields #[.ref l, .int 0 0] })
      (o := { cls := .type "enumerate", data := .fields #[.none, .bool false, .ref s.heap.objs.size, rawInt 0, .none, .none] }) rfl
    rw [hz] at this; exact this
  refine ⟨⟨_, he, rfl⟩, h _ he ⟨_, Heap.get?_push_of_some _ (Heap.get?_push_size _ rfl), rfl, rfl⟩ (by rw [Heap.size_push, hz]) fun b o x => Heap.get?_push_of_some _ (Heap.get?_push_of_some _ x)⟩
/-- the tuple at a, each item in a new pair -/
def IteT (K : PySem.W.Frag) (a : Addr) : It :=
  ⟨fun i H => ∃ (xs : List V) (x : V), SqT K H a xs ∧ xs[i]? = some x, fun i H v H' => ∃ T x, v = .ref T ∧ H T = none ∧ H' = upd H T (.tup [.int (i : Nat), x]) ∧ ∀ xs, SqT K H a xs → xs[i]? = some x, fun i H => ∃ xs : List V, SqT K H a xs ∧ xs.length ≤ i⟩
theorem turn_enumT {P : Program} {w : World} {K : PySem.W.Frag} {elts : List Expr} {kk : Nat} {tpos : Pos} (a e it : Addr) :
    Turn P w K (.Tuple elts kk tpos) (IteT K a) [e, it] e (fun i h => (∃ old, IsEnum h e it ((i : Nat) : Int) old) ∧ h.IsTupleIter it a i ∧ e ≠ it) where
  mem := by simp
  obj := fun i h st b hb => by
    obtain ⟨⟨old, he⟩, ⟨o, ho, hc, hd⟩, _⟩ := st
    have e' : b = e ∨ b = it := by simpa using hb
    rcases e' with z | z
    · rw [z]; exact ⟨_, he, fun v q => nomatch q⟩
    · rw [z]; exact ⟨o, ho, fun v q => by rw [hd] at q; cases q⟩
  keep := fun i h h' st k => let ⟨⟨old, he⟩, hi, hne⟩ := st; ⟨⟨old, k e (by simp) _ he⟩, hi.at fun o q => k it (by simp) o q, hne⟩
  item := by
    intro X hP hw hK hc i pins s σ H E I hf st hg
    subst hP hw hK
    obtain ⟨⟨old, he⟩, hit, hne⟩ := st
    obtain ⟨xs, x, hq, hx⟩ := hg
    obtain ⟨its, rv, p, hz⟩ := I.tuple hq
    obtain ⟨u, hu, ru⟩ := rv.get hx
    have hel : e < s.heap.objs.size := Heap.lt_size he
    have hil : it < s.heap.objs.size := by obtain ⟨_, q, _⟩ := hit; exact Heap.lt_size q
    have pt : s.heap.IsTuple a its.toArray := p
    have hai : a ≠ it := by
      rintro rfl
      obtain ⟨o1, e1, c1, _⟩ := pt
      obtain ⟨o2, e2, c2, _⟩ := hit
      rw [e1] at e2
      cases e2
      rw [c1] at c2
      exact absurd (Value.type.inj c2) (by decide)
    have hea : e ≠ a := by
      rintro rfl
      obtain ⟨o1, e1, c1, _⟩ := pt
      have e2 := e1.symm.trans he
      cases e2
      exact absurd (Value.type.inj c1) (by decide)
    have hil' : i < its.toArray.size := by
      have := (List.getElem?_eq_some_iff.mp hu).1
      simpa using this
    refine wpAny_pyNext_enum_itemD (Draws.tuple (prog := X.prog) (w := X.w) (A := X.A.in1) (show X.A.in1.handled = none from I.ok.hd hc) it a hai its.toArray) he ⟨hit, pt⟩ hil' hne (by simp [hne, hea]) fun x' h' tk hP ho hst hT hsz hk => ?_
    have hux : x' = u := by
      have h1 : its[i]? = some x' := by simpa using hP
      rw [hu] at h1
      exact (Option.some.inj h1).symm
    subst hux
    obtain ⟨hit', _⟩ := hst
    refine ⟨_, rfl, wpAny_letOwnedTupleGo_enum (s := { s with heap := h', toks := tk + 1 }) ho fun h'' he' sb => ?_⟩
    have hT2 : h''.get? s.heap.objs.size = some { cls := .type "tuple", data := .seq #[.int i tk, x'] } := (sb.2 _ (Nat.ne_of_gt hel)).trans hT
    have new : ObjOk X.prog X.w (upd H s.heap.objs.size (.tup [.int (i : Nat), x])) h'' s.heap.objs.size (.tup [.int (i : Nat), x]) :=
      ⟨by show 2 ≤ sizeLine; decide, [.int i tk, x'], .cons ⟨_, rfl⟩ (.cons ru .nil), ⟨_, hT2, rfl, _, rfl⟩⟩
    have I1 : Inv X pins σ (upd H s.heap.objs.size (.tup [.int (i : Nat), x])) { s with heap := h'', toks := tk + 1 } :=
      I.turnedNew (ch := [e, it]) (fun b ob hb q => (sb.2 b (fun z => hb (by simp [z]))).trans (hk b ob (fun z => hb (by simp [z])) (fun z => hb (by simp [z])) q)) hf (Nat.le_refl _) new
    refine ⟨.ref s.heap.objs.size, _, I1, rfl, ⟨_, x, rfl, I.hok.fresh (Nat.le_refl _), rfl, fun ys hy => by rw [I.tuple_inj hy hq]; exact hx⟩, ⟨⟨x', ?_⟩, hit'.at fun o q => (sb.2 it (Ne.symm hne)).trans q, hne⟩, fun b hb => ?_⟩
    · have e1 : ((i + 1 : Nat) : Int) = (i : Int) + 1 := by omega
      rw [e1]; exact he'
    · have hb' : b < s.heap.objs.size := by
        have e' : b = e ∨ b = it := by simpa using hb
        rcases e' with z | z
        · rw [z]; exact hel
        · rw [z]; exact hil
      rw [upd_ne (Nat.ne_of_lt hb')]
      exact (hf b hb).1
  done := by
    intro X hP hw hK hc i pins s σ H E I hf st hg
    subst hP hw hK
    obtain ⟨⟨old, he⟩, hit, hne⟩ := st
    obtain ⟨xs, hq, hx⟩ := hg
    obtain ⟨its, rv, p, hz⟩ := I.tuple hq
    obtain ⟨f0, f1, f2, f3, f4, f5⟩ := hf it (by simp)
    have hl := rv.length
    have hT : s.TypeIs (.ref e) "enumerate" := ⟨_, he, rfl⟩
    unfold pyNext
    refine wpAny_bind (wpAny_attempt (wpAny_callSpecial?_slot (name := Str.ofString "__next__") hT F.slot_enumerate_next
      (wpAny_call_entry F.slot_enumerate_next hT F.entry_enumerate_next ?_ (F.args_enumerate_next_1 _))))
    show wpAny _ _ (field (.ref e) 2 >>= _) _ _ _
    refine wpAny_bind (wpAny_field he rfl (x := .ref it) rfl ?_)
    refine wpAny_bind (wpAny_nextOf_tuple_end (I.ok.hd hc) hit p (by simp; omega) fun h' x he' hx' => ?_)
    obtain ⟨o, ho, hc⟩ := hx'
    refine wpAny_bind (wpAny_isInstance (T := "StopIteration") (b := true) ⟨o, ho, hc⟩ isSubtype_stop ?_)
    exact wpAny_pure ⟨rfl, I.turned (t' := s.toks) (fun b o hb q => he' b o hb q) f0 f1 f3 f4 f5⟩
  self := fun A i s Q E st h => let ⟨⟨_, he⟩, _⟩ := st; wpAny_pyIter_enum he h
def iEnumT (K : PySem.W.Frag) (ta : TA) : TI := fun σ H R => ta σ H fun vs H1 => ∃ a xs, vs = [.ref a] ∧ SqT K H1 a xs ∧ R (IteT K a) H1
theorem pi_enumT {X : Cx} {e : Expr} {ta : TA} {p pos tpos : Pos} {elts : List Expr} {kk : Nat} (hg : Gl X "enumerate") (hm : X.mg "enumerate" = none) (ha : PA X [e] ta) (hs : starEach [e] X.env = [(false, eval e X.env)] := by rfl) :
    PI X (.Tuple elts kk tpos) (.Call (.Name "enumerate" p) [e] [] pos) (iEnumT X.K ta) := by
  refine ⟨fun pins s σ H R I h => ?_⟩
  refine Call_ (ld_blt I hg hm boot_enumerate (PyProof.Rows.callWith_type1 (thn (ha.run pos pins s σ H _ I h) fun us s1 ⟨vs, H1, I1, r1, q1⟩ => ?_) hs rfl))
  obtain ⟨a, xs, ex, hq, q⟩ := q1
  subst ex
  cases r1 with
  | cons r rr =>
    cases rr
    cases r
    obtain ⟨its, rv, p', hz⟩ := I1.tuple hq
    refine call_enumT p' fun h' he hit hsz hk => wpAny_pyIter_enum he ?_
    have I2 : Inv X pins σ H1 { s1 with heap := h' } := I1.kept (t' := s1.toks) hk
    refine ⟨s1.heap.objs.size + 1, [s1.heap.objs.size + 1, s1.heap.objs.size], _, _, H1, rfl, I2, turn_enumT a (s1.heap.objs.size + 1) s1.heap.objs.size, ⟨⟨.none, he⟩, hit, Nat.succ_ne_self _⟩, fun b hb => ?_, q⟩
    have e' : b = s1.heap.objs.size + 1 ∨ b = s1.heap.objs.size := by simpa using hb
    have hle : s1.heap.objs.size ≤ b := by
      rcases e' with z | z
      · rw [z]; exact Nat.le_add_right _ _
      · rw [z]; exact Nat.le_refl _
    exact I1.fpOk hle (I1.hok.fresh hle)
theorem walk_enumT {K : PySem.W.Frag} {a : Addr} {xs : List V} : Walk (IteT K a) xs.length (fun H => SqT K H a xs) (YPair (fun i => some (.int (i : Nat))) (fun i => xs[i]?)) := by
  refine ⟨fun i _ hi q => ⟨xs, xs[i], q, by simp [hi]⟩, fun _ q => ⟨xs, q, Nat.le_refl _⟩, fun i H v H' _ q y => ?_⟩
  obtain ⟨T, x, h1, h2, h3, h4⟩ := y
  exact ⟨T, .int (i : Nat), x, h1, h2, h3, rfl, h4 xs q⟩
section
variable {J : It} {n : Nat} {G : Hp → Prop} {Y : Nat → Hp → V → Hp → Prop}
/-- [e for x in .. if ..]: just those that are let by -/
theorem lc_filtW (w : Walk J n G Y) {g : TG} {tt : TT} {te : TE} {vs : List Nat} {σ : L2.St} {H1 : Hp} {D : Addr} {Qd : Hp → Prop} (t : Nat → Bool) (R : Nat → V → Hp → Prop) (mono : ∀ i v H H', Same H H' → R i v H → R i v H')
    (hD : H1 D = none) (hS : ∀ H, Same H1 H → G H) (hz : n ≤ 1000)
    (hs : ∀ (i : Nat) x H H' (kt : V → Hp → Prop) (kf : Hp → Prop), i < n → Same H1 (hid D H) → (∃ ys, H D = some (.lst ys)) → Y i H x H' → (t i = true → ∀ y H4, Same H H4 → R i y (hid D H4) → kt y H4) → (t i = false → ∀ H4, Same H H4 → kf H4) →
      g x (wipe σ vs) H' fun σ2 H2 => wipe σ2 vs = wipe σ vs ∧ tt σ2 H2 fun b H3 => if b = true then te σ2 H3 kt else kf H3)
    (hd : ∀ H ys, Same H1 (hid D H) → H D = some (.lst ys) → AllAre (fun y i => R i y (hid D H)) ys ((List.range n).filter t) → Qd H) :
    ∃ W : Nat → Nat → Hp → Prop, (∃ m, W 0 m (upd H1 D (.lst []))) ∧ ∀ i m H, W i m H →
      (J.stop i H ∧ Qd H) ∨ (J.go i H ∧ ∃ Nx : Hp → Prop, (∀ H', Nx H' → ∃ m', m' < m ∧ W (i + 1) m' H') ∧ ∀ x H', J.yld i H x H' → g x (wipe σ vs) H' fun σ2 H2 => wipe σ2 vs = wipe σ vs ∧ tt σ2 H2 fun b H3 =>
        if b = true then te σ2 H3 fun y H4 => ∃ acc, H4 D = some (.lst acc) ∧ acc.length < sizeLine ∧ Nx (upd H4 D (.lst (acc ++ [y]))) else Nx H3) := by
  refine lc_it w (fun i H => ∃ ys, Same H1 (hid D H) ∧ H D = some (.lst ys) ∧ AllAre (fun y j => R j y (hid D H)) ys ((List.range i).filter t)) ⟨[], ?_, upd_same, .nil⟩ (fun i H _ h => ?_) (fun i x H H' hi h y => ?_) (fun H h => ?_)
  · intro b o e
    rw [hid_ne (ne_of_none e hD), upd_ne (ne_of_none e hD)]
    exact e
  · obtain ⟨ys, s, _⟩ := h
    exact hS H (s.trans hid_same)
  · obtain ⟨ys, s, e, a⟩ := h
    refine hs i x H H' (fun y H4 => ∃ acc, H4 D = some (.lst acc) ∧ acc.length < sizeLine ∧ ∃ ys, Same H1 (hid D (upd H4 D (.lst (acc ++ [y])))) ∧ (upd H4 D (.lst (acc ++ [y]))) D = some (.lst ys) ∧ AllAre (fun y' j => R j y' (hid D (upd H4 D (.lst (acc ++ [y]))))) ys ((List.range (i + 1)).filter t)) (fun H3 => ∃ ys, Same H1 (hid D H3) ∧ H3 D = some (.lst ys) ∧ AllAre (fun y j => R j y (hid D H3)) ys ((List.range (i + 1)).filter t)) hi s ⟨_, e⟩ y (fun ht y H4 s4 r4 => ?_) (fun hf H4 s4 => ?_)
    · have ll : ys.length < 1000 := by
        have h1 := a.1
        have h2 := List.length_filter_le t (List.range i)
        rw [List.length_range] at h2
        omega
      refine ⟨ys, s4 _ _ e, small1000 (by omega), ys ++ [y], ?_, upd_same, ?_⟩
      · rw [hid_upd]
        exact s.trans (hid_mono s4)
      · rw [hid_upd, List.range_succ, List.filter_append, List.filter_cons_of_pos ht, List.filter_nil]
        exact AllAre.snoc (a.imp fun _ _ r => mono _ _ _ _ (hid_mono s4) r) r4
    · refine ⟨ys, s.trans (hid_mono s4), s4 _ _ e, ?_⟩
      rw [List.range_succ, List.filter_append, List.filter_cons_of_neg (by rw [hf]; exact Bool.false_ne_true), List.filter_nil, List.append_nil]
      exact a.imp fun _ _ r => mono _ _ _ _ (hid_mono s4) r
  · obtain ⟨ys, s, e, a⟩ := h
    exact hd H ys s e a
end
end Fb

/-! Part S5: a tuple once or more times over. -/
namespace Fb
open PySem PySem.Spec PyProof.Rows L2
open AutoSeq1 (wpAny_loadPart')
theorem tuple_mul1 (l : Addr) (items : Array Value) (n : Nat) (sl : Array (Option Value)) (dd : Option Addr) (u : Tok) :
    Meets (Builtin.«tuple.__mul__» ⟨[.ref l, .int 1 u], []⟩) (fun _ R s => s.heap.get? l = some { cls := .type "tuple", dict := dd, data := .seq items n, slots := sl } ∧
      R (.ok (.ret (Value.ref l))) s) :=
  .of_wp fun prog w A R s h => by
    obtain ⟨hp, g, d, tk, os⟩ := s
    obtain ⟨hl, h⟩ := h
    have f1 := AutoSeq1.idx_int
    have c1 : (items.isEmpty || (1 : Int) == 1) = true := by simp
    wp_walk using wpAny_loadPart' hl
    repeat (first
      | (refine wpAny_ite_true (decide_eq_true (by rw [c1])) ?_; wp_walk using wpAny_loadPart' hl)
      | (refine wpAny_ite_true c1 ?_; wp_walk using wpAny_loadPart' hl)
      | (refine wpAny_ite_false (by decide) ?_; wp_walk using wpAny_loadPart' hl))
    exact ⟨_, rfl, h⟩
def rRepA (K : PySem.W.Frag) : R2 := fun x y H Q => ∃ l k xs, x = .ref l ∧ y = .int k ∧ SqT K H l xs ∧ xs ≠ [] ∧ 1 ≤ k ∧ k ≤ 1000 ∧ xs.length ≤ 1000 ∧ (k = 1 → Q (.ref l) H) ∧ (2 ≤ k → ∀ p, H p = none → Q (.ref p) (upd H p (.tup (List.replicate k.toNat xs).flatten)))
theorem op_repA {X : Cx} : OpR X (binaryOp .Mult) (rRepA X.K) := by
  intro pins s σ H x y v u Q I rx ry h
  obtain ⟨l, k, xs, rfl, rfl, hT, hne, h1, h2, hz, q1, q2⟩ := h
  by_cases h2k : 2 ≤ k
  · exact op_repT pins s σ H _ _ v u Q I rx ry ⟨l, k, xs, rfl, rfl, hT, hne, h2k, h2, hz, q2 h2k⟩
  · have : k = 1 := by omega
    subst this
    cases rx
    obtain ⟨t, rfl⟩ := ry
    obtain ⟨its, r, ⟨⟨cls, dd, data, sl⟩, ho, hc, n, hd⟩, hs⟩ := I.tuple hT
    simp only at hc hd
    subst hc hd
    refine wpAny_binaryOp_repeat_ref (T := "tuple") (U := "int") (by decide) ⟨_, ho, rfl⟩ (fun s' => typeIs_int s' 1 t) noFill_tuple_mul F.fills_int_mul F.slot_int_rmul repeat_tuple F.slot_int_index.lookup
      (call_meets F.slot_int_rmul (typeIs_int s 1 t) F.entry_int_rmul (F.args_int_rmul_2 _ _) (int_rmul_tuple 1 t l its.toArray n dd sl)
        ⟨ho, rfl, ⟨_, ho, rfl⟩, call_meets F.slot_tuple_mul ⟨_, ho, rfl⟩ F.entry_tuple_mul (F.args_tuple_mul_2 _ _) (tuple_mul1 l its.toArray n sl dd t) ⟨ho, ?_⟩⟩)
    exact ⟨.ref l, H, I, rfl, q1 rfl⟩
theorem op_repAK {X : Cx} {K : PySem.W.Frag} (hK : X.K = K) : OpR X (binaryOp .Mult) (rRepA K) := hK ▸ op_repA
theorem op_catTK {X : Cx} {K : PySem.W.Frag} (hK : X.K = K) : OpR X (binaryOp .Add) (rCatT K) := hK ▸ op_catT
end Fb

/-! Part X1: refusals with a value: several except clauses, with names or without; what the written part says of such a class. -/
namespace Fb
open PySem PySem.Spec PyProof.Rows L2
/-- what the clauses wish of an exception of the body, one after the other; a clause may name the exception (slot i) -/
def wManyN (K : PySem.W.Frag) (Wout : WX) (D : Ends) : List (Value × Option Nat × (Addr → Value → Option Addr → L2.TS)) → WX
  | [] => Wout
  | (c, none, ts) :: r => fun cls d σ H => ∃ b, PySem.W.exmOne K cls c = some b ∧ (b = true → ∀ a, H a = none → ts a cls d D σ H) ∧ (b = false → wManyN K Wout D r cls d σ H)
  | (c, some i, ts) :: r => fun cls d σ H => ∃ b, PySem.W.exmOne K cls c = some b ∧
    (b = true → ∀ a, H a = none → ts a cls d { nx := fun σ' H' => D.nx (σ'.set i none) H', rt := D.rt, bk := fun σ' H' => D.bk (σ'.set i none) H', ct := fun σ' H' => D.ct (σ'.set i none) H' } (σ.set i (some (.ref a))) H) ∧ (b = false → wManyN K Wout D r cls d σ H)
inductive HdsN (X : Cx) : List ExceptHandler → List (Value × Option Nat × (Addr → Value → Option Addr → L2.TS)) → Prop
  | nil : HdsN X [] []
  | cons {x : Str} {c : Value} {ts : Addr → Value → Option Addr → L2.TS} {b₀ : Stmt} {suite : List Stmt} {np pos' : Pos} {hds : List ExceptHandler} {l : List (Value × Option Nat × (Addr → Value → Option Addr → L2.TS))} (hc : Names X x c)
      (hsu : ∀ (a : Addr) (oe : Obj) (cls : Value) (d : Option Addr) (pn : List (Addr × Obj)), Zc cls d oe → (∃ vs, oe.data = .fields vs) → PSs (X.suite a ((a, oe) :: pn)) (b₀ :: suite) (ts a cls d)) (r : HdsN X hds l) :
      HdsN X (.ExceptHandler (some (.Name x np)) none (b₀ :: suite) pos' :: hds) ((c, none, ts) :: l)
  | as {x n : Str} {i : Nat} {c : Value} {ts : Addr → Value → Option Addr → L2.TS} {b₀ : Stmt} {suite : List Stmt} {np pos' : Pos} {hds : List ExceptHandler} {l : List (Value × Option Nat × (Addr → Value → Option Addr → L2.TS))} (hi : X.N[i]? = some n) (hln : X.env.kindOf n = some .local) (hc : Names X x c)
      (hsu : ∀ (a : Addr) (oe : Obj) (cls : Value) (d : Option Addr) (pn : List (Addr × Obj)), Zc cls d oe → (∃ vs, oe.data = .fields vs) → PSs (X.suite a ((a, oe) :: pn)) (b₀ :: suite) (ts a cls d)) (r : HdsN X hds l) :
      HdsN X (.ExceptHandler (some (.Name x np)) (some n) (b₀ :: suite) pos' :: hds) ((c, some i, ts) :: l)
section
variable {X : Cx} {body : List Stmt} {h₀ : ExceptHandler} {hds : List ExceptHandler} {l : List (Value × Option Nat × (Addr → Value → Option Addr → L2.TS))} {pos : Pos} {tb : WX → L2.TS} {Wout : WX}
theorem ps_try_manyN (hs : X.stack = X.env :: X.outer) (hf : X.env.frame = some X.env.locals) (hN : X.N.Nodup) (tk : Takes X Wout)
    (hb : ∀ (W : WX) (pn : List (Addr × Obj)) (xe : Value → Shared → Prop), Takes (X.tr pn xe) W → PassesOwn (model X.prog X.w) X.A X.env xe → PSs (X.tr pn xe) body (tb W))
    (hh : HdsN X (h₀ :: hds) l) : PS X (.Try body (h₀ :: hds) [] [] pos) (fun D σ H => tb (wManyN X.K Wout D l) D σ H) := by
  refine ⟨fun pins s σ H D I h => ?_⟩
  have ok := I.ok
  have hfr : X.A.frames = some (X.env :: X.outer) := by rw [ok.frames, hs]
  refine wpAny_Try_except ?_
  refine wpAny_mono ((hb (wManyN X.K Wout D l) (X.pn ++ pins) (fun e s₁ => wpAny (model X.prog X.w) X.A (noteFrame e X.env) (fun _ s₂ => wpAny (model X.prog X.w) X.A (setFlight e none) (fun _ s₃ =>
    wpAny (model X.prog X.w) X.A (handleBy e X.env (h₀ :: hds)) (SP X pins D) X.xe s₃) X.xe s₂) X.xe s₁) (fun u s' xx => ?_) PassesOwn.looking).run [] s σ H D (I.toTry _) h) (fun f s1 hsp => ?_) (fun e s1 he => he)
  · obtain ⟨a, B, sI, pins', σ', H', cls, d, rfl, J', nb, up, sky, na, os, ag, w⟩ := xx
    have J : Inv X pins σ' H' sI := J'.ofTry ok
    have sky' : Sky B (X.env :: X.outer) a (Zc cls d) X.env.locals s'.heap := by rw [← hs]; exact sky
    show wpAny (model X.prog X.w) X.A (noteFrame (.ref a) X.env) _ _ _
    refine Sky.land Zc.steady hfr hf sky' fun h3 fl3 up3 => ?_
    have J3 : Inv X pins σ' H' { s' with heap := h3 } := J.landed nb fl3.1 (up.trans up3) os ag
    obtain ⟨oe3, vs3, he3, hz3, hd3⟩ := fl3.there
    have nfr : a ∉ frs (X.env :: X.outer) := fun hm => by
      obtain ⟨_, o', e', hnf⟩ := fl3.2.2.1.mem hm
      rw [he3] at e'
      cases e'
      exact hnf _ hd3
    have nL : a ≠ X.env.locals := fun z => nfr (List.mem_filterMap.mpr ⟨X.env, List.mem_cons_self, by rw [hf, z]⟩)
    have nF : a ∉ X.fs := fun hm => by
      obtain ⟨e, he, q⟩ := List.mem_filterMap.mp hm
      exact nfr (List.mem_filterMap.mpr ⟨e, List.mem_cons_of_mem _ he, q⟩)
    have S3 := J3.suite he3 hd3 na nL nF
    have LT : PySem.W.Looks (model X.prog X.w) h3 (typeOf (.ref a)) cls := fun A Q E s k q => wpAny_typeOf_ref (k _ _ he3) (by rw [hz3.1]; exact q)
    have test : ∀ {x : Str} {c : Value} {np : Pos} {Q : Value → Shared → Prop} {E : Value → Shared → Prop}, Names X x c → Q c { s' with heap := h3 } → wpAny (model X.prog X.w) (X.A.mark (some (.ref a))) (eval (.Name x np) X.env) Q E { s' with heap := h3 } := fun {x c np Q E} hc q => by
      obtain ⟨hg, hdbg, hm | ⟨hm, hv, hnn⟩⟩ := hc
      · exact ld_glob (X := X.suite a ((a, oe3) :: (X.pn ++ pins))) S3 hg hm q hdbg
      · exact ld_blt (X := X.suite a ((a, oe3) :: (X.pn ++ pins))) S3 hg hm hv q hnn hdbg
    have go : ∀ {hds' : List ExceptHandler} {l' : List (Value × Option Nat × (Addr → Value → Option Addr → L2.TS))}, HdsN X hds' l' → wManyN X.K Wout D l' cls d σ' H' →
        wpAny (model X.prog X.w) X.A (handleBy (.ref a) X.env hds') (SP X pins D) X.xe { s' with heap := h3 } := by
      intro hds' l' hk
      induction hk with
      | nil =>
        intro w
        refine wpAny_handleBy_nil ?_
        obtain ⟨k1, k2, k3, oe, vs, T, oT, ts', he, hz, hd, h1, hr⟩ := id fl3
        unfold PySem.passOn
        refine wpAny_bind (wpAny_field he hd h1 ?_)
        rw [if_neg (show ¬ ((Value.ref T == Value.none) = true) from by simp)]
        have fin : wpAny (model X.prog X.w) X.A (setFlight (.ref a) X.env.frame) (fun _ s4 => wpAny (model X.prog X.w) X.A (throw (.ref a) : Sem Flow) (SP X pins D) X.xe s4) X.xe { s' with heap := h3 } := by
          rw [hf]
          refine HandSPX.setFlight_upZ fl3 fun h4 hh4 up4 => wpAny_throw (tk _ _ ?_)
          exact ⟨a, B, sI, pins, σ', H', cls, d, rfl, J, nb, (up.trans up3).trans up4, .inr (.inr (by rw [hs]; exact hh4)), na, os, ag, w⟩
        first
          | exact wpAny_bind (wpAny_pure (wpAny_bind fin))
          | exact wpAny_bind fin
      | @cons x c ts b₀ suite np pos' hds2 l2 hc hsu r ih =>
        intro w
        obtain ⟨b, hb1, hyes, hno⟩ := w
        refine wpAny_handleBy_cons (codeAny_handlers_test ?_) (by intro q; cases q)
        have LM := PySem.W.exm_one (M := model X.prog X.w) (J3.kIn) LT hb1
        refine test hc (LM.here ?_)
        cases b with
        | true =>
          refine codeAny_handlers_suite ?_
          refine HandSPX.lands_againZ fl3 fun h4 fl4 up4 => ?_
          have J4 : Inv X pins σ' H' { s' with heap := h4 } := J.landed nb fl4.1 ((up.trans up3).trans up4) os ag
          obtain ⟨oe4, vs4, he4, hz4, hd4⟩ := fl4.there
          have S4 := J4.suite he4 hd4 na nL nF
          refine wpAny_mono ((hsu a oe4 cls d (X.pn ++ pins) hz4 ⟨_, hd4⟩).run [] _ _ H' _ S4 (hyes rfl a na)) (fun f s6 hsp => ?_) (fun _ _ z => False.elim z)
          cases f with
          | next =>
            obtain ⟨σ6, H6, S6, q6⟩ := hsp
            exact ⟨_, _, S6.unsuite ok, q6⟩
          | brk =>
            obtain ⟨σ6, H6, S6, q6⟩ := hsp
            exact ⟨_, _, S6.unsuite ok, q6⟩
          | cont =>
            obtain ⟨σ6, H6, S6, q6⟩ := hsp
            exact ⟨_, _, S6.unsuite ok, q6⟩
          | ret u =>
            obtain ⟨v6, σ6, H6, S6, r6, q6⟩ := hsp
            exact ⟨_, _, _, S6.unsuite ok, r6, q6⟩
        | false =>
          show wpAny _ X.A (handleBy (.ref a) X.env hds2) _ _ _
          exact ih (hno rfl)
      | @as x n i c ts b₀ suite np pos' hds2 l2 hi hln hc hsu r ih =>
        intro w
        obtain ⟨b, hb1, hyes, hno⟩ := w
        refine wpAny_handleBy_cons (codeAny_handlers_test ?_) (by intro q; cases q)
        have LM := PySem.W.exm_one (M := model X.prog X.w) (J3.kIn) LT hb1
        refine test hc (LM.here ?_)
        cases b with
        | true =>
          refine codeAny_handlers_suite_as ?_
          refine HandSPX.lands_againZ fl3 fun h4 fl4 up4 => ?_
          have J4 : Inv X pins σ' H' { s' with heap := h4 } := J.landed nb fl4.1 ((up.trans up3).trans up4) os ag
          obtain ⟨oe4, vs4, he4, hz4, hd4⟩ := fl4.there
          have S4 := J4.suite he4 hd4 na nL nF
          refine store_ok (X := X.suite a ((a, oe4) :: (X.pn ++ pins))) (v := .ref a) S4 hN hi (.inl hln) rfl (fun s5 S5 => ?_) (.inr hln)
          refine wpAny_mono ((hsu a oe4 cls d (X.pn ++ pins) hz4 ⟨_, hd4⟩).run [] s5 _ H' _ S5 (hyes rfl a na)) (fun f s6 hsp => ?_) (fun _ _ z => False.elim z)
          have end_ : ∀ {σ6 : L2.St} {H6 : Hp} {Q : Shared → Prop}, Inv (X.suite a ((a, oe4) :: (X.pn ++ pins))) [] σ6 H6 s6 → (∀ s7, Inv X pins (σ6.set i none) H6 s7 → Q s7) →
              wpAny (model X.prog X.w) X.A (do bindName X.env n .none; unbindBehindTheSuite X.env n pos') (fun _ s7 => Q s7) X.xe s6 := fun {σ6 H6 Q} S6 hq => gone_ok (S6.unsuite ok) hN hi hln hq
          cases f with
          | next =>
            obtain ⟨σ6, H6, S6, q6⟩ := hsp
            exact end_ S6 fun s7 J7 => ⟨_, _, J7, q6⟩
          | brk =>
            obtain ⟨σ6, H6, S6, q6⟩ := hsp
            exact end_ S6 fun s7 J7 => ⟨_, _, J7, q6⟩
          | cont =>
            obtain ⟨σ6, H6, S6, q6⟩ := hsp
            exact end_ S6 fun s7 J7 => ⟨_, _, J7, q6⟩
          | ret u =>
            obtain ⟨v6, σ6, H6, S6, r6, q6⟩ := hsp
            exact end_ S6 fun s7 J7 => ⟨_, _, _, J7, r6, q6⟩
        | false =>
          show wpAny _ X.A (handleBy (.ref a) X.env hds2) _ _ _
          exact ih (hno rfl)
    exact go hh w
  · cases f with
    | next =>
      obtain ⟨σ', H', J', q⟩ := hsp
      exact wpAny_execs_nil ⟨σ', H', J'.ofTry ok, q⟩
    | brk =>
      obtain ⟨σ', H', J', q⟩ := hsp
      exact ⟨σ', H', J'.ofTry ok, q⟩
    | cont =>
      obtain ⟨σ', H', J', q⟩ := hsp
      exact ⟨σ', H', J'.ofTry ok, q⟩
    | ret u =>
      obtain ⟨v, σ', H', J', r, q⟩ := hsp
      exact ⟨v, σ', H', J'.ofTry ok, r, q⟩
end
theorem refs_of : ∀ l : List Value, PySem.W.excTail PySem.HandSPX.veTail l = true → PySem.HandSPX.refsVE l = true := by
  intro l
  induction l with
  | nil => exact fun h => h
  | cons a r ih =>
    intro h
    rcases PySem.W.excTail_cases (a :: r) h with ⟨c, r', q, h'⟩ | q
    · obtain ⟨rfl, rfl⟩ := List.cons.inj q
      exact ih h'
    · rw [q]
      decide +kernel
/-- a class of refusals with a value, as the written part tells of it -/
theorem oex_of {K : PySem.W.Frag} {C : Addr} (q : PySem.W.excInitIn K C PySem.HandSPX.veTail "ValueError.__new__" = true) (hd : PySem.W.hasDictIn K C = true) (sa : PySem.W.findIn K (.ref C) "__setattr__" = some (some (.builtin "object.__setattr__")))
    (sb : PySem.W.subIn K (.ref C) (.type "BaseException") = some true) (ty : PySem.W.typeIn K (.ref C) = some (.type "type")) (kp : PySem.W.keepIn K (.ref C) = true) : OexC K C := by
  refine ⟨?_, sa, sb, ty, kp⟩
  unfold PySem.W.excInitIn at q
  split at q
  · rename_i dd cd sl ho
    split at q
    · rename_i C' bm k0 k1 k2 k3 n k5 hm hs
      simp only [Bool.and_eq_true, beq_iff_eq, Bool.not_eq_true'] at q
      obtain ⟨⟨⟨rfl, rfl⟩, hdel⟩, ht⟩ := q
      have hh : cd.hasDict = true := by
        unfold PySem.W.hasDictIn PySem.W.clsIn at hd
        rw [ho] at hd
        simpa using hd
      obtain ⟨nm, bs, mro, ns, qn, hd', sn, sub, ab, col, del⟩ := cd
      dsimp only at hm hdel hh
      subst hm hdel hh
      have hsl : sl = #[k0, k1, k2, k3, some (.builtin "ValueError.__new__"), k5] := by
        obtain ⟨l⟩ := sl
        simp only at hs
        rw [hs]
      subst hsl
      exact ⟨nm, qn, ns, bs, bm, sn, sub, ab, col, dd, k0, k1, k2, k3, k5, ho, refs_of _ ht⟩
    · cases q
  · cases q
end Fb

/-! Part S6: sum of a tuple of whole numbers. -/
namespace Fb
open PySem PySem.Spec PyProof.Rows L2
section
variable {prog : Program} {w : World} {A : Around} {E : Value → Shared → Prop} {s : Shared} {l : Addr} {xs : Array (Int × Tok)}
theorem sum_intTup {Q : Value → Shared → Prop} (hh : A.handled = none) (hl : s.heap.IsTuple l (intItems xs))
    (h : ∀ h' tk t', (∀ b o, s.heap.get? b = some o → h'.get? b = some o) → Q (.int (preSum (numAt xs) xs.size) t') { s with heap := h', toks := tk }) :
    wpAny (model prog w) A (call (.builtin "sum") [.ref l]) Q E s := by
  have hlt : l < s.heap.objs.size := by obtain ⟨_, e, _⟩ := hl; exact Heap.lt_size e
  refine call_sum_walkG (wpAny_pyIter_tuple hl ?_)
  refine ⟨_, _, _, _, _, _, numAt xs, rfl, Walks.tuple (A := A.in1) hh _ l (Nat.ne_of_lt hlt) (intItems xs), ⟨⟨_, Heap.get?_push_size _ rfl, rfl, rfl⟩, hl.push _⟩, fun b hb => ?_, (fun _ _ => intItems_at), fun h' tk t' hk => ?_⟩
  · show b < (s.heap.push _).objs.size
    rw [Heap.size_push]
    rcases List.mem_cons.mp hb with rfl | hb
    · exact Nat.lt_succ_self _
    · rw [List.mem_singleton.mp hb]
      exact Nat.lt_succ_of_lt hlt
  · have := h h' tk t' fun b o e => hk b o (fun hb => absurd (Heap.lt_size e) ((List.mem_singleton.mp hb) ▸ Nat.lt_irrefl _)) (Heap.get?_push_of_some _ e)
    simpa [intItems] using this
end
def rSumT (K : PySem.W.Frag) : List V → Hp → VK → Prop := fun vs H Q => ∃ (a : Addr) (ns : List Int), vs = [V.ref a] ∧ SqT K H a (ns.map V.int) ∧ Q (.int ns.sum) H
theorem cr_sumT {X : Cx} (hc : X.calm = true) : CallR X (.builtin "sum") (rSumT X.K) := by
  intro pins s σ H vs us Q I r h
  obtain ⟨a, ns, rfl, hs, q⟩ := h
  obtain ⟨its, rv, hl, _⟩ := I.tuple hs
  rw [Vals.ref1 r]
  have hi := rv.ints
  obtain ⟨xs, e⟩ := hi.allInts.items
  have hn : numsOf (intItems xs).toList = ns := by rw [← e]; exact hi.numsOf
  rw [nums_intItems] at hn
  have hl' : s.heap.IsTuple a (intItems xs) := by rw [← e]; exact hl
  refine sum_intTup (I.ok.hd hc) hl' fun h' tk t' hk => ?_
  rw [preSum_eq, List.take_of_length_le (by simp), hn]
  exact ⟨.int _, H, I.kept hk, ⟨_, rfl⟩, q⟩
theorem cr_sumTK {X : Cx} {K : PySem.W.Frag} (hK : X.K = K) (hc : X.calm = true) : CallR X (.builtin "sum") (rSumT K) := hK ▸ cr_sumT hc
end Fb

/-! Part S7: tuples and dicts of the written part; zip of two tuples walked; slices of tuples. -/
namespace Fb
open PySem PySem.Spec PyProof.Rows L2
def SqK (K : PySem.W.Frag) (a : Addr) (xs : List V) : Prop := ∃ (o : Obj) (its : Array Value) (n : Nat), K.lookup a = some o ∧ o.cls = .type "tuple" ∧ o.data = .seq its n ∧ its.size ≤ sizeLine ∧ Vals xs its.toList
theorem SqK.sq {K : PySem.W.Frag} {a : Addr} {xs : List V} {H : Hp} (h : SqK K a xs) : SqT K H a xs := .inr h
theorem walk_zipT {K : PySem.W.Frag} {a b : Addr} {xs ys : List V} {n : Nat} (hn : n = min xs.length ys.length) : Walk (RZ.ItzT K a b) n (fun H => SqT K H a xs ∧ SqT K H b ys) (YPair (fun i => xs[i]?) (fun i => ys[i]?)) := by
  subst hn
  refine ⟨fun i _ hi q => ?_, fun _ q => ⟨xs, ys, q.1, q.2, by omega⟩, fun i H v H' _ q y => ?_⟩
  · have h1 : i < xs.length := by omega
    have h2 : i < ys.length := by omega
    exact ⟨xs, ys, xs[i], ys[i], q.1, q.2, by simp [h1], by simp [h2]⟩
  · obtain ⟨T, x, z, h1, h2, h3, h4, h5⟩ := y
    exact ⟨T, x, z, h1, h2, h3, h4 xs q.1, h5 ys q.2⟩
theorem sl_tupAK {X : Cx} {K : PySem.W.Frag} (hK : X.K = K) : SlR X (rSlA K) := hK ▸ sl_tupA
theorem cut_tail (x : V) (xs : List V) : cutV (x :: xs) (some 1) none = xs := by
  unfold cutV
  have e : HT.sIx (x :: xs).length 0 (some (1 : Int)) = 1 := by
    rw [show (1 : Int) = ((1 : Nat) : Int) from rfl, HT.sIx_nat]
    simp
  rw [e, HT.sIx_none]
  simp
theorem tail_part (x : V) (xs : List V) : ¬ (HT.sIx (x :: xs).length 0 (some (1 : Int)) = 0 ∧ HT.sIx (x :: xs).length (x :: xs).length none = (x :: xs).length) := fun h => by
  have e : HT.sIx (x :: xs).length 0 (some (1 : Int)) = 1 := by
    rw [show (1 : Int) = ((1 : Nat) : Int) from rfl, HT.sIx_nat]
    simp
  rw [e] at h
  exact absurd h.1 (by decide)
theorem cut_tok (xs : List V) (k : Nat) : cutV xs none (some (k : Int)) = xs.take k := by
  unfold cutV
  rw [HT.sIx_none, HT.sIx_nat, List.drop_zero, Nat.sub_zero]
  by_cases h : k ≤ xs.length
  · rw [Nat.min_eq_left h]
  · rw [Nat.min_eq_right (by omega), List.take_of_length_le (Nat.le_refl _), List.take_of_length_le (by omega)]
end Fb

/-! Part S8: a caught refusal that has a value asked for its class; len by an own __len__; range as a value, and its len. -/
namespace Fb
open PySem PySem.Spec PyProof.Rows L2
section
variable {X : Cx} {a : Addr} {oe : Obj} {cls : Value} {d : Option Addr} {pn : List (Addr × Obj)}
def rIsErrD (K : PySem.W.Frag) (cls : Value) (d : Option Addr) (a : Addr) : List V → Hp → VK → Prop := fun xs H Q => ∃ (D dd : Addr) (fs : List (Str × V)) (c : V) (u : Value) (b : Bool), cls = .ref D ∧ d = some dd ∧ H dd = some (.xd fs) ∧ ExcC K D ∧ xs = [.ref a, c] ∧ ClsV c u ∧ PySem.W.kitOne K (.ref D) u = some b ∧ Q (.bl b) H
theorem call_isErrD {K : PySem.W.Frag} (hK : X.K = K) (hz : Zc cls d oe) (hf : ∃ vs, oe.data = .fields vs) : CallR (X.suite a ((a, oe) :: pn)) (.builtin "isinstance") (rIsErrD K cls d a) := by
  subst hK
  intro pins s σ H xs us Q I r h
  obtain ⟨D, dd, fs, c, u, b, rfl, rfl, hdd, C, rfl, k, e, q⟩ := h
  obtain ⟨u1, u2, rfl, r1, r2⟩ := vals2 r
  cases r1
  have ec := k.eq r2
  subst ec
  obtain ⟨hget, _⟩ := I.pin (a, oe) (List.mem_append.mpr (.inl List.mem_cons_self))
  obtain ⟨vs, hv⟩ := hf
  have hx : ObjOk X.prog X.w H s.heap dd (.xd fs) := I.hok dd _ hdd
  obtain ⟨mA, hns, hr⟩ := hx
  obtain ⟨od, ho, hl⟩ := lookIn_ns hns
  have J : PySem.W.InstAt s.heap a oe D (some od) := ⟨hget, hz.1, by unfold PySem.W.notCls; rw [hv] <;> rfl, by rw [hz.2]; exact ho⟩
  have hcl : (PySem.W.clsIn X.K D).isSome = true := by
    have := C.hd
    unfold PySem.W.hasDictIn at this
    cases hc : PySem.W.clsIn X.K D with
    | none => rw [hc] at this; cases this
    | some _ => rfl
  exact PySem.W.kia_one (PySem.W.kitx_exc hcl C.hg C.hk C.hs C.ha C.hn C.ht C.hm) I.kIn J e (fun z => nomatch z) fun tk => ⟨.bl b, H, I.kept (t' := tk) fun _ _ z => z, rfl, q⟩
end
section
variable {X : Cx} {k : Nat} {C f : Addr} {fd : FuncData} {ps : List Str} {sp : Sp}
/-- len of an instance -/
theorem call_lenOwn (F : FnOk X.prog X.w X.K X.mg X.base CX0 k f fd ps sp) (hr : Room (k + 1) X.A) (hb : Binds X.K fd ps []) (hs : PySem.W.findIn X.K (.ref C) "__len__" = some (some (.ref f))) (hf : PySem.W.isFn X.K (.ref f) = true) :
    CallR X (.builtin "len") (fun xs H Q => ∃ a dx fs, xs = [.ref a] ∧ H a = some (.ins C dx fs) ∧ sp [.ref a] H (fun v H' => ∃ n : Int, v = .int n ∧ 0 ≤ n ∧ n < 2 ^ 63 ∧ Q v H') E0) := by
  intro pins s σ H xs us Q I r h
  obtain ⟨a, dx, fs, rfl, ha, hsp⟩ := h
  obtain ⟨u, rfl, ru⟩ := vals1 r
  cases ru
  obtain ⟨mA, J, _⟩ := ins_get I.hok ha
  obtain ⟨od, J, _⟩ := J.look
  obtain ⟨m, fr⟩ := I.fr
  refine PySem.W.len_K fr I.ok.mod.kin J hs hf ?_
  refine wpAny_mono (run_in (A := X.A.in1) F hr.in1 I.env0.in1 hb I (vs := [.ref a]) (.cons rfl .nil) hsp) (fun r s' z => ?_) fun _ _ e => e
  obtain ⟨z1, H', I', rz, n, rfl, n0, n1, q⟩ := z
  obtain ⟨t, rfl⟩ := rz
  exact ⟨⟨n0, n1⟩, .int n, H', I'.tok _, ⟨_, rfl⟩, q⟩
end
section
variable {X : Cx}
theorem cr_range1 : CallR X (.type "range") (fun vs H Q => ∃ j, vs = [V.int j] ∧ ∀ p, H p = none → Q (.ref p) (upd H p (.rng 0 j))) := by
  intro pins s σ H vs us Q I r h
  obtain ⟨j, rfl, q⟩ := h
  obtain ⟨u1, rfl, rj⟩ := vals1 r
  obtain ⟨u, rfl⟩ := rj
  refine call_range_1 ⟨.ref s.heap.objs.size, upd H s.heap.objs.size (.rng 0 j), I.laid (t' := s.toks + 1 + 1) (fun b o e => Heap.get?_push_of_some _ e) (Nat.le_refl _) ?_, rfl, q _ (I.hok.fresh (Nat.le_refl _))⟩
  exact ⟨s.toks, u, s.toks + 1, Heap.get?_push_size _ rfl⟩
theorem call_lenRng : CallR X (.builtin "len") (fun xs H Q => ∃ (p : Addr) (n : Nat), xs = [.ref p] ∧ H p = some (.rng 0 (n : Int)) ∧ n ≤ 1000 ∧ Q (.int (n : Int)) H) := by
  intro pins s σ H xs us Q I r h
  obtain ⟨p, n, rfl, hp, l, q⟩ := h
  obtain ⟨u, rfl, ru⟩ := vals1 r
  cases ru
  obtain ⟨t1, t2, t3, ho⟩ := (show ObjOk X.prog X.w H s.heap p (.rng 0 (n : Int)) from I.hok p _ hp)
  refine call_len_range (n := n) (r := p) (a := 0) (b := (n : Int)) (c := 1) (t := t1) (u := t2) (v := t3) ho ?_ (by omega) ⟨.int (n : Int), H, (I.tok _), ⟨_, rfl⟩, q⟩
  unfold Builtin.Range.rangeSize
  rw [if_pos (by decide)]
  by_cases h0 : 0 < (n : Int)
  · rw [if_pos h0]
    omega
  · rw [if_neg h0]
    omega
end
end Fb

/-! Part Z1: dict of a list of pairs whose keys are tuples; sorted of pairs of a number and a text. -/
namespace Fb
open PySem PySem.Spec PyProof.Rows L2
/-! ### dict -/
theorem storedAllH_new {α : Type} [DecidableEq α] : ∀ (ps xs : List (α × Addr × Value)), ((xs ++ ps).map (·.1)).Nodup → storedAllH xs ps = xs ++ ps
  | [], xs, _ => by rw [List.append_nil]; rfl
  | p :: ps, xs, h => by
    have h1 : storedH xs p.1 p.2.1 p.2.2 = xs ++ [p] := by
      have : atKey xs p.1 = none := by
        have hn : ∀ x ∈ xs, x.1 ≠ p.1 := fun x hx e => by
          rw [List.map_append, List.nodup_append] at h
          exact h.2.2 x.1 (List.mem_map_of_mem hx) p.1 (by simp) e
        clear h
        induction xs with
        | nil => rfl
        | cons x xs ih =>
          have := hn x List.mem_cons_self
          simpa [atKey, this] using ih fun y hy => hn y (List.mem_cons_of_mem _ hy)
      unfold storedH
      rw [this]
      rfl
    show storedAllH (storedH xs p.1 p.2.1 p.2.2) ps = _
    rw [h1, storedAllH_new ps (xs ++ [p]) (by rw [List.append_assoc]; exact h), List.append_assoc]
    rfl
section
variable {X : Cx}
theorem pairs_ofT {pins : List (Addr × Obj)} {σ : L2.St} {H : Hp} {s : Shared} (I : Inv X pins σ H s) : ∀ {ps : List Addr} {kvs : List (List Key × V)}, Paired (fun p kv => ∃ b, H p = some (.tup [.ref b, kv.2]) ∧ H b = some (.tup (kv.1.map kV))) ps kvs →
    ∃ prs : List (List Key × Addr × Value), Paired (fun (p : List Key × V) (q : List Key × Addr × Value) => p.1 = q.1 ∧ H q.2.1 = some (.tup (p.1.map kV)) ∧ RelV p.2 q.2.2) kvs prs ∧ prs.length = ps.length ∧
      ∀ (j : Nat) (q : List Key × Addr × Value), prs[j]? = some q → ∃ p, ps[j]? = some p ∧ s.heap.IsTuple p #[.ref q.2.1, q.2.2] ∧ (tupleKind (mixKind X.prog X.w)).is s.heap q.1 q.2.1
  | _, _, .nil => ⟨[], .nil, rfl, fun j q e => by simp at e⟩
  | _, _, .cons (a := p) (b := kv) ⟨b, h1, h2⟩ t => by
    obtain ⟨prs, r, hl, hp⟩ := pairs_ofT I t
    obtain ⟨_, its, rv, o, ho, hc, n, hd⟩ := (show ObjOk X.prog X.w H s.heap p _ from I.hok p _ h1)
    obtain ⟨u, y, ei, ru, ry⟩ := vals2 rv
    subst ei
    cases ru
    refine ⟨(kv.1, b, y) :: prs, .cons ⟨rfl, h2, ry⟩ r, by rw [List.length_cons, List.length_cons, hl], fun j q e => ?_⟩
    cases j with
    | zero =>
      have e' : (kv.1, b, y) = q := Option.some.inj e
      subst e'
      exact ⟨p, rfl, ⟨o, ho, hc, n, hd⟩, key_of I.hok h2⟩
    | succ j =>
      obtain ⟨p', e1, e2⟩ := hp j q (by simpa using e)
      exact ⟨p', by simpa using e1, e2⟩
/-- dict(xs) of a list of pairs (tuple, value), no two of the same tuple -/
theorem call_dictT (hcalm : X.calm = true) (hu : X.A.units + 2 < cLine) : CallR X (.type "dict") (fun xs H Q => ∃ (a : Addr) (ps : List Addr) (kvs : List (List Key × V)), xs = [.ref a] ∧ SqL X.K H a (ps.map V.ref) ∧
    Paired (fun p kv => ∃ b, H p = some (.tup [.ref b, kv.2]) ∧ H b = some (.tup (kv.1.map kV))) ps kvs ∧ (kvs.map (·.1)).Nodup ∧ ∀ p, H p = none → Q (.ref p) (upd H p (.dT kvs))) := by
  intro pins s σ H xs us Q I r q
  obtain ⟨a, ps, kvs, ex, hq, hp, nd, q⟩ := q
  subst ex
  obtain ⟨u, eu, rx⟩ := vals1 r
  subst eu
  cases rx
  obtain ⟨its, rv, pl, hz⟩ := I.list hq
  have ei := refs_at rv
  subst ei
  rw [List.length_map] at hz
  obtain ⟨prs, rel, hl, hpr⟩ := pairs_ofT I hp
  obtain ⟨o, n, ho, hc, hd, hdat⟩ := pl
  have ek : kvs.map (·.1) = prs.map (·.1) := by
    clear hpr hl nd q hp
    induction rel with
    | nil => rfl
    | cons h t ih => rw [List.map_cons, List.map_cons, ih, h.1]
  have nd' : (prs.map (·.1)).Nodup := by rw [← ek]; exact nd
  have hs := storedAllH_new prs [] nd'
  refine call_dict_pairsH (knd := tupleKind (mixKind X.prog X.w)) (ps := prs) (PairArg.list a _ (fun j => ps.getD j 0) (prs.map fun q => (Value.ref q.2.1, q.2.2))) (I.ok.hd hcalm) hu ⟨⟨o, n, ho, hc, hd, hdat⟩, ?_, ?_⟩ ⟨by rw [List.length_map], ?_⟩ ?_ (by rw [List.length_map, hl]; exact hz) fun h' tk hd' k => ?_
  · rw [List.size_toArray, List.length_map, List.length_map, hl]
  · intro j k v e
    rw [List.getElem?_map] at e
    obtain ⟨q', hq', e'⟩ := Option.map_eq_some_iff.mp e
    cases e'
    obtain ⟨p, e1, e2, e3⟩ := hpr j q' hq'
    have gd : (fun j => ps.getD j 0) j = p := by
      show ps.getD j 0 = p
      rw [List.getD_eq_getElem?_getD, e1]
      rfl
    refine ⟨?_, .inl ?_⟩
    · rw [List.getElem?_toArray, List.getElem?_map, e1, gd]
      rfl
    · rw [gd]
      exact e2
  · intro j k v e
    have e : (prs.map fun q => (Value.ref q.2.1, q.2.2))[j]? = some (k, v) := e
    rw [List.getElem?_map] at e
    obtain ⟨q', hq', e'⟩ := Option.map_eq_some_iff.mp e
    cases e'
    exact ⟨q'.1, q'.2.1, hq', rfl⟩
  · intro h' hk x hx
    obtain ⟨j, hj⟩ := List.mem_iff_getElem?.mp hx
    obtain ⟨p, e1, e2, e3⟩ := hpr j x hj
    exact tupleKind_stays.stays (fun b ob vs n' e _ => hk b ob (Nat.ne_of_lt (Heap.lt_size e)) (fun z => nomatch z) e) e3
  · rw [hs, List.nil_append] at hd'
    have hm : (s.heap.objs.size == sysModules) = false := beq_eq_false_iff_ne.mpr (Nat.ne_of_gt I.big)
    have fr : H s.heap.objs.size = none := I.hok.fresh (Nat.le_refl _)
    obtain ⟨od, es, ep, g1, g2, g3, g4, g5, g6⟩ := hd'
    refine ⟨.ref s.heap.objs.size, upd H s.heap.objs.size (.dT kvs), I.laid (t' := tk) (fun b ob e => k b ob (fun z => nomatch z) e) (Nat.le_refl _) (show ObjOk X.prog X.w _ _ _ (.dT kvs) from ⟨?_, hm, prs, ?_, od, es, ep, g1, g2, g3, g4, g6⟩), rfl, q _ fr⟩
    · rw [show kvs.length = prs.length from Paired.length rel, hl]
      exact hz
    · have mono : ∀ (o : HO) {l : List (List Key × V)} {m : List (List Key × Addr × Value)}, Paired (fun (p : List Key × V) (q : List Key × Addr × Value) => p.1 = q.1 ∧ H q.2.1 = some (.tup (p.1.map kV)) ∧ RelV p.2 q.2.2) l m →
          Paired (fun (p : List Key × V) (q : List Key × Addr × Value) => p.1 = q.1 ∧ (upd H s.heap.objs.size o) q.2.1 = some (.tup (p.1.map kV)) ∧ RelV p.2 q.2.2) l m := fun o l m r => by
        induction r with
        | nil => exact .nil
        | cons h t ih => exact .cons ⟨h.1, by rw [upd_ne (ne_of_none h.2.1 fr)]; exact h.2.1, h.2.2⟩ ih
      exact mono _ rel
end
/-! ### sorted of pairs -/
section
variable {P : Program} {w : World}
/-- v is a tuple of the room and the sign of k -/
def PairIn (P : Program) (w : World) (h : Heap) (v : Value) (k : RS) : Prop :=
  ∃ (t : Addr) (o : Obj) (n : Nat) (t1 t2 : Tok), v = .ref t ∧ h.get? t = some o ∧ o.cls = .type "tuple" ∧ o.data = .seq #[.int k.1 t1, .str k.2 t2] n
theorem PairIn.keeps {h h' : Heap} {v : Value} {k : RS} (x : PairIn P w h v k) (kp : ∀ b o, h.get? b = some o → o.cls = .type "tuple" → h'.get? b = some o) : PairIn P w h' v k := by
  obtain ⟨t, o, n, t1, t2, e, ho, hc, hd⟩ := x
  exact ⟨t, o, n, t1, t2, e, kp _ _ ho hc, hc, hd⟩
theorem firstsP {h : Heap} {kf : Value → RS} : ∀ vs : List Value, (∀ v ∈ vs, PairIn P w h v (kf v)) → ∃ fs : List Value, PySem.W.KatTups h vs fs ∧ fs.length = vs.length ∧ ∀ f ∈ fs, ∃ i t, f = Value.int i t
  | [], _ => ⟨[], PySem.W.KatTups.nil, rfl, fun f hf => by cases hf⟩
  | v :: vs, x => by
    obtain ⟨fs, k, hl, hi⟩ := firstsP vs fun u hu => x u (List.mem_cons_of_mem _ hu)
    obtain ⟨t, o, n, t1, t2, rfl, ho, hc, hd⟩ := x v List.mem_cons_self
    refine ⟨.int _ t1 :: fs, PySem.W.KatTups.cons ho hc hd rfl k, by rw [List.length_cons, List.length_cons, hl], fun f hf => ?_⟩
    rcases List.mem_cons.mp hf with rfl | hf
    · exact ⟨_, _, rfl⟩
    · exact hi f hf
theorem kind_pairs {A : Around} {E : Value → Shared → Prop} {s : Shared} {vs : List Value} {kf : Value → RS} {r : Value → Int} (h2 : 2 ≤ vs.length) (hu : A.units < cLine) (x : ∀ v ∈ vs, PairIn P w s.heap v (kf v)) (one : ∀ v ∈ vs, ∀ u ∈ vs, kf v = kf u → v = u)
    (hr : ∀ v ∈ vs, ∀ u ∈ vs, decide (r v < r u) = rsLt (kf v) (kf u)) (Q : SortKind → Shared → Prop) (h : ∀ κ, TS.Cmp P w A s κ (pairsOf vs) r → Q κ s) : wpAny (model P w) A (keyKind' vs.toArray) Q E s := by
  obtain ⟨fs, k, hl, hi⟩ := firstsP vs x
  refine PySem.W.kat_kind (T := Value.type "int") k (by omega) (fun f hf => ?_) rfl (h _ ?_)
  · obtain ⟨i, t, rfl⟩ := hi f hf
    exact PySem.W.Looks.of_pure rfl
  · intro p q hp hq Q' E' hQ
    rw [pairsOf_toList] at hp hq
    have mp := (mem_zip_self hp).2
    have mq := (mem_zip_self hq).2
    have hQ : Q' (rsLt (kf p.1) (kf q.1)) s := by
      rw [← hr _ mp _ mq]
      exact hQ
    obtain ⟨t, o, n, t1, t2, e1, ho, hc, hd⟩ := x _ mp
    obtain ⟨t', o', n', t1', t2', e2, ho', hc', hd'⟩ := x _ mq
    rw [e1, e2]
    generalize kf p.1 = a at *
    generalize kf q.1 = b at *
    refine PySem.W.kat_lt ho hd ho' hd' ?_
    show PySem.W.KatLex P w A true false Q' [(.int a.1 t1, .int b.1 t1'), (.str a.2 t2, .str b.2 t2')] 0 s
    refine PySem.W.kat_cons (wpAny_eqBool_int ?_)
    refine PySem.W.kat_go (fun e => PySem.W.kat_yes ?_) (fun e => PySem.W.kat_no ?_)
    · have e := of_decide_eq_true e
      refine PySem.W.kat_cons (wpAny_eqBool_str ?_)
      refine PySem.W.kat_go (fun e' => PySem.W.kat_yes ?_) (fun e' => PySem.W.kat_no ?_)
      · have e' := of_decide_eq_true e'
        have ab : a = b := Prod.ext e e'
        rw [ab, rsLt_irr] at hQ
        exact PySem.W.kat_nil hQ
      · show wpAny _ _ (oneLt' false _ _) _ _ _
        refine PySem.W.kat_one _ _ (lt_str ?_)
        have : rsLt a b = decide (a.2.cps.toList < b.2.cps.toList) := by
          unfold rsLt
          rw [decide_eq_false (by omega), decide_eq_true e]
          rfl
        rw [this] at hQ
        exact hQ
    · show wpAny _ _ (oneLt' true _ _) _ _ _
      refine oneLt_int ?_
      have ne : ¬ a.1 = b.1 := by simpa using e
      have : rsLt a b = decide (a.1 < b.1) := by
        unfold rsLt
        rw [decide_eq_false ne, Bool.false_and, Bool.or_false]
      rw [this] at hQ
      exact hQ
theorem sort_pairs {A : Around} {E : Value → Shared → Prop} {s : Shared} {a : Addr} {vs : List Value} {n : Nat} {Q : PySem.Fin → Shared → Prop} {kf : Value → RS} (ho : s.heap.get? a = some (seqObj "list" vs.toArray n)) (h64 : vs.length < 64) (hu : A.units < cLine)
    (x : ∀ v ∈ vs, PairIn P w s.heap v (kf v)) (one : ∀ v ∈ vs, ∀ u ∈ vs, kf v = kf u → v = u)
    (h : ∀ out : Array Value, out.toList.Perm vs → out.toList.Pairwise (fun u v => rsLt (kf v) (kf u) = false) → Q (.done (.ret .none)) { s with heap := sortedHeap s.heap a vs out }) : wpAny (model P w) A (Builtin.«list.sort» ⟨[.ref a], []⟩) Q E s := by
  have keep : ∀ b o, s.heap.get? b = some o → o.cls = .type "tuple" → (TS.midHeap s.heap a vs).get? b = some o := fun b o e hc => by
    refine TS.midHeap_old ?_ e
    rintro rfl
    rw [ho] at e
    cases e
    exact absurd (Value.type.inj hc) (by decide)
  have hr : ∀ v ∈ vs, ∀ u ∈ vs, decide (rk (vs.map kf) (kf v) < rk (vs.map kf) (kf u)) = rsLt (kf v) (kf u) := fun v hv u hu => rk_lt (List.mem_map_of_mem hv) (List.mem_map_of_mem hu)
  refine SK.plain_sort (r := fun v => rk (vs.map kf) (kf v)) ho h64 (fun h2 Q' hQ => ?_) fun ps out h1 h2 h3 => ?_
  · exact kind_pairs (s := { s with heap := TS.midHeap s.heap a vs }) h2 hu (fun v hv => (x v hv).keeps keep) one hr Q' hQ
  · obtain ⟨p, o⟩ := TS.out_rank (r := fun v => rk (vs.map kf) (kf v)) h1 h2 h3
    refine h out p (List.Pairwise.imp_of_mem (fun {u v} hu hv hle => ?_) o)
    rw [← hr v (p.mem_iff.mp hv) u (p.mem_iff.mp hu)]
    exact decide_eq_false (by omega)
end
section
variable {X : Cx}
theorem pair_in {pins : List (Addr × Obj)} {σ : L2.St} {H : Hp} {s : Shared} (I : Inv X pins σ H s) {t : Addr} {k : RS} (h : H t = some (.tup [.int k.1, .str k.2])) : PairIn X.prog X.w s.heap (.ref t) k := by
  obtain ⟨_, its, r, o, ho, hc, n, hd⟩ := (show ObjOk X.prog X.w H s.heap t _ from I.hok t _ h)
  cases r with
  | cons r1 r =>
  cases r with
  | cons r2 r =>
  cases r
  obtain ⟨t1, rfl⟩ := r1
  obtain ⟨t2, rfl⟩ := r2
  exact ⟨t, o, n, t1, t2, rfl, ho, hc, hd⟩
/-- sorted(xs), xs a list of pairs, no two alike -/
def rSortP (K : PySem.W.Frag) : List V → Hp → VK → Prop := fun vs H Q => ∃ (a : Addr) (xs : List V) (kf : V → RS), vs = [V.ref a] ∧ SqL K H a xs ∧ xs.length < 64 ∧ (∀ x ∈ xs, ∃ t, x = .ref t ∧ H t = some (.tup [.int (kf x).1, .str (kf x).2])) ∧
  (∀ x ∈ xs, ∀ y ∈ xs, kf x = kf y → x = y) ∧ ∀ (ys : List V) (p : Addr), ys.Perm xs → ys.Pairwise (fun x y => rsLt (kf y) (kf x) = false) → H p = none → Q (.ref p) (upd H p (.lst ys))
theorem cr_sortP (hu : X.A.units + 2 < cLine) : CallR X (.builtin "sorted") (rSortP X.K) := by
  intro pins s σ H vs us Q I r h
  obtain ⟨a, xs, kf, rfl, hs, h64, hx, one, q⟩ := h
  obtain ⟨its, rv, hl, hz⟩ := I.list hs
  rw [Vals.ref1 r]
  obtain ⟨e1, e2⟩ := bkV_refs rv fun x m => by
    obtain ⟨t, e, _⟩ := hx x m
    exact ⟨t, e⟩
  have st : ∀ v ∈ its, PairIn X.prog X.w s.heap v (kf (bkV v)) := fun v hv => by
    obtain ⟨t, rfl⟩ := e2 v hv
    obtain ⟨t', e, h1⟩ := hx (.ref t) (by rw [e1]; exact List.mem_map.mpr ⟨_, hv, rfl⟩)
    cases e
    exact pair_in I h1
  have on : ∀ v ∈ its, ∀ u ∈ its, kf (bkV v) = kf (bkV u) → v = u := fun v hv u hu e => by
    have := one (bkV v) (by rw [e1]; exact List.mem_map_of_mem hv) (bkV u) (by rw [e1]; exact List.mem_map_of_mem hu) e
    obtain ⟨t, rfl⟩ := e2 v hv
    obtain ⟨t', rfl⟩ := e2 u hu
    cases this
    rfl
  have n64 : its.length < 64 := by rw [← rv.length]; exact h64
  refine Calls.call_function_entry kind_sorted plain_sorted entry_sorted (args_sorted1 _) ?_
  unfold Builtin.«sorted»
  refine wpAny_bind (m := checkCount "sorted" 1 1 _) (wpAny_pure ?_)
  refine wpAny_bind (collect_list hl.isList ?_ (by rw [sizeLine_eq]; omega))
  refine wpAny_bind (wpAny_newList ?_ (by rw [sizeLine_eq]; omega))
  have sz : ((s.heap.push (seqObj "list" #[] 0)).update s.heap.objs.size (Obj.mapSeq (· ++ its.toArray))).objs.size = s.heap.objs.size + 1 := (Heap.size_update ..).trans (size_push' _ _)
  have new : (((s.heap.push (seqObj "list" #[] 0)).update s.heap.objs.size (Obj.mapSeq (· ++ its.toArray))).push (seqObj "list" its.toArray 0)).get? (s.heap.objs.size + 1) = some (seqObj "list" its.toArray 0) := sz ▸ Heap.get?_push_size _ rfl
  have old : ∀ b o, s.heap.get? b = some o → (((s.heap.push (seqObj "list" #[] 0)).update s.heap.objs.size (Obj.mapSeq (· ++ its.toArray))).push (seqObj "list" its.toArray 0)).get? b = some o := fun b o e => by
    have l : b < s.heap.objs.size := Heap.lt_size e
    rw [Heap.get?_push_ne _ _ _ (by rw [sz]; exact Nat.ne_of_lt (Nat.lt_succ_of_lt l)), Heap.get?_update_ne _ _ _ _ (Nat.ne_of_lt l), Heap.get?_push_ne _ _ _ (Nat.ne_of_lt l)]
    exact e
  show wpAny _ _ _ _ _ { s with heap := ((s.heap.push (seqObj "list" #[] 0)).update s.heap.objs.size (Obj.mapSeq (· ++ its.toArray))).push (seqObj "list" its.toArray 0) }
  rw [sz]
  refine wpAny_bind (wpAny_holding (wpAny_call_entry slot_list_sort ⟨_, new, rfl⟩ entry_list_sort (sort_pairs (kf := fun v => kf (bkV v)) new n64 (by show X.A.units + 2 < cLine; exact hu) (fun v hv => (st v hv).keeps fun b o e _ => old b o e) on fun out a1 a2 => ⟨_, rfl, ?_⟩) (args_list_sort _)))
  refine wpAny_pure ⟨_, rfl, ?_⟩
  obtain ⟨ep, he'⟩ := PyProof.Rows.sortedAll_at s.heap its out
  have h3 : ∀ u ∈ out.toList, ∃ a, u = Value.ref a := fun u hu => e2 u (a1.mem_iff.mp hu)
  have hp : (out.toList.map bkV).Perm xs := by
    rw [e1]
    exact a1.map bkV
  refine ⟨.ref _, upd H (s.heap.objs.size + 1) (.lst (out.toList.map bkV)), I.laid (t' := s.toks) (fun _ _ => PyProof.Rows.sortedAll_old) (Nat.le_succ _) ⟨by rw [hp.length_eq]; exact hz, out.toList, ep, bkV_vals h3, he'⟩, rfl, q _ _ hp ?_ (I.hok.fresh (Nat.le_succ _))⟩
  rw [List.pairwise_map]
  exact a2
end
end Fb

/-! Part Z2: == of a thing and an instance with an own __eq__, the thing ahead; in a list of one. -/
namespace Fb
open PySem PySem.Spec PySem.SeqAt
open AutoSeq1 (wpAny_loadPart')
open MeetsSeq MeetsSeq2 MeetsSeq3 SeqRoads2
section
variable {prog : Program} {w : World} {A : Around} {E : Value → Shared → Prop} {s : Shared}
theorem isi_wp {x : Value} {T : String} {b : Bool} (hi : PySem.W.Looks (model prog w) s.heap (isInstance x (.type T)) b) {Q : Bool → Shared → Prop} (h : Q b s) : wpAny (model prog w) A (isInstance x (.type T)) Q E s := hi.here h
theorem list_dec {l x : Addr} {items : Array Value} {n : Nat} {Q : Value → Shared → Prop} (hl : s.heap.get? l = some { cls := .type "list", data := .seq items n }) (hi : PySem.W.Looks (model prog w) s.heap (isInstance (.ref x) (.type "list")) false) (h : Q .notImplemented s) : wpAny (model prog w) A (call (.builtin "list.__eq__") [.ref l, .ref x]) Q E s := by
  refine GQ.call_here F.slot_list_eq ⟨_, hl, rfl⟩ F.entry_list_eq (F.args_list_eq_2 _ _) ?_
  obtain ⟨hp, g, d, tk, os⟩ := s
  wp_walk using wpAny_loadPart' hl, isi_wp hi
  exact h
theorem tuple_dec {l x : Addr} {items : Array Value} {n : Nat} {dd : Option Addr} {sl : Array (Option Value)} {Q : Value → Shared → Prop} (hl : s.heap.get? l = some { cls := .type "tuple", dict := dd, data := .seq items n, slots := sl }) (hi : PySem.W.Looks (model prog w) s.heap (isInstance (.ref x) (.type "tuple")) false) (h : Q .notImplemented s) : wpAny (model prog w) A (call (.builtin "tuple.__eq__") [.ref l, .ref x]) Q E s := by
  refine GQ.call_here F.slot_tuple_eq ⟨_, hl, rfl⟩ F.entry_tuple_eq (F.args_tuple_eq_2 _ _) ?_
  obtain ⟨hp, g, d, tk, os⟩ := s
  wp_walk using wpAny_loadPart' hl, isi_wp hi
  exact h
theorem dict_dec {l x : Addr} {o : Obj} {Q : Value → Shared → Prop} (hl : s.heap.get? l = some o) (hx : o.ExactDict) (hi : PySem.W.Looks (model prog w) s.heap (isInstance (.ref x) (.type "dict")) false) (h : Q .notImplemented s) : wpAny (model prog w) A (call (.builtin "dict.__eq__") [.ref l, .ref x]) Q E s := by
  refine GQ.call_here F.slot_dict_eq ⟨_, hl, hx.1⟩ F.entry_dict_eq (F.args_dict_eq_2 _ _) ?_
  obtain ⟨hp, g, d, tk, os⟩ := s
  wp_walk using wpAny_loadPart' hl, isi_wp hi
  exact h
theorem int_dec {i : Int} {u : Tok} {x C dx : Addr} {Q : Value → Shared → Prop} (hx : s.heap.get? x = some (PySem.W.instObj C dx)) (h : Q .notImplemented s) : wpAny (model prog w) A (call (.builtin "int.__eq__") [.int i u, .ref x]) Q E s := by
  refine GQ.call_here F.slot_int_eq (typeIs_int _ _ _) F.entry_int_eq (F.args_int_eq_2 _ _) ?_
  obtain ⟨hp, g, d, tk, os⟩ := s
  wp_walk using wpAny_loadPart' hx, wpAny_load hx
  exact h
theorem bool_dec {i : Bool} {x C dx : Addr} {Q : Value → Shared → Prop} (hx : s.heap.get? x = some (PySem.W.instObj C dx)) (h : Q .notImplemented s) : wpAny (model prog w) A (call (.builtin "int.__eq__") [.bool i, .ref x]) Q E s := by
  refine GQ.call_here F.slot_bool_eq rfl F.entry_int_eq (F.args_int_eq_2 _ _) ?_
  obtain ⟨hp, g, d, tk, os⟩ := s
  wp_walk using wpAny_loadPart' hx, wpAny_load hx
  exact h
theorem str_dec {i : Str} {u : Tok} {x C dx : Addr} {Q : Value → Shared → Prop} (hx : s.heap.get? x = some (PySem.W.instObj C dx)) (h : Q .notImplemented s) : wpAny (model prog w) A (call (.builtin "str.__eq__") [.str i u, .ref x]) Q E s := by
  refine GQ.call_here F.slot_str_eq (typeIs_str _ _ _) F.entry_str_eq (F.args_str_eq_2 _ _) ?_
  obtain ⟨hp, g, d, tk, os⟩ := s
  wp_walk using wpAny_loadPart' hx, wpAny_load hx
  exact h
theorem none_dec {x : Addr} {Q : Value → Shared → Prop} (h : Q .notImplemented s) : wpAny (model prog w) A (call (.builtin "NoneType.__eq__") [.none, .ref x]) Q E s :=
  call_gives F.slot_NoneType_eq rfl F.entry_NoneType_eq (F.args_NoneType_eq_2 _ _) (NoneType___eq___none_ref_0 x) h
/-- a == x, x an instance of the class at C with the text's own __eq__, a of a built-in type that declines -/
theorem refl_K {K : PySem.W.Frag} {T id : String} {a : Value} {x C f : Addr} {ox : Obj} {od : Option Obj} {Q : Value → Shared → Prop} (hu : A.units < cLine) (X : K.In s.heap) (I : PySem.W.InstAt s.heap x ox C od) (hT : s.TypeIs a T)
    (hsub : PySem.W.subIn K (.ref C) (.type T) = some false) (slot : Slot T "__eq__" id) (dec : ∀ Q' : Value → Shared → Prop, Q' .notImplemented s → wpAny (model prog w) A (call (.builtin id) [a, .ref x]) Q' E s)
    (hs : PySem.W.findIn K (.ref C) "__eq__" = some (some (.ref f))) (hf : PySem.W.isFn K (.ref f) = true)
    (h : wpAny (model prog w) A (call (.ref f) [.ref x, a]) (PySem.W.CmpBack Q) E s) : wpAny (model prog w) A (richCompare .Eq a (.ref x)) Q E s := by
  have one : wpAny (model prog w) A (tryCompare (.ref x) "__eq__" a) (fun r s' => ∃ v, r = some v ∧ Q v s') E s := by
    unfold tryCompare
    refine wpAny_bind (PySem.W.ifBound_K X I hs hf (wpAny_mono h (fun v s' hv => ?_) fun _ _ e => e))
    cases v <;> first | exact hv.elim | exact wpAny_pure ⟨_, rfl, hv⟩
  unfold richCompare
  simp only [hT.oneThing_none]
  refine wpAny_holding (wpAny_bind (wpAny_cRoomFor hu ?_))
  refine wpAny_bind (wpAny_typeOf hT (wpAny_bind (I.type.here ?_)))
  have hne : (Value.type T != Value.ref C) = true := rfl
  simp only [hne, if_true]
  refine wpAny_bind ((PySem.W.looks_subIn X hsub).here ?_)
  simp only [Bool.false_eq_true, if_false]
  refine wpAny_bind (wpAny_tryCompare_declines hT slot (dec _ ⟨rfl, ?_⟩))
  simp only [Bool.not_false, if_true]
  refine wpAny_bind (wpAny_mono one (fun r s' z => ?_) fun _ _ e => e)
  obtain ⟨v, rfl, hq⟩ := z
  exact wpAny_pure hq
end
section
open PyProof.Rows L2
variable {X : Cx} {k : Nat} {C f : Addr} {fd : FuncData} {ps : List Str} {sp : Sp}
/-- things of built-in types -/
inductive OddE (K : PySem.W.Frag) (H : Hp) : V → String → Prop
  | non : OddE K H .non "NoneType"
  | bl (b : Bool) : OddE K H (.bl b) "bool"
  | int (i : Int) : OddE K H (.int i) "int"
  | str (z : Str) : OddE K H (.str z) "str"
  | lst {a : Addr} {xs : List V} (h : H a = some (.lst xs)) : OddE K H (.ref a) "list"
  | tup {a : Addr} {xs : List V} (h : H a = some (.tup xs)) : OddE K H (.ref a) "tuple"
  | dic {a : Addr} {kvs : List (Key × V)} (h : H a = some (.dK kvs)) : OddE K H (.ref a) "dict"
def rOwnR (K : PySem.W.Frag) (C : Addr) (sp : Sp) : R2 := fun x y H Q => ∃ a dx fs T, y = .ref a ∧ H a = some (.ins C dx fs) ∧ OddE K H x T ∧ PySem.W.subIn K (.ref C) (.type T) = some false ∧ sp [y, x] H (fun v H' => ∃ r, v = .bl r ∧ Q (.bl r) H') E0
theorem op_eqR (F : FnOk X.prog X.w X.K X.mg X.base CX0 k f fd ps sp) (hr : Room (k + 1) X.A) (hb : Binds X.K fd ps []) (hs : PySem.W.findIn X.K (.ref C) "__eq__" = some (some (.ref f))) (hf : PySem.W.isFn X.K (.ref f) = true) :
    OpR X (compareOp .Eq) (rOwnR X.K C sp) := by
  intro pins s σ H x y v u Q I rx ry h
  obtain ⟨a, dx, fs, T, rfl, ha, od, hsub, hsp⟩ := h
  cases ry
  obtain ⟨mA, J, _⟩ := ins_get I.hok ha
  have hob : s.heap.get? a = some (PySem.W.instObj C dx) := by
    obtain ⟨_, _, _, e, _⟩ := (show ObjOk X.prog X.w H s.heap a (.ins C dx fs) from I.hok a _ ha)
    exact e
  obtain ⟨od', J, _⟩ := J.look
  have isi : ∀ T', PySem.W.subIn X.K (.ref C) (.type T') = some false → PySem.W.Looks (model X.prog X.w) s.heap (isInstance (.ref a) (.type T')) false := fun T' h => J.type.andThen (PySem.W.looks_subIn I.kIn h)
  have fin : wpAny (model X.prog X.w) X.A (call (.ref f) [.ref a, v]) (PySem.W.CmpBack (EP X pins σ Q)) X.xe s := by
    refine wpAny_mono (run_in F (hr.mono (Nat.le_succ k)) I.env0 hb I (vs := [.ref a, x]) (.cons rfl (.cons rx .nil)) hsp) (fun r s' z => ?_) fun _ _ e => e
    obtain ⟨z1, H', I', rz, b, rfl, q⟩ := z
    cases rz
    exact ⟨.bl b, H', I', rfl, q⟩
  show wpAny (model X.prog X.w) X.A (richCompare .Eq v (.ref a)) (EP X pins σ Q) X.xe s
  cases od with
  | non =>
    obtain rfl : v = .none := rx
    exact refl_K hr.units0 I.kIn J rfl hsub PySem.F.slot_NoneType_eq (fun Q' h => none_dec h) hs hf fin
  | bl b =>
    obtain rfl : v = .bool b := rx
    exact refl_K hr.units0 I.kIn J rfl hsub PySem.F.slot_bool_eq (fun Q' h => bool_dec hob h) hs hf fin
  | int i =>
    obtain ⟨t, rfl⟩ := rx
    exact refl_K hr.units0 I.kIn J (typeIs_int _ _ _) hsub PySem.F.slot_int_eq (fun Q' h => int_dec hob h) hs hf fin
  | str z =>
    obtain ⟨t, rfl⟩ := rx
    exact refl_K hr.units0 I.kIn J (typeIs_str _ _ _) hsub PySem.F.slot_str_eq (fun Q' h => str_dec hob h) hs hf fin
  | lst h =>
    cases rx
    obtain ⟨_, its, n, _, e⟩ := (show ObjOk X.prog X.w H s.heap _ (.lst _) from I.hok _ _ h)
    exact refl_K hr.units0 I.kIn J ⟨_, e, rfl⟩ hsub PySem.F.slot_list_eq (fun Q' h => list_dec e (isi _ hsub) h) hs hf fin
  | tup h =>
    cases rx
    obtain ⟨_, its, _, o, ho, hc, n, hd⟩ := (show ObjOk X.prog X.w H s.heap _ (.tup _) from I.hok _ _ h)
    obtain ⟨cls, dd, data, sl⟩ := o
    simp only at hc hd
    subst hc hd
    exact refl_K hr.units0 I.kIn J ⟨_, ho, rfl⟩ hsub PySem.F.slot_tuple_eq (fun Q' h => tuple_dec ho (isi _ hsub) h) hs hf fin
  | dic h =>
    cases rx
    obtain ⟨_, _, vs, _, hd⟩ := (show ObjOk X.prog X.w H s.heap _ (.dK _) from I.hok _ _ h)
    obtain ⟨o, es, ep, ho, hx, _⟩ := hd
    exact refl_K hr.units0 I.kIn J ⟨_, ho, hx.1⟩ hsub PySem.F.slot_dict_eq (fun Q' h => dict_dec ho hx (isi _ hsub) h) hs hf fin
/-- x in [v] -/
def rInOne (D : EqvB) : R2 := fun x y H Q => ∃ p v b, y = .ref p ∧ H p = some (.lst [v]) ∧ D v x b H ∧ Q (.bl b) H
theorem op_inOne {n : Nat} {D : EqvB} (h : EqB X n D) (hr : Room (n + 1) X.A) : OpR X (compareOp .In) (rInOne D) := by
  intro pins s σ H x y u v Q I rx ry hq
  obtain ⟨p, e, b, rfl, hp, d, q⟩ := hq
  cases ry
  obtain ⟨_, its, k, r, ep⟩ := (show ObjOk X.prog X.w H s.heap p (.lst [e]) from I.hok p _ hp)
  obtain ⟨w, ew, re⟩ := vals1 r
  have i0 : its.toArray[Int.toNat 0]? = some w := by rw [ew]; rfl
  have i1 : its.toArray[Int.toNat (0 + 1)]? = none := by rw [ew]; rfl
  generalize its.toArray = items at *
  clear ew r
  show wpAny (model X.prog X.w) X.A (do return Value.bool (← contains (.ref p) u)) (EP X pins σ Q) X.xe s
  have he := h X.A.in1 pins s σ H e x w u b ⟨hr.in1, rfl⟩ I re rx d
  refine wpAny_bind (wpAny_contains_slot ⟨_, ep, rfl⟩ PySem.F.slot_list_contains (GQ.call_here PySem.F.slot_list_contains ⟨_, ep, rfl⟩ PySem.F.entry_list_contains (PySem.F.args_list_contains_2 _ _) ?_))
  obtain ⟨hp', g, d', tk, os⟩ := s
  wp_walk using wpAny_loadPart' ep
  refine ⟨plainId_quiet plain_contains_loop _, codeAny_builtin entry_contains_loop ?_⟩
  rw [Around.under_plainId plain_contains_loop _]
  wp_walk using wpAny_loadPart' ep
  rw [i0]
  refine wpAny_bind (wpAny_mono he (fun r s' z => ?_) fun _ _ x => x)
  obtain ⟨rfl, I'⟩ := z
  obtain ⟨_, its', k', r', ep'⟩ := (show ObjOk X.prog X.w H s'.heap p (.lst [e]) from I'.hok p _ hp)
  obtain ⟨w', ew', _⟩ := vals1 r'
  have i1' : its'.toArray[Int.toNat (0 + 1)]? = none := by rw [ew']; rfl
  generalize its'.toArray = items' at *
  clear ew' r'
  obtain ⟨hp2, g2, d2, tk2, os2⟩ := s'
  cases r with
  | true =>
    wp_walk
    exact wpAny_truthy_bool (wpAny_pure ⟨.bl true, H, I', rfl, q⟩)
  | false =>
    wp_walk
    refine ⟨plainId_quiet plain_contains_loop _, codeAny_builtin entry_contains_loop ?_⟩
    rw [Around.under_plainId plain_contains_loop _]
    wp_walk using wpAny_loadPart' ep'
    rw [i1']
    wp_walk
    exact wpAny_truthy_bool (wpAny_pure ⟨.bl false, H, I', rfl, q⟩)
end
end Fb

/-! Part O1: < of tuples of a number and a text; numbers as texts, words joined and parted. -/
namespace Fb
open PySem PySem.Spec PyProof.Rows L2
section
variable {X : Cx}
def rLtRS (K : PySem.W.Frag) : R2 := fun x y H Q => ∃ (a b : Addr) (k l : RS), x = .ref a ∧ y = .ref b ∧ SqT K H a [.int k.1, .str k.2] ∧ SqT K H b [.int l.1, .str l.2] ∧ Q (.bl (rsLt k l)) H
theorem op_ltRS (hu : X.A.units < cLine) : OpR X (compareOp .Lt) (rLtRS X.K) := by
  intro pins s σ H x y v u Q I rx ry h
  obtain ⟨a, b, k, l, rfl, rfl, ha, hb, q⟩ := h
  cases rx
  cases ry
  obtain ⟨its, r1, p1, _⟩ := I.tuple ha
  obtain ⟨its2, r2, p2, _⟩ := I.tuple hb
  obtain ⟨u1, u2, rfl, ⟨t1, e1⟩, ⟨t2, e2⟩⟩ := vals2 r1
  obtain ⟨w1, w2, rfl, ⟨t3, e3⟩, ⟨t4, e4⟩⟩ := vals2 r2
  subst e1 e2 e3 e4
  have R := Ob.RcOp.tuples_lt (A := X.A) (s := s) (e := fun j => if j = 0 then (k.1 == l.1) else (k.2 == l.2)) (r := fun j => if j = 0 then decide (k.1 < l.1) else decide (k.2.cps.toList < l.2.cps.toList)) p1 p2 hu (fun j h1 h2 => by
    match j, h1, h2 with
    | 0, _, _ => exact SeqAt.EqAt.int_int _ _ _ _
    | 1, _, _ => exact SeqAt.EqAt.str_str _ _ _ _) (fun j h1 h2 _ => by
    match j, h1, h2 with
    | 0, _, _ => exact Ob.RcOp.lt_int _ _ _ _
    | 1, _, _ => exact fun _ _ _ _ h => lt_str h)
  have e : Ob.lexAt (fun j => if j = 0 then (k.1 == l.1) else (k.2 == l.2)) (fun j => if j = 0 then decide (k.1 < l.1) else decide (k.2.cps.toList < l.2.cps.toList)) (decide ((#[Value.int k.1 t1, Value.str k.2 t2] : Array Value).size < (#[Value.int l.1 t3, Value.str l.2 t4] : Array Value).size)) 0 (min (#[Value.int k.1 t1, Value.str k.2 t2] : Array Value).size (#[Value.int l.1 t3, Value.str l.2 t4] : Array Value).size) = rsLt k l := by
    show (if (k.1 == l.1) = true then (if (k.2 == l.2) = true then false else decide (k.2.cps.toList < l.2.cps.toList)) else decide (k.1 < l.1)) = _
    unfold rsLt
    by_cases h1 : k.1 = l.1
    · have hlt : decide (k.1 < l.1) = false := decide_eq_false (by rw [h1]; exact Int.lt_irrefl _)
      rw [if_pos (by rw [h1]; exact beq_self_eq_true _), hlt, decide_eq_true h1, Bool.false_or, Bool.true_and]
      by_cases h2 : k.2 = l.2
      · have hl2 : decide (k.2.cps.toList < l.2.cps.toList) = false := decide_eq_false (by rw [h2]; exact List.lt_irrefl _)
        rw [if_pos (by rw [h2]; exact beq_self_eq_true _), hl2]
      · rw [if_neg (by rw [beq_iff_eq]; exact h2)]
    · rw [if_neg (by rw [beq_iff_eq]; exact h1), decide_eq_false h1, Bool.false_and, Bool.or_false]
  have R : Ob.RcOp .Lt X.A s (.ref a) (.ref b) (rsLt k l) := by
    rw [← e]
    exact R
  have z : wpAny (model X.prog X.w) X.A (compareOp .Lt (.ref a) (.ref b)) (EP X pins σ Q) X.xe s := R X.prog X.w X.xe (EP X pins σ Q) ⟨.bl _, H, I, rfl, q⟩
  exact z
end
/-! ### numbers as texts -/
abbrev txt (n : Nat) : Str := Str.ofString (toString ((n : Nat) : Int))
theorem txt_tl (n : Nat) : (txt n).cps.toList = TL.numL n := TL.tl_num n
theorem txt_len (n : Nat) : (txt n).length = (TL.numL n).length := by
  show (txt n).cps.size = _
  rw [← Array.length_toList, txt_tl]
theorem txt_short {n k : Nat} (hk : 0 < k) (h : n < 10 ^ k) : (txt n).length ≤ k := by
  rw [txt_len]
  exact TL.numL_len hk h
/-- so many figures -/
def padL : Nat → Nat → List Nat
  | 0, _ => []
  | k + 1, r => padL k (r / 10) ++ [48 + r % 10]
theorem numL_parts : ∀ (k n : Nat), 10 ^ k ≤ n → TL.numL n = TL.numL (n / 10 ^ k) ++ padL k (n % 10 ^ k)
  | 0, n, _ => by rw [Nat.pow_zero, Nat.div_one]; show _ = _ ++ []; rw [List.append_nil]
  | k + 1, n, h => by
    have p : 10 ^ (k + 1) = 10 * 10 ^ k := by rw [Nat.pow_succ, Nat.mul_comm]
    have p0 : 0 < 10 ^ k := Nat.pow_pos (by decide)
    have h10 : 10 ≤ n := by omega
    have hk : 10 ^ k ≤ n / 10 := by omega
    rw [TL.numL_step h10, numL_parts k (n / 10) hk, p, Nat.div_div_eq_div_mul, List.append_assoc]
    congr 1
    show _ = padL k (n % (10 * 10 ^ k) / 10) ++ [48 + n % (10 * 10 ^ k) % 10]
    rw [Nat.mod_mul_right_div_self, Nat.mod_mul_right_mod]
theorem padL_zero : ∀ k, padL k 0 = List.replicate k 48
  | 0 => rfl
  | k + 1 => by
    show padL k (0 / 10) ++ [48 + 0 % 10] = _
    rw [Nat.zero_div, padL_zero k, List.replicate_succ']
theorem padL_num : ∀ (k r : Nat), 0 < k → r < 10 ^ k → padL k r = List.replicate (k - (TL.numL r).length) 48 ++ TL.numL r
  | 0, _, h, _ => absurd h (by decide)
  | k + 1, r, _, h => by
    by_cases h10 : r < 10
    · show padL k (r / 10) ++ [48 + r % 10] = _
      rw [Nat.div_eq_of_lt h10, padL_zero, TL.numL_lt h10, Nat.mod_eq_of_lt h10]
      rfl
    · have p : 10 ^ (k + 1) = 10 * 10 ^ k := by rw [Nat.pow_succ, Nat.mul_comm]
      have k0 : 0 < k := by
        cases k with
        | zero => rw [Nat.zero_add, Nat.pow_one] at h; omega
        | succ k => omega
      show padL k (r / 10) ++ [48 + r % 10] = _
      rw [padL_num k (r / 10) k0 (by omega), TL.numL_step (n := r) (by omega), List.append_assoc, List.length_append]
      congr 2
      show k - (TL.numL (r / 10)).length = k + 1 - ((TL.numL (r / 10)).length + 1)
      omega
/-- a number in two parts -/
theorem txt_parts {n k : Nat} (hk : 0 < k) (hn : 10 ^ k ≤ n) : txt (n / 10 ^ k) ++ Txt.zfill (txt (n % 10 ^ k)) ((k : Nat) : Int) = txt n := by
  have r0 : n % 10 ^ k < 10 ^ k := Nat.mod_lt _ (Nat.pow_pos (by decide))
  refine TL.ext_tl ?_
  rw [TL.tl_append]
  show (txt (n / 10 ^ k)).cps.toList ++ (Txt.zfill (txt (n % 10 ^ k)) ((k : Nat) : Int)).cps.toList = (txt n).cps.toList
  rw [txt_tl, txt_tl, numL_parts k n hn, padL_num k _ hk r0]
  congr 1
  generalize n % 10 ^ k = r at *
  have ll := TL.numL_len hk r0
  unfold Txt.zfill
  rw [txt_len]
  by_cases c : ((k : Nat) : Int) ≤ ((TL.numL r).length : Int)
  · rw [if_pos c, txt_tl]
    have : k - (TL.numL r).length = 0 := by omega
    rw [this]
    rfl
  · rw [if_neg c]
    have first : ∃ d, (txt r).cps[0]? = some d ∧ 48 ≤ d := by
      cases hl : TL.numL r with
      | nil => exact absurd hl (TL.numL_ne r)
      | cons d l =>
        refine ⟨d, ?_, (TL.numL_digits r d (by rw [hl]; exact List.mem_cons_self)).1⟩
        rw [← Array.getElem?_toList, txt_tl, hl]
        rfl
    obtain ⟨d, hd, d48⟩ := first
    unfold PySem.zfilled
    rw [hd]
    split
    · rename_i e
      cases e
      omega
    · rename_i e
      cases e
      omega
    · rw [Int.toNat_natCast]
      show (Array.replicate (k - (TL.numL r).length) 48 ++ (txt r).cps ++ Array.replicate 0 48).toList = _
      rw [Array.toList_append, Array.toList_append, Array.toList_replicate, Array.toList_replicate, txt_tl]
      simp
/-! ### words with one blank between -/
theorem blank : (" " : Str) = SX.S [32] := by decide +kernel
theorem words_split {ws : List Str} (ne : ws ≠ []) (h : ∀ x ∈ ws, 32 ∉ x.cps.toList) : Txt.split (Txt.join " " ws) " " = ws := by
  have e : (ws.map fun x => x.cps.toList).map SX.S = ws := by
    rw [List.map_map]
    conv => rhs; rw [← List.map_id ws]
    exact List.map_congr_left fun x _ => SX.S_tl x
  rw [blank]
  conv => lhs; rw [← e, SX.join_S, SX.split_S (by simp) (by decide)]
  rw [SX.spl_join (by simpa using ne) (fun p hp => ?_), e]
  obtain ⟨x, hx, rfl⟩ := List.mem_map.mp hp
  exact h x hx
theorem joinL_len (S : List Nat) : ∀ ps : List (List Nat), (TL.joinL S ps).length ≤ (ps.map List.length).sum + ps.length * S.length
  | [] => Nat.zero_le _
  | [x] => by
    show x.length ≤ x.length + 0 + 1 * S.length
    omega
  | x :: y :: r => by
    have ih := joinL_len S (y :: r)
    show (x ++ (S ++ TL.joinL S (y :: r))).length ≤ _
    rw [List.length_append, List.length_append, List.map_cons, List.sum_cons, List.length_cons (a := x), Nat.succ_mul]
    omega
theorem join_len (ws : List Str) : (Txt.join " " ws).length ≤ (ws.map (·.length)).sum + ws.length := by
  have e : (ws.map fun x => x.cps.toList).map SX.S = ws := by
    rw [List.map_map]
    conv => rhs; rw [← List.map_id ws]
    exact List.map_congr_left fun x _ => SX.S_tl x
  have l := joinL_len [32] (ws.map fun x => x.cps.toList)
  rw [blank]
  conv => lhs; rw [← e, SX.join_S, SX.S_len]
  have e2 : (ws.map fun x => x.cps.toList).map List.length = ws.map (·.length) := by
    rw [List.map_map]
    refine List.map_congr_left fun x _ => ?_
    show x.cps.toList.length = x.cps.size
    rw [Array.length_toList]
  rw [e2, List.length_map] at l
  simpa using l
theorem sum_lens {b : Nat} : ∀ {ws : List Str}, (∀ x ∈ ws, x.length ≤ b) → (ws.map (·.length)).sum ≤ ws.length * b
  | [], _ => Nat.zero_le _
  | x :: ws, h => by
    have h1 := h x List.mem_cons_self
    have h2 := sum_lens (ws := ws) fun y hy => h y (List.mem_cons_of_mem _ hy)
    rw [List.map_cons, List.sum_cons, List.length_cons, Nat.succ_mul]
    omega
theorem txt_free (n : Nat) : 32 ∉ (txt n).cps.toList := by
  rw [txt_tl]
  exact TL.numL_free (.inl (by decide))
end Fb

/-! Part LX: a comprehension whose element may raise. -/
namespace Fb
open PySem PySem.Spec PyProof.Rows L2
section
variable {X : Cx} {W : WX} {E : XK} {pins : List (Addr × Obj)} {σ : L2.St} {H : Hp} {s s' : Shared} {u : Value}
theorem ff_less {h B B2 : Heap} (k : ∀ b, B.get? b = none → B2.get? b = none) : ∀ {l : List Env}, h.FunFrames B l → h.FunFrames B2 l
  | [], _ => trivial
  | _ :: _, ⟨hk, ⟨L, o, hf, hb, ho, hd⟩, hr⟩ => ⟨hk, ⟨L, o, hf, k _ hb, ho, hd⟩, ff_less k hr⟩
/-- what a call in the element lets out leaves the comprehension, held by the def's own frame -/
theorem comp_raise {cenv : Env} {m : Str → Option Value} (hs : X.stack = X.env :: X.outer) (hf : X.env.frame = some X.env.locals) (tk : Takes X W) (hcf : cenv.frame = X.env.frame) (I : Inv X pins σ H s) (fp : FpOk X pins H cenv.locals)
    (hn : s.heap.Ns cenv.locals m) (hW : ∀ cls d H', E cls d H' → W cls d σ H') (c : L2.CX X.prog X.w X.stack H s E u s') : notedBy (model X.prog X.w) X.A cenv (CompFails (model X.prog X.w) X.A X.xe cenv) u s' := by
  obtain ⟨a, B, H1, cls, d, rfl, fl, hok, ub, na, os, ag, hE⟩ := c
  obtain ⟨oC, es, ep, hoC, hdC, rC⟩ := hn
  obtain ⟨nC, cL, cfs, cex, ccell, cpin⟩ := fp
  have hfr : X.A.frames = some (X.env :: X.outer) := by rw [I.ok.frames, hs]
  have cfr : cenv.locals ∉ frs X.stack := fun hm => by
    rcases List.mem_cons.mp (I.stkSub _ hm) with z | z
    · exact cL z
    · exact cfs z
  have n1 : H1 cenv.locals = none := ub.free _ _ hoC nC
  have bC : B.get? cenv.locals = some oC := ub.keep _ _ hoC nC cfr
  have fl' := fl
  rw [hs] at fl'
  show wpAny _ _ (noteFrame (.ref a) cenv) _ _ s'
  rw [noteFrame_env _ hcf]
  refine HandSPX.looks_onZ Zc.steady hfr hf fl' fun h1 hh up1 => ?_
  obtain ⟨k1, k2, k3, k4⟩ := hh
  refine ⟨m, ⟨oC, es, ep, k1 _ _ bC, hdC, rC⟩, fun h2 m2 hn2 sb => ?_⟩
  obtain ⟨B2, b1, b2⟩ := restrict B fun b => decide (b ≠ cenv.locals)
  have bl : ∀ b o, B2.get? b = some o → b ≠ cenv.locals ∧ B.get? b = some o := fun b o e => by
    by_cases hb : b = cenv.locals
    · rw [b2 b (decide_eq_false (fun z => z hb))] at e
      cases e
    · rw [b1 b (decide_eq_true hb)] at e
      exact ⟨hb, e⟩
  have less : ∀ b, B.get? b = none → B2.get? b = none := fun b e => by
    cases q : B2.get? b with
    | none => rfl
    | some o =>
      rw [(bl b o q).2] at e
      cases e
  have st2 : B2.StaysIn h2 := fun b o e => (sb.2 b (bl b o e).1).trans (k1 b o (bl b o e).2)
  have f2 : h2.FunFrames B2 (X.env :: X.outer) := ff_less less (Heap.FunFrames.sameBut sb hn2 k3)
  obtain ⟨oe, vs, T, oT, ts, he, hz, hd, hv1, hnT, hTe, hT, hdT, h3⟩ := k4
  have notC : ∀ {b : Addr} {o : Obj} {vs : Array Value}, h1.get? b = some o → o.data = .fields vs → b ≠ cenv.locals := fun {b o vs} e dd z => by
    rw [z, k1 _ _ bC] at e
    cases e
    rw [hdC] at dd
    cases dd
  have he2 : h2.get? a = some oe := (sb.2 a (notC he hd)).trans he
  have t2 : HandSPX.TracedZ h2 B2 a (Zc cls d) (rawInt X.env.locals) := ⟨oe, vs, T, oT, ts, he2, hz, hd, hv1, less _ hnT, hTe, (sb.2 T (notC hT hdT)).trans hT, hdT, h3⟩
  unfold PySem.passOn
  refine wpAny_bind (wpAny_field he2 hd hv1 ?_)
  rw [if_neg (show ¬ ((Value.ref T == Value.none) = true) from by simp), hcf, hf]
  refine wpAny_bind (HandSPX.setFlight_anyZ (fr := some X.env.locals) st2 f2 t2 fun h4 j1 j2 j3 j4 => wpAny_throw ?_)
  obtain ⟨G, g1, g2⟩ := restrict s'.heap fun b => (B2.get? b).isSome || decide (b ∈ frs X.stack)
  have gB : ∀ b o, B2.get? b = some o → G.get? b = some o := fun b o e => by
    rw [g1 b (by simp [e])]
    exact fl.1 b o (bl b o e).2
  have gF : ∀ b, b ∈ frs X.stack → G.get? b = s'.heap.get? b := fun b hb => g1 b (by simp [hb])
  have keepB : ∀ b o, b ≠ cenv.locals → B.get? b = some o → G.get? b = some o := fun b o hb e => gB b o (by rw [b1 b (decide_eq_true hb)]; exact e)
  have og : ∀ b o, G.get? b = some o → s'.heap.get? b = some o ∧ b ≠ cenv.locals ∧ (B2.get? b = some o ∨ b ∈ frs X.stack) := fun b o e => by
    cases q : ((B2.get? b).isSome || decide (b ∈ frs X.stack)) with
    | false =>
      rw [g2 b q] at e
      cases e
    | true =>
      rw [g1 b q] at e
      by_cases hb : b ∈ frs X.stack
      · exact ⟨e, fun z => cfr (z ▸ hb), .inr hb⟩
      · rw [decide_eq_false hb, Bool.or_false] at q
        obtain ⟨o', q'⟩ := Option.isSome_iff_exists.mp q
        have z := fl.1 b o' (bl b o' q').2
        rw [e] at z
        cases z
        exact ⟨e, (bl b o q').1, .inl q'⟩
  refine tk _ _ ⟨a, B2, { s with heap := G, gens := s'.gens, drawn := s'.drawn, toks := s'.toks }, pins, σ, H1, cls, d, rfl, ?_, fun b o e hb => ?_, fun b o e hnf => ?_, .inr (.inr ⟨j1, less _ fl.2.1, by rw [hs]; exact j2, j3⟩), na, os, ag, hW _ _ _ hE⟩
  · refine I.call (ch := [cenv.locals]) ⟨fun b o e n hb hc => keepB b o (fun z => hc (by simp [z])) (ub.keep b o e n hb), fun b o e n hb _ => ?_, fun b o e n _ => ub.free b o e n, fun b o e hc => ?_, ub.tups, ub.frzs, ub.tbls⟩ (fun b v e => (hok b v e).stay (fun b' v' hb' q => keepB b' v' (fun z => ?_) q) (fun _ q => q) fun _ _ q => q) ag (fun b hb => ?_)
    · obtain ⟨sl, q⟩ := ub.slot b o e hb
      exact ⟨sl, by rw [gF b hb]; exact q⟩
    · by_cases hb : b ∈ frs X.stack
      · obtain ⟨sl, q⟩ := ub.slot b o e hb
        exact ⟨_, by rw [gF b hb]; exact q⟩
      · obtain ⟨o', q⟩ := ub.there b o e hb
        exact ⟨o', keepB b o' (fun z => hc (by simp [z])) q⟩
    · rcases hb' with rfl | hb'
      · rw [z, n1] at e
        cases e
      · rw [z, n1] at hb'
        cases hb'
    · have e : b = cenv.locals := by simpa using hb
      subst e
      exact ⟨cex, cL, ccell, cpin⟩
  · rcases (og b o e).2.2 with h | h
    · exact h
    · exact absurd h hb
  · obtain ⟨e1, e2, _⟩ := og b o e
    obtain ⟨sl1, q1⟩ := up1 b o e1 hnf
    obtain ⟨sl2, q2⟩ := j4 b _ ((sb.2 b e2).trans q1) hnf
    exact ⟨sl2, q2⟩
end
section
variable {X : Cx}
/-- what a call in the block's element may let out: the call's own tale, and the block's state ahead of it -/
def XB (Y : Cx) (E : XK) : Value → Shared → Prop := fun u s' => ∃ (pins : List (Addr × Obj)) (σ : L2.St) (H : Hp) (s : Shared), Inv Y pins σ H s ∧ L2.CX Y.prog Y.w Y.stack H s E u s'
theorem passes_blk {Y : Cx} {E : XK} {pn : List (Addr × Obj)} : Passes (L2.CX Y.prog Y.w) (Y.tr (Y.pn ++ pn) (XB Y E)) E := fun pins σ H s e s' I c => ⟨pn, σ, H, s, I.ofTry I.ok.ofTry, c⟩
/-- [elt for target in iter if ..], the element by calls that may raise -/
theorem pe_lcX {W : WX} {E : XK} {elt tg iter : Expr} {ifs : List Expr} {scope : Scope} {own : List (Str × Nat)} {pos : Pos} {wi : TI} {g : TG} {tt : TT} {te : TE} (tk : Takes X W) (hW : ∀ cls d σ H, E cls d H → W cls d σ H) (hs : X.stack = X.env :: X.outer) (hf : X.env.frame = some X.env.locals) (hc : X.calm = true) (hN : X.N.Nodup) (hi : PI X tg iter wi) (ok : BlkOk X.N X.env.scope scope own)
    (hg : ∀ (s : Shared) (H : Hp) (C : Addr) (cl : List (Str × Addr)) (fp : List Addr), PG (X.blk s H scope (compEnvC scope cl C X.env) fp) tg g) (ht : ∀ (s : Shared) (H : Hp) (C : Addr) (cl : List (Str × Addr)) (fp : List Addr), PTs (X.blk s H scope (compEnvC scope cl C X.env) fp) ifs tt)
    (he : ∀ (s : Shared) (H : Hp) (C : Addr) (cl : List (Str × Addr)) (fp : List Addr) (pn : List (Addr × Obj)), PE ((X.blk s H scope (compEnvC scope cl C X.env) fp).tr ((X.blk s H scope (compEnvC scope cl C X.env) fp).pn ++ pn) (XB (X.blk s H scope (compEnvC scope cl C X.env) fp) E)) elt te) (hsf : ∀ x, foldedSetIterable iter X.env x = pure x := by intro _; rfl) :
    PE X (.ListComp elt [⟨tg, iter, ifs, 0⟩] scope pos) (tLc wi g tt te (own.map (·.2))) := by
  refine ⟨fun pins s σ H Q I h => ?_⟩
  rw [eval_ListComp]
  have hfree : ∀ y ∈ scope.names, y.2 = .free → ∃ c, X.env.cells.lookup y.1 = some c := fun y hy e => (ok.free y hy e).elim (fun k => I.ok.has _ (.inl k)) fun k => I.ok.has _ (.inr k)
  refine comprehension_at (use := none) rfl hsf (closure_ok hfree) ok.kind (fun y hy e => by rw [ok.uniq y hy, e]) (thn (hi.run pins s σ H _ I h) fun xv s1 hx => thn hx fun itv s2 h2 => ?_)
  obtain ⟨it, fp, tn, J, H2, e, I2, T, st2, f2, q⟩ := h2
  subst e
  refine wpAny_newObj_type (newEnv_comp ?_) (by show 0 ≤ sizeLine; decide)
  -- the new list
  obtain ⟨D, hD⟩ : ∃ D, D = s2.heap.objs.size := ⟨_, rfl⟩
  rw [← hD]
  have hDn : H2 D = none := I2.hok.fresh (Nat.le_of_eq hD.symm)
  obtain ⟨W0, ⟨m0, w0⟩, turn⟩ := q D hDn
  generalize hs3 : ({ s2 with heap := s2.heap.push { cls := .type "list", data := .seq ([] : List Value).toArray } } : Shared) = s3
  have h3 : s3.heap = s2.heap.push { cls := .type "list", data := .seq ([] : List Value).toArray } := by rw [← hs3]
  have I3 : Inv X pins σ (upd H2 D (.lst [])) s3 := by
    rw [← hs3]
    exact I2.laid (t' := s2.toks) (fun b o e => Heap.get?_push_of_some _ e) (Nat.le_of_eq hD.symm) ⟨Nat.zero_le _, [], 0, .nil, by rw [hD]; exact Heap.get?_push_size _ rfl⟩
  have lt2 : ∀ b ∈ fp, b < s2.heap.objs.size := fun b hb => (T.obj _ _ st2 b hb).elim fun o e => Heap.lt_size e.1
  have f3 : ∀ b ∈ fp, FpOk X pins (upd H2 D (.lst [])) b ∧ b < s3.heap.objs.size := fun b hb =>
    ⟨⟨by rw [upd_ne (by rw [hD]; exact Nat.ne_of_lt (lt2 b hb))]; exact (f2 b hb).1, (f2 b hb).2⟩, by rw [h3, Heap.size_push]; exact Nat.lt_succ_of_lt (lt2 b hb)⟩
  have st3 : tn 0 s3.heap := T.keep _ _ _ st2 fun b _ o e => by rw [h3]; exact Heap.get?_push_of_some _ e
  have I4 := block_start I3 ok hN f3
  show codeAny _ _ (.compStart (.ListComp elt [⟨tg, iter, ifs, 0⟩] scope pos) 0 (.ref it) (.ref D) (compEnvC scope (cellsFrom (s3.heap.objs.size + 1) scope.names (cloFrom X.env.cells scope.names [])) s3.heap.objs.size X.env)) (compEnds (model X.prog X.w) X.A X.xe none (EP X pins σ Q) (.ref D) (compEnvC scope (cellsFrom (s3.heap.objs.size + 1) scope.names (cloFrom X.env.cells scope.names [])) s3.heap.objs.size X.env)) { s3 with heap := pushCells (s3.heap.push { cls := .type "dict", data := .dict #[] }) scope.names }
  have pg := hg s3 (upd H2 D (.lst [])) s3.heap.objs.size (cellsFrom (s3.heap.objs.size + 1) scope.names (cloFrom X.env.cells scope.names [])) fp
  have pt := ht s3 (upd H2 D (.lst [])) s3.heap.objs.size (cellsFrom (s3.heap.objs.size + 1) scope.names (cloFrom X.env.cells scope.names [])) fp
  have pe := he s3 (upd H2 D (.lst [])) s3.heap.objs.size (cellsFrom (s3.heap.objs.size + 1) scope.names (cloFrom X.env.cells scope.names [])) fp
  have nfp : ∀ b ∈ fp, (upd H2 D (.lst [])) b = none := fun b hb => (f3 b hb).1.1
  generalize hce : compEnvC scope (cellsFrom (s3.heap.objs.size + 1) scope.names (cloFrom X.env.cells scope.names [])) s3.heap.objs.size X.env = ce at I4 pg pt pe ⊢
  have cL : ce.locals = s3.heap.objs.size := by rw [← hce]; rfl
  have cF : ce.frame = X.env.frame := by rw [← hce]; rfl
  generalize upd H2 D (.lst []) = H3 at I3 I4 pg pt pe w0 nfp f3
  generalize hs4 : ({ s3 with heap := pushCells (s3.heap.push { cls := .type "dict", data := .dict #[] }) scope.names } : Shared) = s4 at I4 ⊢
  have st4 : tn 0 s4.heap := T.keep _ _ _ st3 fun b _ o e => by rw [← hs4]; exact pushCells_keeps _ _ _ _ (Heap.get?_push_of_some _ e)
  -- a state of the block, in the def's own context
  have home : ∀ {pn : List (Addr × Obj)} {σ' : L2.St} {H' : Hp} {s' : Shared}, Inv (X.blk s3 H3 scope ce fp) pn σ' H' s' → Inv X pins σ H' s' ∧ FpOk X pins H' ce.locals ∧ ∃ m, s'.heap.Ns ce.locals m := fun {pn σ' H' s'} I' => by
    have nC : H' ce.locals = none := I'.free
    refine ⟨I3.call' (ch := fp) I'.os I'.base I'.hok I'.bare fun b hb => ⟨(f3 b hb).1.2.2.2.1, (f3 b hb).1.2.1, (f3 b hb).1.2.2.2.2.1, (f3 b hb).1.2.2.2.2.2⟩, ?_, ?_⟩
    · rw [cL] at nC ⊢
      exact I3.fpOk (Nat.le_refl _) nC
    · obtain ⟨m, hn, _⟩ := I'.loc
      exact ⟨m, hn⟩
  have there : ∀ {σ' : L2.St} {H' : Hp} {s' : Shared}, Inv (X.blk s3 H3 scope ce fp) [] σ' H' s' → (∀ b ∈ fp, H' b = none) → ∀ b ∈ fp, FpOk (X.blk s3 H3 scope ce fp) [] H' b := fun {σ' H' s'} I' hn b hb =>
    ⟨hn b hb, (I'.ok.exf b hb).1, I'.ok.exfs b hb, .inl hb, fun x c e => (I'.ok.exf b hb).2 x c e, fun p hp => absurd (show p ∈ ([] : List (Addr × Obj)) ++ [] from hp) (by simp)⟩
  refine codeAny_compStart_list ?loop (T.self X.A 0 _ _ _ st4 ?loop)
  refine compLoop_any (fun n s' => ∃ i H', Inv (X.blk s3 H3 scope ce fp) [] (wipe σ (own.map (·.2))) H' s' ∧ tn i s'.heap ∧ (∀ b ∈ fp, H' b = none) ∧ W0 i n H') ?_ m0 ⟨0, H3, I4, st4, nfp, w0⟩
  rintro n s5 ⟨i, H5, I5, st5, n5, w5⟩
  rcases turn i n H5 w5 with ⟨stop, qq⟩ | ⟨go, Nx, hNx, step⟩
  · refine thnF (T.done (X.blk s3 H3 scope ce fp) rfl rfl rfl hc i [] s5 _ H5 (fun _ _ => False) I5 (there I5 n5) st5 stop) fun r s6 ⟨hr, I6⟩ => ?_
    subst hr
    obtain ⟨I7, ⟨p0, p1, _, p3, p4, p5⟩, m, hn⟩ := home I6
    exact ⟨m, hn, fun h' sb => ⟨.ref D, H5, I7.turned (t' := s6.toks) (fun b o hb e => (sb.2 b hb).trans e) p0 p1 p3 p4 p5, rfl, qq⟩⟩
  · refine thnF (T.item (X.blk s3 H3 scope ce fp) rfl rfl rfl hc i [] s5 _ H5 (fun _ _ => False) I5 (there I5 n5) st5 go) fun r s6 ⟨u, hr, h6⟩ => ?_
    subst hr
    refine thnF h6 fun _ s7 ⟨x, H7, I7, r7, y7, st7, n7⟩ => ?_
    have I7' := I7.pinned (there I7 n7) (T.obj _ _ st7)
    refine thnF (pg.run _ s7 _ H7 x u _ I7' r7 (step x H7 y7)) fun _ s8 ⟨σ8, H8, I8, hw8, q8⟩ => ?_
    refine thnF (pt.run _ s8 σ8 H8 _ I8 q8) fun b s9 ⟨H9, I9, q9⟩ => ?_
    have fin : ∀ {s' : Shared} {H' : Hp}, Inv (X.blk s3 H3 scope ce fp) ([] ++ pinsAt fp s7.heap) σ8 H' s' → Nx H' → ∃ m, m < n ∧ ∃ i H', Inv (X.blk s3 H3 scope ce fp) [] (wipe σ (own.map (·.2))) H' s' ∧ tn i s'.heap ∧ (∀ b ∈ fp, H' b = none) ∧ W0 i m H' := fun {s' H'} I' nx => by
      obtain ⟨m', hm, w'⟩ := hNx H' nx
      have pin : ∀ b ∈ fp, ∀ o, s7.heap.get? b = some o → s'.heap.get? b = some o ∧ H' b = none := fun b hb o e =>
        ⟨(I'.pin (b, o) (List.mem_append_right _ (List.mem_append_right _ (mem_pinsAt hb e)))).1, (I'.pin (b, o) (List.mem_append_right _ (List.mem_append_right _ (mem_pinsAt hb e)))).2.1⟩
      refine ⟨m', hm, i + 1, H', (I'.unpinned (pins := [])).weak (by rw [← hw8, wipe_length]) (fun j v e => ?_), T.keep _ _ _ st7 fun b hb o e => (pin b hb o e).1, fun b hb => ?_, w'⟩
      · rw [← hw8] at e
        exact (wipe_some e).1
      · obtain ⟨o, e, _⟩ := T.obj _ _ st7 b hb
        exact (pin b hb o e).2
    cases b with
    | false =>
      simp only [Bool.false_eq_true, if_false] at q9 ⊢
      exact fin I9 q9
    | true =>
      simp only [if_true] at q9 ⊢
      refine wpAny_mono ((pe ([] ++ pinsAt fp s7.heap)).run [] s9 σ8 H9 _ (I9.toTry _) q9) (fun z s10 ⟨yv, H10, I10, r10, acc, hD10, hz10, nx⟩ => ?_) fun u s10 ⟨pn, σc, Hc, sc, Ic, c⟩ => ?_
      · exact app_ok (X := X.blk s3 H3 scope ce fp) (I10.ofTry I9.ok) hD10 hz10 r10 fun s11 I11 => fin I11 nx
      · obtain ⟨I11, fpC, m, hn⟩ := home Ic
        exact comp_raise hs hf tk cF I11 fpC hn (fun cls d H' h => hW cls d σ H' h) c
end
end Fb

/-! Part LY: <= of tuples of a number and a text. -/
namespace Fb
open PySem PySem.Spec PyProof.Rows L2
section
variable {X : Cx}
def rLeRS (K : PySem.W.Frag) : R2 := fun x y H Q => ∃ (a b : Addr) (k l : RS), x = .ref a ∧ y = .ref b ∧ SqT K H a [.int k.1, .str k.2] ∧ SqT K H b [.int l.1, .str l.2] ∧ Q (.bl (!rsLt l k)) H
theorem op_leRS (hu : X.A.units < cLine) : OpR X (compareOp .LtE) (rLeRS X.K) := by
  intro pins s σ H x y v u Q I rx ry h
  obtain ⟨a, b, k, l, rfl, rfl, ha, hb, q⟩ := h
  cases rx
  cases ry
  obtain ⟨its, r1, p1, _⟩ := I.tuple ha
  obtain ⟨its2, r2, p2, _⟩ := I.tuple hb
  obtain ⟨u1, u2, rfl, ⟨t1, e1⟩, ⟨t2, e2⟩⟩ := vals2 r1
  obtain ⟨w1, w2, rfl, ⟨t3, e3⟩, ⟨t4, e4⟩⟩ := vals2 r2
  subst e1 e2 e3 e4
  have R := Ob.RcOp.tuples_le (A := X.A) (s := s) (e := fun j => if j = 0 then (k.1 == l.1) else (k.2 == l.2)) (r := fun j => if j = 0 then decide (k.1 ≤ l.1) else !decide (l.2.cps.toList < k.2.cps.toList)) p1 p2 hu (fun j h1 h2 => by
    match j, h1, h2 with
    | 0, _, _ => exact SeqAt.EqAt.int_int _ _ _ _
    | 1, _, _ => exact SeqAt.EqAt.str_str _ _ _ _) (fun j h1 h2 _ => by
    match j, h1, h2 with
    | 0, _, _ => exact Ob.RcOp.le_int _ _ _ _
    | 1, _, _ => exact fun _ _ _ _ h => PySem.P.le_str h)
  have e : Ob.lexAt (fun j => if j = 0 then (k.1 == l.1) else (k.2 == l.2)) (fun j => if j = 0 then decide (k.1 ≤ l.1) else !decide (l.2.cps.toList < k.2.cps.toList)) (decide ((#[Value.int k.1 t1, Value.str k.2 t2] : Array Value).size ≤ (#[Value.int l.1 t3, Value.str l.2 t4] : Array Value).size)) 0 (min (#[Value.int k.1 t1, Value.str k.2 t2] : Array Value).size (#[Value.int l.1 t3, Value.str l.2 t4] : Array Value).size) = !rsLt l k := by
    show (if (k.1 == l.1) = true then (if (k.2 == l.2) = true then true else !decide (l.2.cps.toList < k.2.cps.toList)) else decide (k.1 ≤ l.1)) = _
    unfold rsLt
    by_cases h1 : k.1 = l.1
    · have hlt : decide (l.1 < k.1) = false := decide_eq_false (by rw [h1]; exact Int.lt_irrefl _)
      rw [if_pos (by rw [h1]; exact beq_self_eq_true _), hlt, decide_eq_true h1.symm, Bool.false_or, Bool.true_and]
      by_cases h2 : k.2 = l.2
      · have hl2 : decide (l.2.cps.toList < k.2.cps.toList) = false := decide_eq_false (by rw [h2]; exact List.lt_irrefl _)
        rw [if_pos (by rw [h2]; exact beq_self_eq_true _), hl2]
        rfl
      · rw [if_neg (by rw [beq_iff_eq]; exact h2)]
    · have h3 : decide (l.1 = k.1) = false := decide_eq_false fun z => h1 z.symm
      rw [if_neg (by rw [beq_iff_eq]; exact h1), h3, Bool.false_and, Bool.or_false, Bool.eq_iff_iff]
      simp
  have R : Ob.RcOp .LtE X.A s (.ref a) (.ref b) (!rsLt l k) := by
    rw [← e]
    exact R
  have z : wpAny (model X.prog X.w) X.A (compareOp .LtE (.ref a) (.ref b)) (EP X pins σ Q) X.xe s := R X.prog X.w X.xe (EP X pins σ Q) ⟨.bl _, H, I, rfl, q⟩
  exact z
/-- a text so many times -/
def rMulS : R2 := fun x y H Q => ∃ (z : Str) (n : Int), x = .str z ∧ y = .int n ∧ MulOk z n ∧ Q (.str (Txt.mul z n)) H
theorem op_mulS : OpR X (binaryOp .Mult) rMulS := by
  intro pins s σ H x y v u Q I rx ry h
  obtain ⟨z, n, rfl, rfl, ok, q⟩ := h
  obtain ⟨t, rfl⟩ := rx
  obtain ⟨t', rfl⟩ := ry
  exact SB.mul ok fun t2 k => ⟨.str _, H, I.tok k, ⟨t2, rfl⟩, q⟩
end
end Fb

namespace Fb
open PySem PySem.Spec PyProof.Rows L2
def topS (i : Nat) : Stmt := PySem.Challenge.pw_farbetween_k81_machine_texts_refused.main.body.getD i (.Pass ⟨0, 0, 0, 0⟩)
abbrev s_m_NoMachine_init : Stmt := inClass (topS 2) 0
theorem sc_m_NoMachine_init : FnScope ["self", "part"] ["self", "part"] (defScope s_m_NoMachine_init) := ⟨rfl, rfl, rfl, by decide +kernel, rfl, by decide +kernel, by decide +kernel⟩
abbrev s_m_NoText_init : Stmt := inClass (topS 3) 0
theorem sc_m_NoText_init : FnScope ["self", "at"] ["self", "at"] (defScope s_m_NoText_init) := ⟨rfl, rfl, rfl, by decide +kernel, rfl, by decide +kernel, by decide +kernel⟩
abbrev s_p_are_figures : Stmt := topS 6
theorem sc_p_are_figures : FnScope ["word", "most", "figure"] ["word", "most"] (defScope s_p_are_figures) := ⟨rfl, rfl, rfl, by decide +kernel, rfl, by decide +kernel, by decide +kernel⟩
abbrev s_p_number_in : Stmt := topS 7
theorem sc_p_number_in : FnScope ["word", "most"] ["word", "most"] (defScope s_p_number_in) := ⟨rfl, rfl, rfl, by decide +kernel, rfl, by decide +kernel, by decide +kernel⟩
abbrev s_p_is_whole : Stmt := topS 11
theorem sc_p_is_whole : FnScope ["thing"] ["thing"] (defScope s_p_is_whole) := ⟨rfl, rfl, rfl, by decide +kernel, rfl, by decide +kernel, by decide +kernel⟩
abbrev s_p_is_name : Stmt := topS 12
theorem sc_p_is_name : FnScope ["thing", "letter"] ["thing"] (defScope s_p_is_name) := ⟨rfl, rfl, rfl, by decide +kernel, rfl, by decide +kernel, by decide +kernel⟩
abbrev s_p_common_part : Stmt := topS 14
theorem sc_p_common_part : FnScope ["one", "other"] ["one", "other"] (defScope s_p_common_part) := ⟨rfl, rfl, rfl, by decide +kernel, rfl, by decide +kernel, by decide +kernel⟩
abbrev s_m_Machine_init : Stmt := inClass (topS 17) 0
theorem sc_m_Machine_init : FnScope ["self", "many", "steps", "room", "sign", "weights"] ["self", "many", "steps"] (defScope s_m_Machine_init) := ⟨rfl, rfl, rfl, by decide +kernel, rfl, by decide +kernel, by decide +kernel⟩
abbrev s_m_Machine_eq : Stmt := inClass (topS 17) 1
theorem sc_m_Machine_eq : FnScope ["self", "other"] ["self", "other"] (defScope s_m_Machine_eq) := ⟨rfl, rfl, rfl, by decide +kernel, rfl, by decide +kernel, by decide +kernel⟩
abbrev s_m_Machine_len : Stmt := inClass (topS 17) 2
theorem sc_m_Machine_len : FnScope ["self"] ["self"] (defScope s_m_Machine_len) := ⟨rfl, rfl, rfl, by decide +kernel, rfl, by decide +kernel, by decide +kernel⟩
abbrev s_p_is_room : Stmt := topS 18
theorem sc_p_is_room : FnScope ["thing", "many"] ["thing", "many"] (defScope s_p_is_room) := ⟨rfl, rfl, rfl, by decide +kernel, rfl, by decide +kernel, by decide +kernel⟩
abbrev s_p_are_weights : Stmt := topS 19
theorem sc_p_are_weights : FnScope ["thing", "many", "weight"] ["thing", "many"] (defScope s_p_are_weights) := ⟨rfl, rfl, rfl, by decide +kernel, rfl, by decide +kernel, by decide +kernel⟩
abbrev s_p_is_step : Stmt := topS 20
theorem sc_p_is_step : FnScope ["thing", "many", "room", "sign", "weights"] ["thing", "many"] (defScope s_p_is_step) := ⟨rfl, rfl, rfl, by decide +kernel, rfl, by decide +kernel, by decide +kernel⟩
abbrev s_p_are_steps : Stmt := topS 21
theorem sc_p_are_steps : FnScope ["thing", "many", "step", "room", "sign", "weights"] ["thing", "many"] (defScope s_p_are_steps) := ⟨rfl, rfl, rfl, by decide +kernel, rfl, by decide +kernel, by decide +kernel⟩
abbrev s_p_lowest : Stmt := topS 22
theorem sc_p_lowest : FnScope ["weights", "common", "weight"] ["weights"] (defScope s_p_lowest) := ⟨rfl, rfl, rfl, by decide +kernel, rfl, by decide +kernel, by decide +kernel⟩
abbrev s_p_read : Stmt := topS 26
theorem sc_p_read : FnScope ["text", "words", "many", "steps", "at", "step"] ["text"] (defScope s_p_read) := ⟨rfl, rfl, rfl, by decide +kernel, rfl, by decide +kernel, by decide +kernel⟩
abbrev s_p_read_step : Stmt := topS 27
theorem sc_p_read_step : FnScope ["words", "at", "many", "room", "sign", "to"] ["words", "at", "many"] (defScope s_p_read_step) := ⟨rfl, rfl, rfl, by decide +kernel, rfl, by decide +kernel, by decide +kernel⟩
abbrev s_p_word_at : Stmt := topS 28
theorem sc_p_word_at : FnScope ["words", "at"] ["words", "at"] (defScope s_p_word_at) := ⟨rfl, rfl, rfl, by decide +kernel, rfl, by decide +kernel, by decide +kernel⟩
abbrev s_p_number_at : Stmt := topS 29
theorem sc_p_number_at : FnScope ["words", "at", "number"] ["words", "at"] (defScope s_p_number_at) := ⟨rfl, rfl, rfl, by decide +kernel, rfl, by decide +kernel, by decide +kernel⟩
abbrev s_p_stands_behind : Stmt := topS 30
theorem sc_p_stands_behind : FnScope ["step", "steps"] ["step", "steps"] (defScope s_p_stands_behind) := ⟨rfl, rfl, rfl, by decide +kernel, rfl, by decide +kernel, by decide +kernel⟩
abbrev s_p_are_lowest : Stmt := topS 31
theorem sc_p_are_lowest : FnScope ["weights", "many"] ["weights", "many"] (defScope s_p_are_lowest) := ⟨rfl, rfl, rfl, by decide +kernel, rfl, by decide +kernel, by decide +kernel⟩
abbrev s_l_well : Stmt := topS 34
theorem sc_l_well : FnScope ["_law_cell"] ["_law_cell"] (defScope s_l_well) := ⟨rfl, rfl, rfl, by decide +kernel, rfl, by decide +kernel, by decide +kernel⟩
abbrev s_l_draw : Stmt := topS 35
theorem sc_l_draw : FnScope ["_law_well_here", "_law_many", "_law_digit", "_law_prime", "_law_number"] ["_law_well_here", "_law_many"] (defScope s_l_draw) := ⟨rfl, rfl, rfl, by decide +kernel, rfl, by decide +kernel, by decide +kernel⟩
abbrev s_l_one : Stmt := topS 36
theorem sc_l_one : FnScope ["_law_well_here", "_law_some"] ["_law_well_here", "_law_some"] (defScope s_l_one) := ⟨rfl, rfl, rfl, by decide +kernel, rfl, by decide +kernel, by decide +kernel⟩
abbrev s_l_names : Stmt := topS 37
theorem sc_l_names : FnScope ["_law_well_here", "_law_many", "_law_some", "_law_at", "_law_found", "_law_last", "_law_word", "_law_k"] ["_law_well_here", "_law_many"] (defScope s_l_names) := ⟨rfl, rfl, rfl, by decide +kernel, rfl, by decide +kernel, by decide +kernel⟩
abbrev s_l_weights : Stmt := topS 38
theorem sc_l_weights : FnScope ["_law_well_here", "_law_many", "_law_way", "_law_found", "_law_k", "_law_at", "_law_room"] ["_law_well_here", "_law_many"] (defScope s_l_weights) := ⟨rfl, rfl, rfl, by decide +kernel, rfl, by decide +kernel, by decide +kernel⟩
abbrev s_l_machine : Stmt := topS 39
theorem sc_l_machine : FnScope ["_law_well_here", "_law_signs", "_law_most", "_law_many", "_law_way", "_law_bare", "_law_few", "_law_steps", "_law_room", "_law_at", "_law_sign"] ["_law_well_here", "_law_signs", "_law_most"] (defScope s_l_machine) := ⟨rfl, rfl, rfl, by decide +kernel, rfl, by decide +kernel, by decide +kernel⟩
abbrev s_l_words : Stmt := topS 40
theorem sc_l_words : FnScope ["_law_machine_here", "_law_words_here", "_law_room", "_law_sign", "_law_weights_here", "_law_weight"] ["_law_machine_here"] (defScope s_l_words) := ⟨rfl, rfl, rfl, by decide +kernel, rfl, by decide +kernel, by decide +kernel⟩
abbrev s_l_is_number : Stmt := topS 41
theorem sc_l_is_number : FnScope ["_law_word", "_law_most", "_law_figure"] ["_law_word", "_law_most"] (defScope s_l_is_number) := ⟨rfl, rfl, rfl, by decide +kernel, rfl, by decide +kernel, by decide +kernel⟩
abbrev s_l_is_sign : Stmt := topS 42
theorem sc_l_is_sign : FnScope ["_law_word", "_law_letter"] ["_law_word"] (defScope s_l_is_sign) := ⟨rfl, rfl, rfl, by decide +kernel, rfl, by decide +kernel, by decide +kernel⟩
abbrev s_l_divides : Stmt := topS 43
theorem sc_l_divides : FnScope ["_law_weights_here", "_law_by", "_law_weight", "_law_one_here", "_law_other"] ["_law_weights_here"] (defScope s_l_divides) := ⟨rfl, rfl, rfl, by decide +kernel, rfl, by decide +kernel, by decide +kernel⟩
abbrev s_l_step : Stmt := topS 44
theorem sc_l_step : FnScope ["_law_words_here", "_law_at", "_law_many", "_law_last", "_law_place", "_law_step_here", "_law_word"] ["_law_words_here", "_law_at", "_law_many", "_law_last"] (defScope s_l_step) := ⟨rfl, rfl, rfl, by decide +kernel, rfl, by decide +kernel, by decide +kernel⟩
abbrev s_l_due : Stmt := topS 45
theorem sc_l_due : FnScope ["_law_text", "_law_words_here", "_law_many", "_law_steps", "_law_at", "_law_where", "_law_step_here"] ["_law_text"] (defScope s_l_due) := ⟨rfl, rfl, rfl, by decide +kernel, rfl, by decide +kernel, by decide +kernel⟩
abbrev s_l_said : Stmt := topS 46
theorem sc_l_said : FnScope ["_law_thing", "_law_machine_here", "e"] ["_law_thing"] (defScope s_l_said) := ⟨rfl, rfl, rfl, by decide +kernel, rfl, by decide +kernel, by decide +kernel⟩
abbrev s_l_changed : Stmt := topS 47
theorem sc_l_changed : FnScope ["_law_well_here", "_law_words_here", "_law_way", "_law_at", "_law_some", "_law_other"] ["_law_well_here", "_law_words_here"] (defScope s_l_changed) := ⟨rfl, rfl, rfl, by decide +kernel, rfl, by decide +kernel, by decide +kernel⟩
abbrev s_law : Stmt := topS 48
theorem sc_law : FnScope ["_law_script", "_law_thing", "_law_cell", "_law_well_here", "_law_names_here", "_law_many", "_law_steps", "_law_words_here", "_law_k", "_law_text", "_law_due_here"] ["_law_script"] (defScope s_law) := ⟨rfl, rfl, rfl, by decide +kernel, rfl, by decide +kernel, by decide +kernel⟩
set_option maxHeartbeats 4000000 in
structure Txt (K : PySem.W.Frag) (mg : Str → Option Value) where
  c_FarError : Addr
  g_FarError : mg "FarError" = some (.ref c_FarError)
  c_NoMachine : Addr
  g_NoMachine : mg "NoMachine" = some (.ref c_NoMachine)
  c_NoText : Addr
  g_NoText : mg "NoText" = some (.ref c_NoText)
  c_Machine : Addr
  g_Machine : mg "Machine" = some (.ref c_Machine)
  f_m_NoMachine_init : Addr
  d_m_NoMachine_init : FuncData
  F_m_NoMachine_init : Fun K "__init__" "NoMachine.__init__" s_m_NoMachine_init f_m_NoMachine_init d_m_NoMachine_init
  b_m_NoMachine_init : Binds K d_m_NoMachine_init ["self", "part"] []
  f_m_NoText_init : Addr
  d_m_NoText_init : FuncData
  F_m_NoText_init : Fun K "__init__" "NoText.__init__" s_m_NoText_init f_m_NoText_init d_m_NoText_init
  b_m_NoText_init : Binds K d_m_NoText_init ["self", "at"] []
  f_p_are_figures : Addr
  d_p_are_figures : FuncData
  F_p_are_figures : Fun K "are_figures" "are_figures" s_p_are_figures f_p_are_figures d_p_are_figures
  b_p_are_figures : Binds K d_p_are_figures ["word", "most"] []
  g_p_are_figures : mg "are_figures" = some (.ref f_p_are_figures)
  f_p_number_in : Addr
  d_p_number_in : FuncData
  F_p_number_in : Fun K "number_in" "number_in" s_p_number_in f_p_number_in d_p_number_in
  b_p_number_in : Binds K d_p_number_in ["word", "most"] []
  g_p_number_in : mg "number_in" = some (.ref f_p_number_in)
  f_p_is_whole : Addr
  d_p_is_whole : FuncData
  F_p_is_whole : Fun K "is_whole" "is_whole" s_p_is_whole f_p_is_whole d_p_is_whole
  b_p_is_whole : Binds K d_p_is_whole ["thing"] []
  g_p_is_whole : mg "is_whole" = some (.ref f_p_is_whole)
  f_p_is_name : Addr
  d_p_is_name : FuncData
  F_p_is_name : Fun K "is_name" "is_name" s_p_is_name f_p_is_name d_p_is_name
  b_p_is_name : Binds K d_p_is_name ["thing"] []
  g_p_is_name : mg "is_name" = some (.ref f_p_is_name)
  f_p_common_part : Addr
  d_p_common_part : FuncData
  F_p_common_part : Fun K "common_part" "common_part" s_p_common_part f_p_common_part d_p_common_part
  b_p_common_part : Binds K d_p_common_part ["one", "other"] []
  g_p_common_part : mg "common_part" = some (.ref f_p_common_part)
  f_m_Machine_init : Addr
  d_m_Machine_init : FuncData
  F_m_Machine_init : Fun K "__init__" "Machine.__init__" s_m_Machine_init f_m_Machine_init d_m_Machine_init
  b_m_Machine_init : Binds K d_m_Machine_init ["self", "many", "steps"] []
  f_m_Machine_eq : Addr
  d_m_Machine_eq : FuncData
  F_m_Machine_eq : Fun K "__eq__" "Machine.__eq__" s_m_Machine_eq f_m_Machine_eq d_m_Machine_eq
  b_m_Machine_eq : Binds K d_m_Machine_eq ["self", "other"] []
  f_m_Machine_len : Addr
  d_m_Machine_len : FuncData
  F_m_Machine_len : Fun K "__len__" "Machine.__len__" s_m_Machine_len f_m_Machine_len d_m_Machine_len
  b_m_Machine_len : Binds K d_m_Machine_len ["self"] []
  f_p_is_room : Addr
  d_p_is_room : FuncData
  F_p_is_room : Fun K "is_room" "is_room" s_p_is_room f_p_is_room d_p_is_room
  b_p_is_room : Binds K d_p_is_room ["thing", "many"] []
  g_p_is_room : mg "is_room" = some (.ref f_p_is_room)
  f_p_are_weights : Addr
  d_p_are_weights : FuncData
  F_p_are_weights : Fun K "are_weights" "are_weights" s_p_are_weights f_p_are_weights d_p_are_weights
  b_p_are_weights : Binds K d_p_are_weights ["thing", "many"] []
  g_p_are_weights : mg "are_weights" = some (.ref f_p_are_weights)
  f_p_is_step : Addr
  d_p_is_step : FuncData
  F_p_is_step : Fun K "is_step" "is_step" s_p_is_step f_p_is_step d_p_is_step
  b_p_is_step : Binds K d_p_is_step ["thing", "many"] []
  g_p_is_step : mg "is_step" = some (.ref f_p_is_step)
  f_p_are_steps : Addr
  d_p_are_steps : FuncData
  F_p_are_steps : Fun K "are_steps" "are_steps" s_p_are_steps f_p_are_steps d_p_are_steps
  b_p_are_steps : Binds K d_p_are_steps ["thing", "many"] []
  g_p_are_steps : mg "are_steps" = some (.ref f_p_are_steps)
  f_p_lowest : Addr
  d_p_lowest : FuncData
  F_p_lowest : Fun K "lowest" "lowest" s_p_lowest f_p_lowest d_p_lowest
  b_p_lowest : Binds K d_p_lowest ["weights"] []
  g_p_lowest : mg "lowest" = some (.ref f_p_lowest)
  f_p_read : Addr
  d_p_read : FuncData
  F_p_read : Fun K "read" "read" s_p_read f_p_read d_p_read
  b_p_read : Binds K d_p_read ["text"] []
  g_p_read : mg "read" = some (.ref f_p_read)
  f_p_read_step : Addr
  d_p_read_step : FuncData
  F_p_read_step : Fun K "read_step" "read_step" s_p_read_step f_p_read_step d_p_read_step
  b_p_read_step : Binds K d_p_read_step ["words", "at", "many"] []
  g_p_read_step : mg "read_step" = some (.ref f_p_read_step)
  f_p_word_at : Addr
  d_p_word_at : FuncData
  F_p_word_at : Fun K "word_at" "word_at" s_p_word_at f_p_word_at d_p_word_at
  b_p_word_at : Binds K d_p_word_at ["words", "at"] []
  g_p_word_at : mg "word_at" = some (.ref f_p_word_at)
  f_p_number_at : Addr
  d_p_number_at : FuncData
  F_p_number_at : Fun K "number_at" "number_at" s_p_number_at f_p_number_at d_p_number_at
  b_p_number_at : Binds K d_p_number_at ["words", "at"] []
  g_p_number_at : mg "number_at" = some (.ref f_p_number_at)
  f_p_stands_behind : Addr
  d_p_stands_behind : FuncData
  F_p_stands_behind : Fun K "stands_behind" "stands_behind" s_p_stands_behind f_p_stands_behind d_p_stands_behind
  b_p_stands_behind : Binds K d_p_stands_behind ["step", "steps"] []
  g_p_stands_behind : mg "stands_behind" = some (.ref f_p_stands_behind)
  f_p_are_lowest : Addr
  d_p_are_lowest : FuncData
  F_p_are_lowest : Fun K "are_lowest" "are_lowest" s_p_are_lowest f_p_are_lowest d_p_are_lowest
  b_p_are_lowest : Binds K d_p_are_lowest ["weights", "many"] []
  g_p_are_lowest : mg "are_lowest" = some (.ref f_p_are_lowest)
  f_l_well : Addr
  d_l_well : FuncData
  F_l_well : Fun K "_law_well" "_law_well" s_l_well f_l_well d_l_well
  b_l_well : Binds K d_l_well ["_law_cell"] []
  g_l_well : mg "_law_well" = some (.ref f_l_well)
  f_l_draw : Addr
  d_l_draw : FuncData
  F_l_draw : Fun K "_law_draw" "_law_draw" s_l_draw f_l_draw d_l_draw
  b_l_draw : Binds K d_l_draw ["_law_well_here", "_law_many"] []
  g_l_draw : mg "_law_draw" = some (.ref f_l_draw)
  f_l_one : Addr
  d_l_one : FuncData
  F_l_one : Fun K "_law_one" "_law_one" s_l_one f_l_one d_l_one
  b_l_one : Binds K d_l_one ["_law_well_here", "_law_some"] []
  g_l_one : mg "_law_one" = some (.ref f_l_one)
  f_l_names : Addr
  d_l_names : FuncData
  F_l_names : Fun K "_law_names" "_law_names" s_l_names f_l_names d_l_names
  b_l_names : Binds K d_l_names ["_law_well_here", "_law_many"] []
  g_l_names : mg "_law_names" = some (.ref f_l_names)
  f_l_weights : Addr
  d_l_weights : FuncData
  F_l_weights : Fun K "_law_weights" "_law_weights" s_l_weights f_l_weights d_l_weights
  b_l_weights : Binds K d_l_weights ["_law_well_here", "_law_many"] []
  g_l_weights : mg "_law_weights" = some (.ref f_l_weights)
  f_l_machine : Addr
  d_l_machine : FuncData
  F_l_machine : Fun K "_law_machine" "_law_machine" s_l_machine f_l_machine d_l_machine
  b_l_machine : Binds K d_l_machine ["_law_well_here", "_law_signs", "_law_most"] []
  g_l_machine : mg "_law_machine" = some (.ref f_l_machine)
  f_l_words : Addr
  d_l_words : FuncData
  F_l_words : Fun K "_law_words" "_law_words" s_l_words f_l_words d_l_words
  b_l_words : Binds K d_l_words ["_law_machine_here"] []
  g_l_words : mg "_law_words" = some (.ref f_l_words)
  f_l_is_number : Addr
  d_l_is_number : FuncData
  F_l_is_number : Fun K "_law_is_number" "_law_is_number" s_l_is_number f_l_is_number d_l_is_number
  b_l_is_number : Binds K d_l_is_number ["_law_word", "_law_most"] []
  g_l_is_number : mg "_law_is_number" = some (.ref f_l_is_number)
  f_l_is_sign : Addr
  d_l_is_sign : FuncData
  F_l_is_sign : Fun K "_law_is_sign" "_law_is_sign" s_l_is_sign f_l_is_sign d_l_is_sign
  b_l_is_sign : Binds K d_l_is_sign ["_law_word"] []
  g_l_is_sign : mg "_law_is_sign" = some (.ref f_l_is_sign)
  f_l_divides : Addr
  d_l_divides : FuncData
  F_l_divides : Fun K "_law_divides" "_law_divides" s_l_divides f_l_divides d_l_divides
  b_l_divides : Binds K d_l_divides ["_law_weights_here"] []
  g_l_divides : mg "_law_divides" = some (.ref f_l_divides)
  f_l_step : Addr
  d_l_step : FuncData
  F_l_step : Fun K "_law_step" "_law_step" s_l_step f_l_step d_l_step
  b_l_step : Binds K d_l_step ["_law_words_here", "_law_at", "_law_many", "_law_last"] []
  g_l_step : mg "_law_step" = some (.ref f_l_step)
  f_l_due : Addr
  d_l_due : FuncData
  F_l_due : Fun K "_law_due" "_law_due" s_l_due f_l_due d_l_due
  b_l_due : Binds K d_l_due ["_law_text"] []
  g_l_due : mg "_law_due" = some (.ref f_l_due)
  f_l_said : Addr
  d_l_said : FuncData
  F_l_said : Fun K "_law_said" "_law_said" s_l_said f_l_said d_l_said
  b_l_said : Binds K d_l_said ["_law_thing"] []
  g_l_said : mg "_law_said" = some (.ref f_l_said)
  f_l_changed : Addr
  d_l_changed : FuncData
  F_l_changed : Fun K "_law_changed" "_law_changed" s_l_changed f_l_changed d_l_changed
  b_l_changed : Binds K d_l_changed ["_law_well_here", "_law_words_here"] []
  g_l_changed : mg "_law_changed" = some (.ref f_l_changed)
  f_law : Addr
  d_law : FuncData
  F_law : Fun K "law" "law" s_law f_law d_law
  b_law : Binds K d_law ["_law_script"] []
  g_law : mg "law" = some (.ref f_law)
  cl_Machine : Cls K c_Machine
  M_Machine : Mk K c_Machine f_m_Machine_init
  ti_Machine : TyIns K c_Machine
  n_Machine_many : NoAttr K c_Machine "many"
  n_Machine_steps : NoAttr K c_Machine "steps"
  h_m_Machine_eq : Meth K c_Machine "__eq__" f_m_Machine_eq
  h_m_Machine_len : Meth K c_Machine "__len__" f_m_Machine_len
  ne_Machine : PySem.W.findIn K (.ref c_Machine) "__ne__" = some (some (.builtin "object.__ne__"))
  nf_Machine_int : PySem.W.notFirst K c_Machine (.type "int") = true
  nf_Machine_str : PySem.W.notFirst K c_Machine (.type "str") = true
  nf_Machine_NoneType : PySem.W.notFirst K c_Machine (.type "NoneType") = true
  nf_Machine_list : PySem.W.notFirst K c_Machine (.type "list") = true
  nf_Machine_tuple : PySem.W.notFirst K c_Machine (.type "tuple") = true
  nf_Machine_dict : PySem.W.notFirst K c_Machine (.type "dict") = true
  nf_Machine_bool : PySem.W.notFirst K c_Machine (.type "bool") = true
  k_Machine : PySem.W.kitOne K (.ref c_Machine) (.ref c_Machine) = some true
  k_Machine_int : PySem.W.kitOne K (.type "int") (.ref c_Machine) = some false
  k_Machine_str : PySem.W.kitOne K (.type "str") (.ref c_Machine) = some false
  k_Machine_NoneType : PySem.W.kitOne K (.type "NoneType") (.ref c_Machine) = some false
  k_Machine_list : PySem.W.kitOne K (.type "list") (.ref c_Machine) = some false
  k_Machine_tuple : PySem.W.kitOne K (.type "tuple") (.ref c_Machine) = some false
  k_Machine_dict : PySem.W.kitOne K (.type "dict") (.ref c_Machine) = some false
  k_Machine_bool : PySem.W.kitOne K (.type "bool") (.ref c_Machine) = some false
  u_FIGURES : Value
  g_FIGURES : mg "FIGURES" = some u_FIGURES
  r_FIGURES : RelV (.str "0123456789") u_FIGURES
  u_LETTERS : Value
  g_LETTERS : mg "LETTERS" = some u_LETTERS
  r_LETTERS : RelV (.str "abcdefghijklmnopqrstuvwxyz") u_LETTERS
  u_LONGEST_NAME : Value
  g_LONGEST_NAME : mg "LONGEST_NAME" = some u_LONGEST_NAME
  r_LONGEST_NAME : RelV (.int 8) u_LONGEST_NAME
  u_MOST_ROOMS : Value
  g_MOST_ROOMS : mg "MOST_ROOMS" = some u_MOST_ROOMS
  r_MOST_ROOMS : RelV (.int 12) u_MOST_ROOMS
  u_MOST_FIGURES : Value
  g_MOST_FIGURES : mg "MOST_FIGURES" = some u_MOST_FIGURES
  r_MOST_FIGURES : RelV (.int 100) u_MOST_FIGURES
  u_BREAK : Value
  g_BREAK : mg "BREAK" = some u_BREAK
  r_BREAK : RelV (.str "/") u_BREAK
  z_all : mg "all" = none
  z_len : mg "len" = none
  z_int : mg "int" = none
  z_isinstance : mg "isinstance" = none
  z_bool : mg "bool" = none
  z_str : mg "str" = none
  z_abs : mg "abs" = none
  z_sorted : mg "sorted" = none
  z_range : mg "range" = none
  z_any : mg "any" = none
  z_tuple : mg "tuple" = none
  z_list : mg "list" = none
  z_sum : mg "sum" = none
  z_enumerate : mg "enumerate" = none
  z_min : mg "min" = none
  z_max : mg "max" = none
  y_FarError_sb : PySem.W.subIn K (.ref c_FarError) (.type "BaseException") = some true
  y_FarError_ty : PySem.W.typeIn K (.ref c_FarError) = some (.type "type")
  y_FarError_hd : PySem.W.hasDictIn K c_FarError = true
  i_NoText_xi : PySem.W.excInitIn K c_NoText PySem.HandSPX.veTail "ValueError.__new__" = true
  i_NoText_hd : PySem.W.hasDictIn K c_NoText = true
  i_NoText_sa : PySem.W.findIn K (.ref c_NoText) "__setattr__" = some (some (.builtin "object.__setattr__"))
  i_NoText_sb : PySem.W.subIn K (.ref c_NoText) (.type "BaseException") = some true
  i_NoText_ty : PySem.W.typeIn K (.ref c_NoText) = some (.type "type")
  i_NoText_kp : PySem.W.keepIn K (.ref c_NoText) = true
  i_NoText_hg : PySem.W.findIn K (.ref c_NoText) "__getattribute__" = some (some (.builtin "BaseException.__getattribute__"))
  i_NoText_hk : PySem.W.findIn K (.ref c_NoText) "__getattr__" = some none
  i_NoText_no : PySem.W.findIn K (.ref c_NoText) "at" = some none
  i_NoText_in : PySem.W.findIn K (.ref c_NoText) "__init__" = some (some (.ref f_m_NoText_init))
  i_NoText_tf : PySem.W.typeIn K (.ref f_m_NoText_init) = some (.type "function")
  i_NoText_ha : PySem.W.findIn K (.ref c_NoText) "__class__" = some (some (.builtin "object.__class__"))
  i_NoText_hn : PySem.W.specialIn K (.builtin "object.__class__") "__get__" = some (some (.builtin "getset_descriptor.__get__"))
  i_NoText_ht : PySem.W.takesIn K (.builtin "object.__class__") = some true
  i_NoText_hm : PySem.W.mroIn K c_NoText (.type "object") = some true
  sub_NoText_NoText : PySem.W.subIn K (.ref c_NoText) (.ref c_NoText) = some true
  kit_Machine_Machine : PySem.W.kitOne K (.ref c_Machine) (.ref c_Machine) = some true
end Fb

namespace Fb
open PySem PySem.Spec PyProof.Rows L2
section
variable {P : Program} {w : World} {K : PySem.W.Frag} {mg : Str → Option Value} {base : Heap}
/-! ### is_whole, of whole numbers -/
def spWhole : Sp := fun vs H Q _ => ∃ i : Int, vs = [.int i] ∧ Q (.bl true) H
theorem ok_p_is_whole (T : Txt K mg) : FnOk P w K mg base CX0 1 T.f_p_is_whole T.d_p_is_whole ["thing"] spWhole := by
  refine T.F_p_is_whole.ok sc_p_is_whole (fun vs H Q E h => ?_) (fun cdv A outer s H vs Q E hr h => ?_)
  · obtain ⟨i, rfl, _⟩ := h
    rfl
  · obtain ⟨i, rfl, q⟩ := h
    refine ⟨_, (pss_one (ps_ret (pe_and (pe_callB call_isi (by rfl) T.z_isinstance (by decide +kernel) (pa_cons (pv 0) (pa_cons (pe_bltn (v := .ty "int") (by rfl) T.z_int (by decide +kernel) rfl) pa_nil))) (pe_one (pe_not (pe_callB call_isi (by rfl) T.z_isinstance (by decide +kernel) (pa_cons (pv 0) (pa_cons (pe_bltn (v := .ty "bool") (by rfl) T.z_bool (by decide +kernel) rfl) pa_nil)))))))), ?_⟩
    refine ⟨_, rfl, _, _, _, _, true, rfl, .ty _, .base (.int i), kit_ty (by decide +kernel), true, rfl, ?_⟩
    refine iteT ?_
    exact ⟨_, rfl, _, _, _, _, false, rfl, .ty _, .base (.int i), kit_ty (by decide +kernel), false, rfl, q⟩
/-! ### common_part -/
def spGcd : Sp := fun vs H Q _ => ∃ a b : Int, vs = [.int a, .int b] ∧ Q (.int (Int.gcd a b : Int)) H
theorem ok_p_common_part (T : Txt K mg) : FnOk P w K mg base CX0 1 T.f_p_common_part T.d_p_common_part ["one", "other"] spGcd := by
  refine T.F_p_common_part.ok sc_p_common_part (fun vs H Q E h => ?_) (fun cdv A outer s H vs Q E hr h => ?_)
  · obtain ⟨a, b, rfl, _⟩ := h
    rfl
  · obtain ⟨a, b, rfl, q⟩ := h
    refine ⟨_, (pss_cons (ps_while PassesOwn.never (pt_cmpR op_ne (pv 1) pe_int (nomark _))
  (pss_one (ps_par (i := 0) (j := 1) (by rfl) sc_p_common_part.nd rfl rfl (by decide) rfl rfl (pa_cons (pv 1) (pa_cons (pe_op op_modN (pv 0) (pv 1)) pa_nil)) (by rfl))))
 (pss_one (ps_ret (pe_callB call_abs (by rfl) T.z_abs (by decide +kernel) (pa_cons (pv 0) pa_nil))))), ?_⟩
    refine ⟨fun m σ H' => ∃ x y : Int, σ = [some (.int x), some (.int y)] ∧ m = y.natAbs ∧ Int.gcd x y = Int.gcd a b ∧ H' = H, ⟨_, a, b, rfl, rfl, rfl, rfl⟩, fun m σ H' hW => ?_⟩
    obtain ⟨x, y, rfl, rfl, hg, rfl⟩ := hW
    refine ⟨_, rfl, rfl, _, rfl, ?_⟩
    by_cases hy : y = 0
    · subst hy
      refine iteF ?_
      refine ⟨_, rfl, x, rfl, ?_⟩
      have e : (if x < 0 then -x else x) = (Int.gcd a b : Int) := by
        rw [← hg, Int.gcd_zero_right]
        split <;> omega
      rw [e]
      exact q
    · have ne : (!decide (V.int y = V.int 0)) = true := by
        rw [decide_eq_false (fun z => hy (V.int.inj z))]
        rfl
      rw [ne]
      refine iteT ?_
      refine ⟨fun σ' H'' => σ' = [some (.int y), some (.int (x.fmod y))] ∧ H'' = H', fun σ' H'' h => ?_, ?_⟩
      · obtain ⟨rfl, rfl⟩ := h
        exact ⟨_, fmod_lt x y hy, y, _, rfl, rfl, by rw [gcd_step, hg], rfl⟩
      · exact ⟨_, rfl, _, rfl, _, rfl, _, _, rfl, rfl, hy, _, _, rfl, rfl, rfl⟩
theorem log2_mono {a b : Nat} (h : a ≤ b) : a.log2 ≤ b.log2 := by
  by_cases ha : a = 0
  · subst ha
    simp
  · have hb : b ≠ 0 := by omega
    rw [Nat.le_log2 hb]
    exact Nat.le_trans (Nat.log2_self_le ha) h
theorem nat_abs {n m : Nat} (h : n < m) : (n : Int).natAbs < m := h
end

end Fb

namespace Fb
open PySem PySem.Spec PyProof.Rows L2
section
variable {P : Program} {w : World} {K : PySem.W.Frag} {mg : Str → Option Value} {base : Heap}
/-! ### the law's well -/
def spWell : Sp := fun vs H Q _ => ∃ c : Int, vs = [.int c] ∧ ∀ a H', H a = none → Same H (hid a H') → WellAt H' a 1099511627776 → Q (.ref a) H'
theorem ok_l_well (T : Txt K mg) : FnOk P w K mg base CX0 1 T.f_l_well T.d_l_well ["_law_cell"] spWell := by
  refine T.F_l_well.ok sc_l_well (fun vs H Q E h => ?_) (fun cdv A outer s H vs Q E hr h => ?_)
  · obtain ⟨c, rfl, _⟩ := h
    rfl
  · obtain ⟨c, rfl, q⟩ := h
    refine ⟨_, (pss_one (ps_ret (pe_lst (pa_cons (pe_op op_mul (pv 0) (pe_callTy call_int1 (by rfl) T.z_int (by decide +kernel) (pa_cons (pe_cmpR op_ge (pv 0) (pe_op op_pow pe_int pe_int) (nomark _)) pa_nil))) (pa_cons (pe_op op_mod (pv 0) pe_int) (pa_cons pe_int pa_nil)))))), ?_⟩
    refine ⟨_, rfl, _, rfl, _, _, rfl, rfl, ⟨by decide, by decide, by decide⟩, _, _, rfl, rfl, .inr ⟨_, rfl, _, _, rfl, rfl, ?_, _, rfl, _, _, rfl, rfl, (by show (0 : Int) < 2147483647; decide), ?_⟩⟩
    · right
      split <;> decide
    · refine ⟨by show 3 ≤ sizeLine; decide, fun p np => ?_⟩
      refine q p _ np (fun b o e => ?_) ⟨_, _, _, upd_same, Int.emod_nonneg _ (by decide), Int.emod_lt_of_pos _ (by decide), by decide, by decide⟩
      rw [hid_upd, hid_ne (ne_of_none e np)]
      exact e
def spDraw : Sp := fun vs H Q _ => ∃ (a : Addr) (m : Int) (n : Nat), vs = [.ref a, .int m] ∧ WellAt H a (n + 1) ∧ 0 < m ∧ m.natAbs.log2 < 9000 ∧
  ∀ d H', 0 ≤ d → d < m → Same (hid a H) (hid a H') → WellAt H' a n → Q (.int d) H'
theorem ok_l_draw (T : Txt K mg) : FnOk P w K mg base CX0 1 T.f_l_draw T.d_l_draw ["_law_well_here", "_law_many"] spDraw := by
  refine T.F_l_draw.ok sc_l_draw (fun vs H Q E h => ?_) (fun cdv A outer s H vs Q E hr h => ?_)
  · obtain ⟨a, m, n, rfl, _⟩ := h
    rfl
  · obtain ⟨a, m, n, rfl, ⟨w0, w1, w2, hw, b1, b2, b3, b4⟩, m0, ml, q⟩ := h
    refine ⟨_, (pss_cons (ps_if (pt_cmpR op_gt (pe_ix ix_list (pv 0) pe_int (fun _ _ => rfl)) pe_int (nomark _))
  (pss_cons (ps_set (i := 2) sc_l_draw.nd rfl (.inl rfl) (pe_op op_mod (pe_ix ix_list (pv 0) pe_int (fun _ _ => rfl)) (pv 1)))
 (pss_cons (ps_asg (pe_op op_fdivW (pe_ix ix_list (pv 0) pe_int (fun _ _ => rfl)) (pv 1)) (pg_sub (pv 0) pe_int set_list))
 (pss_one (ps_ret (pv 2)))))
  pss_nil)
 (pss_cons (ps_asg (pe_op op_add (pe_ix ix_list (pv 0) pe_int (fun _ _ => rfl)) pe_int) (pg_sub (pv 0) pe_int set_list))
 (pss_cons (ps_set (i := 3) sc_l_draw.nd rfl (.inl rfl) (pe_ix ix_list (pe_lst (pa_cons pe_int (pa_cons pe_int (pa_cons pe_int (pa_cons pe_int (pa_cons pe_int (pa_cons pe_int (pa_cons pe_int pa_nil)))))))) (pe_op op_mod (pe_ix ix_list (pv 0) pe_int (fun _ _ => rfl)) pe_int) (fun _ _ => rfl)))
 (pss_cons (ps_set (i := 4) sc_l_draw.nd rfl (.inl rfl) (pe_op op_mod (pe_op op_pow (pe_op op_add (pe_op op_add (pe_ix ix_list (pv 0) pe_int (fun _ _ => rfl)) (pe_op op_mul pe_int (pe_ix ix_list (pv 0) pe_int (fun _ _ => rfl)))) pe_int) pe_int) (pv 3)))
 (pss_cons (ps_set (i := 4) sc_l_draw.nd rfl (.inl rfl) (pe_op op_mod (pe_op op_mul (pe_op op_add (pv 4) (pe_ix ix_list (pv 0) pe_int (fun _ _ => rfl))) (pe_op op_add (pe_op op_fdiv (pv 4) pe_int) pe_int)) (pv 3)))
 (pss_one (ps_ret (pe_op op_mod (pe_op op_fdiv (pv 4) pe_int) (pv 1))))))))), ?_⟩
    refine ⟨_, rfl, a, _, _, _, rfl, rfl, SqL.of hw, atI_nat (j := 0) rfl, _, _, rfl, rfl, _, rfl, ite2 (fun h => ?_) (fun h => ?_)⟩
    · refine ⟨_, rfl, a, _, _, _, rfl, rfl, SqL.of hw, atI_nat (j := 0) rfl, _, rfl, _, _, rfl, rfl, m0, ?_⟩
      refine ⟨_, rfl, a, _, _, _, rfl, rfl, SqL.of hw, atI_nat (j := 0) rfl, _, rfl, _, _, rfl, rfl, ⟨m0, ml⟩, _, rfl, a, _, _, 0, rfl, rfl, hw, rfl, ?_⟩
      refine ⟨_, rfl, ?_⟩
      refine q _ _ (Int.emod_nonneg _ (by omega)) (Int.emod_lt_of_pos _ m0) ?_ ⟨_, _, _, upd_same, b1, b2, b3, by omega⟩
      rw [hid_upd]
      exact Same.refl _
    · refine ⟨_, rfl, a, _, _, _, rfl, rfl, SqL.of hw, atI_nat (j := 2) rfl, _, _, rfl, rfl, _, rfl, a, _, _, 2, rfl, rfl, hw, rfl, ?_⟩
      have hw2 : (upd H a (.lst [.int w0, .int w1, .int (w2 + 1)])) a = some (.lst [.int w0, .int w1, .int (w2 + 1)]) := upd_same
      refine ⟨by show 7 ≤ sizeLine; decide, fun p np => ?_⟩
      have npa : p ≠ a := fun z => by
        rw [z, upd_same] at np
        cases np
      have hw3 : (upd (upd H a (.lst [.int w0, .int w1, .int (w2 + 1)])) p (.lst [V.int 2147483647, V.int 2147483629, V.int 2147483587, V.int 2147483579, V.int 2147483563, V.int 2147483549, V.int 2147483543])) a = some (.lst [.int w0, .int w1, .int (w2 + 1)]) := by
        rw [upd_ne npa.symm]
        exact upd_same
      obtain ⟨pr, hpr, p0, p1⟩ := primes7 (k := (w2 + 1) % 7) (Int.emod_nonneg _ (by decide)) (Int.emod_lt_of_pos _ (by decide))
      refine ⟨_, rfl, a, _, _, _, rfl, rfl, SqL.of hw3, atI_nat (j := 2) rfl, _, _, rfl, rfl, (by show (0 : Int) < 7; decide), p, _, _, _, rfl, rfl, sqL_new, hpr, ?_⟩
      refine ⟨_, rfl, a, _, _, _, rfl, rfl, SqL.of hw3, atI_nat (j := 1) rfl, _, rfl, a, _, _, _, rfl, rfl, SqL.of hw3, atI_nat (j := 2) rfl, _, _, rfl, rfl, .inl ⟨by decide, by decide⟩, _, _, rfl, rfl, _, _, rfl, rfl, _, _, rfl, rfl, ?_, _, rfl, _, _, rfl, rfl, p0, ?_⟩
      · exact pow_small (by omega) (by omega)
      · generalize hx : (w1 + 7919 * (w2 + 1) + 1) ^ (5 : Int).toNat % pr = x
        have x0 : 0 ≤ x := by
          rw [← hx]
          exact Int.emod_nonneg _ (by omega)
        have x1 : x < pr := by
          rw [← hx]
          exact Int.emod_lt_of_pos _ p0
        refine ⟨_, rfl, _, rfl, a, _, _, _, rfl, rfl, SqL.of hw3, atI_nat (j := 2) rfl, _, _, rfl, rfl, _, rfl, _, _, rfl, rfl, ⟨by decide, by decide⟩, _, _, rfl, rfl, _, _, rfl, rfl, .inl ⟨by omega, by omega⟩, _, rfl, _, _, rfl, rfl, p0, ?_⟩
        refine ⟨_, rfl, _, _, rfl, rfl, ⟨by decide, by decide⟩, _, rfl, _, _, rfl, rfl, m0, ?_⟩
        refine q _ _ (Int.emod_nonneg _ (by omega)) (Int.emod_lt_of_pos _ m0) ?_ ⟨_, _, _, hw3, b1, b2, by omega, by omega⟩
        rw [hid_updN npa, hid_upd]
        refine same_upd ?_
        rw [hid_ne npa]
        rw [upd_ne npa] at np
        exact np
def spOne (K : PySem.W.Frag) : Sp := fun vs H Q _ => ∃ (a p : Addr) (xs : List V) (n : Nat), vs = [.ref a, .ref p] ∧ WellAt H a (n + 1) ∧ SqL K (hid a H) p xs ∧ 0 < xs.length ∧ xs.length ≤ 1000 ∧
  ∀ (i : Nat) x H', xs[i]? = some x → Same (hid a H) (hid a H') → WellAt H' a n → Q x H'
theorem log_small {m : Nat} (h : m ≤ 1000) : ((m : Int)).natAbs.log2 < 9000 := by
  have h1 : ((m : Int)).natAbs.log2 ≤ (1000 : Nat).log2 := log2_mono (by omega)
  have h2 : (1000 : Nat).log2 < 9000 := by decide
  omega
theorem ok_l_one (T : Txt K mg) : FnOk P w K mg base CX0 2 T.f_l_one T.d_l_one ["_law_well_here", "_law_some"] (spOne K) := by
  refine T.F_l_one.ok sc_l_one (fun vs H Q E h => ?_) (fun cdv A outer s H vs Q E hr h => ?_)
  · obtain ⟨a, p, xs, n, rfl, _⟩ := h
    rfl
  · obtain ⟨a, p, xs, n, rfl, hw, hS, l0, l1, q⟩ := h
    refine ⟨_, (pss_one (ps_ret (pe_ix ix_list (pv 1) (pe_call (ok_l_draw T) (hr.mono (by decide)) (by rfl) T.g_l_draw T.F_l_draw.kp T.b_l_draw .nil pass0 (pa_cons (pv 0) (pa_cons (pe_callB call_len_seq (by rfl) T.z_len (by decide +kernel) (pa_cons (pv 1) pa_nil)) pa_nil))) (fun _ _ => rfl)))), ?_⟩
    refine ⟨_, rfl, _, rfl, _, rfl, p, xs, rfl, .inl (hid_same.seq hS), a, _, n, rfl, hw, by omega, log_small l1, fun d H' d0 d1 s1 w1 => ?_⟩
    obtain ⟨x, e1, e2⟩ := atI_get d0 d1
    exact ⟨p, xs, d, x, rfl, rfl, (s1.trans hid_same).seq hS, e1, q _ x H' e2 s1 w1⟩
end

end Fb

namespace Fb
open PySem PySem.Spec PyProof.Rows L2
section
variable {P : Program} {w : World} {K : PySem.W.Frag} {mg : Str → Option Value} {base : Heap}
/-! ### names -/
def letters : List Nat := ("abcdefghijklmnopqrstuvwxyz" : Str).cps.toList
structure NmOk (x : Str) : Prop where
  l1 : 1 ≤ x.length
  l8 : x.length ≤ 8
  all : ∀ c ∈ x.cps.toList, c ∈ letters
def spName : Sp := fun vs H Q _ => ∃ x : Str, vs = [.str x] ∧ NmOk x ∧ ∀ H', Same H H' → Q (.bl true) H'
theorem ok_p_is_name (T : Txt K mg) : FnOk P w K mg base CX0 1 T.f_p_is_name T.d_p_is_name ["thing"] spName := by
  refine T.F_p_is_name.ok sc_p_is_name (fun vs H Q E h => ?_) (fun cdv A outer s H vs Q E hr h => ?_)
  · obtain ⟨x, rfl, _⟩ := h
    rfl
  · obtain ⟨x, rfl, ok, q⟩ := h
    refine ⟨_, (pss_cons (ps_if (PW.pt (pw_or (pt_not (pt_val (pe_callB call_isi (by rfl) T.z_isinstance (by decide +kernel) (pa_cons (pv 0) (pa_cons (pe_bltn (v := .ty "str") (by rfl) T.z_str (by decide +kernel) rfl) pa_nil))))) (pw_or1 (pt_not (pt_chain op_le op_le pe_int (pe_callB call_len_str (by rfl) T.z_len (by decide +kernel) (pa_cons (pv 0) pa_nil)) (pe_glob (by rfl) T.g_LONGEST_NAME T.r_LONGEST_NAME))))))
  (pss_one (ps_ret pe_bl))
  pss_nil)
 (pss_one (ps_ret (pe_callB (cr_all rfl) (by rfl) T.z_all (by decide +kernel) (pa_cons (pe_lc (own := [("letter", 1)]) (g := (gName 1)) (tt := tYes) (by rfl) sc_p_is_name.nd (pi_str (pv 0)) (blkOk_by (own := [("letter", 1)]) (N := ["thing", "letter"]) (sc := defScope s_p_is_name) (by decide +kernel)) (fun _ _ _ _ _ => by exact (pg_name (i := 1) sc_p_is_name.nd rfl (.inl rfl))) (fun _ _ _ _ _ => by exact pts_nil) (fun _ _ _ _ _ => by exact (pe_cmpR op_in_sign (pv 1) (pe_glob (by rfl) T.g_LETTERS T.r_LETTERS) (by with_unfolding_all rfl)))) pa_nil))))), ?_⟩
    have l8 := ok.l8
    have l1 := ok.l1
    refine ⟨_, rfl, _, _, _, _, true, rfl, .ty _, .base (.str x), kit_ty (by decide +kernel), true, rfl, iteF ?_⟩
    refine ⟨_, rfl, x, rfl, Nat.le_of_lt (small1000 (by omega)), _, _, rfl, rfl, true, ?_, iteT ?_⟩
    · exact congrArg V.bl (decide_eq_true (by omega))
    refine ⟨_, _, rfl, rfl, true, ?_, iteF ?_⟩
    · exact congrArg V.bl (decide_eq_true (by omega))
    have hz : x.cps.size ≤ 8 := l8
    refine ⟨_, rfl, x, rfl, fun D nD => lc_allW (walk_str (z := x)) (fun _ y _ => y = .bl true) (fun _ _ _ _ _ h => h) nD (fun _ _ => trivial) (by omega) (fun i v H2 H3 k hi s2 eD y hk => ?_) (fun H2 ys s2 e l r => ?_)⟩
    · obtain ⟨rfl, c, hc, rfl⟩ := y
      refine ⟨rfl, _, rfl, c, _, rfl, rfl, hk _ _ (Same.refl _) (congrArg V.bl (decide_eq_true ?_))⟩
      exact ok.all c (by rw [← Array.getElem?_toList] at hc; exact List.mem_of_getElem? hc)
    · have ey : ys = (List.replicate ys.length true).map V.bl := by
        refine List.ext_getElem? fun i => ?_
        by_cases hi : i < ys.length
        · rw [List.getElem?_eq_getElem hi, r i _ (List.getElem?_eq_getElem hi), List.getElem?_map, List.getElem?_replicate, if_pos hi]
          rfl
        · rw [List.getElem?_eq_none (by omega), List.getElem?_eq_none (by simp; omega)]
      rw [ey] at e
      refine ⟨D, _, rfl, SqL.of e, ?_⟩
      rw [show (List.replicate ys.length true).all id = true by simp]
      exact q H2 (s2.trans hid_same)
/-! ### steps -/
structure Stp where
  room : Nat
  sign : Str
  ws : List Nat
abbrev nts (ns : List Nat) : List V := ns.map fun (n : Nat) => V.int (n : Int)
def IsStp (H : Hp) (v : V) (s : Stp) : Prop := ∃ t wa, v = .ref t ∧ H t = some (.tup [.int s.room, .str s.sign, .ref wa]) ∧ H wa = some (.tup (nts s.ws))
theorem IsStp.mono {H H' : Hp} {v : V} {s : Stp} (h : IsStp H v s) (m : Same H H') : IsStp H' v s := by
  obtain ⟨t, wa, e, h1, h2⟩ := h
  exact ⟨t, wa, e, m _ _ h1, m _ _ h2⟩
structure WtsOk (m : Nat) (ws : List Nat) : Prop where
  len : ws.length = m
  pos : ∃ n ∈ ws, 0 < n
  bd : ∀ n ∈ ws, n < 2 ^ 4000
structure StpOk (m : Nat) (s : Stp) : Prop where
  room : s.room < m
  sign : NmOk s.sign
  wts : WtsOk m s.ws
def spRoom : Sp := fun vs H Q _ => ∃ r m : Nat, vs = [.int r, .int m] ∧ r < m ∧ Q (.bl true) H
theorem ok_p_is_room (T : Txt K mg) : FnOk P w K mg base CX0 2 T.f_p_is_room T.d_p_is_room ["thing", "many"] spRoom := by
  refine T.F_p_is_room.ok sc_p_is_room (fun vs H Q E h => ?_) (fun cdv A outer s H vs Q E hr h => ?_)
  · obtain ⟨r, m, rfl, _⟩ := h
    rfl
  · obtain ⟨r, m, rfl, l, q⟩ := h
    refine ⟨_, (pss_one (ps_ret (pe_and (pe_call (ok_p_is_whole T) (hr.mono (by decide)) (by rfl) T.g_p_is_whole T.F_p_is_whole.kp T.b_p_is_whole .nil pass0 (pa_cons (pv 0) pa_nil)) (pe_one (pe_chain op_le op_lt pe_int (pv 0) (pv 1)))))), ?_⟩
    refine ⟨_, rfl, r, rfl, true, rfl, iteT ?_⟩
    refine ⟨_, rfl, _, _, rfl, rfl, true, congrArg V.bl (decide_eq_true (by omega)), iteT ⟨_, rfl, _, _, rfl, rfl, ?_⟩⟩
    dsimp only
    rw [decide_eq_true (show (r : Int) < (m : Int) by omega)]
    exact q
theorem trues {n : Nat} {ys : List V} (l : ys.length = n) (h : ∀ (i : Nat) y, ys[i]? = some y → y = .bl true) : ys = (List.replicate n true).map V.bl := by
  refine List.ext_getElem? fun i => ?_
  by_cases hi : i < ys.length
  · rw [List.getElem?_eq_getElem hi, h i _ (List.getElem?_eq_getElem hi), List.getElem?_map, List.getElem?_replicate, if_pos (by omega)]
    rfl
  · rw [List.getElem?_eq_none (by omega), List.getElem?_eq_none (by simp; omega)]
theorem all_trues (n : Nat) : (List.replicate n true).all id = true := by simp
def spWts : Sp := fun vs H Q _ => ∃ (wa : Addr) (m : Nat) (ws : List Nat), vs = [.ref wa, .int m] ∧ H wa = some (.tup (nts ws)) ∧ WtsOk m ws ∧ m ≤ 12 ∧ ∀ H', Same H H' → Q (.bl true) H'
theorem ok_p_are_weights (T : Txt K mg) : FnOk P w K mg base CX0 2 T.f_p_are_weights T.d_p_are_weights ["thing", "many"] spWts := by
  refine T.F_p_are_weights.ok sc_p_are_weights (fun vs H Q E h => ?_) (fun cdv A outer s H vs Q E hr h => ?_)
  · obtain ⟨wa, m, ws, rfl, _⟩ := h
    rfl
  · obtain ⟨wa, m, ws, rfl, hw, ok, m12, q⟩ := h
    refine ⟨_, (pss_cons (ps_if (PW.pt (pw_or (pt_not (pt_val (pe_callB call_isi (by rfl) T.z_isinstance (by decide +kernel) (pa_cons (pv 0) (pa_cons (pe_bltn (v := .ty "tuple") (by rfl) T.z_tuple (by decide +kernel) rfl) pa_nil))))) (pw_or1 (pt_cmpR op_ne (pe_callB call_len_seq (by rfl) T.z_len (by decide +kernel) (pa_cons (pv 0) pa_nil)) (pv 1) (nomark _)))))
  (pss_one (ps_ret pe_bl))
  pss_nil)
 (pss_one (ps_ret (pe_and (pe_callB (cr_all rfl) (by rfl) T.z_all (by decide +kernel) (pa_cons (pe_lc (own := [("weight", 2)]) (g := (gName 2)) (tt := tYes) (by rfl) sc_p_are_weights.nd (pi_tup (pv 0)) (blkOk_by (own := [("weight", 2)]) (N := ["thing", "many", "weight"]) (sc := defScope s_p_are_weights) (by decide +kernel)) (fun _ _ _ _ _ => by exact (pg_name (i := 2) sc_p_are_weights.nd rfl (.inl rfl))) (fun _ _ _ _ _ => by exact pts_nil) (fun _ _ _ _ _ => by exact (pe_and (pe_call (ok_p_is_whole T) (hr.mono (by decide)) (by rfl) T.g_p_is_whole T.F_p_is_whole.kp T.b_p_is_whole .nil pass0 (pa_cons (pv 2) pa_nil)) (pe_one (pe_cmpR op_ge (pv 2) pe_int (nomark _)))))) pa_nil)) (pe_one (pe_callB (cr_any rfl) (by rfl) T.z_any (by decide +kernel) (pa_cons (pe_lc (own := [("weight", 2)]) (g := (gName 2)) (tt := tYes) (by rfl) sc_p_are_weights.nd (pi_tup (pv 0)) (blkOk_by (own := [("weight", 2)]) (N := ["thing", "many", "weight"]) (sc := defScope s_p_are_weights) (by decide +kernel)) (fun _ _ _ _ _ => by exact (pg_name (i := 2) sc_p_are_weights.nd rfl (.inl rfl))) (fun _ _ _ _ _ => by exact pts_nil) (fun _ _ _ _ _ => by exact (pe_cmpR op_gt (pv 2) pe_int (nomark _)))) pa_nil))))))), ?_⟩
    have lw : (nts ws).length = m := by rw [List.length_map]; exact ok.len
    refine ⟨_, rfl, _, _, _, _, true, rfl, .ty _, .base (.tup hw), kit_ty (by decide +kernel), true, rfl, iteF ?_⟩
    refine ⟨_, rfl, wa, _, rfl, .inr (.inl (.inl hw)), _, rfl, rfl, _, rfl, ?_⟩
    rw [lw, decide_eq_true rfl]
    refine iteF ?_
    refine ⟨_, rfl, wa, rfl, ⟨_, .inl (.inl hw)⟩, fun D nD => lc_allW (walk_tup (K := K) (a := wa) (xs := nts ws)) (fun _ y _ => y = .bl true) (fun _ _ _ _ _ h => h) nD (fun H' s => .inl (.inl (s _ _ hw))) (by omega) (fun i v H2 H3 k hi s2 eD y hk => ?_) (fun H2 ys s2 e l r => ?_)⟩
    · obtain ⟨rfl, hv⟩ := y
      rw [List.getElem?_map] at hv
      obtain ⟨n, hn, rfl⟩ := Option.map_eq_some_iff.mp hv
      exact ⟨rfl, _, rfl, (n : Int), rfl, true, rfl, iteT ⟨_, rfl, _, _, rfl, rfl, hk _ _ (Same.refl _) (congrArg V.bl (decide_eq_true (by omega)))⟩⟩
    · rw [trues l r] at e
      refine ⟨D, _, rfl, SqL.of e, true, by rw [all_trues], iteT ?_⟩
      have s12 : Same H H2 := s2.trans hid_same
      have hw2 := s12 _ _ hw
      refine ⟨_, rfl, wa, rfl, ⟨_, .inl (.inl hw2)⟩, fun D2 nD2 => lc_allW (walk_tup (K := K) (a := wa) (xs := nts ws)) (fun i y _ => ∃ n, ws[i]? = some n ∧ y = .bl (decide (0 < n))) (fun _ _ _ _ _ h => h) nD2 (fun H' s => .inl (.inl (s _ _ hw2))) (by omega) (fun i v H3 H4 k hi s3 eD y hk => ?_) (fun H3 ys3 s3 e3 l3 r3 => ?_)⟩
      · obtain ⟨rfl, hv⟩ := y
        rw [List.getElem?_map] at hv
        obtain ⟨n, hn, rfl⟩ := Option.map_eq_some_iff.mp hv
        refine ⟨rfl, _, rfl, _, _, rfl, rfl, hk _ _ (Same.refl _) ⟨n, hn, congrArg V.bl (decide_eq_decide.mpr ?_)⟩⟩
        show (n : Int) > 0 ↔ 0 < n
        omega
      · have ey : ys3 = (ws.map fun n => decide (0 < n)).map V.bl := by
          refine List.ext_getElem? fun i => ?_
          by_cases hi : i < ys3.length
          · obtain ⟨n, hn, hy⟩ := r3 i _ (List.getElem?_eq_getElem hi)
            rw [List.getElem?_eq_getElem hi, hy, List.map_map, List.getElem?_map, hn]
            rfl
          · rw [List.getElem?_eq_none (by omega), List.getElem?_eq_none (by rw [List.length_map] at l3; simp; omega)]
        rw [ey] at e3
        refine ⟨D2, _, rfl, SqL.of e3, ?_⟩
        have : (ws.map fun n => decide (0 < n)).any id = true := by
          obtain ⟨n, hn, h0⟩ := ok.pos
          rw [List.any_eq_true]
          exact ⟨true, List.mem_map.mpr ⟨n, hn, decide_eq_true h0⟩, rfl⟩
        rw [this]
        exact q H3 (s12.trans (s3.trans hid_same))
def spStep : Sp := fun vs H Q _ => ∃ (v : V) (m : Nat) (s : Stp), vs = [v, .int m] ∧ IsStp H v s ∧ StpOk m s ∧ m ≤ 12 ∧ ∀ H', Same H H' → Q (.bl true) H'
theorem ok_p_is_step (T : Txt K mg) : FnOk P w K mg base CX0 3 T.f_p_is_step T.d_p_is_step ["thing", "many"] spStep := by
  refine T.F_p_is_step.ok sc_p_is_step (fun vs H Q E h => ?_) (fun cdv A outer s H vs Q E hr h => ?_)
  · obtain ⟨v, m, st, rfl, _⟩ := h
    rfl
  · obtain ⟨v, m, st, rfl, ⟨t, wa, rfl, ht, hw⟩, ok, m12, q⟩ := h
    refine ⟨_, (pss_cons (ps_if (PW.pt (pw_or (pt_not (pt_val (pe_callB call_isi (by rfl) T.z_isinstance (by decide +kernel) (pa_cons (pv 0) (pa_cons (pe_bltn (v := .ty "tuple") (by rfl) T.z_tuple (by decide +kernel) rfl) pa_nil))))) (pw_or1 (pt_cmpR op_ne (pe_callB call_len_seq (by rfl) T.z_len (by decide +kernel) (pa_cons (pv 0) pa_nil)) pe_int (nomark _)))))
  (pss_one (ps_ret pe_bl))
  pss_nil)
 (pss_cons (ps_asg (pv 0) (pg_tup (by rfl) (pgs_cons (pg_name (i := 2) sc_p_is_step.nd rfl (.inl rfl)) (pgs_cons (pg_name (i := 3) sc_p_is_step.nd rfl (.inl rfl)) (pgs_cons (pg_name (i := 4) sc_p_is_step.nd rfl (.inl rfl)) pgs_nil)))))
 (pss_one (ps_ret (pe_and (pe_call (ok_p_is_room T) (hr.mono (by decide)) (by rfl) T.g_p_is_room T.F_p_is_room.kp T.b_p_is_room .nil pass0 (pa_cons (pv 2) (pa_cons (pv 1) pa_nil))) (pe_and (pe_call (ok_p_is_name T) (hr.mono (by decide)) (by rfl) T.g_p_is_name T.F_p_is_name.kp T.b_p_is_name .nil pass0 (pa_cons (pv 3) pa_nil)) (pe_one (pe_call (ok_p_are_weights T) (hr.mono (by decide)) (by rfl) T.g_p_are_weights T.F_p_are_weights.kp T.b_p_are_weights .nil pass0 (pa_cons (pv 4) (pa_cons (pv 1) pa_nil)))))))))), ?_⟩
    refine ⟨_, rfl, _, _, _, _, true, rfl, .ty _, .base (.tup ht), kit_ty (by decide +kernel), true, rfl, iteF ?_⟩
    refine ⟨_, rfl, t, _, rfl, .inr (.inl (.inl ht)), rfl, _, rfl, iteF ?_⟩
    refine ⟨_, rfl, t, _, rfl, .inl (.inl ht), rfl, _, _, rfl, _, _, rfl, _, _, rfl, rfl, ?_⟩
    refine ⟨_, rfl, _, rfl, st.room, m, rfl, ok.room, true, rfl, iteT ?_⟩
    refine ⟨_, rfl, st.sign, rfl, ok.sign, fun H1 s1 => ⟨true, rfl, iteT ?_⟩⟩
    exact ⟨_, rfl, _, rfl, wa, m, st.ws, rfl, s1 _ _ hw, ok.wts, m12, fun H2 s2 => q H2 (s1.trans s2)⟩
end

end Fb

namespace Fb
open PySem PySem.Spec PyProof.Rows L2
section
variable {P : Program} {w : World} {K : PySem.W.Frag} {mg : Str → Option Value} {base : Heap}
/-! ### are_steps, of good ones -/
abbrev Stp.key (s : Stp) : RS := ((s.room : Int), s.sign)
structure StpsOk (m : Nat) (ss : List Stp) : Prop where
  m1 : 1 ≤ m
  m12 : m ≤ 12
  few : ss.length < 60
  all : ∀ s ∈ ss, StpOk m s
  once : (ss.map Stp.key).Nodup
def kKey (k : RS) : List Key := [.inl k.1, .inr k.2]
theorem kKey_inj {a b : RS} (h : kKey a = kKey b) : a = b := by
  unfold kKey at h
  simp only [List.cons.injEq, Sum.inl.injEq, Sum.inr.injEq, and_true] at h
  exact Prod.ext h.1 h.2
def IsStps (H : Hp) (v : V) (ss : List Stp) : Prop := ∃ p vs, v = .ref p ∧ H p = some (.lst vs) ∧ AllAre (IsStp H) vs ss
theorem IsStps.mono {H H' : Hp} {v : V} {ss : List Stp} (h : IsStps H v ss) (m : Same H H') : IsStps H' v ss := by
  obtain ⟨p, vs, e, h, a⟩ := h
  exact ⟨p, vs, e, m _ _ h, a.imp fun _ _ r => r.mono m⟩
def spSteps : Sp := fun vs H Q _ => ∃ (v : V) (m : Nat) (ss : List Stp), vs = [v, .int m] ∧ IsStps H v ss ∧ StpsOk m ss ∧ ∀ H', Same H H' → Q (.bl true) H'
theorem ok_p_are_steps (T : Txt K mg) : FnOk P w K mg base CX0 4 T.f_p_are_steps T.d_p_are_steps ["thing", "many"] spSteps := by
  refine T.F_p_are_steps.ok sc_p_are_steps (fun vs H Q E h => ?_) (fun cdv A outer s H vs Q E hr h => ?_)
  · obtain ⟨v, m, ss, rfl, _⟩ := h
    rfl
  · obtain ⟨v, m, ss, rfl, ⟨p, xs, rfl, hp, aa⟩, ok, q⟩ := h
    refine ⟨_, (pss_cons (ps_if (PW.pt (pw_or (pt_not (pt_val (pe_callB call_isi (by rfl) T.z_isinstance (by decide +kernel) (pa_cons (pv 0) (pa_cons (pe_bltn (v := .ty "list") (by rfl) T.z_list (by decide +kernel) rfl) pa_nil))))) (pw_or1 (pt_not (pt_val (pe_callB (cr_all rfl) (by rfl) T.z_all (by decide +kernel) (pa_cons (pe_lc (own := [("step", 2)]) (g := (gName 2)) (tt := tYes) (by rfl) sc_p_are_steps.nd (pi_list (pv 0)) (blkOk_by (own := [("step", 2)]) (N := ["thing", "many", "step", "room", "sign", "weights"]) (sc := defScope s_p_are_steps) (by decide +kernel)) (fun _ _ _ _ _ => by exact (pg_name (i := 2) sc_p_are_steps.nd rfl (.inl rfl))) (fun _ _ _ _ _ => by exact pts_nil) (fun _ _ _ _ _ => by exact (pe_call (ok_p_is_step T) (hr.mono (by decide)) (by rfl) T.g_p_is_step T.F_p_is_step.kp T.b_p_is_step .nil pass0 (pa_cons (pv 2) (pa_cons (pv 1) pa_nil))))) pa_nil)))))))
  (pss_one (ps_ret pe_bl))
  pss_nil)
 (pss_one (ps_ret (pe_cmpR op_eq (pe_callB call_lenM (by rfl) T.z_len (by decide +kernel) (pa_cons (pe_scM (units1 hr.units) (own := [("room", 3), ("sign", 4), ("weights", 5)]) (g := (gTup K 3 (gCons (gName 3) (gCons (gName 4) (gCons (gName 5) gNil))))) (tt := tYes) (by rfl) sc_p_are_steps.nd (pi_list (pv 0)) (blkOk_by (own := [("room", 3), ("sign", 4), ("weights", 5)]) (N := ["thing", "many", "step", "room", "sign", "weights"]) (sc := defScope s_p_are_steps) (by decide +kernel)) (fun _ _ _ _ _ => by exact (pg_tup (by rfl) (pgs_cons (pg_name (i := 3) sc_p_are_steps.nd rfl (.inl rfl)) (pgs_cons (pg_name (i := 4) sc_p_are_steps.nd rfl (.inl rfl)) (pgs_cons (pg_name (i := 5) sc_p_are_steps.nd rfl (.inl rfl)) pgs_nil))))) (fun _ _ _ _ _ => by exact pts_nil) (fun _ _ _ _ _ => by exact (pe_tup (pa_cons (pv 3) (pa_cons (pv 4) pa_nil))))) pa_nil)) (pe_callB call_len_seq (by rfl) T.z_len (by decide +kernel) (pa_cons (pv 0) pa_nil)) (nomark _))))), ?_⟩
    have few := ok.few
    refine ⟨_, rfl, _, _, _, _, true, rfl, .ty _, .base (.lst hp), kit_ty (by decide +kernel), true, rfl, iteF ?_⟩
    refine ⟨_, rfl, p, rfl, ⟨_, SqL.of hp⟩, fun D nD => lc_all (K := K) (a := p) (xs := xs) (fun _ y _ => y = .bl true) (fun _ _ _ _ _ h => h) nD (SqL.of hp) (by rw [aa.1]; omega) (fun i x H2 k hi s2 eD hk => ?_) (fun H2 ys s2 e l r => ?_)⟩
    · obtain ⟨st, hst, hx⟩ := aa.at hi
      exact ⟨rfl, _, rfl, _, rfl, x, m, st, rfl, hx.mono (s2.trans hid_same), ok.all st (List.mem_of_getElem? hst), ok.m12, fun H3 s3 => hk _ _ s3 rfl⟩
    · rw [trues l r] at e
      refine ⟨D, _, rfl, SqL.of e, true, by rw [all_trues], iteF ?_⟩
      have s12 : Same H H2 := s2.trans hid_same
      have hp2 := s12 _ _ hp
      have aa2 : AllAre (IsStp H2) xs ss := aa.imp fun _ _ h => h.mono s12
      refine ⟨_, rfl, p, rfl, ⟨_, SqL.of hp2⟩, fun D2 nD2 => ?_⟩
      -- the set of rooms and signs
      have nk : (ss.map fun s => kKey s.key).Nodup := by
        have e : (ss.map fun s => kKey s.key) = (ss.map Stp.key).map kKey := by rw [List.map_map]; rfl
        rw [e]
        exact List.pairwise_map.mpr (ok.once.imp fun h z => h (kKey_inj z))
      let Pv : Nat → Hp → Prop := fun i H' => ∃ L : Keyed, Same H2 (hid D2 H') ∧ H' D2 = some (MSetO P w D2 L) ∧ L.length = i ∧ (∀ q ∈ L, hid D2 H' q.1 = some (.tup (q.2.map kV))) ∧ ∀ q ∈ L, q.2 ∈ (ss.take i).map fun s => kKey s.key
      have start : Pv 0 (upd H2 D2 (MSetO P w D2 [])) := by
        refine ⟨[], fun b o eb => ?_, upd_same, rfl, (fun q h => by cases h), (fun q h => by cases h)⟩
        rw [hid_ne (ne_of_none eb nD2), upd_ne (ne_of_none eb nD2)]
        exact eb
      refine ⟨fun i mm H' => mm = xs.length - i ∧ i ≤ xs.length ∧ Pv i H', ⟨xs.length, by simp, Nat.zero_le _, start⟩, ?_⟩
      rintro i mm H' ⟨rfl, hi, pv⟩
      obtain ⟨L, sL, eL, lL, tL, kL⟩ := id pv
      have sH : Same H2 H' := sL.trans hid_same
      have sq : SqL K H' p xs := sH.seq (SqL.of hp2)
      by_cases hlt : i < xs.length
      · refine .inr ⟨⟨xs, xs[i], sq, List.getElem?_eq_getElem hlt⟩, Pv (i + 1), fun H'' p' => ⟨xs.length - (i + 1), by omega, rfl, hlt, p'⟩, fun x H'' y => ?_⟩
        obtain ⟨rfl, y⟩ := y
        have hx := y xs sq
        obtain ⟨st, hst, t, wa, rfl, ht, hw⟩ := aa2.at hx
        have ht' := sH _ _ ht
        refine ⟨t, _, rfl, .inl (.inl ht'), rfl, _, _, rfl, _, _, rfl, _, _, rfl, rfl, rfl, ?_⟩
        refine ⟨_, rfl, _, rfl, by show 2 ≤ sizeLine; decide, fun c nc => ?_⟩
        have sc := same_upd (o := .tup [.int st.room, .str st.sign]) nc
        have cD : c ≠ D2 := fun z => by
          rw [z, eL] at nc
          cases nc
        refine ⟨c, kKey st.key, L, rfl, upd_same, sc _ _ eL, fun q hq => sc _ _ (hid_same _ _ (tL q hq)), by rw [aa.1] at hlt; omega, fun L' _ new => ?_⟩
        have out : kKey st.key ∉ L.map (·.2) := fun hm => by
          obtain ⟨q, hq, e⟩ := List.mem_map.mp hm
          obtain ⟨s', hs', e'⟩ := List.mem_map.mp (kL q hq)
          obtain ⟨j, hj, ej⟩ := List.mem_iff_getElem.mp hs'
          rw [List.length_take] at hj
          rw [List.getElem_take] at ej
          have g1 : (ss.map fun s => kKey s.key)[j]? = some (kKey st.key) := by
            rw [List.getElem?_map, List.getElem?_eq_getElem (by omega), ej]
            show some (kKey s'.key) = _
            rw [e', e]
          have g2 : (ss.map fun s => kKey s.key)[i]? = some (kKey st.key) := by rw [List.getElem?_map, hst]; rfl
          have := nodup_inj nk g1 g2
          omega
        have pm := new out
        refine ⟨L', ?_, upd_same, by rw [pm.length_eq, List.length_cons, lL], fun q hq => ?_, fun q hq => ?_⟩
        · rw [hid_upd]
          exact sL.trans (hid_mono sc)
        · rw [hid_upd]
          rcases List.mem_cons.mp (pm.mem_iff.mp hq) with rfl | hq
          · rw [hid_ne cD]
            exact upd_same
          · exact hid_mono sc _ _ (tL q hq)
        · rw [List.take_add_one, hst, List.map_append]
          rcases List.mem_cons.mp (pm.mem_iff.mp hq) with rfl | hq
          · exact List.mem_append_right _ (by simp)
          · exact List.mem_append_left _ (kL q hq)
      · have ei : i = xs.length := by omega
        subst ei
        refine .inl ⟨⟨xs, sq, Nat.le_refl _⟩, ?_⟩
        refine ⟨D2, L, rfl, eL, _, rfl, p, xs, rfl, .inl sq, rfl, ?_⟩
        rw [decide_eq_true (show V.int (L.length : Int) = V.int (xs.length : Int) by rw [lL])]
        exact q H' (s12.trans sH)
/-! ### lowest -/
def gcdL : List Nat → Nat
  | [] => 0
  | n :: r => Nat.gcd n (gcdL r)
def gcdF (g : Nat) : List Nat → Nat
  | [] => g
  | n :: r => gcdF (Nat.gcd n g) r
theorem gcdF_snoc (n : Nat) : ∀ (l : List Nat) (g : Nat), gcdF g (l ++ [n]) = Nat.gcd n (gcdF g l)
  | [], _ => rfl
  | _ :: l, _ => gcdF_snoc n l _
theorem gcdF_dvd : ∀ (l : List Nat) (g : Nat), gcdF g l ∣ g ∧ ∀ n ∈ l, gcdF g l ∣ n
  | [], g => ⟨Nat.dvd_refl _, fun n h => by cases h⟩
  | x :: l, g => by
    obtain ⟨h1, h2⟩ := gcdF_dvd l (Nat.gcd x g)
    refine ⟨Nat.dvd_trans h1 (Nat.gcd_dvd_right _ _), fun n hn => ?_⟩
    rcases List.mem_cons.mp hn with rfl | hn
    · exact Nat.dvd_trans h1 (Nat.gcd_dvd_left _ _)
    · exact h2 n hn
theorem gcdF_pos {l : List Nat} {g : Nat} (h : ∃ n ∈ l, 0 < n) : 0 < gcdF g l := by
  obtain ⟨n, hn, h0⟩ := h
  exact Nat.pos_of_dvd_of_pos ((gcdF_dvd l g).2 n hn) h0
def low (ws : List Nat) : List Nat := ws.map (· / gcdF 0 ws)
def spLowest : Sp := fun vs H Q _ => ∃ (wa : Addr) (ws : List Nat), vs = [.ref wa] ∧ H wa = some (.tup (nts ws)) ∧ (∃ n ∈ ws, 0 < n) ∧ (∀ n ∈ ws, n < 2 ^ 4000) ∧ ws.length ≤ 900 ∧ ∀ H' r, Same H H' → H' r = some (.tup (nts (low ws))) → Q (.ref r) H'
theorem ok_p_lowest (T : Txt K mg) : FnOk P w K mg base CX0 2 T.f_p_lowest T.d_p_lowest ["weights"] spLowest := by
  refine T.F_p_lowest.ok sc_p_lowest (fun vs H Q E h => ?_) (fun cdv A outer s H vs Q E hr h => ?_)
  · obtain ⟨wa, ws, rfl, _⟩ := h
    rfl
  · obtain ⟨wa, ws, rfl, hw, pos, bd, l9, q⟩ := h
    refine ⟨_, (pss_cons (ps_set (i := 1) sc_p_lowest.nd rfl (.inr rfl) pe_int)
 (pss_cons (ps_for PassesOwn.never rfl (pi_tup (pv 0)) (pg_name (i := 2) sc_p_lowest.nd rfl (.inl rfl))
  (pss_one (ps_set (i := 1) sc_p_lowest.nd rfl (.inr rfl) (pe_call (ok_p_common_part T) (hr.mono (by decide)) (by rfl) T.g_p_common_part T.F_p_common_part.kp T.b_p_common_part .nil pass0 (pa_cons (pv 2) (pa_cons (pv 1) pa_nil))))))
 (pss_one (ps_ret (pe_callTy call_tuple_of (by rfl) T.z_tuple (by decide +kernel) (pa_cons (pe_lc (own := [("weight", 2)]) (g := (gName 2)) (tt := tYes) (by rfl) sc_p_lowest.nd (pi_tup (pv 0)) (blkOk_by (own := [("weight", 2)]) (N := ["weights", "common", "weight"]) (sc := defScope s_p_lowest) (by decide +kernel)) (fun _ _ _ _ _ => by exact (pg_name (i := 2) sc_p_lowest.nd rfl (.inl rfl))) (fun _ _ _ _ _ => by exact pts_nil) (fun _ _ _ _ _ => by exact (pe_op op_fdivW (pv 2) (pv 1)))) pa_nil)))))), ?_⟩
    have lw : (nts ws).length = ws.length := List.length_map ..
    refine ⟨_, rfl, wa, rfl, ⟨_, .inl (.inl hw)⟩, for_tup (K := K) (a := wa) (xs := nts ws) (fun i σ H' => ∃ y, σ = [some (.ref wa), some (.int (gcdF 0 (ws.take i) : Nat)), y] ∧ H' = H) ⟨none, rfl, rfl⟩ (fun i σ H' _ h => ?_) (fun i x σ H' hi h => ?_) (fun σ H' h => ?_)⟩
    · obtain ⟨y, _, rfl⟩ := h
      exact .inl (.inl hw)
    · obtain ⟨y, rfl, rfl⟩ := h
      rw [List.getElem?_map] at hi
      obtain ⟨n, hn, rfl⟩ := Option.map_eq_some_iff.mp hi
      refine ⟨_, rfl, _, rfl, (n : Int), (gcdF 0 (ws.take i) : Nat), rfl, ?_⟩
      refine ⟨some (.int n), ?_, rfl⟩
      rw [List.take_add_one, hn]
      show _ = [some (V.ref wa), some (.int (gcdF 0 (ws.take i ++ [n]) : Nat)), _]
      rw [gcdF_snoc, Int.gcd_natCast_natCast]
      rfl
    · obtain ⟨y, rfl, rfl⟩ := h
      rw [lw, List.take_length]
      have g0 : 0 < gcdF 0 ws := gcdF_pos pos
      obtain ⟨n0, hn0, h0⟩ := pos
      have gl : gcdF 0 ws < 2 ^ 4000 := Nat.lt_of_le_of_lt (Nat.le_of_dvd h0 ((gcdF_dvd ws 0).2 n0 hn0)) (bd n0 hn0)
      refine ⟨_, rfl, wa, rfl, ⟨_, .inl (.inl hw)⟩, fun D nD => lc_allW (walk_tup (K := K) (a := wa) (xs := nts ws)) (fun i y _ => ∃ n, ws[i]? = some n ∧ y = .int ((n / gcdF 0 ws : Nat))) (fun _ _ _ _ _ h => h) nD (fun H' s => .inl (.inl (s _ _ hw))) (by omega) (fun i v H2 H3 k hi s2 eD y hk => ?_) (fun H2 ys s2 e l r => ?_)⟩
      · obtain ⟨rfl, hv⟩ := y
        rw [List.getElem?_map] at hv
        obtain ⟨n, hn, rfl⟩ := Option.map_eq_some_iff.mp hv
        refine ⟨rfl, _, rfl, _, rfl, _, _, rfl, rfl, wide_div (b := 4000) (by omega) (nat_abs gl) (by decide) (by decide), hk _ _ (Same.refl _) ⟨n, hn, ?_⟩⟩
        dsimp only
        rw [Int.natCast_ediv]
      · have ey : ys = nts (low ws) := by
          refine List.ext_getElem? fun i => ?_
          by_cases hi : i < ys.length
          · obtain ⟨n, hn, hy⟩ := r i _ (List.getElem?_eq_getElem hi)
            rw [List.getElem?_eq_getElem hi, hy]
            unfold nts low
            rw [List.map_map, List.getElem?_map, hn]
            rfl
          · rw [List.getElem?_eq_none (by omega), List.getElem?_eq_none (by simp [nts, low]; omega)]
        rw [ey] at e
        refine ⟨D, _, rfl, .inl ⟨SqL.of e, fun t nt => ?_⟩⟩
        exact q _ t ((s2.trans hid_same).trans (same_upd nt)) upd_same
end

end Fb

namespace Fb
open PySem PySem.Spec PyProof.Rows L2
section
variable {P : Program} {w : World} {K : PySem.W.Frag} {mg : Str → Option Value} {base : Heap}
/-! ### Machine(many, steps), of good ones -/
theorem ms : ¬ (("many" : Str) = "steps") := by decide +kernel
def mflds (m : Nat) (r : Addr) : List (Str × V) := putF "steps" (.ref r) (putF "many" (.int (m : Int)) [])
theorem mflds_many (m : Nat) (r : Addr) : (mflds m r).lookup ("many" : Str) = some (.int (m : Int)) := by
  unfold mflds
  rw [lookup_putF, if_neg ms, lookup_putF, if_pos rfl]
theorem mflds_steps (m : Nat) (r : Addr) : (mflds m r).lookup ("steps" : Str) = some (.ref r) := by
  unfold mflds
  rw [lookup_putF, if_pos rfl]
def lowS (s : Stp) : Stp := ⟨s.room, s.sign, low s.ws⟩
theorem lowS_key (s : Stp) : (lowS s).key = s.key := rfl
structure Sorted (out : List Stp) : Prop where
  up : out.Pairwise fun a b => rsLt a.key b.key = true
def SortedOf (ss out : List Stp) : Prop := out.Perm (ss.map lowS) ∧ Sorted out
theorem sorted_uniq : ∀ {a b : List Stp}, Sorted a → Sorted b → a.Perm b → a = b
  | [], b, _, _, p => (List.Perm.eq_nil p.symm).symm
  | x :: a, [], _, _, p => absurd p.length_eq (by simp)
  | x :: a, y :: b, ⟨ha⟩, ⟨hb⟩, p => by
    have ha' := List.pairwise_cons.mp ha
    have hb' := List.pairwise_cons.mp hb
    have e : x = y := by
      rcases List.mem_cons.mp (p.mem_iff.mp List.mem_cons_self) with e | hx
      · exact e
      · rcases List.mem_cons.mp (p.symm.mem_iff.mp List.mem_cons_self) with e | hy
        · exact e.symm
        · have h1 := hb'.1 x hx
          have h2 := ha'.1 y hy
          have := rsLt_trans h1 h2
          rw [rsLt_irr] at this
          cases this
    subst e
    rw [sorted_uniq ⟨ha'.2⟩ ⟨hb'.2⟩ (List.Perm.cons_inv p)]
theorem AllAre.uncons' {α : Type} {R : V → α → Prop} {v : V} {vs : List V} {xs : List α} (h : AllAre R (v :: vs) xs) : ∃ x r, xs = x :: r ∧ R v x ∧ AllAre R vs r := by
  cases xs with
  | nil => exact absurd h.1 (by simp)
  | cons x r => exact ⟨x, r, rfl, h.2 0 v x rfl rfl, by simpa using h.1, fun i a b h1 h2 => h.2 (i + 1) a b (by simpa using h1) (by simpa using h2)⟩
theorem AllAre.perm {α : Type} {R : V → α → Prop} {xs ys : List V} (p : ys.Perm xs) : ∀ {as : List α}, AllAre R xs as → ∃ bs, AllAre R ys bs ∧ bs.Perm as := by
  induction p with
  | nil => exact fun {as} h => ⟨as, h, List.Perm.refl _⟩
  | cons x _ ih =>
    intro as h
    obtain ⟨a, r, rfl, h1, h2⟩ := h.uncons'
    obtain ⟨bs, b1, b2⟩ := ih h2
    exact ⟨a :: bs, .cons h1 b1, b2.cons a⟩
  | swap x y l =>
    intro as h
    obtain ⟨a, r, rfl, h1, h2⟩ := h.uncons'
    obtain ⟨b, r', rfl, h3, h4⟩ := h2.uncons'
    exact ⟨b :: a :: r', .cons h3 (.cons h1 h4), List.Perm.swap a b r'⟩
  | trans _ _ ih1 ih2 =>
    intro as h
    obtain ⟨bs, b1, b2⟩ := ih2 h
    obtain ⟨cs, c1, c2⟩ := ih1 b1
    exact ⟨cs, c1, c2.trans b2⟩
/-- the room and sign of what stands at a value -/
def kfH (H : Hp) : V → RS
  | .ref t => match H t with
    | some (.tup (.int i :: .str s :: _)) => (i, s)
    | _ => (0, ⟨#[]⟩)
  | _ => (0, ⟨#[]⟩)
theorem kfH_of {H : Hp} {v : V} {s : Stp} (h : IsStp H v s) : kfH H v = s.key := by
  obtain ⟨t, wa, rfl, ht, _⟩ := h
  simp only [kfH, ht]
def spMach (C : Addr) : Sp := fun vs H Q _ => ∃ (p dx : Addr) (m : Nat) (v : V) (ss : List Stp), vs = [.ref p, .int m, v] ∧ H p = some (.ins C dx []) ∧ IsStps H v ss ∧ StpsOk m ss ∧
  ∀ H' r svs out, (∀ a o, H a = some o → a ≠ p → H' a = some o) → H' p = some (.ins C dx (mflds m r)) → H r = none → H' r = some (.lst svs) → AllAre (IsStp H') svs out → SortedOf ss out → Q .non H'
theorem nts_keys (ns : List Nat) : nts ns = (ns.map fun (n : Nat) => (Sum.inl (n : Int) : Key)).map kV := by
  rw [List.map_map]
  rfl
theorem ok_m_Machine_init (T : Txt K mg) : FnOk P w K mg base CX0 5 T.f_m_Machine_init T.d_m_Machine_init ["self", "many", "steps"] (spMach T.c_Machine) := by
  refine T.F_m_Machine_init.ok sc_m_Machine_init (fun vs H Q E h => ?_) (fun cdv A outer s H vs Q E hr h => ?_)
  · obtain ⟨p, dx, m, v, ss, rfl, _⟩ := h
    rfl
  · obtain ⟨p, dx, m, v, ss, rfl, hp, hv, ok, q⟩ := h
    refine ⟨_, PSs.nox (pss_cons (ps_if (PW.pt (pw_or (pt_not (pt_val (pe_call (ok_p_is_whole T) (hr.mono (by decide)) (by rfl) T.g_p_is_whole T.F_p_is_whole.kp T.b_p_is_whole .nil pass0 (pa_cons (pv 1) pa_nil)))) (pw_or1 (pt_not (pt_chain op_le op_le pe_int (pv 1) (pe_glob (by rfl) T.g_MOST_ROOMS T.r_MOST_ROOMS))))))
  (pss_one ps_never)
  pss_nil)
 (pss_cons (ps_if (pt_not (pt_val (pe_call (ok_p_are_steps T) (hr.mono (by decide)) (by rfl) T.g_p_are_steps T.F_p_are_steps.kp T.b_p_are_steps .nil pass0 (pa_cons (pv 2) (pa_cons (pv 1) pa_nil)))))
  (pss_one ps_never)
  pss_nil)
 (pss_cons (ps_fld (pv 0) (pv 1) rfl)
 (pss_one (ps_fld (pv 0) (pe_callB (cr_sortS (units2 hr.units)) (by rfl) T.z_sorted (by decide +kernel) (pa_cons (pe_lc (own := [("room", 3), ("sign", 4), ("weights", 5)]) (g := (gTup K 3 (gCons (gName 3) (gCons (gName 4) (gCons (gName 5) gNil))))) (tt := tYes) (by rfl) sc_m_Machine_init.nd (pi_list (pv 2)) (blkOk_by (own := [("room", 3), ("sign", 4), ("weights", 5)]) (N := ["self", "many", "steps", "room", "sign", "weights"]) (sc := defScope s_m_Machine_init) (by decide +kernel)) (fun _ _ _ _ _ => by exact (pg_tup (by rfl) (pgs_cons (pg_name (i := 3) sc_m_Machine_init.nd rfl (.inl rfl)) (pgs_cons (pg_name (i := 4) sc_m_Machine_init.nd rfl (.inl rfl)) (pgs_cons (pg_name (i := 5) sc_m_Machine_init.nd rfl (.inl rfl)) pgs_nil))))) (fun _ _ _ _ _ => by exact pts_nil) (fun _ _ _ _ _ => by exact (pe_tup (pa_cons (pv 3) (pa_cons (pv 4) (pa_cons (pe_call (ok_p_lowest T) (hr.mono (by decide)) (by rfl) T.g_p_lowest T.F_p_lowest.kp T.b_p_lowest .nil pass0 (pa_cons (pv 5) pa_nil)) pa_nil)))))) pa_nil)) rfl))))), ?_⟩
    have m1 := ok.m1
    have m12 := ok.m12
    refine ⟨_, rfl, (m : Int), rfl, true, rfl, iteF ?_⟩
    refine ⟨_, rfl, _, _, rfl, rfl, true, congrArg V.bl (decide_eq_true (by omega)), iteT ⟨_, _, rfl, rfl, true, congrArg V.bl (decide_eq_true (by omega)), iteF ?_⟩⟩
    refine ⟨_, rfl, _, rfl, v, m, ss, rfl, hv, ok, fun H1 s1 => ⟨true, rfl, iteF ?_⟩⟩
    have hp1 := s1 _ _ hp
    refine ⟨_, rfl, _, rfl, p, T.c_Machine, dx, [], rfl, hp1, T.cl_Machine, T.n_Machine_many, (by show 0 < 1000; decide), ?_⟩
    generalize hH2 : upd H1 p (.ins T.c_Machine dx (putF "many" (.int (m : Int)) [])) = H2
    have k2 : ∀ a o, H1 a = some o → a ≠ p → H2 a = some o := fun a o e ne => by
      rw [← hH2, upd_ne ne]
      exact e
    have hp2 : H2 p = some (.ins T.c_Machine dx (putF "many" (.int (m : Int)) [])) := by rw [← hH2]; exact upd_same
    have nlp : ∀ {a : Addr} {xs : List V}, H1 a = some (.lst xs) → a ≠ p := fun e z => by
      rw [z, hp1] at e
      cases e
    have ntp : ∀ {a : Addr} {xs : List V}, H1 a = some (.tup xs) → a ≠ p := fun e z => by
      rw [z, hp1] at e
      cases e
    obtain ⟨pv, xs, rfl, ev, av⟩ := hv.mono s1
    have ev2 := k2 _ _ ev (nlp ev)
    have av2 : AllAre (IsStp H2) xs ss := av.imp fun _ _ h => by
      obtain ⟨t, wa, e, h1, h2⟩ := h
      exact ⟨t, wa, e, k2 _ _ h1 (ntp h1), k2 _ _ h2 (ntp h2)⟩
    have few := ok.few
    refine ⟨_, rfl, pv, rfl, ⟨_, SqL.of ev2⟩, fun D nD => lc_all (K := K) (a := pv) (xs := xs) (fun i y G => ∃ st, ss[i]? = some st ∧ IsStp G y (lowS st)) (fun _ _ _ _ s h => h.elim fun st f => ⟨st, f.1, f.2.mono s⟩) nD (SqL.of ev2) (by rw [av.1]; omega) (fun i x H3 k hi s3 eD hk => ?_) (fun H3 ys s3 e3 l3 r3 => ?_)⟩
    · obtain ⟨st, hst, t, wa, rfl, ht, hw⟩ := av2.at hi
      have so := ok.all st (List.mem_of_getElem? hst)
      have ht := hid_same _ _ (s3 _ _ ht)
      have hw := hid_same _ _ (s3 _ _ hw)
      refine ⟨t, _, rfl, .inl (.inl ht), rfl, _, _, rfl, _, _, rfl, _, _, rfl, rfl, rfl, ?_⟩
      refine ⟨_, rfl, _, rfl, _, rfl, wa, st.ws, rfl, hw, so.wts.pos, so.wts.bd, by rw [so.wts.len]; omega, fun H4 r4 s4 h4 => ?_⟩
      refine ⟨by show 3 ≤ sizeLine; decide, fun c nc => ?_⟩
      have sc := same_upd (o := .tup [.int st.room, .str st.sign, .ref r4]) nc
      have eD' : ∃ ys, (upd H4 c (.tup [.int st.room, .str st.sign, .ref r4])) D = some (.lst ys) := by
        obtain ⟨ys', e'⟩ := eD
        exact ⟨ys', sc _ _ (s4 _ _ e')⟩
      exact hk _ _ (s4.trans sc) ⟨st, hst, c, r4, rfl, hid_no eD' upd_same (fun _ => nofun), hid_no eD' (sc _ _ h4) (fun _ => nofun)⟩
    · have aS : AllAre (IsStp H3) ys (ss.map lowS) := .of_ix (by rw [l3, av.1, List.length_map]) fun i y hy => by
        obtain ⟨st, hst, h⟩ := r3 i y hy
        exact ⟨lowS st, by rw [List.getElem?_map, hst]; rfl, h.mono hid_same⟩
      have kf_at : ∀ {i : Nat} {y : V} {st : Stp}, ys[i]? = some y → ss[i]? = some st → kfH H3 y = st.key := fun {i y st} hy hs => by
        have := aS.2 i y (lowS st) hy (by rw [List.getElem?_map, hs]; rfl)
        rw [kfH_of this, lowS_key]
      have ixs : ∀ {y : V}, y ∈ ys → ∃ i st, ys[i]? = some y ∧ ss[i]? = some st := fun {y} hy => by
        obtain ⟨i, hi, e⟩ := List.mem_iff_getElem.mp hy
        have hl : i < ss.length := by rw [l3, av.1] at hi; exact hi
        exact ⟨i, ss[i], by rw [List.getElem?_eq_getElem hi, e], List.getElem?_eq_getElem hl⟩
      have one : ∀ x ∈ ys, ∀ y ∈ ys, kfH H3 x = kfH H3 y → x = y := fun x hx y hy e => by
        obtain ⟨i, si, a1, a2⟩ := ixs hx
        obtain ⟨j, sj, b1, b2⟩ := ixs hy
        rw [kf_at a1 a2, kf_at b1 b2] at e
        have := nodup_inj ok.once (i := i) (j := j) (x := si.key) (by rw [List.getElem?_map, a2]; rfl) (by rw [List.getElem?_map, b2, e]; rfl)
        subst this
        rw [a1] at b1
        cases b1
        rfl
      refine ⟨D, ys, kfH H3, rfl, SqL.of e3, by rw [l3, av.1]; omega, fun x hx => ?_, one, fun zs r pm up nr => ?_⟩
      · obtain ⟨i, si, a1, a2⟩ := ixs hx
        obtain ⟨t, wa, rfl, ht, hw⟩ := aS.2 i x (lowS si) a1 (by rw [List.getElem?_map, a2]; rfl)
        refine ⟨t, wa, _, rfl, ?_, by rw [← nts_keys]; exact hw⟩
        rw [kf_at a1 a2]
        exact ht
      · have sr := same_upd (o := .lst zs) nr
        have s23 : Same H2 H3 := s3.trans hid_same
        have hp3 := sr _ _ (s23 _ _ hp2)
        obtain ⟨out, aO, pO⟩ := AllAre.perm pm aS
        have rp : r ≠ p := fun z => by
          rw [z, s23 _ _ hp2] at nr
          cases nr
        refine ⟨_, rfl, p, T.c_Machine, dx, _, rfl, hp3, T.cl_Machine, T.n_Machine_steps, (by show 1 < 1000; decide), ?_⟩
        have keepP : ∀ a o, (upd H3 r (.lst zs)) a = some o → a ≠ p → (upd (upd H3 r (.lst zs)) p (.ins T.c_Machine dx (mflds m r))) a = some o := fun a o e ne => by
          rw [upd_ne ne]
          exact e
        refine q _ r zs out (fun a o e ne => keepP a o (sr _ _ (s23 _ _ (k2 a o (s1 _ _ e) ne))) ne) upd_same ?_ (keepP r _ upd_same rp) (aO.imp fun _ _ h => ?_) ⟨pO, ⟨?_⟩⟩
        · cases e : H r with
          | none => rfl
          | some o =>
            have := s23 _ _ (k2 _ _ (s1 _ _ e) rp)
            rw [nr] at this
            cases this
        · obtain ⟨t, wa, e, h1, h2⟩ := h
          have tp : ∀ {a : Addr} {xs : List V}, H3 a = some (.tup xs) → a ≠ p := fun e z => by
            rw [z, s23 _ _ hp2] at e
            cases e
          exact ⟨t, wa, e, keepP _ _ (sr _ _ h1) (tp h1), keepP _ _ (sr _ _ h2) (tp h2)⟩
        · rw [List.pairwise_iff_getElem]
          intro i j hi hj hij
          have gi : zs[i]? = some (zs[i]'(by rw [aO.1]; exact hi)) := List.getElem?_eq_getElem _
          have gj : zs[j]? = some (zs[j]'(by rw [aO.1]; exact hj)) := List.getElem?_eq_getElem _
          have ki := kfH_of (aO.2 i _ _ gi (List.getElem?_eq_getElem hi))
          have kj := kfH_of (aO.2 j _ _ gj (List.getElem?_eq_getElem hj))
          have le := (List.pairwise_iff_getElem.mp up) i j (by rw [aO.1]; exact hi) (by rw [aO.1]; exact hj) hij
          rw [ki, kj] at le
          cases lt : rsLt out[i].key out[j].key with
          | true => rfl
          | false =>
            exfalso
            have e := rsLt_total lt le
            have nd : (out.map Stp.key).Nodup := by
              refine (pO.map Stp.key).nodup_iff.mpr ?_
              rw [List.map_map]
              exact ok.once
            have := nodup_inj nd (i := i) (j := j) (x := out[i].key) (by rw [List.getElem?_map, List.getElem?_eq_getElem hi]; rfl) (by rw [List.getElem?_map, List.getElem?_eq_getElem hj, e]; rfl)
            omega
end

end Fb

namespace Fb
open PySem PySem.Spec PyProof.Rows L2
section
variable {P : Program} {w : World} {K : PySem.W.Frag} {mg : Str → Option Value} {base : Heap}
/-! ### the law's names -/
def tenNames : List Str := ["a", "ab", "b", "stop", "toss", "abc", "part", "zzzzzzzz", "ba", "aa"]
def kqs : List Nat := ("kqxzjvwmbt" : Str).cps.toList
def NmFrom (z : Str) : Prop := z ∈ tenNames ∨ ∃ c ∈ kqs, z.cps.toList.getLast? = some c
structure NmsOk (m : Nat) (zs : List Str) : Prop where
  len : zs.length = m
  nd : zs.Nodup
  all : ∀ z ∈ zs, NmOk z
  src : ∀ z ∈ zs, NmFrom z
theorem nmOk_of {x : Str} (h : (decide (1 ≤ x.length) && decide (x.length ≤ 8) && x.cps.toList.all fun c => decide (c ∈ letters)) = true) : NmOk x := by
  rw [Bool.and_eq_true, Bool.and_eq_true] at h
  exact ⟨of_decide_eq_true h.1.1, of_decide_eq_true h.1.2, fun c hc => of_decide_eq_true (List.all_eq_true.mp h.2 c hc)⟩
theorem ten_all : ∀ z ∈ tenNames, NmOk z := fun z hz => nmOk_of (by
  have : (tenNames.all fun x => (decide (1 ≤ x.length) && decide (x.length ≤ 8) && x.cps.toList.all fun c => decide (c ∈ letters))) = true := by decide +kernel
  exact List.all_eq_true.mp this z hz)
theorem ten_nd : tenNames.Nodup := by decide +kernel
def rot (k m : Nat) : List Str := (tenNames.drop k ++ tenNames.take k).take m
theorem rot_ok {k m : Nat} (hm : m ≤ 10) : NmsOk m (rot k m) := by
  have pm : (tenNames.drop k ++ tenNames.take k).Perm tenNames := List.perm_append_comm.trans (by rw [List.take_append_drop])
  have l10 : (tenNames.drop k ++ tenNames.take k).length = 10 := pm.length_eq
  have mem : ∀ z ∈ rot k m, z ∈ tenNames := fun z hz => pm.mem_iff.mp (List.mem_of_mem_take hz)
  exact ⟨by unfold rot; rw [List.length_take, l10]; omega, (List.take_sublist _ _).nodup (pm.nodup_iff.mpr ten_nd), fun z hz => ten_all z (mem z hz), fun z hz => .inl (mem z hz)⟩
theorem kq_nd : kqs.Nodup := by decide +kernel
theorem kq_let : ∀ c ∈ kqs, c ∈ letters := by decide +kernel
theorem kq_cut {m : Nat} (h : m ≤ 10) : (cutS ("kqxzjvwmbt" : Str) none (some (m : Int))).cps.toList = kqs.take m := by
  show ((kqs.drop 0).take (HT.sIx 10 10 (some (m : Int)) - 0)).toArray.toList = _
  rw [HT.sIx_nat, Nat.min_eq_left h]
  rfl
theorem of_ends {zs : List Str} {cs : List Nat} (h : zs.map (fun z => z.cps.toList.getLast?) = cs.map some) (nd : cs.Nodup) : zs.Nodup := by
  have h1 : (cs.map some).Nodup := List.pairwise_map.mpr (nd.imp fun hab e => hab (Option.some.inj e))
  rw [← h] at h1
  exact (List.pairwise_map.mp h1).imp fun hab e => hab (by rw [e])
theorem none_of {H H' : Hp} {p : Addr} (s : Same H H') (h : H' p = none) : H p = none := by
  cases e : H p with
  | none => rfl
  | some o =>
    have := s _ _ e
    rw [h] at this
    cases this
def spNames : Sp := fun vs H Q _ => ∃ (a : Addr) (m n : Nat), vs = [.ref a, .int m] ∧ m ≤ 4 ∧ WellAt H a (n + 50) ∧
  ∀ H' p zs, H p = none → Same (hid a H) (hid a H') → WellAt H' a n → H' p = some (.lst (zs.map V.str)) → NmsOk m zs → Q (.ref p) H'
theorem four_at {d : Int} {i : Nat} {x : V} (d0 : 0 ≤ d) (d8 : d < 8) (h : [V.int 0, V.int 0, V.int 1, V.int d][i]? = some x) : ∃ l : Nat, l ≤ 7 ∧ x = .int l := by
  match i with
  | 0 => cases h; exact ⟨0, by omega, rfl⟩
  | 1 => cases h; exact ⟨0, by omega, rfl⟩
  | 2 => cases h; exact ⟨1, by omega, rfl⟩
  | 3 => cases h; exact ⟨d.toNat, by omega, by rw [Int.toNat_of_nonneg d0]⟩
  | k + 4 => cases h
theorem ok_l_names (T : Txt K mg) : FnOk P w K mg base CX0 3 T.f_l_names T.d_l_names ["_law_well_here", "_law_many"] spNames := by
  refine T.F_l_names.ok sc_l_names (fun vs H Q E h => ?_) (fun cdv A outer s H vs Q E hr h => ?_)
  · obtain ⟨a, m, n, rfl, _⟩ := h
    rfl
  · obtain ⟨a, m, n, rfl, m4, hw, q⟩ := h
    refine ⟨_, (pss_cons (ps_if (pt_cmpR op_eq (pe_call (ok_l_draw T) (hr.mono (by decide)) (by rfl) T.g_l_draw T.F_l_draw.kp T.b_l_draw .nil pass0 (pa_cons (pv 0) (pa_cons pe_int pa_nil))) pe_int (nomark _))
  (pss_cons (ps_set (i := 2) sc_l_names.nd rfl (.inl rfl) (pe_lst (pa_cons pe_str (pa_cons pe_str (pa_cons pe_str (pa_cons pe_str (pa_cons pe_str (pa_cons pe_str (pa_cons pe_str (pa_cons pe_str (pa_cons pe_str (pa_cons pe_str pa_nil))))))))))))
 (pss_cons (ps_set (i := 3) sc_l_names.nd rfl (.inl rfl) (pe_call (ok_l_draw T) (hr.mono (by decide)) (by rfl) T.g_l_draw T.F_l_draw.kp T.b_l_draw .nil pass0 (pa_cons (pv 0) (pa_cons pe_int pa_nil))))
 (pss_one (ps_ret (pe_slice sl_list (pe_op op_cat (pe_slice sl_list (pv 2) (po_some (pv 3)) po_none) (pe_slice sl_list (pv 2) po_none (po_some (pv 3)))) po_none (po_some (pv 1)))))))
  pss_nil)
 (pss_cons (ps_set (i := 4) sc_l_names.nd rfl (.inl rfl) (pe_lst pa_nil))
 (pss_cons (ps_for PassesOwn.never rfl (pi_str (pe_slice sl_str pe_str po_none (po_some (pv 1)))) (pg_name (i := 5) sc_l_names.nd rfl (.inl rfl))
  (pss_cons (ps_set (i := 6) sc_l_names.nd rfl (.inl rfl) pe_str)
 (pss_cons (ps_for PassesOwn.never rfl (pi_range1 (by rfl) T.z_range (pa_cons (pe_call (ok_l_one T) (hr.mono (by decide)) (by rfl) T.g_l_one T.F_l_one.kp T.b_l_one .nil pass0 (pa_cons (pv 0) (pa_cons (pe_lst (pa_cons pe_int (pa_cons pe_int (pa_cons pe_int (pa_cons (pe_call (ok_l_draw T) (hr.mono (by decide)) (by rfl) T.g_l_draw T.F_l_draw.kp T.b_l_draw .nil pass0 (pa_cons (pv 0) (pa_cons pe_int pa_nil))) pa_nil))))) pa_nil))) pa_nil)) (pg_name (i := 7) sc_l_names.nd rfl (.inl rfl))
  (pss_one (ps_set (i := 6) sc_l_names.nd rfl (.inl rfl) (pe_op op_add_str (pv 6) (pe_ix ix_str pe_str (pe_call (ok_l_draw T) (hr.mono (by decide)) (by rfl) T.g_l_draw T.F_l_draw.kp T.b_l_draw .nil pass0 (pa_cons (pv 0) (pa_cons pe_int pa_nil))) (fun _ _ => rfl))))))
 (pss_one (ps_expr (pe_bm PySem.F.plainAttrs_list PySem.F.slot_list_append PySem.F.type_list_append mt_append (pv 4) (pa_cons (pe_op op_add_str (pv 6) (pv 5)) pa_nil)))))))
 (pss_one (ps_ret (pv 4)))))), ?_⟩
    refine ⟨_, rfl, a, 3, n + 49, rfl, hw, by decide, by decide, fun d H1 d0 d1 s1 w1 => ⟨rfl, _, rfl, ite2 (fun h => ?_) (fun h => ?_)⟩⟩
    · refine ⟨by show 10 ≤ sizeLine; decide, fun ps nps => ?_⟩
      obtain ⟨w2, s2⟩ := well_new (o := .lst (tenNames.map V.str)) w1 nps
      have hps : (upd H1 ps (.lst (tenNames.map V.str))) ps = some (.lst (tenNames.map V.str)) := upd_same
      have npa := w1.ne nps
      refine ⟨_, rfl, a, 10, n + 48, rfl, w2, by decide, by decide, fun e H2 e0 e1 s3 w3 => ?_⟩
      obtain ⟨k, rfl⟩ : ∃ k : Nat, e = (k : Int) := ⟨e.toNat, (Int.toNat_of_nonneg e0).symm⟩
      have hps2 : H2 ps = some (.lst (tenNames.map V.str)) := hid_same _ _ (s3 _ _ (by rw [hid_ne npa]; exact hps))
      have sH : Same (hid a H) (hid a H2) := s1.trans (s2.trans s3)
      refine ⟨_, rfl, _, rfl, k, rfl, ps, _, rfl, SqL.of hps2, fun p1 np1 => ?_⟩
      have t1 := same_upd (o := .lst (cutV (tenNames.map V.str) (some (k : Int)) none)) np1
      refine ⟨_, rfl, _, rfl, k, rfl, ps, _, rfl, SqL.of (t1 _ _ hps2), fun p2 np2 => ?_⟩
      have t2 := same_upd (o := .lst (cutV (tenNames.map V.str) none (some (k : Int)))) np2
      refine ⟨p1, p2, _, _, rfl, rfl, t2 _ _ upd_same, upd_same, ?_, fun p3 np3 => ?_⟩
      · have h1 := cutV_length (tenNames.map V.str) (some (k : Int)) none
        have h2 := cutV_length (tenNames.map V.str) none (some (k : Int))
        rw [List.length_map] at h1 h2
        have : tenNames.length = 10 := rfl
        exact Nat.le_of_lt (small1000 (by omega))
      have t3 := same_upd (o := .lst (cutV (tenNames.map V.str) (some (k : Int)) none ++ cutV (tenNames.map V.str) none (some (k : Int)))) np3
      refine ⟨_, rfl, m, rfl, p3, _, rfl, SqL.of upd_same, fun p4 np4 => ?_⟩
      have t4 := same_upd (o := .lst (cutV (cutV (tenNames.map V.str) (some (k : Int)) none ++ cutV (tenNames.map V.str) none (some (k : Int))) none (some (m : Int)))) np4
      have st := t1.trans (t2.trans (t3.trans t4))
      refine q _ p4 (rot k m) ?_ (sH.trans (hid_mono st)) ((w3.same st).mono (by omega)) ?_ (rot_ok (by omega))
      · exact none_back sH w3 (none_of (t1.trans (t2.trans t3)) np4)
      · have c1 := cut_from (xs := tenNames.map V.str) (k := k) (by rw [List.length_map]; show k ≤ 10; omega)
        have c2 := cut_to (xs := tenNames.map V.str) (k := k) (by rw [List.length_map]; show k ≤ 10; omega)
        rw [upd_same, c1, c2, ← List.map_drop, ← List.map_take, ← List.map_append, cut_to, ← List.map_take]
        · rfl
        · rw [List.length_map, List.length_append, List.length_drop, List.length_take]
          show m ≤ 10 - k + min k 10
          omega
    · refine ⟨Nat.zero_le _, fun pf nf => ?_⟩
      obtain ⟨w2, s2⟩ := well_new (o := .lst []) w1 nf
      have nfH := none_back s1 w1 nf
      have nfa := w1.ne nf
      have kc := kq_cut (m := m) (by omega)
      have kz : (cutS ("kqxzjvwmbt" : Str) none (some (m : Int))).cps.size = m := by
        rw [← Array.length_toList, kc, List.length_take]
        show min m 10 = m
        omega
      refine ⟨_, rfl, m, rfl, _, rfl, by decide, cutS ("kqxzjvwmbt" : Str) none (some (m : Int)), rfl, ?_⟩
      refine for_it walk_str (fun i σ H' => ∃ (z5 z6 z7 : Option V) (zs : List Str), σ = [some (.ref a), some (.int m), none, none, some (.ref pf), z5, z6, z7] ∧ Same (hid a H) (hid a H') ∧ WellAt H' a (n + 9 * (m - i)) ∧ H' pf = some (.lst (zs.map V.str)) ∧ zs.length = i ∧ zs.map (fun z => z.cps.toList.getLast?) = (kqs.take i).map some ∧ ∀ z ∈ zs, NmOk z) ?_ (fun _ _ _ _ _ => trivial) (fun i v σ H2 H3 hi h y => ?_) (fun σ H2 h => ?_)
      · exact ⟨none, none, none, [], rfl, s1.trans s2, w2.mono (by omega), upd_same, rfl, rfl, fun z hz => by cases hz⟩
      · obtain ⟨rfl, c, hc, rfl⟩ := y
        obtain ⟨z5, z6, z7, zs, rfl, sH, w3, hf, lz, ez, az⟩ := h
        rw [kz] at hi
        rw [← Array.getElem?_toList, kc, List.getElem?_take_of_lt hi] at hc
        have hck : c ∈ kqs := List.mem_of_getElem? hc
        obtain ⟨r, hr9⟩ : ∃ r, n + 9 * (m - i) = r + 9 ∧ r = n + 9 * (m - (i + 1)) := ⟨_, by omega, rfl⟩
        rw [hr9.1] at w3
        refine ⟨_, rfl, _, rfl, a, 8, r + 8, rfl, w3, by decide, by decide, fun d H4 d0 d1 s4 w4 => ⟨by show 4 ≤ sizeLine; decide, fun p4 n4 => ?_⟩⟩
        obtain ⟨w5, s5⟩ := well_new (o := .lst [.int 0, .int 0, .int 1, .int d]) w4 n4
        refine ⟨a, p4, _, r + 7, rfl, w5, sqL_hid w4 n4, by show 0 < 4; decide, by show 4 ≤ 1000; decide, fun j x H5 hx s6 w6 => ?_⟩
        obtain ⟨l, l7, rfl⟩ := four_at d0 d1 hx
        have s46 := s4.trans (s5.trans s6)
        refine ⟨l, rfl, by omega, by omega, for_range (fun j σ H' => ∃ (z7 : Option V) (wd : Str), σ = [some (.ref a), some (.int m), none, none, some (.ref pf), some (.str ⟨#[c]⟩), some (.str wd), z7] ∧ Same (hid a H3) (hid a H') ∧ WellAt H' a (r + (7 - j)) ∧ wd.length = j ∧ ∀ c ∈ wd.cps.toList, c ∈ letters) ⟨_, _, rfl, s46, w6, rfl, fun c hc => by cases hc⟩ (fun j σ H6 hj h => ?_) (fun σ H6 h => ?_)⟩
        · obtain ⟨z7, wd, rfl, s7, w7, lw, aw⟩ := h
          rw [Int.toNat_natCast] at hj
          refine ⟨_, rfl, _, rfl, a, 26, r + (7 - (j + 1)), rfl, w7.mono (by omega), by decide, by decide, fun e H7 e0 e1 s8 w8 => ?_⟩
          obtain ⟨ch, h1, h2⟩ := atI_get (xs := letters) e0 e1
          refine ⟨_, e, ch, rfl, rfl, by decide, h1, _, _, rfl, rfl, ?_, ?_⟩
          · show wd.length + 1 ≤ sizeLine
            exact Nat.le_of_lt (small1000 (by omega))
          · refine ⟨_, _, rfl, s7.trans s8, w8, ?_, fun c' hc' => ?_⟩
            · show (wd.cps ++ #[ch]).size = j + 1
              rw [Array.size_append, show wd.cps.size = j from lw]
              rfl
            · rw [show (wd ++ (⟨#[ch]⟩ : Str)).cps.toList = wd.cps.toList ++ [ch] from Array.toList_append] at hc'
              rcases List.mem_append.mp hc' with h | h
              · exact aw _ h
              · rw [List.mem_singleton] at h
                rw [h]
                exact List.mem_of_getElem? h2
        · obtain ⟨z7, wd, rfl, s7, w7, lw, aw⟩ := h
          rw [Int.toNat_natCast] at lw w7
          have hf6 : H6 pf = some (.lst (zs.map V.str)) := hid_same _ _ (s7 _ _ (by rw [hid_ne nfa]; exact hf))
          refine ⟨_, rfl, .inl ⟨rfl, _, SqL.of hf6⟩, _, rfl, _, rfl, _, _, rfl, rfl, ?_, pf, _, _, rfl, rfl, hf6, ?_, ?_⟩
          · show wd.length + 1 ≤ sizeLine
            exact Nat.le_of_lt (small1000 (by omega))
          · rw [List.length_map]
            exact small1000 (by omega)
          have cp : (wd ++ (⟨#[c]⟩ : Str)).cps.toList = wd.cps.toList ++ [c] := Array.toList_append
          refine ⟨_, _, _, zs ++ [wd ++ ⟨#[c]⟩], rfl, ?_, ?_, ?_, ?_, ?_, fun z hz => ?_⟩
          · rw [hid_updN nfa]
            exact same_over (sH.trans s7) (by rw [hid_ne nfa]; exact nfH)
          · exact (w7.upd nfa).mono (by omega)
          · rw [upd_same, List.map_append]
            rfl
          · rw [List.length_append, lz]
            rfl
          · rw [List.map_append, ez, List.take_add_one, hc, List.map_append]
            show _ ++ [(wd ++ (⟨#[c]⟩ : Str)).cps.toList.getLast?] = _
            rw [cp, List.getLast?_append]
            rfl
          · rcases List.mem_append.mp hz with h | h
            · exact az _ h
            · rw [List.mem_singleton] at h
              subst h
              have lc : (wd ++ (⟨#[c]⟩ : Str)).length = l + 1 := by
                show (wd.cps ++ #[c]).size = l + 1
                rw [Array.size_append, show wd.cps.size = l from lw]
                rfl
              refine ⟨by omega, by omega, fun c' hc' => ?_⟩
              rw [cp] at hc'
              rcases List.mem_append.mp hc' with h | h
              · exact aw _ h
              · rw [List.mem_singleton] at h
                rw [h]
                exact kq_let _ hck
      · obtain ⟨z5, z6, z7, zs, rfl, sH, w3, hf, lz, ez, az⟩ := h
        rw [kz] at lz ez w3
        refine ⟨_, rfl, q H2 pf zs nfH sH (w3.mono (by omega)) hf ⟨lz, of_ends ez ((List.take_sublist _ _).nodup kq_nd), az, fun z hz => .inr ?_⟩⟩
        have : z.cps.toList.getLast? ∈ (kqs.take m).map some := by
          rw [← ez]
          exact List.mem_map.mpr ⟨z, hz, rfl⟩
        obtain ⟨c, hc, e⟩ := List.mem_map.mp this
        exact ⟨c, List.mem_of_mem_take hc, e.symm⟩
end

end Fb

namespace Fb
open PySem PySem.Spec PyProof.Rows L2
section
variable {P : Program} {w : World} {K : PySem.W.Frag} {mg : Str → Option Value} {base : Heap}
/-! ### the law's weights -/
theorem flat_rep1 {x : V} : ∀ m : Nat, (List.replicate m [x]).flatten = List.replicate m x
  | 0 => rfl
  | m + 1 => by
    rw [List.replicate_succ, List.flatten_cons, flat_rep1 m]
    rfl
theorem nts_len {ns : List Nat} : (nts ns).length = ns.length := List.length_map ..
theorem nts_at {ns : List Nat} {i : Nat} {v : V} (h : (nts ns)[i]? = some v) : ∃ n, ns[i]? = some n ∧ v = .int (n : Int) := by
  rw [List.getElem?_map] at h
  obtain ⟨n, hn, rfl⟩ := Option.map_eq_some_iff.mp h
  exact ⟨n, hn, rfl⟩
theorem nts_set {ns : List Nat} {j k : Nat} : (nts ns).set j (.int (k : Int)) = nts (ns.set j k) := (List.map_set ..).symm
theorem nts_ints {ns : List Nat} : nts ns = (ns.map fun (n : Nat) => (n : Int)).map V.int := by
  rw [List.map_map]
  rfl
theorem sum_nts : ∀ ns : List Nat, (ns.map fun (n : Nat) => (n : Int)).sum = ((ns.sum : Nat) : Int)
  | [] => rfl
  | n :: r => by
    rw [List.map_cons, List.sum_cons, List.sum_cons, sum_nts r]
    omega
theorem sum_pos : ∀ {ns : List Nat}, ns.sum ≠ 0 → ∃ n ∈ ns, 0 < n
  | [], h => absurd rfl h
  | n :: r, h => by
    by_cases h0 : 0 < n
    · exact ⟨n, List.mem_cons_self, h0⟩
    · rw [List.sum_cons] at h
      obtain ⟨k, hk, k0⟩ := sum_pos (ns := r) (by omega)
      exact ⟨k, List.mem_cons_of_mem _ hk, k0⟩
theorem ixn_lt {m : Nat} {d : Int} (d0 : 0 ≤ d) (d1 : d < m) : ixN m d = some d.toNat := by
  unfold ixN
  rw [if_pos d0, if_pos (by omega)]
theorem mem_setN {ns : List Nat} {j k x : Nat} (h : x ∈ ns.set j k) : x ∈ ns ∨ x = k := List.mem_or_eq_of_mem_set h
def spDWts : Sp := fun vs H Q _ => ∃ (a : Addr) (m n : Nat), vs = [.ref a, .int m] ∧ 1 ≤ m ∧ m ≤ 14 ∧ WellAt H a (n + 20) ∧
  ∀ H' p ws, H p = none → Same (hid a H) (hid a H') → WellAt H' a n → H' p = some (.tup (nts ws)) → ws.length = m → (∃ x ∈ ws, 0 < x) → (∀ x ∈ ws, x ≤ 20) → Q (.ref p) H'
theorem ok_l_weights (T : Txt K mg) : FnOk P w K mg base CX0 2 T.f_l_weights T.d_l_weights ["_law_well_here", "_law_many"] spDWts := by
  refine T.F_l_weights.ok sc_l_weights (fun vs H Q E h => ?_) (fun cdv A outer s H vs Q E hr h => ?_)
  · obtain ⟨a, m, n, rfl, _⟩ := h
    rfl
  · obtain ⟨a, m, n, rfl, m1, m14, hw, q⟩ := h
    refine ⟨_, (pss_cons (ps_set (i := 2) sc_l_weights.nd rfl (.inl rfl) (pe_call (ok_l_draw T) (hr.mono (by decide)) (by rfl) T.g_l_draw T.F_l_draw.kp T.b_l_draw .nil pass0 (pa_cons (pv 0) (pa_cons pe_int pa_nil))))
 (pss_cons (ps_set (i := 3) sc_l_weights.nd rfl (.inl rfl) (pe_op op_rep (pe_lst (pa_cons pe_int pa_nil)) (pv 1)))
 (pss_cons (ps_if (pt_cmpR op_lt (pv 2) pe_int (nomark _))
  (pss_one (ps_for PassesOwn.never rfl (pi_range1 (by rfl) T.z_range (pa_cons (pe_op op_add pe_int (pe_callTy call_int1 (by rfl) T.z_int (by decide +kernel) (pa_cons (pe_cmpR op_gt (pv 2) pe_int (nomark _)) pa_nil))) pa_nil)) (pg_name (i := 4) sc_l_weights.nd rfl (.inl rfl))
  (pss_cons (ps_set (i := 5) sc_l_weights.nd rfl (.inl rfl) (pe_call (ok_l_draw T) (hr.mono (by decide)) (by rfl) T.g_l_draw T.F_l_draw.kp T.b_l_draw .nil pass0 (pa_cons (pv 0) (pa_cons (pv 1) pa_nil))))
 (pss_one (ps_asg (pe_op op_add (pe_op op_add (pe_ix ix_list (pv 3) (pv 5) (fun _ _ => rfl)) pe_int) (pe_call (ok_l_draw T) (hr.mono (by decide)) (by rfl) T.g_l_draw T.F_l_draw.kp T.b_l_draw .nil pass0 (pa_cons (pv 0) (pa_cons pe_int pa_nil)))) (pg_sub (pv 3) (pv 5) set_list))))))
  (pss_one (ps_setLc (i := 3) (own := [("_law_room", 6)]) (g := (gName 6)) (tt := tYes) (by rfl) sc_l_weights.nd rfl rfl (sw_true rfl rfl rfl (by decide +kernel)) (pi_range1 (by rfl) T.z_range (pa_cons (pv 1) pa_nil)) (blkOk_by (own := [("_law_room", 6)]) (N := ["_law_well_here", "_law_many", "_law_way", "_law_found", "_law_k", "_law_at", "_law_room"]) (sc := defScope s_l_weights) (by decide +kernel)) (fun _ _ _ _ _ => by exact (pg_name (i := 6) sc_l_weights.nd rfl (.inl rfl))) (fun _ _ _ _ _ => by exact pts_nil) (fun _ _ _ _ _ => by exact (pe_call (ok_l_draw T) (hr.mono (by decide)) (by rfl) T.g_l_draw T.F_l_draw.kp T.b_l_draw .nil pass0 (pa_cons (pv 0) (pa_cons pe_int pa_nil)))))))
 (pss_cons (ps_if (pt_cmpR op_eq (pe_callB (cr_sum rfl) (by rfl) T.z_sum (by decide +kernel) (pa_cons (pv 3) pa_nil)) pe_int (nomark _))
  (pss_one (ps_asg pe_int (pg_sub (pv 3) (pe_call (ok_l_draw T) (hr.mono (by decide)) (by rfl) T.g_l_draw T.F_l_draw.kp T.b_l_draw .nil pass0 (pa_cons (pv 0) (pa_cons (pv 1) pa_nil))) set_list)))
  pss_nil)
 (pss_one (ps_ret (pe_callTy call_tuple_of (by rfl) T.z_tuple (by decide +kernel) (pa_cons (pv 3) pa_nil)))))))), ?_⟩
    have ml : ((m : Int)).natAbs.log2 < 9000 := log_small (by omega)
    refine ⟨_, rfl, a, 4, n + 19, rfl, hw, by decide, by decide, fun d H1 d0 d1 s1 w1 => ?_⟩
    refine ⟨by show 1 ≤ sizeLine; decide, fun l nl => ?_⟩
    obtain ⟨w2, s2⟩ := well_new (o := .lst [.int 0]) w1 nl
    refine ⟨_, rfl, l, _, _, rfl, rfl, upd_same, by omega, by omega, ?_, fun p np => ?_⟩
    · show 1 * (m : Int).toNat ≤ sizeLine
      rw [Int.toNat_natCast]
      exact Nat.le_of_lt (small1000 (by omega))
    rw [Int.toNat_natCast, flat_rep1]
    obtain ⟨w3, s3⟩ := well_new (o := .lst (List.replicate m (V.int 0))) w2 np
    have npa := w2.ne np
    have npH : H p = none := none_back (s1.trans s2) w2 np
    have s13 := s1.trans (s2.trans s3)
    have e3 : (upd (upd H1 l (.lst [.int 0])) p (.lst (List.replicate m (V.int 0)))) p = some (.lst (nts (List.replicate m 0))) := by
      rw [upd_same, nts, List.map_replicate]
      rfl
    generalize upd (upd H1 l (.lst [.int 0])) p (.lst (List.replicate m (V.int 0))) = H3 at *
    dsimp only [gName]
    refine seq_fin (fun σ H' => ∃ (z4 z5 z6 : Option V) (p : Addr) (ws : List Nat), σ = [some (.ref a), some (.int m), some (.int d), some (.ref p), z4, z5, z6] ∧ H p = none ∧ p ≠ a ∧ Same (hid a H) (hid a H') ∧ WellAt H' a (n + 1) ∧ H' p = some (.lst (nts ws)) ∧ ws.length = m ∧ ∀ x ∈ ws, x ≤ 12) (fun σ H' h => ?_) (fun fin => ?_)
    · obtain ⟨z4, z5, z6, p, ws, rfl, np, npa, sH, wH, e, l, b⟩ := h
      refine seq_fin (fun σ H' => ∃ (ws : List Nat), σ = [some (.ref a), some (.int m), some (.int d), some (.ref p), z4, z5, z6] ∧ Same (hid a H) (hid a H') ∧ WellAt H' a n ∧ H' p = some (.lst (nts ws)) ∧ ws.length = m ∧ (∃ x ∈ ws, 0 < x) ∧ ∀ x ∈ ws, x ≤ 12) (fun σ H' h => ?_) (fun fin => ?_)
      · obtain ⟨ws, rfl, s4, w4, e, l, px, b⟩ := h
        refine ⟨_, rfl, p, _, rfl, .inl ⟨SqL.of e, fun r nr => ?_⟩⟩
        have t := same_upd (o := .tup (nts ws)) nr
        exact q _ r ws (none_back s4 w4 nr) (s4.trans (hid_mono t)) (w4.same t) upd_same l px (fun x hx => Nat.le_trans (b x hx) (by decide))
      · refine ⟨_, rfl, p, ws.map (fun (n : Nat) => (n : Int)), rfl, SqL.of (by rw [e, nts_ints]), rfl, _, rfl, ite2 (fun h => ?_) (fun h => ?_)⟩
        · refine ⟨_, rfl, _, rfl, _, rfl, a, m, n, rfl, wH, by omega, ml, fun d H4 e0 e1 s4 w4 => ?_⟩
          have e4 : H4 p = some (.lst (nts ws)) := hid_same _ _ (s4 _ _ (by rw [hid_ne npa]; exact e))
          refine ⟨p, _, d, d.toNat, rfl, rfl, e4, ixn_lt e0 (by rw [nts_len, l]; exact e1), ?_⟩
          refine fin _ _ ⟨ws.set d.toNat 1, rfl, ?_, w4.upd npa, ?_, by rw [List.length_set, l], ⟨1, ?_, by decide⟩, fun x hx => ?_⟩
          · rw [hid_updN npa]
            exact same_over (sH.trans s4) (by rw [hid_ne npa]; exact np)
          · rw [upd_same, ← nts_set]
            rfl
          · exact List.mem_of_getElem? (i := d.toNat) (List.getElem?_set_self (by omega))
          · rcases mem_setN hx with h | h
            · exact b x h
            · omega
        · refine fin _ _ ⟨ws, rfl, sH, wH.mono (by omega), e, l, sum_pos fun z => ?_, b⟩
          rw [sum_nts, z] at h
          exact h rfl
    · refine ⟨_, rfl, _, _, rfl, rfl, _, rfl, ite2 (fun h => ?_) (fun h => ?_)⟩
      · refine ⟨_, rfl, _, _, rfl, rfl, .inr ⟨_, rfl, _, _, rfl, rfl, _, rfl, ?_, ?_, ?_⟩⟩
        · split <;> decide
        · split <;> decide
        obtain ⟨t, ht, t2⟩ : ∃ t : Nat, ((1 : Int) + if decide (0 < d) = true then 1 else 0).toNat = t ∧ t ≤ 2 := ⟨_, rfl, by split <;> decide⟩
        rw [ht]
        refine for_range (fun i σ H' => ∃ (z4 z5 z6 : Option V) (ws : List Nat), σ = [some (.ref a), some (.int m), some (.int d), some (.ref p), z4, z5, z6] ∧ Same (hid a H) (hid a H') ∧ WellAt H' a (n + 1 + 2 * (t - i)) ∧ H' p = some (.lst (nts ws)) ∧ ws.length = m ∧ ∀ x ∈ ws, x ≤ 6 * i) ⟨_, _, _, _, rfl, s13, w3.mono (by omega), e3, List.length_replicate, fun x hx => ?_⟩ (fun i σ H' hi h => ?_) (fun σ H' h => ?_)
        · rw [(List.mem_replicate.mp hx).2]
          exact Nat.zero_le _
        · obtain ⟨z4, z5, z6, ws, rfl, s4, w4, e4, l4, b4⟩ := h
          have hr : n + 1 + 2 * (t - i) = (n + 1 + 2 * (t - (i + 1))) + 1 + 1 := by omega
          rw [hr] at w4
          refine ⟨_, rfl, _, rfl, a, m, _, rfl, w4, by omega, ml, fun f H5 f0 f1 s5 w5 => ?_⟩
          have e5 : H5 p = some (.lst (nts ws)) := hid_same _ _ (s5 _ _ (by rw [hid_ne npa]; exact e4))
          obtain ⟨x, h1, h2⟩ := atI_get (xs := nts ws) f0 (by rw [nts_len, l4]; exact f1)
          obtain ⟨k, hk, rfl⟩ := nts_at h2
          refine ⟨_, rfl, _, rfl, p, _, f, _, rfl, rfl, SqL.of e5, h1, _, _, rfl, rfl, _, rfl, a, 5, _, rfl, w5, by decide, by decide, fun g H6 g0 g1 s6 w6 => ?_⟩
          have e6 : H6 p = some (.lst (nts ws)) := hid_same _ _ (s6 _ _ (by rw [hid_ne npa]; exact e5))
          refine ⟨_, _, rfl, rfl, _, rfl, _, rfl, p, _, f, f.toNat, rfl, rfl, e6, ixn_lt f0 (by rw [nts_len, l4]; exact f1), ?_⟩
          have ek : ((k : Int) + 1 + g) = ((k + 1 + g.toNat : Nat) : Int) := by omega
          refine ⟨_, _, _, ws.set f.toNat (k + 1 + g.toNat), rfl, ?_, w6.upd npa, by rw [upd_same, ← nts_set, ← ek], by rw [List.length_set, l4], fun x hx => ?_⟩
          · rw [hid_updN npa]
            exact same_over (s4.trans (s5.trans s6)) (by rw [hid_ne npa]; exact npH)
          · have := b4 k (List.mem_of_getElem? hk)
            rcases mem_setN hx with h | h
            · have := b4 x h
              omega
            · omega
        · obtain ⟨z4, z5, z6, ws, rfl, s4, w4, e4, l4, b4⟩ := h
          exact fin _ _ ⟨_, _, _, p, ws, rfl, npH, npa, s4, w4.mono (by omega), e4, l4, fun x hx => Nat.le_trans (b4 x hx) (by omega)⟩
      · refine ⟨_, rfl, m, rfl, by omega, by omega, fun D nD => lc_wellR (a := a) (fun v _ => ∃ k : Nat, k ≤ 12 ∧ v = .int k) (fun _ _ _ _ h => h) 1 (n + 1) nD (w3.mono (by rw [Int.toNat_natCast]; omega)) (by rw [Int.toNat_natCast]; omega) (fun i H4 f kk hi w4 s4 eD hk => ?_) (fun H4 ys s4 w4 e4 l4 r4 => ?_)⟩
        · refine ⟨rfl, _, rfl, a, 7, f, rfl, w4, by decide, by decide, fun g H5 g0 g1 s5 w5 => hk _ _ s5 w5 ⟨g.toNat, by omega, by rw [Int.toNat_of_nonneg g0]⟩⟩
        · obtain ⟨ws, rfl, lw, bw⟩ : ∃ ws : List Nat, ys = nts ws ∧ ws.length = ys.length ∧ ∀ x ∈ ws, x ≤ 12 := by
            clear e4 l4 s4
            induction ys with
            | nil => exact ⟨[], rfl, rfl, fun x hx => by cases hx⟩
            | cons y ys ih =>
              obtain ⟨ws, rfl, lw, bw⟩ := ih (fun y hy => r4 y (List.mem_cons_of_mem _ hy))
              obtain ⟨k, k12, rfl⟩ := r4 y List.mem_cons_self
              exact ⟨k :: ws, rfl, by rw [List.length_cons, List.length_cons, lw], fun x hx => by
                rcases List.mem_cons.mp hx with rfl | h
                · exact k12
                · exact bw x h⟩
          rw [Int.toNat_natCast] at l4
          have nDa := w3.ne nD
          have nDH := none_back s13 w3 nD
          refine fin _ _ ⟨_, _, _, D, ws, rfl, nDH, nDa, ?_, w4, e4, by omega, bw⟩
          exact s13.trans (s4.trans hid_same)
end

end Fb

namespace Fb
open PySem PySem.Spec PyProof.Rows L2
section
variable {P : Program} {w : World} {K : PySem.W.Frag} {mg : Str → Option Value} {base : Heap}
/-! ### tests of which it does not matter how they come out -/
def AnyT (t : TT) (σ : L2.St) (M0 M : Hp → Prop) : Prop := ∀ H, M0 H → ∀ Q : Bool → Hp → Prop, (∀ b H', M H' → Q b H') → t σ H Q
theorem or_any {t u : TT} {σ : L2.St} {M0 M1 M : Hp → Prop} (ht : AnyT t σ M0 M1) (hu : AnyT u σ M1 M) (wk : ∀ H, M1 H → M H) : AnyT (tOr t u) σ M0 M := fun H h Q hQ => ht H h _ fun b H' m => by
  cases b
  · exact iteF (hu H' m Q hQ)
  · exact iteT (hQ _ _ (wk _ m))
theorem and_any {t u : TT} {σ : L2.St} {M0 M1 M : Hp → Prop} (ht : AnyT t σ M0 M1) (hu : AnyT u σ M1 M) (wk : ∀ H, M1 H → M H) : AnyT (tAnd t u) σ M0 M := fun H h Q hQ => ht H h _ fun b H' m => by
  cases b
  · exact iteF (hQ _ _ (wk _ m))
  · exact iteT (hu H' m Q hQ)
theorem if_any {c : TT} {t u : L2.TS} {D : Ends} {σ : L2.St} {H : Hp} (M0 M : Hp → Prop) (h0 : M0 H) (hc : AnyT c σ M0 M) (ht : ∀ H', M H' → t D σ H') (hu : ∀ H', M H' → u D σ H') : tIfS c t u D σ H := hc H h0 _ fun b H' m => by
  cases b
  · exact iteF (hu H' m)
  · exact iteT (ht H' m)
/-! ### the law's machines -/
structure DS (m : Nat) (zs : List Str) (i j : Nat) (ss : List Stp) : Prop where
  len : ss.length ≤ i * zs.length + j
  all : ∀ s ∈ ss, StpOk m s ∧ s.sign ∈ zs ∧ (∀ x ∈ s.ws, x ≤ 20) ∧ (s.room < i ∨ (s.room = i ∧ ∃ k, k < j ∧ zs[k]? = some s.sign))
  once : (ss.map Stp.key).Nodup
theorem DS.next {m : Nat} {zs : List Str} {i j : Nat} {ss : List Stp} (h : DS m zs i j ss) : DS m zs i (j + 1) ss :=
  ⟨Nat.le_succ_of_le h.len, fun s hs => ⟨(h.all s hs).1, (h.all s hs).2.1, (h.all s hs).2.2.1, (h.all s hs).2.2.2.imp id fun ⟨e, k, l, g⟩ => ⟨e, k, Nat.lt_succ_of_lt l, g⟩⟩, h.once⟩
theorem DS.row {m : Nat} {zs : List Str} {i : Nat} {ss : List Stp} (h : DS m zs i zs.length ss) : DS m zs (i + 1) 0 ss :=
  ⟨by rw [Nat.succ_mul]; exact h.len, fun s hs => ⟨(h.all s hs).1, (h.all s hs).2.1, (h.all s hs).2.2.1, .inl ((h.all s hs).2.2.2.elim (fun l => Nat.lt_succ_of_lt l) fun ⟨e, _⟩ => by omega)⟩, h.once⟩
theorem twenty {x : Nat} (h : x ≤ 20) : x < 2 ^ 4000 := Nat.lt_of_lt_of_le (Nat.lt_of_le_of_lt h (by decide : 20 < 2 ^ 5)) (Nat.pow_le_pow_right (by decide) (by decide))
theorem DS.add {m k : Nat} {zs : List Str} {i j : Nat} {ss : List Stp} {z : Str} {ws : List Nat} (h : DS m zs i j ss) (ok : NmsOk k zs) (hi : i < m) (hz : zs[j]? = some z) (lw : ws.length = m) (pw : ∃ x ∈ ws, 0 < x) (bw : ∀ x ∈ ws, x ≤ 20) : DS m zs i (j + 1) (ss ++ [⟨i, z, ws⟩]) := by
  have hm := List.mem_of_getElem? hz
  refine ⟨?_, fun s hs => ?_, ?_⟩
  · rw [List.length_append, List.length_singleton]
    have := h.len
    omega
  · rcases List.mem_append.mp hs with hs | hs
    · exact h.next.all s hs
    · rw [List.mem_singleton] at hs
      subst hs
      exact ⟨⟨hi, ok.all _ hm, ⟨lw, pw, fun x hx => twenty (bw x hx)⟩⟩, hm, bw, .inr ⟨rfl, j, Nat.lt_succ_self _, hz⟩⟩
  · rw [List.map_append, List.nodup_append]
    refine ⟨h.once, by simp, fun a ha b hb => ?_⟩
    rw [List.map_singleton, List.mem_singleton] at hb
    subst hb
    rintro rfl
    obtain ⟨s, hs, e⟩ := List.mem_map.mp ha
    have e1 : (s.room : Int) = (i : Int) := congrArg Prod.fst e
    have e2 : s.sign = z := congrArg Prod.snd e
    rcases (h.all s hs).2.2.2 with l | ⟨_, k', lk, g⟩
    · omega
    · rw [e2] at g
      have := (List.getElem?_inj (List.getElem?_eq_some_iff.mp g).1 ok.nd).mp (g.trans hz.symm)
      omega
theorem IsStp.ts {H H' : Hp} {v : V} {s : Stp} (h : IsStp H v s) (t : TS H H') : IsStp H' v s := by
  obtain ⟨p, wa, e, h1, h2⟩ := h
  exact ⟨p, wa, e, t _ _ h1, t _ _ h2⟩
def spDMach : Sp := fun vs H Q _ => ∃ (a sp : Addr) (zs : List Str) (k m0 n : Nat), vs = [.ref a, .ref sp, .int m0] ∧ 1 ≤ m0 ∧ m0 ≤ 12 ∧ 1 ≤ k ∧ k ≤ 4 ∧ NmsOk k zs ∧ sp ≠ a ∧ H sp = some (.lst (zs.map V.str)) ∧ WellAt H a (n + 1200) ∧
  ∀ H' t l m vs ss, Same (hid a H) (hid a H') → WellAt H' a n → 1 ≤ m → m ≤ m0 → H' t = some (.tup [.int (m : Nat), .ref l]) → H t = none → H l = none → H' l = some (.lst vs) → AllAre (IsStp H') vs ss → DS m zs m 0 ss → Q (.ref t) H'
theorem ok_l_machine (T : Txt K mg) : FnOk P w K mg base CX0 3 T.f_l_machine T.d_l_machine ["_law_well_here", "_law_signs", "_law_most"] spDMach := by
  refine T.F_l_machine.ok sc_l_machine (fun vs H Q E h => ?_) (fun cdv A outer s H vs Q E hr h => ?_)
  · obtain ⟨a, sp, zs, k, m0, n, rfl, _⟩ := h
    rfl
  · obtain ⟨a, sp, zs, k, m0, n, rfl, m1, m12, k1, k4, ok, spa, hsp, hw, q⟩ := h
    refine ⟨_, (pss_cons (ps_set (i := 3) sc_l_machine.nd rfl (.inl rfl) (pe_op op_add pe_int (pe_call (ok_l_draw T) (hr.mono (by decide)) (by rfl) T.g_l_draw T.F_l_draw.kp T.b_l_draw .nil pass0 (pa_cons (pv 0) (pa_cons (pv 2) pa_nil)))))
 (pss_cons (ps_set (i := 4) sc_l_machine.nd rfl (.inl rfl) (pe_call (ok_l_draw T) (hr.mono (by decide)) (by rfl) T.g_l_draw T.F_l_draw.kp T.b_l_draw .nil pass0 (pa_cons (pv 0) (pa_cons pe_int pa_nil))))
 (pss_cons (ps_set (i := 5) sc_l_machine.nd rfl (.inl rfl) (pe_call (ok_l_draw T) (hr.mono (by decide)) (by rfl) T.g_l_draw T.F_l_draw.kp T.b_l_draw .nil pass0 (pa_cons (pv 0) (pa_cons (pe_op op_add (pv 3) pe_int) pa_nil))))
 (pss_cons (ps_set (i := 6) sc_l_machine.nd rfl (.inl rfl) (pe_call (ok_l_draw T) (hr.mono (by decide)) (by rfl) T.g_l_draw T.F_l_draw.kp T.b_l_draw .nil pass0 (pa_cons (pv 0) (pa_cons (pe_callB call_len_seq (by rfl) T.z_len (by decide +kernel) (pa_cons (pv 1) pa_nil)) pa_nil))))
 (pss_cons (ps_set (i := 7) sc_l_machine.nd rfl (.inl rfl) (pe_lst pa_nil))
 (pss_cons (ps_for PassesOwn.never rfl (pi_range1 (by rfl) T.z_range (pa_cons (pv 3) pa_nil)) (pg_name (i := 8) sc_l_machine.nd rfl (.inl rfl))
  (pss_one (ps_for PassesOwn.never rfl (pi_enum (by rfl) T.z_enumerate (pa_cons (pv 1) pa_nil)) (pg_tup (by rfl) (pgs_cons (pg_name (i := 9) sc_l_machine.nd rfl (.inl rfl)) (pgs_cons (pg_name (i := 10) sc_l_machine.nd rfl (.inl rfl)) pgs_nil)))
  (pss_one (ps_if (PW.pt (pw_or (PW.pt (pw_and (pt_cmpR op_lt (pv 4) pe_int (nomark _)) (pw_and1 (PW.pt (pw_or (pt_cmpR op_ne (pv 8) (pv 5) (nomark _)) (pw_or1 (pt_cmpR op_lt (pv 9) (pv 6) (nomark _)))))))) (pw_or1 (PW.pt (pw_and (pt_cmpR op_eq (pv 4) pe_int (nomark _)) (pw_and1 (pt_cmpR op_gt (pe_call (ok_l_draw T) (hr.mono (by decide)) (by rfl) T.g_l_draw T.F_l_draw.kp T.b_l_draw .nil pass0 (pa_cons (pv 0) (pa_cons pe_int pa_nil))) pe_int (nomark _))))))))
  (pss_one (ps_expr (pe_bm PySem.F.plainAttrs_list PySem.F.slot_list_append PySem.F.type_list_append mt_append (pv 7) (pa_cons (pe_tup (pa_cons (pv 8) (pa_cons (pv 10) (pa_cons (pe_call (ok_l_weights T) (hr.mono (by decide)) (by rfl) T.g_l_weights T.F_l_weights.kp T.b_l_weights .nil pass0 (pa_cons (pv 0) (pa_cons (pv 3) pa_nil))) pa_nil)))) pa_nil))))
  pss_nil)))))
 (pss_one (ps_ret (pe_tup (pa_cons (pv 3) (pa_cons (pv 7) pa_nil))))))))))), ?_⟩
    refine ⟨_, rfl, _, rfl, a, m0, n + 1199, rfl, hw, by omega, log_small (by omega), fun d H1 d0 d1 s1 w1 => ⟨_, _, rfl, rfl, ?_⟩⟩
    obtain ⟨m, hm⟩ : ∃ m : Nat, 1 + d = (m : Int) := ⟨(1 + d).toNat, by omega⟩
    dsimp only
    rw [hm]
    have mm1 : 1 ≤ m := by omega
    have mm2 : m ≤ m0 := by omega
    clear hm
    refine ⟨_, rfl, a, 3, n + 1198, rfl, w1, by decide, by decide, fun d2 H2 _ _ s2 w2 => ?_⟩
    refine ⟨_, rfl, _, rfl, _, _, rfl, rfl, a, _, n + 1197, rfl, w2, by omega, ?_, fun d3 H3 _ _ s3 w3 => ?_⟩
    · exact log_small (m := m + 1) (by omega)
    have s13 := s1.trans (s2.trans s3)
    have hsp3 : H3 sp = some (.lst (zs.map V.str)) := hid_same _ _ (s13 _ _ (by rw [hid_ne spa]; exact hsp))
    refine ⟨_, rfl, _, rfl, sp, _, rfl, .inl (SqL.of hsp3), a, _, n + 1196, rfl, w3, ?_, ?_, fun d4 H4 _ _ s4 w4 => ?_⟩
    · rw [List.length_map, ok.len]
      omega
    · rw [List.length_map, ok.len]
      exact log_small (by omega)
    refine ⟨Nat.zero_le _, fun pl npl => ?_⟩
    obtain ⟨w5, s5⟩ := well_new (o := .lst []) w4 npl
    have s14 := s13.trans s4
    have npH : H pl = none := none_back s14 w4 npl
    have npa := w4.ne npl
    have s15 := s14.trans s5
    let J : Nat → Nat → Hp → Prop := fun i j H' => ∃ (ss : List Stp) (vs : List V), Same (hid a H) (hid a H') ∧ WellAt H' a (n + 21 * ((m - i) * zs.length - j)) ∧ H' pl = some (.lst vs) ∧ AllAre (IsStp H') vs ss ∧ DS m zs i j ss
    refine ⟨_, rfl, m, rfl, by omega, by omega, for_range (fun i σ H' => ∃ z8 z9 z10, σ = [some (.ref a), some (.ref sp), some (.int m0), some (.int m), some (.int d2), some (.int d3), some (.int d4), some (.ref pl), z8, z9, z10] ∧ J i 0 H') ⟨_, _, _, rfl, [], [], s15, w5.mono ?_, upd_same, .nil, ⟨Nat.zero_le _, fun s hs => (by cases hs), List.nodup_nil⟩⟩ (fun i σ H6 hi h => ?_) (fun σ H6 h => ?_)⟩
    · rw [ok.len, Nat.sub_zero, Nat.sub_zero]
      have : m * k ≤ 12 * 4 := Nat.mul_le_mul (by omega) k4
      omega
    · obtain ⟨z8, z9, z10, rfl, hJ⟩ := h
      rw [Int.toNat_natCast] at hi
      have hsJ : ∀ {i j H'}, J i j H' → H' sp = some (.lst (zs.map V.str)) := fun ⟨_, _, s, _⟩ => hid_same _ _ (s _ _ (by rw [hid_ne spa]; exact hsp))
      refine ⟨_, rfl, sp, _, rfl, SqL.of (hsJ hJ), for_it (walk_enum (K := K) (a := sp) (xs := zs.map V.str)) (fun j σ H' => ∃ z9 z10, σ = [some (.ref a), some (.ref sp), some (.int m0), some (.int m), some (.int d2), some (.int d3), some (.int d4), some (.ref pl), some (.int (0 + (i : Nat))), z9, z10] ∧ J i j H') ⟨_, _, rfl, hJ⟩ (fun j σ H' _ h => ?_) (fun j v σ H7 H8 hj h y => ?_) (fun σ H' h => ?_)⟩
      · obtain ⟨_, _, _, h⟩ := h
        exact SqL.of (hsJ h)
      · obtain ⟨z9, z10, rfl, hJ⟩ := h
        obtain ⟨t, x, y, rfl, nt, rfl, ex, ey⟩ := y
        cases ex
        have ey : (zs.map V.str)[j]? = some y := ey
        rw [List.getElem?_map] at ey
        obtain ⟨z, hz, rfl⟩ := Option.map_eq_some_iff.mp ey
        rw [List.length_map] at hj
        obtain ⟨ss, vs, s7, w7, e7, a7, D7⟩ := hJ
        have st := same_upd (o := .tup [.int (j : Nat), .str z]) nt
        refine ⟨t, _, rfl, .inl (.inl upd_same), rfl, _, _, rfl, _, _, rfl, rfl, ?_⟩
        have hn : n + 21 * ((m - i) * zs.length - j) = (n + 21 * ((m - i) * zs.length - (j + 1))) + 21 := by
          have : 1 * zs.length ≤ (m - i) * zs.length := Nat.mul_le_mul_right _ (by omega)
          omega
        rw [hn] at w7
        obtain ⟨r, er⟩ : ∃ r, r = n + 21 * ((m - i) * zs.length - (j + 1)) := ⟨_, rfl⟩
        rw [← er] at w7
        refine if_any (fun H' => Same (hid a H7) (hid a H') ∧ WellAt H' a (r + 21)) (fun H' => Same (hid a H7) (hid a H') ∧ WellAt H' a (r + 20)) ⟨hid_mono st, w7.same st⟩ ?_ (fun H9 ⟨s9, w9⟩ => ?_) (fun H9 ⟨s9, w9⟩ => ?_)
        · refine or_any (M1 := fun H' => Same (hid a H7) (hid a H') ∧ WellAt H' a (r + 21)) (and_any (M1 := fun H' => Same (hid a H7) (hid a H') ∧ WellAt H' a (r + 21)) (fun H' h Q hQ => ⟨_, rfl, _, _, rfl, rfl, _, rfl, hQ _ _ h⟩) (or_any (M1 := fun H' => Same (hid a H7) (hid a H') ∧ WellAt H' a (r + 21)) (fun H' h Q hQ => ⟨_, rfl, _, rfl, rfl, _, rfl, hQ _ _ h⟩) (fun H' h Q hQ => ⟨_, rfl, _, rfl, _, _, rfl, rfl, _, rfl, hQ _ _ h⟩) (fun _ h => h)) (fun _ h => h)) (and_any (M1 := fun H' => Same (hid a H7) (hid a H') ∧ WellAt H' a (r + 21)) (fun H' h Q hQ => ⟨_, rfl, rfl, _, rfl, hQ _ _ h⟩) (fun H' h Q hQ => ⟨_, rfl, a, 3, r + 20, rfl, h.2, by decide, by decide, fun g H'' _ _ s w => ⟨_, _, rfl, rfl, _, rfl, hQ _ _ ⟨h.1.trans s, w⟩⟩⟩) (fun _ h => ⟨h.1, h.2.mono (by omega)⟩)) (fun _ h => ⟨h.1, h.2.mono (by omega)⟩)
        · have e9 : H9 pl = some (.lst vs) := hid_same _ _ (s9 _ _ (by rw [hid_ne npa]; exact e7))
          refine ⟨_, rfl, .inl ⟨rfl, _, SqL.of e9⟩, _, rfl, _, rfl, _, rfl, _, rfl, a, m, r, rfl, mm1, by omega, w9, fun H10 wa ws nwa s10 w10 ewa lw pw bw => ?_⟩
          refine ⟨by show 3 ≤ sizeLine; decide, fun t2 nt2 => ?_⟩
          have t10 := same_upd (o := .tup [.int (0 + (i : Nat)), .str z, .ref wa]) nt2
          have e11 : (upd H10 t2 (.tup [.int (0 + (i : Nat)), .str z, .ref wa])) pl = some (.lst vs) := t10 _ _ (hid_same _ _ (s10 _ _ (by rw [hid_ne npa]; exact e9)))
          have lv : vs.length < 60 := by
            rw [a7.1]
            have h1 := D7.len
            have h2 : i * zs.length ≤ 11 * zs.length := Nat.mul_le_mul_right _ (by omega)
            rw [ok.len] at h1 h2 hj
            omega
          refine ⟨pl, _, _, rfl, rfl, e11, small1000 (by omega), ?_⟩
          have s711 : Same (hid a H7) (hid a (upd H10 t2 (.tup [.int (0 + (i : Nat)), .str z, .ref wa]))) := s9.trans (s10.trans (hid_mono t10))
          have tt : TS H7 (upd H10 t2 (.tup [.int (0 + (i : Nat)), .str z, .ref wa])) := TS.well w7 s711
          have tl : TS (upd H10 t2 (.tup [.int (0 + (i : Nat)), .str z, .ref wa])) (upd (upd H10 t2 (.tup [.int (0 + (i : Nat)), .str z, .ref wa])) pl (.lst (vs ++ [.ref t2]))) := TS.lst e11
          refine ⟨_, _, rfl, ss ++ [⟨i, z, ws⟩], vs ++ [.ref t2], ?_, ?_, upd_same, ?_, D7.add ok (by omega) hz lw pw bw⟩
          · rw [hid_updN npa]
            exact same_over (s7.trans s711) (by rw [hid_ne npa]; exact npH)
          · rw [← er]
            exact (w10.same t10).upd npa
          · refine AllAre.snoc (a7.imp fun _ _ h => h.ts (tt.trans tl)) ⟨t2, wa, rfl, tl _ _ ?_, tl _ _ (t10 _ _ ewa)⟩
            rw [upd_same, Int.zero_add]
        · refine ⟨_, _, rfl, ss, vs, s7.trans s9, w9.mono (by rw [← er]; omega), hid_same _ _ (s9 _ _ (by rw [hid_ne npa]; exact e7)), a7.imp fun _ _ h => h.ts (TS.well w7 s9), D7.next⟩
      · obtain ⟨z9, z10, rfl, ss, vs, s7, w7, e7, a7, D7⟩ := h
        rw [List.length_map] at w7 D7
        refine ⟨_, _, _, rfl, ss, vs, s7, w7.mono ?_, e7, a7, D7.row⟩
        have : m - i = (m - (i + 1)) + 1 := by omega
        have e2 : (m - i) * zs.length = (m - (i + 1)) * zs.length + zs.length := by rw [this, Nat.add_mul, Nat.one_mul]
        omega
    · obtain ⟨z8, z9, z10, rfl, ss, vs, s7, w7, e7, a7, D7⟩ := h
      rw [Int.toNat_natCast] at w7 D7
      refine ⟨_, rfl, _, rfl, by show 2 ≤ sizeLine; decide, fun t nt => ?_⟩
      have st := same_upd (o := .tup [.int (m : Nat), .ref pl]) nt
      exact q _ t pl m vs ss (s7.trans (hid_mono st)) ((w7.same st).mono (by omega)) mm1 mm2 upd_same (none_back s7 w7 nt) npH (st _ _ e7) (a7.imp fun _ _ h => h.mono st) D7
end

end Fb

namespace Fb
open PySem PySem.Spec PyProof.Rows L2
section
variable {P : Program} {w : World} {K : PySem.W.Frag} {mg : Str → Option Value} {base : Heap}
/-! ### machines as values (the same as in T1, T2, N3, T4, without the trimming) -/
structure MOk (m : Nat) (out : List Stp) : Prop where
  ok : StpsOk m out
  up : Sorted out
  low : ∀ s ∈ out, Fb.low s.ws = s.ws
def IsMach (C : Addr) (H : Hp) (v : V) (m : Nat) (out : List Stp) : Prop := ∃ p dx r svs, v = .ref p ∧ H p = some (.ins C dx (mflds m r)) ∧ H r = some (.lst svs) ∧ AllAre (IsStp H) svs out
theorem IsMach.mono {C : Addr} {H H' : Hp} {v : V} {m : Nat} {out : List Stp} (h : IsMach C H v m out) (s : Same H H') : IsMach C H' v m out := by
  obtain ⟨p, dx, r, svs, e, h1, h2, a⟩ := h
  exact ⟨p, dx, r, svs, e, s _ _ h1, s _ _ h2, a.imp fun _ _ h => h.mono s⟩
theorem mk_mach {C : Addr} {H1 : Hp} {m : Nat} {v : V} {ss : List Stp} {E : XK} {Q : Addr → Hp → Prop} (hv : IsStps H1 v ss) (ok : StpsOk m ss) (q : ∀ H' x out, Same H1 H' → H1 x = none → IsMach C H' (.ref x) m out → SortedOf ss out → Q x H') :
    ∀ x dx, H1 x = none → H1 dx = none → dx ≠ x → spMach C [.ref x, .int m, v] (upd (upd H1 dx (.own x)) x (.ins C dx [])) (fun u H2 => u = .non ∧ Q x H2) E := by
  intro x dx nx nd ne
  have s0 : Same H1 (upd H1 dx (.own x)) := same_upd nd
  have s1 : Same H1 (upd (upd H1 dx (.own x)) x (.ins C dx [])) := s0.trans (same_upd (by rw [upd_ne (Ne.symm ne)]; exact nx))
  refine ⟨x, dx, m, v, ss, rfl, upd_same, hv.mono s1, ok, fun H' r svs out keep hp nr hr av so => ⟨rfl, q H' x out (fun a o e => keep a o (s1 _ _ e) (ne_of_none e nx)) nx ⟨x, dx, r, svs, rfl, hp, hr, av⟩ so⟩⟩
theorem filt_are {α : Type} {R : V → α → Prop} {p : α → Bool} {xs : List α} : ∀ (k : Nat) (ys : List V), k ≤ xs.length → AllAre (fun y (i : Nat) => ∃ s, xs[i]? = some s ∧ R y s) ys ((List.range k).filter fun i => (xs[i]?).any p) → AllAre R ys ((xs.take k).filter p)
  | 0, ys, _, h => by
    have : ys = [] := List.length_eq_zero_iff.mp h.1
    subst this
    exact .nil
  | k + 1, ys, hk, h => by
    have hx : xs[k]? = some xs[k] := List.getElem?_eq_getElem hk
    rw [List.range_succ, List.filter_append] at h
    rw [List.take_add_one, hx, List.filter_append]
    cases hp : p xs[k] with
    | false =>
      rw [List.filter_cons_of_neg (by rw [hx]; show ¬ (p xs[k] = true); rw [hp]; exact Bool.false_ne_true), List.filter_nil, List.append_nil] at h
      have e : ((some xs[k]).toList.filter p) = [] := by simp [hp]
      rw [e, List.append_nil]
      exact filt_are k ys (by omega) h
    | true =>
      rw [List.filter_cons_of_pos (by rw [hx]; exact hp), List.filter_nil] at h
      have e : ((some xs[k]).toList.filter p) = [xs[k]] := by simp [hp]
      rw [e]
      generalize hL : ((List.range k).filter fun i => (xs[i]?).any p) = L at h
      have hl : ys.length = L.length + 1 := by rw [h.1, List.length_append]; rfl
      have h1 := h.take L.length
      rw [List.take_left] at h1
      have h2 : AllAre R (ys.take L.length) ((xs.take k).filter p) := filt_are k _ (by omega) (by rw [hL]; exact h1)
      have hy : ys[L.length]? = some (ys[L.length]'(by omega)) := List.getElem?_eq_getElem (by omega)
      obtain ⟨s, es, rs⟩ := h.2 L.length _ k hy (by rw [List.getElem?_append_right (Nat.le_refl _), Nat.sub_self]; rfl)
      rw [hx] at es
      cases es
      have ey : ys = ys.take L.length ++ [ys[L.length]'(by omega)] := by
        rw [List.take_append_getElem (by omega), List.take_of_length_le (by omega)]
      rw [ey]
      exact h2.snoc rs
theorem IsStp.hid {H : Hp} {a : Addr} {n : Nat} {v : V} {s : Stp} (w : WellAt H a n) (h : IsStp H v s) : IsStp (Fb.hid a H) v s := by
  obtain ⟨t, wa, e, h1, h2⟩ := h
  exact ⟨t, wa, e, hid_keep w h1 (fun _ => nofun), hid_keep w h2 (fun _ => nofun)⟩
theorem stps_ne {H : Hp} {a r : Addr} {n : Nat} {svs : List V} {out : List Stp} (w : WellAt H a n) (h : H r = some (.lst svs)) (av : AllAre (IsStp H) svs out) : r ≠ a := fun z => by
  obtain ⟨w0, w1, w2, ew, _⟩ := w
  rw [z, ew] at h
  cases h
  obtain ⟨x, _, t, wa, e, _⟩ := av.at (i := 0) rfl
  cases e
theorem IsMach.hid {C : Addr} {H : Hp} {a : Addr} {n : Nat} {v : V} {m : Nat} {out : List Stp} (w : WellAt H a n) (h : IsMach C H v m out) : IsMach C (Fb.hid a H) v m out := by
  obtain ⟨p, dx, r, svs, e, h1, h2, av⟩ := h
  exact ⟨p, dx, r, svs, e, hid_keep w h1 (fun _ => nofun), by rw [hid_ne (stps_ne w h2 av)]; exact h2, av.imp fun _ _ h => h.hid w⟩
theorem one_low {ws : List Nat} (h : gcdF 0 ws = 1) : low ws = ws := by
  unfold low
  rw [h]
  have : (fun (x : Nat) => x / 1) = id := by
    funext x
    exact Nat.div_one x
  rw [this, List.map_id]
theorem gcdF_mul (c : Nat) : ∀ (l : List Nat) (g : Nat), gcdF (c * g) (l.map (c * ·)) = c * gcdF g l
  | [], g => rfl
  | n :: l, g => by
    show gcdF (Nat.gcd (c * n) (c * g)) (l.map (c * ·)) = c * gcdF (Nat.gcd n g) l
    rw [Nat.gcd_mul_left, gcdF_mul c l]
theorem low_back (ws : List Nat) : (low ws).map (gcdF 0 ws * ·) = ws := by
  unfold low
  rw [List.map_map]
  conv => rhs; rw [← List.map_id ws]
  exact List.map_congr_left fun n hn => Nat.mul_div_cancel' ((gcdF_dvd ws 0).2 n hn)
theorem low_gcd {ws : List Nat} (pos : ∃ n ∈ ws, 0 < n) : gcdF 0 (low ws) = 1 := by
  have g0 := gcdF_pos (g := 0) pos
  have h := gcdF_mul (gcdF 0 ws) (low ws) 0
  rw [Nat.mul_zero, low_back] at h
  have : gcdF 0 ws * gcdF 0 (low ws) = gcdF 0 ws * 1 := by rw [Nat.mul_one, ← h]
  exact Nat.eq_of_mul_eq_mul_left g0 this
theorem low_wts {m : Nat} {ws : List Nat} (h : WtsOk m ws) : WtsOk m (low ws) := by
  have g0 := gcdF_pos (g := 0) h.pos
  refine ⟨by unfold low; rw [List.length_map]; exact h.len, ?_, fun x hx => ?_⟩
  · obtain ⟨n, hn, n0⟩ := h.pos
    exact ⟨n / gcdF 0 ws, List.mem_map.mpr ⟨n, hn, rfl⟩, Nat.div_pos (Nat.le_of_dvd n0 ((gcdF_dvd ws 0).2 n hn)) g0⟩
  · obtain ⟨n, hn, rfl⟩ := List.mem_map.mp hx
    exact Nat.lt_of_le_of_lt (Nat.div_le_self _ _) (h.bd n hn)
theorem mok_of {m : Nat} {ss out : List Stp} (ok : StpsOk m ss) (so : SortedOf ss out) : MOk m out := by
  have p := so.1
  have key : (ss.map lowS).map Stp.key = ss.map Stp.key := by
    rw [List.map_map]
    rfl
  refine ⟨⟨ok.m1, ok.m12, by rw [p.length_eq, List.length_map]; exact ok.few, fun s hs => ?_, (p.map Stp.key).nodup_iff.mpr (by rw [key]; exact ok.once)⟩, so.2, fun s hs => ?_⟩
  · obtain ⟨s0, h0, rfl⟩ := List.mem_map.mp (p.mem_iff.mp hs)
    have o := ok.all s0 h0
    exact ⟨o.room, o.sign, low_wts o.wts⟩
  · obtain ⟨s0, h0, rfl⟩ := List.mem_map.mp (p.mem_iff.mp hs)
    exact one_low (low_gcd (ok.all s0 h0).wts.pos)
end

end Fb

namespace Fb
open PySem PySem.Spec PyProof.Rows L2
section
variable {P : Program} {w : World} {K : PySem.W.Frag} {mg : Str → Option Value} {base : Heap}
/-! ### steps as data (as in Y4) -/
def stpD (s : Stp) : PyData := .tuple [.int (s.room : Int), .str s.sign, .tuple (s.ws.map fun (n : Nat) => PyData.int (n : Int))]
theorem dpAll_nts {H : Hp} : ∀ ws : List Nat, DpAll K H (nts ws) (ws.map fun (n : Nat) => PyData.int (n : Int))
  | [] => .nil
  | n :: ws => .cons (.int _) (dpAll_nts ws)
theorem dp_stp {H : Hp} {v : V} {s : Stp} (h : IsStp H v s) : Dp K H v (stpD s) := by
  obtain ⟨t, wa, rfl, h1, h2⟩ := h
  exact .tup (.inl (.inl h1)) (.cons (.int _) (.cons (.str _) (.cons (.tup (.inl (.inl h2)) (dpAll_nts s.ws)) .nil)))
theorem dpAll_stps {H : Hp} : ∀ {vs : List V} {ss : List Stp}, AllAre (IsStp H) vs ss → DpAll K H vs (ss.map stpD)
  | [], [], _ => .nil
  | v :: vs, s :: ss, h => .cons (dp_stp (h.2 0 v s rfl rfl)) (dpAll_stps ⟨by simpa using h.1, fun i a b h1 h2 => h.2 (i + 1) a b (by simpa using h1) (by simpa using h2)⟩)
  | [], _ :: _, h => by simp [AllAre] at h
  | _ :: _, [], h => by simp [AllAre] at h
theorem lay_ints : ∀ ws : List Nat, PyData.canLayAll0 (ws.map fun (n : Nat) => PyData.int (n : Int)) = true ∧ PyData.depthAll (ws.map fun (n : Nat) => PyData.int (n : Int)) = 0
  | [] => ⟨rfl, rfl⟩
  | n :: ws => by
    obtain ⟨h1, h2⟩ := lay_ints ws
    constructor
    · simp [PyData.canLayAll0, PyData.canLay0, h1]
    · simp only [List.map_cons, PyData.depthAll, PyData.depth, h2]
      rfl
theorem lay_stp (s : Stp) (hs : PyData.strOk s.sign = true) : PyData.canLay0 (stpD s) = true ∧ PyData.depth (stpD s) ≤ 2 := by
  obtain ⟨h1, h2⟩ := lay_ints s.ws
  constructor
  · simp [stpD, PyData.canLay0, PyData.canLayAll0, h1, hs]
  · simp only [stpD, PyData.depth, PyData.depthAll, h2]
    omega
theorem lay_stps : ∀ ss : List Stp, (∀ s ∈ ss, PyData.strOk s.sign = true) → PyData.canLayAll0 (ss.map stpD) = true ∧ PyData.depthAll (ss.map stpD) ≤ 2
  | [], _ => ⟨rfl, Nat.zero_le _⟩
  | s :: ss, hs => by
    obtain ⟨h1, h2⟩ := lay_stps ss (fun x hx => hs x (List.mem_cons_of_mem _ hx))
    obtain ⟨h3, h4⟩ := lay_stp s (hs s List.mem_cons_self)
    constructor
    · simp [PyData.canLayAll0, h1, h3]
    · simp only [List.map_cons, PyData.depthAll]
      omega
theorem shaped_stps (ss : List Stp) (hs : ∀ s ∈ ss, PyData.strOk s.sign = true) : SeqAt.shaped (.list (ss.map stpD)) = true := by
  obtain ⟨h1, h2⟩ := lay_stps ss hs
  unfold SeqAt.shaped
  rw [Bool.and_eq_true]
  refine ⟨by simp [PyData.canLay0, h1], decide_eq_true ?_⟩
  simp only [PyData.depth]
  omega
theorem nm_strOk {x : Str} (h : NmOk x) : PyData.strOk x = true := by
  show x.cps.all _ = true
  rw [← Array.all_toList, List.all_eq_true]
  intro c hc
  have h1 : ∀ c ∈ letters, decide (c < 0x110000) = true := by decide +kernel
  exact h1 c (h.all c hc)
theorem eqvAll_iff {α : Type} {f : α → PyData} (h : ∀ a b, PyData.eqv (f a) (f b) = true ↔ a = b) : ∀ xs ys : List α, PyData.eqvAll (xs.map f) (ys.map f) = true ↔ xs = ys
  | [], [] => by simp [PyData.eqvAll]
  | [], _ :: _ => by simp [PyData.eqvAll]
  | _ :: _, [] => by simp [PyData.eqvAll]
  | x :: xs, y :: ys => by
    rw [List.map_cons, List.map_cons, PyData.eqvAll, Bool.and_eq_true, h x y, eqvAll_iff h xs ys, List.cons.injEq]
theorem eqv_nat (a b : Nat) : PyData.eqv (.int (a : Int)) (.int (b : Int)) = true ↔ a = b := by
  rw [PyData.eqv, beq_iff_eq]
  omega
theorem eqv_stp (a b : Stp) : PyData.eqv (stpD a) (stpD b) = true ↔ a = b := by
  obtain ⟨r, z, ws⟩ := a
  obtain ⟨r', z', ws'⟩ := b
  have e : PyData.eqv (stpD ⟨r, z, ws⟩) (stpD ⟨r', z', ws'⟩) = (PyData.eqv (.int (r : Int)) (.int (r' : Int)) && (PyData.eqv (.str z) (.str z') && (PyData.eqvAll (ws.map fun (n : Nat) => PyData.int (n : Int)) (ws'.map fun (n : Nat) => PyData.int (n : Int)) && true))) := by
    simp only [stpD, PyData.eqv, PyData.eqvAll]
  rw [e, Bool.and_true, Bool.and_eq_true, Bool.and_eq_true, eqvAll_iff eqv_nat, eqv_nat, PyData.eqv, beq_iff_eq, Stp.mk.injEq]
/-! ### the machine's own == -/
theorem tyMach (T : Txt K mg) {H : Hp} {p dx : Addr} {fs : List (Str × V)} (h : H p = some (.ins T.c_Machine dx fs)) : TyX K H (.ref p) (.ref T.c_Machine) :=
  .base (.ins h T.cl_Machine T.ti_Machine.ha T.ti_Machine.hn T.ti_Machine.htk T.ti_Machine.hm)
def spMEq (K : PySem.W.Frag) (C : Addr) : Sp := fun vs H Q _ => ∃ (v y : V) (m : Nat) (out : List Stp), vs = [v, y] ∧ IsMach C H v m out ∧ MOk m out ∧
  ((∃ m' out' b, IsMach C H y m' out' ∧ MOk m' out' ∧ (b = true ↔ m = m' ∧ out = out') ∧ Q (.bl b) H) ∨ (∃ t, TyX K H y t ∧ PySem.W.kitOne K t (.ref C) = some false) ∧ Q (.bl false) H)
theorem ok_m_Machine_eq (T : Txt K mg) : FnOk P w K mg base CX0 1 T.f_m_Machine_eq T.d_m_Machine_eq ["self", "other"] (spMEq K T.c_Machine) := by
  refine T.F_m_Machine_eq.ok sc_m_Machine_eq (fun vs H Q E h => ?_) (fun cdv A outer s H vs Q E hr h => ?_)
  · obtain ⟨v, y, m, out, rfl, _⟩ := h
    rfl
  · obtain ⟨v, y, m, out, rfl, im, mok, h⟩ := h
    refine ⟨_, (pss_one (ps_ret (pe_and (pe_callB call_isi (by rfl) T.z_isinstance (by decide +kernel) (pa_cons (pv 1) (pa_cons (pe_glob (v := .ref T.c_Machine) (by rfl) T.g_Machine rfl) pa_nil))) (pe_and (pe_cmpR op_eq (pe_fld (pv 0) rfl) (pe_fld (pv 1) rfl) (nomark _)) (pe_one (pe_cmpR (op_eqD hr.units) (pe_fld (pv 0) rfl) (pe_fld (pv 1) rfl) (nomark _))))))), ?_⟩
    obtain ⟨p, dx, r, svs, rfl, hp, hr0, av⟩ := im
    rcases h with ⟨m', out', b, im', mok', hb, q⟩ | ⟨⟨t, ty, kt⟩, q⟩
    · obtain ⟨p', dx', r', svs', rfl, hp', hr', av'⟩ := im'
      have s1 : ∀ s ∈ out, PyData.strOk s.sign = true := fun s hs => nm_strOk (mok.ok.all s hs).sign
      have s2 : ∀ s ∈ out', PyData.strOk s.sign = true := fun s hs => nm_strOk (mok'.ok.all s hs).sign
      refine ⟨_, rfl, _, _, _, _, true, rfl, .own _, tyMach T hp', T.k_Machine, true, rfl, iteT ?_⟩
      refine ⟨_, rfl, p, _, _, _, _, rfl, hp, T.cl_Machine, T.n_Machine_many, mflds_many m r, _, rfl, p', _, _, _, _, rfl, hp', T.cl_Machine, T.n_Machine_many, mflds_many m' r', rfl, _, rfl, ?_⟩
      by_cases h1 : m = m'
      · rw [h1, decide_eq_true rfl]
        refine iteT ?_
        refine ⟨_, rfl, p, _, _, _, _, rfl, hp, T.cl_Machine, T.n_Machine_steps, mflds_steps m r, _, rfl, p', _, _, _, _, rfl, hp', T.cl_Machine, T.n_Machine_steps, mflds_steps m' r', ?_⟩
        refine ⟨_, _, .lst (SqL.of hr0) (dpAll_stps av), .lst (SqL.of hr') (dpAll_stps av'), shaped_stps out s1, shaped_stps out' s2, ?_⟩
        have e : PyData.eqv (.list (out.map stpD)) (.list (out'.map stpD)) = b := by
          rw [Bool.eq_iff_iff, hb, PyData.eqv, eqvAll_iff eqv_stp]
          exact ⟨fun h => ⟨h1, h⟩, fun h => h.2⟩
        rw [e]
        exact q
      · rw [decide_eq_false (fun z => h1 (by have : (m : Int) = (m' : Int) := V.int.inj z; omega))]
        refine iteF ?_
        have e : b = false := by
          cases hb' : b with
          | false => rfl
          | true => exact absurd (hb.mp hb').1 h1
        rw [e] at q
        exact q
    · exact ⟨_, rfl, _, _, _, _, false, rfl, .own _, ty, kt, false, rfl, iteF q⟩
end

end Fb

namespace Fb
open PySem PySem.Spec PyProof.Rows L2
section
/-! ### a text read, as mathematics: each answer, or the number of the word that is amiss -/
def figs : List Nat := ("0123456789" : Str).cps.toList
def figB (z : Str) (most : Nat) : Bool := decide (1 ≤ z.length) && decide (z.length ≤ most) && (z.cps.toList.all fun c => decide (c ∈ figs)) && (decide (z = "0") || decide (z.cps.toList.head? ≠ some 48))
def valW (z : Str) : Nat := NumText.digitsVal z.cps.toList
def numW (z : Str) (most : Nat) : Option Nat := if figB z most = true then some (valW z) else none
def nmB (z : Str) : Bool := decide (1 ≤ z.length) && decide (z.length ≤ 8) && z.cps.toList.all fun c => decide (c ∈ letters)
theorem figs_in {c : Nat} : c ∈ figs ↔ 48 ≤ c ∧ c ≤ 57 := by
  have e0 : figs = [48, 49, 50, 51, 52, 53, 54, 55, 56, 57] := by decide +kernel
  rw [e0]
  simp only [List.mem_cons, List.not_mem_nil, or_false]
  omega
theorem figB_len {z : Str} {k : Nat} (h : figB z k = true) : 1 ≤ z.length ∧ z.length ≤ k ∧ NumText.AllDigits z.cps.toList ∧ (z = "0" ∨ z.cps.toList.head? ≠ some 48) := by
  unfold figB at h
  simp only [Bool.and_eq_true, Bool.or_eq_true, decide_eq_true_eq, List.all_eq_true] at h
  obtain ⟨⟨⟨h1, h2⟩, h3⟩, h4⟩ := h
  exact ⟨h1, h2, fun c hc => figs_in.mp (h3 c hc), h4⟩
theorem figB_of {z : Str} {k : Nat} (h1 : 1 ≤ z.length) (h2 : z.length ≤ k) (h3 : NumText.AllDigits z.cps.toList) (h4 : z = "0" ∨ z.cps.toList.head? ≠ some 48) : figB z k = true := by
  unfold figB
  simp only [Bool.and_eq_true, Bool.or_eq_true, decide_eq_true_eq, List.all_eq_true]
  exact ⟨⟨⟨h1, h2⟩, fun c hc => figs_in.mpr (h3 c hc)⟩, h4⟩
theorem foldv_ge : ∀ (l : List Nat) (a : Nat), a * 10 ^ l.length ≤ l.foldl (fun acc c => acc * 10 + (c - 48)) a
  | [], a => by simp
  | c :: l, a => by
    rw [List.foldl_cons, List.length_cons, Nat.pow_succ]
    have h := foldv_ge l (a * 10 + (c - 48))
    have h2 := Nat.mul_le_mul_right (10 ^ l.length) (show a * 10 ≤ a * 10 + (c - 48) by omega)
    rw [Nat.mul_comm (10 ^ l.length) 10, ← Nat.mul_assoc]
    omega
theorem foldv_lt : ∀ (l : List Nat) (a : Nat), NumText.AllDigits l → l.foldl (fun acc c => acc * 10 + (c - 48)) a < (a + 1) * 10 ^ l.length
  | [], a, _ => by simp
  | c :: l, a, h => by
    rw [List.foldl_cons, List.length_cons, Nat.pow_succ]
    have h1 := foldv_lt l (a * 10 + (c - 48)) h.tail
    have hc := h.head
    have h2 := Nat.mul_le_mul_right (10 ^ l.length) (show a * 10 + (c - 48) + 1 ≤ (a + 1) * 10 by omega)
    rw [Nat.mul_comm (10 ^ l.length) 10, ← Nat.mul_assoc]
    omega
theorem str_len (z : Str) : z.length = z.cps.toList.length := by simp [Str.length]
theorem valW_lt {z : Str} {k : Nat} (h : figB z k = true) : valW z < 10 ^ k := by
  obtain ⟨_, h2, h3, _⟩ := figB_len h
  have := foldv_lt z.cps.toList 0 h3
  rw [Nat.zero_add, Nat.one_mul, ← str_len] at this
  exact Nat.lt_of_lt_of_le this (Nat.pow_le_pow_right (by decide) h2)
/-- a number below a hundred has two figures at most -/
theorem figB_two {z : Str} {k : Nat} (h : figB z k = true) (hv : valW z < 100) : figB z 2 = true := by
  obtain ⟨h1, h2, h3, h4⟩ := figB_len h
  refine figB_of h1 ?_ h3 h4
  rcases h4 with rfl | h4
  · decide
  · rw [str_len] at h1 ⊢
    unfold valW NumText.digitsVal at hv
    cases hl : z.cps.toList with
    | nil => rw [hl] at h1; simp at h1
    | cons c l =>
      rw [hl] at hv h4 h3
      rw [List.foldl_cons, Nat.zero_mul, Nat.zero_add] at hv
      have hc := h3.head
      have c49 : 1 ≤ c - 48 := by
        have : c ≠ 48 := fun e => h4 (by rw [e]; rfl)
        omega
      have g := foldv_ge l (c - 48)
      rw [List.length_cons]
      by_cases ll : l.length ≤ 1
      · omega
      · have p := Nat.pow_le_pow_right (show 1 ≤ 10 by decide) (show 2 ≤ l.length by omega)
        have := Nat.mul_le_mul c49 p
        omega
theorem figB_more {z : Str} {j k : Nat} (h : figB z j = true) (jk : j ≤ k) : figB z k = true := by
  obtain ⟨h1, h2, h3, h4⟩ := figB_len h
  exact figB_of h1 (Nat.le_trans h2 jk) h3 h4
theorem int_of {z : Str} {k : Nat} (h : figB z k = true) (hk : k ≤ 4300) : intText? z = some ((valW z : Nat) : Int) := by
  obtain ⟨h1, h2, h3, h4⟩ := figB_len h
  refine PySem.intText_digits h3 (fun e => ?_) (by omega)
  rw [str_len, e] at h1
  simp at h1
/-! the parts of a text -/
def numAt (ws : List Str) (a : Nat) : Except Nat Nat := match ws[a]? with
  | none => .error ws.length
  | some z => match numW z 100 with
    | none => .error a
    | some n => .ok n
def wtsAt (ws : List Str) : Nat → Nat → Except Nat (List Nat)
  | _, 0 => .ok []
  | a, k + 1 => match numAt ws a with
    | .error e => .error e
    | .ok n => match wtsAt ws (a + 1) k with
      | .error e => .error e
      | .ok l => .ok (n :: l)
def signAt (ws : List Str) (a : Nat) : Except Nat Str := match ws[a]? with
  | none => .error ws.length
  | some z => if nmB z = true then .ok z else .error a
def roomAt (ws : List Str) (m a : Nat) : Except Nat Nat := match numAt ws a with
  | .error e => .error e
  | .ok r => if r < m then .ok r else .error a
def restAt (ws : List Str) (m a : Nat) : Except Nat Stp := match roomAt ws m (a + 1) with
  | .error e => .error e
  | .ok r => match signAt ws (a + 2) with
    | .error e => .error e
    | .ok z => match wtsAt ws (a + 3) m with
      | .error e => .error e
      | .ok l => .ok ⟨r, z, l⟩
def stepAt (ws : List Str) (m a : Nat) : Except Nat Stp := if ws[a]? = some ("/" : Str) then restAt ws m a else .error a
def goodB (last : Option Stp) (s : Stp) : Bool := decide (gcdF 0 s.ws = 1) && (match last with | none => true | some t => rsLt t.key s.key)
def parseF (ws : List Str) (m : Nat) : Nat → Nat → List Stp → Except Nat (List Stp)
  | 0, _, acc => .ok acc
  | f + 1, a, acc => if a < ws.length then match stepAt ws m a with
      | .error e => .error e
      | .ok s => if goodB acc.getLast? s = true then parseF ws m f (a + 3 + m) (acc ++ [s]) else .error (a + 2 + m)
    else .ok acc
def parse (ws : List Str) : Except Nat (Nat × List Stp) := match ws[0]? with
  | none => .error 0
  | some z => match numW z 100 with
    | none => .error 0
    | some m => if 1 ≤ m ∧ m ≤ 12 then (match parseF ws m (ws.length + 1) 1 [] with
        | .error e => .error e
        | .ok l => .ok (m, l)) else .error 0
theorem numAt_lt {ws : List Str} {a n : Nat} (h : numAt ws a = .ok n) : n < 10 ^ 100 := by
  unfold numAt at h
  split at h
  · cases h
  · split at h
    · cases h
    · rename_i z _ k hk
      cases h
      unfold numW at hk
      split at hk
      · rename_i hf
        cases hk
        exact valW_lt hf
      · cases hk
theorem wtsAt_ok {ws : List Str} : ∀ {k a : Nat} {l : List Nat}, wtsAt ws a k = .ok l → l.length = k ∧ ∀ x ∈ l, x < 10 ^ 100
  | 0, a, l, h => by
    cases h
    exact ⟨rfl, fun x hx => by cases hx⟩
  | k + 1, a, l, h => by
    unfold wtsAt at h
    split at h
    · cases h
    · rename_i n hn
      split at h
      · cases h
      · rename_i l' hl
        cases h
        obtain ⟨h1, h2⟩ := wtsAt_ok hl
        refine ⟨by rw [List.length_cons, h1], fun x hx => ?_⟩
        rcases List.mem_cons.mp hx with rfl | hx
        · exact numAt_lt hn
        · exact h2 x hx
theorem numAt_in {ws : List Str} {a n : Nat} (h : numAt ws a = .ok n) : a < ws.length := by
  unfold numAt at h
  split at h
  · cases h
  · rename_i z hz
    exact (List.getElem?_eq_some_iff.mp hz).1
theorem wtsAt_in {ws : List Str} : ∀ {k a : Nat} {l : List Nat}, wtsAt ws a k = .ok l → a ≤ ws.length → a + k ≤ ws.length
  | 0, a, l, _, h => h
  | k + 1, a, l, h, _ => by
    unfold wtsAt at h
    split at h
    · cases h
    · rename_i n hn
      split at h
      · cases h
      · rename_i l' hl
        have := wtsAt_in hl (numAt_in hn)
        omega
theorem stepAt_ok {ws : List Str} {m a : Nat} {s : Stp} (h : stepAt ws m a = .ok s) : s.room < m ∧ nmB s.sign = true ∧ s.ws.length = m ∧ (∀ x ∈ s.ws, x < 10 ^ 100) ∧ a + 3 + m ≤ ws.length := by
  unfold stepAt at h
  split at h
  · unfold restAt at h
    split at h
    · cases h
    · rename_i r hr
      split at h
      · cases h
      · rename_i z hz
        split at h
        · cases h
        · rename_i l hl
          cases h
          obtain ⟨l1, l2⟩ := wtsAt_ok hl
          unfold roomAt at hr
          split at hr
          · cases hr
          · split at hr
            · rename_i lt
              cases hr
              unfold signAt at hz
              split at hz
              · cases hz
              · split at hz
                · rename_i w hw nb
                  cases hz
                  exact ⟨lt, nb, l1, l2, wtsAt_in hl (List.getElem?_eq_some_iff.mp hw).1⟩
                · cases hz
            · cases hr
  · cases h
end

end Fb

namespace Fb
open PySem PySem.Spec PyProof.Rows L2
section
variable {P : Program} {w : World} {K : PySem.W.Frag} {mg : Str → Option Value} {base : Heap}
/-! ### words that may be anything: numbers, names -/
def spFigG : Sp := fun vs H Q _ => ∃ (z : Str) (k : Nat), vs = [.str z, .int k] ∧ k ≤ 200 ∧ z.length ≤ 6000 ∧ ∀ H', Same H H' → Q (.bl (figB z k)) H'
theorem line6 {n : Nat} (h : n ≤ 6000) : n ≤ sizeLine := Nat.le_trans h (by decide)
theorem figB_no {z : Str} {k : Nat} (h : ¬ (1 ≤ z.length ∧ z.length ≤ k)) : figB z k = false := by
  cases e : figB z k with
  | false => rfl
  | true => exact absurd ⟨(figB_len e).1, (figB_len e).2.1⟩ h
theorem figB_is {z : Str} {k : Nat} (h : 1 ≤ z.length ∧ z.length ≤ k) : figB z k = ((z.cps.toList.all fun c => decide (c ∈ figs)) && (decide (z = "0") || decide (z.cps.toList.head? ≠ some 48))) := by
  unfold figB
  rw [decide_eq_true h.1, decide_eq_true h.2, Bool.true_and, Bool.true_and]
theorem ok_p_are_figures (T : Txt K mg) : FnOk P w K mg base CX0 1 T.f_p_are_figures T.d_p_are_figures ["word", "most"] spFigG := by
  refine T.F_p_are_figures.ok sc_p_are_figures (fun vs H Q E h => ?_) (fun cdv A outer s H vs Q E hr h => ?_)
  · obtain ⟨z, k, rfl, _⟩ := h
    rfl
  · obtain ⟨z, k, rfl, k2, lz, q⟩ := h
    refine ⟨_, (pss_cons (ps_if (PW.pt (pw_or (pt_not (pt_chain op_le op_le pe_int (pe_callB call_len_str (by rfl) T.z_len (by decide +kernel) (pa_cons (pv 0) pa_nil)) (pv 1))) (pw_or1 (pt_not (pt_val (pe_callB (cr_all rfl) (by rfl) T.z_all (by decide +kernel) (pa_cons (pe_lc (own := [("figure", 2)]) (g := (gName 2)) (tt := tYes) (by rfl) sc_p_are_figures.nd (pi_str (pv 0)) (blkOk_by (own := [("figure", 2)]) (N := ["word", "most", "figure"]) (sc := defScope s_p_are_figures) (by decide +kernel)) (fun _ _ _ _ _ => by exact (pg_name (i := 2) sc_p_are_figures.nd rfl (.inl rfl))) (fun _ _ _ _ _ => by exact pts_nil) (fun _ _ _ _ _ => by exact (pe_cmpR op_in_sign (pv 2) (pe_glob (by rfl) T.g_FIGURES T.r_FIGURES) (by with_unfolding_all rfl)))) pa_nil)))))))
  (pss_one (ps_ret pe_bl))
  pss_nil)
 (pss_one (ps_ret (pe_or (pe_cmpR op_eq (pv 0) pe_str (nomark _)) (pe_one (pe_cmpR op_ne (pe_ix ix_str (pv 0) pe_int (fun _ _ => rfl)) pe_str (nomark _))))))), ?_⟩
    by_cases l1 : 1 ≤ z.length
    · refine ⟨_, rfl, z, rfl, line6 lz, _, _, rfl, rfl, true, congrArg V.bl (decide_eq_true (by omega)), iteT ?_⟩
      by_cases lk : z.length ≤ k
      · refine ⟨_, rfl, _, _, rfl, rfl, true, congrArg V.bl (decide_eq_true (by omega)), iteF ?_⟩
        have hz : z.cps.size ≤ 200 := Nat.le_trans lk k2
        rw [figB_is ⟨l1, lk⟩] at q
        refine ⟨_, rfl, z, rfl, fun D nD => lc_allW (walk_str (z := z)) (fun i y _ => ∃ c, z.cps[i]? = some c ∧ y = .bl (decide (c ∈ figs))) (fun _ _ _ _ _ h => h) nD (fun _ _ => trivial) (by omega) (fun i v H2 H3 k hi s2 eD y hk => ?_) (fun H2 ys s2 e l r => ?_)⟩
        · obtain ⟨rfl, c, hc, rfl⟩ := y
          exact ⟨rfl, _, rfl, c, _, rfl, rfl, hk _ _ (Same.refl _) ⟨c, hc, rfl⟩⟩
        · have ey : ys = (z.cps.toList.map fun c => decide (c ∈ figs)).map V.bl := by
            refine List.ext_getElem? fun i => ?_
            by_cases hi : i < ys.length
            · obtain ⟨c, hc, hy⟩ := r i _ (List.getElem?_eq_getElem hi)
              rw [← Array.getElem?_toList] at hc
              rw [List.getElem?_eq_getElem hi, hy, List.map_map, List.getElem?_map, hc]
              rfl
            · rw [List.getElem?_eq_none (by omega), List.getElem?_eq_none (by simp; omega)]
          rw [ey] at e
          have s2 := s2.trans hid_same
          refine ⟨D, _, rfl, SqL.of e, _, rfl, ?_⟩
          rw [List.all_map]
          cases ha : z.cps.toList.all (id ∘ fun c => decide (c ∈ figs)) with
          | false =>
            refine iteT ?_
            rw [show (z.cps.toList.all fun c => decide (c ∈ figs)) = false from ha, Bool.false_and] at q
            exact q H2 s2
          | true =>
            refine iteF ?_
            rw [show (z.cps.toList.all fun c => decide (c ∈ figs)) = true from ha, Bool.true_and] at q
            refine ⟨_, rfl, rfl, _, rfl, ?_⟩
            by_cases z0 : z = "0"
            · rw [decide_eq_true (congrArg V.str z0)]
              rw [decide_eq_true z0, Bool.true_or] at q
              exact q H2 s2
            · rw [decide_eq_false (fun e => z0 (V.str.inj e))]
              rw [decide_eq_false z0, Bool.false_or] at q
              obtain ⟨c, cs, hc⟩ : ∃ c cs, z.cps.toList = c :: cs := by
                cases hl : z.cps.toList with
                | nil => rw [str_len, hl] at l1; simp at l1
                | cons c cs => exact ⟨c, cs, rfl⟩
              refine ⟨_, rfl, z, 0, c, rfl, rfl, line6 lz, atI_nat (j := 0) (by rw [hc]; rfl), rfl, ?_⟩
              rw [hc] at q
              have eq1 : (!decide (V.str ⟨#[c]⟩ = V.str "0")) = decide ((c :: cs).head? ≠ some 48) := by
                by_cases c48 : c = 48
                · subst c48
                  have e0 : V.str ⟨#[48]⟩ = V.str "0" := by decide +kernel
                  rw [decide_eq_true e0, decide_eq_false (show ¬ ((48 :: cs).head? ≠ some 48) from fun h => h rfl)]
                  rfl
                · rw [decide_eq_true (show (c :: cs).head? ≠ some 48 from fun e => c48 (Option.some.inj e)), decide_eq_false (fun e => c48 ?_)]
                  · rfl
                  · have := congrArg (fun x : Str => x.cps.toList) (V.str.inj e)
                    have e0 : ("0" : Str).cps.toList = [48] := by decide +kernel
                    rw [e0] at this
                    simpa using this
              rw [eq1]
              exact q H2 s2
      · rw [figB_no (fun e => lk e.2)] at q
        exact ⟨_, rfl, _, _, rfl, rfl, false, congrArg V.bl (decide_eq_false (by omega)), iteT (q H (Same.refl _))⟩
    · rw [figB_no (fun e => l1 e.1)] at q
      exact ⟨_, rfl, z, rfl, line6 lz, _, _, rfl, rfl, false, congrArg V.bl (decide_eq_false (by omega)), iteF ⟨false, rfl, iteT (q H (Same.refl _))⟩⟩
def optN : Option Nat → V
  | none => .non
  | some n => .int n
def spNumG : Sp := fun vs H Q _ => ∃ (z : Str) (k : Nat), vs = [.str z, .int k] ∧ k ≤ 200 ∧ z.length ≤ 6000 ∧ ∀ H', Same H H' → Q (optN (numW z k)) H'
theorem ok_p_number_in (T : Txt K mg) : FnOk P w K mg base CX0 2 T.f_p_number_in T.d_p_number_in ["word", "most"] spNumG := by
  refine T.F_p_number_in.ok sc_p_number_in (fun vs H Q E h => ?_) (fun cdv A outer s H vs Q E hr h => ?_)
  · obtain ⟨z, k, rfl, _⟩ := h
    rfl
  · obtain ⟨z, k, rfl, k2, lz, q⟩ := h
    refine ⟨_, (pss_one (ps_ret (pe_ifExp (pt_val (pe_call (ok_p_are_figures T) (hr.mono (by decide)) (by rfl) T.g_p_are_figures T.F_p_are_figures.kp T.b_p_are_figures .nil pass0 (pa_cons (pv 0) (pa_cons (pv 1) pa_nil)))) (pe_callTy call_int_str (by rfl) T.z_int (by decide +kernel) (pa_cons (pv 0) pa_nil)) pe_non))), ?_⟩
    refine ⟨_, rfl, _, rfl, z, k, rfl, k2, lz, fun H1 s1 => ?_⟩
    unfold numW at q
    cases hf : figB z k with
    | true =>
      rw [if_pos hf] at q
      refine ⟨_, rfl, iteT ⟨_, rfl, z, _, rfl, int_of hf (by omega), ?_, q _ s1⟩⟩
      have := (figB_len hf).2.1
      omega
    | false =>
      rw [if_neg (by rw [hf]; exact Bool.false_ne_true)] at q
      exact ⟨_, rfl, iteF (q _ s1)⟩
def spNameG : Sp := fun vs H Q _ => ∃ z : Str, vs = [.str z] ∧ z.length ≤ 6000 ∧ ∀ H', Same H H' → Q (.bl (nmB z)) H'
theorem ok_p_is_nameG (T : Txt K mg) : FnOk P w K mg base CX0 1 T.f_p_is_name T.d_p_is_name ["thing"] spNameG := by
  refine T.F_p_is_name.ok sc_p_is_name (fun vs H Q E h => ?_) (fun cdv A outer s H vs Q E hr h => ?_)
  · obtain ⟨z, rfl, _⟩ := h
    rfl
  · obtain ⟨x, rfl, lx, q⟩ := h
    refine ⟨_, (pss_cons (ps_if (PW.pt (pw_or (pt_not (pt_val (pe_callB call_isi (by rfl) T.z_isinstance (by decide +kernel) (pa_cons (pv 0) (pa_cons (pe_bltn (v := .ty "str") (by rfl) T.z_str (by decide +kernel) rfl) pa_nil))))) (pw_or1 (pt_not (pt_chain op_le op_le pe_int (pe_callB call_len_str (by rfl) T.z_len (by decide +kernel) (pa_cons (pv 0) pa_nil)) (pe_glob (by rfl) T.g_LONGEST_NAME T.r_LONGEST_NAME))))))
  (pss_one (ps_ret pe_bl))
  pss_nil)
 (pss_one (ps_ret (pe_callB (cr_all rfl) (by rfl) T.z_all (by decide +kernel) (pa_cons (pe_lc (own := [("letter", 1)]) (g := (gName 1)) (tt := tYes) (by rfl) sc_p_is_name.nd (pi_str (pv 0)) (blkOk_by (own := [("letter", 1)]) (N := ["thing", "letter"]) (sc := defScope s_p_is_name) (by decide +kernel)) (fun _ _ _ _ _ => by exact (pg_name (i := 1) sc_p_is_name.nd rfl (.inl rfl))) (fun _ _ _ _ _ => by exact pts_nil) (fun _ _ _ _ _ => by exact (pe_cmpR op_in_sign (pv 1) (pe_glob (by rfl) T.g_LETTERS T.r_LETTERS) (by with_unfolding_all rfl)))) pa_nil))))), ?_⟩
    refine ⟨_, rfl, _, _, _, _, true, rfl, .ty _, .base (.str x), kit_ty (by decide +kernel), true, rfl, iteF ?_⟩
    have ls := line6 lx
    unfold nmB at q
    by_cases l1 : 1 ≤ x.length
    · refine ⟨_, rfl, x, rfl, ls, _, _, rfl, rfl, true, congrArg V.bl (decide_eq_true (by omega)), iteT ?_⟩
      rw [decide_eq_true l1, Bool.true_and] at q
      by_cases l8 : x.length ≤ 8
      · refine ⟨_, _, rfl, rfl, true, congrArg V.bl (decide_eq_true (by omega)), iteF ?_⟩
        rw [decide_eq_true l8, Bool.true_and] at q
        have hz : x.cps.size ≤ 8 := l8
        refine ⟨_, rfl, x, rfl, fun D nD => lc_allW (walk_str (z := x)) (fun i y _ => ∃ c, x.cps[i]? = some c ∧ y = .bl (decide (c ∈ letters))) (fun _ _ _ _ _ h => h) nD (fun _ _ => trivial) (by omega) (fun i v H2 H3 k hi s2 eD y hk => ?_) (fun H2 ys s2 e l r => ?_)⟩
        · obtain ⟨rfl, c, hc, rfl⟩ := y
          exact ⟨rfl, _, rfl, c, _, rfl, rfl, hk _ _ (Same.refl _) ⟨c, hc, rfl⟩⟩
        · have ey : ys = (x.cps.toList.map fun c => decide (c ∈ letters)).map V.bl := by
            refine List.ext_getElem? fun i => ?_
            by_cases hi : i < ys.length
            · obtain ⟨c, hc, hy⟩ := r i _ (List.getElem?_eq_getElem hi)
              rw [← Array.getElem?_toList] at hc
              rw [List.getElem?_eq_getElem hi, hy, List.map_map, List.getElem?_map, hc]
              rfl
            · rw [List.getElem?_eq_none (by omega), List.getElem?_eq_none (by simp; omega)]
          rw [ey] at e
          refine ⟨D, _, rfl, SqL.of e, ?_⟩
          rw [List.all_map]
          exact q H2 (s2.trans hid_same)
      · rw [decide_eq_false l8, Bool.false_and] at q
        exact ⟨_, _, rfl, rfl, false, congrArg V.bl (decide_eq_false (by omega)), iteT (q H (Same.refl _))⟩
    · rw [decide_eq_false l1, Bool.false_and] at q
      exact ⟨_, rfl, x, rfl, ls, _, _, rfl, rfl, false, congrArg V.bl (decide_eq_false (by omega)), iteF ⟨false, rfl, iteT (q H (Same.refl _))⟩⟩
def spRoomG : Sp := fun vs H Q _ => ∃ r m : Nat, vs = [.int r, .int m] ∧ Q (.bl (decide (r < m))) H
theorem ok_p_is_roomG (T : Txt K mg) : FnOk P w K mg base CX0 2 T.f_p_is_room T.d_p_is_room ["thing", "many"] spRoomG := by
  refine T.F_p_is_room.ok sc_p_is_room (fun vs H Q E h => ?_) (fun cdv A outer s H vs Q E hr h => ?_)
  · obtain ⟨r, m, rfl, _⟩ := h
    rfl
  · obtain ⟨r, m, rfl, q⟩ := h
    refine ⟨_, (pss_one (ps_ret (pe_and (pe_call (ok_p_is_whole T) (hr.mono (by decide)) (by rfl) T.g_p_is_whole T.F_p_is_whole.kp T.b_p_is_whole .nil pass0 (pa_cons (pv 0) pa_nil)) (pe_one (pe_chain op_le op_lt pe_int (pv 0) (pv 1)))))), ?_⟩
    refine ⟨_, rfl, r, rfl, true, rfl, iteT ?_⟩
    refine ⟨_, rfl, _, _, rfl, rfl, true, congrArg V.bl (decide_eq_true (by omega)), iteT ⟨_, rfl, _, _, rfl, rfl, ?_⟩⟩
    dsimp only
    rw [show decide ((r : Int) < (m : Int)) = decide (r < m) from decide_eq_decide.mpr Int.ofNat_lt]
    exact q
end

end Fb

namespace Fb
open PySem PySem.Spec PyProof.Rows L2
section
variable {P : Program} {w : World} {K : PySem.W.Frag} {mg : Str → Option Value} {base : Heap}
/-! ### NoText made; words and numbers of a text, or the refusal -/
theorem oexT (T : Txt K mg) : OexC K T.c_NoText := oex_of T.i_NoText_xi T.i_NoText_hd T.i_NoText_sa T.i_NoText_sb T.i_NoText_ty T.i_NoText_kp
theorem xfT (T : Txt K mg) : XfC K T.c_NoText := ⟨T.i_NoText_hg, T.i_NoText_hk, T.i_NoText_sb, T.i_NoText_hd⟩
def spXInit (C : Addr) (f : Str) : Sp := fun vs H Q _ => ∃ (a : Addr) (x : V), vs = [.ref a, x] ∧ H a = some (exo a C none) ∧ ∀ dx, H dx = none → dx ≠ a → Q .non (upd (upd H dx (exd dx [(f, x)])) a (exo a C (some dx)))
theorem ok_m_NoText_init (T : Txt K mg) : FnOk P w K mg base CX0 1 T.f_m_NoText_init T.d_m_NoText_init ["self", "at"] (spXInit T.c_NoText "at") := by
  refine T.F_m_NoText_init.ok sc_m_NoText_init (fun vs H Q E h => ?_) (fun cdv A outer s H vs Q E hr h => ?_)
  · obtain ⟨a, x, rfl, _⟩ := h
    rfl
  · obtain ⟨a, x, rfl, e, q⟩ := h
    refine ⟨_, (pss_one (ps_ost (pv 0) (pv 1))), ?_⟩
    exact ⟨_, rfl, _, rfl, a, T.c_NoText, rfl, oexT T, T.i_NoText_no, .inl ⟨e, fun dx n ne => q dx n ne⟩⟩
/-- C(x), the refusal that is raised -/
theorem mk_oex {C : Addr} {f : Str} {H : Hp} {x : V} {Q : XK} (q : ∀ H' d, Same H H' → H' d = some (.xd [(f, x)]) → Q (.ref C) (some d) H') :
    ([x] : List V).length ≤ 1000 ∧ ∀ a, H a = none → spXInit C f (.ref a :: ([x] ++ [])) (upd H a (exo a C none))
      (fun v H2 => v = .non ∧ ∃ (d : Addr) (fs : List (Str × V)), H2 a = some (exo a C (some d)) ∧ H2 d = some (exd d fs) ∧ H d = none ∧ Q (.ref C) (some d) (upd (del H2 a) d (.xd fs))) (fun _ _ _ => False) := by
  refine ⟨by show 1 ≤ 1000; decide, fun a na => ⟨a, x, rfl, upd_same, fun dx n ne => ⟨rfl, dx, [(f, x)], upd_same, ?_, ?_, ?_⟩⟩⟩
  · rw [upd_ne ne]
    exact upd_same
  · rw [upd_ne ne] at n
    exact n
  · have nd : H dx = none := by
      rw [upd_ne ne] at n
      exact n
    refine q _ dx (fun b o e => ?_) upd_same
    have hb : b ≠ dx := ne_of_none e nd
    have ha : b ≠ a := ne_of_none e na
    rw [upd_ne hb, del_ne ha, upd_ne ha, upd_ne hb, upd_ne ha]
    exact e
/-- the refusal with this number -/
def RefT (N : Addr) (E : XK) (H : Hp) (e : Nat) : Prop := ∀ H' d, Same H H' → H' d = some (.xd [("at", .int (e : Nat))]) → E (.ref N) (some d) H'
theorem RefT.mono {N : Addr} {E : XK} {H H' : Hp} {e : Nat} (h : RefT N E H e) (s : Same H H') : RefT N E H' e := fun H2 d s2 => h H2 d (s.trans s2)
structure WsOk (ws : List Str) : Prop where
  few : ws.length ≤ 900
  lens : ∀ z ∈ ws, z.length ≤ 6000
def spWordX (N : Addr) : Sp := fun vs H Q E => ∃ (p : Addr) (ws : List Str) (n : Nat), vs = [.ref p, .int n] ∧ H p = some (.lst (ws.map V.str)) ∧ WsOk ws ∧ (∀ z, ws[n]? = some z → Q (.str z) H) ∧ (ws[n]? = none → RefT N E H ws.length)
theorem ok_p_word_at (T : Txt K mg) : FnOk P w K mg base (L2.CX P w) 3 T.f_p_word_at T.d_p_word_at ["words", "at"] (spWordX T.c_NoText) := by
  refine T.F_p_word_at.okX sc_p_word_at (fun vs H Q E h => ?_) (fun cdv A outer s H vs Q E hr h => ?_)
  · obtain ⟨p, ws, n, rfl, _⟩ := h
    rfl
  · obtain ⟨p, ws, n, rfl, hp, wo, q, qe⟩ := h
    refine ⟨_, (pss_cons (ps_if (pt_cmpR op_ge (pv 1) (pe_callB call_len_seq (by rfl) T.z_len (by decide +kernel) (pa_cons (pv 0) pa_nil)) (nomark _))
  (pss_one (ps_raise rfl (takes_of rfl rfl rfl rfl) (pmk_oex (oexT T) T.i_NoText_in T.i_NoText_tf (ok_m_NoText_init T) (hr.mono (by decide)) T.b_m_NoText_init .nil pass0 (by rfl) T.g_NoText (pa_cons (pe_callB call_len_seq (by rfl) T.z_len (by decide +kernel) (pa_cons (pv 0) pa_nil)) pa_nil))))
  pss_nil)
 (pss_one (ps_ret (pe_ix ix_list (pv 0) (pv 1) (fun _ _ => rfl))))), ?_⟩
    refine ⟨_, rfl, _, rfl, p, _, rfl, .inl (SqL.of hp), _, _, rfl, rfl, _, rfl, ?_⟩
    cases hz : ws[n]? with
    | none =>
      have nl := List.getElem?_eq_none_iff.mp hz
      rw [decide_eq_true (by rw [List.length_map]; omega)]
      refine iteT ⟨_, rfl, p, _, rfl, .inl (SqL.of hp), ?_⟩
      rw [List.length_map]
      exact mk_oex (qe hz)
    | some z =>
      have nl := (List.getElem?_eq_some_iff.mp hz).1
      rw [decide_eq_false (by rw [List.length_map]; omega)]
      refine iteF ?_
      exact ⟨_, rfl, _, rfl, p, _, _, _, rfl, rfl, SqL.of hp, atI_nat (by rw [List.getElem?_map, hz]; rfl), q z hz⟩
def spNumX (N : Addr) : Sp := fun vs H Q E => ∃ (p : Addr) (ws : List Str) (n : Nat), vs = [.ref p, .int n] ∧ H p = some (.lst (ws.map V.str)) ∧ WsOk ws ∧ (∀ k H', numAt ws n = .ok k → Same H H' → Q (.int (k : Nat)) H') ∧ (∀ e, numAt ws n = .error e → RefT N E H e)
theorem ok_p_number_at (T : Txt K mg) : FnOk P w K mg base (L2.CX P w) 4 T.f_p_number_at T.d_p_number_at ["words", "at"] (spNumX T.c_NoText) := by
  refine T.F_p_number_at.okX sc_p_number_at (fun vs H Q E h => ?_) (fun cdv A outer s H vs Q E hr h => ?_)
  · obtain ⟨p, ws, n, rfl, _⟩ := h
    rfl
  · obtain ⟨p, ws, n, rfl, hp, wo, q, qe⟩ := h
    refine ⟨_, (pss_cons (ps_set (i := 2) sc_p_number_at.nd rfl (.inl rfl) (pe_call (ok_p_number_in T) (hr.mono (by decide)) (by rfl) T.g_p_number_in T.F_p_number_in.kp T.b_p_number_in .nil pass0 (pa_cons (pe_call (ok_p_word_at T) (hr.mono (by decide)) (by rfl) T.g_p_word_at T.F_p_word_at.kp T.b_p_word_at .nil (passes_call (takes_of (E := E) rfl rfl rfl rfl) fun _ _ _ _ h => h) (pa_cons (pv 0) (pa_cons (pv 1) pa_nil))) (pa_cons (pe_glob (by rfl) T.g_MOST_FIGURES T.r_MOST_FIGURES) pa_nil))))
 (pss_cons (ps_if (pt_cmpR op_isN (pv 2) pe_non (nomark _))
  (pss_one (ps_raise rfl (takes_of rfl rfl rfl rfl) (pmk_oex (oexT T) T.i_NoText_in T.i_NoText_tf (ok_m_NoText_init T) (hr.mono (by decide)) T.b_m_NoText_init .nil pass0 (by rfl) T.g_NoText (pa_cons (pv 1) pa_nil))))
  pss_nil)
 (pss_one (ps_ret (pv 2))))), ?_⟩
    refine ⟨_, rfl, _, rfl, p, ws, n, rfl, hp, wo, fun z hz => ?_, fun hz => qe _ (by unfold numAt; rw [hz])⟩
    refine ⟨z, 100, rfl, by decide, wo.lens z (List.mem_of_getElem? hz), fun H1 s1 => ?_⟩
    cases hn : numW z 100 with
    | none =>
      have hn' : numAt ws n = .error n := by unfold numAt; rw [hz]; simp only [hn]
      refine ⟨_, rfl, rfl, _, rfl, iteT ?_⟩
      exact ⟨_, rfl, mk_oex ((qe n hn').mono s1)⟩
    | some k =>
      have hn' : numAt ws n = .ok k := by unfold numAt; rw [hz]; simp only [hn]
      exact ⟨_, rfl, rfl, _, rfl, iteF ⟨_, rfl, q k _ hn' s1⟩⟩
end

end Fb

namespace Fb
open PySem PySem.Spec PyProof.Rows L2
section
variable {J : It} {n : Nat} {G : Hp → Prop} {Y : Nat → Hp → V → Hp → Prop}
/-- [e for .. in ..] that only makes, over any walk; at each turn all ahead of it are made -/
theorem lc_allP (w : Walk J n G Y) {g : TG} {te : TE} {vs : List Nat} {σ : L2.St} {H1 : Hp} {D : Addr} {Qd : Hp → Prop} (R : Nat → V → Prop)
    (hD : H1 D = none) (hS : ∀ H, Same H1 H → G H) (hz : n ≤ 1000)
    (hs : ∀ i x H H' (k : V → Hp → Prop), i < n → (∀ j, j < i → ∃ y, R j y) → Same H1 (hid D H) → Y i H x H' → (∀ y H4, Same H H4 → R i y → k y H4) → g x (wipe σ vs) H' fun σ2 H2 => wipe σ2 vs = wipe σ vs ∧ te σ2 H2 k)
    (hd : ∀ H ys, Same H1 (hid D H) → H D = some (.lst ys) → ys.length = n → (∀ (i : Nat) y, ys[i]? = some y → R i y) → Qd H) :
    ∃ W : Nat → Nat → Hp → Prop, (∃ m, W 0 m (upd H1 D (.lst []))) ∧ ∀ i m H, W i m H →
      (J.stop i H ∧ Qd H) ∨ (J.go i H ∧ ∃ Nx : Hp → Prop, (∀ H', Nx H' → ∃ m', m' < m ∧ W (i + 1) m' H') ∧ ∀ x H', J.yld i H x H' → g x (wipe σ vs) H' fun σ2 H2 => wipe σ2 vs = wipe σ vs ∧ tYes σ2 H2 fun b H3 =>
        if b = true then te σ2 H3 fun y H4 => ∃ acc, H4 D = some (.lst acc) ∧ acc.length < sizeLine ∧ Nx (upd H4 D (.lst (acc ++ [y]))) else Nx H3) := by
  refine lc_it w (fun i H => ∃ ys, Same H1 (hid D H) ∧ H D = some (.lst ys) ∧ ys.length = i ∧ ∀ (j : Nat) y, ys[j]? = some y → R j y) ⟨[], ?_, upd_same, rfl, fun j y h => by simp at h⟩ (fun i H _ h => ?_) (fun i x H H' hi h y => ?_) (fun H h => ?_)
  · intro b o e
    rw [hid_ne (ne_of_none e hD), upd_ne (ne_of_none e hD)]
    exact e
  · obtain ⟨ys, s, _⟩ := h
    exact hS H (s.trans hid_same)
  · obtain ⟨ys, s, e, l, r⟩ := h
    refine hs i x H H' (fun y H4 => ∃ acc, H4 D = some (.lst acc) ∧ acc.length < sizeLine ∧ ∃ ys, Same H1 (hid D (upd H4 D (.lst (acc ++ [y])))) ∧ (upd H4 D (.lst (acc ++ [y]))) D = some (.lst ys) ∧ ys.length = i + 1 ∧ ∀ (j : Nat) y', ys[j]? = some y' → R j y') hi (fun j hj => ⟨_, r j _ (List.getElem?_eq_getElem (by omega))⟩) s y fun y H4 s4 ry => ?_
    refine ⟨ys, s4 _ _ e, small1000 (by omega), ys ++ [y], ?_, upd_same, by simp [l], fun j y' h => ?_⟩
    · rw [hid_upd]
      exact s.trans (hid_mono s4)
    · by_cases hj : j < ys.length
      · rw [List.getElem?_append_left hj] at h
        exact r j y' h
      · rw [List.getElem?_append_right (by omega)] at h
        have hj2 : j - ys.length = 0 := by
          have := (List.getElem?_eq_some_iff.mp h).1
          simp at this
          omega
        rw [hj2] at h
        simp at h
        subst h
        have : j = i := by omega
        rw [this]
        exact ry
  · obtain ⟨ys, s, e, l, r⟩ := h
    exact hd H ys s e l r
end
section
variable {P : Program} {w : World} {K : PySem.W.Frag} {mg : Str → Option Value} {base : Heap}
/-! ### a step read, or the refusal -/
theorem wts_err {ws : List Str} {e : Nat} : ∀ {m a i : Nat}, i < m → (∀ j, j < i → ∃ k, numAt ws (a + j) = .ok k) → numAt ws (a + i) = .error e → wtsAt ws a m = .error e
  | 0, a, i, h, _, _ => absurd h (Nat.not_lt_zero _)
  | m + 1, a, 0, _, _, h => by
    unfold wtsAt
    rw [show numAt ws a = .error e from h]
  | m + 1, a, i + 1, hi, hj, h => by
    obtain ⟨k, hk⟩ := hj 0 (Nat.succ_pos _)
    have r := wts_err (m := m) (a := a + 1) (i := i) (by omega) (fun j hj' => by
      obtain ⟨k', hk'⟩ := hj (j + 1) (by omega)
      exact ⟨k', by rw [show a + 1 + j = a + (j + 1) by omega]; exact hk'⟩) (by rw [show a + 1 + i = a + (i + 1) by omega]; exact h)
    unfold wtsAt
    rw [show numAt ws a = .ok k from hk]
    simp only [r]
theorem wts_all {ws : List Str} : ∀ {l : List Nat} {a : Nat}, (∀ (j k : Nat), l[j]? = some k → numAt ws (a + j) = .ok k) → wtsAt ws a l.length = .ok l
  | [], a, _ => rfl
  | n :: l, a, h => by
    have h0 : numAt ws a = .ok n := h 0 n rfl
    have r := wts_all (l := l) (a := a + 1) fun j k hk => by
      rw [show a + 1 + j = a + (j + 1) by omega]
      exact h (j + 1) k (by rw [List.getElem?_cons_succ]; exact hk)
    rw [List.length_cons]
    unfold wtsAt
    rw [h0]
    simp only [r]
theorem nats_of {R : Nat → Nat → Prop} : ∀ {ys : List V}, (∀ (i : Nat) (y : V), ys[i]? = some y → ∃ k : Nat, R i k ∧ y = .int (k : Nat)) → ∃ l : List Nat, ys = nts l ∧ ∀ (i k : Nat), l[i]? = some k → R i k := by
  intro ys
  induction ys generalizing R with
  | nil => exact fun _ => ⟨[], rfl, fun i b h => by cases h⟩
  | cons y ys ih =>
    intro r
    obtain ⟨b, h0, rfl⟩ := r 0 y rfl
    obtain ⟨bs, rfl, h1⟩ := ih (R := fun i b => R (i + 1) b) fun i y h => r (i + 1) y (by rw [List.getElem?_cons_succ]; exact h)
    refine ⟨b :: bs, rfl, fun i c h => ?_⟩
    cases i with
    | zero => cases h; exact h0
    | succ i => exact h1 i c (by rw [List.getElem?_cons_succ] at h; exact h)
def spStepX (N : Addr) : Sp := fun vs H Q E => ∃ (p : Addr) (ws : List Str) (n m : Nat), vs = [.ref p, .int n, .int m] ∧ H p = some (.lst (ws.map V.str)) ∧ WsOk ws ∧ n < ws.length ∧ m ≤ 12 ∧
  (∀ st H' v, stepAt ws m n = .ok st → Same H H' → IsStp H' v st → Q v H') ∧ (∀ e, stepAt ws m n = .error e → RefT N E H e)
theorem ok_p_read_step (T : Txt K mg) : FnOk P w K mg base (L2.CX P w) 5 T.f_p_read_step T.d_p_read_step ["words", "at", "many"] (spStepX T.c_NoText) := by
  refine T.F_p_read_step.okX sc_p_read_step (fun vs H Q E h => ?_) (fun cdv A outer s H vs Q E hr h => ?_)
  · obtain ⟨p, ws, n, m, rfl, _⟩ := h
    rfl
  · obtain ⟨p, ws, n, m, rfl, hp, wo, nl, m12, q, qe⟩ := h
    refine ⟨_, (pss_cons (ps_if (pt_cmpR op_ne (pe_ix ix_list (pv 0) (pv 1) (fun _ _ => rfl)) (pe_glob (by rfl) T.g_BREAK T.r_BREAK) (nomark _))
  (pss_one (ps_raise rfl (takes_of rfl rfl rfl rfl) (pmk_oex (oexT T) T.i_NoText_in T.i_NoText_tf (ok_m_NoText_init T) (hr.mono (by decide)) T.b_m_NoText_init .nil pass0 (by rfl) T.g_NoText (pa_cons (pv 1) pa_nil))))
  pss_nil)
 (pss_cons (ps_set (i := 3) sc_p_read_step.nd rfl (.inl rfl) (pe_call (ok_p_number_at T) (hr.mono (by decide)) (by rfl) T.g_p_number_at T.F_p_number_at.kp T.b_p_number_at .nil (passes_call (takes_of (E := E) rfl rfl rfl rfl) fun _ _ _ _ h => h) (pa_cons (pv 0) (pa_cons (pe_op op_add (pv 1) pe_int) pa_nil))))
 (pss_cons (ps_if (pt_not (pt_val (pe_call (ok_p_is_roomG T) (hr.mono (by decide)) (by rfl) T.g_p_is_room T.F_p_is_room.kp T.b_p_is_room .nil pass0 (pa_cons (pv 3) (pa_cons (pv 2) pa_nil)))))
  (pss_one (ps_raise rfl (takes_of rfl rfl rfl rfl) (pmk_oex (oexT T) T.i_NoText_in T.i_NoText_tf (ok_m_NoText_init T) (hr.mono (by decide)) T.b_m_NoText_init .nil pass0 (by rfl) T.g_NoText (pa_cons (pe_op op_add (pv 1) pe_int) pa_nil))))
  pss_nil)
 (pss_cons (ps_set (i := 4) sc_p_read_step.nd rfl (.inl rfl) (pe_call (ok_p_word_at T) (hr.mono (by decide)) (by rfl) T.g_p_word_at T.F_p_word_at.kp T.b_p_word_at .nil (passes_call (takes_of (E := E) rfl rfl rfl rfl) fun _ _ _ _ h => h) (pa_cons (pv 0) (pa_cons (pe_op op_add (pv 1) pe_int) pa_nil))))
 (pss_cons (ps_if (pt_not (pt_val (pe_call (ok_p_is_nameG T) (hr.mono (by decide)) (by rfl) T.g_p_is_name T.F_p_is_name.kp T.b_p_is_name .nil pass0 (pa_cons (pv 4) pa_nil))))
  (pss_one (ps_raise rfl (takes_of rfl rfl rfl rfl) (pmk_oex (oexT T) T.i_NoText_in T.i_NoText_tf (ok_m_NoText_init T) (hr.mono (by decide)) T.b_m_NoText_init .nil pass0 (by rfl) T.g_NoText (pa_cons (pe_op op_add (pv 1) pe_int) pa_nil))))
  pss_nil)
 (pss_one (ps_ret (pe_tup (pa_cons (pv 3) (pa_cons (pv 4) (pa_cons (pe_callTy call_tuple_of (by rfl) T.z_tuple (by decide +kernel) (pa_cons (pe_lcX (E := E) (own := [("to", 5)]) (g := (gName 5)) (tt := tYes) (takes_of (E := E) rfl rfl rfl rfl) (fun _ _ _ _ h => h) rfl rfl (by rfl) sc_p_read_step.nd (pi_range1 (by rfl) T.z_range (pa_cons (pv 2) pa_nil)) (blkOk_by (own := [("to", 5)]) (N := ["words", "at", "many", "room", "sign", "to"]) (sc := defScope s_p_read_step) (by decide +kernel)) (fun _ _ _ _ _ => by exact (pg_name (i := 5) sc_p_read_step.nd rfl (.inl rfl))) (fun _ _ _ _ _ => by exact pts_nil) (fun _ _ _ _ _ _ => by exact (pe_call (ok_p_number_at T) (hr.mono (by decide)) (by rfl) T.g_p_number_at T.F_p_number_at.kp T.b_p_number_at .nil passes_blk (pa_cons (pv 0) (pa_cons (pe_op op_add (pe_op op_add (pv 1) pe_int) (pv 5)) pa_nil))))) pa_nil)) pa_nil))))))))))), ?_⟩
    have z0 : ws[n]? = some (ws[n]'nl) := List.getElem?_eq_getElem nl
    refine ⟨_, rfl, _, rfl, p, _, _, _, rfl, rfl, SqL.of hp, atI_nat (by rw [List.getElem?_map, z0]; rfl), rfl, _, rfl, ?_⟩
    by_cases hb : ws[n]? = some ("/" : Str)
    · have hb' : ws[n]'nl = "/" := Option.some.inj (z0.symm.trans hb)
      have eqR : ∀ x, restAt ws m n = x → stepAt ws m n = x := fun x h => by
        unfold stepAt
        rw [if_pos hb]
        exact h
      rw [hb', show (!decide (V.str "/" = V.str "/")) = false by rw [decide_eq_true rfl]; rfl]
      refine iteF ?_
      refine ⟨_, rfl, _, rfl, _, _, rfl, rfl, ?_⟩
      dsimp only
      refine ⟨p, ws, n + 1, rfl, hp, wo, fun k H1 hk s1 => ?_, fun e he => qe e (eqR _ (by simp only [restAt, roomAt, he]))⟩
      refine ⟨_, rfl, _, rfl, k, m, rfl, _, rfl, ?_⟩
      by_cases km : k < m
      · have hroom : roomAt ws m (n + 1) = .ok k := by unfold roomAt; simp only [hk, if_pos km]
        rw [decide_eq_true km]
        refine iteF ?_
        refine ⟨_, rfl, _, rfl, _, _, rfl, rfl, ?_⟩
        dsimp only
        refine ⟨p, ws, n + 2, rfl, s1 _ _ hp, wo, fun z hz => ?_, fun hz => (qe _ (eqR _ (by simp only [restAt, hroom, signAt, hz]))).mono s1⟩
        refine ⟨_, rfl, z, rfl, wo.lens z (List.mem_of_getElem? hz), fun H2 s2 => ⟨_, rfl, ?_⟩⟩
        have s12 := s1.trans s2
        by_cases nb : nmB z = true
        · have hsign : signAt ws (n + 2) = .ok z := by unfold signAt; simp only [hz, if_pos nb]
          rw [nb]
          refine iteF ?_
          refine ⟨_, rfl, _, rfl, _, rfl, m, rfl, by omega, by omega, fun D nD => lc_allP (walk_range (lo := 0) (n := (m : Int).toNat)) (fun i y => ∃ k, numAt ws (n + 3 + i) = .ok k ∧ y = .int (k : Nat)) nD (fun _ _ => trivial) (by rw [Int.toNat_natCast]; omega) (fun i v H5 H6 kk hi hj s5 y hk => ?_) (fun H5 ys s5 e5 l5 r5 => ?_)⟩
          · obtain ⟨rfl, rfl⟩ := y
            rw [Int.toNat_natCast] at hi
            refine ⟨rfl, _, rfl, _, rfl, _, _, rfl, rfl, _, rfl, _, _, rfl, rfl, ?_⟩
            dsimp only
            rw [show (n : Int) + 3 + (0 + (i : Int)) = ((n + 3 + i : Nat) : Int) by omega]
            have s15 := s12.trans (s5.trans hid_same)
            refine ⟨p, ws, n + 3 + i, rfl, s15 _ _ hp, wo, fun k' H7 hk' s7 => hk _ _ s7 ⟨k', hk', rfl⟩, fun e he => (qe e (eqR _ ?_)).mono s15⟩
            have hw := wts_err (ws := ws) (e := e) (m := m) (a := n + 3) (i := i) hi (fun j hj' => by
              obtain ⟨y, k', hk', _⟩ := hj j hj'
              exact ⟨k', hk'⟩) he
            simp only [restAt, hroom, hsign, hw]
          · have s5 := s12.trans (s5.trans hid_same)
            obtain ⟨l, rfl, hl⟩ : ∃ l : List Nat, ys = nts l ∧ ∀ (j k : Nat), l[j]? = some k → numAt ws (n + 3 + j) = .ok k := nats_of (R := fun j k => numAt ws (n + 3 + j) = .ok k) r5
            have hw : wtsAt ws (n + 3) m = .ok l := by
              have := wts_all (ws := ws) (l := l) (a := n + 3) hl
              rw [nts_len, Int.toNat_natCast] at l5
              rw [← l5]
              exact this
            refine ⟨D, _, rfl, .inl ⟨SqL.of e5, fun wa nwa => ?_⟩⟩
            have x6 := same_upd (o := .tup (nts l)) nwa
            have e6 : (upd H5 wa (.tup (nts l))) wa = some (.tup (nts l)) := upd_same
            generalize upd H5 wa (.tup (nts l)) = H6 at *
            refine ⟨by show 3 ≤ sizeLine; decide, fun t nt => ?_⟩
            have x7 := same_upd (o := .tup [.int (k : Nat), .str z, .ref wa]) nt
            exact q ⟨k, z, l⟩ _ _ (eqR _ (by simp only [restAt, hroom, hsign, hw])) (s5.trans (x6.trans x7)) ⟨t, wa, rfl, upd_same, x7 _ _ e6⟩
        · rw [Bool.not_eq_true] at nb
          rw [nb]
          refine iteT ⟨_, rfl, _, _, rfl, rfl, ?_⟩
          exact mk_oex ((qe (n + 2) (eqR _ (by simp only [restAt, hroom, signAt, hz, nb, Bool.false_eq_true, if_false]))).mono s12)
      · rw [decide_eq_false km]
        refine iteT ⟨_, rfl, _, _, rfl, rfl, ?_⟩
        exact mk_oex ((qe (n + 1) (eqR _ (by simp only [restAt, roomAt, hk, if_neg km]))).mono s1)
    · have hb' : V.str (ws[n]'nl) ≠ V.str "/" := fun e => hb (by rw [z0, V.str.inj e])
      rw [show (!decide (V.str (ws[n]'nl) = V.str "/")) = true by rw [decide_eq_false hb']; rfl]
      refine iteT ⟨_, rfl, mk_oex (qe n ?_)⟩
      unfold stepAt
      rw [if_neg hb]
end

end Fb

namespace Fb
open PySem PySem.Spec PyProof.Rows L2
section
variable {P : Program} {w : World} {K : PySem.W.Frag} {mg : Str → Option Value} {base : Heap}
/-! ### weights of any kind; what stands behind; what is lowest -/
theorem gcdF_none : ∀ {l : List Nat}, (∀ n ∈ l, n = 0) → gcdF 0 l = 0
  | [], _ => rfl
  | n :: l, h => by
    have h0 := h n List.mem_cons_self
    subst h0
    exact gcdF_none (l := l) fun k hk => h k (List.mem_cons_of_mem _ hk)
theorem low_one {ws : List Nat} (h : low ws = ws) (pos : ∃ n ∈ ws, 0 < n) : gcdF 0 ws = 1 := by
  obtain ⟨n, hn, n0⟩ := pos
  have g0 := gcdF_pos (g := 0) ⟨n, hn, n0⟩
  obtain ⟨i, hi⟩ := List.getElem?_of_mem hn
  have h2 : (low ws)[i]? = some (n / gcdF 0 ws) := by
    unfold low
    rw [List.getElem?_map, hi]
    rfl
  rw [h, hi] at h2
  have e := Option.some.inj h2
  by_cases h1 : gcdF 0 ws = 1
  · exact h1
  · have := Nat.div_lt_self n0 (show 1 < gcdF 0 ws by omega)
    omega
def spWtsG : Sp := fun vs H Q _ => ∃ (wa : Addr) (m : Nat) (ws : List Nat), vs = [.ref wa, .int m] ∧ H wa = some (.tup (nts ws)) ∧ ws.length = m ∧ m ≤ 12 ∧ ∀ H', Same H H' → Q (.bl (ws.any fun n => decide (0 < n))) H'
theorem ok_p_are_weightsG (T : Txt K mg) : FnOk P w K mg base CX0 2 T.f_p_are_weights T.d_p_are_weights ["thing", "many"] spWtsG := by
  refine T.F_p_are_weights.ok sc_p_are_weights (fun vs H Q E h => ?_) (fun cdv A outer s H vs Q E hr h => ?_)
  · obtain ⟨wa, m, ws, rfl, _⟩ := h
    rfl
  · obtain ⟨wa, m, ws, rfl, hw, lm, m12, q⟩ := h
    refine ⟨_, (pss_cons (ps_if (PW.pt (pw_or (pt_not (pt_val (pe_callB call_isi (by rfl) T.z_isinstance (by decide +kernel) (pa_cons (pv 0) (pa_cons (pe_bltn (v := .ty "tuple") (by rfl) T.z_tuple (by decide +kernel) rfl) pa_nil))))) (pw_or1 (pt_cmpR op_ne (pe_callB call_len_seq (by rfl) T.z_len (by decide +kernel) (pa_cons (pv 0) pa_nil)) (pv 1) (nomark _)))))
  (pss_one (ps_ret pe_bl))
  pss_nil)
 (pss_one (ps_ret (pe_and (pe_callB (cr_all rfl) (by rfl) T.z_all (by decide +kernel) (pa_cons (pe_lc (own := [("weight", 2)]) (g := (gName 2)) (tt := tYes) (by rfl) sc_p_are_weights.nd (pi_tup (pv 0)) (blkOk_by (own := [("weight", 2)]) (N := ["thing", "many", "weight"]) (sc := defScope s_p_are_weights) (by decide +kernel)) (fun _ _ _ _ _ => by exact (pg_name (i := 2) sc_p_are_weights.nd rfl (.inl rfl))) (fun _ _ _ _ _ => by exact pts_nil) (fun _ _ _ _ _ => by exact (pe_and (pe_call (ok_p_is_whole T) (hr.mono (by decide)) (by rfl) T.g_p_is_whole T.F_p_is_whole.kp T.b_p_is_whole .nil pass0 (pa_cons (pv 2) pa_nil)) (pe_one (pe_cmpR op_ge (pv 2) pe_int (nomark _)))))) pa_nil)) (pe_one (pe_callB (cr_any rfl) (by rfl) T.z_any (by decide +kernel) (pa_cons (pe_lc (own := [("weight", 2)]) (g := (gName 2)) (tt := tYes) (by rfl) sc_p_are_weights.nd (pi_tup (pv 0)) (blkOk_by (own := [("weight", 2)]) (N := ["thing", "many", "weight"]) (sc := defScope s_p_are_weights) (by decide +kernel)) (fun _ _ _ _ _ => by exact (pg_name (i := 2) sc_p_are_weights.nd rfl (.inl rfl))) (fun _ _ _ _ _ => by exact pts_nil) (fun _ _ _ _ _ => by exact (pe_cmpR op_gt (pv 2) pe_int (nomark _)))) pa_nil))))))), ?_⟩
    have lw : (nts ws).length = m := by rw [List.length_map]; exact lm
    refine ⟨_, rfl, _, _, _, _, true, rfl, .ty _, .base (.tup hw), kit_ty (by decide +kernel), true, rfl, iteF ?_⟩
    refine ⟨_, rfl, wa, _, rfl, .inr (.inl (.inl hw)), _, rfl, rfl, _, rfl, ?_⟩
    rw [lw, decide_eq_true rfl]
    refine iteF ?_
    refine ⟨_, rfl, wa, rfl, ⟨_, .inl (.inl hw)⟩, fun D nD => lc_allW (walk_tup (K := K) (a := wa) (xs := nts ws)) (fun _ y _ => y = .bl true) (fun _ _ _ _ _ h => h) nD (fun H' s => .inl (.inl (s _ _ hw))) (by omega) (fun i v H2 H3 k hi s2 eD y hk => ?_) (fun H2 ys s2 e l r => ?_)⟩
    · obtain ⟨rfl, hv⟩ := y
      rw [List.getElem?_map] at hv
      obtain ⟨n, hn, rfl⟩ := Option.map_eq_some_iff.mp hv
      exact ⟨rfl, _, rfl, (n : Int), rfl, true, rfl, iteT ⟨_, rfl, _, _, rfl, rfl, hk _ _ (Same.refl _) (congrArg V.bl (decide_eq_true (by omega)))⟩⟩
    · rw [trues l r] at e
      refine ⟨D, _, rfl, SqL.of e, true, by rw [all_trues], iteT ?_⟩
      have s12 : Same H H2 := s2.trans hid_same
      have hw2 := s12 _ _ hw
      refine ⟨_, rfl, wa, rfl, ⟨_, .inl (.inl hw2)⟩, fun D2 nD2 => lc_allW (walk_tup (K := K) (a := wa) (xs := nts ws)) (fun i y _ => ∃ n, ws[i]? = some n ∧ y = .bl (decide (0 < n))) (fun _ _ _ _ _ h => h) nD2 (fun H' s => .inl (.inl (s _ _ hw2))) (by omega) (fun i v H3 H4 k hi s3 eD y hk => ?_) (fun H3 ys3 s3 e3 l3 r3 => ?_)⟩
      · obtain ⟨rfl, hv⟩ := y
        rw [List.getElem?_map] at hv
        obtain ⟨n, hn, rfl⟩ := Option.map_eq_some_iff.mp hv
        refine ⟨rfl, _, rfl, _, _, rfl, rfl, hk _ _ (Same.refl _) ⟨n, hn, congrArg V.bl (decide_eq_decide.mpr ?_)⟩⟩
        show (n : Int) > 0 ↔ 0 < n
        omega
      · have ey : ys3 = (ws.map fun n => decide (0 < n)).map V.bl := by
          refine List.ext_getElem? fun i => ?_
          by_cases hi : i < ys3.length
          · obtain ⟨n, hn, hy⟩ := r3 i _ (List.getElem?_eq_getElem hi)
            rw [List.getElem?_eq_getElem hi, hy, List.map_map, List.getElem?_map, hn]
            rfl
          · rw [List.getElem?_eq_none (by omega), List.getElem?_eq_none (by rw [List.length_map] at l3; simp; omega)]
        rw [ey] at e3
        refine ⟨D2, _, rfl, SqL.of e3, ?_⟩
        rw [List.any_map]
        exact q H3 (s12.trans (s3.trans hid_same))
def behindB (last : Option Stp) (s : Stp) : Bool := match last with
  | none => true
  | some t => rsLt t.key s.key
theorem goodB_is (last : Option Stp) (s : Stp) : goodB last s = (decide (gcdF 0 s.ws = 1) && behindB last s) := by
  cases last <;> rfl
def spBehG : Sp := fun vs H Q _ => ∃ (v : V) (pl : Addr) (us : List V) (ss : List Stp) (st : Stp), vs = [v, .ref pl] ∧ IsStp H v st ∧ H pl = some (.lst us) ∧ AllAre (IsStp H) us ss ∧ ∀ H', Same H H' → Q (.bl (behindB ss.getLast? st)) H'
theorem ok_p_stands_behind (T : Txt K mg) : FnOk P w K mg base CX0 1 T.f_p_stands_behind T.d_p_stands_behind ["step", "steps"] spBehG := by
  refine T.F_p_stands_behind.ok sc_p_stands_behind (fun vs H Q E h => ?_) (fun cdv A outer s H vs Q E hr h => ?_)
  · obtain ⟨v, pl, us, ss, st, rfl, _⟩ := h
    rfl
  · obtain ⟨v, pl, us, ss, st, rfl, ⟨t, wa, rfl, ht, hw⟩, hp, av, q⟩ := h
    refine ⟨_, (pss_one (ps_ret (pe_or (pe_notT (pv 1)) (pe_one (pe_cmpR (op_ltRS hr.units0) (pe_slice sl_tup (pe_ix ix_list (pv 1) (pe_un un_neg pe_int) (fun _ _ => rfl)) po_none (po_some pe_int)) (pe_slice sl_tup (pv 0) po_none (po_some pe_int)) (nomark _)))))), ?_⟩
    refine ⟨_, rfl, !us.isEmpty, .inl ⟨us, SqL.of hp, rfl⟩, _, rfl, ?_⟩
    by_cases hu : us = []
    · subst hu
      have es : ss = [] := List.length_eq_zero_iff.mp av.1.symm
      subst es
      exact q H (Same.refl _)
    · have pos : 0 < us.length := List.length_pos_iff.mpr hu
      have hl : us[us.length - 1]? = some (us[us.length - 1]'(by omega)) := List.getElem?_eq_getElem _
      obtain ⟨s0, hs0, t0, wa0, ev, ht0, hw0⟩ := av.at hl
      rw [av.1] at hs0
      have last : ss.getLast? = some s0 := by rw [List.getLast?_eq_getElem?]; exact hs0
      rw [last] at q
      have neg : atI us (-1) = some (.ref t0) := by
        have e9 := List.dropLast_concat_getLast hu
        rw [List.getLast_eq_getElem, ev] at e9
        rw [← e9]
        exact L2.atI_last _ _
      have he : us.isEmpty = false := by cases us with | nil => exact absurd rfl hu | cons a l => rfl
      rw [he]
      refine iteF ?_
      refine ⟨_, rfl, 1, rfl, ?_⟩
      refine ⟨pl, us, -1, _, rfl, rfl, SqL.of hp, neg, ?_⟩
      refine ⟨2, rfl, t0, _, rfl, .inl (.inl ht0), ?_, fun p1 np1 => ?_⟩
      · intro z
        exact absurd (show HT.sIx 3 3 (some 2) = 3 from z.2) (by decide)
      have x1 := same_upd (o := .tup [.int (s0.room : Nat), .str s0.sign]) np1
      refine ⟨_, rfl, 2, rfl, t, _, rfl, .inl (.inl (x1 _ _ ht)), ?_, fun p2 np2 => ?_⟩
      · intro z
        exact absurd (show HT.sIx 3 3 (some 2) = 3 from z.2) (by decide)
      have x2 := same_upd (o := .tup [.int (st.room : Nat), .str st.sign]) np2
      exact ⟨p1, p2, s0.key, st.key, rfl, rfl, .inl (.inl (x2 _ _ upd_same)), .inl (.inl upd_same), q _ (x1.trans x2)⟩
theorem eqvNats : ∀ xs ys : List Nat, PyData.eqvAll (xs.map fun (n : Nat) => PyData.int (n : Int)) (ys.map fun (n : Nat) => PyData.int (n : Int)) = decide (xs = ys)
  | [], [] => rfl
  | [], _ :: _ => rfl
  | _ :: _, [] => rfl
  | x :: xs, y :: ys => by
    have h := eqvNats xs ys
    show (PyData.eqv (.int (x : Int)) (.int (y : Int)) && PyData.eqvAll (xs.map fun (n : Nat) => PyData.int (n : Int)) (ys.map fun (n : Nat) => PyData.int (n : Int))) = _
    rw [h, Bool.eq_iff_iff]
    simp [PyData.eqv]
    omega
def spLowG : Sp := fun vs H Q _ => ∃ (wa : Addr) (m : Nat) (ws : List Nat), vs = [.ref wa, .int m] ∧ H wa = some (.tup (nts ws)) ∧ ws.length = m ∧ (∀ n ∈ ws, n < 2 ^ 4000) ∧ m ≤ 12 ∧ ∀ H', Same H H' → Q (.bl (decide (gcdF 0 ws = 1))) H'
theorem ok_p_are_lowest (T : Txt K mg) : FnOk P w K mg base CX0 3 T.f_p_are_lowest T.d_p_are_lowest ["weights", "many"] spLowG := by
  refine T.F_p_are_lowest.ok sc_p_are_lowest (fun vs H Q E h => ?_) (fun cdv A outer s H vs Q E hr h => ?_)
  · obtain ⟨wa, m, ws, rfl, _⟩ := h
    rfl
  · obtain ⟨wa, m, ws, rfl, hw, hl, bd, m12, q⟩ := h
    refine ⟨_, (pss_one (ps_ret (pe_and (pe_call (ok_p_are_weightsG T) (hr.mono (by decide)) (by rfl) T.g_p_are_weights T.F_p_are_weights.kp T.b_p_are_weights .nil pass0 (pa_cons (pv 0) (pa_cons (pv 1) pa_nil))) (pe_one (pe_cmpR (op_eqD hr.units) (pe_call (ok_p_lowest T) (hr.mono (by decide)) (by rfl) T.g_p_lowest T.F_p_lowest.kp T.b_p_lowest .nil pass0 (pa_cons (pv 0) pa_nil)) (pv 0) (nomark _)))))), ?_⟩
    refine ⟨_, rfl, _, rfl, wa, m, ws, rfl, hw, hl, m12, fun H1 s1 => ⟨_, rfl, ?_⟩⟩
    cases ha : ws.any fun n => decide (0 < n) with
    | false =>
      have : gcdF 0 ws = 0 := gcdF_none fun n hn => by
        have := List.any_eq_false.mp ha n hn
        simp at this
        exact this
      rw [this] at q
      exact iteF (q _ s1)
    | true =>
      refine iteT ?_
      have pos : ∃ n ∈ ws, 0 < n := by
        obtain ⟨n, hn, h⟩ := List.any_eq_true.mp ha
        exact ⟨n, hn, of_decide_eq_true h⟩
      refine ⟨_, rfl, wa, ws, rfl, s1 _ _ hw, pos, bd, by omega, fun H2 r s2 er => ?_⟩
      have sh : ∀ ws : List Nat, SeqAt.shaped (.tuple (ws.map fun (n : Nat) => PyData.int (n : Int))) = true := fun ws => by
        obtain ⟨h1, h2⟩ := lay_ints ws
        unfold SeqAt.shaped
        rw [Bool.and_eq_true]
        refine ⟨by simp [PyData.canLay0, h1], decide_eq_true ?_⟩
        simp only [PyData.depth, h2]
        decide
      refine ⟨_, rfl, _, _, .tup (.inl (.inl er)) (dpAll_nts (low ws)), .tup (.inl (.inl (s2 _ _ (s1 _ _ hw)))) (dpAll_nts ws), sh _, sh _, ?_⟩
      have e : PyData.eqv (.tuple ((low ws).map fun (n : Nat) => PyData.int (n : Int))) (.tuple (ws.map fun (n : Nat) => PyData.int (n : Int))) = decide (gcdF 0 ws = 1) := by
        show PyData.eqvAll _ _ = _
        rw [eqvNats, decide_eq_decide]
        exact ⟨fun h => low_one h pos, one_low⟩
      rw [e]
      exact q _ (s1.trans s2)
end

end Fb

namespace Fb
open PySem PySem.Spec PyProof.Rows L2
section
variable {P : Program} {w : World} {K : PySem.W.Frag} {mg : Str → Option Value} {base : Heap}
/-! ### a text read, or the refusal -/
theorem nm_of {z : Str} (h : nmB z = true) : NmOk z := nmOk_of h
theorem mok_same {m : Nat} {out out' : List Stp} (ok : MOk m out) (so : SortedOf out out') : out' = out := by
  have e : out.map lowS = out := by
    conv => rhs; rw [← List.map_id out]
    refine List.map_congr_left fun s hs => ?_
    show (⟨s.room, s.sign, Fb.low s.ws⟩ : Stp) = s
    rw [ok.low s hs]
  obtain ⟨p, up⟩ := so
  rw [e] at p
  exact sorted_uniq up ok.up p
/-- steps that are read so far -/
structure Rd (m : Nat) (acc : List Stp) : Prop where
  up : acc.Pairwise fun a b => rsLt a.key b.key = true
  all : ∀ s ∈ acc, StpOk m s ∧ gcdF 0 s.ws = 1
theorem Rd.nil {m : Nat} : Rd m [] := ⟨List.Pairwise.nil, fun s h => by cases h⟩
theorem Rd.snoc {m : Nat} {acc : List Stp} {s : Stp} (h : Rd m acc) (ok : StpOk m s) (g : goodB acc.getLast? s = true) : Rd m (acc ++ [s]) := by
  rw [goodB_is, Bool.and_eq_true] at g
  obtain ⟨g1, g2⟩ := g
  refine ⟨List.pairwise_append.mpr ⟨h.up, List.pairwise_singleton _ _, fun a ha b hb => ?_⟩, fun t ht => ?_⟩
  · rw [List.mem_singleton] at hb
    subst hb
    cases hl : acc.getLast? with
    | none =>
      rw [List.getLast?_eq_none_iff] at hl
      subst hl
      cases ha
    | some l =>
      rw [hl] at g2
      have g2 : rsLt l.key b.key = true := g2
      obtain ⟨i, hi⟩ := List.getElem?_of_mem ha
      have li := (List.getElem?_eq_some_iff.mp hi).1
      rw [List.getLast?_eq_getElem?] at hl
      by_cases e : i = acc.length - 1
      · subst e
        rw [hi] at hl
        cases hl
        exact g2
      · obtain ⟨_, ei⟩ := List.getElem?_eq_some_iff.mp hi
        obtain ⟨lj, ej⟩ := List.getElem?_eq_some_iff.mp hl
        have := List.pairwise_iff_getElem.mp h.up i (acc.length - 1) li lj (by omega)
        rw [ei, ej] at this
        exact rsLt_trans this g2
  · rcases List.mem_append.mp ht with ht | ht
    · exact h.all t ht
    · rw [List.mem_singleton] at ht
      subst ht
      exact ⟨ok, of_decide_eq_true g1⟩
theorem Rd.mok {m : Nat} {acc : List Stp} (h : Rd m acc) (m1 : 1 ≤ m) (m12 : m ≤ 12) (few : acc.length < 60) : MOk m acc := by
  refine ⟨⟨m1, m12, few, fun s hs => (h.all s hs).1, ?_⟩, ⟨h.up⟩, fun s hs => one_low (h.all s hs).2⟩
  refine List.Pairwise.map _ (fun a b hab e => ?_) h.up
  rw [e, rsLt_irr] at hab
  cases hab
theorem stp_of {ws : List Str} {m a : Nat} {s : Stp} (h : stepAt ws m a = .ok s) (g : gcdF 0 s.ws = 1) : StpOk m s := by
  obtain ⟨h1, h2, h3, h4, _⟩ := stepAt_ok h
  refine ⟨h1, nm_of h2, ⟨h3, ?_, fun x hx => Nat.lt_of_lt_of_le (h4 x hx) (by decide +kernel)⟩⟩
  apply Classical.byContradiction
  intro no
  rw [gcdF_none fun n hn => ?_] at g
  · cases g
  · apply Classical.byContradiction
    intro n0
    exact no ⟨n, hn, Nat.pos_of_ne_zero n0⟩
def RefN (N : Addr) (E : XK) (H : Hp) : Prop := ∀ H' d, Same H H' → H' d = some (.xd [("at", .non)]) → E (.ref N) (some d) H'
/-- a text that is words with a blank between -/
structure TxOk (z : Str) (ws : List Str) : Prop where
  is : z = Txt.join " " ws
  ne : ws ≠ []
  free : ∀ x ∈ ws, 32 ∉ x.cps.toList
  few : ws.length ≤ 200
  lens : ∀ x ∈ ws, x.length ≤ 6000
theorem TxOk.ws {z : Str} {ws : List Str} (h : TxOk z ws) : WsOk ws := ⟨Nat.le_trans h.few (by decide), h.lens⟩
theorem TxOk.split {z : Str} {ws : List Str} (h : TxOk z ws) : Txt.split z " " = ws := by
  rw [h.is]
  exact words_split h.ne h.free
theorem TxOk.len {z : Str} {ws : List Str} (h : TxOk z ws) : z.length + 2 ≤ sizeLine := by
  have h1 := join_len ws
  have h2 := sum_lens (b := 6000) h.lens
  have h3 := Nat.mul_le_mul_right 6000 h.few
  rw [h.is]
  refine Nat.le_trans (m := 2000000) ?_ (by decide)
  omega
def spReadG (K : PySem.W.Frag) (C N : Addr) : Sp := fun vs H Q E => ∃ v, vs = [v] ∧ ((∃ z ws, v = .str z ∧ TxOk z ws ∧ (∀ m l H' x, parse ws = .ok (m, l) → MOk m l → Same H H' → IsMach C H' (.ref x) m l → Q (.ref x) H') ∧ ∀ e, parse ws = .error e → RefT N E H e) ∨
  ((∃ t, TyX K H v t ∧ PySem.W.kitOne K t (.type "str") = some false) ∧ RefN N E H))
set_option maxHeartbeats 1000000 in
theorem ok_p_read (T : Txt K mg) : FnOk P w K mg base (L2.CX P w) 7 T.f_p_read T.d_p_read ["text"] (spReadG K T.c_Machine T.c_NoText) := by
  refine T.F_p_read.okX sc_p_read (fun vs H Q E h => ?_) (fun cdv A outer s H vs Q E hr h => ?_)
  · obtain ⟨v, rfl, _⟩ := h
    rfl
  · obtain ⟨v, rfl, h⟩ := h
    refine ⟨_, (pss_cons (ps_if (pt_not (pt_val (pe_callB call_isi (by rfl) T.z_isinstance (by decide +kernel) (pa_cons (pv 0) (pa_cons (pe_bltn (v := .ty "str") (by rfl) T.z_str (by decide +kernel) rfl) pa_nil)))))
  (pss_one (ps_raise rfl (takes_of rfl rfl rfl rfl) (pmk_oex (oexT T) T.i_NoText_in T.i_NoText_tf (ok_m_NoText_init T) (hr.mono (by decide)) T.b_m_NoText_init .nil pass0 (by rfl) T.g_NoText (pa_cons pe_non pa_nil))))
  pss_nil)
 (pss_cons (ps_set (i := 1) sc_p_read.nd rfl (.inl rfl) (pe_m1 PySem.F.slot_str_split PySem.F.type_str_split mt_split (pv 0) pe_str))
 (pss_cons (ps_set (i := 2) sc_p_read.nd rfl (.inl rfl) (pe_call (ok_p_number_in T) (hr.mono (by decide)) (by rfl) T.g_p_number_in T.F_p_number_in.kp T.b_p_number_in .nil pass0 (pa_cons (pe_ix ix_list (pv 1) pe_int (fun _ _ => rfl)) (pa_cons (pe_glob (by rfl) T.g_MOST_FIGURES T.r_MOST_FIGURES) pa_nil))))
 (pss_cons (ps_if (PW.pt (pw_or (pt_cmpR op_isN (pv 2) pe_non (nomark _)) (pw_or1 (pt_not (pt_chain op_le op_le pe_int (pv 2) (pe_glob (by rfl) T.g_MOST_ROOMS T.r_MOST_ROOMS))))))
  (pss_one (ps_raise rfl (takes_of rfl rfl rfl rfl) (pmk_oex (oexT T) T.i_NoText_in T.i_NoText_tf (ok_m_NoText_init T) (hr.mono (by decide)) T.b_m_NoText_init .nil pass0 (by rfl) T.g_NoText (pa_cons pe_int pa_nil))))
  pss_nil)
 (pss_cons (ps_set (i := 3) sc_p_read.nd rfl (.inl rfl) (pe_lst pa_nil))
 (pss_cons (ps_set (i := 4) sc_p_read.nd rfl (.inl rfl) pe_int)
 (pss_cons (ps_while PassesOwn.leaving (pt_cmpR op_lt (pv 4) (pe_callB call_len_seq (by rfl) T.z_len (by decide +kernel) (pa_cons (pv 1) pa_nil)) (nomark _))
  (pss_cons (ps_set (i := 5) sc_p_read.nd rfl (.inl rfl) (pe_call (ok_p_read_step T) (hr.mono (by decide)) (by rfl) T.g_p_read_step T.F_p_read_step.kp T.b_p_read_step .nil (passes_call (takes_of (E := E) rfl rfl rfl rfl) fun _ _ _ _ h => h) (pa_cons (pv 1) (pa_cons (pv 4) (pa_cons (pv 2) pa_nil)))))
 (pss_cons (ps_aug (i := 4) sc_p_read.nd rfl (.inl rfl) (pe_op op_add pe_int (pv 2)) ip_add)
 (pss_cons (ps_if (PW.pt (pw_or (pt_not (pt_val (pe_call (ok_p_stands_behind T) (hr.mono (by decide)) (by rfl) T.g_p_stands_behind T.F_p_stands_behind.kp T.b_p_stands_behind .nil pass0 (pa_cons (pv 5) (pa_cons (pv 3) pa_nil))))) (pw_or1 (pt_not (pt_val (pe_call (ok_p_are_lowest T) (hr.mono (by decide)) (by rfl) T.g_p_are_lowest T.F_p_are_lowest.kp T.b_p_are_lowest .nil pass0 (pa_cons (pe_ix ix_tup (pv 5) pe_int (fun _ _ => rfl)) (pa_cons (pv 2) pa_nil))))))))
  (pss_one (ps_raise rfl (takes_of rfl rfl rfl rfl) (pmk_oex (oexT T) T.i_NoText_in T.i_NoText_tf (ok_m_NoText_init T) (hr.mono (by decide)) T.b_m_NoText_init .nil pass0 (by rfl) T.g_NoText (pa_cons (pe_op op_sub (pv 4) pe_int) pa_nil))))
  pss_nil)
 (pss_one (ps_expr (pe_bm PySem.F.plainAttrs_list PySem.F.slot_list_append PySem.F.type_list_append mt_append (pv 3) (pa_cons (pv 5) pa_nil))))))))
 (pss_one (ps_ret (pe_make T.M_Machine (ok_m_Machine_init T) (hr.mono (by decide)) (by rfl) T.g_Machine T.b_m_Machine_init .nil pass0 (pa_cons (pv 2) (pa_cons (pv 3) pa_nil)))))))))))), ?_⟩
    rcases h with ⟨z, ws, rfl, tx, q, qe⟩ | ⟨⟨t, ty, kt⟩, qn⟩
    · have wo := tx.ws
      refine ⟨_, rfl, _, _, _, _, true, rfl, .ty _, .base (.str _), kit_ty (by decide +kernel), true, rfl, iteF ?_⟩
      refine ⟨_, rfl, ⟨_, rfl⟩, z, " ", rfl, rfl, by decide, tx.len, fun wp nwp => ?_⟩
      rw [tx.split]
      have t1 := same_upd (o := .lst (ws.map V.str)) nwp
      have hw1 : (upd H wp (.lst (ws.map V.str))) wp = some (.lst (ws.map V.str)) := upd_same
      generalize upd H wp (.lst (ws.map V.str)) = H1 at *
      obtain ⟨z0, hz0⟩ : ∃ z0, ws[0]? = some z0 := ⟨_, List.getElem?_eq_getElem (List.length_pos_iff.mpr tx.ne)⟩
      refine ⟨_, rfl, wp, _, 0, _, rfl, rfl, SqL.of hw1, atI_nat (j := 0) (by rw [List.getElem?_map, hz0]; rfl), z0, 100, rfl, by decide, wo.lens z0 (List.mem_of_getElem? hz0), fun H2 s2 => ?_⟩
      have hw2 := s2 _ _ hw1
      have s02 := t1.trans s2
      cases hn : numW z0 100 with
      | none =>
        have he : parse ws = .error 0 := by unfold parse; simp only [hz0, hn]
        exact ⟨_, rfl, rfl, _, rfl, iteT (iteT (mk_oex ((qe 0 he).mono s02)))⟩
      | some m =>
        refine ⟨_, rfl, rfl, _, rfl, iteF ?_⟩
        refine ⟨_, rfl, _, _, rfl, rfl, _, rfl, ?_⟩
        by_cases hm : 1 ≤ m ∧ m ≤ 12
        · obtain ⟨m1, m12⟩ := hm
          rw [decide_eq_true (show (1 : Int) ≤ (m : Int) by omega)]
          refine iteT ?_
          refine ⟨_, _, rfl, rfl, _, rfl, ?_⟩
          rw [decide_eq_true (show (m : Int) ≤ 12 by omega)]
          refine iteF ?_
          have pa : ∀ l, parseF ws m (ws.length + 1) 1 [] = .ok l → parse ws = .ok (m, l) := fun l h => by
            unfold parse
            simp only [hz0, hn, if_pos (And.intro m1 m12), h]
          have pe : ∀ e, parseF ws m (ws.length + 1) 1 [] = .error e → parse ws = .error e := fun e h => by
            unfold parse
            simp only [hz0, hn, if_pos (And.intro m1 m12), h]
          generalize hRR : parseF ws m (ws.length + 1) 1 [] = RR at pa pe
          refine ⟨by show 0 ≤ sizeLine; decide, fun sp nsp => ?_⟩
          have es := @upd_same H2 sp (.lst [])
          have sps : Same H2 (upd H2 sp (.lst [])) := same_upd nsp
          generalize upd H2 sp (.lst []) = H3 at *
          have lp : 0 < ws.length := List.length_pos_iff.mpr tx.ne
          refine ⟨fun k σ H' => ∃ (a f : Nat) (acc : List Stp) (us : List V) (y : Option V), k = ws.length - a ∧ a ≤ ws.length ∧ 4 * acc.length + 1 ≤ a ∧ ws.length - a < f ∧ parseF ws m f a acc = RR ∧ Rd m acc ∧ σ = [some (.str z), some (.ref wp), some (.int m), some (.ref sp), some (.int (a : Nat)), y] ∧ Same H2 H' ∧ H' sp = some (.lst us) ∧ AllAre (IsStp H') us acc, ⟨_, 1, ws.length + 1, [], [], _, rfl, lp, Nat.le_refl _, by omega, hRR, Rd.nil, rfl, sps, es, .nil⟩, ?_⟩
          rintro k σ H' ⟨a, f, acc, us, y, rfl, al, a4, fa, ef, rd, rfl, sH, eS, aS⟩
          obtain ⟨f, rfl⟩ : ∃ f', f = f' + 1 := ⟨f - 1, by omega⟩
          have ew' := sH _ _ hw2
          refine ⟨_, rfl, _, rfl, wp, _, rfl, .inl (SqL.of ew'), _, _, rfl, rfl, _, rfl, ?_⟩
          rw [List.length_map]
          unfold parseF at ef
          by_cases hj : a < ws.length
          · rw [if_pos hj] at ef
            rw [decide_eq_true (show (a : Int) < (ws.length : Int) by omega)]
            have lu : us.length = acc.length := aS.1
            have few := tx.few
            refine iteT ⟨fun σ2 H2' => ∃ (st : Stp) (us : List V) (y : Option V), stepAt ws m a = .ok st ∧ goodB acc.getLast? st = true ∧ σ2 = [some (.str z), some (.ref wp), some (.int m), some (.ref sp), some (.int ((a + 3 + m : Nat) : Int)), y] ∧ Same H2 H2' ∧ H2' sp = some (.lst us) ∧ AllAre (IsStp H2') us (acc ++ [st]), ?_, ?_⟩
            · rintro σ2 H2' ⟨st, us', y', hst, hg, e1, e2, e3, e4⟩
              rw [hst] at ef
              have ef : (if goodB acc.getLast? st = true then parseF ws m f (a + 3 + m) (acc ++ [st]) else .error (a + 2 + m)) = RR := ef
              rw [if_pos hg] at ef
              have in' := (stepAt_ok hst).2.2.2.2
              have hg' := hg
              rw [goodB_is, Bool.and_eq_true] at hg'
              refine ⟨ws.length - (a + 3 + m), by omega, a + 3 + m, f, acc ++ [st], us', y', rfl, in', ?_, by omega, ef, rd.snoc (stp_of hst (of_decide_eq_true hg'.1)) hg, e1, e2, e3, e4⟩
              rw [List.length_append, List.length_singleton]
              omega
            refine ⟨_, rfl, _, rfl, _, rfl, wp, ws, a, m, rfl, ew', wo, hj, m12, fun st H5 v hst s5 iv => ?_, fun e he => (qe e (pe e (by rw [← ef, he]))).mono (s02.trans sH)⟩
            rw [hst] at ef
            have ef : (if goodB acc.getLast? st = true then parseF ws m f (a + 3 + m) (acc ++ [st]) else .error (a + 2 + m)) = RR := ef
            obtain ⟨_, _, lw, bw, _⟩ := stepAt_ok hst
            have s05 := s02.trans (sH.trans s5)
            have bad : goodB acc.getLast? st = false → ∀ H7, Same H5 H7 → RefT T.c_NoText E H7 (a + 2 + m) := fun hg H7 s7 => (qe _ (pe _ (by rw [← ef, if_neg (by rw [hg]; exact Bool.false_ne_true)]))).mono (s05.trans s7)
            refine ⟨_, rfl, _, rfl, _, _, rfl, rfl, _, _, rfl, rfl, ?_⟩
            have eS5 := s5 _ _ eS
            have aS5 := aS.imp fun _ _ h => h.mono s5
            have atv : ((a : Int) + (3 + (m : Int))) - 1 = ((a + 2 + m : Nat) : Int) := by omega
            have atn : ((a : Int) + (3 + (m : Int))) = ((a + 3 + m : Nat) : Int) := by omega
            refine ⟨_, rfl, _, rfl, v, sp, us, acc, st, rfl, iv, eS5, aS5, fun H6 s6 => ⟨_, rfl, ?_⟩⟩
            rw [goodB_is] at ef bad
            cases hb : behindB acc.getLast? st with
            | false =>
              refine iteT (iteT ⟨_, rfl, _, _, rfl, rfl, ?_⟩)
              dsimp only
              rw [atv]
              exact mk_oex (bad (by rw [hb, Bool.and_false]) _ s6)
            | true =>
              refine iteF ?_
              obtain ⟨t, wa, rfl, ht, hw⟩ := iv.mono s6
              refine ⟨_, rfl, t, _, 2, _, rfl, rfl, .inl (.inl ht), rfl, _, rfl, wa, m, st.ws, rfl, hw, lw, fun x hx => Nat.lt_of_lt_of_le (bw x hx) (by decide +kernel), m12, fun H7 s7 => ⟨_, rfl, ?_⟩⟩
              have s57 := s6.trans s7
              by_cases hl : gcdF 0 st.ws = 1
              · rw [decide_eq_true hl]
                refine iteF ?_
                have s567 := s5.trans s57
                have eS7 := s567 _ _ eS
                have aS7 := aS.imp fun _ _ h => h.mono s567
                refine ⟨_, rfl, .inl ⟨rfl, _, SqL.of eS7⟩, _, rfl, sp, us, _, rfl, rfl, eS7, small1000 (by omega), ?_⟩
                have tl : TS H7 (upd H7 sp (.lst (us ++ [.ref t]))) := TS.lst eS7
                refine ⟨st, us ++ [.ref t], some (.ref t), hst, ?_, ?_, same_over (sH.trans s567) nsp, upd_same, ?_⟩
                · rw [goodB_is, hb, decide_eq_true hl]
                  rfl
                · rw [← atn]
                  rfl
                · exact AllAre.snoc (aS7.imp fun _ _ h => h.ts tl) ⟨t, wa, rfl, tl _ _ (s7 _ _ ht), tl _ _ (s7 _ _ hw)⟩
              · rw [decide_eq_false hl]
                refine iteT ⟨_, rfl, _, _, rfl, rfl, ?_⟩
                dsimp only
                rw [atv]
                exact mk_oex (bad (by rw [decide_eq_false hl, Bool.false_and]) _ s57)
          · rw [if_neg hj] at ef
            rw [decide_eq_false (show ¬ (a : Int) < (ws.length : Int) by omega)]
            refine iteF ?_
            have mok := rd.mok m1 m12 (by have := tx.few; omega)
            refine ⟨_, rfl, _, rfl, ?_⟩
            dsimp only [tNil]
            refine mk_mach ⟨sp, us, rfl, eS, aS⟩ mok.ok fun H5 xm out' t3 nxm im so => ?_
            rw [mok_same mok so] at im
            exact q m acc _ _ (pa acc ef.symm) mok (s02.trans (sH.trans t3)) im
        · have he : parse ws = .error 0 := by unfold parse; simp only [hz0, hn, if_neg hm]
          by_cases m1 : 1 ≤ m
          · rw [decide_eq_true (show (1 : Int) ≤ (m : Int) by omega)]
            refine iteT ?_
            refine ⟨_, _, rfl, rfl, _, rfl, ?_⟩
            rw [decide_eq_false (show ¬ (m : Int) ≤ 12 by omega)]
            exact iteT (mk_oex ((qe 0 he).mono s02))
          · rw [decide_eq_false (show ¬ (1 : Int) ≤ (m : Int) by omega)]
            exact iteF ⟨false, rfl, iteT (mk_oex ((qe 0 he).mono s02))⟩
    · refine ⟨_, rfl, _, _, _, _, false, rfl, .ty _, ty, kt, false, rfl, iteT ?_⟩
      exact mk_oex qn
end

end Fb

namespace Fb
open PySem PySem.Spec PyProof.Rows L2
section
variable {P : Program} {w : World} {K : PySem.W.Frag} {mg : Str → Option Value} {base : Heap}
/-! ### the law's own numbers and signs -/
theorem all_not {n : Nat} {t : Nat → Bool} {q : Nat → Bool} (h : ∀ i, i < n → t i = !q i) : ((List.range n).all fun i => !t i) = (List.range n).all q := by
  rw [Bool.eq_iff_iff, List.all_eq_true, List.all_eq_true]
  refine ⟨fun a i hi => ?_, fun a i hi => ?_⟩
  · have := a i hi
    rw [h i (List.mem_range.mp hi), Bool.not_not] at this
    exact this
  · rw [h i (List.mem_range.mp hi), Bool.not_not]
    exact a i hi
theorem all_at {l : List Nat} {q : Nat → Bool} : (List.range l.length).all (fun i => (l[i]?).any q) = l.all q := by
  rw [Bool.eq_iff_iff, List.all_eq_true, List.all_eq_true]
  refine ⟨fun a c hc => ?_, fun a i hi => ?_⟩
  · obtain ⟨i, hi⟩ := List.getElem?_of_mem hc
    have := a i (List.mem_range.mpr (List.getElem?_eq_some_iff.mp hi).1)
    rw [hi] at this
    exact this
  · have li := List.mem_range.mp hi
    rw [List.getElem?_eq_getElem li]
    exact a _ (List.getElem_mem li)
theorem not_in {l : List Nat} {c : Nat} {A B : Prop} (hb : c ∈ l → B) (ha : c ∉ l → A) : if (!decide (c ∈ l)) = true then A else B := by
  by_cases h : c ∈ l
  · rw [decide_eq_true h]
    exact iteF (hb h)
  · rw [decide_eq_false h]
    exact iteT (ha h)
theorem first_is (c : Nat) (cs : List Nat) : (!decide (V.str ⟨#[c]⟩ = V.str "0")) = decide ((c :: cs).head? ≠ some 48) := by
  by_cases c48 : c = 48
  · subst c48
    have e0 : V.str ⟨#[48]⟩ = V.str "0" := by decide +kernel
    rw [decide_eq_true e0, decide_eq_false (show ¬ ((48 :: cs).head? ≠ some 48) from fun h => h rfl)]
    rfl
  · rw [decide_eq_true (show (c :: cs).head? ≠ some 48 from fun e => c48 (Option.some.inj e)), decide_eq_false (fun e => c48 ?_)]
    · rfl
    · have := congrArg (fun x : Str => x.cps.toList) (V.str.inj e)
      have e0 : ("0" : Str).cps.toList = [48] := by decide +kernel
      rw [e0] at this
      simpa using this
theorem ok_l_is_number (T : Txt K mg) : FnOk P w K mg base CX0 1 T.f_l_is_number T.d_l_is_number ["_law_word", "_law_most"] spFigG := by
  refine T.F_l_is_number.ok sc_l_is_number (fun vs H Q E h => ?_) (fun cdv A outer s H vs Q E hr h => ?_)
  · obtain ⟨z, k, rfl, _⟩ := h
    rfl
  · obtain ⟨z, k, rfl, k2, lz, q⟩ := h
    refine ⟨_, (pss_cons (ps_if (PW.pt (pw_or (pt_not (pt_chain op_le op_le pe_int (pe_callB call_len_str (by rfl) T.z_len (by decide +kernel) (pa_cons (pv 0) pa_nil)) (pv 1))) (pw_or1 (pt_cmpR (op_neNil hr.units0) (pe_lc (own := [("_law_figure", 2)]) (g := (gName 2)) (tt := _) (by rfl) sc_l_is_number.nd (pi_str (pv 0)) (blkOk_by (own := [("_law_figure", 2)]) (N := ["_law_word", "_law_most", "_law_figure"]) (sc := defScope s_l_is_number) (by decide +kernel)) (fun _ _ _ _ _ => by exact (pg_name (i := 2) sc_l_is_number.nd rfl (.inl rfl))) (fun _ _ _ _ _ => by exact (pts_one (pt_cmpR op_notIn_sign (pv 2) pe_str (by with_unfolding_all rfl)))) (fun _ _ _ _ _ => by exact (pv 2))) (pe_lst pa_nil) (nomark _)))))
  (pss_one (ps_ret pe_bl))
  pss_nil)
 (pss_one (ps_ret (pe_or (pe_cmpR op_eq (pv 0) pe_str (nomark _)) (pe_one (pe_cmpR op_ne (pe_ix ix_str (pv 0) pe_int (fun _ _ => rfl)) pe_str (nomark _))))))), ?_⟩
    by_cases l1 : 1 ≤ z.length
    · refine ⟨_, rfl, z, rfl, line6 lz, _, _, rfl, rfl, true, congrArg V.bl (decide_eq_true (by omega)), iteT ?_⟩
      by_cases lk : z.length ≤ k
      · refine ⟨_, rfl, _, _, rfl, rfl, true, congrArg V.bl (decide_eq_true (by omega)), iteF ?_⟩
        have hz : z.cps.size ≤ 200 := Nat.le_trans lk k2
        rw [figB_is ⟨l1, lk⟩] at q
        refine ⟨_, rfl, z, rfl, fun D nD => lc_someW (walk_str (z := z)) (fun i => !(z.cps.toList[i]?).any fun c => decide (c ∈ figs)) nD (fun _ _ => trivial) (by omega) (fun i x H6 H7 kt kf hi s6 y hkt hkf => ?_) (fun H2 ys s2 e l => ?_)⟩
        · obtain ⟨rfl, c, hc, rfl⟩ := y
          rw [← Array.getElem?_toList] at hc
          simp only [hc, Option.any_some] at hkt hkf
          refine ⟨rfl, _, rfl, c, _, rfl, rfl, _, rfl, ?_⟩
          exact not_in (l := figs) (fun h => hkf (by simp [h]) _ (Same.refl _)) (fun h => ⟨_, rfl, hkt (by simp [h]) _ _ (Same.refl _)⟩)
        · refine ⟨Nat.zero_le _, fun e0 n0 => ?_⟩
          have s5 := same_upd (o := .lst []) n0
          have el : ys.isEmpty = z.cps.toList.all fun c => decide (c ∈ figs) := by
            rw [l, ← all_at (l := z.cps.toList), Array.length_toList]
            exact all_not fun i _ => rfl
          have s2 := s2.trans (hid_same.trans s5)
          have e2 : (upd H2 e0 (.lst [])) D = some (.lst ys) := s5 _ _ e
          refine ⟨D, e0, ys, rfl, rfl, SqL.of e2, sqL_new, _, rfl, ?_⟩
          rw [el]
          cases ha : z.cps.toList.all fun c => decide (c ∈ figs) with
          | false =>
            refine iteT ?_
            rw [ha, Bool.false_and] at q
            exact q _ s2
          | true =>
            refine iteF ?_
            rw [ha, Bool.true_and] at q
            refine ⟨_, rfl, rfl, _, rfl, ?_⟩
            by_cases z0 : z = "0"
            · rw [decide_eq_true (congrArg V.str z0)]
              rw [decide_eq_true z0, Bool.true_or] at q
              exact q _ s2
            · rw [decide_eq_false (fun e => z0 (V.str.inj e))]
              rw [decide_eq_false z0, Bool.false_or] at q
              obtain ⟨c, cs, hc⟩ : ∃ c cs, z.cps.toList = c :: cs := by
                cases hl : z.cps.toList with
                | nil => rw [str_len, hl] at l1; simp at l1
                | cons c cs => exact ⟨c, cs, rfl⟩
              refine ⟨_, rfl, z, 0, c, rfl, rfl, line6 lz, atI_nat (j := 0) (by rw [hc]; rfl), rfl, ?_⟩
              rw [hc] at q
              rw [first_is c cs]
              exact q _ s2
      · rw [figB_no (fun e => lk e.2)] at q
        exact ⟨_, rfl, _, _, rfl, rfl, false, congrArg V.bl (decide_eq_false (by omega)), iteT (q H (Same.refl _))⟩
    · rw [figB_no (fun e => l1 e.1)] at q
      exact ⟨_, rfl, z, rfl, line6 lz, _, _, rfl, rfl, false, congrArg V.bl (decide_eq_false (by omega)), iteF ⟨false, rfl, iteT (q H (Same.refl _))⟩⟩
def spSignB : Sp := fun vs H Q _ => ∃ z : Str, vs = [.str z] ∧ z.length ≤ 6000 ∧ ∀ H', Same H H' → Q (.bl (nmB z)) H'
theorem ok_l_is_sign (T : Txt K mg) : FnOk P w K mg base CX0 1 T.f_l_is_sign T.d_l_is_sign ["_law_word"] spSignB := by
  refine T.F_l_is_sign.ok sc_l_is_sign (fun vs H Q E h => ?_) (fun cdv A outer s H vs Q E hr h => ?_)
  · obtain ⟨z, rfl, _⟩ := h
    rfl
  · obtain ⟨z, rfl, lz, q⟩ := h
    refine ⟨_, (pss_one (ps_ret (pe_and (pe_chain op_le op_le pe_int (pe_callB call_len_str (by rfl) T.z_len (by decide +kernel) (pa_cons (pv 0) pa_nil)) pe_int) (pe_one (pe_cmpR (op_eqNil hr.units0) (pe_lc (own := [("_law_letter", 1)]) (g := (gName 1)) (tt := _) (by rfl) sc_l_is_sign.nd (pi_str (pv 0)) (blkOk_by (own := [("_law_letter", 1)]) (N := ["_law_word", "_law_letter"]) (sc := defScope s_l_is_sign) (by decide +kernel)) (fun _ _ _ _ _ => by exact (pg_name (i := 1) sc_l_is_sign.nd rfl (.inl rfl))) (fun _ _ _ _ _ => by exact (pts_one (pt_cmpR op_notIn_sign (pv 1) pe_str (by with_unfolding_all rfl)))) (fun _ _ _ _ _ => by exact (pv 1))) (pe_lst pa_nil) (nomark _)))))), ?_⟩
    unfold nmB at q
    by_cases l1 : 1 ≤ z.length
    · refine ⟨_, rfl, z, rfl, line6 lz, _, _, rfl, rfl, true, congrArg V.bl (decide_eq_true (by omega)), iteT ?_⟩
      rw [decide_eq_true l1, Bool.true_and] at q
      by_cases l8 : z.length ≤ 8
      · refine ⟨_, _, rfl, rfl, true, congrArg V.bl (decide_eq_true (by omega)), iteT ?_⟩
        rw [decide_eq_true l8, Bool.true_and] at q
        have hz : z.cps.size ≤ 8 := l8
        refine ⟨_, rfl, z, rfl, fun D nD => lc_someW (walk_str (z := z)) (fun i => !(z.cps.toList[i]?).any fun c => decide (c ∈ letters)) nD (fun _ _ => trivial) (by omega) (fun i x H6 H7 kt kf hi s6 y hkt hkf => ?_) (fun H2 ys s2 e l => ?_)⟩
        · obtain ⟨rfl, c, hc, rfl⟩ := y
          rw [← Array.getElem?_toList] at hc
          simp only [hc, Option.any_some] at hkt hkf
          refine ⟨rfl, _, rfl, c, _, rfl, rfl, _, rfl, ?_⟩
          exact not_in (l := letters) (fun h => hkf (by simp [h]) _ (Same.refl _)) (fun h => ⟨_, rfl, hkt (by simp [h]) _ _ (Same.refl _)⟩)
        · refine ⟨Nat.zero_le _, fun e0 n0 => ?_⟩
          have s5 := same_upd (o := .lst []) n0
          have el : ys.isEmpty = z.cps.toList.all fun c => decide (c ∈ letters) := by
            rw [l, ← all_at (l := z.cps.toList), Array.length_toList]
            exact all_not fun i _ => rfl
          have s2 := s2.trans (hid_same.trans s5)
          have e2 : (upd H2 e0 (.lst [])) D = some (.lst ys) := s5 _ _ e
          refine ⟨D, e0, ys, rfl, rfl, SqL.of e2, sqL_new, ?_⟩
          rw [el]
          exact q _ s2
      · rw [decide_eq_false l8, Bool.false_and] at q
        exact ⟨_, _, rfl, rfl, false, congrArg V.bl (decide_eq_false (by omega)), iteF (q H (Same.refl _))⟩
    · rw [decide_eq_false l1, Bool.false_and] at q
      exact ⟨_, rfl, z, rfl, line6 lz, _, _, rfl, rfl, false, congrArg V.bl (decide_eq_false (by omega)), iteF ⟨false, rfl, iteF (q H (Same.refl _))⟩⟩
/-! the greatest number that divides all -/
def spDivs : Sp := fun vs H Q _ => ∃ (wa : Addr) (ws : List Nat), vs = [.ref wa] ∧ H wa = some (.tup (nts ws)) ∧ Q (.int (gcdF 0 ws : Nat)) H
theorem ok_l_divides (T : Txt K mg) : FnOk P w K mg base CX0 1 T.f_l_divides T.d_l_divides ["_law_weights_here"] spDivs := by
  refine T.F_l_divides.ok sc_l_divides (fun vs H Q E h => ?_) (fun cdv A outer s H vs Q E hr h => ?_)
  · obtain ⟨wa, ws, rfl, _⟩ := h
    rfl
  · obtain ⟨wa, ws, rfl, hw, q⟩ := h
    refine ⟨_, (pss_cons (ps_set (i := 1) sc_l_divides.nd rfl (.inl rfl) pe_int)
 (pss_cons (ps_for PassesOwn.never rfl (pi_tup (pv 0)) (pg_name (i := 2) sc_l_divides.nd rfl (.inl rfl))
  (pss_cons (ps_par (i := 3) (j := 4) (by rfl) sc_l_divides.nd rfl rfl (by decide) rfl rfl (pa_cons (pv 1) (pa_cons (pv 2) pa_nil)) (by rfl))
 (pss_cons (ps_while PassesOwn.never (pt_cmpR op_gt (pv 4) pe_int (nomark _))
  (pss_one (ps_par (i := 3) (j := 4) (by rfl) sc_l_divides.nd rfl rfl (by decide) rfl rfl (pa_cons (pv 4) (pa_cons (pe_op op_mod (pv 3) (pv 4)) pa_nil)) (by rfl))))
 (pss_one (ps_set (i := 1) sc_l_divides.nd rfl (.inl rfl) (pv 3))))))
 (pss_one (ps_ret (pv 1))))), ?_⟩
    have lw : (nts ws).length = ws.length := List.length_map ..
    refine ⟨_, rfl, wa, rfl, ⟨_, .inl (.inl hw)⟩, for_tup (K := K) (a := wa) (xs := nts ws) (fun i σ H' => ∃ y2 y3 y4, σ = [some (.ref wa), some (.int (gcdF 0 (ws.take i) : Nat)), y2, y3, y4] ∧ H' = H) ⟨_, _, _, rfl, rfl⟩ (fun i σ H' _ h => ?_) (fun i x σ H' hi h => ?_) (fun σ H' h => ?_)⟩
    · obtain ⟨_, _, _, _, rfl⟩ := h
      exact .inl (.inl hw)
    · obtain ⟨y2, y3, y4, rfl, rfl⟩ := h
      obtain ⟨n, hn, rfl⟩ := nts_at hi
      have et : gcdF 0 (ws.take (i + 1)) = Nat.gcd n (gcdF 0 (ws.take i)) := by rw [List.take_add_one, hn]; exact gcdF_snoc n _ 0
      generalize gcdF 0 (ws.take i) = g at *
      refine ⟨_, rfl, _, rfl, _, _, rfl, ?_⟩
      refine ⟨fun m σ H'' => ∃ x y : Nat, σ = [some (.ref wa), some (.int (g : Nat)), some (.int (n : Nat)), some (.int (x : Nat)), some (.int (y : Nat))] ∧ m = y ∧ Nat.gcd x y = Nat.gcd n g ∧ H'' = H', ⟨_, g, n, rfl, rfl, Nat.gcd_comm _ _, rfl⟩, fun m σ H'' hW => ?_⟩
      obtain ⟨x, y, rfl, rfl, hg, rfl⟩ := hW
      refine ⟨_, rfl, _, _, rfl, rfl, _, rfl, ite2 (fun h => ?_) (fun h => ?_)⟩
      · have hy : 0 < m := by
          have : (0 : Int) < (m : Int) := of_decide_eq_true h
          omega
        refine ⟨fun σ' H3 => σ' = [some (.ref wa), some (.int (g : Nat)), some (.int (n : Nat)), some (.int (m : Nat)), some (.int ((x % m : Nat) : Int))] ∧ H3 = H'', fun σ' H3 h => ?_, ?_⟩
        · obtain ⟨rfl, rfl⟩ := h
          refine ⟨_, Nat.mod_lt x hy, m, _, rfl, rfl, ?_, rfl⟩
          rw [← hg, Nat.gcd_comm x m, Nat.gcd_rec m x]
          exact Nat.gcd_comm _ _
        · refine ⟨_, rfl, _, rfl, _, rfl, _, _, rfl, rfl, (show (0 : Int) < (m : Int) by omega), _, _, rfl, ?_, rfl⟩
          rw [Int.natCast_emod]
          rfl
      · have hy : m = 0 := by
          have : ¬ (0 : Int) < (m : Int) := fun z => h (decide_eq_true z)
          omega
        subst hy
        refine ⟨_, rfl, ?_⟩
        rw [Nat.gcd_zero_right] at hg
        refine ⟨some (.int ((n : Nat) : Int)), some (.int ((x : Nat) : Int)), some (.int ((0 : Nat) : Int)), ?_, rfl⟩
        rw [et, ← hg]
        rfl
    · obtain ⟨y2, y3, y4, rfl, rfl⟩ := h
      rw [lw, List.take_length]
      exact ⟨_, rfl, q⟩
end

end Fb

namespace Fb
open PySem PySem.Spec PyProof.Rows L2
section
variable {P : Program} {w : World} {K : PySem.W.Frag} {mg : Str → Option Value} {base : Heap}
/-! ### the law's own step -/
/-- numbers of two figures at most do where they are below a hundred -/
theorem num_two {z : Str} {m : Nat} (m12 : m ≤ 100) : (figB z 2 = true ∧ valW z < m) ↔ (numW z 100 = some (valW z) ∧ valW z < m) := by
  unfold numW
  constructor
  · rintro ⟨h, l⟩
    rw [if_pos (figB_more h (by decide))]
    exact ⟨rfl, l⟩
  · rintro ⟨h, l⟩
    refine ⟨?_, l⟩
    split at h
    · rename_i hf
      exact figB_two hf (by omega)
    · cases h
/-- what the law's step tells: where it stops, or the step -/
def dueAt (ws : List Str) (m a : Nat) (last : Option Stp) : Except Nat Stp := match stepAt ws m a with
  | .error e => .error e
  | .ok s => if goodB last s = true then .ok s else .error (a + 2 + m)
def IsLast (H : Hp) (v : V) (o : Option Stp) : Prop := match o with
  | none => v = .non
  | some t => IsStp H v t
theorem numAt_is {ws : List Str} {j k : Nat} (h : numAt ws j = .ok k) : ∃ z, ws[j]? = some z ∧ figB z 100 = true ∧ k = valW z := by
  unfold numAt at h
  split at h
  · cases h
  · rename_i z hz
    split at h
    · cases h
    · rename_i n hn
      cases h
      unfold numW at hn
      split at hn
      · rename_i hf
        cases hn
        exact ⟨z, hz, hf, rfl⟩
      · cases hn
theorem cut_mid {ws : List Str} {a m : Nat} (h : a + m ≤ ws.length) : cutV (ws.map V.str) (some (a : Int)) (some ((a : Int) + (m : Int))) = ((ws.drop a).take m).map V.str := by
  unfold cutV
  rw [← Int.natCast_add, HT.sIx_nat, HT.sIx_nat, List.length_map, Nat.min_eq_left (show a ≤ ws.length by omega), Nat.min_eq_left h, Nat.add_sub_cancel_left, List.map_take, List.map_drop]
def spStepL : Sp := fun vs H Q _ => ∃ (p : Addr) (ws : List Str) (a m : Nat) (v : V) (o : Option Stp), vs = [.ref p, .int a, .int m, v] ∧ H p = some (.lst (ws.map V.str)) ∧ WsOk ws ∧ a < ws.length ∧ 1 ≤ m ∧ m ≤ 12 ∧ IsLast H v o ∧
  (∀ e H' t d, dueAt ws m a o = .error e → Same H H' → min d ws.length = e → H' t = some (.tup [.int (d : Nat), .non]) → Q (.ref t) H') ∧
  (∀ s H' t v', dueAt ws m a o = .ok s → Same H H' → H' t = some (.tup [.non, v']) → IsStp H' v' s → Q (.ref t) H')
set_option maxHeartbeats 800000 in
theorem ok_l_step (T : Txt K mg) : FnOk P w K mg base CX0 2 T.f_l_step T.d_l_step ["_law_words_here", "_law_at", "_law_many", "_law_last"] spStepL := by
  refine T.F_l_step.ok sc_l_step (fun vs H Q E h => ?_) (fun cdv A outer s H vs Q E hr h => ?_)
  · obtain ⟨p, ws, a, m, v, o, rfl, _⟩ := h
    rfl
  · obtain ⟨p, ws, a, m, v, o, rfl, hp, wo, al, m1, m12, lo, qe, q⟩ := h
    refine ⟨_, (pss_cons (ps_if (PW.pt (pw_or (pt_cmpR op_ge (pv 1) (pe_callB call_len_seq (by rfl) T.z_len (by decide +kernel) (pa_cons (pv 0) pa_nil)) (nomark _)) (pw_or1 (pt_cmpR op_ne (pe_ix ix_list (pv 0) (pv 1) (fun _ _ => rfl)) pe_str (nomark _)))))
  (pss_one (ps_ret (pe_tup (pa_cons (pv 1) (pa_cons pe_non pa_nil)))))
  pss_nil)
 (pss_cons (ps_if (PW.pt (pw_or (pt_cmpR op_ge (pe_op op_add (pv 1) pe_int) (pe_callB call_len_seq (by rfl) T.z_len (by decide +kernel) (pa_cons (pv 0) pa_nil)) (nomark _)) (pw_or (pt_not (pt_val (pe_call (ok_l_is_number T) (hr.mono (by decide)) (by rfl) T.g_l_is_number T.F_l_is_number.kp T.b_l_is_number .nil pass0 (pa_cons (pe_ix ix_list (pv 0) (pe_op op_add (pv 1) pe_int) (fun _ _ => rfl)) (pa_cons pe_int pa_nil))))) (pw_or1 (pt_cmpR op_ge (pe_callTy call_int_str (by rfl) T.z_int (by decide +kernel) (pa_cons (pe_ix ix_list (pv 0) (pe_op op_add (pv 1) pe_int) (fun _ _ => rfl)) pa_nil)) (pv 2) (nomark _))))))
  (pss_one (ps_ret (pe_tup (pa_cons (pe_op op_add (pv 1) pe_int) (pa_cons pe_non pa_nil)))))
  pss_nil)
 (pss_cons (ps_if (PW.pt (pw_or (pt_cmpR op_ge (pe_op op_add (pv 1) pe_int) (pe_callB call_len_seq (by rfl) T.z_len (by decide +kernel) (pa_cons (pv 0) pa_nil)) (nomark _)) (pw_or1 (pt_not (pt_val (pe_call (ok_l_is_sign T) (hr.mono (by decide)) (by rfl) T.g_l_is_sign T.F_l_is_sign.kp T.b_l_is_sign .nil pass0 (pa_cons (pe_ix ix_list (pv 0) (pe_op op_add (pv 1) pe_int) (fun _ _ => rfl)) pa_nil)))))))
  (pss_one (ps_ret (pe_tup (pa_cons (pe_op op_add (pv 1) pe_int) (pa_cons pe_non pa_nil)))))
  pss_nil)
 (pss_cons (ps_for PassesOwn.never rfl (pi_range2 (by rfl) T.z_range (pa_cons (pe_op op_add (pv 1) pe_int) (pa_cons (pe_op op_add (pe_op op_add (pv 1) pe_int) (pv 2)) pa_nil))) (pg_name (i := 4) sc_l_step.nd rfl (.inl rfl))
  (pss_one (ps_if (PW.pt (pw_or (pt_cmpR op_ge (pv 4) (pe_callB call_len_seq (by rfl) T.z_len (by decide +kernel) (pa_cons (pv 0) pa_nil)) (nomark _)) (pw_or1 (pt_not (pt_val (pe_call (ok_l_is_number T) (hr.mono (by decide)) (by rfl) T.g_l_is_number T.F_l_is_number.kp T.b_l_is_number .nil pass0 (pa_cons (pe_ix ix_list (pv 0) (pv 4) (fun _ _ => rfl)) (pa_cons pe_int pa_nil))))))))
  (pss_one (ps_ret (pe_tup (pa_cons (pv 4) (pa_cons pe_non pa_nil)))))
  pss_nil)))
 (pss_cons (ps_set (i := 5) sc_l_step.nd rfl (.inl rfl) (pe_tup (pa_cons (pe_callTy call_int_str (by rfl) T.z_int (by decide +kernel) (pa_cons (pe_ix ix_list (pv 0) (pe_op op_add (pv 1) pe_int) (fun _ _ => rfl)) pa_nil)) (pa_cons (pe_ix ix_list (pv 0) (pe_op op_add (pv 1) pe_int) (fun _ _ => rfl)) (pa_cons (pe_callTy call_tuple_of (by rfl) T.z_tuple (by decide +kernel) (pa_cons (pe_lc (own := [("_law_word", 6)]) (g := (gName 6)) (tt := tYes) (by rfl) sc_l_step.nd (pi_list (pe_slice sl_list (pv 0) (po_some (pe_op op_add (pv 1) pe_int)) (po_some (pe_op op_add (pe_op op_add (pv 1) pe_int) (pv 2))))) (blkOk_by (own := [("_law_word", 6)]) (N := ["_law_words_here", "_law_at", "_law_many", "_law_last", "_law_place", "_law_step_here", "_law_word"]) (sc := defScope s_l_step) (by decide +kernel)) (fun _ _ _ _ _ => by exact (pg_name (i := 6) sc_l_step.nd rfl (.inl rfl))) (fun _ _ _ _ _ => by exact pts_nil) (fun _ _ _ _ _ => by exact (pe_callTy call_int_str (by rfl) T.z_int (by decide +kernel) (pa_cons (pv 6) pa_nil)))) pa_nil)) pa_nil)))))
 (pss_cons (ps_if (PW.pt (pw_or (pt_cmpR op_ne (pe_call (ok_l_divides T) (hr.mono (by decide)) (by rfl) T.g_l_divides T.F_l_divides.kp T.b_l_divides .nil pass0 (pa_cons (pe_ix ix_tup (pv 5) pe_int (fun _ _ => rfl)) pa_nil)) pe_int (nomark _)) (pw_or1 (PW.pt (pw_and (pt_cmpR op_notN (pv 3) pe_non (nomark _)) (pw_and1 (pt_cmpR (op_leRS hr.units0) (pe_slice sl_tup (pv 5) po_none (po_some pe_int)) (pe_slice sl_tup (pv 3) po_none (po_some pe_int)) (nomark _))))))))
  (pss_one (ps_ret (pe_tup (pa_cons (pe_op op_add (pe_op op_add (pv 1) pe_int) (pv 2)) (pa_cons pe_non pa_nil)))))
  pss_nil)
 (pss_one (ps_ret (pe_tup (pa_cons pe_non (pa_cons (pv 5) pa_nil))))))))))), ?_⟩
    have dE : ∀ e, stepAt ws m a = .error e → dueAt ws m a o = .error e := fun e h => by
      unfold dueAt
      rw [h]
    -- (d, None), told of what is amiss
    have no : ∀ (e d : Nat) H', stepAt ws m a = .error e → Same H H' → min d ws.length = e → ∀ t, H' t = none → Q (.ref t) (upd H' t (.tup [.int (d : Nat), .non])) := fun e d H' h s1 hd t nt => qe e _ t d (dE e h) (s1.trans (same_upd nt)) hd upd_same
    have z0 : ws[a]? = some (ws[a]'al) := List.getElem?_eq_getElem al
    refine ⟨_, rfl, _, rfl, p, _, rfl, .inl (SqL.of hp), _, _, rfl, rfl, _, rfl, ?_⟩
    rw [List.length_map, decide_eq_false (by omega)]
    refine iteF ?_
    refine ⟨_, rfl, _, rfl, p, _, _, _, rfl, rfl, SqL.of hp, atI_nat (by rw [List.getElem?_map, z0]; rfl), rfl, _, rfl, ?_⟩
    by_cases hb : ws[a]? = some ("/" : Str)
    · have hb' : ws[a]'al = "/" := Option.some.inj (z0.symm.trans hb)
      have eqR : ∀ x, restAt ws m a = x → stepAt ws m a = x := fun x h => by
        unfold stepAt
        rw [if_pos hb]
        exact h
      rw [hb', show (!decide (V.str "/" = V.str "/")) = false by rw [decide_eq_true rfl]; rfl]
      refine iteF ?_
      refine ⟨_, rfl, _, _, rfl, rfl, _, rfl, p, _, rfl, .inl (SqL.of hp), _, _, rfl, rfl, _, rfl, ?_⟩
      rw [List.length_map]
      cases h1 : ws[a + 1]? with
      | none =>
        have l1 := List.getElem?_eq_none_iff.mp h1
        rw [decide_eq_true (by omega)]
        refine iteT (iteT ⟨_, rfl, _, _, rfl, rfl, by show 2 ≤ sizeLine; decide, fun t nt => ?_⟩)
        exact no ws.length (a + 1) H (eqR _ (by simp only [restAt, roomAt, numAt, h1])) (Same.refl _) (by omega) t nt
      | some z1 =>
        have l1 := (List.getElem?_eq_some_iff.mp h1).1
        have lz1 := wo.lens z1 (List.mem_of_getElem? h1)
        rw [decide_eq_false (by omega)]
        refine iteF ?_
        have at1 : atI (ws.map V.str) ((a : Int) + 1) = some (.str z1) := by
          rw [show ((a : Int) + 1) = ((a + 1 : Nat) : Int) from rfl]
          exact atI_nat (by rw [List.getElem?_map, h1]; rfl)
        refine ⟨_, rfl, _, rfl, _, _, rfl, rfl, p, _, _, _, rfl, rfl, SqL.of hp, at1, z1, 2, rfl, by decide, lz1, fun H1 s1 => ⟨_, rfl, ?_⟩⟩
        by_cases f1 : figB z1 2 = true
        · rw [f1]
          refine iteF ?_
          have len2 := (figB_len f1).2.1
          refine ⟨_, rfl, _, rfl, _, _, rfl, rfl, p, _, _, _, rfl, rfl, SqL.of (s1 _ _ hp), at1, z1, _, rfl, int_of f1 (by decide), by omega, _, rfl, _, _, rfl, rfl, _, rfl, ?_⟩
          have nw : numW z1 100 = some (valW z1) := by unfold numW; rw [if_pos (figB_more f1 (by decide))]
          by_cases vm : valW z1 < m
          · rw [decide_eq_false (by omega)]
            refine iteF ?_
            have hroom : roomAt ws m (a + 1) = .ok (valW z1) := by simp only [roomAt, numAt, h1, nw, if_pos vm]
            refine ⟨_, rfl, _, _, rfl, rfl, _, rfl, p, _, rfl, .inl (SqL.of (s1 _ _ hp)), _, _, rfl, rfl, _, rfl, ?_⟩
            rw [List.length_map]
            cases h2 : ws[a + 2]? with
            | none =>
              have l2 := List.getElem?_eq_none_iff.mp h2
              rw [decide_eq_true (by omega)]
              refine iteT (iteT ⟨_, rfl, _, _, rfl, rfl, by show 2 ≤ sizeLine; decide, fun t nt => ?_⟩)
              exact no ws.length (a + 2) H1 (eqR _ (by simp only [restAt, hroom, signAt, h2])) s1 (by omega) t nt
            | some z2 =>
              have l2 := (List.getElem?_eq_some_iff.mp h2).1
              rw [decide_eq_false (by omega)]
              refine iteF ?_
              have at2 : atI (ws.map V.str) ((a : Int) + 2) = some (.str z2) := by
                rw [show ((a : Int) + 2) = ((a + 2 : Nat) : Int) from rfl]
                exact atI_nat (by rw [List.getElem?_map, h2]; rfl)
              refine ⟨_, rfl, _, rfl, _, _, rfl, rfl, p, _, _, _, rfl, rfl, SqL.of (s1 _ _ hp), at2, z2, rfl, wo.lens z2 (List.mem_of_getElem? h2), fun H2 s2 => ⟨_, rfl, ?_⟩⟩
              have s12 := s1.trans s2
              by_cases nb : nmB z2 = true
              · rw [nb]
                refine iteF ?_
                have hsign : signAt ws (a + 2) = .ok z2 := by simp only [signAt, h2, if_pos nb]
                have hp2 := s12 _ _ hp
                refine ⟨_, rfl, _, _, rfl, rfl, _, rfl, _, _, rfl, rfl, _, rfl, _, _, rfl, rfl, _, _, rfl, ⟨by omega, by have := wo.few; omega, by omega, by have := wo.few; omega⟩, for_range (fun i σ H' => ∃ y4 y5 y6, σ = [some (.ref p), some (.int (a : Nat)), some (.int (m : Nat)), some v, y4, y5, y6] ∧ Same H2 H' ∧ ∀ j, j < i → ∃ k, numAt ws (a + 3 + j) = .ok k) ⟨_, _, _, rfl, Same.refl _, fun j hj => absurd hj (Nat.not_lt_zero _)⟩ (fun i σ H' hi h => ?_) (fun σ H' h => ?_)⟩
                · obtain ⟨y4, y5, y6, rfl, s3, hj⟩ := h
                  have im : i < m := by omega
                  have hp3 := s3 _ _ hp2
                  have ev : ((a : Int) + 3 + (i : Int)) = ((a + 3 + i : Nat) : Int) := rfl
                  refine ⟨_, rfl, _, rfl, p, _, rfl, .inl (SqL.of hp3), _, _, rfl, rfl, _, rfl, ?_⟩
                  rw [List.length_map]
                  have bad : ∀ e, numAt ws (a + 3 + i) = .error e → stepAt ws m a = .error e := fun e he => eqR _ (by
                    have hw := wts_err (ws := ws) (e := e) (m := m) (a := a + 3) (i := i) im hj he
                    simp only [restAt, hroom, hsign, hw])
                  cases h3 : ws[a + 3 + i]? with
                  | none =>
                    have l3 := List.getElem?_eq_none_iff.mp h3
                    have l0 : a + 3 + i = ws.length ∨ ws.length < a + 3 + i := by omega
                    rw [decide_eq_true (by omega)]
                    refine iteT (iteT ⟨_, rfl, by show 2 ≤ sizeLine; decide, fun t nt => ?_⟩)
                    exact no ws.length (a + 3 + i) _ (bad _ (by unfold numAt; rw [h3])) (s12.trans s3) (by omega) t nt
                  | some z3 =>
                    have l3 := (List.getElem?_eq_some_iff.mp h3).1
                    rw [decide_eq_false (by omega)]
                    refine iteF ?_
                    have at3 : atI (ws.map V.str) ((a : Int) + 3 + (i : Int)) = some (.str z3) := by
                      rw [ev]
                      exact atI_nat (by rw [List.getElem?_map, h3]; rfl)
                    refine ⟨_, rfl, _, rfl, p, _, _, _, rfl, rfl, SqL.of hp3, at3, z3, 100, rfl, by decide, wo.lens z3 (List.mem_of_getElem? h3), fun H4 s4 => ⟨_, rfl, ?_⟩⟩
                    by_cases f3 : figB z3 100 = true
                    · rw [f3]
                      refine iteF ⟨_, _, _, rfl, s3.trans s4, fun j hj' => ?_⟩
                      by_cases ej : j = i
                      · subst ej
                        exact ⟨valW z3, by simp only [numAt, h3, numW, if_pos f3]⟩
                      · exact hj j (by omega)
                    · rw [Bool.not_eq_true] at f3
                      rw [f3]
                      refine iteT ⟨_, rfl, by show 2 ≤ sizeLine; decide, fun t nt => ?_⟩
                      exact no (a + 3 + i) (a + 3 + i) _ (bad _ (by simp only [numAt, h3, numW, f3, Bool.false_eq_true, if_false])) (s12.trans (s3.trans s4)) (by omega) t nt
                · obtain ⟨y4, y5, y6, rfl, s3, hj⟩ := h
                  have hj : ∀ j, j < m → ∃ k, numAt ws (a + 3 + j) = .ok k := fun j h => hj j (by omega)
                  have s03 := s12.trans s3
                  have hp3 := s03 _ _ hp
                  have end' : a + 3 + m ≤ ws.length := by
                    obtain ⟨k, hk⟩ := hj (m - 1) (by omega)
                    have := numAt_in hk
                    omega
                  refine ⟨_, rfl, _, rfl, _, _, rfl, rfl, p, _, _, _, rfl, rfl, SqL.of hp3, at1, z1, _, rfl, int_of f1 (by decide), by omega, ?_⟩
                  refine ⟨_, rfl, _, rfl, _, _, rfl, rfl, p, _, _, _, rfl, rfl, SqL.of hp3, at2, ?_⟩
                  refine ⟨_, rfl, _, rfl, _, _, rfl, rfl, _, rfl, _, rfl, _, _, rfl, rfl, _, rfl, _, _, rfl, rfl, _, rfl, p, _, rfl, SqL.of hp3, fun c5 n5 => ?_⟩
                  rw [show ((a : Int) + 3) = ((a + 3 : Nat) : Int) from rfl, cut_mid end']
                  generalize hcv : (ws.drop (a + 3)).take m = cv
                  have cl : cv.length = m := by rw [← hcv, List.length_take, List.length_drop]; omega
                  have ca : ∀ j, j < m → cv[j]? = ws[a + 3 + j]? := fun j h => by rw [← hcv, List.getElem?_take, if_pos h, List.getElem?_drop]
                  have x5 := same_upd (o := .lst (cv.map V.str)) n5
                  have e5 : (upd H' c5 (.lst (cv.map V.str))) c5 = some (.lst (cv.map V.str)) := upd_same
                  refine ⟨c5, rfl, ⟨_, SqL.of e5⟩, fun D nD => lc_allW (walk_list (K := K) (a := c5) (xs := cv.map V.str)) (fun i y _ => ∃ k : Nat, numAt ws (a + 3 + i) = .ok k ∧ y = .int (k : Nat)) (fun _ _ _ _ _ h => h) nD (fun H' s => SqL.of (s _ _ e5)) (by rw [List.length_map]; omega) (fun i x H6 H7 kk hi s6 eD y hk => ?_) (fun H6 ys s6 e6 l6 r6 => ?_)⟩
                  · obtain ⟨rfl, hv⟩ := y
                    rw [List.length_map] at hi
                    obtain ⟨k, hk'⟩ := hj i (by omega)
                    obtain ⟨z3, h3, f3, rfl⟩ := numAt_is hk'
                    rw [List.getElem?_map, ca i (by omega), h3] at hv
                    cases hv
                    exact ⟨rfl, _, rfl, z3, _, rfl, int_of f3 (by decide), by have := (figB_len f3).2.1; omega, hk _ _ (Same.refl _) ⟨_, hk', rfl⟩⟩
                  · obtain ⟨l, rfl, hl⟩ := nats_of (R := fun j k => numAt ws (a + 3 + j) = .ok k) r6
                    rw [nts_len, List.length_map, cl] at l6
                    have hw : wtsAt ws (a + 3) m = .ok l := by
                      rw [← l6]
                      exact wts_all hl
                    have hst : stepAt ws m a = .ok ⟨valW z1, z2, l⟩ := eqR _ (by simp only [restAt, hroom, hsign, hw])
                    have s06 := s03.trans (x5.trans (s6.trans hid_same))
                    refine ⟨D, _, rfl, .inl ⟨SqL.of e6, fun wa nwa => ?_⟩⟩
                    have x6 := same_upd (o := .tup (nts l)) nwa
                    have ew : (upd H6 wa (.tup (nts l))) wa = some (.tup (nts l)) := upd_same
                    generalize upd H6 wa (.tup (nts l)) = H8 at *
                    refine ⟨by show 3 ≤ sizeLine; decide, fun t nt => ?_⟩
                    have x7 := same_upd (o := .tup [.int (valW z1 : Nat), .str z2, .ref wa]) nt
                    have et : (upd H8 t (.tup [.int (valW z1 : Nat), .str z2, .ref wa])) t = some (.tup [.int (valW z1 : Nat), .str z2, .ref wa]) := upd_same
                    have ew := x7 _ _ ew
                    have s09 := s06.trans (x6.trans x7)
                    generalize upd H8 t (.tup [.int (valW z1 : Nat), .str z2, .ref wa]) = H9 at *
                    clear x5 e5 x6 x7 s6 e6 r6
                    refine ⟨_, rfl, t, _, 2, _, rfl, rfl, .inl (.inl et), rfl, wa, l, rfl, ew, rfl, _, rfl, ?_⟩
                    have bad : goodB o ⟨valW z1, z2, l⟩ = false → ∀ H10, Same H H10 → ∀ u, H10 u = none → Q (.ref u) (upd H10 u (.tup [.int ((a + 2 + m : Nat) : Int), .non])) := fun hg H10 s10 u nu => qe (a + 2 + m) _ u (a + 2 + m) (by unfold dueAt; simp only [hst, hg, Bool.false_eq_true, if_false]) (s10.trans (same_upd nu)) (by omega) upd_same
                    have good : goodB o ⟨valW z1, z2, l⟩ = true → ∀ H10, Same H9 H10 → ∀ u, H10 u = none → Q (.ref u) (upd H10 u (.tup [.non, .ref t])) := fun hg H10 s10 u nu => q ⟨valW z1, z2, l⟩ _ u (.ref t) (by unfold dueAt; simp only [hst, if_pos hg]) (s09.trans (s10.trans (same_upd nu))) upd_same ⟨t, wa, rfl, same_upd nu _ _ (s10 _ _ et), same_upd nu _ _ (s10 _ _ ew)⟩
                    have av : ((a : Int) + 2 + (m : Int)) = ((a + 2 + m : Nat) : Int) := rfl
                    by_cases g : gcdF 0 l = 1
                    · rw [g, show (!decide (V.int ((1 : Nat) : Int) = V.int 1)) = false from rfl]
                      refine iteF ?_
                      cases o with
                      | none =>
                        cases lo
                        refine ⟨_, rfl, rfl, _, rfl, iteF (iteF ⟨_, rfl, by show 2 ≤ sizeLine; decide, fun u nu => ?_⟩)⟩
                        exact good (by rw [goodB_is, decide_eq_true g]; rfl) H9 (Same.refl _) u nu
                      | some t0 =>
                        obtain ⟨q0, wa0, rfl, hq0, hwa0⟩ := IsStp.mono lo s09
                        refine ⟨_, rfl, rfl, _, rfl, iteT ?_⟩
                        refine ⟨_, rfl, 2, rfl, t, _, rfl, .inl (.inl et), ?_, fun p1 np1 => ?_⟩
                        · intro z
                          exact absurd (show HT.sIx 3 3 (some 2) = 3 from z.2) (by decide)
                        have y1 := same_upd (o := .tup [.int (valW z1 : Nat), .str z2]) np1
                        refine ⟨_, rfl, 2, rfl, q0, _, rfl, .inl (.inl (y1 _ _ hq0)), ?_, fun p2 np2 => ?_⟩
                        · intro z
                          exact absurd (show HT.sIx 3 3 (some 2) = 3 from z.2) (by decide)
                        have y2 := same_upd (o := .tup [.int (t0.room : Nat), .str t0.sign]) np2
                        have y12 := y1.trans y2
                        refine ⟨p1, p2, ((valW z1 : Nat), z2), t0.key, rfl, rfl, .inl (.inl (y2 _ _ upd_same)), .inl (.inl upd_same), ?_⟩
                        have gb : goodB (some t0) ⟨valW z1, z2, l⟩ = rsLt t0.key ((valW z1 : Nat), z2) := by
                          rw [goodB_is, decide_eq_true g]
                          rfl
                        refine ⟨_, rfl, ?_⟩
                        cases hk : rsLt t0.key ((valW z1 : Nat), z2) with
                        | true => exact iteF ⟨_, rfl, by show 2 ≤ sizeLine; decide, fun u nu => good (gb.trans hk) _ y12 u nu⟩
                        | false =>
                          refine iteT ⟨_, rfl, _, _, rfl, rfl, _, rfl, _, _, rfl, rfl, by show 2 ≤ sizeLine; decide, fun u nu => ?_⟩
                          exact bad (gb.trans hk) _ (s09.trans y12) u nu
                    · rw [show (!decide (V.int ((gcdF 0 l : Nat) : Int) = V.int 1)) = true by rw [decide_eq_false (fun e => g (by have := V.int.inj e; omega))]; rfl]
                      refine iteT (iteT ⟨_, rfl, _, _, rfl, rfl, _, rfl, _, _, rfl, rfl, by show 2 ≤ sizeLine; decide, fun u nu => ?_⟩)
                      exact bad (by rw [goodB_is, decide_eq_false g, Bool.false_and]) H9 s09 u nu
              · rw [Bool.not_eq_true] at nb
                rw [nb]
                refine iteT ⟨_, rfl, _, _, rfl, rfl, by show 2 ≤ sizeLine; decide, fun t nt => ?_⟩
                exact no (a + 2) (a + 2) H2 (eqR _ (by simp only [restAt, hroom, signAt, h2, nb, Bool.false_eq_true, if_false])) s12 (by omega) t nt
          · rw [decide_eq_true (by omega)]
            refine iteT ⟨_, rfl, _, _, rfl, rfl, by show 2 ≤ sizeLine; decide, fun t nt => ?_⟩
            exact no (a + 1) (a + 1) H1 (eqR _ (by simp only [restAt, roomAt, numAt, h1, nw, if_neg vm])) s1 (by omega) t nt
        · rw [Bool.not_eq_true] at f1
          rw [f1]
          refine iteT (iteT ⟨_, rfl, _, _, rfl, rfl, by show 2 ≤ sizeLine; decide, fun t nt => ?_⟩)
          refine no (a + 1) (a + 1) H1 (eqR _ ?_) s1 (by omega) t nt
          simp only [restAt, roomAt, numAt, h1]
          cases hn : numW z1 100 with
          | none => rfl
          | some n =>
            have hn' := hn
            unfold numW at hn'
            split at hn'
            · rename_i hf
              cases hn'
              have nv : ¬ valW z1 < m := fun h => by
                rw [figB_two hf (by omega)] at f1
                cases f1
              simp only [if_neg nv]
            · cases hn'
    · have hb' : V.str (ws[a]'al) ≠ V.str "/" := fun e => hb (by rw [z0, V.str.inj e])
      rw [show (!decide (V.str (ws[a]'al) = V.str "/")) = true by rw [decide_eq_false hb']; rfl]
      refine iteT ⟨_, rfl, by show 2 ≤ sizeLine; decide, fun t nt => ?_⟩
      exact no a a H (by unfold stepAt; rw [if_neg hb]) (Same.refl _) (by omega) t nt
end

end Fb

namespace Fb
open PySem PySem.Spec PyProof.Rows L2
section
variable {P : Program} {w : World} {K : PySem.W.Frag} {mg : Str → Option Value} {base : Heap}
/-! ### what is due of a text -/
theorem atI_neg {α : Type} {xs : List α} {k : Nat} {v : α} (k1 : 1 ≤ k) (kl : k ≤ xs.length) (h : xs[xs.length - k]? = some v) : atI xs (-(k : Int)) = some v := by
  have e : L2.ixN xs.length (-(k : Int)) = some (xs.length - k) := by
    unfold L2.ixN
    rw [if_neg (by omega), if_pos (by omega)]
    congr 1
    omega
  unfold atI
  rw [e]
  exact h
/-- the last of some steps, or None -/
theorem last_at {H : Hp} {us : List V} {acc : List Stp} (av : AllAre (IsStp H) us acc) : ∃ v, atI (us ++ [V.non]) (-1 - (if (!us.isEmpty) = true then 1 else 0 : Int)) = some v ∧ IsLast H v acc.getLast? := by
  by_cases hu : us = []
  · subst hu
    have es : acc = [] := List.length_eq_zero_iff.mp av.1.symm
    subst es
    exact ⟨.non, atI_neg (k := 1) (by decide) (by decide) rfl, rfl⟩
  · have pos : 0 < us.length := List.length_pos_iff.mpr hu
    have hl : us[us.length - 1]? = some (us[us.length - 1]'(by omega)) := List.getElem?_eq_getElem _
    obtain ⟨s0, hs0, is⟩ := av.at hl
    rw [av.1] at hs0
    have last : acc.getLast? = some s0 := by rw [List.getLast?_eq_getElem?]; exact hs0
    have he : us.isEmpty = false := by cases us with | nil => exact absurd rfl hu | cons a l => rfl
    refine ⟨_, ?_, by rw [last]; exact is⟩
    rw [he]
    refine atI_neg (k := 2) (by decide) (by rw [List.length_append]; show 2 ≤ _ + 1; omega) ?_
    rw [List.length_append, show us.length + [V.non].length - 2 = us.length - 1 by show us.length + 1 - 2 = _; omega, List.getElem?_append_left (by omega)]
    exact hl
theorem due_goes {ws : List Str} {m f a : Nat} {acc : List Stp} {RR : Except Nat (List Stp)} (ef : (match stepAt ws m a with
      | .error e => Except.error e
      | .ok s => if goodB acc.getLast? s = true then parseF ws m f (a + 3 + m) (acc ++ [s]) else .error (a + 2 + m)) = RR) : (∀ e, dueAt ws m a acc.getLast? = .error e → RR = .error e) ∧ ∀ s, dueAt ws m a acc.getLast? = .ok s → stepAt ws m a = .ok s ∧ parseF ws m f (a + 3 + m) (acc ++ [s]) = RR := by
  unfold dueAt
  cases hst : stepAt ws m a with
  | error e =>
    rw [hst] at ef
    refine ⟨fun e' h => ?_, fun s h => by cases h⟩
    cases h
    exact ef.symm
  | ok s =>
    rw [hst] at ef
    have ef : (if goodB acc.getLast? s = true then parseF ws m f (a + 3 + m) (acc ++ [s]) else .error (a + 2 + m)) = RR := ef
    by_cases g : goodB acc.getLast? s = true
    · rw [if_pos g] at ef
      simp only [if_pos g]
      refine ⟨fun e' h => by (cases h), fun s' h => ?_⟩
      cases h
      exact ⟨rfl, ef⟩
    · rw [if_neg g] at ef
      simp only [if_neg g]
      refine ⟨fun e' h => ?_, fun s' h => by (cases h)⟩
      cases h
      exact ef.symm
def spDueT : Sp := fun vs H Q _ => ∃ (z : Str) (ws : List Str), vs = [.str z] ∧ TxOk z ws ∧
  (∀ e H' t, parse ws = .error e → Same H H' → H' t = some (.tup [.str "text", .int (e : Nat)]) → Q (.ref t) H') ∧
  (∀ m l H' t t2 p us, parse ws = .ok (m, l) → Same H H' → H' t = some (.tup [.str "read", .ref t2]) → H' t2 = some (.tup [.int (m : Nat), .ref p]) → H' p = some (.lst us) → AllAre (IsStp H') us l → Q (.ref t) H')
set_option maxHeartbeats 800000 in
theorem ok_l_due (T : Txt K mg) : FnOk P w K mg base CX0 3 T.f_l_due T.d_l_due ["_law_text"] spDueT := by
  refine T.F_l_due.ok sc_l_due (fun vs H Q E h => ?_) (fun cdv A outer s H vs Q E hr h => ?_)
  · obtain ⟨z, ws, rfl, _⟩ := h
    rfl
  · obtain ⟨z, ws, rfl, tx, qe, q⟩ := h
    refine ⟨_, (pss_cons (ps_set (i := 1) sc_l_due.nd rfl (.inl rfl) (pe_m1 PySem.F.slot_str_split PySem.F.type_str_split mt_split (pv 0) pe_str))
 (pss_cons (ps_if (PW.pt (pw_or (pt_not (pt_val (pe_call (ok_l_is_number T) (hr.mono (by decide)) (by rfl) T.g_l_is_number T.F_l_is_number.kp T.b_l_is_number .nil pass0 (pa_cons (pe_ix ix_list (pv 1) pe_int (fun _ _ => rfl)) (pa_cons pe_int pa_nil))))) (pw_or1 (pt_not (pt_chain op_le op_le pe_int (pe_callTy call_int_str (by rfl) T.z_int (by decide +kernel) (pa_cons (pe_ix ix_list (pv 1) pe_int (fun _ _ => rfl)) pa_nil)) pe_int)))))
  (pss_one (ps_ret (pe_tup (pa_cons pe_str (pa_cons pe_int pa_nil)))))
  pss_nil)
 (pss_cons (ps_set (i := 2) sc_l_due.nd rfl (.inl rfl) (pe_callTy call_int_str (by rfl) T.z_int (by decide +kernel) (pa_cons (pe_ix ix_list (pv 1) pe_int (fun _ _ => rfl)) pa_nil)))
 (pss_cons (ps_set (i := 3) sc_l_due.nd rfl (.inl rfl) (pe_lst pa_nil))
 (pss_cons (ps_set (i := 4) sc_l_due.nd rfl (.inl rfl) pe_int)
 (pss_cons (ps_while PassesOwn.never (pt_cmpR op_lt (pv 4) (pe_callB call_len_seq (by rfl) T.z_len (by decide +kernel) (pa_cons (pv 1) pa_nil)) (nomark _))
  (pss_cons (ps_asg (pe_call (ok_l_step T) (hr.mono (by decide)) (by rfl) T.g_l_step T.F_l_step.kp T.b_l_step .nil pass0 (pa_cons (pv 1) (pa_cons (pv 4) (pa_cons (pv 2) (pa_cons (pe_ix ix_list (pe_op op_cat (pv 3) (pe_lst (pa_cons pe_non pa_nil))) (pe_op op_sub (pe_un un_neg pe_int) (pe_callTy call_int1 (by rfl) T.z_int (by decide +kernel) (pa_cons (pe_cmpR (op_neNil hr.units0) (pv 3) (pe_lst pa_nil) (nomark _)) pa_nil))) (fun _ _ => rfl)) pa_nil))))) (pg_tup (by rfl) (pgs_cons (pg_name (i := 5) sc_l_due.nd rfl (.inl rfl)) (pgs_cons (pg_name (i := 6) sc_l_due.nd rfl (.inl rfl)) pgs_nil))))
 (pss_cons (ps_if (pt_cmpR op_isN (pv 6) pe_non (nomark _))
  (pss_one (ps_ret (pe_tup (pa_cons pe_str (pa_cons (pe_callB (call_min2 rfl) (by rfl) T.z_min (by decide +kernel) (pa_cons (pv 5) (pa_cons (pe_callB call_len_seq (by rfl) T.z_len (by decide +kernel) (pa_cons (pv 1) pa_nil)) pa_nil))) pa_nil)))))
  pss_nil)
 (pss_cons (ps_expr (pe_bm PySem.F.plainAttrs_list PySem.F.slot_list_append PySem.F.type_list_append mt_append (pv 3) (pa_cons (pv 6) pa_nil)))
 (pss_one (ps_set (i := 4) sc_l_due.nd rfl (.inl rfl) (pe_op op_add (pe_op op_add (pv 4) pe_int) (pv 2))))))))
 (pss_one (ps_ret (pe_tup (pa_cons pe_str (pa_cons (pe_tup (pa_cons (pv 2) (pa_cons (pv 3) pa_nil))) pa_nil))))))))))), ?_⟩
    have wo := tx.ws
    refine ⟨_, rfl, ⟨_, rfl⟩, z, " ", rfl, rfl, by decide, tx.len, fun wp nwp => ?_⟩
    rw [tx.split]
    have t1 := same_upd (o := .lst (ws.map V.str)) nwp
    have hw1 : (upd H wp (.lst (ws.map V.str))) wp = some (.lst (ws.map V.str)) := upd_same
    generalize upd H wp (.lst (ws.map V.str)) = H1 at *
    obtain ⟨z0, hz0⟩ : ∃ z0, ws[0]? = some z0 := ⟨_, List.getElem?_eq_getElem (List.length_pos_iff.mpr tx.ne)⟩
    have at0' : atI (ws.map V.str) 0 = some (.str z0) := atI_nat (j := 0) (by rw [List.getElem?_map, hz0]; rfl)
    have lz0 := wo.lens z0 (List.mem_of_getElem? hz0)
    have no : ∀ H', parse ws = .error 0 → Same H H' → ∀ t, H' t = none → Q (.ref t) (upd H' t (.tup [.str "text", .int 0])) := fun H' h s1 t nt => qe 0 _ t h (s1.trans (same_upd nt)) upd_same
    refine ⟨_, rfl, wp, _, 0, _, rfl, rfl, SqL.of hw1, at0', z0, 2, rfl, by decide, lz0, fun H2 s2 => ⟨_, rfl, ?_⟩⟩
    have s02 := t1.trans s2
    have hw2 := s2 _ _ hw1
    by_cases f0 : figB z0 2 = true
    · rw [f0]
      refine iteF ?_
      have len2 := (figB_len f0).2.1
      have nw : numW z0 100 = some (valW z0) := by unfold numW; rw [if_pos (figB_more f0 (by decide))]
      obtain ⟨m, hm⟩ : ∃ m, m = valW z0 := ⟨_, rfl⟩
      have io : intText? z0 = some ((m : Nat) : Int) := by rw [hm]; exact int_of f0 (by decide)
      rw [← hm] at nw
      refine ⟨_, rfl, wp, _, 0, _, rfl, rfl, SqL.of hw2, at0', z0, _, rfl, io, by omega, _, _, rfl, rfl, _, rfl, ?_⟩
      by_cases m1 : 1 ≤ m
      · rw [decide_eq_true (show (1 : Int) ≤ (m : Int) by omega)]
        refine iteT ?_
        refine ⟨_, _, rfl, rfl, _, rfl, ?_⟩
        by_cases m12 : m ≤ 12
        · rw [decide_eq_true (show (m : Int) ≤ 12 by omega)]
          refine iteF ?_
          have pa : ∀ l, parseF ws m (ws.length + 1) 1 [] = .ok l → parse ws = .ok (m, l) := fun l h => by
            unfold parse
            simp only [hz0, nw, if_pos (And.intro m1 m12), h]
          have pe : ∀ e, parseF ws m (ws.length + 1) 1 [] = .error e → parse ws = .error e := fun e h => by
            unfold parse
            simp only [hz0, nw, if_pos (And.intro m1 m12), h]
          generalize hRR : parseF ws m (ws.length + 1) 1 [] = RR at pa pe
          refine ⟨_, rfl, wp, _, 0, _, rfl, rfl, SqL.of hw2, at0', z0, _, rfl, io, by omega, ?_⟩
          refine ⟨by show 0 ≤ sizeLine; decide, fun sp nsp => ?_⟩
          have es := @upd_same H2 sp (.lst [])
          have sps : Same H2 (upd H2 sp (.lst [])) := same_upd nsp
          generalize upd H2 sp (.lst []) = H3 at *
          have lp : 0 < ws.length := List.length_pos_iff.mpr tx.ne
          refine ⟨fun k σ H' => ∃ (a f : Nat) (acc : List Stp) (us : List V) (y5 y6 : Option V), k = ws.length - a ∧ a ≤ ws.length ∧ 4 * acc.length + 1 ≤ a ∧ ws.length - a < f ∧ parseF ws m f a acc = RR ∧ σ = [some (.str z), some (.ref wp), some (.int m), some (.ref sp), some (.int (a : Nat)), y5, y6] ∧ Same H2 H' ∧ H' sp = some (.lst us) ∧ AllAre (IsStp H') us acc, ⟨_, 1, ws.length + 1, [], [], _, _, rfl, lp, Nat.le_refl _, by omega, hRR, rfl, sps, es, .nil⟩, ?_⟩
          rintro k σ H' ⟨a, f, acc, us, y5, y6, rfl, al, a4, fa, ef, rfl, sH, eS, aS⟩
          obtain ⟨f, rfl⟩ : ∃ f', f = f' + 1 := ⟨f - 1, by omega⟩
          have ew' := sH _ _ hw2
          have few := tx.few
          have lu : us.length = acc.length := aS.1
          refine ⟨_, rfl, _, rfl, wp, _, rfl, .inl (SqL.of ew'), _, _, rfl, rfl, _, rfl, ?_⟩
          rw [List.length_map]
          unfold parseF at ef
          by_cases hj : a < ws.length
          · rw [if_pos hj] at ef
            rw [decide_eq_true (show (a : Int) < (ws.length : Int) by omega)]
            obtain ⟨dE, dO⟩ := due_goes ef
            obtain ⟨v, hv, lo⟩ := last_at aS
            refine iteT ⟨fun σ2 H2' => ∃ (st : Stp) (us : List V) (y5 y6 : Option V), stepAt ws m a = .ok st ∧ parseF ws m f (a + 3 + m) (acc ++ [st]) = RR ∧ σ2 = [some (.str z), some (.ref wp), some (.int m), some (.ref sp), some (.int ((a + 3 + m : Nat) : Int)), y5, y6] ∧ Same H2 H2' ∧ H2' sp = some (.lst us) ∧ AllAre (IsStp H2') us (acc ++ [st]), ?_, ?_⟩
            · rintro σ2 H2' ⟨st, us', y5', y6', hst, hg, e1, e2, e3, e4⟩
              have in' := (stepAt_ok hst).2.2.2.2
              refine ⟨ws.length - (a + 3 + m), by omega, a + 3 + m, f, acc ++ [st], us', y5', y6', rfl, in', ?_, by omega, hg, e1, e2, e3, e4⟩
              rw [List.length_append, List.length_singleton]
              omega
            refine ⟨_, rfl, _, rfl, _, rfl, _, rfl, by show 1 ≤ sizeLine; decide, fun c1 nc1 => ?_⟩
            have x1 := same_upd (o := .lst [.non]) nc1
            refine ⟨sp, c1, us, _, rfl, rfl, x1 _ _ eS, upd_same, Nat.le_of_lt (small1000 (by show _ + 1 ≤ 1000; omega)), fun c2 nc2 => ?_⟩
            have x2 := same_upd (o := .lst (us ++ [V.non])) nc2
            have e2 : (upd (upd H' c1 (.lst [.non])) c2 (.lst (us ++ [V.non]))) c2 = some (.lst (us ++ [V.non])) := upd_same
            have x12 := x1.trans x2
            generalize upd (upd H' c1 (.lst [.non])) c2 (.lst (us ++ [V.non])) = H5 at *
            refine ⟨1, rfl, _, rfl, Nat.zero_le _, fun c3 nc3 => ?_⟩
            have x3 := same_upd (o := .lst []) nc3
            have x13 := x12.trans x3
            have e3 := x3 _ _ e2
            refine ⟨sp, c3, us, rfl, rfl, SqL.of (x13 _ _ eS), sqL_new, .inr ⟨_, rfl, _, _, rfl, rfl, c2, _, _, _, rfl, rfl, SqL.of e3, hv, ?_⟩⟩
            refine ⟨wp, ws, a, m, v, acc.getLast?, rfl, x13 _ _ ew', wo, hj, m1, m12, ?_, fun e H6 t d he s6 hd et => ?_, fun st H6 t v' hst s6 et iv => ?_⟩
            · cases hL : acc.getLast? with
              | none =>
                rw [hL] at lo
                exact lo
              | some t0 =>
                rw [hL] at lo
                exact IsStp.mono lo x13
            · have s06 := s02.trans (sH.trans (x13.trans s6))
              have ew6 := s6 _ _ (x13 _ _ ew')
              refine ⟨t, _, rfl, .inl (.inl et), rfl, _, _, rfl, _, _, rfl, rfl, ?_⟩
              refine ⟨_, rfl, rfl, _, rfl, iteT ?_⟩
              refine ⟨_, rfl, _, rfl, wp, _, rfl, .inl (SqL.of ew6), _, _, rfl, by show 2 ≤ sizeLine; decide, fun t3 nt3 => ?_⟩
              rw [List.length_map]
              have em : (if (ws.length : Int) < (d : Int) then (ws.length : Int) else (d : Int)) = ((e : Nat) : Int) := by
                rw [← hd]
                split <;> omega
              rw [em]
              exact qe e _ t3 (pe e (dE e he)) (s06.trans (same_upd nt3)) upd_same
            · have s56 := x13.trans s6
              obtain ⟨hst', hpf⟩ := dO st hst
              refine ⟨t, _, rfl, .inl (.inl et), rfl, _, _, rfl, _, _, rfl, rfl, ?_⟩
              obtain ⟨tt, wa, rfl, htt, hwa⟩ := iv
              refine ⟨_, rfl, rfl, _, rfl, iteF ?_⟩
              have eS6 := s56 _ _ eS
              have aS6 := aS.imp fun _ _ h => h.mono s56
              refine ⟨_, rfl, .inl ⟨rfl, _, SqL.of eS6⟩, _, rfl, sp, us, _, rfl, rfl, eS6, small1000 (by omega), ?_⟩
              have tl : TS H6 (upd H6 sp (.lst (us ++ [.ref tt]))) := TS.lst eS6
              refine ⟨_, rfl, _, _, rfl, rfl, _, rfl, _, _, rfl, rfl, ?_⟩
              refine ⟨st, us ++ [.ref tt], some .non, some (.ref tt), hst', hpf, ?_, same_over (sH.trans s56) nsp, upd_same, ?_⟩
              · rfl
              · exact AllAre.snoc (aS6.imp fun _ _ h => h.ts tl) ⟨tt, wa, rfl, tl _ _ htt, tl _ _ hwa⟩
          · rw [if_neg hj] at ef
            rw [decide_eq_false (show ¬ (a : Int) < (ws.length : Int) by omega)]
            refine iteF ?_
            refine ⟨_, rfl, _, rfl, by show 2 ≤ sizeLine; decide, fun t2 nt2 => ⟨by show 2 ≤ sizeLine; decide, fun t nt => ?_⟩⟩
            have x1 := same_upd (o := .tup [.int (m : Nat), .ref sp]) nt2
            have x2 := same_upd (o := .tup [.str "read", .ref t2]) nt
            exact q m acc _ t t2 sp us (pa acc ef.symm) (s02.trans (sH.trans (x1.trans x2))) upd_same (x2 _ _ upd_same) (x2 _ _ (x1 _ _ eS)) (aS.imp fun _ _ h => h.mono (x1.trans x2))
        · rw [decide_eq_false (show ¬ (m : Int) ≤ 12 by omega)]
          exact iteT ⟨by show 2 ≤ sizeLine; decide, fun t nt => no H2 (by unfold parse; simp only [hz0, nw, if_neg (show ¬ (1 ≤ m ∧ m ≤ 12) by omega)]) s02 t nt⟩
      · rw [decide_eq_false (show ¬ (1 : Int) ≤ (m : Int) by omega)]
        exact iteF ⟨false, rfl, iteT ⟨by show 2 ≤ sizeLine; decide, fun t nt => no H2 (by unfold parse; simp only [hz0, nw, if_neg (show ¬ (1 ≤ m ∧ m ≤ 12) by omega)]) s02 t nt⟩⟩
    · rw [Bool.not_eq_true] at f0
      rw [f0]
      refine iteT (iteT ⟨by show 2 ≤ sizeLine; decide, fun t nt => no H2 ?_ s02 t nt⟩)
      unfold parse
      simp only [hz0]
      cases hn : numW z0 100 with
      | none => rfl
      | some n =>
        have hn' := hn
        unfold numW at hn'
        split at hn'
        · rename_i hf
          cases hn'
          have nv : ¬ (1 ≤ valW z0 ∧ valW z0 ≤ 12) := fun h => by
            rw [figB_two hf (by omega)] at f0
            cases f0
          simp only [if_neg nv]
        · cases hn'
end

end Fb

namespace Fb
open PySem PySem.Spec PyProof.Rows L2
section
variable {P : Program} {w : World} {K : PySem.W.Frag} {mg : Str → Option Value} {base : Heap}
/-! ### a machine's text (the mathematics of O3 and O4, for laws that do not show) -/
theorem txt_log {n : Nat} (h : n < 10 ^ 128) : ((n : Nat) : Int).natAbs.log2 < 1920 := by
  have h2 : ((n : Nat) : Int).natAbs < 2 ^ 500 := by
    rw [Int.natAbs_natCast]
    exact Nat.lt_of_lt_of_le h (by decide +kernel)
  exact Nat.lt_trans (PySem.Flt.log2_lt_of (by decide) h2) (by decide)
def wordsS (s : Stp) : List Str := [("/" : Str), txt s.room, s.sign] ++ s.ws.map txt
def wordsM (m : Nat) (out : List Stp) : List Str := txt m :: out.flatMap wordsS
def textM (m : Nat) (out : List Stp) : Str := Txt.join " " (wordsM m out)
structure TOk (m : Nat) (out : List Stp) : Prop where
  ok : MOk m out
  bd : ∀ s ∈ out, ∀ n ∈ s.ws, n < 10 ^ 100
theorem wordsS_len {m : Nat} {s : Stp} (h : s.ws.length = m) : (wordsS s).length = m + 3 := by
  unfold wordsS
  rw [List.length_append, List.length_map, h]
  show 3 + m = _
  omega
theorem flatw_len {m : Nat} : ∀ {l : List Stp}, (∀ s ∈ l, s.ws.length = m) → (l.flatMap wordsS).length = l.length * (m + 3)
  | [], _ => by simp
  | s :: l, h => by
    rw [List.flatMap_cons, List.length_append, wordsS_len (h s List.mem_cons_self), flatw_len fun x hx => h x (List.mem_cons_of_mem _ hx), List.length_cons, Nat.succ_mul, Nat.add_comm]
theorem TOk.len {m : Nat} {out : List Stp} (h : TOk m out) : (wordsM m out).length ≤ 886 := by
  unfold wordsM
  rw [List.length_cons, flatw_len (m := m) fun s hs => (h.ok.ok.all s hs).wts.len]
  have h1 := h.ok.ok.few
  have h2 := h.ok.ok.m12
  have := Nat.mul_le_mul (show out.length ≤ 59 by omega) (show m + 3 ≤ 15 by omega)
  omega
theorem TOk.word {m : Nat} {out : List Stp} (h : TOk m out) : ∀ x ∈ wordsM m out, x.length ≤ 100 ∧ 32 ∉ x.cps.toList := by
  have num : ∀ n, n < 10 ^ 100 → (txt n).length ≤ 100 ∧ 32 ∉ (txt n).cps.toList := fun n hn => ⟨txt_short (by decide) hn, txt_free n⟩
  have small : ∀ n, n ≤ 12 → n < 10 ^ 100 := fun n hn => Nat.lt_of_le_of_lt hn (by decide)
  intro x hx
  rcases List.mem_cons.mp hx with rfl | hx
  · exact num _ (small _ h.ok.ok.m12)
  · obtain ⟨s, hs, hx⟩ := List.mem_flatMap.mp hx
    have o := h.ok.ok.all s hs
    rcases List.mem_append.mp hx with hx | hx
    · rcases (by simpa using hx : x = ("/" : Str) ∨ x = txt s.room ∨ x = s.sign) with rfl | rfl | rfl
      · exact ⟨by decide, by decide +kernel⟩
      · exact num _ (small _ (by have := o.room; have := h.ok.ok.m12; omega))
      · refine ⟨Nat.le_trans o.sign.l8 (by decide), fun c => ?_⟩
        have := o.sign.all 32 c
        exact absurd this (by decide +kernel)
    · obtain ⟨n, hn, rfl⟩ := List.mem_map.mp hx
      exact num _ (h.bd s hs n hn)
theorem TOk.sum {m : Nat} {out : List Stp} (h : TOk m out) : ((wordsM m out).map (·.length)).sum + (wordsM m out).length * 1 ≤ 100000 := by
  have h1 := sum_lens (b := 100) fun x hx => (h.word x hx).1
  have h2 := h.len
  omega
theorem strs_of {ys : List V} {ws : List Nat} (l : ys.length = ws.length) (r : ∀ (i : Nat) y, ys[i]? = some y → ∃ n, ws[i]? = some n ∧ y = .str (txt n)) : ys = (ws.map txt).map V.str := by
  refine List.ext_getElem? fun i => ?_
  rw [List.getElem?_map, List.getElem?_map]
  cases hy : ys[i]? with
  | none =>
    have l1 := List.getElem?_eq_none_iff.mp hy
    rw [l] at l1
    rw [List.getElem?_eq_none l1]
    rfl
  | some y =>
    obtain ⟨n, hn, rfl⟩ := r i y hy
    rw [hn]
    rfl
theorem TOk.part {m : Nat} {out : List Stp} (tok : TOk m out) (i : Nat) : (wordsM m (out.take i)).length ≤ 900 := by
  have few := tok.ok.ok.few
  have m12 := tok.ok.ok.m12
  have l1 := flatw_len (m := m) (l := out.take i) fun s hs => (tok.ok.ok.all s (List.mem_of_mem_take hs)).wts.len
  unfold wordsM
  rw [List.length_cons, l1, List.length_take]
  have := Nat.mul_le_mul (show min i out.length ≤ 59 by omega) (show m + 3 ≤ 15 by omega)
  omega
theorem wordsM_next {m i : Nat} {out : List Stp} {st : Stp} (h : out[i]? = some st) : wordsM m (out.take (i + 1)) = wordsM m (out.take i) ++ wordsS st := by
  unfold wordsM
  rw [List.take_add_one, h, List.flatMap_append]
  simp
end

end Fb

namespace Fb
open PySem PySem.Spec PyProof.Rows L2
section
variable {P : Program} {w : World} {K : PySem.W.Frag} {mg : Str → Option Value} {base : Heap}
/-! ### the law's words of a machine -/
def spWordsL (C : Addr) : Sp := fun vs H Q _ => ∃ (v : V) (m : Nat) (out : List Stp), vs = [v] ∧ IsMach C H v m out ∧ TOk m out ∧ ∀ H' p, Same H H' → H' p = some (.lst ((wordsM m out).map V.str)) → Q (.ref p) H'
theorem ok_l_words (T : Txt K mg) : FnOk P w K mg base CX0 2 T.f_l_words T.d_l_words ["_law_machine_here"] (spWordsL T.c_Machine) := by
  refine T.F_l_words.ok sc_l_words (fun vs H Q E h => ?_) (fun cdv A outer s H vs Q E hr h => ?_)
  · obtain ⟨v, m, out, rfl, _⟩ := h
    rfl
  · obtain ⟨v, m, out, rfl, ⟨p, dx, r, svs, rfl, hp, hr', av⟩, tok, q⟩ := h
    refine ⟨_, (pss_cons (ps_set (i := 1) sc_l_words.nd rfl (.inl rfl) (pe_lst (pa_cons (pe_callTy call_str_int (by rfl) T.z_str (by decide +kernel) (pa_cons (pe_fld (pv 0) rfl) pa_nil)) pa_nil)))
 (pss_cons (ps_for PassesOwn.never rfl (pi_list (pe_fld (pv 0) rfl)) (pg_tup (by rfl) (pgs_cons (pg_name (i := 2) sc_l_words.nd rfl (.inl rfl)) (pgs_cons (pg_name (i := 3) sc_l_words.nd rfl (.inl rfl)) (pgs_cons (pg_name (i := 4) sc_l_words.nd rfl (.inl rfl)) pgs_nil))))
  (pss_one (ps_set (i := 1) sc_l_words.nd rfl (.inl rfl) (pe_op op_cat (pe_op op_cat (pv 1) (pe_lst (pa_cons pe_str (pa_cons (pe_callTy call_str_int (by rfl) T.z_str (by decide +kernel) (pa_cons (pv 2) pa_nil)) (pa_cons (pv 3) pa_nil))))) (pe_lc (own := [("_law_weight", 5)]) (g := (gName 5)) (tt := tYes) (by rfl) sc_l_words.nd (pi_tup (pv 4)) (blkOk_by (own := [("_law_weight", 5)]) (N := ["_law_machine_here", "_law_words_here", "_law_room", "_law_sign", "_law_weights_here", "_law_weight"]) (sc := defScope s_l_words) (by decide +kernel)) (fun _ _ _ _ _ => by exact (pg_name (i := 5) sc_l_words.nd rfl (.inl rfl))) (fun _ _ _ _ _ => by exact pts_nil) (fun _ _ _ _ _ => by exact (pe_callTy call_str_int (by rfl) T.z_str (by decide +kernel) (pa_cons (pv 5) pa_nil))))))))
 (pss_one (ps_ret (pv 1))))), ?_⟩
    have m12 := tok.ok.ok.m12
    have small : ∀ n, n ≤ 12 → n < 10 ^ 128 := fun n hn => Nat.lt_of_le_of_lt hn (by decide)
    refine ⟨_, rfl, p, _, _, _, _, rfl, hp, T.cl_Machine, T.n_Machine_many, mflds_many m r, _, rfl, txt_log (small m m12), ?_⟩
    refine ⟨by show 1 ≤ sizeLine; decide, fun pw0 npw => ?_⟩
    have t1 := same_upd (o := .lst [.str (txt m)]) npw
    have few := tok.ok.ok.few
    refine ⟨_, rfl, p, _, _, _, _, rfl, t1 _ _ hp, T.cl_Machine, T.n_Machine_steps, mflds_steps m r, r, rfl, ⟨_, SqL.of (t1 _ _ hr')⟩, for_list (K := K) (a := r) (xs := svs) (fun i σ H' => ∃ (pw : Addr) (y2 y3 y4 y5 : Option V), σ = [some (.ref p), some (.ref pw), y2, y3, y4, y5] ∧ Same H H' ∧ H' pw = some (.lst ((wordsM m (out.take i)).map V.str))) ⟨pw0, _, _, _, _, rfl, t1, upd_same⟩ (fun i σ H' _ h => ?_) (fun i x σ H' hx h => ?_) (fun σ H' h => ?_)⟩
    · obtain ⟨_, _, _, _, _, _, s1, _⟩ := h
      exact SqL.of (s1 _ _ hr')
    · obtain ⟨pw, y2, y3, y4, y5, rfl, s1, ew⟩ := h
      obtain ⟨st, hst, tt, wa, rfl, ht, hw⟩ := av.at hx
      have so := tok.ok.ok.all st (List.mem_of_getElem? hst)
      have lw := so.wts.len
      refine ⟨tt, _, rfl, .inl (.inl (s1 _ _ ht)), rfl, _, _, rfl, _, _, rfl, _, _, rfl, rfl, ?_⟩
      refine ⟨_, rfl, _, rfl, _, rfl, txt_log (small _ (by have := so.room; omega)), _, rfl, by show 3 ≤ sizeLine; decide, fun c nc => ?_⟩
      have x2 := same_upd (o := .lst [.str "/", .str (txt st.room), .str st.sign]) nc
      have e2 : (upd H' c (.lst [.str "/", .str (txt st.room), .str st.sign])) c = some (.lst [.str "/", .str (txt st.room), .str st.sign]) := upd_same
      generalize upd H' c (.lst [.str "/", .str (txt st.room), .str st.sign]) = H2 at *
      have ew := x2 _ _ ew
      have lp := tok.part i
      refine ⟨pw, c, _, _, rfl, rfl, ew, e2, Nat.le_of_lt (small1000 (by rw [List.length_map]; show _ + 3 ≤ 1000; omega)), fun c1 nc1 => ?_⟩
      have x3 := same_upd (o := .lst ((wordsM m (out.take i)).map V.str ++ [V.str "/", V.str (txt st.room), V.str st.sign])) nc1
      have e3 : (upd H2 c1 (.lst ((wordsM m (out.take i)).map V.str ++ [V.str "/", V.str (txt st.room), V.str st.sign]))) c1 = some (.lst ((wordsM m (out.take i)).map V.str ++ [V.str "/", V.str (txt st.room), V.str st.sign])) := upd_same
      generalize upd H2 c1 (.lst ((wordsM m (out.take i)).map V.str ++ [V.str "/", V.str (txt st.room), V.str st.sign])) = H3 at *
      have s3 := s1.trans (x2.trans x3)
      have hw2 := s3 _ _ hw
      refine ⟨_, rfl, wa, rfl, ⟨_, .inl (.inl hw2)⟩, fun D nD => lc_allW (walk_tup (K := K) (a := wa) (xs := nts st.ws)) (fun i y _ => ∃ n, st.ws[i]? = some n ∧ y = .str (txt n)) (fun _ _ _ _ _ h => h) nD (fun H' s => .inl (.inl (s _ _ hw2))) (by rw [nts_len, lw]; omega) (fun i v H5 H6 kk hi s5 eD y hk => ?_) (fun H5 ys s5 e5 l5 r5 => ?_)⟩
      · obtain ⟨rfl, hv⟩ := y
        obtain ⟨n, hn, rfl⟩ := nts_at hv
        exact ⟨rfl, _, rfl, _, rfl, txt_log (Nat.lt_of_lt_of_le (tok.bd st (List.mem_of_getElem? hst) n (List.mem_of_getElem? hn)) (by decide)), hk _ _ (Same.refl _) ⟨n, hn, rfl⟩⟩
      · have s5 := s5.trans hid_same
        have eys := strs_of (by rw [l5, nts_len]) r5
        subst eys
        refine ⟨c1, D, _, _, rfl, rfl, s5 _ _ e3, e5, Nat.le_of_lt (small1000 (by rw [List.length_append, List.length_map, List.length_map, List.length_map, lw]; show _ + 3 + _ ≤ 1000; omega)), fun c2 nc2 => ?_⟩
        refine ⟨c2, _, _, _, _, rfl, s3.trans (s5.trans (same_upd nc2)), ?_⟩
        rw [upd_same, wordsM_next hst, List.append_assoc, List.map_append]
        rfl
    · obtain ⟨pw, y2, y3, y4, y5, rfl, s1, ew⟩ := h
      rw [av.1, List.take_length] at ew
      exact ⟨_, rfl, q _ pw s1 ew⟩
end

end Fb

namespace Fb
open PySem PySem.Spec PyProof.Rows L2
section
variable {P : Program} {w : World} {K : PySem.W.Frag} {mg : Str → Option Value} {base : Heap}
/-! ### the law's changes of words -/
structure Wd (z : Str) : Prop where
  short : z.length ≤ 5000
  free : 32 ∉ z.cps.toList
def AllW (xs : List V) : Prop := ∀ x ∈ xs, ∃ z, x = .str z ∧ Wd z
theorem AllW.app {xs ys : List V} (h : AllW xs) (k : AllW ys) : AllW (xs ++ ys) := fun x hx => (List.mem_append.mp hx).elim (h x) (k x)
theorem AllW.take {xs : List V} (h : AllW xs) (k : Nat) : AllW (xs.take k) := fun x hx => h x (List.mem_of_mem_take hx)
theorem AllW.drop {xs : List V} (h : AllW xs) (k : Nat) : AllW (xs.drop k) := fun x hx => h x (List.mem_of_mem_drop hx)
theorem AllW.rev {xs : List V} (h : AllW xs) : AllW xs.reverse := fun x hx => h x (List.mem_reverse.mp hx)
theorem AllW.one {z : Str} (h : Wd z) : AllW [.str z] := fun x hx => ⟨z, List.mem_singleton.mp hx, h⟩
theorem AllW.is : ∀ {xs : List V}, AllW xs → ∃ ws : List Str, xs = ws.map V.str ∧ ∀ z ∈ ws, Wd z
  | [], _ => ⟨[], rfl, fun z h => by cases h⟩
  | x :: xs, h => by
    obtain ⟨z, rfl, hz⟩ := h x List.mem_cons_self
    obtain ⟨ws, rfl, hw⟩ := AllW.is (xs := xs) fun y hy => h y (List.mem_cons_of_mem _ hy)
    refine ⟨z :: ws, rfl, fun y hy => ?_⟩
    rcases List.mem_cons.mp hy with rfl | hy
    · exact hz
    · exact hw y hy
theorem cut_fromk (xs : List V) (k : Nat) : cutV xs (some (k : Int)) none = xs.drop k := by
  by_cases h : k ≤ xs.length
  · exact cut_from h
  · unfold cutV
    rw [HT.sIx_nat, HT.sIx_none, Nat.min_eq_right (by omega), List.drop_of_length_le (by omega), List.drop_of_length_le (by omega), List.take_nil]
theorem cut_two {xs : List V} {k : Nat} : ∃ ys, cutV xs (some (k : Int)) (some ((k : Int) + 2)) = (xs.drop k).take ys ∧ ((xs.drop k).take ys).length = min (k + 2) xs.length - min k xs.length := by
  unfold cutV
  rw [show ((k : Int) + 2) = ((k + 2 : Nat) : Int) from rfl, HT.sIx_nat, HT.sIx_nat]
  refine ⟨min (k + 2) xs.length - min k xs.length, ?_, ?_⟩
  · have e : xs.drop (min k xs.length) = xs.drop k := by
      by_cases h : k ≤ xs.length
      · rw [Nat.min_eq_left h]
      · rw [Nat.min_eq_right (by omega), List.drop_of_length_le (Nat.le_refl _), List.drop_of_length_le (by omega)]
    rw [e]
  · rw [List.length_take, List.length_drop]
    omega
theorem fold_app : ∀ (n : Nat) (x acc : Array Nat), ((List.replicate n x).foldl (· ++ ·) acc).size = acc.size + n * x.size ∧ ∀ c ∈ ((List.replicate n x).foldl (· ++ ·) acc).toList, c ∈ acc.toList ∨ c ∈ x.toList
  | 0, x, acc => ⟨by simp, fun c h => .inl h⟩
  | n + 1, x, acc => by
    rw [List.replicate_succ, List.foldl_cons]
    obtain ⟨h1, h2⟩ := fold_app n x (acc ++ x)
    refine ⟨?_, fun c hc => ?_⟩
    · rw [h1, Array.size_append, Nat.succ_mul]
      omega
    · rcases h2 c hc with h | h
      · rw [Array.toList_append] at h
        exact List.mem_append.mp h
      · exact .inr h
theorem mul_wd {z : Str} {n : Nat} (hz : z.length = 1) (hn : n ≤ 5000) (hf : 32 ∉ z.cps.toList) : Wd (Txt.mul z n) := by
  obtain ⟨h1, h2⟩ := fold_app n z.cps #[]
  unfold Txt.mul
  split
  · exact ⟨by decide, by decide⟩
  · split
    · exact ⟨by rw [hz]; decide, hf⟩
    · rw [Int.toNat_natCast]
      refine ⟨?_, fun hc => ?_⟩
      · show Array.size (List.foldl (· ++ ·) #[] (List.replicate n z.cps)) ≤ 5000
        rw [h1, show z.cps.size = 1 from hz]
        show 0 + n * 1 ≤ 5000
        omega
      · rcases h2 32 hc with h | h
        · cases h
        · exact hf h
theorem if_fact {c : TT} {t u : L2.TS} {D : Ends} {σ : L2.St} {H : Hp} (F : Prop) (hc : ∀ Q : Bool → Hp → Prop, (F → Q true H) → Q false H → c σ H Q) (ht : F → t D σ H) (hu : u D σ H) : tIfS c t u D σ H := hc _ (fun f => iteT (ht f)) (iteF hu)
def spLChg : Sp := fun vs H Q _ => ∃ (a p : Addr) (xs : List V) (n : Nat), vs = [.ref a, .ref p] ∧ p ≠ a ∧ H p = some (.lst xs) ∧ AllW xs ∧ 1 ≤ xs.length ∧ xs.length ≤ 100 ∧ WellAt H a (n + 4) ∧
  ∀ H' r ys, Same (hid a H) (hid a H') → WellAt H' a n → r ≠ a → H' r = some (.lst ys) → AllW ys → 1 ≤ ys.length → ys.length ≤ xs.length + 1 → Q (.ref r) H'
abbrev odd18 : List V := [.str "/", .str "0", .str "1", .str "2", .str "12", .str "13", .str "01", .str "00", .str "a", .str "b", .str "A", .str "", .str "abcdefghi", .str "-1", .str "+1", .str "1.0", .str "1/2", .str "99"]
theorem odd18_ok : AllW odd18 := by
  have h : ∀ z ∈ ([("/" : Str), "0", "1", "2", "12", "13", "01", "00", "a", "b", "A", "", "abcdefghi", "-1", "+1", "1.0", "1/2", "99"] : List Str), z.length ≤ 5000 ∧ 32 ∉ z.cps.toList := by decide +kernel
  intro x hx
  obtain ⟨z, hz, rfl⟩ := List.mem_map.mp (show x ∈ ([("/" : Str), "0", "1", "2", "12", "13", "01", "00", "a", "b", "A", "", "abcdefghi", "-1", "+1", "1.0", "1/2", "99"] : List Str).map V.str from hx)
  exact ⟨z, rfl, (h z hz).1, (h z hz).2⟩
set_option maxHeartbeats 800000 in
theorem ok_l_changed (T : Txt K mg) : FnOk P w K mg base CX0 3 T.f_l_changed T.d_l_changed ["_law_well_here", "_law_words_here"] spLChg := by
  refine T.F_l_changed.ok sc_l_changed (fun vs H Q E h => ?_) (fun cdv A outer s H vs Q E hr h => ?_)
  · obtain ⟨a, p, xs, n, rfl, _⟩ := h
    rfl
  · obtain ⟨a, p, xs, n, rfl, pa, hp, ax, x1, x100, hw, q⟩ := h
    refine ⟨_, (pss_cons (ps_set (i := 2) sc_l_changed.nd rfl (.inl rfl) (pe_call (ok_l_draw T) (hr.mono (by decide)) (by rfl) T.g_l_draw T.F_l_draw.kp T.b_l_draw .nil pass0 (pa_cons (pv 0) (pa_cons pe_int pa_nil))))
 (pss_cons (ps_set (i := 3) sc_l_changed.nd rfl (.inl rfl) (pe_call (ok_l_draw T) (hr.mono (by decide)) (by rfl) T.g_l_draw T.F_l_draw.kp T.b_l_draw .nil pass0 (pa_cons (pv 0) (pa_cons (pe_callB call_len_seq (by rfl) T.z_len (by decide +kernel) (pa_cons (pv 1) pa_nil)) pa_nil))))
 (pss_cons (ps_set (i := 4) sc_l_changed.nd rfl (.inl rfl) (pe_lst (pa_cons pe_str (pa_cons pe_str (pa_cons pe_str (pa_cons pe_str (pa_cons pe_str (pa_cons pe_str (pa_cons pe_str (pa_cons pe_str (pa_cons pe_str (pa_cons pe_str (pa_cons pe_str (pa_cons pe_str (pa_cons pe_str (pa_cons pe_str (pa_cons pe_str (pa_cons pe_str (pa_cons pe_str (pa_cons pe_str pa_nil))))))))))))))))))))
 (pss_cons (ps_set (i := 4) sc_l_changed.nd rfl (.inl rfl) (pe_op op_cat (pv 4) (pe_lst (pa_cons (pe_op op_mulS pe_str pe_int) (pa_cons (pe_op op_mulS pe_str pe_int) (pa_cons (pe_op op_mulS pe_str pe_int) (pa_cons (pe_op op_mulS pe_str pe_int) (pa_cons (pe_ix ix_list (pv 1) (pe_call (ok_l_draw T) (hr.mono (by decide)) (by rfl) T.g_l_draw T.F_l_draw.kp T.b_l_draw .nil pass0 (pa_cons (pv 0) (pa_cons (pe_callB call_len_seq (by rfl) T.z_len (by decide +kernel) (pa_cons (pv 1) pa_nil)) pa_nil))) (fun _ _ => rfl)) (pa_cons pe_str (pa_cons pe_str pa_nil))))))))))
 (pss_cons (ps_set (i := 5) sc_l_changed.nd rfl (.inl rfl) (pe_ix ix_list (pv 4) (pe_call (ok_l_draw T) (hr.mono (by decide)) (by rfl) T.g_l_draw T.F_l_draw.kp T.b_l_draw .nil pass0 (pa_cons (pv 0) (pa_cons (pe_callB call_len_seq (by rfl) T.z_len (by decide +kernel) (pa_cons (pv 4) pa_nil)) pa_nil))) (fun _ _ => rfl)))
 (pss_cons (ps_if (PW.pt (pw_and (pt_cmpR op_eq (pv 2) pe_int (nomark _)) (pw_and1 (pt_cmpR op_gt (pe_callB call_len_seq (by rfl) T.z_len (by decide +kernel) (pa_cons (pv 1) pa_nil)) pe_int (nomark _)))))
  (pss_one (ps_ret (pe_op op_cat (pe_slice sl_list (pv 1) po_none (po_some (pv 3))) (pe_slice sl_list (pv 1) (po_some (pe_op op_add (pv 3) pe_int)) po_none))))
  pss_nil)
 (pss_cons (ps_if (pt_cmpR op_eq (pv 2) pe_int (nomark _))
  (pss_one (ps_ret (pe_op op_cat (pe_slice sl_list (pv 1) po_none (po_some (pe_op op_add (pv 3) pe_int))) (pe_slice sl_list (pv 1) (po_some (pv 3)) po_none))))
  pss_nil)
 (pss_cons (ps_if (pt_cmpR op_eq (pv 2) pe_int (nomark _))
  (pss_one (ps_ret (pe_op op_cat (pe_op op_cat (pe_slice sl_list (pv 1) po_none (po_some (pv 3))) (pe_revL (pe_slice sl_list (pv 1) (po_some (pv 3)) (po_some (pe_op op_add (pv 3) pe_int))))) (pe_slice sl_list (pv 1) (po_some (pe_op op_add (pv 3) pe_int)) po_none))))
  pss_nil)
 (pss_cons (ps_if (pt_cmpR op_eq (pv 2) pe_int (nomark _))
  (pss_one (ps_ret (pe_op op_cat (pe_op op_cat (pe_slice sl_list (pv 1) po_none (po_some (pv 3))) (pe_lst (pa_cons (pv 5) pa_nil))) (pe_slice sl_list (pv 1) (po_some (pv 3)) po_none))))
  pss_nil)
 (pss_cons (ps_if (pt_cmpR op_eq (pv 2) pe_int (nomark _))
  (pss_one (ps_ret (pe_slice sl_list (pv 1) po_none (po_some (pe_callB (call_max2 rfl) (by rfl) T.z_max (by decide +kernel) (pa_cons pe_int (pa_cons (pv 3) pa_nil)))))))
  pss_nil)
 (pss_cons (ps_if (pt_cmpR op_eq (pv 2) pe_int (nomark _))
  (pss_one (ps_ret (pe_op op_cat (pv 1) (pe_lst (pa_cons (pv 5) pa_nil)))))
  pss_nil)
 (pss_one (ps_ret (pe_op op_cat (pe_op op_cat (pe_slice sl_list (pv 1) po_none (po_some (pv 3))) (pe_lst (pa_cons (pv 5) pa_nil))) (pe_slice sl_list (pv 1) (po_some (pe_op op_add (pv 3) pe_int)) po_none))))))))))))))), ?_⟩
    refine ⟨_, rfl, a, 8, n + 3, rfl, hw, by decide, by decide, fun d H1 d0 d1 s1 w1 => ?_⟩
    have e1 : (hid a H1) p = some (.lst xs) := s1 _ _ (by rw [hid_ne pa]; exact hp)
    refine ⟨_, rfl, _, rfl, p, _, rfl, .inl (SqL.of (hid_same _ _ e1)), a, _, n + 2, rfl, w1, by omega, log_small (by omega), fun at' H2 t0 t1 s2 w2 => ?_⟩
    obtain ⟨k, rfl⟩ : ∃ k : Nat, at' = (k : Int) := ⟨at'.toNat, by omega⟩
    have kl : k < xs.length := by omega
    have e2 := s2 _ _ e1
    refine ⟨by show 18 ≤ sizeLine; decide, fun p1 np1 => ?_⟩
    obtain ⟨w3, s3⟩ := well_new (o := .lst odd18) w2 np1
    have p1a := w2.ne np1
    have f3 : (hid a (upd H2 p1 (.lst odd18))) p1 = some (.lst odd18) := by rw [hid_ne p1a]; exact upd_same
    have e3 := s3 _ _ e2
    have s03 := s1.trans (s2.trans s3)
    generalize upd H2 p1 (.lst odd18) = H3 at *
    refine ⟨_, rfl, "7", 100, rfl, rfl, ⟨by decide, fun _ _ => by decide, fun _ _ => by decide⟩, "7", 101, rfl, rfl, ⟨by decide, fun _ _ => by decide, fun _ _ => by decide⟩, "1", 5000, rfl, rfl, ⟨by decide, fun _ _ => by decide, fun _ _ => by decide⟩, "0", 60, rfl, rfl, ⟨by decide, fun _ _ => by decide, fun _ _ => by decide⟩, ?_⟩
    have m1 : Wd (Txt.mul "7" 100) := mul_wd (n := 100) (by decide) (by decide) (by decide)
    have m2 : Wd (Txt.mul "7" 101) := mul_wd (n := 101) (by decide) (by decide) (by decide)
    have m3 : Wd (Txt.mul "1" 5000) := mul_wd (n := 5000) (by decide) (by decide) (by decide)
    have m4 : Wd (Txt.mul "0" 60) := mul_wd (n := 60) (by decide) (by decide) (by decide)
    generalize Txt.mul "7" 100 = z1 at *
    generalize Txt.mul "7" 101 = z2 at *
    generalize Txt.mul "1" 5000 = z3 at *
    generalize Txt.mul "0" 60 = z4 at *
    refine ⟨_, rfl, _, rfl, _, rfl, p, _, rfl, .inl (SqL.of (hid_same _ _ e3)), a, _, n + 1, rfl, w3, by omega, log_small (by omega), fun d2 H4 u0 u1 s4 w4 => ?_⟩
    obtain ⟨x, hx, hx'⟩ := atI_get u0 u1
    have e4 := s4 _ _ e3
    have f4 := s4 _ _ f3
    refine ⟨p, xs, d2, x, rfl, rfl, SqL.of (hid_same _ _ e4), hx, by show 7 ≤ sizeLine; decide, fun p2 np2 => ?_⟩
    obtain ⟨x', rfl, xw⟩ := ax x (List.mem_of_getElem? hx')
    obtain ⟨w5, s5⟩ := well_new (o := .lst [V.str z1, V.str z2, V.str z3, V.str z4, V.str x', V.str "6", V.str "part"]) w4 np2
    have f5 := s5 _ _ f4
    have e5 := s5 _ _ e4
    refine ⟨p1, p2, odd18, _, rfl, rfl, hid_same _ _ f5, upd_same, by show 18 + 7 ≤ sizeLine; decide, fun p3 np3 => ?_⟩
    have all : AllW (odd18 ++ [V.str z1, V.str z2, V.str z3, V.str z4, V.str x', V.str "6", V.str "part"]) := by
      refine odd18_ok.app fun y hy => ?_
      rcases (by simpa using hy : y = .str z1 ∨ y = .str z2 ∨ y = .str z3 ∨ y = .str z4 ∨ y = .str x' ∨ y = .str "6" ∨ y = .str "part") with rfl | rfl | rfl | rfl | rfl | rfl | rfl
      · exact ⟨_, rfl, m1⟩
      · exact ⟨_, rfl, m2⟩
      · exact ⟨_, rfl, m3⟩
      · exact ⟨_, rfl, m4⟩
      · exact ⟨_, rfl, xw⟩
      · exact ⟨_, rfl, by decide, by decide⟩
      · exact ⟨_, rfl, by decide, by decide⟩
    have len : (odd18 ++ [V.str z1, V.str z2, V.str z3, V.str z4, V.str x', V.str "6", V.str "part"]).length = 25 := rfl
    generalize odd18 ++ [V.str z1, V.str z2, V.str z3, V.str z4, V.str x', V.str "6", V.str "part"] = os at *
    obtain ⟨w6, s6⟩ := well_new (o := .lst os) w5 np3
    have p3a := w5.ne np3
    have f6 : (hid a (upd (upd H4 p2 (.lst [V.str z1, V.str z2, V.str z3, V.str z4, V.str x', V.str "6", V.str "part"])) p3 (.lst os))) p3 = some (.lst os) := by rw [hid_ne p3a]; exact upd_same
    have e6 := s6 _ _ e5
    have s06 := s03.trans (s4.trans (s5.trans s6))
    generalize upd (upd H4 p2 (.lst [V.str z1, V.str z2, V.str z3, V.str z4, V.str x', V.str "6", V.str "part"])) p3 (.lst os) = H6 at *
    refine ⟨_, rfl, _, rfl, _, rfl, p3, _, rfl, .inl (SqL.of (hid_same _ _ f6)), a, _, n, rfl, w6, by omega, log_small (by omega), fun d3 H7 v0 v1 s7 w7 => ?_⟩
    obtain ⟨o, ho, ho'⟩ := atI_get v0 v1
    have f7 := s7 _ _ f6
    refine ⟨p3, os, d3, o, rfl, rfl, SqL.of (hid_same _ _ f7), ho, ?_⟩
    obtain ⟨o', rfl, ow⟩ := all o (List.mem_of_getElem? ho')
    have e7 := hid_same _ _ (s7 _ _ e6)
    have s07 := s06.trans s7
    have fin : ∀ (Gp : Hp) (r : Addr) (ys : List V), Same H7 Gp → Gp r = none → AllW ys → 1 ≤ ys.length → ys.length ≤ xs.length + 1 → Q (.ref r) (upd Gp r (.lst ys)) := fun Gp r ys s nr ay l1 l2 => q _ r ys (s07.trans (hid_mono (s.trans (same_upd nr)))) (w7.same (s.trans (same_upd nr))) ((w7.same s).ne nr) upd_same ay l1 l2
    clear s07 s7 w7 f7 f6 e6 s06 w6 s6 f5 e5 w5 s5 e4 f4 w4 s4 s03 e3 f3 w3 s3 e2 w2 s2 e1 s1 w1 q hp hw
    have k1 : ((k : Int) + 1) = ((k + 1 : Nat) : Int) := rfl
    have k2 : ((k : Int) + 2) = ((k + 2 : Nat) : Int) := rfl
    have two : ∀ {i j : Nat}, i + j ≤ 1000 → i + j ≤ sizeLine := fun h => Nat.le_of_lt (small1000 h)
    dsimp only [gName]
    refine if_fact (1 < xs.length) (fun Q' qt qf => ⟨_, rfl, rfl, _, rfl, ite2 (fun h => ⟨_, rfl, p, _, rfl, .inl (SqL.of e7), _, _, rfl, rfl, _, rfl, ?_⟩) (fun h => qf)⟩) (fun hx => ?_) ?_
    · by_cases c : 1 < xs.length
      · rw [decide_eq_true (by omega)]
        exact qt c
      · rw [decide_eq_false (by omega)]
        exact qf
    · refine ⟨_, rfl, _, rfl, _, rfl, p, _, rfl, SqL.of e7, fun c1 n1 => ?_⟩
      rw [cut_tok]
      have y1 := same_upd (o := .lst (xs.take k)) n1
      refine ⟨_, rfl, _, rfl, _, _, rfl, rfl, _, rfl, p, _, rfl, SqL.of (y1 _ _ e7), fun c2 n2 => ?_⟩
      rw [k1, cut_fromk]
      have y2 := same_upd (o := .lst (xs.drop (k + 1))) n2
      refine ⟨c1, c2, _, _, rfl, rfl, y2 _ _ upd_same, upd_same, two ?_, fun c3 n3 => fin _ c3 _ (y1.trans y2) n3 ((ax.take k).app (ax.drop _)) ?_ ?_⟩
      all_goals
        try rw [List.length_append]
        rw [List.length_take, List.length_drop]
        omega
    refine ⟨_, rfl, rfl, _, rfl, ite2 (fun h => ?_) (fun h => ?_)⟩
    · refine ⟨_, rfl, _, rfl, _, _, rfl, rfl, _, rfl, p, _, rfl, SqL.of e7, fun c1 n1 => ?_⟩
      rw [k1, cut_tok]
      have y1 := same_upd (o := .lst (xs.take (k + 1))) n1
      refine ⟨_, rfl, _, rfl, _, rfl, p, _, rfl, SqL.of (y1 _ _ e7), fun c2 n2 => ?_⟩
      rw [cut_fromk]
      have y2 := same_upd (o := .lst (xs.drop k)) n2
      refine ⟨c1, c2, _, _, rfl, rfl, y2 _ _ upd_same, upd_same, two ?_, fun c3 n3 => fin _ c3 _ (y1.trans y2) n3 ((ax.take _).app (ax.drop _)) ?_ ?_⟩
      all_goals
        try rw [List.length_append]
        rw [List.length_take, List.length_drop]
        omega
    refine ⟨_, rfl, rfl, _, rfl, ite2 (fun h => ?_) (fun h => ?_)⟩
    · refine ⟨_, rfl, _, rfl, _, rfl, p, _, rfl, SqL.of e7, fun c1 n1 => ?_⟩
      rw [cut_tok]
      have y1 := same_upd (o := .lst (xs.take k)) n1
      refine ⟨_, rfl, _, rfl, _, rfl, _, rfl, _, _, rfl, rfl, _, rfl, p, _, rfl, SqL.of (y1 _ _ e7), fun c2 n2 => ?_⟩
      obtain ⟨m, em, lm⟩ := @cut_two xs k
      rw [em]
      have y2 := same_upd (o := .lst ((xs.drop k).take m)) n2
      refine ⟨c2, _, rfl, SqL.of upd_same, fun c3 n3 => ?_⟩
      have y3 := same_upd (o := .lst ((xs.drop k).take m).reverse) n3
      refine ⟨c1, c3, _, _, rfl, rfl, (y2.trans y3) _ _ upd_same, upd_same, two ?_, fun c4 n4 => ?_⟩
      · rw [List.length_reverse, lm, List.length_take]
        omega
      have y4 := same_upd (o := .lst (xs.take k ++ ((xs.drop k).take m).reverse)) n4
      have y14 := y1.trans (y2.trans (y3.trans y4))
      refine ⟨_, rfl, _, rfl, _, _, rfl, rfl, _, rfl, p, _, rfl, SqL.of (y14 _ _ e7), fun c5 n5 => ?_⟩
      rw [k2, cut_fromk]
      have y5 := same_upd (o := .lst (xs.drop (k + 2))) n5
      refine ⟨c4, c5, _, _, rfl, rfl, y5 _ _ upd_same, upd_same, two ?_, fun c6 n6 => fin _ c6 _ (y14.trans y5) n6 (((ax.take _).app ((ax.drop _).take _).rev).app (ax.drop _)) ?_ ?_⟩
      all_goals
        repeat rw [List.length_append]
        rw [List.length_reverse, lm, List.length_take, List.length_drop]
        omega
    refine ⟨_, rfl, rfl, _, rfl, ite2 (fun h => ?_) (fun h => ?_)⟩
    · refine ⟨_, rfl, _, rfl, _, rfl, p, _, rfl, SqL.of e7, fun c1 n1 => ?_⟩
      rw [cut_tok]
      have y1 := same_upd (o := .lst (xs.take k)) n1
      refine ⟨_, rfl, by show 1 ≤ sizeLine; decide, fun c2 n2 => ?_⟩
      have y2 := same_upd (o := .lst [.str o']) n2
      refine ⟨c1, c2, _, _, rfl, rfl, y2 _ _ upd_same, upd_same, two ?_, fun c3 n3 => ?_⟩
      · rw [List.length_take]
        show _ + 1 ≤ 1000
        omega
      have y3 := same_upd (o := .lst (xs.take k ++ [.str o'])) n3
      have y13 := y1.trans (y2.trans y3)
      refine ⟨_, rfl, _, rfl, _, rfl, p, _, rfl, SqL.of (y13 _ _ e7), fun c4 n4 => ?_⟩
      rw [cut_fromk]
      have y4 := same_upd (o := .lst (xs.drop k)) n4
      refine ⟨c3, c4, _, _, rfl, rfl, y4 _ _ upd_same, upd_same, two ?_, fun c5 n5 => fin _ c5 _ (y13.trans y4) n5 (((ax.take _).app (.one ow)).app (ax.drop _)) ?_ ?_⟩
      all_goals
        repeat rw [List.length_append]
        rw [List.length_singleton, List.length_take, List.length_drop]
        omega
    refine ⟨_, rfl, rfl, _, rfl, ite2 (fun h => ?_) (fun h => ?_)⟩
    · have em : (if (k : Int) > 1 then (k : Int) else 1) = ((max 1 k : Nat) : Int) := by split <;> omega
      refine ⟨_, rfl, _, rfl, 1, (k : Int), rfl, _, rfl, p, _, rfl, SqL.of e7, fun c1 n1 => ?_⟩
      rw [em, cut_tok]
      refine fin _ c1 _ (Same.refl _) n1 (ax.take _) ?_ ?_
      all_goals
        rw [List.length_take]
        omega
    refine ⟨_, rfl, rfl, _, rfl, ite2 (fun h => ?_) (fun h => ?_)⟩
    · refine ⟨_, rfl, _, rfl, by show 1 ≤ sizeLine; decide, fun c2 n2 => ?_⟩
      have y2 := same_upd (o := .lst [.str o']) n2
      refine ⟨p, c2, _, _, rfl, rfl, y2 _ _ e7, upd_same, two ?_, fun c3 n3 => fin _ c3 _ y2 n3 (ax.app (.one ow)) ?_ ?_⟩
      all_goals
        try rw [List.length_append]
        rw [List.length_singleton]
        omega
    · refine ⟨_, rfl, _, rfl, _, rfl, p, _, rfl, SqL.of e7, fun c1 n1 => ?_⟩
      rw [cut_tok]
      have y1 := same_upd (o := .lst (xs.take k)) n1
      refine ⟨_, rfl, by show 1 ≤ sizeLine; decide, fun c2 n2 => ?_⟩
      have y2 := same_upd (o := .lst [.str o']) n2
      refine ⟨c1, c2, _, _, rfl, rfl, y2 _ _ upd_same, upd_same, two ?_, fun c3 n3 => ?_⟩
      · rw [List.length_take]
        show _ + 1 ≤ 1000
        omega
      have y3 := same_upd (o := .lst (xs.take k ++ [.str o'])) n3
      have y13 := y1.trans (y2.trans y3)
      refine ⟨_, rfl, _, rfl, _, _, rfl, rfl, _, rfl, p, _, rfl, SqL.of (y13 _ _ e7), fun c4 n4 => ?_⟩
      rw [k1, cut_fromk]
      have y4 := same_upd (o := .lst (xs.drop (k + 1))) n4
      refine ⟨c3, c4, _, _, rfl, rfl, y4 _ _ upd_same, upd_same, two ?_, fun c5 n5 => fin _ c5 _ (y13.trans y4) n5 (((ax.take _).app (.one ow)).app (ax.drop _)) ?_ ?_⟩
      all_goals
        repeat rw [List.length_append]
        rw [List.length_singleton, List.length_take, List.length_drop]
        omega
end

end Fb

namespace Fb
open PySem PySem.Spec PyProof.Rows L2
section
variable {P : Program} {w : World} {K : PySem.W.Frag} {mg : Str → Option Value} {base : Heap}
/-! ### what the program says of a thing -/
theorem exmTT (T : Txt K mg) : PySem.W.exmOne K (.ref T.c_NoText) (.ref T.c_NoText) = some true := PySem.W.exm_ref T.i_NoText_sb T.i_NoText_hd T.i_NoText_ty T.sub_NoText_NoText
def spSaidT (K : PySem.W.Frag) : Sp := fun vs H Q _ => ∃ v, vs = [v] ∧ ((∃ z ws, v = .str z ∧ TxOk z ws ∧
  (∀ e H' t, parse ws = .error e → Same H H' → H' t = some (.tup [.str "text", .int (e : Nat)]) → Q (.ref t) H') ∧
  (∀ m l H' t t2 p us, parse ws = .ok (m, l) → MOk m l → Same H H' → H' t = some (.tup [.str "read", .ref t2]) → H' t2 = some (.tup [.int (m : Nat), .ref p]) → H' p = some (.lst us) → AllAre (IsStp H') us l → Q (.ref t) H')) ∨
  ((∃ t, TyX K H v t ∧ PySem.W.kitOne K t (.type "str") = some false) ∧ ∀ H' t, Same H H' → H' t = some (.tup [.str "text", .non]) → Q (.ref t) H'))
theorem ok_l_said (T : Txt K mg) : FnOk P w K mg base CX0 8 T.f_l_said T.d_l_said ["_law_thing"] (spSaidT K) := by
  refine T.F_l_said.ok sc_l_said (fun vs H Q E h => ?_) (fun cdv A outer s H vs Q E hr h => ?_)
  · obtain ⟨v, rfl, _⟩ := h
    rfl
  · obtain ⟨v, rfl, h⟩ := h
    refine ⟨_, (pss_cons (ps_try_manyN rfl rfl sc_l_said.nd takes0
        (fun W pn xe tk _ => pss_one (ps_set (i := 1) sc_l_said.nd rfl (.inl rfl) (pe_callS (ok_p_read T) (hr.mono (by decide)) (by rfl) T.g_p_read T.F_p_read.kp T.b_p_read (fun σ => passAt tk σ) (pa_cons (pv 0) pa_nil))))
        (HdsN.as (i := 2) rfl rfl ⟨rfl, by decide, .inl T.g_NoText⟩ (fun a oe cls d pn hz hf => pss_one (ps_ret (pe_tup (pa_cons pe_str (pa_cons (pe_xf (xfT T) T.i_NoText_no hz hf (pv 2)) pa_nil)))))
        (HdsN.cons ⟨rfl, by decide, .inl T.g_FarError⟩ (fun a oe cls d pn hz hf => pss_one (ps_ret (pe_tup (pa_cons pe_str (pa_cons pe_non pa_nil)))))
        .nil)))
      (pss_one (ps_ret (pe_tup (pa_cons pe_str (pa_cons (pe_tup (pa_cons (pe_fld (pv 1) rfl) (pa_cons (pe_fld (pv 1) rfl) pa_nil))) pa_nil)))))), ?_⟩
    refine ⟨_, rfl, v, rfl, ?_⟩
    rcases h with ⟨z, ws, rfl, tx, qe, q⟩ | ⟨hy, qn⟩
    · refine .inl ⟨z, ws, rfl, tx, fun m l H1 x hp mok s1 im => ?_, fun e he H1 d s1 e1 => ?_⟩
      · obtain ⟨p, dx, r, svs, ex, h1, h2, av⟩ := im
        cases ex
        refine ⟨_, rfl, x, _, _, _, _, rfl, h1, T.cl_Machine, T.n_Machine_many, mflds_many m r, _, rfl, x, _, _, _, _, rfl, h1, T.cl_Machine, T.n_Machine_steps, mflds_steps m r, by show 2 ≤ sizeLine; decide, fun t2 nt2 => ⟨by show 2 ≤ sizeLine; decide, fun t nt => ?_⟩⟩
        have x1 := same_upd (o := .tup [.int (m : Nat), .ref r]) nt2
        have x2 := same_upd (o := .tup [.str "read", .ref t2]) nt
        exact q m l _ t t2 r svs hp mok (s1.trans (x1.trans x2)) upd_same (x2 _ _ upd_same) (x2 _ _ (x1 _ _ h2)) (av.imp fun _ _ h => h.mono (x1.trans x2))
      · refine ⟨true, exmTT T, fun _ a na => ?_, fun z => nomatch z⟩
        refine ⟨_, rfl, rfl, rfl, d, _, _, rfl, e1, rfl, by show 2 ≤ sizeLine; decide, fun p np => ?_⟩
        exact qe e _ p he (s1.trans (same_upd np)) upd_same
    · refine .inr ⟨hy, fun H1 d s1 e1 => ?_⟩
      refine ⟨true, exmTT T, fun _ a na => ?_, fun z => nomatch z⟩
      refine ⟨_, rfl, rfl, rfl, d, _, _, rfl, e1, rfl, by show 2 ≤ sizeLine; decide, fun p np => ?_⟩
      exact qn _ p (s1.trans (same_upd np)) upd_same
end

end Fb

namespace Fb
open PySem PySem.Spec PyProof.Rows L2
section
variable {P : Program} {w : World} {K : PySem.W.Frag} {mg : Str → Option Value} {base : Heap}
/-! ### the law -/
theorem DS.ok {m k : Nat} {zs : List Str} {ss : List Stp} (h : DS m zs m 0 ss) (ok : NmsOk k zs) (k4 : k ≤ 4) (m1 : 1 ≤ m) (m12 : m ≤ 12) : StpsOk m ss := by
  have h1 := h.len
  rw [ok.len] at h1
  have h2 : m * k ≤ 12 * 4 := Nat.mul_le_mul m12 k4
  exact ⟨m1, m12, by omega, fun s hs => (h.all s hs).1, h.once⟩
theorem text_ok : PyData.strOk ("text" : Str) = true := by decide +kernel
theorem read_ok : PyData.strOk ("read" : Str) = true := by decide +kernel
/-- the same thing said -/
theorem ne_pair {H : Hp} {t u : Addr} {x : V} {d : PyData} {Q : VK} (hx : ∀ {a : V}, a = x → Dp K H a d) (hl : PyData.canLay0 d = true ∧ PyData.depth d ≤ 6) (ht : H t = some (.tup [.str "text", x])) (hu : H u = some (.tup [.str "text", x])) (q : Q (.bl false) H) : rNeD K (.ref t) (.ref u) H Q := by
  obtain ⟨h1, h2⟩ := hl
  have sh : SeqAt.shaped (.tuple [.str "text", d]) = true := by
    unfold SeqAt.shaped
    rw [Bool.and_eq_true]
    refine ⟨by simp [PyData.canLay0, PyData.canLayAll0, h1, text_ok], decide_eq_true ?_⟩
    simp only [PyData.depth, PyData.depthAll]
    omega
  have dp : ∀ {a : Addr}, H a = some (.tup [.str "text", x]) → Dp K H (.ref a) (.tuple [.str "text", d]) := fun h => .tup (.inl (.inl h)) (.cons (.str _) (.cons (hx rfl) .nil))
  refine ⟨_, _, dp ht, dp hu, sh, sh, ?_⟩
  rw [SeqAt.eqv_refl _ (SeqAt.canLay_of_shaped sh)]
  exact q
theorem ne_at {H : Hp} {t u : Addr} {e : Int} {Q : VK} (ht : H t = some (.tup [.str "text", .int e])) (hu : H u = some (.tup [.str "text", .int e])) (q : Q (.bl false) H) : rNeD K (.ref t) (.ref u) H Q :=
  ne_pair (d := .int e) (fun h => h ▸ .int _) ⟨rfl, Nat.zero_le _⟩ ht hu q
theorem ne_none {H : Hp} {t u : Addr} {Q : VK} (ht : H t = some (.tup [.str "text", .non])) (hu : H u = some (.tup [.str "text", .non])) (q : Q (.bl false) H) : rNeD K (.ref t) (.ref u) H Q :=
  ne_pair (d := .none) (fun h => h ▸ .non) ⟨rfl, Nat.zero_le _⟩ ht hu q
/-- what is read -/
def RdIs (H : Hp) (t : Addr) (m : Nat) (l : List Stp) : Prop := ∃ t2 p us, H t = some (.tup [.str "read", .ref t2]) ∧ H t2 = some (.tup [.int (m : Nat), .ref p]) ∧ H p = some (.lst us) ∧ AllAre (IsStp H) us l
theorem RdIs.mono {H H' : Hp} {t : Addr} {m : Nat} {l : List Stp} (h : RdIs H t m l) (s : Same H H') : RdIs H' t m l := by
  obtain ⟨t2, p, us, h1, h2, h3, h4⟩ := h
  exact ⟨t2, p, us, s _ _ h1, s _ _ h2, s _ _ h3, h4.imp fun _ _ h => h.mono s⟩
theorem ne_rd {H : Hp} {t u : Addr} {m : Nat} {l : List Stp} {Q : VK} (hs : ∀ s ∈ l, PyData.strOk s.sign = true) (ht : RdIs H t m l) (hu : RdIs H u m l) (q : Q (.bl false) H) : rNeD K (.ref t) (.ref u) H Q := by
  obtain ⟨h1, h2⟩ := lay_stps l hs
  have sh : SeqAt.shaped (.tuple [.str "read", .tuple [.int (m : Nat), .list (l.map stpD)]]) = true := by
    unfold SeqAt.shaped
    rw [Bool.and_eq_true]
    refine ⟨by simp [PyData.canLay0, PyData.canLayAll0, h1, read_ok], decide_eq_true ?_⟩
    simp only [PyData.depth, PyData.depthAll]
    omega
  have dp : ∀ {a : Addr}, RdIs H a m l → Dp K H (.ref a) (.tuple [.str "read", .tuple [.int (m : Nat), .list (l.map stpD)]]) := fun ⟨t2, p, us, g1, g2, g3, g4⟩ => .tup (.inl (.inl g1)) (.cons (.str _) (.cons (.tup (.inl (.inl g2)) (.cons (.int _) (.cons (.lst (SqL.of g3) (dpAll_stps g4)) .nil))) .nil))
  refine ⟨_, _, dp ht, dp hu, sh, sh, ?_⟩
  rw [SeqAt.eqv_refl _ (SeqAt.canLay_of_shaped sh)]
  exact q
/-- things that are no texts -/
theorem six_at {H : Hp} {i : Nat} {x : V} {l t d : Addr} (hl : H l = some (.lst [.str "1"])) (ht : H t = some (.tup [.str "1"])) (hd : H d = some (.dK [])) (h : ([.non, .int 7, .bl true, .ref l, .ref t, .ref d] : List V)[i]? = some x) : ∃ t, TyX K H x t ∧ PySem.W.kitOne K t (.type "str") = some false := by
  have h := List.mem_of_getElem? h
  rcases (by simpa using h : x = .non ∨ x = .int 7 ∨ x = .bl true ∨ x = .ref l ∨ x = .ref t ∨ x = .ref d) with rfl | rfl | rfl | rfl | rfl | rfl
  · exact ⟨_, .base .non, kit_ty (by decide +kernel)⟩
  · exact ⟨_, .base (.int _), kit_ty (by decide +kernel)⟩
  · exact ⟨_, .base (.bl _), kit_ty (by decide +kernel)⟩
  · exact ⟨_, .base (.lst hl), kit_ty (by decide +kernel)⟩
  · exact ⟨_, .base (.tup ht), kit_ty (by decide +kernel)⟩
  · exact ⟨_, .base (.dK hd), kit_ty (by decide +kernel)⟩
theorem TOk.allw {m : Nat} {out : List Stp} (h : TOk m out) : AllW ((wordsM m out).map V.str) := fun x hx => by
  obtain ⟨z, hz, rfl⟩ := List.mem_map.mp hx
  obtain ⟨h1, h2⟩ := h.word z hz
  exact ⟨z, rfl, Nat.le_trans h1 (by decide), h2⟩
def DueIs (ws : List Str) (H : Hp) (t : Addr) : Prop := (∃ e : Nat, parse ws = .error e ∧ H t = some (.tup [.str "text", .int (e : Nat)])) ∨ ∃ m l, parse ws = .ok (m, l) ∧ RdIs H t m l
theorem DueIs.mono {ws : List Str} {H H' : Hp} {t : Addr} (h : DueIs ws H t) (s : Same H H') : DueIs ws H' t := by
  rcases h with ⟨e, h1, h2⟩ | ⟨m, l, h1, h2⟩
  · exact .inl ⟨e, h1, s _ _ h2⟩
  · exact .inr ⟨m, l, h1, h2.mono s⟩
def SaidIs (ws : List Str) (H : Hp) (t : Addr) : Prop := DueIs ws H t ∧ ∀ m l, parse ws = .ok (m, l) → MOk m l
theorem due_of {z : Str} {ws : List Str} {H : Hp} {Q : VK} {E : XK} (tx : TxOk z ws) (q : ∀ H' t, Same H H' → DueIs ws H' t → Q (.ref t) H') : spDueT [.str z] H Q E :=
  ⟨z, ws, rfl, tx, fun e H' t he s et => q H' t s (.inl ⟨e, he, et⟩), fun m l H' t t2 p us hp s h1 h2 h3 h4 => q H' t s (.inr ⟨m, l, hp, t2, p, us, h1, h2, h3, h4⟩)⟩
theorem said_of {z : Str} {ws : List Str} {H : Hp} {Q : VK} {E : XK} (tx : TxOk z ws) (q : ∀ H' t, Same H H' → SaidIs ws H' t → Q (.ref t) H') : spSaidT K [.str z] H Q E :=
  ⟨.str z, rfl, .inl ⟨z, ws, rfl, tx, fun e H' t he s et => q H' t s ⟨.inl ⟨e, he, et⟩, fun m l h => by rw [he] at h; cases h⟩, fun m l H' t t2 p us hp mok s h1 h2 h3 h4 => q H' t s ⟨.inr ⟨m, l, hp, t2, p, us, h1, h2, h3, h4⟩, fun m' l' h => by rw [hp] at h; cases h; exact mok⟩⟩⟩
theorem ne_same {ws : List Str} {H : Hp} {t u : Addr} {Q : VK} (hu : SaidIs ws H u) (hd : DueIs ws H t) (q : Q (.bl false) H) : rNeD K (.ref u) (.ref t) H Q := by
  obtain ⟨⟨e, h1, h2⟩ | ⟨m, l, h1, h2⟩, ok⟩ := hu
  · rcases hd with ⟨e', g1, g2⟩ | ⟨m', l', g1, g2⟩
    · rw [h1] at g1
      cases g1
      exact ne_at h2 g2 q
    · rw [h1] at g1
      cases g1
  · rcases hd with ⟨e', g1, g2⟩ | ⟨m', l', g1, g2⟩
    · rw [h1] at g1
      cases g1
    · rw [h1] at g1
      cases g1
      exact ne_rd (fun s hs => nm_strOk ((ok m l h1).ok.all s hs).sign) h2 g2 q
def spLaw (K : PySem.W.Frag) : Sp := fun vs H Q _ => ∃ (a : Addr) (ns : List Int), vs = [.ref a] ∧ SqL K H a (ns.map V.int) ∧ ns.length ≤ 63 ∧ ∀ H', Q (.bl true) H'
set_option maxHeartbeats 1600000 in
theorem ok_law (T : Txt K mg) : FnOk P w K mg base CX0 14 T.f_law T.d_law ["_law_script"] (spLaw K) := by
  refine T.F_law.ok sc_law (fun vs H Q E h => ?_) (fun cdv A outer s H vs Q E hr h => ?_)
  · obtain ⟨a, ns, rfl, _⟩ := h
    rfl
  · obtain ⟨a, ns, rfl, hS, hlen, q⟩ := h
    refine ⟨_, (pss_cons (ps_for PassesOwn.never rfl (pi_list (pe_lst (pa_cons pe_non (pa_cons pe_int (pa_cons (pe_cmpR op_eq pe_int pe_int (nomark _)) (pa_cons (pe_lst (pa_cons pe_str pa_nil)) (pa_cons (pe_tup (pa_cons pe_str pa_nil)) (pa_cons pe_dnewK pa_nil)))))))) (pg_name (i := 1) sc_law.nd rfl (.inl rfl))
  (pss_one (ps_if (pt_cmpR (op_neD hr.units) (pe_call (ok_l_said T) (hr.mono (by decide)) (by rfl) T.g_l_said T.F_l_said.kp T.b_l_said .nil pass0 (pa_cons (pv 1) pa_nil)) (pe_tup (pa_cons pe_str (pa_cons pe_non pa_nil))) (nomark _))
  (pss_one (ps_ret pe_bl))
  pss_nil)))
 (pss_cons (ps_for PassesOwn.never rfl (pi_list (pe_op op_cat (pe_slice sl_list (pv 0) po_none (po_some pe_int)) (pe_lst (pa_cons pe_int (pa_cons pe_int pa_nil))))) (pg_name (i := 2) sc_law.nd rfl (.inl rfl))
  (pss_cons (ps_set (i := 3) sc_law.nd rfl (.inl rfl) (pe_call (ok_l_well T) (hr.mono (by decide)) (by rfl) T.g_l_well T.F_l_well.kp T.b_l_well .nil pass0 (pa_cons (pv 2) pa_nil)))
 (pss_cons (ps_set (i := 4) sc_law.nd rfl (.inl rfl) (pe_call (ok_l_names T) (hr.mono (by decide)) (by rfl) T.g_l_names T.F_l_names.kp T.b_l_names .nil pass0 (pa_cons (pv 3) (pa_cons (pe_op op_add pe_int (pe_call (ok_l_draw T) (hr.mono (by decide)) (by rfl) T.g_l_draw T.F_l_draw.kp T.b_l_draw .nil pass0 (pa_cons (pv 3) (pa_cons pe_int pa_nil)))) pa_nil))))
 (pss_cons (ps_asg (pe_call (ok_l_machine T) (hr.mono (by decide)) (by rfl) T.g_l_machine T.F_l_machine.kp T.b_l_machine .nil pass0 (pa_cons (pv 3) (pa_cons (pv 4) (pa_cons pe_int pa_nil)))) (pg_tup (by rfl) (pgs_cons (pg_name (i := 5) sc_law.nd rfl (.inl rfl)) (pgs_cons (pg_name (i := 6) sc_law.nd rfl (.inl rfl)) pgs_nil))))
 (pss_cons (ps_set (i := 7) sc_law.nd rfl (.inl rfl) (pe_call (ok_l_words T) (hr.mono (by decide)) (by rfl) T.g_l_words T.F_l_words.kp T.b_l_words .nil pass0 (pa_cons (pe_make T.M_Machine (ok_m_Machine_init T) (hr.mono (by decide)) (by rfl) T.g_Machine T.b_m_Machine_init .nil pass0 (pa_cons (pv 5) (pa_cons (pv 6) pa_nil))) pa_nil)))
 (pss_cons (ps_for PassesOwn.never rfl (pi_range1 (by rfl) T.z_range (pa_cons (pe_call (ok_l_draw T) (hr.mono (by decide)) (by rfl) T.g_l_draw T.F_l_draw.kp T.b_l_draw .nil pass0 (pa_cons (pv 3) (pa_cons pe_int pa_nil))) pa_nil)) (pg_name (i := 8) sc_law.nd rfl (.inl rfl))
  (pss_one (ps_set (i := 7) sc_law.nd rfl (.inl rfl) (pe_call (ok_l_changed T) (hr.mono (by decide)) (by rfl) T.g_l_changed T.F_l_changed.kp T.b_l_changed .nil pass0 (pa_cons (pv 3) (pa_cons (pv 7) pa_nil))))))
 (pss_cons (ps_set (i := 9) sc_law.nd rfl (.inl rfl) (pe_join pe_str (pv 7)))
 (pss_cons (ps_set (i := 10) sc_law.nd rfl (.inl rfl) (pe_call (ok_l_due T) (hr.mono (by decide)) (by rfl) T.g_l_due T.F_l_due.kp T.b_l_due .nil pass0 (pa_cons (pv 9) pa_nil)))
 (pss_one (ps_if (PW.pt (pw_or (pt_cmpR (op_neD hr.units) (pe_call (ok_l_said T) (hr.mono (by decide)) (by rfl) T.g_l_said T.F_l_said.kp T.b_l_said .nil pass0 (pa_cons (pv 9) pa_nil)) (pv 10) (nomark _)) (pw_or1 (pt_cmpR (op_neD hr.units) (pe_call (ok_l_said T) (hr.mono (by decide)) (by rfl) T.g_l_said T.F_l_said.kp T.b_l_said .nil pass0 (pa_cons (pv 9) pa_nil)) (pv 10) (nomark _)))))
  (pss_one (ps_ret pe_bl))
  pss_nil))))))))))
 (pss_one (ps_ret pe_bl)))), ?_⟩
    refine ⟨rfl, by show 1 ≤ sizeLine; decide, fun l1 nl1 => ⟨by show 1 ≤ sizeLine; decide, fun t1 nt1 => fun d1 nd1 => ⟨by show 6 ≤ sizeLine; decide, fun p0 np0 => ?_⟩⟩⟩
    rw [decide_eq_true (show V.int 1 = V.int 1 from rfl)]
    have v1 := same_upd (o := .lst [.str "1"]) nl1
    have v2 := same_upd (o := .tup [.str "1"]) nt1
    have v3 := same_upd (o := .dK []) nd1
    have v4 := same_upd (o := .lst [.non, .int 7, .bl true, .ref l1, .ref t1, .ref d1]) np0
    have el := (v2.trans (v3.trans v4)) _ _ (@upd_same H l1 _)
    have et := (v3.trans v4) _ _ (@upd_same _ t1 _)
    have ed := v4 _ _ (@upd_same _ d1 _)
    have hS := (v1.trans (v2.trans (v3.trans v4))).seq hS
    refine ⟨p0, rfl, ⟨_, SqL.of upd_same⟩, ?_⟩
    have ep : (upd (upd (upd (upd H l1 (.lst [.str "1"])) t1 (.tup [.str "1"])) d1 (.dK [])) p0 (.lst [.non, .int 7, .bl true, .ref l1, .ref t1, .ref d1])) p0 = some (.lst [.non, .int 7, .bl true, .ref l1, .ref t1, .ref d1]) := upd_same
    generalize upd (upd (upd (upd H l1 (.lst [.str "1"])) t1 (.tup [.str "1"])) d1 (.dK [])) p0 (.lst [.non, .int 7, .bl true, .ref l1, .ref t1, .ref d1]) = Hk at *
    refine for_list (K := K) (a := p0) (xs := [.non, .int 7, .bl true, .ref l1, .ref t1, .ref d1]) (fun i σ H' => ∃ y1 y2 y3 y4 y5 y6 y7 y8 y9 y10, σ = [some (.ref a), y1, y2, y3, y4, y5, y6, y7, y8, y9, y10] ∧ Same Hk H') ⟨_, _, _, _, _, _, _, _, _, _, rfl, Same.refl _⟩ (fun i σ H' _ h => ?_) (fun i x σ H' hx h => ?_) (fun σ H' h => ?_)
    · obtain ⟨_, _, _, _, _, _, _, _, _, _, _, s0⟩ := h
      exact SqL.of (s0 _ _ ep)
    · obtain ⟨y1, y2, y3, y4, y5, y6, y7, y8, y9, y10, rfl, s0⟩ := h
      refine ⟨_, rfl, x, rfl, .inr ⟨six_at (s0 _ _ el) (s0 _ _ et) (s0 _ _ ed) hx, fun H1 t s1 e1 => ⟨by show 2 ≤ sizeLine; decide, fun u nu => ?_⟩⟩⟩
      have x1 := same_upd (o := .tup [.str "text", .non]) nu
      exact ne_none (x1 _ _ e1) upd_same ⟨false, rfl, iteF ⟨_, _, _, _, _, _, _, _, _, _, rfl, s0.trans (s1.trans x1)⟩⟩
    · obtain ⟨y1, y2, y3, y4, y5, y6, y7, y8, y9, y10, rfl, s0⟩ := h
      have hS := s0.seq hS
      clear s0 ep el et ed v1 v2 v3 v4 np0 nd1 nt1 nl1
      refine ⟨_, rfl, 12, rfl, a, _, rfl, hS, fun c1 n1 => ?_⟩
      refine ⟨by show 2 ≤ sizeLine; decide, fun c2 n2 => ?_⟩
      have ne12 : c1 ≠ c2 := fun z => by
        rw [← z, upd_same] at n2
        cases n2
      refine ⟨c1, c2, _, _, rfl, rfl, by rw [upd_ne ne12]; exact upd_same, upd_same, ?_, fun c3 n3 => ?_⟩
      · have := cutV_length (ns.map V.int) none (some 12)
        rw [List.length_map] at this
        exact Nat.le_of_lt (small1000 (by show _ + 2 ≤ 1000; omega))
      generalize hH0 : upd (upd (upd H' c1 (.lst (cutV (ns.map V.int) none (some 12)))) c2 (.lst [.int 0, .int 1])) c3 (.lst (cutV (ns.map V.int) none (some 12) ++ [.int 0, .int 1])) = H0
      have hc3 : H0 c3 = some (.lst (cutV (ns.map V.int) none (some 12) ++ [.int 0, .int 1])) := by
        rw [← hH0]
        exact upd_same
      refine ⟨c3, rfl, ⟨_, SqL.of hc3⟩, for_list (K := K) (a := c3) (xs := cutV (ns.map V.int) none (some 12) ++ [.int 0, .int 1])
        (fun i σ H' => ∃ y1 y2 y3 y4 y5 y6 y7 y8 y9 y10, σ = [some (.ref a), y1, y2, y3, y4, y5, y6, y7, y8, y9, y10] ∧ Same H0 H') ⟨_, _, _, _, _, _, _, _, _, _, rfl, Same.refl _⟩ (fun i σ H' _ h => ?_) (fun i x σ H' hx h => ?_) (fun σ H' h => ?_)⟩
      · obtain ⟨_, _, _, _, _, _, _, _, _, _, _, s0⟩ := h
        exact s0.seq (SqL.of hc3)
      · obtain ⟨y1, y2, y3, y4, y5, y6, y7, y8, y9, y10, rfl, s0⟩ := h
        obtain ⟨z, rfl⟩ := cells_int (more := [0, 1]) hx
        refine ⟨_, rfl, z, rfl, fun aw H1 nA sA wA => ?_⟩
        have w0 := wA.mono (show 3000 ≤ 1099511627776 by decide)
        refine ⟨_, rfl, _, rfl, aw, 2, 2999, rfl, w0, by decide, by decide, fun d' H4 d0' d1' s5 w5 => ⟨_, _, rfl, rfl, ?_⟩⟩
        obtain ⟨k, hk, k1, k3⟩ : ∃ k : Nat, 1 + d' = (k : Int) ∧ 1 ≤ k ∧ k ≤ 2 := ⟨(1 + d').toNat, by omega, by omega, by omega⟩
        dsimp only
        rw [hk]
        refine ⟨aw, k, 2949, rfl, by omega, w5, fun H5 ps zs nps s6 w6 eps nok => ?_⟩
        have psa : ps ≠ aw := w5.ne nps
        refine ⟨_, rfl, _, rfl, aw, ps, zs, k, 3, 1749, rfl, by decide, by decide, k1, by omega, nok, psa, eps, w6, fun H6 t l m vs ss s7 w7 m1 mm et nt nl el av ds => ?_⟩
        refine ⟨t, _, rfl, .inl (.inl et), rfl, _, _, rfl, _, _, rfl, rfl, ?_⟩
        have m12 : m ≤ 12 := by omega
        have sC : Same H0 (hid aw H6) := s0.trans (sA.trans (s5.trans (s6.trans s7)))
        have sok := ds.ok nok (by omega) m1 m12
        have b20 : ∀ s ∈ ss, ∀ x ∈ s.ws, x ≤ 20 := fun s hs => (ds.all s hs).2.2.1
        have few : ss.length ≤ 6 := by
          have h1 := ds.len
          rw [nok.len] at h1
          have h2 : m * k ≤ 3 * 2 := Nat.mul_le_mul mm k3
          omega
        clear s5 hk d0' d1' w0 w5 w6 nA sA wA eps s6 s7 et nt nl nps ds nok psa
        dsimp only [gName]
        refine ⟨_, rfl, _, rfl, ?_⟩
        dsimp only [tNil]
        refine mk_mach ⟨l, vs, rfl, el, av⟩ sok fun H9 xm out s9 nxm im so => ?_
        have mok := mok_of sok so
        have tok : TOk m out := ⟨mok, fun s hs x hx => by
          obtain ⟨s0, h0, rfl⟩ := List.mem_map.mp (so.1.mem_iff.mp hs)
          obtain ⟨y, hy, rfl⟩ := List.mem_map.mp (show x ∈ s0.ws.map (· / gcdF 0 s0.ws) from hx)
          exact Nat.lt_of_le_of_lt (Nat.le_trans (Nat.div_le_self _ _) (b20 s0 h0 y hy)) (by decide)⟩
        have lw : (wordsM m out).length ≤ 37 := by
          unfold wordsM
          rw [List.length_cons, flatw_len (m := m) fun s hs => (mok.ok.all s hs).wts.len, so.1.length_eq, List.length_map]
          have := Nat.mul_le_mul few (show m + 3 ≤ 6 by omega)
          omega
        refine ⟨.ref xm, m, out, rfl, im, tok, fun H10 wp s10 ew => ?_⟩
        have s910 := s9.trans s10
        have w10 := w7.same s910
        have wpa : wp ≠ aw := fun e => by
          obtain ⟨_, _, _, hw, _⟩ := w10
          rw [e, hw] at ew
          cases ew
        have sD : Same H0 (hid aw H10) := sC.trans (hid_mono s910)
        have aw0 := tok.allw
        have l0 : 1 ≤ ((wordsM m out).map V.str).length := by
          rw [List.length_map]
          unfold wordsM
          rw [List.length_cons]
          omega
        rw [← List.length_map V.str] at lw
        generalize (wordsM m out).map V.str = xs0 at *
        clear s910 s9 s10 w7 sC tok mok so im nxm el av sok b20 few
        dsimp only [gName]
        refine ⟨_, rfl, aw, 3, 1748, rfl, w10, by decide, by decide, fun dk H11 g0 g1 s11 w11 => ?_⟩
        refine ⟨dk, rfl, by omega, by omega, for_range (fun i σ H' => ∃ (y8 : Option V) (wp : Addr) (xs : List V), σ = [some (.ref a), y1, some (.int z), some (.ref aw), some (.ref ps), some (.int m), some (.ref l), some (.ref wp), y8, y9, y10] ∧ Same H0 (hid aw H') ∧ WellAt H' aw (1700 - 4 * i) ∧ wp ≠ aw ∧ H' wp = some (.lst xs) ∧ AllW xs ∧ 1 ≤ xs.length ∧ xs.length ≤ 37 + i) ⟨_, wp, xs0, rfl, sD.trans s11, w11.mono (by omega), wpa, hid_same _ _ (s11 _ _ (by rw [hid_ne wpa]; exact ew)), aw0, l0, lw⟩ (fun i σ H12 hi h => ?_) (fun σ H12 h => ?_)⟩
        · obtain ⟨y8, wp, xs, rfl, sE, wE, wpa, ew, ax, x1, x2⟩ := h
          have hi : i < 3 := by omega
          refine ⟨_, rfl, _, rfl, aw, wp, xs, 1700 - 4 * (i + 1), rfl, wpa, ew, ax, x1, by omega, wE.mono (by omega), fun H13 r ys s13 w13 ra er ay l1 l2 => ?_⟩
          exact ⟨_, r, ys, rfl, sE.trans s13, w13, ra, er, ay, l1, by omega⟩
        · obtain ⟨y8, wp, xs, rfl, sE, wE, wpa, ew, ax, x1, x2⟩ := h
          obtain ⟨ws, rfl, hws⟩ := ax.is
          rw [List.length_map] at x1 x2
          have tx : TxOk (Txt.join " " ws) ws := ⟨rfl, (fun e => by rw [e] at x1; cases x1), fun y hy => (hws y hy).free, by omega, fun y hy => Nat.le_trans (hws y hy).short (by decide)⟩
          have sl := sum_lens (b := 5000) fun y hy => (hws y hy).short
          refine ⟨⟨_, rfl⟩, _, rfl, " ", wp, ws, rfl, rfl, .inl (SqL.of ew), ?_, ?_⟩
          · show _ + ws.length * 1 ≤ _
            omega
          generalize Txt.join " " ws = zt at *
          dsimp only [gName]
          have sF : Same H0 H12 := sE.trans hid_same
          clear sE wE
          refine ⟨_, rfl, ?_⟩
          dsimp only [tNil]
          refine due_of tx fun H14 t s14 hd => ?_
          dsimp only [gName]
          refine ⟨_, rfl, ?_⟩
          dsimp only [tNil]
          refine said_of tx fun H15 u s15 hu => ?_
          refine ⟨_, rfl, ne_same hu (hd.mono s15) ⟨_, rfl, iteF ?_⟩⟩
          refine ⟨_, rfl, ?_⟩
          dsimp only [tNil]
          refine said_of tx fun H16 u2 s16 hu2 => ?_
          refine ⟨_, rfl, ne_same hu2 (hd.mono (s15.trans s16)) ⟨_, rfl, iteF ?_⟩⟩
          exact ⟨_, _, _, _, _, _, _, _, _, _, rfl, sF.trans (s14.trans (s15.trans s16))⟩
      · obtain ⟨_, _, _, _, _, _, _, _, _, _, rfl, _⟩ := h
        exact q _
end

end Fb

namespace Fb
open PySem PySem.Spec PyProof.Rows L2
set_option maxHeartbeats 4000000 in
theorem all_mk {l : PySem.W.OpenLaw} {w : World} {K : PySem.W.Frag} {h : Heap} {mg : Str → Option Value} {fa : Addr} (X : K.In h) (G : h.Ns mainGlobals mg) (hfa : mg "law" = some (.ref fa))
    {c_FarError c_NoMachine c_NoText c_Machine f_m_NoMachine_init f_m_NoText_init f_p_are_figures f_p_number_in f_p_is_whole f_p_is_name f_p_common_part f_m_Machine_init f_m_Machine_eq f_m_Machine_len f_p_is_room f_p_are_weights f_p_is_step f_p_are_steps f_p_lowest f_p_read f_p_read_step f_p_word_at f_p_number_at f_p_stands_behind f_p_are_lowest f_l_well f_l_draw f_l_one f_l_names f_l_weights f_l_machine f_l_words f_l_is_number f_l_is_sign f_l_divides f_l_step f_l_due f_l_said f_l_changed f_law : Addr} {od_m_NoMachine_init an_m_NoMachine_init od_m_NoText_init an_m_NoText_init od_p_are_figures an_p_are_figures od_p_number_in an_p_number_in od_p_is_whole an_p_is_whole od_p_is_name an_p_is_name od_p_common_part an_p_common_part od_m_Machine_init an_m_Machine_init od_m_Machine_eq an_m_Machine_eq od_m_Machine_len an_m_Machine_len od_p_is_room an_p_is_room od_p_are_weights an_p_are_weights od_p_is_step an_p_is_step od_p_are_steps an_p_are_steps od_p_lowest an_p_lowest od_p_read an_p_read od_p_read_step an_p_read_step od_p_word_at an_p_word_at od_p_number_at an_p_number_at od_p_stands_behind an_p_stands_behind od_p_are_lowest an_p_are_lowest od_l_well an_l_well od_l_draw an_l_draw od_l_one an_l_one od_l_names an_l_names od_l_weights an_l_weights od_l_machine an_l_machine od_l_words an_l_words od_l_is_number an_l_is_number od_l_is_sign an_l_is_sign od_l_divides an_l_divides od_l_step an_l_step od_l_due an_l_due od_l_said an_l_said od_l_changed an_l_changed od_law an_law : Option Addr} {sl_m_NoMachine_init sl_m_NoText_init sl_p_are_figures sl_p_number_in sl_p_is_whole sl_p_is_name sl_p_common_part sl_m_Machine_init sl_m_Machine_eq sl_m_Machine_len sl_p_is_room sl_p_are_weights sl_p_is_step sl_p_are_steps sl_p_lowest sl_p_read sl_p_read_step sl_p_word_at sl_p_number_at sl_p_stands_behind sl_p_are_lowest sl_l_well sl_l_draw sl_l_one sl_l_names sl_l_weights sl_l_machine sl_l_words sl_l_is_number sl_l_is_sign sl_l_divides sl_l_step sl_l_due sl_l_said sl_l_changed sl_law : Array (Option Value)} {oc_m_NoMachine_init kV_m_NoMachine_init dc_m_NoMachine_init pm_m_NoMachine_init cd_m_NoMachine_init ct_m_NoMachine_init oc_m_NoText_init kV_m_NoText_init dc_m_NoText_init pm_m_NoText_init cd_m_NoText_init ct_m_NoText_init oc_p_are_figures kV_p_are_figures dc_p_are_figures pm_p_are_figures cd_p_are_figures ct_p_are_figures oc_p_number_in kV_p_number_in dc_p_number_in pm_p_number_in cd_p_number_in ct_p_number_in oc_p_is_whole kV_p_is_whole dc_p_is_whole pm_p_is_whole cd_p_is_whole ct_p_is_whole oc_p_is_name kV_p_is_name dc_p_is_name pm_p_is_name cd_p_is_name ct_p_is_name oc_p_common_part kV_p_common_part dc_p_common_part pm_p_common_part cd_p_common_part ct_p_common_part oc_m_Machine_init kV_m_Machine_init dc_m_Machine_init pm_m_Machine_init cd_m_Machine_init ct_m_Machine_init oc_m_Machine_eq kV_m_Machine_eq dc_m_Machine_eq pm_m_Machine_eq cd_m_Machine_eq ct_m_Machine_eq oc_m_Machine_len kV_m_Machine_len dc_m_Machine_len pm_m_Machine_len cd_m_Machine_len ct_m_Machine_len oc_p_is_room kV_p_is_room dc_p_is_room pm_p_is_room cd_p_is_room ct_p_is_room oc_p_are_weights kV_p_are_weights dc_p_are_weights pm_p_are_weights cd_p_are_weights ct_p_are_weights oc_p_is_step kV_p_is_step dc_p_is_step pm_p_is_step cd_p_is_step ct_p_is_step oc_p_are_steps kV_p_are_steps dc_p_are_steps pm_p_are_steps cd_p_are_steps ct_p_are_steps oc_p_lowest kV_p_lowest dc_p_lowest pm_p_lowest cd_p_lowest ct_p_lowest oc_p_read kV_p_read dc_p_read pm_p_read cd_p_read ct_p_read oc_p_read_step kV_p_read_step dc_p_read_step pm_p_read_step cd_p_read_step ct_p_read_step oc_p_word_at kV_p_word_at dc_p_word_at pm_p_word_at cd_p_word_at ct_p_word_at oc_p_number_at kV_p_number_at dc_p_number_at pm_p_number_at cd_p_number_at ct_p_number_at oc_p_stands_behind kV_p_stands_behind dc_p_stands_behind pm_p_stands_behind cd_p_stands_behind ct_p_stands_behind oc_p_are_lowest kV_p_are_lowest dc_p_are_lowest pm_p_are_lowest cd_p_are_lowest ct_p_are_lowest oc_l_well kV_l_well dc_l_well pm_l_well cd_l_well ct_l_well oc_l_draw kV_l_draw dc_l_draw pm_l_draw cd_l_draw ct_l_draw oc_l_one kV_l_one dc_l_one pm_l_one cd_l_one ct_l_one oc_l_names kV_l_names dc_l_names pm_l_names cd_l_names ct_l_names oc_l_weights kV_l_weights dc_l_weights pm_l_weights cd_l_weights ct_l_weights oc_l_machine kV_l_machine dc_l_machine pm_l_machine cd_l_machine ct_l_machine oc_l_words kV_l_words dc_l_words pm_l_words cd_l_words ct_l_words oc_l_is_number kV_l_is_number dc_l_is_number pm_l_is_number cd_l_is_number ct_l_is_number oc_l_is_sign kV_l_is_sign dc_l_is_sign pm_l_is_sign cd_l_is_sign ct_l_is_sign oc_l_divides kV_l_divides dc_l_divides pm_l_divides cd_l_divides ct_l_divides oc_l_step kV_l_step dc_l_step pm_l_step cd_l_step ct_l_step oc_l_due kV_l_due dc_l_due pm_l_due cd_l_due ct_l_due oc_l_said kV_l_said dc_l_said pm_l_said cd_l_said ct_l_said oc_l_changed kV_l_changed dc_l_changed pm_l_changed cd_l_changed ct_l_changed oc_law kV_law dc_law pm_law cd_law ct_law : Value} {tkc_FIGURES : _} {tkc_LETTERS : _} {tkc_LONGEST_NAME : _} {tkc_MOST_ROOMS : _} {tkc_MOST_FIGURES : _} {tkc_BREAK : _}
    (a_FarError : PySem.W.nsIn K mainGlobals "FarError" = some (some (.ref c_FarError)))
    (a_NoMachine : PySem.W.nsIn K mainGlobals "NoMachine" = some (some (.ref c_NoMachine)))
    (a_NoText : PySem.W.nsIn K mainGlobals "NoText" = some (some (.ref c_NoText)))
    (a_Machine : PySem.W.nsIn K mainGlobals "Machine" = some (some (.ref c_Machine)))
    (a_m_NoMachine_init : PySem.W.findIn K (.ref c_NoMachine) "__init__" = some (some (.ref f_m_NoMachine_init)))
    (l_m_NoMachine_init : K.lookup f_m_NoMachine_init = some ⟨oc_m_NoMachine_init, od_m_NoMachine_init, .func (PySem.W.fnOf "__init__" "NoMachine.__init__" (defArgs s_m_NoMachine_init) (defBody s_m_NoMachine_init) (defScope s_m_NoMachine_init) .none kV_m_NoMachine_init dc_m_NoMachine_init pm_m_NoMachine_init an_m_NoMachine_init cd_m_NoMachine_init ct_m_NoMachine_init), sl_m_NoMachine_init⟩)
    (c_m_NoMachine_init_ : PySem.W.codeIn K cd_m_NoMachine_init "NoMachine.__init__" = true)
    (k_m_NoMachine_init_ : PySem.W.keepIn K (.ref f_m_NoMachine_init) = true)
    (a_m_NoText_init : PySem.W.findIn K (.ref c_NoText) "__init__" = some (some (.ref f_m_NoText_init)))
    (l_m_NoText_init : K.lookup f_m_NoText_init = some ⟨oc_m_NoText_init, od_m_NoText_init, .func (PySem.W.fnOf "__init__" "NoText.__init__" (defArgs s_m_NoText_init) (defBody s_m_NoText_init) (defScope s_m_NoText_init) .none kV_m_NoText_init dc_m_NoText_init pm_m_NoText_init an_m_NoText_init cd_m_NoText_init ct_m_NoText_init), sl_m_NoText_init⟩)
    (c_m_NoText_init_ : PySem.W.codeIn K cd_m_NoText_init "NoText.__init__" = true)
    (k_m_NoText_init_ : PySem.W.keepIn K (.ref f_m_NoText_init) = true)
    (a_p_are_figures : PySem.W.nsIn K mainGlobals "are_figures" = some (some (.ref f_p_are_figures)))
    (l_p_are_figures : K.lookup f_p_are_figures = some ⟨oc_p_are_figures, od_p_are_figures, .func (PySem.W.fnOf "are_figures" "are_figures" (defArgs s_p_are_figures) (defBody s_p_are_figures) (defScope s_p_are_figures) .none kV_p_are_figures dc_p_are_figures pm_p_are_figures an_p_are_figures cd_p_are_figures ct_p_are_figures), sl_p_are_figures⟩)
    (c_p_are_figures_ : PySem.W.codeIn K cd_p_are_figures "are_figures" = true)
    (k_p_are_figures_ : PySem.W.keepIn K (.ref f_p_are_figures) = true)
    (a_p_number_in : PySem.W.nsIn K mainGlobals "number_in" = some (some (.ref f_p_number_in)))
    (l_p_number_in : K.lookup f_p_number_in = some ⟨oc_p_number_in, od_p_number_in, .func (PySem.W.fnOf "number_in" "number_in" (defArgs s_p_number_in) (defBody s_p_number_in) (defScope s_p_number_in) .none kV_p_number_in dc_p_number_in pm_p_number_in an_p_number_in cd_p_number_in ct_p_number_in), sl_p_number_in⟩)
    (c_p_number_in_ : PySem.W.codeIn K cd_p_number_in "number_in" = true)
    (k_p_number_in_ : PySem.W.keepIn K (.ref f_p_number_in) = true)
    (a_p_is_whole : PySem.W.nsIn K mainGlobals "is_whole" = some (some (.ref f_p_is_whole)))
    (l_p_is_whole : K.lookup f_p_is_whole = some ⟨oc_p_is_whole, od_p_is_whole, .func (PySem.W.fnOf "is_whole" "is_whole" (defArgs s_p_is_whole) (defBody s_p_is_whole) (defScope s_p_is_whole) .none kV_p_is_whole dc_p_is_whole pm_p_is_whole an_p_is_whole cd_p_is_whole ct_p_is_whole), sl_p_is_whole⟩)
    (c_p_is_whole_ : PySem.W.codeIn K cd_p_is_whole "is_whole" = true)
    (k_p_is_whole_ : PySem.W.keepIn K (.ref f_p_is_whole) = true)
    (a_p_is_name : PySem.W.nsIn K mainGlobals "is_name" = some (some (.ref f_p_is_name)))
    (l_p_is_name : K.lookup f_p_is_name = some ⟨oc_p_is_name, od_p_is_name, .func (PySem.W.fnOf "is_name" "is_name" (defArgs s_p_is_name) (defBody s_p_is_name) (defScope s_p_is_name) .none kV_p_is_name dc_p_is_name pm_p_is_name an_p_is_name cd_p_is_name ct_p_is_name), sl_p_is_name⟩)
    (c_p_is_name_ : PySem.W.codeIn K cd_p_is_name "is_name" = true)
    (k_p_is_name_ : PySem.W.keepIn K (.ref f_p_is_name) = true)
    (a_p_common_part : PySem.W.nsIn K mainGlobals "common_part" = some (some (.ref f_p_common_part)))
    (l_p_common_part : K.lookup f_p_common_part = some ⟨oc_p_common_part, od_p_common_part, .func (PySem.W.fnOf "common_part" "common_part" (defArgs s_p_common_part) (defBody s_p_common_part) (defScope s_p_common_part) .none kV_p_common_part dc_p_common_part pm_p_common_part an_p_common_part cd_p_common_part ct_p_common_part), sl_p_common_part⟩)
    (c_p_common_part_ : PySem.W.codeIn K cd_p_common_part "common_part" = true)
    (k_p_common_part_ : PySem.W.keepIn K (.ref f_p_common_part) = true)
    (a_m_Machine_init : PySem.W.findIn K (.ref c_Machine) "__init__" = some (some (.ref f_m_Machine_init)))
    (l_m_Machine_init : K.lookup f_m_Machine_init = some ⟨oc_m_Machine_init, od_m_Machine_init, .func (PySem.W.fnOf "__init__" "Machine.__init__" (defArgs s_m_Machine_init) (defBody s_m_Machine_init) (defScope s_m_Machine_init) .none kV_m_Machine_init dc_m_Machine_init pm_m_Machine_init an_m_Machine_init cd_m_Machine_init ct_m_Machine_init), sl_m_Machine_init⟩)
    (c_m_Machine_init_ : PySem.W.codeIn K cd_m_Machine_init "Machine.__init__" = true)
    (k_m_Machine_init_ : PySem.W.keepIn K (.ref f_m_Machine_init) = true)
    (a_m_Machine_eq : PySem.W.findIn K (.ref c_Machine) "__eq__" = some (some (.ref f_m_Machine_eq)))
    (l_m_Machine_eq : K.lookup f_m_Machine_eq = some ⟨oc_m_Machine_eq, od_m_Machine_eq, .func (PySem.W.fnOf "__eq__" "Machine.__eq__" (defArgs s_m_Machine_eq) (defBody s_m_Machine_eq) (defScope s_m_Machine_eq) .none kV_m_Machine_eq dc_m_Machine_eq pm_m_Machine_eq an_m_Machine_eq cd_m_Machine_eq ct_m_Machine_eq), sl_m_Machine_eq⟩)
    (c_m_Machine_eq_ : PySem.W.codeIn K cd_m_Machine_eq "Machine.__eq__" = true)
    (k_m_Machine_eq_ : PySem.W.keepIn K (.ref f_m_Machine_eq) = true)
    (a_m_Machine_len : PySem.W.findIn K (.ref c_Machine) "__len__" = some (some (.ref f_m_Machine_len)))
    (l_m_Machine_len : K.lookup f_m_Machine_len = some ⟨oc_m_Machine_len, od_m_Machine_len, .func (PySem.W.fnOf "__len__" "Machine.__len__" (defArgs s_m_Machine_len) (defBody s_m_Machine_len) (defScope s_m_Machine_len) .none kV_m_Machine_len dc_m_Machine_len pm_m_Machine_len an_m_Machine_len cd_m_Machine_len ct_m_Machine_len), sl_m_Machine_len⟩)
    (c_m_Machine_len_ : PySem.W.codeIn K cd_m_Machine_len "Machine.__len__" = true)
    (k_m_Machine_len_ : PySem.W.keepIn K (.ref f_m_Machine_len) = true)
    (a_p_is_room : PySem.W.nsIn K mainGlobals "is_room" = some (some (.ref f_p_is_room)))
    (l_p_is_room : K.lookup f_p_is_room = some ⟨oc_p_is_room, od_p_is_room, .func (PySem.W.fnOf "is_room" "is_room" (defArgs s_p_is_room) (defBody s_p_is_room) (defScope s_p_is_room) .none kV_p_is_room dc_p_is_room pm_p_is_room an_p_is_room cd_p_is_room ct_p_is_room), sl_p_is_room⟩)
    (c_p_is_room_ : PySem.W.codeIn K cd_p_is_room "is_room" = true)
    (k_p_is_room_ : PySem.W.keepIn K (.ref f_p_is_room) = true)
    (a_p_are_weights : PySem.W.nsIn K mainGlobals "are_weights" = some (some (.ref f_p_are_weights)))
    (l_p_are_weights : K.lookup f_p_are_weights = some ⟨oc_p_are_weights, od_p_are_weights, .func (PySem.W.fnOf "are_weights" "are_weights" (defArgs s_p_are_weights) (defBody s_p_are_weights) (defScope s_p_are_weights) .none kV_p_are_weights dc_p_are_weights pm_p_are_weights an_p_are_weights cd_p_are_weights ct_p_are_weights), sl_p_are_weights⟩)
    (c_p_are_weights_ : PySem.W.codeIn K cd_p_are_weights "are_weights" = true)
    (k_p_are_weights_ : PySem.W.keepIn K (.ref f_p_are_weights) = true)
    (a_p_is_step : PySem.W.nsIn K mainGlobals "is_step" = some (some (.ref f_p_is_step)))
    (l_p_is_step : K.lookup f_p_is_step = some ⟨oc_p_is_step, od_p_is_step, .func (PySem.W.fnOf "is_step" "is_step" (defArgs s_p_is_step) (defBody s_p_is_step) (defScope s_p_is_step) .none kV_p_is_step dc_p_is_step pm_p_is_step an_p_is_step cd_p_is_step ct_p_is_step), sl_p_is_step⟩)
    (c_p_is_step_ : PySem.W.codeIn K cd_p_is_step "is_step" = true)
    (k_p_is_step_ : PySem.W.keepIn K (.ref f_p_is_step) = true)
    (a_p_are_steps : PySem.W.nsIn K mainGlobals "are_steps" = some (some (.ref f_p_are_steps)))
    (l_p_are_steps : K.lookup f_p_are_steps = some ⟨oc_p_are_steps, od_p_are_steps, .func (PySem.W.fnOf "are_steps" "are_steps" (defArgs s_p_are_steps) (defBody s_p_are_steps) (defScope s_p_are_steps) .none kV_p_are_steps dc_p_are_steps pm_p_are_steps an_p_are_steps cd_p_are_steps ct_p_are_steps), sl_p_are_steps⟩)
    (c_p_are_steps_ : PySem.W.codeIn K cd_p_are_steps "are_steps" = true)
    (k_p_are_steps_ : PySem.W.keepIn K (.ref f_p_are_steps) = true)
    (a_p_lowest : PySem.W.nsIn K mainGlobals "lowest" = some (some (.ref f_p_lowest)))
    (l_p_lowest : K.lookup f_p_lowest = some ⟨oc_p_lowest, od_p_lowest, .func (PySem.W.fnOf "lowest" "lowest" (defArgs s_p_lowest) (defBody s_p_lowest) (defScope s_p_lowest) .none kV_p_lowest dc_p_lowest pm_p_lowest an_p_lowest cd_p_lowest ct_p_lowest), sl_p_lowest⟩)
    (c_p_lowest_ : PySem.W.codeIn K cd_p_lowest "lowest" = true)
    (k_p_lowest_ : PySem.W.keepIn K (.ref f_p_lowest) = true)
    (a_p_read : PySem.W.nsIn K mainGlobals "read" = some (some (.ref f_p_read)))
    (l_p_read : K.lookup f_p_read = some ⟨oc_p_read, od_p_read, .func (PySem.W.fnOf "read" "read" (defArgs s_p_read) (defBody s_p_read) (defScope s_p_read) .none kV_p_read dc_p_read pm_p_read an_p_read cd_p_read ct_p_read), sl_p_read⟩)
    (c_p_read_ : PySem.W.codeIn K cd_p_read "read" = true)
    (k_p_read_ : PySem.W.keepIn K (.ref f_p_read) = true)
    (a_p_read_step : PySem.W.nsIn K mainGlobals "read_step" = some (some (.ref f_p_read_step)))
    (l_p_read_step : K.lookup f_p_read_step = some ⟨oc_p_read_step, od_p_read_step, .func (PySem.W.fnOf "read_step" "read_step" (defArgs s_p_read_step) (defBody s_p_read_step) (defScope s_p_read_step) .none kV_p_read_step dc_p_read_step pm_p_read_step an_p_read_step cd_p_read_step ct_p_read_step), sl_p_read_step⟩)
    (c_p_read_step_ : PySem.W.codeIn K cd_p_read_step "read_step" = true)
    (k_p_read_step_ : PySem.W.keepIn K (.ref f_p_read_step) = true)
    (a_p_word_at : PySem.W.nsIn K mainGlobals "word_at" = some (some (.ref f_p_word_at)))
    (l_p_word_at : K.lookup f_p_word_at = some ⟨oc_p_word_at, od_p_word_at, .func (PySem.W.fnOf "word_at" "word_at" (defArgs s_p_word_at) (defBody s_p_word_at) (defScope s_p_word_at) .none kV_p_word_at dc_p_word_at pm_p_word_at an_p_word_at cd_p_word_at ct_p_word_at), sl_p_word_at⟩)
    (c_p_word_at_ : PySem.W.codeIn K cd_p_word_at "word_at" = true)
    (k_p_word_at_ : PySem.W.keepIn K (.ref f_p_word_at) = true)
    (a_p_number_at : PySem.W.nsIn K mainGlobals "number_at" = some (some (.ref f_p_number_at)))
    (l_p_number_at : K.lookup f_p_number_at = some ⟨oc_p_number_at, od_p_number_at, .func (PySem.W.fnOf "number_at" "number_at" (defArgs s_p_number_at) (defBody s_p_number_at) (defScope s_p_number_at) .none kV_p_number_at dc_p_number_at pm_p_number_at an_p_number_at cd_p_number_at ct_p_number_at), sl_p_number_at⟩)
    (c_p_number_at_ : PySem.W.codeIn K cd_p_number_at "number_at" = true)
    (k_p_number_at_ : PySem.W.keepIn K (.ref f_p_number_at) = true)
    (a_p_stands_behind : PySem.W.nsIn K mainGlobals "stands_behind" = some (some (.ref f_p_stands_behind)))
    (l_p_stands_behind : K.lookup f_p_stands_behind = some ⟨oc_p_stands_behind, od_p_stands_behind, .func (PySem.W.fnOf "stands_behind" "stands_behind" (defArgs s_p_stands_behind) (defBody s_p_stands_behind) (defScope s_p_stands_behind) .none kV_p_stands_behind dc_p_stands_behind pm_p_stands_behind an_p_stands_behind cd_p_stands_behind ct_p_stands_behind), sl_p_stands_behind⟩)
    (c_p_stands_behind_ : PySem.W.codeIn K cd_p_stands_behind "stands_behind" = true)
    (k_p_stands_behind_ : PySem.W.keepIn K (.ref f_p_stands_behind) = true)
    (a_p_are_lowest : PySem.W.nsIn K mainGlobals "are_lowest" = some (some (.ref f_p_are_lowest)))
    (l_p_are_lowest : K.lookup f_p_are_lowest = some ⟨oc_p_are_lowest, od_p_are_lowest, .func (PySem.W.fnOf "are_lowest" "are_lowest" (defArgs s_p_are_lowest) (defBody s_p_are_lowest) (defScope s_p_are_lowest) .none kV_p_are_lowest dc_p_are_lowest pm_p_are_lowest an_p_are_lowest cd_p_are_lowest ct_p_are_lowest), sl_p_are_lowest⟩)
    (c_p_are_lowest_ : PySem.W.codeIn K cd_p_are_lowest "are_lowest" = true)
    (k_p_are_lowest_ : PySem.W.keepIn K (.ref f_p_are_lowest) = true)
    (a_l_well : PySem.W.nsIn K mainGlobals "_law_well" = some (some (.ref f_l_well)))
    (l_l_well : K.lookup f_l_well = some ⟨oc_l_well, od_l_well, .func (PySem.W.fnOf "_law_well" "_law_well" (defArgs s_l_well) (defBody s_l_well) (defScope s_l_well) .none kV_l_well dc_l_well pm_l_well an_l_well cd_l_well ct_l_well), sl_l_well⟩)
    (c_l_well_ : PySem.W.codeIn K cd_l_well "_law_well" = true)
    (k_l_well_ : PySem.W.keepIn K (.ref f_l_well) = true)
    (a_l_draw : PySem.W.nsIn K mainGlobals "_law_draw" = some (some (.ref f_l_draw)))
    (l_l_draw : K.lookup f_l_draw = some ⟨oc_l_draw, od_l_draw, .func (PySem.W.fnOf "_law_draw" "_law_draw" (defArgs s_l_draw) (defBody s_l_draw) (defScope s_l_draw) .none kV_l_draw dc_l_draw pm_l_draw an_l_draw cd_l_draw ct_l_draw), sl_l_draw⟩)
    (c_l_draw_ : PySem.W.codeIn K cd_l_draw "_law_draw" = true)
    (k_l_draw_ : PySem.W.keepIn K (.ref f_l_draw) = true)
    (a_l_one : PySem.W.nsIn K mainGlobals "_law_one" = some (some (.ref f_l_one)))
    (l_l_one : K.lookup f_l_one = some ⟨oc_l_one, od_l_one, .func (PySem.W.fnOf "_law_one" "_law_one" (defArgs s_l_one) (defBody s_l_one) (defScope s_l_one) .none kV_l_one dc_l_one pm_l_one an_l_one cd_l_one ct_l_one), sl_l_one⟩)
    (c_l_one_ : PySem.W.codeIn K cd_l_one "_law_one" = true)
    (k_l_one_ : PySem.W.keepIn K (.ref f_l_one) = true)
    (a_l_names : PySem.W.nsIn K mainGlobals "_law_names" = some (some (.ref f_l_names)))
    (l_l_names : K.lookup f_l_names = some ⟨oc_l_names, od_l_names, .func (PySem.W.fnOf "_law_names" "_law_names" (defArgs s_l_names) (defBody s_l_names) (defScope s_l_names) .none kV_l_names dc_l_names pm_l_names an_l_names cd_l_names ct_l_names), sl_l_names⟩)
    (c_l_names_ : PySem.W.codeIn K cd_l_names "_law_names" = true)
    (k_l_names_ : PySem.W.keepIn K (.ref f_l_names) = true)
    (a_l_weights : PySem.W.nsIn K mainGlobals "_law_weights" = some (some (.ref f_l_weights)))
    (l_l_weights : K.lookup f_l_weights = some ⟨oc_l_weights, od_l_weights, .func (PySem.W.fnOf "_law_weights" "_law_weights" (defArgs s_l_weights) (defBody s_l_weights) (defScope s_l_weights) .none kV_l_weights dc_l_weights pm_l_weights an_l_weights cd_l_weights ct_l_weights), sl_l_weights⟩)
    (c_l_weights_ : PySem.W.codeIn K cd_l_weights "_law_weights" = true)
    (k_l_weights_ : PySem.W.keepIn K (.ref f_l_weights) = true)
    (a_l_machine : PySem.W.nsIn K mainGlobals "_law_machine" = some (some (.ref f_l_machine)))
    (l_l_machine : K.lookup f_l_machine = some ⟨oc_l_machine, od_l_machine, .func (PySem.W.fnOf "_law_machine" "_law_machine" (defArgs s_l_machine) (defBody s_l_machine) (defScope s_l_machine) .none kV_l_machine dc_l_machine pm_l_machine an_l_machine cd_l_machine ct_l_machine), sl_l_machine⟩)
    (c_l_machine_ : PySem.W.codeIn K cd_l_machine "_law_machine" = true)
    (k_l_machine_ : PySem.W.keepIn K (.ref f_l_machine) = true)
    (a_l_words : PySem.W.nsIn K mainGlobals "_law_words" = some (some (.ref f_l_words)))
    (l_l_words : K.lookup f_l_words = some ⟨oc_l_words, od_l_words, .func (PySem.W.fnOf "_law_words" "_law_words" (defArgs s_l_words) (defBody s_l_words) (defScope s_l_words) .none kV_l_words dc_l_words pm_l_words an_l_words cd_l_words ct_l_words), sl_l_words⟩)
    (c_l_words_ : PySem.W.codeIn K cd_l_words "_law_words" = true)
    (k_l_words_ : PySem.W.keepIn K (.ref f_l_words) = true)
    (a_l_is_number : PySem.W.nsIn K mainGlobals "_law_is_number" = some (some (.ref f_l_is_number)))
    (l_l_is_number : K.lookup f_l_is_number = some ⟨oc_l_is_number, od_l_is_number, .func (PySem.W.fnOf "_law_is_number" "_law_is_number" (defArgs s_l_is_number) (defBody s_l_is_number) (defScope s_l_is_number) .none kV_l_is_number dc_l_is_number pm_l_is_number an_l_is_number cd_l_is_number ct_l_is_number), sl_l_is_number⟩)
    (c_l_is_number_ : PySem.W.codeIn K cd_l_is_number "_law_is_number" = true)
    (k_l_is_number_ : PySem.W.keepIn K (.ref f_l_is_number) = true)
    (a_l_is_sign : PySem.W.nsIn K mainGlobals "_law_is_sign" = some (some (.ref f_l_is_sign)))
    (l_l_is_sign : K.lookup f_l_is_sign = some ⟨oc_l_is_sign, od_l_is_sign, .func (PySem.W.fnOf "_law_is_sign" "_law_is_sign" (defArgs s_l_is_sign) (defBody s_l_is_sign) (defScope s_l_is_sign) .none kV_l_is_sign dc_l_is_sign pm_l_is_sign an_l_is_sign cd_l_is_sign ct_l_is_sign), sl_l_is_sign⟩)
    (c_l_is_sign_ : PySem.W.codeIn K cd_l_is_sign "_law_is_sign" = true)
    (k_l_is_sign_ : PySem.W.keepIn K (.ref f_l_is_sign) = true)
    (a_l_divides : PySem.W.nsIn K mainGlobals "_law_divides" = some (some (.ref f_l_divides)))
    (l_l_divides : K.lookup f_l_divides = some ⟨oc_l_divides, od_l_divides, .func (PySem.W.fnOf "_law_divides" "_law_divides" (defArgs s_l_divides) (defBody s_l_divides) (defScope s_l_divides) .none kV_l_divides dc_l_divides pm_l_divides an_l_divides cd_l_divides ct_l_divides), sl_l_divides⟩)
    (c_l_divides_ : PySem.W.codeIn K cd_l_divides "_law_divides" = true)
    (k_l_divides_ : PySem.W.keepIn K (.ref f_l_divides) = true)
    (a_l_step : PySem.W.nsIn K mainGlobals "_law_step" = some (some (.ref f_l_step)))
    (l_l_step : K.lookup f_l_step = some ⟨oc_l_step, od_l_step, .func (PySem.W.fnOf "_law_step" "_law_step" (defArgs s_l_step) (defBody s_l_step) (defScope s_l_step) .none kV_l_step dc_l_step pm_l_step an_l_step cd_l_step ct_l_step), sl_l_step⟩)
    (c_l_step_ : PySem.W.codeIn K cd_l_step "_law_step" = true)
    (k_l_step_ : PySem.W.keepIn K (.ref f_l_step) = true)
    (a_l_due : PySem.W.nsIn K mainGlobals "_law_due" = some (some (.ref f_l_due)))
    (l_l_due : K.lookup f_l_due = some ⟨oc_l_due, od_l_due, .func (PySem.W.fnOf "_law_due" "_law_due" (defArgs s_l_due) (defBody s_l_due) (defScope s_l_due) .none kV_l_due dc_l_due pm_l_due an_l_due cd_l_due ct_l_due), sl_l_due⟩)
    (c_l_due_ : PySem.W.codeIn K cd_l_due "_law_due" = true)
    (k_l_due_ : PySem.W.keepIn K (.ref f_l_due) = true)
    (a_l_said : PySem.W.nsIn K mainGlobals "_law_said" = some (some (.ref f_l_said)))
    (l_l_said : K.lookup f_l_said = some ⟨oc_l_said, od_l_said, .func (PySem.W.fnOf "_law_said" "_law_said" (defArgs s_l_said) (defBody s_l_said) (defScope s_l_said) .none kV_l_said dc_l_said pm_l_said an_l_said cd_l_said ct_l_said), sl_l_said⟩)
    (c_l_said_ : PySem.W.codeIn K cd_l_said "_law_said" = true)
    (k_l_said_ : PySem.W.keepIn K (.ref f_l_said) = true)
    (a_l_changed : PySem.W.nsIn K mainGlobals "_law_changed" = some (some (.ref f_l_changed)))
    (l_l_changed : K.lookup f_l_changed = some ⟨oc_l_changed, od_l_changed, .func (PySem.W.fnOf "_law_changed" "_law_changed" (defArgs s_l_changed) (defBody s_l_changed) (defScope s_l_changed) .none kV_l_changed dc_l_changed pm_l_changed an_l_changed cd_l_changed ct_l_changed), sl_l_changed⟩)
    (c_l_changed_ : PySem.W.codeIn K cd_l_changed "_law_changed" = true)
    (k_l_changed_ : PySem.W.keepIn K (.ref f_l_changed) = true)
    (a_law : PySem.W.nsIn K mainGlobals "law" = some (some (.ref f_law)))
    (l_law : K.lookup f_law = some ⟨oc_law, od_law, .func (PySem.W.fnOf "law" "law" (defArgs s_law) (defBody s_law) (defScope s_law) .none kV_law dc_law pm_law an_law cd_law ct_law), sl_law⟩)
    (c_law_ : PySem.W.codeIn K cd_law "law" = true)
    (k_law_ : PySem.W.keepIn K (.ref f_law) = true)
    (pg_Machine : PySem.W.plainGet K c_Machine Str.empty = true)
    (hd_Machine : PySem.W.hasDictIn K c_Machine = true)
    (po_Machine : PySem.W.plainOver K c_Machine = true)
    (sa_Machine : PySem.W.findIn K (.ref c_Machine) "__setattr__" = some (some (.builtin "object.__setattr__")))
    (mk_Machine : PySem.W.makesIn K c_Machine = true)
    (kc_Machine : PySem.W.keepIn K (.ref c_Machine) = true)
    (if_Machine : PySem.W.isFn K (.ref f_m_Machine_init) = true)
    (ha_Machine : PySem.W.findIn K (.ref c_Machine) "__class__" = some (some (.builtin "object.__class__")))
    (hn_Machine : PySem.W.specialIn K (.builtin "object.__class__") "__get__" = some (some (.builtin "getset_descriptor.__get__")))
    (ht_Machine : PySem.W.takesIn K (.builtin "object.__class__") = some true)
    (hm_Machine : PySem.W.mroIn K c_Machine (.type "object") = some true)
    (n_Machine_many : PySem.W.findIn K (.ref c_Machine) "many" = some none)
    (n_Machine_steps : PySem.W.findIn K (.ref c_Machine) "steps" = some none)
    (i_m_Machine_eq : PySem.W.isFn K (.ref f_m_Machine_eq) = true)
    (i_m_Machine_len : PySem.W.isFn K (.ref f_m_Machine_len) = true)
    (nn_Machine : PySem.W.findIn K (.ref c_Machine) "__ne__" = some (some (.builtin "object.__ne__")))
    (nf_Machine_int : PySem.W.notFirst K c_Machine (.type "int") = true)
    (nf_Machine_str : PySem.W.notFirst K c_Machine (.type "str") = true)
    (nf_Machine_NoneType : PySem.W.notFirst K c_Machine (.type "NoneType") = true)
    (nf_Machine_list : PySem.W.notFirst K c_Machine (.type "list") = true)
    (nf_Machine_tuple : PySem.W.notFirst K c_Machine (.type "tuple") = true)
    (nf_Machine_dict : PySem.W.notFirst K c_Machine (.type "dict") = true)
    (nf_Machine_bool : PySem.W.notFirst K c_Machine (.type "bool") = true)
    (ko_Machine : PySem.W.kitOne K (.ref c_Machine) (.ref c_Machine) = some true)
    (ko_Machine_int : PySem.W.kitOne K (.type "int") (.ref c_Machine) = some false)
    (ko_Machine_str : PySem.W.kitOne K (.type "str") (.ref c_Machine) = some false)
    (ko_Machine_NoneType : PySem.W.kitOne K (.type "NoneType") (.ref c_Machine) = some false)
    (ko_Machine_list : PySem.W.kitOne K (.type "list") (.ref c_Machine) = some false)
    (ko_Machine_tuple : PySem.W.kitOne K (.type "tuple") (.ref c_Machine) = some false)
    (ko_Machine_dict : PySem.W.kitOne K (.type "dict") (.ref c_Machine) = some false)
    (ko_Machine_bool : PySem.W.kitOne K (.type "bool") (.ref c_Machine) = some false)
    (ac_FIGURES : PySem.W.nsIn K mainGlobals "FIGURES" = some (some (Value.str "0123456789" tkc_FIGURES)))
    (ac_LETTERS : PySem.W.nsIn K mainGlobals "LETTERS" = some (some (Value.str "abcdefghijklmnopqrstuvwxyz" tkc_LETTERS)))
    (ac_LONGEST_NAME : PySem.W.nsIn K mainGlobals "LONGEST_NAME" = some (some (Value.int 8 tkc_LONGEST_NAME)))
    (ac_MOST_ROOMS : PySem.W.nsIn K mainGlobals "MOST_ROOMS" = some (some (Value.int 12 tkc_MOST_ROOMS)))
    (ac_MOST_FIGURES : PySem.W.nsIn K mainGlobals "MOST_FIGURES" = some (some (Value.int 100 tkc_MOST_FIGURES)))
    (ac_BREAK : PySem.W.nsIn K mainGlobals "BREAK" = some (some (Value.str "/" tkc_BREAK)))
    (zz_all : PySem.W.nsIn K mainGlobals "all" = some none)
    (zz_len : PySem.W.nsIn K mainGlobals "len" = some none)
    (zz_int : PySem.W.nsIn K mainGlobals "int" = some none)
    (zz_isinstance : PySem.W.nsIn K mainGlobals "isinstance" = some none)
    (zz_bool : PySem.W.nsIn K mainGlobals "bool" = some none)
    (zz_str : PySem.W.nsIn K mainGlobals "str" = some none)
    (zz_abs : PySem.W.nsIn K mainGlobals "abs" = some none)
    (zz_sorted : PySem.W.nsIn K mainGlobals "sorted" = some none)
    (zz_range : PySem.W.nsIn K mainGlobals "range" = some none)
    (zz_any : PySem.W.nsIn K mainGlobals "any" = some none)
    (zz_tuple : PySem.W.nsIn K mainGlobals "tuple" = some none)
    (zz_list : PySem.W.nsIn K mainGlobals "list" = some none)
    (zz_sum : PySem.W.nsIn K mainGlobals "sum" = some none)
    (zz_enumerate : PySem.W.nsIn K mainGlobals "enumerate" = some none)
    (zz_min : PySem.W.nsIn K mainGlobals "min" = some none)
    (zz_max : PySem.W.nsIn K mainGlobals "max" = some none)
    (fact_y_FarError_sb : PySem.W.subIn K (.ref c_FarError) (.type "BaseException") = some true)
    (fact_y_FarError_ty : PySem.W.typeIn K (.ref c_FarError) = some (.type "type"))
    (fact_y_FarError_hd : PySem.W.hasDictIn K c_FarError = true)
    (fact_i_NoText_xi : PySem.W.excInitIn K c_NoText PySem.HandSPX.veTail "ValueError.__new__" = true)
    (fact_i_NoText_hd : PySem.W.hasDictIn K c_NoText = true)
    (fact_i_NoText_sa : PySem.W.findIn K (.ref c_NoText) "__setattr__" = some (some (.builtin "object.__setattr__")))
    (fact_i_NoText_sb : PySem.W.subIn K (.ref c_NoText) (.type "BaseException") = some true)
    (fact_i_NoText_ty : PySem.W.typeIn K (.ref c_NoText) = some (.type "type"))
    (fact_i_NoText_kp : PySem.W.keepIn K (.ref c_NoText) = true)
    (fact_i_NoText_hg : PySem.W.findIn K (.ref c_NoText) "__getattribute__" = some (some (.builtin "BaseException.__getattribute__")))
    (fact_i_NoText_hk : PySem.W.findIn K (.ref c_NoText) "__getattr__" = some none)
    (fact_i_NoText_no : PySem.W.findIn K (.ref c_NoText) "at" = some none)
    (fact_i_NoText_in : PySem.W.findIn K (.ref c_NoText) "__init__" = some (some (.ref f_m_NoText_init)))
    (fact_i_NoText_tf : PySem.W.typeIn K (.ref f_m_NoText_init) = some (.type "function"))
    (fact_i_NoText_ha : PySem.W.findIn K (.ref c_NoText) "__class__" = some (some (.builtin "object.__class__")))
    (fact_i_NoText_hn : PySem.W.specialIn K (.builtin "object.__class__") "__get__" = some (some (.builtin "getset_descriptor.__get__")))
    (fact_i_NoText_ht : PySem.W.takesIn K (.builtin "object.__class__") = some true)
    (fact_i_NoText_hm : PySem.W.mroIn K c_NoText (.type "object") = some true)
    (fact_sub_NoText_NoText : PySem.W.subIn K (.ref c_NoText) (.ref c_NoText) = some true)
    (fact_kit_Machine_Machine : PySem.W.kitOne K (.ref c_Machine) (.ref c_Machine) = some true)
    : ∃ fd : FuncData, (∀ (s : Shared) (v : Value), BindsTo s fd ⟨[v], []⟩ [("_law_script", v)]) ∧ ∀ base : Heap, K.In base → base.Ns mainGlobals mg → FnOk l.prog w K mg base CX0 14 fa fd ["_law_script"] (spLaw K) := by
  have e := hfa.symm.trans (PySem.W.mg_of X G a_law)
  cases e
  have F_m_NoMachine_init := fun_mk (st := s_m_NoMachine_init) l_m_NoMachine_init c_m_NoMachine_init_ k_m_NoMachine_init_
  have b_m_NoMachine_init := F_m_NoMachine_init.binds (ps := ["self", "part"]) fun _ _ _ _ _ _ us hl => match us, hl with | [_, _], _ => rfl
  have F_m_NoText_init := fun_mk (st := s_m_NoText_init) l_m_NoText_init c_m_NoText_init_ k_m_NoText_init_
  have b_m_NoText_init := F_m_NoText_init.binds (ps := ["self", "at"]) fun _ _ _ _ _ _ us hl => match us, hl with | [_, _], _ => rfl
  have F_p_are_figures := fun_mk (st := s_p_are_figures) l_p_are_figures c_p_are_figures_ k_p_are_figures_
  have b_p_are_figures := F_p_are_figures.binds (ps := ["word", "most"]) fun _ _ _ _ _ _ us hl => match us, hl with | [_, _], _ => rfl
  have F_p_number_in := fun_mk (st := s_p_number_in) l_p_number_in c_p_number_in_ k_p_number_in_
  have b_p_number_in := F_p_number_in.binds (ps := ["word", "most"]) fun _ _ _ _ _ _ us hl => match us, hl with | [_, _], _ => rfl
  have F_p_is_whole := fun_mk (st := s_p_is_whole) l_p_is_whole c_p_is_whole_ k_p_is_whole_
  have b_p_is_whole := F_p_is_whole.binds (ps := ["thing"]) fun _ _ _ _ _ _ us hl => match us, hl with | [_], _ => rfl
  have F_p_is_name := fun_mk (st := s_p_is_name) l_p_is_name c_p_is_name_ k_p_is_name_
  have b_p_is_name := F_p_is_name.binds (ps := ["thing"]) fun _ _ _ _ _ _ us hl => match us, hl with | [_], _ => rfl
  have F_p_common_part := fun_mk (st := s_p_common_part) l_p_common_part c_p_common_part_ k_p_common_part_
  have b_p_common_part := F_p_common_part.binds (ps := ["one", "other"]) fun _ _ _ _ _ _ us hl => match us, hl with | [_, _], _ => rfl
  have F_m_Machine_init := fun_mk (st := s_m_Machine_init) l_m_Machine_init c_m_Machine_init_ k_m_Machine_init_
  have b_m_Machine_init := F_m_Machine_init.binds (ps := ["self", "many", "steps"]) fun _ _ _ _ _ _ us hl => match us, hl with | [_, _, _], _ => rfl
  have F_m_Machine_eq := fun_mk (st := s_m_Machine_eq) l_m_Machine_eq c_m_Machine_eq_ k_m_Machine_eq_
  have b_m_Machine_eq := F_m_Machine_eq.binds (ps := ["self", "other"]) fun _ _ _ _ _ _ us hl => match us, hl with | [_, _], _ => rfl
  have F_m_Machine_len := fun_mk (st := s_m_Machine_len) l_m_Machine_len c_m_Machine_len_ k_m_Machine_len_
  have b_m_Machine_len := F_m_Machine_len.binds (ps := ["self"]) fun _ _ _ _ _ _ us hl => match us, hl with | [_], _ => rfl
  have F_p_is_room := fun_mk (st := s_p_is_room) l_p_is_room c_p_is_room_ k_p_is_room_
  have b_p_is_room := F_p_is_room.binds (ps := ["thing", "many"]) fun _ _ _ _ _ _ us hl => match us, hl with | [_, _], _ => rfl
  have F_p_are_weights := fun_mk (st := s_p_are_weights) l_p_are_weights c_p_are_weights_ k_p_are_weights_
  have b_p_are_weights := F_p_are_weights.binds (ps := ["thing", "many"]) fun _ _ _ _ _ _ us hl => match us, hl with | [_, _], _ => rfl
  have F_p_is_step := fun_mk (st := s_p_is_step) l_p_is_step c_p_is_step_ k_p_is_step_
  have b_p_is_step := F_p_is_step.binds (ps := ["thing", "many"]) fun _ _ _ _ _ _ us hl => match us, hl with | [_, _], _ => rfl
  have F_p_are_steps := fun_mk (st := s_p_are_steps) l_p_are_steps c_p_are_steps_ k_p_are_steps_
  have b_p_are_steps := F_p_are_steps.binds (ps := ["thing", "many"]) fun _ _ _ _ _ _ us hl => match us, hl with | [_, _], _ => rfl
  have F_p_lowest := fun_mk (st := s_p_lowest) l_p_lowest c_p_lowest_ k_p_lowest_
  have b_p_lowest := F_p_lowest.binds (ps := ["weights"]) fun _ _ _ _ _ _ us hl => match us, hl with | [_], _ => rfl
  have F_p_read := fun_mk (st := s_p_read) l_p_read c_p_read_ k_p_read_
  have b_p_read := F_p_read.binds (ps := ["text"]) fun _ _ _ _ _ _ us hl => match us, hl with | [_], _ => rfl
  have F_p_read_step := fun_mk (st := s_p_read_step) l_p_read_step c_p_read_step_ k_p_read_step_
  have b_p_read_step := F_p_read_step.binds (ps := ["words", "at", "many"]) fun _ _ _ _ _ _ us hl => match us, hl with | [_, _, _], _ => rfl
  have F_p_word_at := fun_mk (st := s_p_word_at) l_p_word_at c_p_word_at_ k_p_word_at_
  have b_p_word_at := F_p_word_at.binds (ps := ["words", "at"]) fun _ _ _ _ _ _ us hl => match us, hl with | [_, _], _ => rfl
  have F_p_number_at := fun_mk (st := s_p_number_at) l_p_number_at c_p_number_at_ k_p_number_at_
  have b_p_number_at := F_p_number_at.binds (ps := ["words", "at"]) fun _ _ _ _ _ _ us hl => match us, hl with | [_, _], _ => rfl
  have F_p_stands_behind := fun_mk (st := s_p_stands_behind) l_p_stands_behind c_p_stands_behind_ k_p_stands_behind_
  have b_p_stands_behind := F_p_stands_behind.binds (ps := ["step", "steps"]) fun _ _ _ _ _ _ us hl => match us, hl with | [_, _], _ => rfl
  have F_p_are_lowest := fun_mk (st := s_p_are_lowest) l_p_are_lowest c_p_are_lowest_ k_p_are_lowest_
  have b_p_are_lowest := F_p_are_lowest.binds (ps := ["weights", "many"]) fun _ _ _ _ _ _ us hl => match us, hl with | [_, _], _ => rfl
  have F_l_well := fun_mk (st := s_l_well) l_l_well c_l_well_ k_l_well_
  have b_l_well := F_l_well.binds (ps := ["_law_cell"]) fun _ _ _ _ _ _ us hl => match us, hl with | [_], _ => rfl
  have F_l_draw := fun_mk (st := s_l_draw) l_l_draw c_l_draw_ k_l_draw_
  have b_l_draw := F_l_draw.binds (ps := ["_law_well_here", "_law_many"]) fun _ _ _ _ _ _ us hl => match us, hl with | [_, _], _ => rfl
  have F_l_one := fun_mk (st := s_l_one) l_l_one c_l_one_ k_l_one_
  have b_l_one := F_l_one.binds (ps := ["_law_well_here", "_law_some"]) fun _ _ _ _ _ _ us hl => match us, hl with | [_, _], _ => rfl
  have F_l_names := fun_mk (st := s_l_names) l_l_names c_l_names_ k_l_names_
  have b_l_names := F_l_names.binds (ps := ["_law_well_here", "_law_many"]) fun _ _ _ _ _ _ us hl => match us, hl with | [_, _], _ => rfl
  have F_l_weights := fun_mk (st := s_l_weights) l_l_weights c_l_weights_ k_l_weights_
  have b_l_weights := F_l_weights.binds (ps := ["_law_well_here", "_law_many"]) fun _ _ _ _ _ _ us hl => match us, hl with | [_, _], _ => rfl
  have F_l_machine := fun_mk (st := s_l_machine) l_l_machine c_l_machine_ k_l_machine_
  have b_l_machine := F_l_machine.binds (ps := ["_law_well_here", "_law_signs", "_law_most"]) fun _ _ _ _ _ _ us hl => match us, hl with | [_, _, _], _ => rfl
  have F_l_words := fun_mk (st := s_l_words) l_l_words c_l_words_ k_l_words_
  have b_l_words := F_l_words.binds (ps := ["_law_machine_here"]) fun _ _ _ _ _ _ us hl => match us, hl with | [_], _ => rfl
  have F_l_is_number := fun_mk (st := s_l_is_number) l_l_is_number c_l_is_number_ k_l_is_number_
  have b_l_is_number := F_l_is_number.binds (ps := ["_law_word", "_law_most"]) fun _ _ _ _ _ _ us hl => match us, hl with | [_, _], _ => rfl
  have F_l_is_sign := fun_mk (st := s_l_is_sign) l_l_is_sign c_l_is_sign_ k_l_is_sign_
  have b_l_is_sign := F_l_is_sign.binds (ps := ["_law_word"]) fun _ _ _ _ _ _ us hl => match us, hl with | [_], _ => rfl
  have F_l_divides := fun_mk (st := s_l_divides) l_l_divides c_l_divides_ k_l_divides_
  have b_l_divides := F_l_divides.binds (ps := ["_law_weights_here"]) fun _ _ _ _ _ _ us hl => match us, hl with | [_], _ => rfl
  have F_l_step := fun_mk (st := s_l_step) l_l_step c_l_step_ k_l_step_
  have b_l_step := F_l_step.binds (ps := ["_law_words_here", "_law_at", "_law_many", "_law_last"]) fun _ _ _ _ _ _ us hl => match us, hl with | [_, _, _, _], _ => rfl
  have F_l_due := fun_mk (st := s_l_due) l_l_due c_l_due_ k_l_due_
  have b_l_due := F_l_due.binds (ps := ["_law_text"]) fun _ _ _ _ _ _ us hl => match us, hl with | [_], _ => rfl
  have F_l_said := fun_mk (st := s_l_said) l_l_said c_l_said_ k_l_said_
  have b_l_said := F_l_said.binds (ps := ["_law_thing"]) fun _ _ _ _ _ _ us hl => match us, hl with | [_], _ => rfl
  have F_l_changed := fun_mk (st := s_l_changed) l_l_changed c_l_changed_ k_l_changed_
  have b_l_changed := F_l_changed.binds (ps := ["_law_well_here", "_law_words_here"]) fun _ _ _ _ _ _ us hl => match us, hl with | [_, _], _ => rfl
  have F_law := fun_mk (st := s_law) l_law c_law_ k_law_
  have b_law := F_law.binds (ps := ["_law_script"]) fun _ _ _ _ _ _ us hl => match us, hl with | [_], _ => rfl
  exact ⟨PySem.W.fnOf "law" "law" (defArgs s_law) (defBody s_law) (defScope s_law) .none kV_law dc_law pm_law an_law cd_law ct_law, fun s v => .of_eq rfl, fun base _ _ => ok_law (⟨c_FarError, (PySem.W.mg_of X G a_FarError), c_NoMachine, (PySem.W.mg_of X G a_NoMachine), c_NoText, (PySem.W.mg_of X G a_NoText), c_Machine, (PySem.W.mg_of X G a_Machine), f_m_NoMachine_init, _, F_m_NoMachine_init, b_m_NoMachine_init, f_m_NoText_init, _, F_m_NoText_init, b_m_NoText_init, f_p_are_figures, _, F_p_are_figures, b_p_are_figures, (PySem.W.mg_of X G a_p_are_figures), f_p_number_in, _, F_p_number_in, b_p_number_in, (PySem.W.mg_of X G a_p_number_in), f_p_is_whole, _, F_p_is_whole, b_p_is_whole, (PySem.W.mg_of X G a_p_is_whole), f_p_is_name, _, F_p_is_name, b_p_is_name, (PySem.W.mg_of X G a_p_is_name), f_p_common_part, _, F_p_common_part, b_p_common_part, (PySem.W.mg_of X G a_p_common_part), f_m_Machine_init, _, F_m_Machine_init, b_m_Machine_init, f_m_Machine_eq, _, F_m_Machine_eq, b_m_Machine_eq, f_m_Machine_len, _, F_m_Machine_len, b_m_Machine_len, f_p_is_room, _, F_p_is_room, b_p_is_room, (PySem.W.mg_of X G a_p_is_room), f_p_are_weights, _, F_p_are_weights, b_p_are_weights, (PySem.W.mg_of X G a_p_are_weights), f_p_is_step, _, F_p_is_step, b_p_is_step, (PySem.W.mg_of X G a_p_is_step), f_p_are_steps, _, F_p_are_steps, b_p_are_steps, (PySem.W.mg_of X G a_p_are_steps), f_p_lowest, _, F_p_lowest, b_p_lowest, (PySem.W.mg_of X G a_p_lowest), f_p_read, _, F_p_read, b_p_read, (PySem.W.mg_of X G a_p_read), f_p_read_step, _, F_p_read_step, b_p_read_step, (PySem.W.mg_of X G a_p_read_step), f_p_word_at, _, F_p_word_at, b_p_word_at, (PySem.W.mg_of X G a_p_word_at), f_p_number_at, _, F_p_number_at, b_p_number_at, (PySem.W.mg_of X G a_p_number_at), f_p_stands_behind, _, F_p_stands_behind, b_p_stands_behind, (PySem.W.mg_of X G a_p_stands_behind), f_p_are_lowest, _, F_p_are_lowest, b_p_are_lowest, (PySem.W.mg_of X G a_p_are_lowest), f_l_well, _, F_l_well, b_l_well, (PySem.W.mg_of X G a_l_well), f_l_draw, _, F_l_draw, b_l_draw, (PySem.W.mg_of X G a_l_draw), f_l_one, _, F_l_one, b_l_one, (PySem.W.mg_of X G a_l_one), f_l_names, _, F_l_names, b_l_names, (PySem.W.mg_of X G a_l_names), f_l_weights, _, F_l_weights, b_l_weights, (PySem.W.mg_of X G a_l_weights), f_l_machine, _, F_l_machine, b_l_machine, (PySem.W.mg_of X G a_l_machine), f_l_words, _, F_l_words, b_l_words, (PySem.W.mg_of X G a_l_words), f_l_is_number, _, F_l_is_number, b_l_is_number, (PySem.W.mg_of X G a_l_is_number), f_l_is_sign, _, F_l_is_sign, b_l_is_sign, (PySem.W.mg_of X G a_l_is_sign), f_l_divides, _, F_l_divides, b_l_divides, (PySem.W.mg_of X G a_l_divides), f_l_step, _, F_l_step, b_l_step, (PySem.W.mg_of X G a_l_step), f_l_due, _, F_l_due, b_l_due, (PySem.W.mg_of X G a_l_due), f_l_said, _, F_l_said, b_l_said, (PySem.W.mg_of X G a_l_said), f_l_changed, _, F_l_changed, b_l_changed, (PySem.W.mg_of X G a_l_changed), _, _, F_law, b_law, (PySem.W.mg_of X G a_law), ⟨pg_Machine, hd_Machine, po_Machine, sa_Machine⟩, ⟨mk_Machine, a_m_Machine_init, if_Machine, kc_Machine⟩, ⟨ha_Machine, hn_Machine, ht_Machine, hm_Machine⟩, n_Machine_many, n_Machine_steps, ⟨a_m_Machine_eq, i_m_Machine_eq, k_m_Machine_eq_⟩, ⟨a_m_Machine_len, i_m_Machine_len, k_m_Machine_len_⟩, nn_Machine, nf_Machine_int, nf_Machine_str, nf_Machine_NoneType, nf_Machine_list, nf_Machine_tuple, nf_Machine_dict, nf_Machine_bool, ko_Machine, ko_Machine_int, ko_Machine_str, ko_Machine_NoneType, ko_Machine_list, ko_Machine_tuple, ko_Machine_dict, ko_Machine_bool, _, (PySem.W.mg_of X G ac_FIGURES), ⟨_, rfl⟩, _, (PySem.W.mg_of X G ac_LETTERS), ⟨_, rfl⟩, _, (PySem.W.mg_of X G ac_LONGEST_NAME), ⟨_, rfl⟩, _, (PySem.W.mg_of X G ac_MOST_ROOMS), ⟨_, rfl⟩, _, (PySem.W.mg_of X G ac_MOST_FIGURES), ⟨_, rfl⟩, _, (PySem.W.mg_of X G ac_BREAK), ⟨_, rfl⟩, (PySem.W.mg_none_of X G zz_all), (PySem.W.mg_none_of X G zz_len), (PySem.W.mg_none_of X G zz_int), (PySem.W.mg_none_of X G zz_isinstance), (PySem.W.mg_none_of X G zz_bool), (PySem.W.mg_none_of X G zz_str), (PySem.W.mg_none_of X G zz_abs), (PySem.W.mg_none_of X G zz_sorted), (PySem.W.mg_none_of X G zz_range), (PySem.W.mg_none_of X G zz_any), (PySem.W.mg_none_of X G zz_tuple), (PySem.W.mg_none_of X G zz_list), (PySem.W.mg_none_of X G zz_sum), (PySem.W.mg_none_of X G zz_enumerate), (PySem.W.mg_none_of X G zz_min), (PySem.W.mg_none_of X G zz_max), fact_y_FarError_sb, fact_y_FarError_ty, fact_y_FarError_hd, fact_i_NoText_xi, fact_i_NoText_hd, fact_i_NoText_sa, fact_i_NoText_sb, fact_i_NoText_ty, fact_i_NoText_kp, fact_i_NoText_hg, fact_i_NoText_hk, fact_i_NoText_no, fact_i_NoText_in, fact_i_NoText_tf, fact_i_NoText_ha, fact_i_NoText_hn, fact_i_NoText_ht, fact_i_NoText_hm, fact_sub_NoText_NoText, fact_kit_Machine_Machine⟩ : Txt K mg)⟩
end Fb
open PySem PySem.W PyProof.Rows
set_option maxRecDepth 100000 in
set_option maxHeartbeats 0 in
theorem PySem.Challenge.cw_farbetween_k81_machine_texts_refused_holds : PySem.Challenge.rw_farbetween_k81_machine_texts_refused.Holds := by
  w_on; o_law; k_head; (case hw => w_witness2)
  k_fill
  refine L2.walk_of (l := PySem.Challenge.rw_farbetween_k81_machine_texts_refused) (n := 63) (k := 14) (x := "_law_script") (CX := fun _ => L2.CX0) (sp := fun w => Fb.spLaw _) rfl (by decide) rfl ⟨rfl, by decide, by decide⟩ (fun w h Y => PySem.W.kIn_of Y) ?F (fun _ _ a ns hl _ hS => ⟨a, ns, rfl, hS, hl, fun _ => rfl⟩) (fun _ _ _ _ _ h => h)
  case F =>
    intro w mg fa h KX G hmg
    refine' Fb.all_mk KX G hmg ?a_FarError ?a_NoMachine ?a_NoText ?a_Machine ?a_m_NoMachine_init ?l_m_NoMachine_init ?c_m_NoMachine_init_ ?k_m_NoMachine_init_ ?a_m_NoText_init ?l_m_NoText_init ?c_m_NoText_init_ ?k_m_NoText_init_ ?a_p_are_figures ?l_p_are_figures ?c_p_are_figures_ ?k_p_are_figures_ ?a_p_number_in ?l_p_number_in ?c_p_number_in_ ?k_p_number_in_ ?a_p_is_whole ?l_p_is_whole ?c_p_is_whole_ ?k_p_is_whole_ ?a_p_is_name ?l_p_is_name ?c_p_is_name_ ?k_p_is_name_ ?a_p_common_part ?l_p_common_part ?c_p_common_part_ ?k_p_common_part_ ?a_m_Machine_init ?l_m_Machine_init ?c_m_Machine_init_ ?k_m_Machine_init_ ?a_m_Machine_eq ?l_m_Machine_eq ?c_m_Machine_eq_ ?k_m_Machine_eq_ ?a_m_Machine_len ?l_m_Machine_len ?c_m_Machine_len_ ?k_m_Machine_len_ ?a_p_is_room ?l_p_is_room ?c_p_is_room_ ?k_p_is_room_ ?a_p_are_weights ?l_p_are_weights ?c_p_are_weights_ ?k_p_are_weights_ ?a_p_is_step ?l_p_is_step ?c_p_is_step_ ?k_p_is_step_ ?a_p_are_steps ?l_p_are_steps ?c_p_are_steps_ ?k_p_are_steps_ ?a_p_lowest ?l_p_lowest ?c_p_lowest_ ?k_p_lowest_ ?a_p_read ?l_p_read ?c_p_read_ ?k_p_read_ ?a_p_read_step ?l_p_read_step ?c_p_read_step_ ?k_p_read_step_ ?a_p_word_at ?l_p_word_at ?c_p_word_at_ ?k_p_word_at_ ?a_p_number_at ?l_p_number_at ?c_p_number_at_ ?k_p_number_at_ ?a_p_stands_behind ?l_p_stands_behind ?c_p_stands_behind_ ?k_p_stands_behind_ ?a_p_are_lowest ?l_p_are_lowest ?c_p_are_lowest_ ?k_p_are_lowest_ ?a_l_well ?l_l_well ?c_l_well_ ?k_l_well_ ?a_l_draw ?l_l_draw ?c_l_draw_ ?k_l_draw_ ?a_l_one ?l_l_one ?c_l_one_ ?k_l_one_ ?a_l_names ?l_l_names ?c_l_names_ ?k_l_names_ ?a_l_weights ?l_l_weights ?c_l_weights_ ?k_l_weights_ ?a_l_machine ?l_l_machine ?c_l_machine_ ?k_l_machine_ ?a_l_words ?l_l_words ?c_l_words_ ?k_l_words_ ?a_l_is_number ?l_l_is_number ?c_l_is_number_ ?k_l_is_number_ ?a_l_is_sign ?l_l_is_sign ?c_l_is_sign_ ?k_l_is_sign_ ?a_l_divides ?l_l_divides ?c_l_divides_ ?k_l_divides_ ?a_l_step ?l_l_step ?c_l_step_ ?k_l_step_ ?a_l_due ?l_l_due ?c_l_due_ ?k_l_due_ ?a_l_said ?l_l_said ?c_l_said_ ?k_l_said_ ?a_l_changed ?l_l_changed ?c_l_changed_ ?k_l_changed_ ?a_law ?l_law ?c_law_ ?k_law_ ?pg_Machine ?hd_Machine ?po_Machine ?sa_Machine ?mk_Machine ?kc_Machine ?if_Machine ?ha_Machine ?hn_Machine ?ht_Machine ?hm_Machine ?n_Machine_many ?n_Machine_steps ?i_m_Machine_eq ?i_m_Machine_len ?nn_Machine ?nf_Machine_int ?nf_Machine_str ?nf_Machine_NoneType ?nf_Machine_list ?nf_Machine_tuple ?nf_Machine_dict ?nf_Machine_bool ?ko_Machine ?ko_Machine_int ?ko_Machine_str ?ko_Machine_NoneType ?ko_Machine_list ?ko_Machine_tuple ?ko_Machine_dict ?ko_Machine_bool ?ac_FIGURES ?ac_LETTERS ?ac_LONGEST_NAME ?ac_MOST_ROOMS ?ac_MOST_FIGURES ?ac_BREAK ?zz_all ?zz_len ?zz_int ?zz_isinstance ?zz_bool ?zz_str ?zz_abs ?zz_sorted ?zz_range ?zz_any ?zz_tuple ?zz_list ?zz_sum ?zz_enumerate ?zz_min ?zz_max ?fact_y_FarError_sb ?fact_y_FarError_ty ?fact_y_FarError_hd ?fact_i_NoText_xi ?fact_i_NoText_hd ?fact_i_NoText_sa ?fact_i_NoText_sb ?fact_i_NoText_ty ?fact_i_NoText_kp ?fact_i_NoText_hg ?fact_i_NoText_hk ?fact_i_NoText_no ?fact_i_NoText_in ?fact_i_NoText_tf ?fact_i_NoText_ha ?fact_i_NoText_hn ?fact_i_NoText_ht ?fact_i_NoText_hm ?fact_sub_NoText_NoText ?fact_kit_Machine_Machine
    (case a_FarError => k_is)
    (case a_NoMachine => k_is)
    (case a_NoText => k_is)
    (case a_Machine => k_is)
    (case a_m_NoMachine_init => k_is)
    (case l_m_NoMachine_init => k_is)
    (case c_m_NoMachine_init_ => k_is)
    (case k_m_NoMachine_init_ => k_is)
    (case a_m_NoText_init => k_is)
    (case l_m_NoText_init => k_is)
    (case c_m_NoText_init_ => k_is)
    (case k_m_NoText_init_ => k_is)
    (case a_p_are_figures => k_is)
    (case l_p_are_figures => k_is)
    (case c_p_are_figures_ => k_is)
    (case k_p_are_figures_ => k_is)
    (case a_p_number_in => k_is)
    (case l_p_number_in => k_is)
    (case c_p_number_in_ => k_is)
    (case k_p_number_in_ => k_is)
    (case a_p_is_whole => k_is)
    (case l_p_is_whole => k_is)
    (case c_p_is_whole_ => k_is)
    (case k_p_is_whole_ => k_is)
    (case a_p_is_name => k_is)
    (case l_p_is_name => k_is)
    (case c_p_is_name_ => k_is)
    (case k_p_is_name_ => k_is)
    (case a_p_common_part => k_is)
    (case l_p_common_part => k_is)
    (case c_p_common_part_ => k_is)
    (case k_p_common_part_ => k_is)
    (case a_m_Machine_init => k_is)
    (case l_m_Machine_init => k_is)
    (case c_m_Machine_init_ => k_is)
    (case k_m_Machine_init_ => k_is)
    (case a_m_Machine_eq => k_is)
    (case l_m_Machine_eq => k_is)
    (case c_m_Machine_eq_ => k_is)
    (case k_m_Machine_eq_ => k_is)
    (case a_m_Machine_len => k_is)
    (case l_m_Machine_len => k_is)
    (case c_m_Machine_len_ => k_is)
    (case k_m_Machine_len_ => k_is)
    (case a_p_is_room => k_is)
    (case l_p_is_room => k_is)
    (case c_p_is_room_ => k_is)
    (case k_p_is_room_ => k_is)
    (case a_p_are_weights => k_is)
    (case l_p_are_weights => k_is)
    (case c_p_are_weights_ => k_is)
    (case k_p_are_weights_ => k_is)
    (case a_p_is_step => k_is)
    (case l_p_is_step => k_is)
    (case c_p_is_step_ => k_is)
    (case k_p_is_step_ => k_is)
    (case a_p_are_steps => k_is)
    (case l_p_are_steps => k_is)
    (case c_p_are_steps_ => k_is)
    (case k_p_are_steps_ => k_is)
    (case a_p_lowest => k_is)
    (case l_p_lowest => k_is)
    (case c_p_lowest_ => k_is)
    (case k_p_lowest_ => k_is)
    (case a_p_read => k_is)
    (case l_p_read => k_is)
    (case c_p_read_ => k_is)
    (case k_p_read_ => k_is)
    (case a_p_read_step => k_is)
    (case l_p_read_step => k_is)
    (case c_p_read_step_ => k_is)
    (case k_p_read_step_ => k_is)
    (case a_p_word_at => k_is)
    (case l_p_word_at => k_is)
    (case c_p_word_at_ => k_is)
    (case k_p_word_at_ => k_is)
    (case a_p_number_at => k_is)
    (case l_p_number_at => k_is)
    (case c_p_number_at_ => k_is)
    (case k_p_number_at_ => k_is)
    (case a_p_stands_behind => k_is)
    (case l_p_stands_behind => k_is)
    (case c_p_stands_behind_ => k_is)
    (case k_p_stands_behind_ => k_is)
    (case a_p_are_lowest => k_is)
    (case l_p_are_lowest => k_is)
    (case c_p_are_lowest_ => k_is)
    (case k_p_are_lowest_ => k_is)
    (case a_l_well => k_is)
    (case l_l_well => k_is)
    (case c_l_well_ => k_is)
    (case k_l_well_ => k_is)
    (case a_l_draw => k_is)
    (case l_l_draw => k_is)
    (case c_l_draw_ => k_is)
    (case k_l_draw_ => k_is)
    (case a_l_one => k_is)
    (case l_l_one => k_is)
    (case c_l_one_ => k_is)
    (case k_l_one_ => k_is)
    (case a_l_names => k_is)
    (case l_l_names => k_is)
    (case c_l_names_ => k_is)
    (case k_l_names_ => k_is)
    (case a_l_weights => k_is)
    (case l_l_weights => k_is)
    (case c_l_weights_ => k_is)
    (case k_l_weights_ => k_is)
    (case a_l_machine => k_is)
    (case l_l_machine => k_is)
    (case c_l_machine_ => k_is)
    (case k_l_machine_ => k_is)
    (case a_l_words => k_is)
    (case l_l_words => k_is)
    (case c_l_words_ => k_is)
    (case k_l_words_ => k_is)
    (case a_l_is_number => k_is)
    (case l_l_is_number => k_is)
    (case c_l_is_number_ => k_is)
    (case k_l_is_number_ => k_is)
    (case a_l_is_sign => k_is)
    (case l_l_is_sign => k_is)
    (case c_l_is_sign_ => k_is)
    (case k_l_is_sign_ => k_is)
    (case a_l_divides => k_is)
    (case l_l_divides => k_is)
    (case c_l_divides_ => k_is)
    (case k_l_divides_ => k_is)
    (case a_l_step => k_is)
    (case l_l_step => k_is)
    (case c_l_step_ => k_is)
    (case k_l_step_ => k_is)
    (case a_l_due => k_is)
    (case l_l_due => k_is)
    (case c_l_due_ => k_is)
    (case k_l_due_ => k_is)
    (case a_l_said => k_is)
    (case l_l_said => k_is)
    (case c_l_said_ => k_is)
    (case k_l_said_ => k_is)
    (case a_l_changed => k_is)
    (case l_l_changed => k_is)
    (case c_l_changed_ => k_is)
    (case k_l_changed_ => k_is)
    (case a_law => k_is)
    (case l_law => k_is)
    (case c_law_ => k_is)
    (case k_law_ => k_is)
    (case pg_Machine => k_is)
    (case hd_Machine => k_is)
    (case po_Machine => k_is)
    (case sa_Machine => k_is)
    (case mk_Machine => k_is)
    (case kc_Machine => k_is)
    (case if_Machine => k_is)
    (case ha_Machine => k_is)
    (case hn_Machine => k_is)
    (case ht_Machine => k_is)
    (case hm_Machine => k_is)
    (case n_Machine_many => k_is)
    (case n_Machine_steps => k_is)
    (case i_m_Machine_eq => k_is)
    (case i_m_Machine_len => k_is)
    (case nn_Machine => k_is)
    (case nf_Machine_int => k_is)
    (case nf_Machine_str => k_is)
    (case nf_Machine_NoneType => k_is)
    (case nf_Machine_list => k_is)
    (case nf_Machine_tuple => k_is)
    (case nf_Machine_dict => k_is)
    (case nf_Machine_bool => k_is)
    (case ko_Machine => kit_is)
    (case ko_Machine_int => kit_is)
    (case ko_Machine_str => kit_is)
    (case ko_Machine_NoneType => kit_is)
    (case ko_Machine_list => kit_is)
    (case ko_Machine_tuple => kit_is)
    (case ko_Machine_dict => kit_is)
    (case ko_Machine_bool => kit_is)
    (case ac_FIGURES => k_is)
    (case ac_LETTERS => k_is)
    (case ac_LONGEST_NAME => k_is)
    (case ac_MOST_ROOMS => k_is)
    (case ac_MOST_FIGURES => k_is)
    (case ac_BREAK => k_is)
    (case zz_all => k_is)
    (case zz_len => k_is)
    (case zz_int => k_is)
    (case zz_isinstance => k_is)
    (case zz_bool => k_is)
    (case zz_str => k_is)
    (case zz_abs => k_is)
    (case zz_sorted => k_is)
    (case zz_range => k_is)
    (case zz_any => k_is)
    (case zz_tuple => k_is)
    (case zz_list => k_is)
    (case zz_sum => k_is)
    (case zz_enumerate => k_is)
    (case zz_min => k_is)
    (case zz_max => k_is)
    (case fact_y_FarError_sb => k_is)
    (case fact_y_FarError_ty => k_is)
    (case fact_y_FarError_hd => k_is)
    (case fact_i_NoText_xi => kx_is)
    (case fact_i_NoText_hd => k_is)
    (case fact_i_NoText_sa => k_is)
    (case fact_i_NoText_sb => k_is)
    (case fact_i_NoText_ty => k_is)
    (case fact_i_NoText_kp => k_is)
    (case fact_i_NoText_hg => k_is)
    (case fact_i_NoText_hk => k_is)
    (case fact_i_NoText_no => k_is)
    (case fact_i_NoText_in => k_is)
    (case fact_i_NoText_tf => k_is)
    (case fact_i_NoText_ha => k_is)
    (case fact_i_NoText_hn => k_is)
    (case fact_i_NoText_ht => k_is)
    (case fact_i_NoText_hm => k_is)
    (case fact_sub_NoText_NoText => first | rfl | k_is)
    (case fact_kit_Machine_Machine => kit_is)
