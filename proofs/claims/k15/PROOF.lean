import PyProof.Rows.All
import Wide.All
import OpenK.AllK
import Wide.FinOn
import HandS.ForMost
import HandS.Wide
import HandS.WideBits
import HandS.IsInst
import HandS.SortInts
import HandS.RaiseMore
import HandS.Style
import HandS.Zip
import HandS.Evl
import KE.KTupSum
import HandS.TupAny
import HandS.SortKw
import HandS.Conv
import HandS.SetFor
import KE.GoesMore
import HandS.ForExc
import HandS.ExcInit
import HandS.ExcField
import KE.KExcIs
import HandS.ExcIs
import HandS.Small
import HandS.ExcValue
import HandS.Head0
import HandS.Head1
import HandS.Head2
import HandS.Head3
import HandS.HeadEnd
import HandS.HeadHook1
import HandS.HeadHook2
import HandS.HeadHook3
import HandS.HeadHook4
import HandS.Star
import HandS.SlotsOwn
import HandS.FStr
import KE.KCallOwn
import KE.KFmtOwn
import HandS.Text
import HandS.TupMul
import HandS.More
import HandS.WrittenGet
import HandS.Walk
import PyProof.InstNe
import HandS.ExcOwn
import HandS.TryOnly
import PyProof.NeKinds
import PyProof.Rows.SortStr
import HandS.TryMany
import HandS.OwnEq
import HandS.Iter
import KE.KOpsOwn
import HandS.Gcd
import HandS.Strs
import HandS.Codes
import HandS.Defaults
import PySem.Challenge.RW_everybase_k15_sheets
set_option Elab.async false
set_option linter.all false
set_option maxRecDepth 100000
set_option maxHeartbeats 4000000
namespace My
open PySem PySem.Spec PyProof.Rows L2 Evl

/-! ### one more rule: sum of a tuple of ints -/
section
variable {X : Cx}
def rSumT (K : PySem.W.Frag) : List V → Hp → VK → Prop := fun vs H Q => ∃ (a : Addr) (ns : List Int), vs = [V.ref a] ∧ SqT K H a (ns.map V.int) ∧ Q (.int ns.sum) H
theorem cr_sumT (hc : X.calm = true) : CallR X (.builtin "sum") (rSumT X.K) := by
  intro pins s σ H vs us Q I r h
  obtain ⟨a, ns, rfl, hs, q⟩ := h
  obtain ⟨its, rv, hl, _⟩ := I.tuple hs
  rw [Vals.ref1 r]
  have hi : IntsAre its ns := rv.ints
  obtain ⟨xs, e⟩ := hi.allInts.items
  have hn : numsOf (intItems xs).toList = ns := by rw [← e]; exact hi.numsOf
  rw [nums_intItems] at hn
  have hl' : s.heap.IsTuple a (intItems xs) := by
    rw [← e]
    exact hl
  refine PySem.W.ktm_sumG (I.ok.hd hc) hl' fun h' tk t' hk => ?_
  refine ⟨.int ns.sum, H, I.kept hk, ⟨t', ?_⟩, q⟩
  rw [preSum_eq, List.take_of_length_le (by simp), hn]
end

/-! ### isinstance of built-in values -/
def vty (H : Hp) : V → Option String
  | .non => some "NoneType"
  | .bl _ => some "bool"
  | .int _ => some "int"
  | .str _ => some "str"
  | .ref a => match H a with
    | some (.lst _) => some "list"
    | some (.tup _) => some "tuple"
    | _ => none
  | _ => none
theorem tyX_of {K : PySem.W.Frag} {H : Hp} {x : V} {t : String} (h : vty H x = some t) : TyX K H x (.type t) := by
  unfold vty at h
  split at h
  · cases h; exact .base .non
  · cases h; exact .base (.bl _)
  · cases h; exact .base (.int _)
  · cases h; exact .base (.str _)
  · split at h
    · cases h; rename_i e; exact .base (.lst e)
    · cases h; rename_i e; exact .base (.tup e)
    · cases h
  · cases h
section
variable {X : Cx}
def rIsiV : List V → Hp → VK → Prop
  | [x, .ty n], H, Q => ∃ t b, vty H x = some t ∧ kitB t n = some b ∧ Q (.bl b) H
  | _, _, _ => False
theorem call_isiV : CallR X (.builtin "isinstance") rIsiV := by
  intro pins s σ H xs us Q I r h
  unfold rIsiV at h
  split at h
  · obtain ⟨t, b, h1, h2, q⟩ := h
    exact call_isi pins s σ H _ us Q I r ⟨_, _, _, _, b, rfl, .ty _, tyX_of h1, kit_ty h2, q⟩
  · exact h.elim
end
theorem kb1 : kitB "int" "int" = some true := by decide +kernel
theorem kb2 : kitB "int" "bool" = some false := by decide +kernel
theorem kb3 : kitB "bool" "int" = some true := by decide +kernel
theorem kb4 : kitB "bool" "bool" = some true := by decide +kernel
theorem kb5 : kitB "NoneType" "int" = some false := by decide +kernel
theorem kb6 : kitB "str" "int" = some false := by decide +kernel
theorem kb7 : kitB "list" "int" = some false := by decide +kernel
theorem kb8 : kitB "tuple" "int" = some false := by decide +kernel
theorem kb9 : kitB "list" "list" = some true := by decide +kernel

/-! ### heaps that grow -/
theorem _root_.Evl.Ex.free {H H' : Hp} {p : Addr} (e : Ex H H') (h : H' p = none) : H p = none := fresh_back e h
theorem _root_.Evl.Ex.sql {K : PySem.W.Frag} {H H' : Hp} {a : Addr} {xs : List V} (e : Ex H H') (h : SqL K H a xs) : SqL K H' a xs := ex_l e h
theorem _root_.Evl.Ex.sqt {K : PySem.W.Frag} {H H' : Hp} {a : Addr} {xs : List V} (e : Ex H H') (h : SqT K H a xs) : SqT K H' a xs := ex_t e h
/-- a new object: what it is told by, and that nothing else changed -/
theorem new_of {H : Hp} {o : HO} {Q : VK} (h : ∀ p H1, H p = none → Ex H H1 → H1 p = some o → Q (.ref p) H1) : ∀ p, H p = none → Q (.ref p) (upd H p o) :=
  fun p hp => h p _ hp (Ex.new hp) upd_same
theorem sz_le {n : Nat} (h : n ≤ 100000) : n ≤ sizeLine := Nat.le_trans h (by decide)

/-! ### bounds of wide ints -/
theorem nab {i : Int} {n : Nat} (h0 : -(2 ^ n) < i) (h1 : i < 2 ^ n) : i.natAbs < 2 ^ n := by
  have e : ((2 ^ n : Nat) : Int) = 2 ^ n := by simp
  omega
theorem mulOk {i j : Int} (a0 : -(2 ^ 250) < i) (a1 : i < 2 ^ 250) (b0 : -(2 ^ 250) < j) (b1 : j < 2 ^ 250) : CMulX i j :=
  mulx_ok (nab a0 a1) (nab b0 b1) (by decide)
theorem divOk {i j : Int} (a0 : 0 < j) (a1 : j < 2 ^ 250) : CDivW i j :=
  wide_div a0 (nab (n := 250) (by omega) a1) (by decide) (by decide)
theorem powOk {i j : Int} (h0 : 0 ≤ j) (h1 : j ≤ 1000) (a0 : -1000 < i) (a1 : i < 1000) : CPow i j := ⟨h0, by omega, by omega⟩
theorem reprOk {i : Int} (a0 : -(2 ^ 250) < i) (a1 : i < 2 ^ 250) : i.natAbs.log2 < 1920 :=
  Nat.lt_of_lt_of_le (PySem.Flt.log2_lt_of (by decide) (nab a0 a1)) (by decide)

/-! ### rules with readings by cases -/
section
variable {X : Cx}
def rInt1 : List V → Hp → VK → Prop
  | [.int i], H, Q => Q (.int i) H
  | [.bl k], H, Q => Q (.int (if k then 1 else 0)) H
  | _, _, _ => False
theorem call_intM : CallR X (.type "int") rInt1 := by
  intro pins s σ H xs us Q I r h
  unfold rInt1 at h
  split at h
  · exact call_int1 pins s σ H _ us Q I r (.inl ⟨_, rfl, h⟩)
  · exact call_int1 pins s σ H _ us Q I r (.inr ⟨_, rfl, h⟩)
  · exact h.elim
def rMin2 : List V → Hp → VK → Prop
  | [.int i, .int j], H, Q => Q (.int (if j < i then j else i)) H
  | _, _, _ => False
def rMax2 : List V → Hp → VK → Prop
  | [.int i, .int j], H, Q => Q (.int (if j > i then j else i)) H
  | _, _, _ => False
theorem call_minM (hc : X.calm = true) : CallR X (.builtin "min") rMin2 := by
  intro pins s σ H xs us Q I r h
  unfold rMin2 at h
  split at h
  · exact call_min2 hc pins s σ H _ us Q I r ⟨_, _, rfl, h⟩
  · exact h.elim
theorem call_maxM (hc : X.calm = true) : CallR X (.builtin "max") rMax2 := by
  intro pins s σ H xs us Q I r h
  unfold rMax2 at h
  split at h
  · exact call_max2 hc pins s σ H _ us Q I r ⟨_, _, rfl, h⟩
  · exact h.elim
def rRepr1 : List V → Hp → VK → Prop
  | [.int i], H, Q => i.natAbs.log2 < 1920 ∧ Q (.str (toString i)) H
  | _, _, _ => False
theorem call_reprM : CallR X (.builtin "repr") rRepr1 := by
  intro pins s σ H xs us Q I r h
  unfold rRepr1 at h
  split at h
  · exact SkE.call_repr_int pins s σ H _ us Q I r ⟨_, rfl, h⟩
  · exact h.elim
/-- xs[i] of a tracked list -/
def rIx1 (K : PySem.W.Frag) : R2
  | .ref p, .int i, H, Q => ∃ xs v, SqL K H p xs ∧ atI xs i = some v ∧ Q v H
  | _, _, _, _ => False
theorem ix_listM : IxR X (rIx1 X.K) := by
  intro value slice pins s σ H x y v u Q I rx ry h hs
  unfold rIx1 at h
  split at h
  · obtain ⟨xs, z, h1, h2, q⟩ := h
    exact ix_list value slice pins s σ H _ _ v u Q I rx ry ⟨_, _, _, _, rfl, rfl, h1, h2, q⟩ hs
  · exact h.elim
/-- xs[lo:hi] of a list -/
def rSlM (K : PySem.W.Frag) : V → Option Int → Option Int → Hp → VK → Prop
  | .ref a, lo, hi, H, Q => ∃ xs, SqL K H a xs ∧ ∀ p, H p = none → Q (.ref p) (upd H p (.lst (cutV xs lo hi)))
  | _, _, _, _, _ => False
theorem sl_listM : SlR X (rSlM X.K) := by
  intro pins s σ H x v vl vu lo hi sl Q I rx hs pl pu h
  unfold rSlM at h
  split at h
  · obtain ⟨xs, h1, q⟩ := h
    exact sl_list pins s σ H _ v vl vu _ _ sl Q I rx hs pl pu ⟨_, _, rfl, h1, q⟩
  · exact h.elim
/-- xs.append(y), xs.pop() of a tracked list -/
def rAppM : V → List V → Hp → VK → Prop
  | .ref l, [y], H, Q => ∃ xs, H l = some (.lst xs) ∧ xs.length < sizeLine ∧ Q .non (upd H l (.lst (xs ++ [y])))
  | _, _, _, _ => False
def rPopM : V → List V → Hp → VK → Prop
  | .ref l, [], H, Q => ∃ xs y, H l = some (.lst xs) ∧ xs[xs.length - 1]? = some y ∧ Q y (upd H l (.lst xs.dropLast))
  | _, _, _, _ => False
theorem mt_appendM : MtR X "list.append" rAppM := by
  intro pins s σ H x vs v us Q I rx r h
  unfold rAppM at h
  split at h
  · obtain ⟨xs, h1, h2, q⟩ := h
    exact mt_append pins s σ H _ _ v us Q I rx r ⟨_, _, _, rfl, rfl, h1, h2, q⟩
  · exact h.elim
theorem mt_popM : MtR X "list.pop" rPopM := by
  intro pins s σ H x vs v us Q I rx r h
  unfold rPopM at h
  split at h
  · obtain ⟨xs, y, h1, h2, q⟩ := h
    exact mt_pop pins s σ H _ _ v us Q I rx r ⟨_, _, _, rfl, rfl, h1, h2, q⟩
  · exact h.elim
end

/-! ### == of a list of ints and [] -/
theorem canLayInts : ∀ cs : List Int, PyData.canLayAll0 (cs.map PyData.int) = true
  | [] => rfl
  | c :: cs => by
    rw [List.map_cons, PyData.canLayAll0, canLayInts cs, PyData.canLay0]
    rfl
theorem depthInts : ∀ cs : List Int, PyData.depthAll (cs.map PyData.int) = 0
  | [] => rfl
  | c :: cs => by
    rw [List.map_cons, PyData.depthAll, depthInts cs, PyData.depth]
    rfl
theorem shapedInts (cs : List Int) : SeqAt.shaped (.list (cs.map PyData.int)) = true := by
  unfold SeqAt.shaped
  rw [PyData.canLay0, PyData.depth, canLayInts, depthInts]
  rfl
theorem shapedIntsT (cs : List Int) : SeqAt.shaped (.tuple (cs.map PyData.int)) = true := by
  unfold SeqAt.shaped
  rw [PyData.canLay0, PyData.depth, canLayInts, depthInts]
  rfl
theorem eqvAllInts : ∀ xs ys : List Int, PyData.eqvAll (xs.map PyData.int) (ys.map PyData.int) = decide (xs = ys)
  | [], [] => rfl
  | [], y :: ys => rfl
  | x :: xs, [] => rfl
  | x :: xs, y :: ys => by
    rw [List.map_cons, List.map_cons, PyData.eqvAll, eqvAllInts xs ys, PyData.eqv]
    by_cases h1 : x = y <;> by_cases h2 : xs = ys <;> simp [h1, h2]
theorem eqvLists (xs ys : List Int) : PyData.eqv (.list (xs.map PyData.int)) (.list (ys.map PyData.int)) = decide (xs = ys) := by
  rw [PyData.eqv, eqvAllInts]
theorem eqvTups (xs ys : List Int) : PyData.eqv (.tuple (xs.map PyData.int)) (.tuple (ys.map PyData.int)) = decide (xs = ys) := by
  rw [PyData.eqv, eqvAllInts]
/-- == and != of two lists of ints, two tuples of ints -/
theorem dpInts {K : PySem.W.Frag} {H : Hp} : ∀ cs : List Int, DpAll K H (cs.map V.int) (cs.map PyData.int)
  | [] => .nil
  | c :: cs => .cons (.int c) (dpInts cs)
theorem neLists {K : PySem.W.Frag} {H : Hp} {a b : Addr} {xs ys : List Int} {Q : VK} (ha : SqL K H a (xs.map V.int)) (hb : SqL K H b (ys.map V.int)) (h : Q (.bl (!decide (xs = ys))) H) : rNeD K (.ref a) (.ref b) H Q :=
  ⟨_, _, .lst ha (dpInts xs), .lst hb (dpInts ys), shapedInts xs, shapedInts ys, by rw [eqvLists]; exact h⟩
theorem eqLists {K : PySem.W.Frag} {H : Hp} {a b : Addr} {xs ys : List Int} {Q : VK} (ha : SqL K H a (xs.map V.int)) (hb : SqL K H b (ys.map V.int)) (h : Q (.bl (decide (xs = ys))) H) : rEqD K (.ref a) (.ref b) H Q :=
  ⟨_, _, .lst ha (dpInts xs), .lst hb (dpInts ys), shapedInts xs, shapedInts ys, by rw [eqvLists]; exact h⟩
theorem neTups {K : PySem.W.Frag} {H : Hp} {a b : Addr} {xs ys : List Int} {Q : VK} (ha : SqT K H a (xs.map V.int)) (hb : SqT K H b (ys.map V.int)) (h : Q (.bl (!decide (xs = ys))) H) : rNeD K (.ref a) (.ref b) H Q :=
  ⟨_, _, .tup ha (dpInts xs), .tup hb (dpInts ys), shapedIntsT xs, shapedIntsT ys, by rw [eqvTups]; exact h⟩
theorem eqTups {K : PySem.W.Frag} {H : Hp} {a b : Addr} {xs ys : List Int} {Q : VK} (ha : SqT K H a (xs.map V.int)) (hb : SqT K H b (ys.map V.int)) (h : Q (.bl (decide (xs = ys))) H) : rEqD K (.ref a) (.ref b) H Q :=
  ⟨_, _, .tup ha (dpInts xs), .tup hb (dpInts ys), shapedIntsT xs, shapedIntsT ys, by rw [eqvTups]; exact h⟩
/-! ### the readings' equations, for a walk by simp -/
section
variable {K : PySem.W.Frag} {H : Hp} {Q : VK} {i j : Int} {p : Addr} {x y : V} {k k' : Bool} {a b : Str} {lo hi : Option Int}
theorem q_isi {n : String} : rIsiV [x, .ty n] H Q = ∃ t b, vty H x = some t ∧ kitB t n = some b ∧ Q (.bl b) H := rfl
theorem q_vn : vty H .non = some "NoneType" := rfl
theorem q_vb : vty H (.bl k) = some "bool" := rfl
theorem q_vi : vty H (.int i) = some "int" := rfl
theorem q_vs : vty H (.str a) = some "str" := rfl
theorem q_int1 : rInt1 [.int i] H Q = Q (.int i) H := rfl
theorem q_int2 : rInt1 [.bl k] H Q = Q (.int (if k then 1 else 0)) H := rfl
theorem q_min : rMin2 [.int i, .int j] H Q = Q (.int (if j < i then j else i)) H := rfl
theorem q_max : rMax2 [.int i, .int j] H Q = Q (.int (if j > i then j else i)) H := rfl
theorem q_repr : rRepr1 [.int i] H Q = (i.natAbs.log2 < 1920 ∧ Q (.str (toString i)) H) := rfl
theorem q_ix : rIx1 K (.ref p) (.int i) H Q = ∃ xs v, SqL K H p xs ∧ atI xs i = some v ∧ Q v H := rfl
theorem q_sl : rSlM K (.ref p) lo hi H Q = ∃ xs, SqL K H p xs ∧ ∀ r, H r = none → Q (.ref r) (upd H r (.lst (cutV xs lo hi))) := rfl
theorem q_app : rAppM (.ref p) [y] H Q = ∃ xs, H p = some (.lst xs) ∧ xs.length < sizeLine ∧ Q .non (upd H p (.lst (xs ++ [y]))) := rfl
theorem q_pop : rPopM (.ref p) [] H Q = ∃ xs y, H p = some (.lst xs) ∧ xs[xs.length - 1]? = some y ∧ Q y (upd H p (.lst xs.dropLast)) := rfl
theorem q_sii : scal (.int i) (.int j) = true := rfl
theorem q_sss : scal (.str a) (.str b) = true := rfl
theorem q_sbb : scal (.bl k) (.bl k') = true := rfl
theorem q_snn : scal .non .non = true := rfl
theorem q_sns : scal .non (.str a) = true := rfl
theorem q_ssn : scal (.str a) .non = true := rfl
theorem dec_iff {A B : Prop} [Decidable A] [Decidable B] (h : A ↔ B) : decide A = decide B := by simp [h]
end

/-! ### the source of draws: d the pair, L its list, cs the great cells, z the blend -/
structure DealC (d L : Addr) (cs : List Int) (z : Int) (H : Hp) : Prop where
  d : H d = some (.lst [.ref L, .int z])
  l : H L = some (.lst (cs.map V.int))
  nn : ∀ c ∈ cs, 0 ≤ c
  z0 : 0 ≤ z
  z1 : z < 2147483647
  len : cs.length ≤ 63
def Deal (d L : Addr) (H : Hp) : Prop := ∃ cs z, DealC d L cs z H
/-- all but the source of draws is as it was, and this stands -/
structure Mv (d L : Addr) (H H' : Hp) : Prop where
  kp : ∀ b o, b ≠ d → b ≠ L → H b = some o → H' b = some o
  dl : Deal d L H'
theorem DealC.ne {d L : Addr} {cs : List Int} {z : Int} {H : Hp} (D : DealC d L cs z H) : d ≠ L := fun e => by
  have a := D.d
  rw [e, D.l] at a
  cases cs with
  | nil => cases a
  | cons c cs =>
    have b := List.cons.inj (HO.lst.inj (Option.some.inj a))
    cases b.1
theorem Deal.ne {d L : Addr} {H : Hp} (D : Deal d L H) : d ≠ L := D.elim fun _ h => h.elim fun _ D => D.ne
theorem DealC.ex {d L : Addr} {cs : List Int} {z : Int} {H H' : Hp} (D : DealC d L cs z H) (e : Ex H H') : DealC d L cs z H' := ⟨e _ _ D.d, e _ _ D.l, D.nn, D.z0, D.z1, D.len⟩
theorem Deal.ex {d L : Addr} {H H' : Hp} (D : Deal d L H) (e : Ex H H') : Deal d L H' := by
  obtain ⟨cs, z, D⟩ := D
  exact ⟨cs, z, D.ex e⟩
theorem Mv.of_ex {d L : Addr} {H H' : Hp} (D : Deal d L H) (e : Ex H H') : Mv d L H H' := ⟨fun _ _ _ _ h => e _ _ h, D.ex e⟩
theorem Mv.refl {d L : Addr} {H : Hp} (D : Deal d L H) : Mv d L H H := .of_ex D (Ex.refl H)
theorem Mv.trans {d L : Addr} {H H1 H2 : Hp} (a : Mv d L H H1) (b : Mv d L H1 H2) : Mv d L H H2 := ⟨fun x o h1 h2 h => b.kp x o h1 h2 (a.kp x o h1 h2 h), b.dl⟩
theorem Mv.tex {d L : Addr} {H H1 H2 : Hp} (a : Mv d L H H1) (e : Ex H1 H2) : Mv d L H H2 := a.trans (.of_ex a.dl e)
theorem Mv.new {d L : Addr} {H H1 : Hp} {p : Addr} {o : HO} (a : Mv d L H H1) (h : H1 p = none) : Mv d L H (upd H1 p o) := a.tex (Ex.new h)
/-- a new place is not the source's -/
theorem Deal.off {d L : Addr} {H : Hp} {p : Addr} (D : Deal d L H) (h : H p = none) : p ≠ d ∧ p ≠ L := by
  obtain ⟨cs, z, D⟩ := D
  exact ⟨fun e => (by rw [e, D.d] at h; cases h), fun e => (by rw [e, D.l] at h; cases h)⟩
theorem Deal.offL {d L : Addr} {H : Hp} {p : Addr} {xs : List Int} (D : Deal d L H) (h : H p = some (.lst (xs.map V.int))) : p ≠ d := fun e => by
  obtain ⟨cs, z, D⟩ := D
  rw [e, D.d] at h
  cases xs with
  | nil => cases h
  | cons c cs =>
    have b := List.cons.inj (HO.lst.inj (Option.some.inj h))
    cases b.1
theorem Mv.free {d L : Addr} {H H' : Hp} {p : Addr} (a : Mv d L H H') (h : H' p = none) : H p = none := by
  have o := a.dl.off h
  cases h1 : H p with
  | none => rfl
  | some u => rw [a.kp p u o.1 o.2 h1] at h; cases h
theorem Mv.mut {d L : Addr} {H H' : Hp} {D : Addr} {o : HO} (a : Mv d L H H') (h : H D = none) (h1 : D ≠ d) (h2 : D ≠ L) : Mv d L H (upd H' D o) := by
  obtain ⟨kp, cs, z, D'⟩ := a
  exact ⟨fun b u x1 x2 e => by rw [upd_ne (ne_of_none e h)]; exact kp b u x1 x2 e, cs, z, ⟨by rw [upd_ne h1.symm]; exact D'.d, by rw [upd_ne h2.symm]; exact D'.l, D'.nn, D'.z0, D'.z1, D'.len⟩⟩
/-- a slice of a list of ints -/
theorem cut_ints (ns : List Int) (lo hi : Option Int) : ∃ ms : List Int, cutV (ns.map V.int) lo hi = ms.map V.int ∧ (∀ x ∈ ms, x ∈ ns) ∧ ms.length ≤ ns.length := by
  refine ⟨(ns.drop (HT.sIx ns.length 0 lo)).take (HT.sIx ns.length ns.length hi - HT.sIx ns.length 0 lo), ?_, fun x hx => List.mem_of_mem_drop (List.mem_of_mem_take hx), ?_⟩
  · unfold cutV
    rw [List.length_map, ← List.map_drop, ← List.map_take]
  · rw [List.length_take, List.length_drop]; omega
theorem cut_hi (ns : List Int) (k : Nat) : cutV (ns.map V.int) none (some (k : Int)) = (ns.take k).map V.int := by
  unfold cutV
  rw [List.length_map, HT.sIx_none, HT.sIx_nat, List.drop_zero, Nat.sub_zero, ← List.map_take]
  congr 1
  by_cases h : k ≤ ns.length
  · rw [Nat.min_eq_left h]
  · rw [Nat.min_eq_right (by omega), List.take_of_length_le (by omega), List.take_of_length_le (by omega)]
end My
set_option Elab.async false
set_option linter.all false
set_option maxRecDepth 100000
set_option maxHeartbeats 4000000
/-! defs that are called while no repr is under way: the promise of a def, its body, its call, the law's end -/
namespace My
open PySem PySem.Spec PyProof.Rows L2 Evl
structure FnG (P : Program) (w : World) (K : PySem.W.Frag) (mg : Str → Option Value) (base : Heap) (CX : CXT) (k : Nat) (f : Addr) (fd : FuncData) (ps : List Str) (sp : Sp) : Prop where
  len : ∀ xs G R W, sp xs G R W → xs.length = ps.length
  run : ∀ (B : Around) (out : List Env) (z : Shared) (G : Hp) (ar : Args) (us : List Value) (xs : List V) (R : VK) (W : XK), B.guards = some [] → Room k B →
    Env0 P w K mg base B out z G → BindsTo z fd ar (ps.zip us) → Vals xs us → sp xs G R W → codeAny (model P w) B (.call (.ref f) ar) (CR CX out P w G z R W) z
section
variable {P : Program} {w : World} {K : PySem.W.Frag} {mg : Str → Option Value} {base : Heap} {CX : CXT}
theorem FnG.of_ok {k : Nat} {f : Addr} {fd : FuncData} {ps : List Str} {sp : Sp} (F : FnOk P w K mg base CX k f fd ps sp) : FnG P w K mg base CX k f fd ps sp :=
  ⟨F.len, fun B out z G ar us xs R W _ => F.run B out z G ar us xs R W⟩
/-- a def by its body, as Fun.ok; hgd is handed to the body -/
theorem okG {x qual : Str} {st : Stmt} {f : Addr} {fd : FuncData} {N ps : List Str} {k : Nat} {sp : Sp} (F : Fun K x qual st f fd) (S : FnScope N ps (defScope st))
    (len : ∀ xs G R W, sp xs G R W → xs.length = ps.length)
    (body : ∀ (cdv : Value) (B : Around) (out : List Env) (z : Shared) (G : Hp) (xs : List V) (R : VK) (W : XK), B.guards = some [] →
      Room k (B.deeper (envOfC qual (defScope st) z.heap.objs.size f cdv)) → sp xs G R W →
      ∃ t, PSs (cxOf CX P w K mg base N qual (defScope st) f cdv B out z G W).nox (defBody st) t ∧ t { nx := fun _ G' => R .non G', rt := R } (L2.start N xs) G) :
    FnG P w K mg base CX (k + 1) f fd ps sp := by
  obtain ⟨oc, od, kV, doc, pm, an, cdv, ct, osl, rfl, lk, hcd⟩ := F.ex
  refine ⟨len, fun B out z G ar us xs R W hgd hr env hb rv hsp => ?_⟩
  have hin : K.In z.heap := env.mod.kin.keeps fun b o e => (env.bs b o e).1
  have hlim : z.heap.NoLimit := env.mod.nolimit.keeps fun b o e => (env.bs b o e).1
  refine codeAny_call_function hr.depth (hin _ _ lk) rfl S.co S.gen rfl (PySem.W.codeRec_of hin hcd) (hb _ _ _ _ ?_)
  refine wpAny_newFunctionEnv_cells S.kind (fun ⟨n, v⟩ hy => ?_) fun e2 he z1 ic => ?_
  · rcases S.par n (List.of_mem_zip hy).1 with h | h
    · exact .inl h
    · exact .inr ⟨h, PySem.W.cellsFrom_some _ _ _ (.inl h)⟩
  subst he
  refine ⟨hlim.keeps ic.toInCall.keep, codeAny_func ?_⟩
  obtain ⟨t, ht, hq⟩ := body cdv B out z G xs R W hgd (hr.deeper _) hsp
  have inv := inv_start (CX := CX) (P := P) (w := w) (K := K) (mg := mg) (base := base) (E := W) S hr.hd env (len _ _ _ _ hsp) rv ic
  refine wpAny_mono (ht.nox.run [] z1 (L2.start N xs) G _ inv hq) (fun fl z' hz => ?_) fun _ _ hz => hz
  cases fl with
  | ret u => obtain ⟨v, σ', G', J, r2, q⟩ := hz; exact ⟨v, G', J.os, J.bare, J.base, J.hok, r2, q⟩
  | next => obtain ⟨σ', G', J, q⟩ := hz; exact ⟨V.non, G', J.os, J.bare, J.base, J.hok, rfl, q⟩
  | brk => obtain ⟨_, _, _, q⟩ := hz; exact q.elim
  | cont => obtain ⟨_, _, _, q⟩ := hz; exact q.elim
end
section
variable {X : Cx} {CX : CXT} {k : Nat} {f : Addr} {fd : FuncData} {ps : List Str} {sp : Sp} {dvs : List V} {ds : List Value} {E : XK} {x : Str} {p pos : Pos} {e : Expr} {es : List Expr} {t : TA}
/-- its call by its name -/
theorem pe_callG (F : FnG X.prog X.w X.K X.mg X.base CX k f fd ps sp) (hgd : X.A.guards = some []) (hr : Room k X.A) (hg : Gl X x) (hm : X.mg x = some (.ref f)) (hk : PySem.W.keepIn X.K (.ref f) = true)
    (hb : Binds X.K fd ps ds) (hd : Vals dvs ds) (hx : Passes CX X E) (ha : PA X (e :: es) t) (hdb : (x == ("__debug__" : Str)) = false := by decide)
    (he : starEach (e :: es) X.env = (false, eval e X.env) :: starEach es X.env := by rfl) (hpl : (backTo pos (starEach es X.env)).any (·.1) = false := by rfl) :
    PE X (.Call (.Name x p) (e :: es) [] pos) (tCall sp dvs E t) := by
  refine ⟨fun pins s σ H Q I h => wpAny_Call_Name_kw (ld_glob I hg hm ?_ hdb)⟩
  refine PySem.W.callWith_K (h₀ := X.base) I.ok.mod.kin hk (thn (ha.run pos pins s σ H _ I h) fun us s1 ⟨vs, H1, I1, r, q⟩ => ⟨I1.kIn, ?_⟩) he hpl
  have r2 := r.append hd
  have hl : (us ++ ds).length = ps.length := by rw [← r2.length]; exact F.len _ _ _ _ q
  refine wpAny_call (codeAny_mono (F.run X.A X.stack s1 H1 ⟨us, []⟩ _ _ Q E hgd hr I1.env0 (hb s1 us I1.kIn hl) r2 q) fun r s' hq => ?_)
  cases r with
  | error e => exact hx pins σ H1 s1 e s' I1 hq
  | ok fl =>
    cases fl with
    | ret u => exact I1.after hq
    | next => exact hq.elim
    | brk => exact hq.elim
    | cont => exact hq.elim
end
theorem huD {k : Nat} {A : Around} (hr : Room k A) : A.units + 200 < cLine := Nat.lt_of_le_of_lt (by omega) hr.un
section
variable {X : Cx}
/-- repr of data of any depth, while no repr is under way -/
def rReprD (K : PySem.W.Frag) : List V → Hp → VK → Prop := fun vs H Q => ∃ v d, vs = [v] ∧ Dp K H v d ∧ d.showable = true ∧ d.hasDict = false ∧ d.depth ≤ 100 ∧ d.shown.length ≤ sizeLine ∧ Q (.str d.shown) H
theorem call_reprD (hgd : X.A.guards = some []) (hu : X.A.units + 200 < cLine) : CallR X (.builtin "repr") (rReprD X.K) := by
  intro pins s σ H vs us Q I r h
  obtain ⟨v, d, rfl, hd, h1, h2, h3, h4, q⟩ := h
  obtain ⟨u, rfl, ru⟩ := vals1 r
  obtain ⟨as, rd⟩ := Dp.reads I d v u hd ru
  cases hd with
  | non => cases ru; exact PySem.P.repr_of_none ⟨.str _, H, I.tok _, ⟨_, rfl⟩, q⟩
  | bl b => cases ru; exact PySem.P.repr_of_bool ⟨.str _, H, I.tok _, ⟨_, rfl⟩, q⟩
  | int i => obtain ⟨t, rfl⟩ := ru; exact PySem.P.repr_of_int (of_decide_eq_true h1) ⟨.str _, H, I.tok _, ⟨_, rfl⟩, q⟩
  | str x => obtain ⟨t, rfl⟩ := ru; exact PySem.P.repr_of_str ⟨.str _, H, I.tok _, ⟨_, rfl⟩, q⟩ h4
  | lst _ _ =>
    cases ru
    exact repr_of_reads' rd h1 (PyData.noDict_hsm h2) hgd (by omega) (fun _ _ e => e) (fun h' u tk hk => ⟨.str _, H, I.kept hk, ⟨_, rfl⟩, q⟩) h4
  | tup _ _ =>
    cases ru
    exact repr_of_reads' rd h1 (PyData.noDict_hsm h2) hgd (by omega) (fun _ _ e => e) (fun h' u tk hk => ⟨.str _, H, I.kept hk, ⟨_, rfl⟩, q⟩) h4
end

/-! ### the law's end, with a promise that knows that no repr is under way -/
section
variable {P : Program} {w : World} {K : PySem.W.Frag} {mg mb : Str → Option Value} {CX : CXT}
theorem lawG {k : Nat} {fa a : Addr} {fd : FuncData} {x : Str} {sp : Sp} {z : Shared} {us : List Value} {ns : List Int} (hin : K.In z.heap) (hns : z.heap.Ns mainGlobals mg) (hb : z.heap.Ns builtinsNs mb)
    (hbb : ∀ y : Str, y ≠ "__name__" → mb y = bootBuiltins y) (hlim : z.heap.NoLimit) (hg : z.gens = #[]) (ha : z.heap.get? a = some { cls := .type "list", data := .seq us.toArray }) (hi : IntsAre us ns) (hl : ns.length ≤ sizeLine)
    (hr : Room k callerA) (F : ∀ bs : Heap, K.In bs → bs.Ns mainGlobals mg → FnG P w K mg bs CX k fa fd [x] sp) (hbind : ∀ (t : Shared) (u : Value), BindsTo t fd ⟨[u], []⟩ [(x, u)])
    (hsp : ∀ G : Hp, Only G → SqL K G a (ns.map V.int) → sp [.ref a] G (fun v _ => v = .bl true) fun _ _ _ => False) (hCX : ∀ G e t, CX [] G z (fun _ _ _ => False) e t → False) :
    codeAny (model P w) callerA (.call (.ref fa) ⟨[.ref a], []⟩) (fun r t => r = .ok (.ret (.bool true)) ∧ OldK z.heap t.heap ∧ t.os = z.os ∧ AllBare t.gens) z := by
  have rv := vals_ints hi
  have hlen : us.toArray.size ≤ sizeLine := by rw [List.size_toArray, hi.length]; exact hl
  -- the abstract heap: the script, locked, unless it is an object of the text's own
  obtain ⟨G, hG1, hG2, hG3, hG4⟩ : ∃ G : Hp, (∀ b u, G b = some u → b = a ∧ u = .frz { cls := .type "list", data := .seq us.toArray } (.lst (ns.map V.int))) ∧ (G a ≠ none → K.lookup a = none) ∧ Only G ∧ SqL K G a (ns.map V.int) := by
    cases hk : K.lookup a with
    | none =>
      refine ⟨fun b => if b = a then some (.frz { cls := .type "list", data := .seq us.toArray } (.lst (ns.map V.int))) else none, fun b u h => ?_, fun _ => rfl, fun b => ?_, .inl (.inr ⟨{ cls := .type "list", data := .seq us.toArray }, if_pos rfl⟩)⟩
      · by_cases e : b = a
        · dsimp only at h; rw [if_pos e] at h; exact ⟨e, (Option.some.inj h).symm⟩
        · dsimp only at h; rw [if_neg e] at h; cases h
      · by_cases e : b = a
        · exact .inr ⟨_, _, if_pos e⟩
        · exact .inl (if_neg e)
    | some o =>
      have e := hin a o hk
      rw [ha] at e
      cases e
      exact ⟨fun _ => none, fun b u h => (by cases h), fun h => absurd rfl h, fun _ => .inl rfl, .inr ⟨_, us.toArray, _, hk, rfl, rfl, rfl, hlen, by simpa using rv⟩⟩
  have keep : ∀ {b : Addr} {o : Obj}, z.heap.get? b = some o → G b = none → (hidT z.heap G).get? b = some o := fun e n => hidT_get e n
  have isA : ∀ {b : Addr}, G b ≠ none → b = a := fun {b} h => by
    cases q : G b with
    | none => exact absurd q h
    | some u => exact (hG1 b u q).1
  have dicts : ∀ {b : Addr} {m : Str → Option Value}, z.heap.Ns b m → (hidT z.heap G).Ns b m := fun {b m} ⟨o, es, ep, e, d, r⟩ => by
    refine ⟨o, es, ep, keep e ?_, d, r⟩
    cases q : G b with
    | none => rfl
    | some u =>
      have := isA (b := b) (by rw [q]; simp)
      subst this
      rw [ha] at e; cases e
      cases (show Data.seq us.toArray _ = Data.dict es ep from d)
  have inG : K.In (hidT z.heap G) := fun b o e => keep (hin b o e) (by
    cases q : G b with
    | none => rfl
    | some u =>
      have := isA (b := b) (by rw [q]; simp)
      subst this
      rw [hG2 (by rw [q]; simp)] at e; cases e)
  have lim : (hidT z.heap G).NoLimit := by
    obtain ⟨mc, h1, h2⟩ := hlim
    exact ⟨mc, dicts h1, h2⟩
  have hok : HOk P w G z.heap := fun b u h => by
    obtain ⟨rfl, rfl⟩ := hG1 b u h
    exact ⟨ha, by rw [List.length_map]; exact hl, us, _, rv, ha⟩
  have env : Env0 P w K mg (hidT z.heap G) callerA [] z G :=
    ⟨rfl, ⟨inG, dicts hns, ⟨mb, dicts hb, hbb⟩, lim⟩, fun b o e => of_hidT e, Nat.le_of_eq (hidT_size _ _), trivial, fun b hb => (by cases hb), hok, .of_eq hg⟩
  refine codeAny_mono ((F _ inG (dicts hns)).run callerA [] z G ⟨[.ref a], []⟩ [.ref a] [.ref a] _ _ rfl hr env (hbind z (.ref a)) (.cons rfl .nil) (hsp G hG3 hG4)) fun r t h => ?_
  cases r with
  | error e => exact (hCX G e t h).elim
  | ok fl =>
    cases fl with
    | next => exact h.elim
    | brk => exact h.elim
    | cont => exact h.elim
    | ret u =>
      obtain ⟨v, G', os, bare, un, hok', r', q⟩ := h
      cases (show v = .bl true from q)
      cases (show u = Value.bool true from r')
      refine ⟨rfl, OldK.of_keep fun b o e => ?_, os, bare⟩
      cases q : G b with
      | none => exact un.keep b o e q (fun hh => by cases hh) (by simp)
      | some u =>
        obtain ⟨rfl, rfl⟩ := hG1 b u q
        obtain ⟨e2, _⟩ := hok' b _ (un.frzs b _ _ q)
        rw [ha] at e
        rw [← e]
        exact e2
end
theorem walkG {l : PySem.W.OpenLaw} {n k : Nat} {q : Program} {loose : List Str} {XP : (Str → Option Value) → Heap → Prop} {YP : World → Heap → Prop} {d : DefRec} {K : Params → PySem.W.Frag} {CX : World → CXT} {sp : World → Sp} {x : Str}
    (hn : l.most = some n) (h2 : n ≤ sizeLine) (hdf : d.params.defaults = []) (hr : Room k callerA) (hY : ∀ (w : World) (h : Heap), YP w h → (K w.params).In h)
    (F : ∀ (w : World) (mg : Str → Option Value) (fa : Addr) (h : Heap), (K w.params).In h → h.Ns mainGlobals mg → mg d.name = some (.ref fa) →
      ∃ fd : FuncData, (∀ (s : Shared) (u : Value), BindsTo s fd ⟨[u], []⟩ [(x, u)]) ∧ ∀ bs : Heap, (K w.params).In bs → bs.Ns mainGlobals mg → FnG l.prog w (K w.params) mg bs (CX w) k fa fd [x] (sp w))
    (hsp : ∀ (w : World) (G : Hp) (a : Addr) (ns : List Int), ns.length ≤ n → Only G → SqL (K w.params) G a (ns.map V.int) → sp w [.ref a] G (fun v _ => v = .bl true) fun _ _ _ => False)
    (hCX : ∀ (w : World) (G : Hp) (s : Shared) (e : Value) (t : Shared), CX w [] G s (fun _ _ _ => False) e t → False) : PySem.W.WalkO q loose XP YP l.row.toRowW d [] (fun f vs => PySem.call f vs) := by
  refine Att.attach_call hn hdf fun w s₀ s₁ mg mb fa o pm cd doc a vs ns G Y ho hd hcd hmg hobj hints hlen hg => ?_
  have hin := hY w _ Y
  obtain ⟨fd, hb, hF⟩ := F w mg fa _ hin G.T.g hmg
  exact lawG hin G.T.g G.T.b G.T.builtins G.T.nolimit hg hobj hints (Nat.le_trans hlen h2) hr hF hb (fun G' o s => hsp w G' a ns hlen o s) fun G' e t => hCX w G' s₁ e t
end My
set_option Elab.async false
set_option linter.all false
set_option maxRecDepth 100000
set_option maxHeartbeats 4000000
set_option exponentiation.threshold 5000
/-! more rules: a tuple backwards, a list or a tuple walked, great powers -/
namespace My
open PySem PySem.Spec PyProof.Rows L2 Evl
section
variable {prog : Program} {w : World} {A : Around} {E : Value → Shared → Prop} {s : Shared}
theorem slParts {sl : Addr} {vl vu vs : Value} {lo hi st : Option Int} {c : Int} {n : Nat} {R : Int × Int × Nat → Shared → Prop} (hs : s.heap.IsSliceOf sl vl vu vs) (pl : IsPart vl lo) (pu : IsPart vu hi) (ps : IsPart vs st) (hc : st.getD 1 = c) (h0 : (c == 0) = false)
    (h : R ((Builtin.Slice.sliceAdjust lo hi c (n : Int)).1, c, Builtin.Slice.slicePlaces (Builtin.Slice.sliceAdjust lo hi c (n : Int)).1 (Builtin.Slice.sliceAdjust lo hi c (n : Int)).2 c) s) :
    wpAny (model prog w) A (Builtin.Slice.sliceApplied (.ref sl) (pure (n : Int))) R E s := by
  obtain ⟨ob, h1, h2, h3⟩ := hs
  unfold Builtin.Slice.sliceApplied Builtin.Slice.sliceFields
  refine wpAny_bind (wpAny_bind (wpAny_field h1 h3 (x := vl) rfl (wpAny_bind (wpAny_field h1 h3 (x := vu) rfl (wpAny_bind (wpAny_field h1 h3 (x := vs) rfl (wpAny_pure ?_)))))))
  refine wpAny_bind (HT.slicePart_ ps ?_)
  show wpAny _ _ (if (st.getD 1 == 0) = true then _ else _) _ _ s
  rw [hc, if_neg (by rw [h0]; exact Bool.false_ne_true)]
  refine wpAny_bind (HT.slicePart_ pl (wpAny_bind (HT.slicePart_ pu (wpAny_bind (wpAny_pure (wpAny_pure h))))))
theorem revPick (xs : Array Value) (n : Nat) (hn : xs.size = n) : ((List.range n).filterMap fun (k : Nat) => xs[((n : Int) - 1 + (k : Int) * (-1)).toNat]?).toArray = xs.toList.reverse.toArray := by
  subst hn
  congr 1
  have e : ∀ k : Nat, ((xs.size : Int) - 1 + (k : Int) * (-1)).toNat = xs.size - 1 - k := fun k => by omega
  have e2 : (fun (k : Nat) => xs[((xs.size : Int) - 1 + (k : Int) * (-1)).toNat]?) = fun k => xs[xs.size - 1 - k]? := by
    funext k
    rw [e k]
  rw [e2]
  have e3 : (List.range xs.size).filterMap (fun k => xs[xs.size - 1 - k]?) = ((List.range xs.size).map fun k => xs.size - 1 - k).filterMap (xs[·]?) := by
    rw [List.filterMap_map]; rfl
  rw [e3, PySem.W.krv_range, List.filterMap_reverse, PySem.W.krv_all]
/-- t[::-1] of a tuple, by the machine -/
theorem tupBack {t sl : Addr} {items : Array Value} {vl vu vs : Value} {R : Value → Shared → Prop} (ht : IsTup s.heap t items) (hs : s.heap.IsSliceOf sl vl vu vs) (pl : IsPart vl none) (pu : IsPart vu none) (ps : IsPart vs (some (-1))) (hz : items.size ≤ sizeLine)
    (h : R (.ref s.heap.objs.size) { s with heap := s.heap.push { cls := .type "tuple", data := .seq items.toList.reverse.toArray } }) : wpAny (model prog w) A (getItem (.ref t) (.ref sl)) R E s := by
  have hT : s.TypeIs (.ref sl) "slice" := by
    obtain ⟨ob, h1, h2, _⟩ := hs
    exact ⟨ob, h1, h2⟩
  have ok : sizeOk (.seq items.toList.reverse.toArray) := by
    show items.toList.reverse.toArray.size ≤ sizeLine
    rw [List.size_toArray, List.length_reverse, Array.length_toList]
    exact hz
  unfold getItem
  try with_reducible refine wpAny_holding ?_
  first | refine wpAny_bind (wpAny_pure ?_) | skip
  refine wpAny_bind (wpAny_sequenceKey ht.typeIs (by decide) ?_)
  refine wpAny_bind (wpAny_callSpecial?_slot (name := Str.ofString "__getitem__") ht.typeIs slot_tuple_getitem (wpAny_call_entry slot_tuple_getitem ht.typeIs entry_tuple_getitem ?_ (args_tuple_getitem _ _)))
  show wpAny _ _ (Builtin.Tuple.tupleItemsOf (.ref t) >>= _) _ _ s
  refine wpAny_bind (tupleItemsOf_ ht (wpAny_bind (wpAny_typeOf hT ?_)))
  rw [if_pos (by decide)]
  refine wpAny_bind (slParts (c := -1) hs pl pu ps rfl (by decide) ?_)
  have e1 : Builtin.Slice.sliceAdjust none none (-1) (items.size : Int) = ((items.size : Int) - 1, -1) := by
    unfold Builtin.Slice.sliceAdjust; rfl
  have e2 : Builtin.Slice.slicePlaces ((items.size : Int) - 1) (-1) (-1) = items.size := by
    unfold Builtin.Slice.slicePlaces
    rw [if_neg (by decide)]
    by_cases h0 : (items.size : Int) - 1 > -1
    · rw [if_pos h0]
      have : ((items.size : Int) - 1 - -1 - 1) / (- -1) = (items.size : Int) - 1 := by
        rw [show (- -1 : Int) = 1 by decide, Int.ediv_one]; omega
      rw [this]; omega
    · rw [if_neg h0]; omega
  rw [e1]
  show wpAny _ _ (if ((((items.size : Int) - 1 == 0) && ((-1 : Int) == 1)) && (Builtin.Slice.slicePlaces ((items.size : Int) - 1) (-1) (-1) == items.size)) = true then _ else _) _ _ s
  have no : ¬ (((((items.size : Int) - 1 == 0) && ((-1 : Int) == 1)) && (Builtin.Slice.slicePlaces ((items.size : Int) - 1) (-1) (-1) == items.size)) = true) := by
    rw [show ((-1 : Int) == 1) = false by decide]; simp
  rw [if_neg no, e2, revPick items items.size rfl]
  first
    | exact wpAny_bind (m := Builtin.Tuple.tupleExact _) (wpAny_newObj_type (wpAny_pure ⟨_, rfl, wpAny_pure h⟩) ok)
    | exact wpAny_bind (m := Builtin.Tuple.tupleExact _) (wpAny_newObj_type (wpAny_bind (wpAny_pure (wpAny_pure ⟨_, rfl, wpAny_pure h⟩))) ok)
    | exact wpAny_bind (wpAny_bind (m := Builtin.Tuple.tupleExact _) (wpAny_newObj_type (wpAny_pure (wpAny_pure ⟨_, rfl, wpAny_pure h⟩)) ok))
    | exact wpAny_bind (wpAny_bind (m := Builtin.Tuple.tupleExact _) (wpAny_newObj_type (wpAny_pure ⟨_, rfl, wpAny_pure h⟩) ok))
end
section
variable {X : Cx}
/-- t[::-1] of a tuple -/
def tRevT (K : PySem.W.Frag) (te : TE) : TE := fun σ H Q => te σ H fun x H1 => ∃ a xs, x = .ref a ∧ SqT K H1 a xs ∧ ∀ p, H1 p = none → Q (.ref p) (upd H1 p (.tup xs.reverse))
theorem pe_revT {e : Expr} {te : TE} {k : Nat} {p1 p2 p3 pos : Pos} (he : PE X e te) : PE X (.Subscript e (.Slice none none (some (.UnaryOp .USub (.Constant (.int 1) k p1) p2)) p3) pos) (tRevT X.K te) := by
  refine ⟨fun pins s σ H Q I h => Subscript_ (thn (he.run pins s σ H _ I h) fun v s1 ⟨x, H1, I1, r1, a, xs, ex, hx, q⟩ => ?_)⟩
  subst ex
  cases r1
  have step : PO X (some (.UnaryOp .USub (.Constant (.int 1) k p1) p2)) (tPart (tUn (rU fun i => .int (-i)) (tC (.int 1)))) := po_some (pe_un un_neg pe_int)
  refine wpAny_Slice (thn (po_none.run pins s1 σ H1 (fun o G => o = none ∧ G = H1) I1 ⟨rfl, rfl⟩) fun vl s2 ⟨o2, H2, I2, pl, e2, g2⟩ => ?_)
  subst e2 g2
  refine thn (po_none.run pins s2 σ H2 (fun o G => o = none ∧ G = H2) I2 ⟨rfl, rfl⟩) fun vu s3 ⟨o3, H3, I3, pu, e3, g3⟩ => ?_
  subst e3 g3
  refine thn (step.run pins s3 σ H3 (fun o G => o = some (-1) ∧ G = H3) I3 ⟨1, rfl, -1, rfl, rfl, rfl⟩) fun vs s4 ⟨o4, H4, I4, ps, e4, g4⟩ => ?_
  subst e4 g4
  generalize hs5 : ({ s4 with heap := s4.heap.push { cls := .type "slice", data := .fields #[vl, vu, vs] } } : Shared) = s5
  have I5 : Inv X pins σ H4 s5 := by rw [← hs5]; exact I4.kept (t' := s4.toks) fun b ob q => Heap.get?_push_of_some _ q
  have hsl : s5.heap.IsSliceOf s4.heap.objs.size vl vu vs := by rw [← hs5]; exact Heap.IsSliceOf.new _ vl vu vs
  obtain ⟨its, r, ht, hz⟩ := I5.tuple hx
  have hlen := r.length
  show wpAny (model X.prog X.w) X.A (subscriptTail e (.Slice none none (some (.UnaryOp .USub (.Constant (.int 1) k p1) p2)) p3) (.ref a) (.ref s4.heap.objs.size)) (EP X pins σ Q) X.xe _
  refine tail_any (ops := [.ref a, .ref s4.heap.objs.size]) ht.typeIs slot_tuple_getitem.lookup (tupBack ht hsl pl pu ps (by rw [List.size_toArray]; omega) ?_) (by with_unfolding_all rfl)
  refine ⟨.ref _, _, I5.laid (t' := s5.toks) (o := .tup xs.reverse) (fun b ob q => Heap.get?_push_of_some _ q) (Nat.le_refl _) ?_, rfl, q _ (I5.hok.fresh (Nat.le_refl _))⟩
  exact ⟨by rw [List.length_reverse]; exact hz, _, r.reverse, IsTup.new _ _⟩
/-- a list or a tuple, walked -/
def iLT (K : PySem.W.Frag) (tl : TE) : TI := fun σ H R => tl σ H fun x H1 => ∃ a, x = .ref a ∧ (((∃ xs, SqL K H1 a xs) ∧ R (Itl K a) H1) ∨ ((∃ xs, SqT K H1 a xs) ∧ R (Itt K a) H1))
theorem pi_lt {tg l : Expr} {tl : TE} (hl : PE X l tl) : PI X tg l (iLT X.K tl) := by
  refine ⟨fun pins s σ H R I h => thn (hl.run pins s σ H _ I h) fun v s1 ⟨x, H1, I1, r1, a, ex, q⟩ => ?_⟩
  subst ex
  cases r1
  have fresh : ∀ b ∈ [s1.heap.objs.size], FpOk X pins H1 b := fun b hb => by
    rw [List.mem_singleton.mp hb]
    exact I1.fpOk (Nat.le_refl _) (I1.hok.fresh (Nat.le_refl _))
  rcases q with ⟨⟨xs, hq⟩, q⟩ | ⟨⟨xs, hq⟩, q⟩
  · obtain ⟨its, rv, p, hz⟩ := I1.list hq
    exact wpAny_pyIter_list p.isList ⟨s1.heap.objs.size, _, _, _, H1, rfl, I1.kept (t' := s1.toks) fun b o e => Heap.get?_push_of_some _ e, turn_list a _, ⟨_, Heap.get?_push_size _ rfl, rfl, rfl⟩, fresh, q⟩
  · obtain ⟨its, rv, p, hz⟩ := I1.tuple hq
    exact wpAny_pyIter_tuple (show s1.heap.IsTuple a its.toArray from p) ⟨s1.heap.objs.size, _, _, _, H1, rfl, I1.kept (t' := s1.toks) fun b o e => Heap.get?_push_of_some _ e, turn_tuple a _, ⟨_, Heap.get?_push_size _ rfl, rfl, rfl⟩, fresh, q⟩
/-- powers of great ints -/
def CPowX (i j : Int) : Prop := 0 ≤ j ∧ (Builtin.Int.intBits i : Int) * j ≤ 2 ^ 27
theorem op_powX : OpR X (binaryOp .Pow) (rI CPowX fun i j => .int (i ^ j.toNat)) := opI fun _ _ _ _ _ _ _ hc q => pow_int hc.1 hc.2 q
theorem powXOk {i j : Int} {n : Nat} (h0 : 0 ≤ j) (h1 : j ≤ 1000) (hi : i.natAbs < 2 ^ n) (hn : n ≤ 1000) : CPowX i j := by
  refine ⟨h0, ?_⟩
  have hb : Builtin.Int.intBits i ≤ 1001 := by
    unfold Builtin.Int.intBits
    split
    · omega
    · have := PySem.Flt.log2_lt_of (k := n + 1) (by omega) (Nat.lt_of_lt_of_le hi (Nat.pow_le_pow_right (by decide) (by omega)))
      omega
  have a1 : (Builtin.Int.intBits i : Int) * j ≤ 1001 * 1000 := Int.mul_le_mul (by omega) h1 h0 (by decide)
  omega
end

/-! ### texts of lists and tuples of ints -/
theorem shInts : ∀ xs : List Int, (∀ x ∈ xs, x.natAbs.log2 < 1920) → PyData.showableAll (xs.map PyData.int) = true ∧ PyData.leavesShortAll 1921 (xs.map PyData.int) = true ∧ PyData.hasDictAll (xs.map PyData.int) = false ∧ PyData.bulkAll (xs.map PyData.int) = xs.length
  | [], _ => ⟨rfl, rfl, rfl, rfl⟩
  | x :: xs, h => by
    obtain ⟨a, b, c, d⟩ := shInts xs fun y hy => h y (List.mem_cons_of_mem _ hy)
    have hx := h x (List.mem_cons_self ..)
    refine ⟨?_, ?_, ?_, ?_⟩
    · rw [List.map_cons, PyData.showableAll, a, PyData.showable, decide_eq_true hx]; rfl
    · rw [List.map_cons, PyData.leavesShortAll, b, PyData.leavesShort, decide_eq_true (show (PyData.shown (.int x)).length ≤ 1921 from int_text_len_1921 hx)]; rfl
    · rw [List.map_cons, PyData.hasDictAll, c, PyData.hasDict]; rfl
    · rw [List.map_cons, PyData.bulkAll, d, PyData.bulk, List.length_cons]; omega
theorem reprIntsL {K : PySem.W.Frag} {H : Hp} {a : Addr} {xs : List Int} {Q : VK} (ha : SqL K H a (xs.map V.int)) (hl : xs.length ≤ 4000) (hx : ∀ x ∈ xs, x.natAbs.log2 < 1920) (q : Q (.str (PyData.list (xs.map PyData.int)).shown) H) : rReprD K [.ref a] H Q := by
  obtain ⟨h1, h2, h3, h4⟩ := shInts xs hx
  refine ⟨_, _, rfl, .lst ha (dpInts xs), by rw [PyData.showable]; exact h1, by rw [PyData.hasDict]; exact h3, by rw [PyData.depth, depthInts]; omega, ?_, q⟩
  have := PyData.shown_le_bulk 1921 (by decide) (.list (xs.map PyData.int)) (by rw [PyData.leavesShort]; exact h2)
  rw [PyData.bulk, h4] at this
  exact Nat.le_trans this (by rw [sizeLine_eq]; omega)
theorem reprIntsT {K : PySem.W.Frag} {H : Hp} {a : Addr} {xs : List Int} {Q : VK} (ha : SqT K H a (xs.map V.int)) (hl : xs.length ≤ 4000) (hx : ∀ x ∈ xs, x.natAbs.log2 < 1920) (q : Q (.str (PyData.tuple (xs.map PyData.int)).shown) H) : rReprD K [.ref a] H Q := by
  obtain ⟨h1, h2, h3, h4⟩ := shInts xs hx
  refine ⟨_, _, rfl, .tup ha (dpInts xs), by rw [PyData.showable]; exact h1, by rw [PyData.hasDict]; exact h3, by rw [PyData.depth, depthInts]; omega, ?_, q⟩
  have := PyData.shown_le_bulk 1921 (by decide) (.tuple (xs.map PyData.int)) (by rw [PyData.leavesShort]; exact h2)
  rw [PyData.bulk, h4] at this
  exact Nat.le_trans this (by rw [sizeLine_eq]; omega)
theorem reprIntD {K : PySem.W.Frag} {H : Hp} {x : Int} {Q : VK} (hx : x.natAbs.log2 < 1920) (q : Q (.str (PyData.int x).shown) H) : rReprD K [.int x] H Q :=
  ⟨_, _, rfl, .int x, by rw [PyData.showable, decide_eq_true hx], by rw [PyData.hasDict], by rw [PyData.depth]; omega, Nat.le_trans (int_text_len_1921 hx) (by decide), q⟩
theorem reprBlD {K : PySem.W.Frag} {H : Hp} {b : Bool} {Q : VK} (q : Q (.str (PyData.bool b).shown) H) : rReprD K [.bl b] H Q :=
  ⟨_, _, rfl, .bl b, by rw [PyData.showable], by rw [PyData.hasDict], by rw [PyData.depth]; omega, by cases b <;> exact sz_le (by decide), q⟩
/-! ### slices -/
theorem cut_lo (ns : List Int) (k : Nat) : cutV (ns.map V.int) (some (k : Int)) none = (ns.drop k).map V.int := by
  unfold cutV
  rw [List.length_map, HT.sIx_nat, HT.sIx_none, ← List.map_drop, ← List.map_take]
  congr 1
  by_cases h : k ≤ ns.length
  · rw [Nat.min_eq_left h, List.take_of_length_le (by rw [List.length_drop]; omega)]
  · rw [Nat.min_eq_right (by omega), List.drop_of_length_le (Nat.le_refl _), List.drop_of_length_le (by omega), List.take_nil]
/-- a slice of a tuple of ints: by what it holds, the tuple itself or a new one -/
theorem slTup {K : PySem.W.Frag} {H : Hp} {a : Addr} {ns : List Int} {lo hi : Option Int} {Q : VK} (ha : H a = some (.tup (ns.map V.int)))
    (q : ∀ p H1, Ex H H1 → H1 p = some (.tup (cutV (ns.map V.int) lo hi)) → Q (.ref p) H1) : rSlA K (.ref a) lo hi H Q := by
  refine ⟨a, _, rfl, st_of ha, fun h => q a H (Ex.refl H) ?_, fun _ p hp => q p _ (Ex.new hp) upd_same⟩
  have e : cutV (ns.map V.int) lo hi = ns.map V.int := by
    unfold cutV
    rw [h.1, h.2, List.drop_zero, Nat.sub_zero, List.take_length]
  rw [e]
  exact ha
theorem mulOk8 {i j : Int} (a0 : -(2 ^ 900) < i) (a1 : i < 2 ^ 900) (b0 : -(2 ^ 900) < j) (b1 : j < 2 ^ 900) : CMulX i j :=
  mulx_ok (nab a0 a1) (nab b0 b1) (by decide)
theorem reprOk8 {i : Int} (a0 : -(2 ^ 900) < i) (a1 : i < 2 ^ 900) : i.natAbs.log2 < 1920 :=
  Nat.lt_of_lt_of_le (PySem.Flt.log2_lt_of (by decide) (nab a0 a1)) (by decide)
theorem divOk8 {i j : Int} (a0 : 0 < j) (a1 : j < 2 ^ 900) : CDivW i j :=
  wide_div a0 (nab (n := 900) (Int.lt_trans (by rw [Int.neg_lt_zero_iff]; exact Int.pow_pos (by decide)) a0) a1) (by decide) (by decide)
/-- a comprehension that copies ints: so far -/
def CP (D : Addr) (ns : List Int) (H : Hp) : Nat → Hp → Prop := fun i H' => H' D = some (.lst ((ns.take i).map V.int)) ∧ Ex H H'
theorem CP.start {D : Addr} {ns : List Int} {H : Hp} (h : H D = none) : CP D ns H 0 (upd H D (.lst [])) := ⟨upd_same, Ex.new h⟩
theorem CP.turn {D : Addr} {ns : List Int} {H H' : Hp} {i : Nat} {n : Int} (h : H D = none) (c : CP D ns H i H') (hn : ns[i]? = some n) (hl : ns.length ≤ 4000) :
    ∃ acc, H' D = some (.lst acc) ∧ acc.length < sizeLine ∧ CP D ns H (i + 1) (upd H' D (.lst (acc ++ [V.int n]))) := by
  refine ⟨_, c.1, sz_lt (by simp; omega), ?_, c.2.mut h⟩
  rw [upd_same, List.take_add_one, hn, List.map_append]
  rfl
theorem CP.done {D : Addr} {ns : List Int} {H H' : Hp} (c : CP D ns H (ns.map V.int).length H') : H' D = some (.lst (ns.map V.int)) ∧ Ex H H' := by
  have := c.1
  rw [List.length_map, List.take_length] at this
  exact ⟨this, c.2⟩

/-! ### the same rules with the written part named: within a comprehension's block -/
section
variable {X : Cx} {K : PySem.W.Frag}
theorem sl_listK (h : X.K = K := by rfl) : SlR X (rSlM K) := by subst h; exact sl_listM
theorem ix_listK (h : X.K = K := by rfl) : IxR X (rIx1 K) := by subst h; exact ix_listM
theorem ix_tupK (h : X.K = K := by rfl) : IxR X (rIxT K) := by subst h; exact ix_tup
theorem sl_tupK (h : X.K = K := by rfl) : SlR X (rSlA K) := by subst h; exact sl_tupA
theorem op_inK (h : X.K = K := by rfl) : OpR X (compareOp .In) (rIn K false) := by subst h; exact op_in_seq
theorem op_notInK (h : X.K = K := by rfl) : OpR X (compareOp .NotIn) (rIn K true) := by subst h; exact op_notIn_seq
theorem op_eqK (hu : X.A.units + 64 < cLine) (h : X.K = K := by rfl) : OpR X (compareOp .Eq) (rEqD K) := by subst h; exact op_eqD hu
theorem op_neK (hu : X.A.units + 64 < cLine) (h : X.K = K := by rfl) : OpR X (compareOp .NotEq) (rNeD K) := by subst h; exact op_neD hu
def rLenK (K : PySem.W.Frag) : List V → Hp → VK → Prop := fun xs H Q => ∃ p ys, xs = [.ref p] ∧ (SqL K H p ys ∨ SqT K H p ys) ∧ Q (.int ys.length) H
theorem call_lenK (h : X.K = K := by rfl) : CallR X (.builtin "len") (rLenK K) := by subst h; exact call_len_seq
end
theorem inInts {z : Int} : ∀ {ms : List Int}, inV (.int z) (ms.map V.int) = decide (z ∈ ms)
  | [] => rfl
  | m :: ms => by
    unfold inV
    rw [List.map_cons, List.any_cons]
    have ih : (List.map V.int ms).any (fun y => eqV y (.int z)) = decide (z ∈ ms) := inInts
    rw [ih]
    show ((m == z) || decide (z ∈ ms)) = decide (z ∈ m :: ms)
    by_cases h1 : m = z
    · subst h1; simp
    · have h2 : ¬ z = m := fun e => h1 e.symm
      simp [h1, h2]
theorem flatInts : ∀ ms : List Int, (ms.map V.int).all flatV = true
  | [] => rfl
  | m :: ms => by rw [List.map_cons, List.all_cons, flatInts ms]; rfl
end My
set_option Elab.async false
set_option linter.all false
set_option maxRecDepth 100000
set_option maxHeartbeats 4000000
/-! enumerate over a list or a tuple; isinstance by a tuple of types -/
namespace My
open PySem PySem.Spec PyProof.Rows L2 Evl
theorem enumNew1 {v : Value} {o : Obj} {J : Heap → Prop} (B : Begins v o J) :
    Meets (Builtin.«enumerate.__new__» ⟨[.type "enumerate", v], []⟩) (fun _ R s => J s.heap ∧
      R (.ok (.ret (.ref (s.heap.push o).objs.size))) { s with heap := (s.heap.push o).push { cls := .type "enumerate", data := .fields #[.none, .bool false, .ref s.heap.objs.size, rawInt 0, .none, .none] } }) :=
  .of_wp fun prog w A R s h => by
    obtain ⟨hp, g, d, tk, os⟩ := s; obtain ⟨h1, h⟩ := h
    have hsub := sub_enumerate
    have it1 : ∀ {A' : Around} {E : Value → Shared → Prop} {Q : Value → Shared → Prop}, Q (.ref hp.objs.size) ⟨hp.push o, g, d, tk, os⟩ → wpAny (model prog w) A' (pyIter v) Q E ⟨hp, g, d, tk, os⟩ :=
      fun q => B.iter prog w _ _ ⟨hp, g, d, tk, os⟩ _ h1 q
    wp_walk using it1
    refine wpAny_stack_any fun st => wpAny_pure ?_
    split
    · rename_i c _ _ _ _ _
      cases (c == Value.type "enumerate") <;> (wp_walk using it1; exact ⟨_, rfl, h⟩)
    · wp_walk using it1
      exact ⟨_, rfl, h⟩
section
variable {prog : Program} {w : World} {A : Around} {E : Value → Shared → Prop} {s : Shared}
theorem enumCall {v : Value} {o : Obj} {J : Heap → Prop} {Q : Value → Shared → Prop} (B : Begins v o J) (h1 : J s.heap)
    (h : ∀ h', IsEnum h' (s.heap.objs.size + 1) s.heap.objs.size 0 .none → h'.get? s.heap.objs.size = some o → h'.objs.size = s.heap.objs.size + 2 →
      (∀ b u, s.heap.get? b = some u → h'.get? b = some u) → Q (.ref (s.heap.objs.size + 1)) { s with heap := h' }) :
    wpAny (model prog w) A (call (.type "enumerate") [v]) Q E s := by
  refine callType_new F.called_enumerate (by decide) (F.typeCall_enumerate_1 _) (F.newCall_enumerate_1 _) (fun obj => F.args_object_init_2 obj _) F.entry_enumerate_new (enumNew1 B) ⟨h1, ?_⟩
  have hz : (s.heap.push o).objs.size = s.heap.objs.size + 1 := Heap.size_push ..
  show _ ∧ _
  rw [hz]
  have he : IsEnum ((s.heap.push o).push { cls := .type "enumerate", data := .fields #[.none, .bool false, .ref s.heap.objs.size, rawInt 0, .none, .none] }) (s.heap.objs.size + 1) s.heap.objs.size 0 .none := by
    have q := Heap.get?_push_size (s.heap.push o) (o := { cls := .type "enumerate", data := .fields #[.none, .bool false, .ref s.heap.objs.size, rawInt 0, .none, .none] }) rfl
    rw [hz] at q; exact q
  exact ⟨⟨_, he, rfl⟩, h _ he (Heap.get?_push_of_some _ (Heap.get?_push_size _ B.free)) (by rw [Heap.size_push, hz]) fun b u x => Heap.get?_push_of_some _ (Heap.get?_push_of_some _ x)⟩
end
/-- the tuple at a, each item in a new pair -/
def IteT (K : PySem.W.Frag) (a : Addr) : It :=
  ⟨fun i H => ∃ (xs : List V) (x : V), SqT K H a xs ∧ xs[i]? = some x, fun i H v H' => ∃ T x, v = .ref T ∧ H T = none ∧ H' = upd H T (.tup [.int (i : Nat), x]) ∧ ∀ xs, SqT K H a xs → xs[i]? = some x, fun i H => ∃ xs : List V, SqT K H a xs ∧ xs.length ≤ i⟩
theorem turn_enumT {P : Program} {w : World} {K : PySem.W.Frag} {elts : List Expr} {kk : Nat} {tpos : Pos} (a e it : Addr) :
    Turn P w K (.Tuple elts kk tpos) (IteT K a) [e, it] e (fun i h => (∃ old, IsEnum h e it ((i : Nat) : Int) old) ∧ h.IsTupleIter it a i ∧ e ≠ it ∧ a ≠ it ∧ a ≠ e) where
  mem := by simp
  obj := fun i h at0 b hb => by
    obtain ⟨⟨old, hen⟩, ⟨o, ho, hc, hd⟩, _⟩ := at0
    have which : b = e ∨ b = it := by simpa using hb
    rcases which with z | z
    · rw [z]; exact ⟨_, hen, fun v q => nomatch q⟩
    · rw [z]; exact ⟨o, ho, fun v q => by rw [hd] at q; cases q⟩
  keep := fun i h h' at0 k => let ⟨⟨old, hen⟩, hi, hne⟩ := at0; ⟨⟨old, k e (by simp) _ hen⟩, hi.at fun o q => k it (by simp) o q, hne⟩
  item := by
    intro X hP hw hK hc i pins s σ H E I own at0 more
    subst hP hw hK
    obtain ⟨⟨old, hen⟩, hir, hne, hai, hae⟩ := at0
    obtain ⟨xs, x, seq, hx⟩ := more
    obtain ⟨us2, rels, p, hz⟩ := I.tuple seq
    obtain ⟨u, hu, ru⟩ := rels.get hx
    have enl : e < s.heap.objs.size := Heap.lt_size hen
    have irl : it < s.heap.objs.size := by obtain ⟨_, q, _⟩ := hir; exact Heap.lt_size q
    have ht : s.heap.IsTuple a us2.toArray := p
    have hi : i < us2.toArray.size := by
      have := (List.getElem?_eq_some_iff.mp hu).1
      simpa using this
    refine wpAny_pyNext_enum_itemD (Draws.tuple (A := X.A.in1) (I.ok.hd hc) it a hai us2.toArray) hen ⟨hir, ht⟩ hi hne (by simp [hne, Ne.symm hae]) fun y h' tk hP ho hS hT hsz kept => ?_
    have ey : y = u := by
      have h1 : us2.toArray[i]? = some y := hP
      have h2 : us2.toArray[i]? = some u := by simpa using hu
      rw [h1] at h2; exact Option.some.inj h2
    subst ey
    refine ⟨_, rfl, wpAny_letOwnedTupleGo_enum (s := { s with heap := h', toks := tk + 1 }) ho fun h'' he' same => ?_⟩
    have hT2 : h''.get? s.heap.objs.size = some { cls := .type "tuple", data := .seq #[.int i tk, y] } := (same.2 _ (Nat.ne_of_gt enl)).trans hT
    have new : ObjOk X.prog X.w (upd H s.heap.objs.size (.tup [.int (i : Nat), x])) h'' s.heap.objs.size (.tup [.int (i : Nat), x]) :=
      ⟨by show 2 ≤ sizeLine; decide, [.int i tk, y], .cons ⟨_, rfl⟩ (.cons ru .nil), ⟨_, hT2, rfl, _, rfl⟩⟩
    have J1 : Inv X pins σ (upd H s.heap.objs.size (.tup [.int (i : Nat), x])) { s with heap := h'', toks := tk + 1 } :=
      I.turnedNew (ch := [e, it]) (fun b ob hb q => (same.2 b (fun z => hb (by simp [z]))).trans (kept b ob (fun z => hb (by simp [z])) (fun z => hb (by simp [z])) q)) own (Nat.le_refl _) new
    refine ⟨.ref s.heap.objs.size, _, J1, rfl, ⟨_, x, rfl, I.hok.fresh (Nat.le_refl _), rfl, fun ys hy => by rw [I.tuple_inj hy seq]; exact hx⟩, ⟨⟨y, ?_⟩, hS.1.at fun o q => (same.2 it (Ne.symm hne)).trans q, hne, hai, hae⟩, fun b hb => ?_⟩
    · have e1 : ((i + 1 : Nat) : Int) = (i : Int) + 1 := by omega
      rw [e1]; exact he'
    · have hb' : b < s.heap.objs.size := by
        have which : b = e ∨ b = it := by simpa using hb
        rcases which with z | z
        · rw [z]; exact enl
        · rw [z]; exact irl
      rw [upd_ne (Nat.ne_of_lt hb')]
      exact (own b hb).1
  done := by
    intro X hP hw hK hc i pins s σ H E I own at0 more
    subst hP hw hK
    obtain ⟨⟨old, hen⟩, hir, hne, hai, hae⟩ := at0
    obtain ⟨xs, seq, hx⟩ := more
    obtain ⟨us2, rels, p, hz⟩ := I.tuple seq
    obtain ⟨f0, f1, f2, f3, f4, f5⟩ := own it (by simp)
    have hl := rels.length
    have hT : s.TypeIs (.ref e) "enumerate" := ⟨_, hen, rfl⟩
    unfold pyNext
    refine wpAny_bind (wpAny_attempt (wpAny_callSpecial?_slot (name := Str.ofString "__next__") hT F.slot_enumerate_next
      (wpAny_call_entry F.slot_enumerate_next hT F.entry_enumerate_next ?_ (F.args_enumerate_next_1 _))))
    show wpAny _ _ (field (.ref e) 2 >>= _) _ _ _
    refine wpAny_bind (wpAny_field hen rfl (x := .ref it) rfl ?_)
    refine wpAny_bind (wpAny_nextOf_tuple_end (I.ok.hd hc) hir (show s.heap.IsTuple a us2.toArray from p) (by simp; omega) fun h' x he' hx' => ?_)
    obtain ⟨o, ho, hc⟩ := hx'
    refine wpAny_bind (wpAny_isInstance (T := "StopIteration") (b := true) ⟨o, ho, hc⟩ isSubtype_stop ?_)
    exact wpAny_pure ⟨rfl, I.turned (t' := s.toks) (fun b o hb q => he' b o hb q) f0 f1 f3 f4 f5⟩
  self := fun A i s Q E at0 h => let ⟨⟨_, hen⟩, _⟩ := at0; wpAny_pyIter_enum hen h
/-- enumerate of a list or a tuple -/
def iEnumX (K : PySem.W.Frag) (ta : TA) : TI := fun σ H R => ta σ H fun vs H1 => ∃ a, vs = [.ref a] ∧ (((∃ xs, SqL K H1 a xs) ∧ R (Ite K a) H1) ∨ ((∃ xs, SqT K H1 a xs) ∧ R (IteT K a) H1))
theorem pi_enumX {X : Cx} {e : Expr} {ta : TA} {p pos tpos : Pos} {elts : List Expr} {kk : Nat} (more : Gl X "enumerate") (hm : X.mg "enumerate" = none) (ha : PA X [e] ta) (hs : starEach [e] X.env = [(false, eval e X.env)] := by rfl) :
    PI X (.Tuple elts kk tpos) (.Call (.Name "enumerate" p) [e] [] pos) (iEnumX X.K ta) := by
  refine ⟨fun pins s σ H R I h => ?_⟩
  refine Call_ (ld_blt I more hm boot_enumerate (PyProof.Rows.callWith_type1 (thn (ha.run pos pins s σ H _ I h) fun us s1 ⟨vs, H1, J1, r1, q1⟩ => ?_) hs rfl))
  obtain ⟨a, ex, q⟩ := q1
  subst ex
  cases r1 with
  | cons r rr =>
    cases rr
    cases r
    have fps : ∀ b ∈ [s1.heap.objs.size + 1, s1.heap.objs.size], FpOk X pins H1 b := fun b hb => by
      have which : b = s1.heap.objs.size + 1 ∨ b = s1.heap.objs.size := by simpa using hb
      have high : s1.heap.objs.size ≤ b := by
        rcases which with z | z
        · rw [z]; exact Nat.le_add_right _ _
        · rw [z]; exact Nat.le_refl _
      exact J1.fpOk high (J1.hok.fresh high)
    rcases q with ⟨⟨xs, seq⟩, q⟩ | ⟨⟨xs, seq⟩, q⟩
    · obtain ⟨us2, rels, p', hz⟩ := J1.list seq
      refine call_enumerate_list p'.isList fun h' hen hir hsz kept => wpAny_pyIter_enum hen ?_
      exact ⟨s1.heap.objs.size + 1, [s1.heap.objs.size + 1, s1.heap.objs.size], _, _, H1, rfl, J1.kept (t' := s1.toks) kept, turn_enum a (s1.heap.objs.size + 1) s1.heap.objs.size, ⟨⟨.none, hen⟩, hir, Nat.succ_ne_self _⟩, fps, q⟩
    · obtain ⟨us2, rels, p', hz⟩ := J1.tuple seq
      have ht : s1.heap.IsTuple a us2.toArray := p'
      have hal : a < s1.heap.objs.size := by obtain ⟨o, q1, _⟩ := ht; exact Heap.lt_size q1
      refine enumCall (begins_tuple a us2.toArray) ht fun h' hen hir hsz kept => wpAny_pyIter_enum hen ?_
      exact ⟨s1.heap.objs.size + 1, [s1.heap.objs.size + 1, s1.heap.objs.size], _, _, H1, rfl, J1.kept (t' := s1.toks) kept, turn_enumT a (s1.heap.objs.size + 1) s1.heap.objs.size, ⟨⟨.none, hen⟩, ⟨_, hir, rfl, rfl⟩, Nat.succ_ne_self _, Nat.ne_of_lt hal, Nat.ne_of_lt (Nat.lt_succ_of_lt hal)⟩, fps, q⟩
/-- isinstance(x, (t1, t2)): types that are built in -/
def rIsi2 : List V → Hp → VK → Prop
  | [x, .ref tp], H, Q => ∃ n m t b c, H tp = some (.tup [.ty n, .ty m]) ∧ vty H x = some t ∧ kitB t n = some b ∧ kitB t m = some c ∧ Q (.bl (b || c)) H
  | _, _, _ => False
theorem call_isi2 {X : Cx} : CallR X (.builtin "isinstance") rIsi2 := by
  intro pins s σ H xs us Q I r h
  unfold rIsi2 at h
  split at h
  · obtain ⟨n, m, t, b, c, h0, h1, h2, h3, q⟩ := h
    refine call_isiT pins s σ H _ us Q I r ⟨_, _, _, _, [.type n, .type m], b || c, rfl, h0, .cons (.ty _) (.cons (.ty _) .nil), tyX_of h1, ?_, q⟩
    refine kitAny_cons (kit_ty h2) (fun e => ?_) (fun e => by rw [e]; rfl)
    rw [e, Bool.false_or]
    exact kitAny_cons (kit_ty h3) (fun e => by rw [e]; exact kitAny_nil) fun e => e
  · exact h.elim
theorem kb10 : kitB "list" "tuple" = some false := by decide +kernel
theorem kb11 : kitB "tuple" "list" = some false := by decide +kernel
theorem kb12 : kitB "tuple" "tuple" = some true := by decide +kernel
theorem kb13 : kitB "int" "list" = some false := by decide +kernel
theorem kb14 : kitB "int" "tuple" = some false := by decide +kernel
theorem kb15 : kitB "NoneType" "list" = some false := by decide +kernel
theorem kb16 : kitB "NoneType" "tuple" = some false := by decide +kernel
theorem kb17 : kitB "str" "list" = some false := by decide +kernel
theorem kb18 : kitB "str" "tuple" = some false := by decide +kernel
theorem kb19 : kitB "bool" "list" = some false := by decide +kernel
theorem kb20 : kitB "bool" "tuple" = some false := by decide +kernel
theorem for_enumL {K : PySem.W.Frag} {a : Addr} {xs : List V} {g : TG} {tb : TS} {D : Ends} {σ : L2.St} {H : Hp} (Iv : Nat → L2.St → Hp → Prop) (h0 : Iv 0 σ H) (holds : ∀ i σ H, i ≤ xs.length → Iv i σ H → SqL K H a xs)
    (turns : ∀ i x σ H T, xs[i]? = some x → Iv i σ H → H T = none → g (.ref T) σ (upd H T (.tup [.int (i : Nat), x])) fun σ2 H2 => tb { D with nx := Iv (i + 1), ct := Iv (i + 1), bk := D.nx } σ2 H2) (fin0 : ∀ σ H, Iv xs.length σ H → D.nx σ H) :
    ∃ W : Nat → Nat → L2.St → Hp → Prop, (∃ m, W 0 m σ H) ∧ ∀ i m σ H, W i m σ H →
      ((Ite K a).stop i H ∧ D.nx σ H) ∨ ((Ite K a).go i H ∧ ∃ N : L2.St → Hp → Prop, (∀ σ' H', N σ' H' → ∃ m', m' < m ∧ W (i + 1) m' σ' H') ∧ ∀ x H', (Ite K a).yld i H x H' → g x σ H' fun σ2 H2 => tb { D with nx := N, ct := N, bk := D.nx } σ2 H2) := by
  refine ⟨fun i m σ H => m = xs.length - i ∧ i ≤ xs.length ∧ Iv i σ H, ⟨xs.length, by simp, Nat.zero_le _, h0⟩, ?_⟩
  rintro i m σ H ⟨rfl, ile, now⟩
  have seen := holds i σ H ile now
  by_cases lt : i < xs.length
  · refine .inr ⟨⟨xs, xs[i], seen, by simp [lt]⟩, Iv (i + 1), fun σ' H' now2 => ⟨xs.length - (i + 1), by omega, rfl, lt, now2⟩, fun x H' y => ?_⟩
    obtain ⟨T, z, e, hT, e2, y⟩ := y
    subst e e2
    exact turns i z σ _ T (y xs seen) now hT
  · have e : i = xs.length := by omega
    subst e
    exact .inl ⟨⟨xs, seen, Nat.le_refl _⟩, fin0 σ H now⟩
theorem for_enumT {K : PySem.W.Frag} {a : Addr} {xs : List V} {g : TG} {tb : TS} {D : Ends} {σ : L2.St} {H : Hp} (Iv : Nat → L2.St → Hp → Prop) (h0 : Iv 0 σ H) (holds : ∀ i σ H, i ≤ xs.length → Iv i σ H → SqT K H a xs)
    (turns : ∀ i x σ H T, xs[i]? = some x → Iv i σ H → H T = none → g (.ref T) σ (upd H T (.tup [.int (i : Nat), x])) fun σ2 H2 => tb { D with nx := Iv (i + 1), ct := Iv (i + 1), bk := D.nx } σ2 H2) (fin0 : ∀ σ H, Iv xs.length σ H → D.nx σ H) :
    ∃ W : Nat → Nat → L2.St → Hp → Prop, (∃ m, W 0 m σ H) ∧ ∀ i m σ H, W i m σ H →
      ((IteT K a).stop i H ∧ D.nx σ H) ∨ ((IteT K a).go i H ∧ ∃ N : L2.St → Hp → Prop, (∀ σ' H', N σ' H' → ∃ m', m' < m ∧ W (i + 1) m' σ' H') ∧ ∀ x H', (IteT K a).yld i H x H' → g x σ H' fun σ2 H2 => tb { D with nx := N, ct := N, bk := D.nx } σ2 H2) := by
  refine ⟨fun i m σ H => m = xs.length - i ∧ i ≤ xs.length ∧ Iv i σ H, ⟨xs.length, by simp, Nat.zero_le _, h0⟩, ?_⟩
  rintro i m σ H ⟨rfl, ile, now⟩
  have seen := holds i σ H ile now
  by_cases lt : i < xs.length
  · refine .inr ⟨⟨xs, xs[i], seen, by simp [lt]⟩, Iv (i + 1), fun σ' H' now2 => ⟨xs.length - (i + 1), by omega, rfl, lt, now2⟩, fun x H' y => ?_⟩
    obtain ⟨T, z, e, hT, e2, y⟩ := y
    subst e e2
    exact turns i z σ _ T (y xs seen) now hT
  · have e : i = xs.length := by omega
    subst e
    exact .inl ⟨⟨xs, seen, Nat.le_refl _⟩, fin0 σ H now⟩
end My
set_option Elab.async false
set_option linter.all false
set_option maxRecDepth 100000
set_option maxHeartbeats 4000000
/-! own errors with one field: made and raised, caught, asked for their classes -/
namespace My
open PySem PySem.Spec PyProof.Rows L2 Evl
/-- what the written part says of an own error class x at C whose __init__ at fI keeps the field f -/
structure ErrX (K : PySem.W.Frag) (mg : Str → Option Value) (x f : Str) (C fI : Addr) : Prop where
  g : mg x = some (.ref C)
  oex : OexC K C
  iC : PySem.W.findIn K (.ref C) "__init__" = some (some (.ref fI))
  tI : PySem.W.typeIn K (.ref fI) = some (.type "function")
  xf : XfC K C
  noF : PySem.W.findIn K (.ref C) f = some none
  te : PySem.W.exmOne K (.ref C) (.ref C) = some true
  isC : (PySem.W.clsIn K C).isSome = true
  ha : PySem.W.findIn K (.ref C) "__class__" = some (some (.builtin "object.__class__"))
  hn : PySem.W.specialIn K (.builtin "object.__class__") "__get__" = some (some (.builtin "getset_descriptor.__get__"))
  ht : PySem.W.takesIn K (.builtin "object.__class__") = some true
  hm : PySem.W.mroIn K C (.type "object") = some true
/-- self.f = v -/
def spInit (K : PySem.W.Frag) (f : Str) : Sp
  | [.ref a, v], H, Q, _ => ∃ C, OexC K C ∧ PySem.W.findIn K (.ref C) f = some none ∧ H a = some (exo a C none) ∧ ∀ dx, H dx = none → dx ≠ a → Q .non (upd (upd H dx (exd dx [(f, v)])) a (exo a C (some dx)))
  | _, _, _, _ => False
/-- the making of an error, by what its __init__ promises -/
theorem mkErr {K : PySem.W.Frag} {C : Addr} {f : Str} {v : V} {H : Hp} {Q : XK} (T : OexC K C) (hf : PySem.W.findIn K (.ref C) f = some none) (q : ∀ d, H d = none → Q (.ref C) (some d) (upd H d (.xd [(f, v)]))) :
    [v].length ≤ 1000 ∧ ∀ a, H a = none → spInit K f (.ref a :: ([v] ++ [])) (upd H a (exo a C none))
      (fun u H2 => u = .non ∧ ∃ (d : Addr) (fs : List (Str × V)), H2 a = some (exo a C (some d)) ∧ H2 d = some (exd d fs) ∧ H d = none ∧ Q (.ref C) (some d) (upd (del H2 a) d (.xd fs))) (fun _ _ _ => False) := by
  refine ⟨by simp, fun a ha => ⟨C, T, hf, upd_same, fun dx hd hne => ⟨rfl, dx, [(f, v)], upd_same, ?_, ?_, ?_⟩⟩⟩
  · rw [upd_ne hne, upd_same]
  · rw [upd_ne hne] at hd; exact hd
  · have hd0 : H dx = none := by rw [upd_ne hne] at hd; exact hd
    have e : upd (del (upd (upd (upd H a (exo a C none)) dx (exd dx [(f, v)])) a (exo a C (some dx))) a) dx (.xd [(f, v)]) = upd H dx (.xd [(f, v)]) := by
      funext b
      by_cases hb : b = dx
      · rw [hb, upd_same, upd_same]
      · rw [upd_ne hb, upd_ne hb]
        by_cases hba : b = a
        · rw [hba, del_same, ha]
        · rw [del_ne hba, upd_ne hba, upd_ne hb, upd_ne hba]
    rw [e]
    exact q dx hd0
section
variable {X : Cx} {C a : Addr} {oe : Obj} {cls : Value} {d : Option Addr} {pn : List (Addr × Obj)}
/-- isinstance(e, (c1, c2)), e the error that the suite holds -/
def rIsE2 (K : PySem.W.Frag) (C a : Addr) (cls : Value) (d : Option Addr) : List V → Hp → VK → Prop := fun xs H Q => ∃ (tp dd : Addr) (fs : List (Str × V)) (c1 c2 : Addr) (b : Bool),
  xs = [.ref a, .ref tp] ∧ cls = .ref C ∧ d = some dd ∧ H dd = some (.xd fs) ∧ H tp = some (.tup [.ref c1, .ref c2]) ∧ PySem.W.kitAny K (.ref C) [.ref c1, .ref c2] = some b ∧ Q (.bl b) H
theorem call_isE2 {x f : Str} {fI : Addr} (T : ErrX X.K X.mg x f C fI) (hz : Zc cls d oe) (hf : ∃ vs, oe.data = .fields vs) : CallR (X.suite a ((a, oe) :: pn)) (.builtin "isinstance") (rIsE2 X.K C a cls d) := by
  intro pins s σ H xs us Q I r h
  obtain ⟨tp, dd, fs, c1, c2, b, rfl, ec, ed, hdd, hT, e, q⟩ := h
  subst ec ed
  obtain ⟨u1, u2, rfl, r1, r2⟩ := vals2 r
  obtain rfl : u1 = Value.ref a := r1
  obtain rfl : u2 = Value.ref tp := r2
  obtain ⟨hget, _⟩ := I.pin (a, oe) (List.mem_append.mpr (.inl List.mem_cons_self))
  obtain ⟨vs, hv⟩ := hf
  obtain ⟨mA, hns, _⟩ := (show ObjOk X.prog X.w H s.heap dd (.xd fs) from I.hok dd _ hdd)
  obtain ⟨od, ho, _⟩ := lookIn_ns hns
  have J : PySem.W.InstAt s.heap a oe C (some od) := ⟨hget, hz.1, by unfold PySem.W.notCls; rw [hv] <;> rfl, by rw [hz.2]; exact ho⟩
  obtain ⟨_, its, rv, o, h1, h2, n, h3⟩ := (show ObjOk X.prog X.w H s.heap tp (.tup [.ref c1, .ref c2]) from I.hok tp _ hT)
  obtain ⟨oc, od', dt, sl⟩ := o
  simp only at h2 h3
  subst h2 h3
  obtain ⟨w1, w2, rfl, q1, q2⟩ := vals2 rv
  obtain rfl : w1 = Value.ref c1 := q1
  obtain rfl : w2 = Value.ref c2 := q2
  exact PySem.W.kia_tup (PySem.W.kitx_exc T.isC T.xf.ga T.xf.gg T.xf.exC T.ha T.hn T.ht T.hm) I.kIn J h1 e (fun z => nomatch z) fun tk => ⟨.bl b, H, I.tok tk, rfl, q⟩
end
end My
set_option Elab.async false
set_option linter.all false
set_option maxRecDepth 100000
set_option maxHeartbeats 4000000
/-! own errors of any chain, made and held as values: their fields, their classes -/
namespace My
open PySem PySem.Spec PyProof.Rows L2 Evl PySem.HandSPX PySem.W
/-- own classes, then this tail -/
def refsTo (tl : List Value) : List Value → Bool
  | .ref _ :: r => refsTo tl r
  | l => l == tl
theorem refsTo_cases (tl : List Value) (l : List Value) (e : refsTo tl l = true) : (∃ c r, l = .ref c :: r ∧ refsTo tl r = true) ∨ l = tl := by
  unfold refsTo at e
  split at e
  · exact .inl ⟨_, _, rfl, e⟩
  · exact .inr (beq_iff_eq.mp e)
/-- a chain of built-in errors that own classes stand over -/
structure TailX (B newId initId : String) (tl bmB : List Value) : Prop where
  F : ExcBaseFacts B newId initId bmB
  cB : tl.contains (.type B) = true
  cA : tl.contains (.type "AttributeError") = false
  cN : tl.contains (.type "NameError") = false
  cO : tl.contains (.type "object") = true
  pass : ∀ self : Value, refuseLoop self "__setattr__" tl = pure ()
theorem tailV : TailX "ValueError" "ValueError.__new__" "ValueError.__init__" [.type "ValueError", .type "Exception", .type "BaseException", .type "object"] [.type "ValueError", .type "Exception", .type "BaseException", .type "object"] :=
  ⟨F.excBase_ValueError, by decide +kernel, by decide +kernel, by decide +kernel, by decide +kernel, fun self => by kernel_rfl⟩
theorem tailI : TailX "IndexError" "IndexError.__new__" "IndexError.__init__" [.type "IndexError", .type "LookupError", .type "Exception", .type "BaseException", .type "object"] [.type "IndexError", .type "LookupError", .type "Exception", .type "BaseException", .type "object"] :=
  ⟨F.excBase_IndexError, by decide +kernel, by decide +kernel, by decide +kernel, by decide +kernel, fun self => by kernel_rfl⟩
theorem tailK : TailX "LookupError" "LookupError.__new__" "LookupError.__init__" [.type "KeyError", .type "LookupError", .type "Exception", .type "BaseException", .type "object"] [.type "LookupError", .type "Exception", .type "BaseException", .type "object"] :=
  ⟨F.excBase_LookupError, by decide +kernel, by decide +kernel, by decide +kernel, by decide +kernel, fun self => by kernel_rfl⟩
section
variable {B newId initId : String} {tl bmB bm : List Value}
theorem refsTo_has (T : refsTo tl bm = true) (X : String) : bm.contains (.type X) = tl.contains (.type X) := by
  induction bm with
  | nil =>
    rcases refsTo_cases _ _ T with ⟨c, r, q, _⟩ | q
    · cases q
    · rw [q]
  | cons a r ih =>
    rcases refsTo_cases _ _ T with ⟨c, r', q, h⟩ | q
    · obtain ⟨rfl, rfl⟩ := List.cons.inj q
      rw [List.contains_cons, ih h]
      rfl
    · rw [q]
theorem refsTo_pass (Y : TailX B newId initId tl bmB) (T : refsTo tl bm = true) (self : Value) : refuseLoop self "__setattr__" bm = pure () := by
  induction bm with
  | nil =>
    rcases refsTo_cases _ _ T with ⟨c, r, q, _⟩ | q
    · cases q
    · rw [q]; exact Y.pass self
  | cons a r ih =>
    rcases refsTo_cases _ _ T with ⟨c, r', q, h⟩ | q
    · obtain ⟨rfl, rfl⟩ := List.cons.inj q
      rw [refuseLoop_ref]
      exact ih h
    · rw [q]; exact Y.pass self
end
/-! ### the making -/
section
variable {M : Model} {A : Around} {E : Value → Shared → Prop} {hh : Heap} {gs : Array GenState} {dr : Drawn} {tk : Nat} {os : OsState}
variable {nm qn : Str} {C N : Addr} {bs bm bmB tl : List Value} {hd : Bool} {sn : List Str} {sub : List Value} {ab : Bool} {col : Option Bool} {dd : Option Addr} {k0 k1 k2 k3 k5 : Option Value} {B newId initId : String}
theorem chkNew (Y : TailX B newId initId tl bmB) (T : refsTo tl bm = true) {us : List Value} {Q : Unit → Shared → Prop}
    (cl : hh.get? C = some (excClassObj nm qn C N bs bm hd sn sub ab col dd k0 k1 k2 k3 k5 newId)) (q : Q () ⟨hh, gs, dr, tk, os⟩) : wpAny M A (checkBuiltinCall newId ⟨.ref C :: us, []⟩) Q E ⟨hh, gs, dr, tk, os⟩ := by
  have has : (Value.ref C :: bm).contains (.type B) = true := by rw [List.contains_cons, refsTo_has T, Y.cB, Bool.or_true]
  have st := Y.F.noStar
  simp only [checkBuiltinCall, Y.F.newKind, Y.F.newSplit, Y.F.newRow]
  repeat (first | refine wpAny_loadPart_at cl ?_ | (refine wpAny_isSubtype_exc cl ?_; rw [has]) | refine wpAny_staticBase_exc cl ?_ | refine wpAny_madeBy_exc cl ?_ | simp only [bne_self_eq_false, Bool.false_eq_true, if_false] | wp_step)
  exact q
end
section
variable {prog : Program} {w : World} {A : Around} {E : Value → Shared → Prop} {R : Result → Shared → Prop} {hh : Heap} {gs : Array GenState} {dr : Drawn} {tk : Nat} {os : OsState}
variable {nm qn : Str} {C N : Addr} {bs bm bmB tl : List Value} {hd : Bool} {sn : List Str} {sub : List Value} {ab : Bool} {col : Option Bool} {dd : Option Addr} {k0 k1 k2 k3 k5 : Option Value} {B newId initId : String}
theorem newX (Y : TailX B newId initId tl bmB) (T : refsTo tl bm = true) {us : List Value}
    (cl : hh.get? C = some (excClassObj nm qn C N bs bm hd sn sub ab col dd k0 k1 k2 k3 k5 newId))
    (q : R (.ok (.ret (.ref (hh.objs.size + 1)))) ⟨(hh.push (kdv_tup us)).push (excO C hh.objs.size), gs, dr, tk, os⟩) (hu : us.length ≤ sizeLine) :
    codeAny (model prog w) A (.builtin newId ⟨.ref C :: us, []⟩) R ⟨hh, gs, dr, tk, os⟩ := by
  have en := Y.F.ends
  have xB : (Value.ref C :: bm).contains (.type B) = true := by rw [List.contains_cons, refsTo_has T, Y.cB, Bool.or_true]
  have xA : (Value.ref C :: bm).contains (.type "AttributeError") = false := by rw [List.contains_cons, refsTo_has T, Y.cA]; rfl
  have xN : (Value.ref C :: bm).contains (.type "NameError") = false := by rw [List.contains_cons, refsTo_has T, Y.cN]; rfl
  refine codeAny_builtinAt Y.F.entry ?_
  unfold Builtin.«BaseException.__new__»
  refine PySem.wpAt_bind ?_
  show PySem.wpAt _ _ _ (stack >>= _) _ _ _
  refine PySem.wpAt_bind (PySem.wpAt_stack fun p below => PySem.wpAt_of_wpAny ?_)
  wp_walk
  refine PySem.wpAt_of_wpAny ?_
  rw [Y.F.owner]
  repeat (first | with_reducible refine wpAny_madeHere_exc Y.F.canon cl ?_ | with_reducible refine wpAny_loadPart_at cl ?_ | (with_reducible refine wpAny_isSubtype_exc cl ?_; first | rw [xB] | rw [xA] | rw [xN]) | wp_step)
  show R _ _
  rw [Heap.size_push]
  exact q
theorem typeCallX (Y : TailX B newId initId tl bmB) (T : refsTo tl bm = true) {us : List Value} {fI : Addr} {Q : Fin → Shared → Prop}
    (cl : hh.get? C = some (excClassObj nm qn C N bs bm hd sn sub ab col dd k0 k1 k2 k3 k5 newId))
    (hi : Looks (model prog w) hh (typeLookup (.ref C) "__init__") (some (.ref fI))) (hb : ∀ self, Looks (model prog w) hh (bindSpecial (.ref fI) self) (.ref fI, [self])) (hu : us.length ≤ sizeLine)
    (q : codeAny (model prog w) A (.call (.ref fI) ⟨.ref (hh.objs.size + 1) :: us, []⟩)
      (fun r s2 => match r with | .ok (.ret v) => v = .none ∧ Q (.done (.ret (.ref (hh.objs.size + 1)))) s2 | .ok _ => False | .error e => E e s2)
      ⟨(hh.push (kdv_tup us)).push (excO C hh.objs.size), gs, dr, tk, os⟩) :
    wpAny (model prog w) A (Builtin.«type.__call__» ⟨.ref C :: us, []⟩) Q E ⟨hh, gs, dr, tk, os⟩ := by
  repeat (first | with_reducible refine wpAny_loadPart_at cl ?_ | with_reducible refine wpAny_madeBy_exc cl ?_ | wp_step)
  refine codeAny_call_builtin_code (Code.quiet_builtin _ Y.F.quiet) (chkNew Y T cl ?_)
  refine newX Y T cl ?_ hu
  show wpAny _ _ _ _ _ _
  have kk : ∀ b o, hh.get? b = some o → ((hh.push (kdv_tup us)).push (excO C hh.objs.size)).get? b = some o := fun b o e => Heap.get?_push_of_some _ (Heap.get?_push_of_some _ e)
  have cl1 := kk _ _ cl
  have ge : ((hh.push (kdv_tup us)).push (excO C hh.objs.size)).get? (hh.objs.size + 1) = some (excO C hh.objs.size) := by heap_get
  have cC : (Value.ref C :: bm).contains (.ref C) = true := by simp
  have j1 := hi.keeps kk
  have j2 := (hb (.ref (hh.objs.size + 1))).keeps kk
  unfold isInstance
  repeat (first | with_reducible refine wpAny_loadPart_at ge ?_ | (with_reducible refine wpAny_isSubtype_exc cl1 ?_; rw [cC]) | wp_step)
  show wpAny _ _ (typeLookup (.ref C) _) _ _ _
  refine j1.at ?_
  refine wpAny_holding (wpAny_bind (j2.at ?_))
  refine wpAny_bind (wpAny_call (codeAny_mono q fun r s2 z => ?_))
  rcases r with e | (v | _ | _ | _) <;> first | exact z | exact z.elim | skip
  obtain ⟨rfl, z⟩ := z
  first
    | exact wpAny_pure (wpAny_pure z)
    | (wp_walk; exact z)
theorem callX (Y : TailX B newId initId tl bmB) (T : refsTo tl bm = true) {us : List Value} {fI : Addr}
    (cl : hh.get? C = some (excClassObj nm qn C N bs bm hd sn sub ab col dd k0 k1 k2 k3 k5 newId))
    (hi : Looks (model prog w) hh (typeLookup (.ref C) "__init__") (some (.ref fI))) (hb : ∀ self, Looks (model prog w) hh (bindSpecial (.ref fI) self) (.ref fI, [self])) (hu : us.length ≤ sizeLine)
    (q : codeAny (model prog w) (A.under (.builtin "type.__call__" ⟨.ref C :: us, []⟩)) (.call (.ref fI) ⟨.ref (hh.objs.size + 1) :: us, []⟩) (InitBack (hh.objs.size + 1) R)
      ⟨(hh.push (kdv_tup us)).push (excO C hh.objs.size), gs, dr, tk, os⟩) :
    codeAny (model prog w) A (.call (.ref C) ⟨us, []⟩) R ⟨hh, gs, dr, tk, os⟩ := by
  have f1 := tc_lookup
  have f2 := tc_bind (.ref C)
  have ty : (⟨hh, gs, dr, tk, os⟩ : Shared).TypeIs (.ref C) "type" := ⟨_, cl, rfl⟩
  refine codeAny_of_tree ?_
  show wpAny _ _ (callAny (.ref C) _) _ _ _
  repeat (any_goals (first | assumption | with_reducible refine wpAny_loadPart_at cl ?_ | wp_step))
  refine ⟨rfl, ?_⟩
  refine codeAny_call_builtin_at (Code.quiet_builtin _ (by decide +kernel)) entry_typeCall (wpAny_check_type_call_sub cl (typeCallX Y T cl hi hb hu ?_))
  refine codeAny_mono q fun r s2 z => ?_
  rcases r with e | (v | _ | _ | _) <;> exact z
open Builtin Builtin.ObjectAttr in
/-- self.name = v on an error that has no dict yet -/
theorem setNewX {K : Frag} {name : Str} {tok : Tok} {v : Value} {x : Addr} {fv : Array Value} {cd : ClassData} (Y : TailX B newId initId tl bmB)
    (X : K.In hh) (hx : hh.get? x = some { cls := .ref C, data := .fields fv }) (hcd : clsIn K C = some cd) (hm : refsTo tl cd.mro = true) (hdc : cd.hasDict = true) (ha : findIn K (.ref C) name = some none)
    (q : ∀ h2 tk2 dx, (∀ b o, b ≠ x → hh.get? b = some o → h2.get? b = some o) → hh.objs.size ≤ dx → dx ≠ x → h2.get? x = some { cls := .ref C, dict := some dx, data := .fields fv } →
      h2.Ns1 dx (fun y => if y = name then some v else none) → R (.ok (.ret .none)) ⟨h2, gs, dr, tk2, os⟩) :
    codeAny (model prog w) A (.call (.builtin "object.__setattr__") ⟨[.ref x, .str name tok, v], []⟩) R ⟨hh, gs, dr, tk, os⟩ := by
  have I : InstAt hh x { cls := .ref C, data := .fields fv } C none := ⟨hx, rfl, rfl, trivial⟩
  have SF := F.store_object
  have ob : cd.mro.contains (.type "object") = true := (refsTo_has hm "object").trans Y.cO
  have ne : cd.mro.isEmpty = false := by
    cases e : cd.mro with
    | nil => rw [e] at ob; cases ob
    | cons _ _ => rfl
  have nx : x ≠ hh.objs.size := Nat.ne_of_lt (Heap.lt_size hx)
  have isO : Looks (model prog w) hh (isInstance (.ref x) (.type "object")) true := I.type.andThen (looks_mroIn X (by unfold mroIn; rw [hcd, Option.bind_some, if_neg (by rw [ne]; decide), ob]))
  refine codeAny_call_builtin SF.slot.plain SF.entry (@check_slot (model prog w) _ _ ⟨hh, gs, dr, tk, os⟩ "object.__setattr__" "object" "__setattr__" (.ref x) [.str name tok, v] [] _ SF.kind SF.split isO (SF.args (.ref x) (.str name tok) v) ?_)
  have mr : Looks (model prog w) hh (mroOf (.ref C)) cd.mro := (looks_clsIn X hcd).andThen .now
  have nt : Looks (model prog w) hh (storeTaker? none) none := .now
  have lc : Looks (model prog w) hh (classData C) cd := looks_clsIn X hcd
  rw [osa_eq, refuse_eq]
  refine wpAny_bind (wpAny_bind (I.type.at (wpAny_bind (mr.at ?_))))
  rw [refsTo_pass Y hm]
  refine wpAny_pure (wpAny_bind (I.type.at (wpAny_bind ((looks_findIn X ha).at (wpAny_bind (nt.at ?_))))))
  show wpAny _ _ (storeInOwnDict (.ref x) (.ref C) (.str name tok) name v false) _ _ _
  obtain ⟨nm', bs', mro', ns', qn', hd', sn', sb', ab', col', del'⟩ := cd
  dsimp only at hdc
  subst hdc
  unfold storeInOwnDict ownDictForStores
  repeat (first | with_reducible refine store_in_new ?_ ?_ | with_reducible refine wpAny_loadPart_at hx ?_ | with_reducible refine lc.at ?_ | wp_step)
  · exact ⟨_, #[], _, (Heap.get?_update_ne _ _ _ _ nx.symm).trans (Heap.get?_push_at rfl rfl), rfl, fun e he => absurd he (by simp), fun _ => rfl⟩
  · intro h2 tk2 hn2 hs
    have x1 : (hh.push { cls := .type "dict", data := .dict #[] }).get? x = some { cls := .ref C, data := .fields fv } := Heap.get?_push_of_some _ hx
    refine q h2 tk2 hh.objs.size (fun b o hb ho => ?_) (Nat.le_refl _) nx.symm ?_ hn2
    · exact (hs.2 b (Nat.ne_of_lt (Heap.lt_size ho))).trans ((Heap.get?_update_ne _ _ _ _ hb).trans (Heap.get?_push_of_some _ ho))
    · exact (hs.2 x nx).trans (Heap.get?_update_self _ x1 rfl)
end

/-! ### the facts of a class of errors -/
structure ErrK (K : PySem.W.Frag) (C : Addr) : Prop where
  cls : ∃ B newId initId tl bmB nm q N bs bm sn sub ab col dd k0 k1 k2 k3 k5, K.lookup C = some (excClassObj nm q C N bs bm true sn sub ab col dd k0 k1 k2 k3 k5 newId) ∧ TailX B newId initId tl bmB ∧ refsTo tl bm = true
  sa : PySem.W.findIn K (.ref C) "__setattr__" = some (some (.builtin "object.__setattr__"))
  ga : PySem.W.findIn K (.ref C) "__getattribute__" = some (some (.builtin "BaseException.__getattribute__"))
  gg : PySem.W.findIn K (.ref C) "__getattr__" = some none
  exC : PySem.W.subIn K (.ref C) (.type "BaseException") = some true
  kC : PySem.W.keepIn K (.ref C) = true
  hdC : PySem.W.hasDictIn K C = true
  isC : (PySem.W.clsIn K C).isSome = true
  ha : PySem.W.findIn K (.ref C) "__class__" = some (some (.builtin "object.__class__"))
  hn : PySem.W.specialIn K (.builtin "object.__class__") "__get__" = some (some (.builtin "getset_descriptor.__get__"))
  ht : PySem.W.takesIn K (.builtin "object.__class__") = some true
  hm : PySem.W.mroIn K C (.type "object") = some true
/-- C keeps the field f, by its __init__ at fI -/
structure ErrF (K : PySem.W.Frag) (f : Str) (C fI : Addr) : Prop where
  k : ErrK K C
  iC : PySem.W.findIn K (.ref C) "__init__" = some (some (.ref fI))
  tI : PySem.W.typeIn K (.ref fI) = some (.type "function")
  noF : PySem.W.findIn K (.ref C) f = some none
/-- self.f = v, in the making -/
def spIniX (K : PySem.W.Frag) (f : Str) : Sp
  | [.ref a, v], H, Q, _ => ∃ C fI, ErrF K f C fI ∧ H a = some (exo a C none) ∧ ∀ dx, H dx = none → dx ≠ a → Q .non (upd (upd H dx (exd dx [(f, v)])) a (exo a C (some dx)))
  | _, _, _, _ => False
/-- an error, held: its dict holds one field, or it has none -/
def ErrO (K : PySem.W.Frag) (C : Addr) (a : Addr) (H : Hp) : Prop := ErrK K C ∧ (H a = some (exo a C none) ∨ ∃ d fs, H a = some (exo a C (some d)) ∧ H d = some (exd d fs))
/-- an error that keeps v in its field f -/
def ErrV (K : PySem.W.Frag) (f : Str) (C : Addr) (v : V) (a : Addr) (H : Hp) : Prop := (∃ fI, ErrF K f C fI) ∧ ∃ d, H a = some (exo a C (some d)) ∧ H d = some (exd d [(f, v)])
theorem ErrV.o {K : PySem.W.Frag} {f : Str} {C : Addr} {v : V} {a : Addr} {H : Hp} (h : ErrV K f C v a H) : ErrO K C a H := by
  obtain ⟨⟨_, F⟩, d, h1, h2⟩ := h
  exact ⟨F.k, .inr ⟨d, _, h1, h2⟩⟩
theorem ErrO.ex {K : PySem.W.Frag} {C : Addr} {a : Addr} {H H' : Hp} (h : ErrO K C a H) (e : Ex H H') : ErrO K C a H' := by
  obtain ⟨k, h | ⟨d, fs, h1, h2⟩⟩ := h
  · exact ⟨k, .inl (e _ _ h)⟩
  · exact ⟨k, .inr ⟨d, fs, e _ _ h1, e _ _ h2⟩⟩
theorem ErrV.ex {K : PySem.W.Frag} {f : Str} {C : Addr} {v : V} {a : Addr} {H H' : Hp} (h : ErrV K f C v a H) (e : Ex H H') : ErrV K f C v a H' := by
  obtain ⟨k, d, h1, h2⟩ := h
  exact ⟨k, d, e _ _ h1, e _ _ h2⟩
section
variable {X : Cx} {pins : List (Addr × Obj)} {σ : L2.St} {H : Hp} {s : Shared}
theorem setNewI {a C : Addr} {f : Str} {y : V} {u : Value} {Q : Unit → Shared → Prop} {E : Value → Shared → Prop} {A : Around} (T : ErrK X.K C) (I : Inv X pins σ H s) (e : H a = some (exo a C none)) (hno : PySem.W.findIn X.K (.ref C) f = some none) (ry : RelV y u)
    (h : ∀ dx s2, H dx = none → dx ≠ a → Inv X pins σ (upd (upd H dx (exd dx [(f, y)])) a (exo a C (some dx))) s2 → Q () s2) : wpAny (model X.prog X.w) A (setAttr (.ref a) f u) Q E s := by
  obtain ⟨B, newId, initId, tl, bmB, nm, q, N, bs, bm, sn, sub, ab, col, dd, k0, k1, k2, k3, k5, hC, hY, hbm⟩ := T.cls
  have hcl : PySem.W.clsIn X.K C = some { name := nm, bases := bs, mro := .ref C :: bm, ns := N, qualname := q, hasDict := true, slotNames := sn, subclasses := sub, abstract := ab, collection := col, hasDel := false } := by unfold PySem.W.clsIn; rw [hC] <;> rfl
  obtain ⟨t1, ho⟩ := exo_at I.hok e
  obtain ⟨hp, g, d, t, os⟩ := s
  refine PySem.W.set_plain I.kIn (ox := { cls := .ref C, dict := none, data := .fields #[.ref t1, .none, .none, .none, .bool false, .none] }) (od := none) ⟨ho, rfl, rfl, trivial⟩ T.sa ?_
  refine setNewX hY I.kIn ho hcl (show refsTo tl (.ref C :: bm) = true from hbm) rfl hno (fun h' tk' dx k dn dne hx hn => ?_)
  have hnd : H dx = none := I.hok.fresh dn
  have nd : ∀ {b : Addr} {o : Obj}, hp.get? b = some o → b ≠ dx := fun {b o} q => Nat.ne_of_lt (Nat.lt_of_lt_of_le (Heap.lt_size q) dn)
  have na : ∀ {b : Addr}, H b = none → b ≠ a := fun {b} n z => by rw [z, e] at n; cases n
  have U : Un X.fs [] H (upd (upd H dx (exd dx [(f, y)])) a (exo a C (some dx))) hp h' := {
    keep := fun b o q n _ _ => k b o (na n) q
    slot := fun b o q n _ _ => ⟨o.slots, k b o (na n) q⟩
    free := fun b o q n _ => by rw [upd_ne (na n), upd_ne (nd q)]; exact n
    there := fun b o q _ => by
      by_cases hb : b = a
      · exact ⟨_, by rw [hb]; exact hx⟩
      · exact ⟨o, k b o hb q⟩
    tups := fun b xs q => by rw [upd_ne (at_ne e q exo_tup), upd_ne (ne_of_none q hnd)]; exact q
    frzs := fun b o v q => by rw [upd_ne (at_ne e q exo_frz), upd_ne (ne_of_none q hnd)]; exact q
    tbls := fun b ps q => ⟨#[], by rw [upd_ne (at_ne e q exo_tbl), upd_ne (ne_of_none q hnd), q]; simp⟩ }
  refine h dx _ hnd dne (I.un (t' := tk') U fun b o q => ?_)
  by_cases hb : b = a
  · subst hb
    rw [upd_same] at q; cases q
    exact exo_ok hx
  · rw [upd_ne hb] at q
    by_cases hd : b = dx
    · subst hd
      rw [upd_same] at q; cases q
      exact exd_ok hn (relO_put (fs := []) ry fun g => True.intro)
    · rw [upd_ne hd] at q
      refine (I.hok b o q).stay (fun c v hc z => k c v ?_ z) (fun c hc => by rw [upd_ne (at_ne e hc exo_own), upd_ne (ne_of_none hc hnd)]; exact hc) (fun c xs hc => by rw [upd_ne (at_ne e hc exo_tup), upd_ne (ne_of_none hc hnd)]; exact hc)
      rcases hc with hc | hc
      · rw [hc]; exact hb
      · exact at_ne e hc exo_own
end
/-- self.f = e, the first field of an error in the making -/
def tOsX (K : PySem.W.Frag) (f : Str) (to te : TE) : TS := fun D σ H => te σ H fun y H1 => to σ H1 fun x H2 => ∃ a C fI : Addr, x = .ref a ∧ ErrF K f C fI ∧ H2 a = some (exo a C none) ∧ ∀ dx, H2 dx = none → dx ≠ a → D.nx σ (upd (upd H2 dx (exd dx [(f, y)])) a (exo a C (some dx)))
theorem ps_osX {X : Cx} {o e : Expr} {to te : TE} {f : Str} {p' pos : Pos} (ho : PE X o to) (he : PE X e te) (hs : swapsWith e (some (.Attribute o f p')) pos.line X.env = pure false := by rfl) : PS X (.Assign [.Attribute o f p'] e pos) (tOsX X.K f to te) := by
  refine ⟨fun pins s σ H D I h => ?_⟩
  refine plainObj_wpAny_Assign_Attribute (thn (he.run pins s σ H _ I h) fun v s1 ⟨y, H1, I1, r1, q1⟩ => thn (ho.run pins s1 σ H1 _ I1 q1) fun u s2 ⟨x, H2, I2, r2, a, C, fI, ex, T, ea, q⟩ => ?_) hs
  subst ex
  obtain rfl : u = Value.ref a := r2
  exact setNewI T.k I2 ea T.noF r1 fun dx s' n ne J => ⟨σ, _, J, q dx n ne⟩
/-- C(v), an error, held -/
def tErr1 (K : PySem.W.Frag) (f : Str) (C : Addr) (ta : TA) : TE := fun σ H Q => ta σ H fun vs H1 => ∃ v, vs = [v] ∧ ∀ a H2, Ex H1 H2 → H1 a = none → ErrV K f C v a H2 → Q (.ref a) H2
theorem pe_err1 {X : Cx} {CX : CXT} {x f : Str} {C fI : Addr} {k : Nat} {fd : FuncData} {ps : List Str} {e : Expr} {ta : TA} {p pos : Pos} (T : ErrF X.K f C fI)
    (F1 : FnOk X.prog X.w X.K X.mg X.base CX k fI fd ps (spIniX X.K f)) (hr : Room (k + 1) X.A) (hb : Binds X.K fd ps []) (hx : Passes CX X (fun _ _ _ => False)) (hg : Gl X x) (hm : X.mg x = some (.ref C)) (ha : PA X [e] ta)
    (hdb : (x == ("__debug__" : Str)) = false := by decide) (he : starEach [e] X.env = (false, eval e X.env) :: starEach [] X.env := by rfl) (hpl : (backTo pos (starEach [] X.env)).any (·.1) = false := by rfl) :
    PE X (.Call (.Name x p) [e] [] pos) (tErr1 X.K f C ta) := by
  refine ⟨fun pins s σ H Q I h => ?_⟩
  obtain ⟨B, newId, initId, tl, bmB, nm, q, N, bs, bm, sn, sub, ab, col, dd, k0, k1, k2, k3, k5, hC, hY, hbm⟩ := T.k.cls
  refine wpAny_Call_Name_kw (ld_glob I hg hm ?_ hdb)
  refine PySem.W.callWith_K (h₀ := X.base) I.ok.mod.kin T.k.kC (thn (ha.run pos pins s σ H _ I h) fun us s1 ⟨vs, H1, I1, r1, v, ev, q1⟩ => ⟨I1.kIn, ?_⟩) he hpl
  subst ev
  show wpAny _ _ (call (.ref C) us) _ _ _
  obtain ⟨hp, g, dr, tk, os⟩ := s1
  have hsz : hp.objs.size ≤ hp.objs.size + 1 := Nat.le_succ _
  have hn : H1 (hp.objs.size + 1) = none := I1.hok.fresh hsz
  have kk : ∀ b o, hp.get? b = some o → ((hp.push (PySem.W.kdv_tup us)).push (excO C hp.objs.size)).get? b = some o := fun b o e => Heap.get?_push_of_some _ (Heap.get?_push_of_some _ e)
  have hget : ((hp.push (PySem.W.kdv_tup us)).push (excO C hp.objs.size)).get? (hp.objs.size + 1) = some (excO C hp.objs.size) := by heap_get
  have I2 : Inv X pins σ (upd H1 (hp.objs.size + 1) (exo (hp.objs.size + 1) C none)) ⟨(hp.push (PySem.W.kdv_tup us)).push (excO C hp.objs.size), g, dr, tk, os⟩ :=
    I1.laid (t' := tk) (a := hp.objs.size + 1) (o := exo (hp.objs.size + 1) C none) (h' := (hp.push (PySem.W.kdv_tup us)).push (excO C hp.objs.size)) kk hsz (exo_ok hget)
  have r2 : Vals (V.ref (hp.objs.size + 1) :: [v]) (Value.ref (hp.objs.size + 1) :: us) := .cons rfl r1
  have hq : spIniX X.K f (V.ref (hp.objs.size + 1) :: [v]) (upd H1 (hp.objs.size + 1) (exo (hp.objs.size + 1) C none)) (fun u H2 => u = .non ∧ Ex H1 H2 ∧ ErrV X.K f C v (hp.objs.size + 1) H2) (fun _ _ _ => False) := by
    refine ⟨C, fI, T, upd_same, fun dx hd hne => ⟨rfl, fun b o hb => ?_, ⟨fI, T⟩, dx, upd_same, by rw [upd_ne hne, upd_same]⟩⟩
    have b1 : b ≠ hp.objs.size + 1 := ne_of_none hb hn
    have b2 : b ≠ dx := fun z => by rw [← z, upd_ne b1, hb] at hd; cases hd
    rw [upd_ne b1, upd_ne b2, upd_ne b1]; exact hb
  have hl : (Value.ref (hp.objs.size + 1) :: us).length = ps.length := by
    have e := r2.length
    rw [F1.len _ _ _ _ hq] at e
    exact e.symm
  have hus : us.length ≤ sizeLine := by
    rw [← Paired.length r1, sizeLine_eq, List.length_singleton]
    omega
  have hb2 := hb ⟨_, g, dr, tk, os⟩ (Value.ref (hp.objs.size + 1) :: us) I2.kIn (by simpa using hl)
  refine wpAny_call (callX hY hbm (I1.kIn _ _ hC) (PySem.W.looks_findIn I1.kIn T.iC) (fun self => PySem.W.bind_fn I1.kIn self T.tI) hus
    (codeAny_mono (F1.run _ X.stack _ _ ⟨Value.ref (hp.objs.size + 1) :: us, []⟩ (Value.ref (hp.objs.size + 1) :: us) _ _ (fun _ _ _ => False) (hr.make C us []) (I2.env0.make C us []) (by simpa using hb2) r2 hq) fun r s' hq' => ?_))
  cases r with
  | error er => exact hx pins σ _ _ er s' I2 hq'
  | ok fl =>
    cases fl with
    | ret u =>
      obtain ⟨v', H2, os2, bare2, un2, hok2, rv, ev, ex2, er⟩ := hq'
      subst ev
      obtain ⟨h2, g2, d2, t2, os'⟩ := s'
      refine ⟨rv, .ref (hp.objs.size + 1), H2, ?_, rfl, q1 _ H2 ex2 hn er⟩
      exact I2.call' (ch := []) os2 un2 hok2 bare2 (fun b z => absurd z (by simp))
    | next => exact False.elim hq'
    | brk => exact False.elim hq'
    | cont => exact False.elim hq'
end My
set_option Elab.async false
set_option linter.all false
set_option maxRecDepth 100000
set_option maxHeartbeats 4000000
/-! own errors held as values: made without arguments, asked for their classes, their field read -/
namespace My
open PySem PySem.Spec PyProof.Rows L2 Evl PySem.HandSPX
/-- an own error class over ValueError without an __init__ of its own -/
structure Err0 (K : PySem.W.Frag) (C : Addr) : Prop where
  k : ErrK K C
  ex : PySem.W.excIn K C [.type "ValueError", .type "Exception", .type "BaseException", .type "object"] "ValueError.__new__" = true
def tErr0 (K : PySem.W.Frag) (C : Addr) : TE := fun _ H Q => ∀ a H2, Ex H H2 → H a = none → H2 a = some (exo a C none) → Q (.ref a) H2
theorem pe_err0 {X : Cx} {C : Addr} {x : Str} {p pos : Pos} (T : Err0 X.K C) (gC : X.mg x = some (.ref C)) (hg : Gl X x) (hdb : (x == ("__debug__" : Str)) = false := by decide) :
    PE X (.Call (.Name x p) [] [] pos) (tErr0 X.K C) := by
  refine ⟨fun pins s σ H Q I h => ?_⟩
  refine wpAny_Call_Name_kw (ld_glob I hg gC ?_ hdb)
  refine PySem.W.callWith_K0 I.kIn T.k.kC ?_
  show wpAny _ _ (call (.ref C) []) _ _ _
  obtain ⟨bm, N, nm, qn, bs, hdct, sn, sub, ab, col, dd, k0, k1, k2, k3, k5, mN, hC, hN, hni, OT⟩ := exc_obj I.kIn T.ex
  refine wpAny_call_exc_subT PySem.F.excBase_ValueError OT hC hN hni (fun h' a hm => ?_) (Nat.zero_le _)
  have hn : H a = none := I.hok.gone hm.new
  obtain ⟨t, ht, _, _⟩ := hm.there
  exact ⟨.ref a, upd H a (exo a C none), I.laidN hm.keeps hm.new hn (exo_ok ht), rfl, h a _ (Ex.new hn) hn upd_same⟩
/-- isinstance(e, c), e an error that is held -/
def rIsX (K : PySem.W.Frag) : List V → Hp → VK → Prop := fun xs H Q => ∃ (a C : Addr) (c : V) (cv : Value) (b : Bool), xs = [.ref a, c] ∧ ErrO K C a H ∧ (∀ u, RelV c u → u = cv) ∧ PySem.W.kitOne K (.ref C) cv = some b ∧ Q (.bl b) H
theorem call_isX {X : Cx} : CallR X (.builtin "isinstance") (rIsX X.K) := by
  intro pins s σ H xs us Q I r h
  obtain ⟨a, C, c, cv, b, rfl, ⟨T, ho⟩, hcv, e, q⟩ := h
  obtain ⟨u1, u2, rfl, r1, r2⟩ := vals2 r
  obtain rfl : u1 = Value.ref a := r1
  obtain rfl := hcv _ r2
  have K1 : ∀ {ox : Obj} {od : Option Obj}, PySem.W.InstAt s.heap a ox C od → wpAny (model X.prog X.w) X.A (call (.builtin "isinstance") [.ref a, u2]) (EP X pins σ Q) X.xe s := fun J =>
    PySem.W.kia_one (PySem.W.kitx_exc T.isC T.ga T.gg T.exC T.ha T.hn T.ht T.hm) I.kIn J e (fun z => nomatch z) fun tk => ⟨.bl b, H, I.tok tk, rfl, q⟩
  rcases ho with h0 | ⟨d, fs, h0, h1⟩
  · obtain ⟨t1, hx⟩ := exo_at I.hok h0
    exact K1 (ox := { cls := .ref C, dict := none, data := .fields #[.ref t1, .none, .none, .none, .bool false, .none] }) (od := none) ⟨hx, rfl, rfl, trivial⟩
  · obtain ⟨t1, hx⟩ := exo_at I.hok h0
    obtain ⟨mA, hns, _⟩ := exd_at I.hok h1
    obtain ⟨o, es, ep, ho, _⟩ := hns
    exact K1 (ox := { cls := .ref C, dict := some d, data := .fields #[.ref t1, .none, .none, .none, .bool false, .none] }) (od := some o) ⟨hx, rfl, rfl, ho⟩
/-- e.f, e an error that keeps it -/
def tErF (K : PySem.W.Frag) (f : Str) (te : TE) : TE := fun σ H Q => te σ H fun x H1 => ∃ a C v, x = .ref a ∧ ErrV K f C v a H1 ∧ Q v H1
theorem pe_erF {X : Cx} {K : PySem.W.Frag} (hK : X.K = K) {e : Expr} {te : TE} {pos : Pos} {f : Str} (he : PE X e te) (hb : attributeBase e f X.env (eval e X.env) = eval e X.env := by rfl) :
    PE X (.Attribute e f pos) (tErF K f te) := by
  subst hK
  refine ⟨fun pins s σ H Q I h => attr_of hb (thn (he.run pins s σ H _ I h) fun u s1 hh => ?_)⟩
  obtain ⟨x, H1, I1, rx, a, C, v, ex, ⟨⟨fI, T⟩, d, h0, h1⟩, q⟩ := hh
  subst ex
  obtain rfl : u = Value.ref a := rx
  obtain ⟨t1, hx⟩ := exo_at I1.hok h0
  obtain ⟨mA, hns, hr⟩ := exd_at I1.hok h1
  obtain ⟨od, ho, hl⟩ := lookIn_ns hns
  have l1 : ([(f, v)] : List (Str × V)).lookup f = some v := by simp [List.lookup]
  obtain ⟨u, hu, ru⟩ := RelO.some_of (v := v) (o := mA f) (by rw [← l1]; exact hr f)
  have J : PySem.W.InstAt s1.heap a { cls := .ref C, dict := some d, data := .fields #[.ref t1, .none, .none, .none, .bool false, .none] } C (some od) := ⟨hx, rfl, rfl, ho⟩
  exact HandSPX.exc_get I1.kIn J T.k.ga T.k.gg T.k.exC (PySem.W.findObj_own T.k.hdC T.noF rfl (by rw [hl, hu])) (handed_of ru) ⟨v, H1, I1.tok _, ru, q⟩
end My
set_option Elab.async false
set_option linter.all false
set_option maxRecDepth 100000
set_option maxHeartbeats 4000000
/-! the head by one kernel run: what is read of the written part, as Bools, and the law's end -/
namespace My
open PySem PySem.Spec PyProof.Rows L2 Evl
theorem toFun {K : PySem.W.Frag} {x qual : Str} {st : Stmt} {f : Addr} {fd : FuncData} (F : FunD K x qual (defArgs st) (defBody st) (defScope st) [] [] f fd) : Fun K x qual st f fd := by
  obtain ⟨oc, od, dV, kV, doc, pm, an, cdv, ct, osl, rfl, lk, hcd, hD, hK⟩ := F.ex
  rcases hD with ⟨_, rfl⟩ | ⟨e, _⟩
  · exact ⟨⟨oc, od, kV, doc, pm, an, cdv, ct, osl, rfl, lk, hcd⟩, F.kp⟩
  · exact absurd rfl e
/-- what stands in the namespace at a by the name k, if it is an object -/
def daAt (K : PySem.W.Frag) (a : Addr) (k : Str) : Addr := match PySem.W.nsIn K a k with
  | some (some (.ref t)) => t
  | _ => 0
/-- the i-th item of the tuple or list at a, if it is an object -/
def itAt (K : PySem.W.Frag) (a : Addr) (i : Nat) : Addr := match K.lookup a with
  | some ⟨_, _, .seq its _, _⟩ => (match its.toList[i]? with
    | some (.ref b) => b
    | _ => 0)
  | _ => 0
def tupAt (K : PySem.W.Frag) (a : Addr) (vs : List V) : Bool := match K.lookup a with
  | some ⟨.type c, _, .seq its _, _⟩ => decide (c = "tuple") && (decide (its.size ≤ sizeLine) && He.relAll vs its.toList)
  | _ => false
theorem tupAt_ok {K : PySem.W.Frag} {a : Addr} {vs : List V} (h : tupAt K a vs = true) (H : Hp) : SqT K H a vs := by
  unfold tupAt at h
  cases q : K.lookup a with
  | none =>
    rw [q] at h
    cases h
  | some o =>
    obtain ⟨oc, od, dt, osl⟩ := o
    rw [q] at h
    cases oc with
    | type c =>
      cases dt with
      | seq its n =>
        obtain ⟨h1, h2⟩ := He.ba (show (decide (c = "tuple") && (decide (its.size ≤ sizeLine) && He.relAll vs its.toList)) = true from h)
        obtain ⟨h3, h4⟩ := He.ba h2
        exact .inr ⟨_, its, n, q, congrArg Value.type (of_decide_eq_true h1), rfl, of_decide_eq_true h3, He.relAll_ok h4⟩
      | _ => cases h
    | _ => cases dt <;> cases h
/-- an int by a name -/
def intAt (K : PySem.W.Frag) (a : Addr) (k : Str) (i : Int) : Bool := match PySem.W.nsIn K a k with
  | some (some (.int j _)) => decide (j = i)
  | _ => false
theorem intAt_ok {K : PySem.W.Frag} {a : Addr} {k : Str} {i : Int} (h : intAt K a k i = true) : ∃ t, PySem.W.nsIn K a k = some (some (.int i t)) := by
  unfold intAt at h
  split at h
  · rename_i j t e
    rw [e, of_decide_eq_true h]
    exact ⟨t, rfl⟩
  · cases h
/-- a value by a name -/
def valAt (K : PySem.W.Frag) (a : Addr) (k : Str) (v : V) : Bool := match PySem.W.nsIn K a k with
  | some (some u) => He.relB v u
  | _ => false
theorem valAt_ok {K : PySem.W.Frag} {a : Addr} {k : Str} {v : V} (h : valAt K a k v = true) : ∃ u, PySem.W.nsIn K a k = some (some u) ∧ RelV v u := by
  unfold valAt at h
  split at h
  · rename_i u e
    exact ⟨u, e, He.relB_ok h⟩
  · cases h
theorem valAt_mg {K : PySem.W.Frag} {h : Heap} {mg : Str → Option Value} (X : K.In h) (G : h.Ns mainGlobals mg) {k : Str} {v : V} (q : valAt K mainGlobals k v = true) : ∃ u, mg k = some u ∧ RelV v u := by
  obtain ⟨u, e, r⟩ := valAt_ok q
  exact ⟨u, PySem.W.mg_of X G e, r⟩
/-- an own error's class -/
def excB (K : PySem.W.Frag) (C : Addr) (newId : String) (tl : List Value → Bool) : Bool := match K.lookup C with
  | some ⟨.type "type", _, .cls cd, sl⟩ => (match cd.mro, sl.toList with
    | .ref C' :: bm, [_, _, _, _, some (.builtin n), _] => C' == C && n == newId && !cd.hasDel && cd.hasDict && tl bm
    | _, _ => false)
  | _ => false
theorem excB_ok {K : PySem.W.Frag} {C : Addr} {newId : String} {tl : List Value → Bool} (q : excB K C newId tl = true) :
    ∃ nm qn N bs bm sn sub ab col dd k0 k1 k2 k3 k5, K.lookup C = some (excClassObj nm qn C N bs bm true sn sub ab col dd k0 k1 k2 k3 k5 newId) ∧ tl bm = true := by
  unfold excB at q
  split at q
  · rename_i dd cd sl ho
    split at q
    · rename_i C' bm k0 k1 k2 k3 n k5 hm hs
      simp only [Bool.and_eq_true, beq_iff_eq, Bool.not_eq_true'] at q
      obtain ⟨⟨⟨⟨rfl, rfl⟩, hdel⟩, hdt⟩, ht⟩ := q
      obtain ⟨nm, bs, mro, ns, qn, hd, sn, sub, ab, col, del⟩ := cd
      dsimp only at hm hdel hdt
      subst hm hdel hdt
      have hsl : sl = #[k0, k1, k2, k3, some (.builtin n), k5] := by
        obtain ⟨l⟩ := sl
        simp only at hs
        rw [hs]
      subst hsl
      exact ⟨nm, qn, ns, bs, bm, sn, sub, ab, col, dd, k0, k1, k2, k3, k5, ho, ht⟩
    · cases q
  · cases q
def ttV : List Value := [.type "ValueError", .type "Exception", .type "BaseException", .type "object"]
theorem errCls {K : PySem.W.Frag} {C : Addr} {B newId initId : String} {tl bmB : List Value} (T : TailX B newId initId tl bmB) (q : excB K C newId (refsTo tl) = true) :
    ∃ B newId initId tl bmB nm q N bs bm sn sub ab col dd k0 k1 k2 k3 k5, K.lookup C = some (excClassObj nm q C N bs bm true sn sub ab col dd k0 k1 k2 k3 k5 newId) ∧ TailX B newId initId tl bmB ∧ refsTo tl bm = true := by
  obtain ⟨nm, qn, N, bs, bm, sn, sub, ab, col, dd, k0, k1, k2, k3, k5, h1, h2⟩ := excB_ok q
  exact ⟨B, newId, initId, tl, bmB, nm, qn, N, bs, bm, sn, sub, ab, col, dd, k0, k1, k2, k3, k5, h1, T, h2⟩
theorem noA {K : PySem.W.Frag} {C : Addr} {f : Str} (h : decide (PySem.W.findIn K (.ref C) f = some none) = true) : NoAttr K C f := show PySem.W.findIn K (.ref C) f = some none from of_decide_eq_true h
theorem map_mro {K : PySem.W.Frag} {C : Addr} {m : List Value} (h : (PySem.W.clsIn K C).map (·.mro) = some m) : ∃ cd, PySem.W.clsIn K C = some cd ∧ cd.mro = m := by
  obtain ⟨cd, h1, h2⟩ := Option.map_eq_some_iff.mp h
  exact ⟨cd, h1, h2⟩
/-- the facts, in rows -/
def exs (fs : PySem.W.Frag → List (List Bool)) (K : PySem.W.Frag) : Bool := (fs K).all fun l => l.all id
/-- what is told of the written part -/
structure SaysL (fn : List He.DefD) (ts : List He.Tab) (fs : PySem.W.Frag → List (List Bool)) (w : World) (K : PySem.W.Frag) : Prop where
  t : He.SaysT [] fn ts w K
  more : exs fs K = true
def obsL (as : List Addr) (fn : List He.DefD) (ts : List He.Tab) (fs : PySem.W.Frag → List (List Bool)) (g : Addr → Option Obj) : He.AlT × Bool := (He.obsT [] fn ts (He.frG g as), exs fs (He.frG g as))
def hookL (as : List Addr) (fn : List He.DefD) (ts : List He.Tab) (fs : PySem.W.Frag → List (List Bool)) : PySem.W.Hook where
  α := He.AlT × Bool
  obs := fun s => obsL as fn ts fs s.heap.get?
  val := fun w => (He.valT fn ts w, true)
  says := fun w h => ∃ K : PySem.W.Frag, K.In h ∧ SaysL fn ts fs w K
  of := fun _ _ e => ⟨_, He.frG_in, ⟨congrArg Prod.fst e, congrArg Prod.snd e⟩⟩
  keeps := fun _ _ _ ⟨K, hK, c⟩ k => ⟨K, PySem.W.Frag.In.keeps hK k, c⟩
theorem obsL_eq {as : List Addr} {fn : List He.DefD} {ts : List He.Tab} {fs : PySem.W.Frag → List (List Bool)} {g : Addr → Option Obj} {s : Shared} (h : ∀ a, g a = s.heap.get? a) : obsL as fn ts fs g = (hookL as fn ts fs).obs s := by
  have e : g = s.heap.get? := funext h
  rw [e] <;> rfl
theorem parts3 {α β γ δ : Type} {o : Option δ} {f : δ → α} {g : δ → β} {h : δ → γ} {a : α} {b : β} {c : γ} (x : o.map f = some a) (y : o.map g = some b) (z : o.map h = some c) : o.map (fun s => (f s, g s, h s)) = some (a, b, c) := by
  cases o with
  | none => cases x
  | some s => exact congrArg some (Prod.ext (Option.some.inj x) (Prod.ext (Option.some.inj y) (Option.some.inj z)))
open HandSHeadRun in
/-- the run's equation by its three parts, each a run of its own (memory) -/
theorem runI_of {r : PySem.W.OpenRow} {q : Program} {H : PySem.W.Hook} {ob : PySem.W.SharedT → H.α} {M : Nat} {loose : List PySem.Str} {w : World}
    (a : (wholeF (fun p => stepQ (denQ tabQ) p w) fenceQ M r.prog).map (fun x => looksF r.prog x.1.heap x.2.abs) = some true)
    (b : (wholeF (fun p => stepQ (denQ tabQ) p w) fenceQ M r.prog).map (fun x => seenQ q loose (importedModules r.prog.main.body) (fun s => PySem.W.xlAt q [] s && PySem.W.recOk r.toRowW.records s) x.2.abs) = some (PySem.W.openGood q loose))
    (c : (wholeF (fun p => stepQ (denQ tabQ) p w) fenceQ M r.prog).map (fun x => ob x.2) = some (H.val w)) : RunEqI r q H ob M loose w := parts3 a b c
theorem bit {fn : List He.DefD} {ts : List He.Tab} {fs : PySem.W.Frag → List (List Bool)} {w : World} {K : PySem.W.Frag} (c : SaysL fn ts fs w K) (i j : Nat) {l : List Bool} {b : Bool}
    (hi : (fs K)[i]? = some l) (hj : l[j]? = some b) : b = true := by
  have h1 := List.all_eq_true.mp (show ((fs K).all fun l => l.all id) = true from c.more) l (List.mem_of_getElem? hi)
  exact List.all_eq_true.mp h1 b (List.mem_of_getElem? hj)
theorem tabW {fa : List He.Fa} {fn : List He.DefD} {ts : List He.Tab} {w : World} {K : PySem.W.Frag} (c : He.SaysT fa fn ts w K) (i : Nat) {t : He.Tab} (h : ts[i]? = some t) : He.dicW K (t.1 K) = some (He.keysIn w.params t.2) := by
  have e : ts.map (fun t => He.dicW K (t.1 K)) = ts.map fun t => some (He.keysIn w.params t.2) := congrArg (fun z : He.AlT => z.2) c
  have e2 : (ts.map fun t => He.dicW K (t.1 K))[i]? = (ts.map fun t => some (He.keysIn w.params t.2))[i]? := by rw [e]
  rw [List.getElem?_map, List.getElem?_map, h] at e2
  exact Option.some.inj e2
/-- the law's end, over what a Hook says (walk_ofE, for FnG) -/
theorem walkGE {l : PySem.W.OpenLaw} {n k : Nat} {q : Program} {loose : List Str} {XP : (Str → Option Value) → Heap → Prop} {YP : World → Heap → Prop} {d : DefRec} {CX : CXT} {x : Str}
    (hn : l.most = some n) (h2 : n ≤ sizeLine) (hdf : d.params.defaults = []) (hr : Room k callerA)
    (F : ∀ (w : World) (mg : Str → Option Value) (fa : Addr) (h : Heap), YP w h → h.Ns mainGlobals mg → mg d.name = some (.ref fa) →
      ∃ (K : PySem.W.Frag) (fd : FuncData) (sp : Sp), K.In h ∧ (∀ (s : Shared) (u : Value), BindsTo s fd ⟨[u], []⟩ [(x, u)]) ∧
        (∀ (H : Hp) (a : Addr) (ns : List Int), ns.length ≤ n → Only H → SqL K H a (ns.map V.int) → sp [.ref a] H (fun v _ => v = .bl true) fun _ _ _ => False) ∧
        ∀ base : Heap, K.In base → base.Ns mainGlobals mg → FnG l.prog w K mg base CX k fa fd [x] sp)
    (hCX : ∀ (H : Hp) (s : Shared) (e : Value) (s' : Shared), CX [] H s (fun _ _ _ => False) e s' → False) :
    PySem.W.WalkO q loose XP YP l.row.toRowW d [] (fun f vs => PySem.call f vs) := by
  refine Att.attach_call hn hdf fun w s₀ s₁ mg mb fa o pm cd doc a vs ns G Y ho hd hcd hmg hobj hints hlen hg => ?_
  obtain ⟨K, fd, sp, KX, hb, hsp, hF⟩ := F w mg fa _ Y G.T.g hmg
  exact lawG KX G.T.g G.T.b G.T.builtins G.T.nolimit hg hobj hints (Nat.le_trans hlen h2) hr hF hb (fun H hO hS => hsp H a ns hlen hO hS) fun H e s' => hCX H s₁ e s'
end My
set_option Elab.async false
set_option linter.all false
set_option maxRecDepth 100000
set_option maxHeartbeats 4000000
/-! own classes: str(o), f'{o}', o == x, o != x by the classes' own methods -/
namespace My
open PySem PySem.Spec PyProof.Rows L2 Evl
section
variable {X : Cx} {pins : List (Addr × Obj)} {σ : L2.St} {H : Hp} {s : Shared}
theorem ins_at {a C dx : Addr} {fs : List (Str × V)} (I : Inv X pins σ H s) (e : H a = some (.ins C dx fs)) : ∃ od, PySem.W.InstAt s.heap a (PySem.W.instObj C dx) C (some od) := by
  obtain ⟨mA, O, _⟩ := ins_get I.hok e
  obtain ⟨od, J, _⟩ := O.look
  exact ⟨od, J⟩
/-- the method m of the class at C stands at g -/
structure MethC (K : PySem.W.Frag) (m : Str) (C g : Addr) : Prop where
  at_ : PySem.W.findIn K (.ref C) m = some (some (.ref g))
  fn : PySem.W.isFn K (.ref g) = true
/-- what an own class says that isinstance and f'{o}' ask -/
structure OC (K : PySem.W.Frag) (C : Addr) : Prop where
  cl : Cls K C
  ha : PySem.W.findIn K (.ref C) "__class__" = some (some (.builtin "object.__class__"))
  hn : PySem.W.specialIn K (.builtin "object.__class__") "__get__" = some (some (.builtin "getset_descriptor.__get__"))
  ht : PySem.W.takesIn K (.builtin "object.__class__") = some true
  hm : PySem.W.mroIn K C (.type "object") = some true
  fm : PySem.W.findIn K (.ref C) "__format__" = some (some (.builtin "object.__format__"))
theorem OC.ty {K : PySem.W.Frag} {C a dx : Addr} {fs : List (Str × V)} {H : Hp} (o : OC K C) (e : H a = some (.ins C dx fs)) : TyX K H (.ref a) (.ref C) := .base (.ins e o.cl o.ha o.hn o.ht o.hm)
/-- a promise of a method, on instances of the class at C -/
def onC (C : Addr) (sp : Sp) : Sp := fun vs H Q E => (∃ a dx fs rest, vs = .ref a :: rest ∧ H a = some (.ins C dx fs)) ∧ sp vs H Q E
/-- str(o): SF tells which def serves which class -/
def rStrO (SF : Addr → Addr → Prop) (sp : Sp) (E : XK) : List V → Hp → VK → Prop := fun xs H Q => ∃ a C dx fs g, xs = [.ref a] ∧ H a = some (.ins C dx fs) ∧ SF C g ∧ sp [.ref a] H (fun z H' => ∃ y, z = .str y ∧ Q z H') E
theorem call_strO {CX : CXT} {n : Nat} {sp : Sp} {E : XK} {SF : Addr → Addr → Prop} (hS : ∀ C g, SF C g → MethC X.K "__str__" C g) (hF : ∀ C g, SF C g → FnR X.prog X.w X.K X.mg X.base CX n g (onC C sp)) (hr : Room (n + 2) X.A) (hx : Passes CX X E) : CallR X (.type "str") (rStrO SF sp E) := by
  intro pins s σ H xs us Q I r h
  obtain ⟨a, C, dx, fs, g, rfl, ha, hg, q⟩ := h
  obtain ⟨u, rfl, ru⟩ := r.one
  obtain rfl : u = Value.ref a := ru
  obtain ⟨od, J⟩ := ins_at I ha
  have h2 : Room n X.A.in1.in1 := (show Room (n + 1) X.A.in1 from Room.in1 hr).in1
  refine PySem.W.kso_call h2.units0 I.kIn J (hS C g hg).at_ (hS C g hg).fn (wpAny_mono (wpAny_call (SlX.run_at (us := [.ref a]) (ws := [.ref a]) (hF C g hg) h2 I.env0.in1.in1 hx I (.cons rfl .nil) ⟨⟨_, _, _, _, rfl, ha⟩, q⟩)) (fun w s' z => ?_) fun _ _ x => x)
  obtain ⟨z', H', I', rz, y, ey, qz⟩ := z
  subst ey
  obtain ⟨t, e⟩ := (show ∃ t, w = Value.str y t from rz)
  cases e
  exact ⟨.str y, H', I', ⟨t, rfl⟩, qz⟩
/-- str(x), x an int or a text -/
def rStrA : List V → Hp → VK → Prop
  | [.int i], H, Q => i.natAbs.log2 < 1920 ∧ Q (.str (toString i)) H
  | [.str y], H, Q => Q (.str y) H
  | _, _, _ => False
/-- what an own class must say that f'{o}' is its str -/
structure FmtC (K : PySem.W.Frag) (C : Addr) : Prop where
  fm : PySem.W.findIn K (.ref C) "__format__" = some (some (.builtin "object.__format__"))
  om : PySem.W.mroIn K C (.type "object") = some true
def tFmtO (SF : Addr → Addr → Prop) (sp : Sp) (E : XK) (te : TE) : TE := fun σ H Q => te σ H fun x H1 => ∃ a C dx fs g, x = .ref a ∧ H1 a = some (.ins C dx fs) ∧ SF C g ∧ sp [.ref a] H1 (fun z H' => ∃ y, z = .str y ∧ Q z H') E
theorem pe_fmtO {CX : CXT} {n : Nat} {sp : Sp} {E : XK} {SF : Addr → Addr → Prop} {e : Expr} {te : TE} {pos : Pos} (hS : ∀ C g, SF C g → MethC X.K "__str__" C g ∧ FmtC X.K C) (hF : ∀ C g, SF C g → FnR X.prog X.w X.K X.mg X.base CX n g (onC C sp)) (hr : Room (n + 1) X.A) (hx : Passes CX X E)
    (he : PE X e te) : PE X (.FormattedValue e (-1) none pos) (tFmtO SF sp E te) := by
  refine ⟨fun pins s σ H Q I h => ?_⟩
  refine wpAny_FormattedValue_plain (thn (he.run pins s σ H _ I h) fun v s1 hv => ?_)
  obtain ⟨x, H1, I1, r1, a, C, dx, fs, g, ex, ha, hg, q⟩ := hv
  subst ex
  obtain rfl : v = Value.ref a := r1
  obtain ⟨od, J⟩ := ins_at I1 ha
  obtain ⟨M, Fm⟩ := hS C g hg
  have h2 : Room n X.A.in1 := Room.in1 hr
  have I2 := I1.tok (s1.toks + 1)
  refine PySem.W.kfo_fieldS h2.units0 I1.kIn J Fm.fm Fm.om M.at_ M.fn (wpAny_mono (wpAny_call (SlX.run_at (us := [.ref a]) (ws := [.ref a]) (hF C g hg) h2 I2.env0.in1 hx I2 (.cons rfl .nil) ⟨⟨_, _, _, _, rfl, ha⟩, q⟩)) (fun w s' z => ?_) fun _ _ x => x)
  obtain ⟨z', H', I', rz, y, ey, qz⟩ := z
  subst ey
  obtain ⟨t, e⟩ := (show ∃ t, w = Value.str y t from rz)
  cases e
  exact ⟨.str y, H', I', ⟨t, rfl⟩, qz⟩
/-- o == y by the own __eq__ of o's class; y of any type that is no class below it -/
def rEqO (K : PySem.W.Frag) (SF : Addr → Addr → Prop) (sp : Sp) (E : XK) : R2 := fun x y H Q => ∃ a C dx fs g t, x = .ref a ∧ H a = some (.ins C dx fs) ∧ SF C g ∧ TyX K H y t ∧ PySem.W.notFirst K C t = true ∧ sp [x, y] H Q E
theorem op_eqO {CX : CXT} {n : Nat} {sp : Sp} {E : XK} {SF : Addr → Addr → Prop} (hS : ∀ C g, SF C g → MethC X.K "__eq__" C g) (hF : ∀ C g, SF C g → FnR X.prog X.w X.K X.mg X.base CX n g (onC C sp)) (hr : Room n X.A) (hx : Passes CX X E) : OpR X (compareOp .Eq) (rEqO X.K SF sp E) := by
  intro pins s σ H x y v u Q I rx ry h
  obtain ⟨a, C, dx, fs, g, t, rfl, ha, hg, ty, hn, q⟩ := h
  obtain rfl : v = Value.ref a := rx
  obtain ⟨od, J⟩ := ins_at I ha
  obtain ⟨m, hFr⟩ := I.fr
  obtain ⟨PP, KX, hp, _⟩ := kit_of I ry ty
  show wpAny _ _ (richCompare .Eq _ _) _ _ _
  refine PySem.W.cmp_K (op := .Eq) (tb := t) hr.units0 hFr I.ok.mod.kin J (KX.ty _ _ I.kIn hp) hn (hS C g hg).at_ (hS C g hg).fn ?_
  refine wpAny_mono (wpAny_call (run_fnR (us := [.ref a, u]) (vs := [.ref a, y]) (hF C g hg) hr hx I (.cons rfl (.cons ry .nil)) ⟨⟨_, _, _, _, rfl, ha⟩, q⟩)) (fun w s' z => ?_) fun _ _ x => x
  obtain ⟨z', H', I', rz, qz⟩ := z
  exact SlX.cmpback rz ⟨z', H', I', rz, qz⟩
/-- C(), C an own class without an __init__ -/
structure New0 (K : PySem.W.Frag) (C : Addr) : Prop where
  mks : PySem.W.makesIn K C = true
  it : PySem.W.findIn K (.ref C) "__init__" = some (some (.builtin "object.__init__"))
  kp : PySem.W.keepIn K (.ref C) = true
def tNew0 (C : Addr) : TE := fun _ H Q => ∀ x dx, H x = none → H dx = none → dx ≠ x → Q (.ref x) (upd (upd H dx (.own x)) x (.ins C dx []))
open PySem.W in
theorem pe_new0 {C : Addr} {x : Str} {p pos : Pos} (T : New0 X.K C) (hg : Gl X x) (hm : X.mg x = some (.ref C)) (hdb : (x == ("__debug__" : Str)) = false := by decide) : PE X (.Call (.Name x p) [] [] pos) (tNew0 C) := by
  refine ⟨fun pins s σ H Q I h => ?_⟩
  refine wpAny_Call_Name_kw (ld_glob I hg hm ?_ hdb)
  refine PySem.W.callWith_K0 I.kIn T.kp ?_
  show wpAny _ _ (call (.ref C) []) _ _ _
  have I2 := Inv.made (C := C) I
  have hq := h (s.heap.objs.size + 1) s.heap.objs.size (I.hok.fresh (Nat.le_succ _)) (I.hok.fresh (Nat.le_refl _)) (Nat.ne_of_lt (Nat.lt_succ_self _))
  have Y := makes_of (M := model X.prog X.w) I.kIn T.mks
  refine wpAny_call (make_map0 I.kIn T.mks T.it (fun self => Looks.of_pure (oi_bind self)) ?_)
  have e2 : ((s.heap.push emptyDict).push (instObj C s.heap.objs.size)).get? (s.heap.objs.size + 1) = some (instObj C s.heap.objs.size) := by heap_get
  have t1 : Looks (model X.prog X.w) ((s.heap.push emptyDict).push (instObj C s.heap.objs.size)) (typeOf (.ref (s.heap.objs.size + 1))) (.ref C) := (Looks.ld e2).andThen .now
  have t2 : Looks (model X.prog X.w) ((s.heap.push emptyDict).push (instObj C s.heap.objs.size)) (isInstance (.ref (s.heap.objs.size + 1)) (.type "object")) true := t1.andThen (Y.top.keeps fun b o e => Heap.get?_push_of_some _ (Heap.get?_push_of_some _ e))
  refine codeAny_call_builtin oi_plain entry_oi (@check_slot (model X.prog X.w) _ _ _ "object.__init__" "object" "__init__" (.ref (s.heap.objs.size + 1)) [] [] _ oi_kind oi_split t2 (oi_args (.ref (s.heap.objs.size + 1))) ?_)
  rw [oi_run]
  exact wpAny_pure ⟨rfl, .ref (s.heap.objs.size + 1), _, I2, rfl, hq⟩
/-- a name of the module or of what is built in, by what it holds -/
theorem pe_globE {x : Str} {p : Pos} {v : V} (hg : Gl X x) (hm : ∃ u, X.mg x = some u ∧ RelV v u) (hdb : (x == ("__debug__" : Str)) = false := by decide) : PE X (.Name x p) (tC v) := by
  obtain ⟨u, hm, r⟩ := hm
  exact pe_glob hg hm r (hd := hdb)
theorem call_strA : CallR X (.type "str") rStrA := by
  intro pins s σ H xs us Q I r h
  unfold rStrA at h
  split at h
  · exact call_str_int pins s σ H _ us Q I r ⟨_, rfl, h.1, h.2⟩
  · exact SkE.call_str_str pins s σ H _ us Q I r ⟨_, rfl, h⟩
  · exact h.elim
theorem call_isiK {K : PySem.W.Frag} (hK : X.K = K := by rfl) : CallR X (.builtin "isinstance") (rIsi K) := by
  subst hK
  exact call_isi
theorem pg_tupK {K : PySem.W.Frag} {es : List Expr} {k : Nat} {t : TGs} {n : Nat} {pos : Pos} (hK : X.K = K) (hc : X.calm = true) (h : PGs X es t)
    (hn : (assignEach es X.env).length = n := by rfl) (hst : (assignEach es X.env).findIdx? (·.1) = none := by rfl) : PG X (.Tuple es k pos) (gTup K n t) := by
  subst hK
  exact pg_tup hc h hn hst
end
end My
set_option Elab.async false
set_option linter.all false
set_option maxRecDepth 100000
set_option maxHeartbeats 4000000
/-! rows and tests as plain data: what stands in the heap for them, what they are told of by -/
namespace My
open PySem PySem.Spec PyProof.Rows L2 Evl
inductive TestM where
  | ask (word : Str) (names : List Str)
  | not (t : TestM)
  deriving DecidableEq
inductive RowM where
  | stop
  | put (name deed : Str) (given : List V)
  | times (n : Nat) (rows : List RowM)
  | ifr (t : TestM) (rows others : List RowM)
def All2T {α β : Type} (R : α → β → Prop) : List α → List β → Prop
  | [], [] => True
  | a :: as, b :: bs => R a b ∧ All2T R as bs
  | _, _ => False
theorem All2T.imp {α β : Type} {R S : α → β → Prop} (h : ∀ a b, R a b → S a b) : ∀ {as : List α} {bs : List β}, All2T R as bs → All2T S as bs
  | [], [], _ => trivial
  | _ :: _, _ :: _, ⟨x, y⟩ => ⟨h _ _ x, All2T.imp h y⟩
  | [], _ :: _, x => x.elim
  | _ :: _, [], x => x.elim
theorem All2T.len {α β : Type} {R : α → β → Prop} : ∀ {as : List α} {bs : List β}, All2T R as bs → bs.length = as.length
  | [], [], _ => rfl
  | _ :: _, _ :: _, ⟨_, y⟩ => by rw [List.length_cons, List.length_cons, All2T.len y]
  | [], _ :: _, x => x.elim
  | _ :: _, [], x => x.elim
theorem All2T.at_ {α β : Type} {R : α → β → Prop} : ∀ {as : List α} {bs : List β} {i : Nat} {b : β}, All2T R as bs → bs[i]? = some b → ∃ a, as[i]? = some a ∧ R a b
  | [], [], _, _, _, h => by simp at h
  | a :: _, b :: _, 0, _, ⟨x, _⟩, h => by
    rw [List.getElem?_cons_zero] at h
    cases h
    exact ⟨a, rfl, x⟩
  | _ :: _, _ :: _, i + 1, _, ⟨_, y⟩, h => by
    rw [List.getElem?_cons_succ] at h ⊢
    exact All2T.at_ y h
  | [], _ :: _, _, _, x, _ => x.elim
  | _ :: _, [], _, _, x, _ => x.elim
theorem All2T.snoc {α β : Type} {R : α → β → Prop} {a : α} {b : β} (r : R a b) : ∀ {as : List α} {bs : List β}, All2T R as bs → All2T R (as ++ [a]) (bs ++ [b])
  | [], [], _ => ⟨r, trivial⟩
  | _ :: _, _ :: _, ⟨x, y⟩ => ⟨x, All2T.snoc r y⟩
  | [], _ :: _, x => x.elim
  | _ :: _, [], x => x.elim
/-- an argument of a deed: a name or a number -/
def argV : V → Prop
  | .str _ => True
  | .int i => 0 ≤ i
  | _ => False
/-- the text of an argument -/
def argT : V → Str
  | .str x => x
  | .int i => toString i
  | _ => ""
def TestM.dep : TestM → Nat
  | .ask .. => 0
  | .not t => t.dep + 1
mutual
def RowM.dep : RowM → Nat
  | .stop | .put .. => 0
  | .times _ rs => RowM.deps rs + 1
  | .ifr _ rs os => max (RowM.deps rs) (RowM.deps os) + 1
def RowM.deps : List RowM → Nat
  | [] => 0
  | r :: rs => max r.dep (RowM.deps rs)
end
/-! ### the texts -/
def signs : List Str := ["+", "-", "*", "//", "**"]
def TestM.text : TestM → Str
  | .ask w ns => Txt.join " " (w :: ns)
  | .not t => Str.ofString "not " ++ t.text
def putText (n d : Str) (g : List V) : Str :=
  if d ∈ signs then (match g with
    | [a, b] => n ++ Str.ofString " = " ++ argT a ++ Str.ofString " " ++ d ++ Str.ofString " " ++ argT b
    | _ => "")
  else Txt.join " " (n :: "=" :: d :: g.map argT)
mutual
def RowM.lines : RowM → List Str
  | .stop => ["stop"]
  | .put n d g => [putText n d g]
  | .times c rs => (Str.ofString "times " ++ Str.ofString (toString (c : Int))) :: (RowM.liness rs ++ [("end" : Str)])
  | .ifr t rs os => (Str.ofString "if " ++ t.text) :: ((RowM.liness rs ++ RowM.elses os) ++ [("end" : Str)])
def RowM.liness : List RowM → List Str
  | [] => []
  | r :: rs => r.lines ++ RowM.liness rs
def RowM.elses : List RowM → List Str
  | [] => []
  | r :: rs => ("else" : Str) :: (r.lines ++ RowM.liness rs)
end
def RowM.text (r : RowM) : Str := Txt.join "\n" r.lines
/-! ### the package's objects -/
structure ClsA where
  put : Addr
  ifr : Addr
  times : Addr
  stop : Addr
  ask : Addr
  not : Addr
/-- which class is which: 0 to 5 the classes of rows and tests, 6 Row, 7 Test -/
def clsL (A : ClsA) (row test : Addr) : List Addr := [A.put, A.ifr, A.times, A.stop, A.ask, A.not, row, test]
def ansO (i j : Nat) : Bool := decide (i = j ∨ (j = 6 ∧ i < 4) ∨ (j = 7 ∧ 4 ≤ i))
def plainTs : List String := ["str", "tuple", "list", "int", "bool", "NoneType"]
def kitO (K : PySem.W.Frag) (A : ClsA) (row test : Addr) : Bool :=
  ((List.range 6).all fun i => (List.range 8).all fun j => PySem.W.kitOne K (.ref ((clsL A row test).getD i 0)) (.ref ((clsL A row test).getD j 0)) == some (ansO i j)) &&
  (((List.range 6).all fun i => plainTs.all fun t => PySem.W.kitOne K (.ref ((clsL A row test).getD i 0)) (.type t) == some false) &&
  ((List.range 8).all fun j => plainTs.all fun t => PySem.W.kitOne K (.type t) (.ref ((clsL A row test).getD j 0)) == some false))
section
variable {K : PySem.W.Frag} {A : ClsA} {row test : Addr}
theorem kitO1 (h : kitO K A row test = true) (i j : Nat) (hi : i < 6) (hj : j < 8) : PySem.W.kitOne K (.ref ((clsL A row test).getD i 0)) (.ref ((clsL A row test).getD j 0)) = some (ansO i j) := by
  have h1 := List.all_eq_true.mp (Bool.and_eq_true_iff.mp h).1 i (List.mem_range.mpr hi)
  exact eq_of_beq (List.all_eq_true.mp h1 j (List.mem_range.mpr hj))
theorem clsNe (h : kitO K A row test = true) (i j : Nat) (hi : i < 6) (hj : j < 6) (hne : i ≠ j) : (clsL A row test).getD i 0 ≠ (clsL A row test).getD j 0 := fun e => by
  have h1 := kitO1 h i j hi (by omega)
  have h2 := kitO1 h i i hi (by omega)
  rw [← e, h2] at h1
  have h3 : ansO i i = true := by unfold ansO; simp
  have h4 : ansO i j = false := by unfold ansO; simp; omega
  rw [h3, h4] at h1
  cases h1
theorem kitO2 (h : kitO K A row test = true) (i : Nat) (t : String) (hi : i < 6) (ht : t ∈ plainTs) : PySem.W.kitOne K (.ref ((clsL A row test).getD i 0)) (.type t) = some false := by
  have h1 := List.all_eq_true.mp (Bool.and_eq_true_iff.mp (Bool.and_eq_true_iff.mp h).2).1 i (List.mem_range.mpr hi)
  exact eq_of_beq (List.all_eq_true.mp h1 t ht)
theorem kitO3 (h : kitO K A row test = true) (j : Nat) (t : String) (hj : j < 8) (ht : t ∈ plainTs) : PySem.W.kitOne K (.type t) (.ref ((clsL A row test).getD j 0)) = some false := by
  have h1 := List.all_eq_true.mp (Bool.and_eq_true_iff.mp (Bool.and_eq_true_iff.mp h).2).2 j (List.mem_range.mpr hj)
  exact eq_of_beq (List.all_eq_true.mp h1 t ht)
end
section
variable (K : PySem.W.Frag) (A : ClsA) (H : Hp)
def TestO : TestM → V → Prop
  | .ask w ns, v => ∃ a dx q, v = .ref a ∧ H a = some (.ins A.ask dx [("word", .str w), ("names", .ref q)]) ∧ SqT K H q (ns.map V.str)
  | .not t, v => ∃ a dx u, v = .ref a ∧ H a = some (.ins A.not dx [("test", u)]) ∧ TestO t u
mutual
def RowO : RowM → V → Prop
  | .stop, v => ∃ a dx, v = .ref a ∧ H a = some (.ins A.stop dx [])
  | .put n d g, v => ∃ a dx q, v = .ref a ∧ H a = some (.ins A.put dx [("name", .str n), ("deed", .str d), ("given", .ref q)]) ∧ SqT K H q g
  | .times c rs, v => ∃ a dx q vs, v = .ref a ∧ H a = some (.ins A.times dx [("count", .int c), ("rows", .ref q)]) ∧ SqT K H q vs ∧ RowOs rs vs
  | .ifr t rs os, v => ∃ a dx u q r vs ws, v = .ref a ∧ H a = some (.ins A.ifr dx [("test", u), ("rows", .ref q), ("others", .ref r)]) ∧ TestO K A H t u ∧ SqT K H q vs ∧ RowOs rs vs ∧ SqT K H r ws ∧ RowOs os ws
def RowOs : List RowM → List V → Prop
  | [], vs => vs = []
  | r :: rs, vs => ∃ v ws, vs = v :: ws ∧ RowO r v ∧ RowOs rs ws
end
/-! ### the law's own tuples -/
def TestT : TestM → V → Prop
  | .ask w ns, v => ∃ a q, v = .ref a ∧ SqT K H a [.str "ask", .str w, .ref q] ∧ SqT K H q (ns.map V.str)
  | .not t, v => ∃ a u, v = .ref a ∧ SqT K H a [.str "not", u] ∧ TestT t u
mutual
def RowT : RowM → V → Prop
  | .stop, v => ∃ a, v = .ref a ∧ SqT K H a [.str "stop"]
  | .put n d g, v => ∃ a q, v = .ref a ∧ SqT K H a [.str "put", .str n, .str d, .ref q] ∧ SqT K H q g
  | .times c rs, v => ∃ a q vs, v = .ref a ∧ SqT K H a [.str "times", .int c, .ref q] ∧ SqT K H q vs ∧ RowTs rs vs
  | .ifr t rs os, v => ∃ a u q r vs ws, v = .ref a ∧ SqT K H a [.str "if", u, .ref q, .ref r] ∧ TestT K H t u ∧ SqT K H q vs ∧ RowTs rs vs ∧ SqT K H r ws ∧ RowTs os ws
def RowTs : List RowM → List V → Prop
  | [], vs => vs = []
  | r :: rs, vs => ∃ v ws, vs = v :: ws ∧ RowT r v ∧ RowTs rs ws
end
end
/-- all but lists stays -/
def Kp (H H' : Hp) : Prop := ∀ b o, (∀ xs, o ≠ .lst xs) → H b = some o → H' b = some o
theorem Kp.of_ex {H H' : Hp} (e : Ex H H') : Kp H H' := fun b o _ h => e b o h
theorem Kp.refl (H : Hp) : Kp H H := fun _ _ _ h => h
theorem Kp.trans {H H1 H2 : Hp} (a : Kp H H1) (b : Kp H1 H2) : Kp H H2 := fun c o n h => b c o n (a c o n h)
theorem Kp.tup {H H' : Hp} (e : Kp H H') {a : Addr} {xs : List V} (h : H a = some (.tup xs)) : H' a = some (.tup xs) := e _ _ (fun _ z => by cases z) h
theorem Kp.ins {H H' : Hp} (e : Kp H H') {a C dx : Addr} {fs : List (Str × V)} (h : H a = some (.ins C dx fs)) : H' a = some (.ins C dx fs) := e _ _ (fun _ z => by cases z) h
theorem Kp.sqt {K : PySem.W.Frag} {H H' : Hp} (e : Kp H H') {a : Addr} {xs : List V} (h : SqT K H a xs) : SqT K H' a xs := by
  rcases h with (h | ⟨o, h⟩) | h
  · exact .inl (.inl (e.tup h))
  · exact .inl (.inr ⟨o, e _ _ (fun _ z => by cases z) h⟩)
  · exact .inr h
section
variable {K : PySem.W.Frag} {A : ClsA} {H H' : Hp}
theorem TestO.kp (e : Kp H H') : ∀ {t : TestM} {v : V}, TestO K A H t v → TestO K A H' t v
  | .ask _ _, _, ⟨a, dx, q, h1, h2, h3⟩ => ⟨a, dx, q, h1, e.ins h2, e.sqt h3⟩
  | .not _, _, ⟨a, dx, u, h1, h2, h3⟩ => ⟨a, dx, u, h1, e.ins h2, h3.kp e⟩
theorem TestT.kp (e : Kp H H') : ∀ {t : TestM} {v : V}, TestT K H t v → TestT K H' t v
  | .ask _ _, _, ⟨a, q, h1, h2, h3⟩ => ⟨a, q, h1, e.sqt h2, e.sqt h3⟩
  | .not _, _, ⟨a, u, h1, h2, h3⟩ => ⟨a, u, h1, e.sqt h2, h3.kp e⟩
mutual
theorem RowO.kp (e : Kp H H') : ∀ {r : RowM} {v : V}, RowO K A H r v → RowO K A H' r v
  | .stop, _, h => by
    obtain ⟨a, dx, h1, h2⟩ := h
    exact ⟨a, dx, h1, e.ins h2⟩
  | .put _ _ _, _, h => by
    obtain ⟨a, dx, q, h1, h2, h3⟩ := h
    exact ⟨a, dx, q, h1, e.ins h2, e.sqt h3⟩
  | .times _ rs, _, h => by
    obtain ⟨a, dx, q, vs, h1, h2, h3, h4⟩ := h
    exact ⟨a, dx, q, vs, h1, e.ins h2, e.sqt h3, RowOs.kp e h4⟩
  | .ifr _ rs os, _, h => by
    obtain ⟨a, dx, u, q, r, vs, ws, h1, h2, h3, h4, h5, h6, h7⟩ := h
    exact ⟨a, dx, u, q, r, vs, ws, h1, e.ins h2, h3.kp e, e.sqt h4, RowOs.kp e h5, e.sqt h6, RowOs.kp e h7⟩
theorem RowOs.kp (e : Kp H H') : ∀ {rs : List RowM} {vs : List V}, RowOs K A H rs vs → RowOs K A H' rs vs
  | [], _, h => h
  | r :: rs, _, h => by
    obtain ⟨v, ws, h1, h2, h3⟩ := h
    exact ⟨v, ws, h1, RowO.kp e h2, RowOs.kp e h3⟩
end
mutual
theorem RowT.kp (e : Kp H H') : ∀ {r : RowM} {v : V}, RowT K H r v → RowT K H' r v
  | .stop, _, h => by
    obtain ⟨a, h1, h2⟩ := h
    exact ⟨a, h1, e.sqt h2⟩
  | .put _ _ _, _, h => by
    obtain ⟨a, q, h1, h2, h3⟩ := h
    exact ⟨a, q, h1, e.sqt h2, e.sqt h3⟩
  | .times _ rs, _, h => by
    obtain ⟨a, q, vs, h1, h2, h3, h4⟩ := h
    exact ⟨a, q, vs, h1, e.sqt h2, e.sqt h3, RowTs.kp e h4⟩
  | .ifr _ rs os, _, h => by
    obtain ⟨a, u, q, r, vs, ws, h1, h2, h3, h4, h5, h6, h7⟩ := h
    exact ⟨a, u, q, r, vs, ws, h1, e.sqt h2, h3.kp e, e.sqt h4, RowTs.kp e h5, e.sqt h6, RowTs.kp e h7⟩
theorem RowTs.kp (e : Kp H H') : ∀ {rs : List RowM} {vs : List V}, RowTs K H rs vs → RowTs K H' rs vs
  | [], _, h => h
  | r :: rs, _, h => by
    obtain ⟨v, ws, h1, h2, h3⟩ := h
    exact ⟨v, ws, h1, RowT.kp e h2, RowTs.kp e h3⟩
end
end
section
variable {K : PySem.W.Frag} {A : ClsA} {row test : Addr} {H : Hp} {a dx : Addr} {fs : List (Str × V)} {r : RowM}
theorem RowO.put_of (k : kitO K A row test = true) (hr : RowO K A H r (.ref a)) (h0 : H a = some (.ins A.put dx fs)) : ∃ (n d : Str) (g : List V) (q : Addr), r = .put n d g ∧ fs = ([("name", .str n), ("deed", .str d), ("given", .ref q)] : List (Str × V)) ∧ SqT K H q g := by
  cases r with
  | put n d g => unfold RowO at hr; obtain ⟨b, dx2, q, e, h2, h3⟩ := hr; cases e; rw [h0] at h2; exact ⟨n, d, g, q, rfl, (HO.ins.inj (Option.some.inj h2)).2.2, h3⟩
  | stop => unfold RowO at hr; obtain ⟨b, dx2, e, h2⟩ := hr; cases e; rw [h0] at h2; exact absurd (HO.ins.inj (Option.some.inj h2)).1 (clsNe k 0 3 (by decide) (by decide) (by decide))
  | times c rs => unfold RowO at hr; obtain ⟨b, dx2, q, vs, e, h2, _⟩ := hr; cases e; rw [h0] at h2; exact absurd (HO.ins.inj (Option.some.inj h2)).1 (clsNe k 0 2 (by decide) (by decide) (by decide))
  | ifr t rs os => unfold RowO at hr; obtain ⟨b, dx2, u, q, x, vs, ws, e, h2, _⟩ := hr; cases e; rw [h0] at h2; exact absurd (HO.ins.inj (Option.some.inj h2)).1 (clsNe k 0 1 (by decide) (by decide) (by decide))
theorem RowO.stop_of (k : kitO K A row test = true) (hr : RowO K A H r (.ref a)) (h0 : H a = some (.ins A.stop dx fs)) : r = .stop := by
  cases r with
  | stop => rfl
  | put n d g => unfold RowO at hr; obtain ⟨b, dx2, q, e, h2, h3⟩ := hr; cases e; rw [h0] at h2; exact absurd (HO.ins.inj (Option.some.inj h2)).1 (clsNe k 3 0 (by decide) (by decide) (by decide))
  | times c rs => unfold RowO at hr; obtain ⟨b, dx2, q, vs, e, h2, _⟩ := hr; cases e; rw [h0] at h2; exact absurd (HO.ins.inj (Option.some.inj h2)).1 (clsNe k 3 2 (by decide) (by decide) (by decide))
  | ifr t rs os => unfold RowO at hr; obtain ⟨b, dx2, u, q, x, vs, ws, e, h2, _⟩ := hr; cases e; rw [h0] at h2; exact absurd (HO.ins.inj (Option.some.inj h2)).1 (clsNe k 3 1 (by decide) (by decide) (by decide))
theorem RowO.times_of (k : kitO K A row test = true) (hr : RowO K A H r (.ref a)) (h0 : H a = some (.ins A.times dx fs)) : ∃ (c : Nat) (rs : List RowM) (q : Addr) (vs : List V), r = .times c rs ∧ fs = ([("count", .int (c : Nat)), ("rows", .ref q)] : List (Str × V)) ∧ SqT K H q vs ∧ RowOs K A H rs vs := by
  cases r with
  | times c rs => unfold RowO at hr; obtain ⟨b, dx2, q, vs, e, h2, h3, h4⟩ := hr; cases e; rw [h0] at h2; exact ⟨c, rs, q, vs, rfl, (HO.ins.inj (Option.some.inj h2)).2.2, h3, h4⟩
  | put n d g => unfold RowO at hr; obtain ⟨b, dx2, q, e, h2, h3⟩ := hr; cases e; rw [h0] at h2; exact absurd (HO.ins.inj (Option.some.inj h2)).1 (clsNe k 2 0 (by decide) (by decide) (by decide))
  | stop => unfold RowO at hr; obtain ⟨b, dx2, e, h2⟩ := hr; cases e; rw [h0] at h2; exact absurd (HO.ins.inj (Option.some.inj h2)).1 (clsNe k 2 3 (by decide) (by decide) (by decide))
  | ifr t rs os => unfold RowO at hr; obtain ⟨b, dx2, u, q, x, vs, ws, e, h2, _⟩ := hr; cases e; rw [h0] at h2; exact absurd (HO.ins.inj (Option.some.inj h2)).1 (clsNe k 2 1 (by decide) (by decide) (by decide))
theorem RowO.ifr_of (k : kitO K A row test = true) (hr : RowO K A H r (.ref a)) (h0 : H a = some (.ins A.ifr dx fs)) : ∃ (t : TestM) (rs os : List RowM) (u : V) (q x : Addr) (vs ws : List V), r = .ifr t rs os ∧ fs = ([("test", u), ("rows", .ref q), ("others", .ref x)] : List (Str × V)) ∧ TestO K A H t u ∧ SqT K H q vs ∧ RowOs K A H rs vs ∧ SqT K H x ws ∧ RowOs K A H os ws := by
  cases r with
  | ifr t rs os => unfold RowO at hr; obtain ⟨b, dx2, u, q, x, vs, ws, e, h2, h3⟩ := hr; cases e; rw [h0] at h2; exact ⟨t, rs, os, u, q, x, vs, ws, rfl, (HO.ins.inj (Option.some.inj h2)).2.2, h3⟩
  | put n d g => unfold RowO at hr; obtain ⟨b, dx2, q, e, h2, h3⟩ := hr; cases e; rw [h0] at h2; exact absurd (HO.ins.inj (Option.some.inj h2)).1 (clsNe k 1 0 (by decide) (by decide) (by decide))
  | stop => unfold RowO at hr; obtain ⟨b, dx2, e, h2⟩ := hr; cases e; rw [h0] at h2; exact absurd (HO.ins.inj (Option.some.inj h2)).1 (clsNe k 1 3 (by decide) (by decide) (by decide))
  | times c rs => unfold RowO at hr; obtain ⟨b, dx2, q, vs, e, h2, _⟩ := hr; cases e; rw [h0] at h2; exact absurd (HO.ins.inj (Option.some.inj h2)).1 (clsNe k 1 2 (by decide) (by decide) (by decide))
end
end My
set_option Elab.async false
set_option linter.all false
set_option maxRecDepth 100000
set_option maxHeartbeats 4000000
set_option exponentiation.threshold 5000
namespace My
open PySem PySem.Spec PyProof.Rows L2 Evl
local macro_rules | `(tactic| walk_at "st") => `(tactic| simp only [L2.start, List.map_cons, List.map_nil, List.length_cons, List.length_nil, Nat.reduceAdd, Nat.reduceSub, List.replicate_succ, List.replicate_zero, List.cons_append, List.nil_append, cxOf, List.append_nil])
local macro_rules | `(tactic| walk_at "vc") => `(tactic| try simp only [tSeq, tAsg, tOp, tUn, tVar, tC, tNil, tCons, gName, rI, rI0, rU, tRet, tIfS, tNot, tAnd, tOr, tB, tTest, tCB, tCall, tAndV, tOrV, tNotV, tNext, tNever, tIf, tChain, tYes, tPart, tNoPart, tPar, tDrop, q_isi, q_vn, q_vb, q_vi, q_vs, kb1, kb2, kb3, kb4, kb5, kb6, kb7, kb8, q_int1, q_int2, q_min, q_max, q_repr, tLst, tTup, rEq, rNe, q_sii, q_sss, q_sbb, q_snn, q_sns, q_ssn, q_ix, q_sl, tSl, tBM, tBM0, q_app, q_pop, gSub, rSetL, L2.wipe, eq_self, decide_true, decide_false, tRevL,
  List.getElem?_cons_succ, List.getElem?_cons_zero, List.set_cons_succ, List.set_cons_zero, Option.some.injEq, exists_eq_left', exists_eq_left, V.int.injEq, V.bl.injEq, V.ref.injEq, V.str.injEq, List.cons.injEq, and_true, true_and, List.append_nil, List.nil_append, List.cons_append, exists_and_left, and_assoc, if_true, if_false, Bool.not_true, Bool.not_false, Bool.false_eq_true, Bool.true_eq_false, reduceIte, tRevL, tPar3, tRevT, tUnl, tCKw, forall_const, Bool.not_eq_true', decide_eq_true_eq, decide_eq_false_iff_not])
def inCls (s : Stmt) (j : Nat) : Stmt := match s with
  | .ClassDef (body := b) .. => b.getD j (.Pass ⟨0, 0, 0, 0⟩)
  | _ => s
def topS (i : Nat) : Stmt := PySem.Challenge.pw_everybase_k15_sheets.main.body.getD i (.Pass ⟨0, 0, 0, 0⟩)
abbrev s_is_integer : Stmt := topS 14
abbrev N_is_integer : List Str := ["value"]
theorem sc_is_integer : FnScope N_is_integer ["value"] (defScope s_is_integer) := ⟨rfl, rfl, rfl, by decide +kernel, rfl, by decide +kernel, by decide +kernel⟩
abbrev s_is_number : Stmt := topS 15
abbrev N_is_number : List Str := ["value"]
theorem sc_is_number : FnScope N_is_number ["value"] (defScope s_is_number) := ⟨rfl, rfl, rfl, by decide +kernel, rfl, by decide +kernel, by decide +kernel⟩
abbrev s_is_name : Stmt := topS 17
abbrev N_is_name : List Str := ["value", "one"]
theorem sc_is_name : FnScope N_is_name ["value"] (defScope s_is_name) := ⟨rfl, rfl, rfl, by decide +kernel, rfl, by decide +kernel, by decide +kernel⟩
abbrev s_are_rows : Stmt := topS 30
abbrev N_are_rows : List Str := ["value", "one"]
theorem sc_are_rows : FnScope N_are_rows ["value"] (defScope s_are_rows) := ⟨rfl, rfl, rfl, by decide +kernel, rfl, by decide +kernel, by decide +kernel⟩
abbrev s_texts : Stmt := topS 31
abbrev N_texts : List Str := ["rows", "row"]
theorem sc_texts : FnScope N_texts ["rows"] (defScope s_texts) := ⟨rfl, rfl, rfl, by decide +kernel, rfl, by decide +kernel, by decide +kernel⟩
abbrev s_needed : Stmt := topS 32
abbrev N_needed : List Str := ["deed", "many"]
theorem sc_needed : FnScope N_needed ["deed", "many"] (defScope s_needed) := ⟨rfl, rfl, rfl, by decide +kernel, rfl, by decide +kernel, by decide +kernel⟩
abbrev s_fits : Stmt := topS 33
abbrev N_fits : List Str := ["deed", "given", "kinds", "kind", "one"]
theorem sc_fits : FnScope N_fits ["deed", "given"] (defScope s_fits) := ⟨rfl, rfl, rfl, by decide +kernel, rfl, by decide +kernel, by decide +kernel⟩
abbrev s_is_of : Stmt := topS 34
abbrev N_is_of : List Str := ["kind", "value"]
theorem sc_is_of : FnScope N_is_of ["kind", "value"] (defScope s_is_of) := ⟨rfl, rfl, rfl, by decide +kernel, rfl, by decide +kernel, by decide +kernel⟩
abbrev s_inner : Stmt := topS 36
abbrev N_inner : List Str := ["row"]
theorem sc_inner : FnScope N_inner ["row"] (defScope s_inner) := ⟨rfl, rfl, rfl, by decide +kernel, rfl, by decide +kernel, by decide +kernel⟩
abbrev s_flat : Stmt := topS 37
abbrev N_flat : List Str := ["rows", "found", "row"]
theorem sc_flat : FnScope N_flat ["rows"] (defScope s_flat) := ⟨rfl, rfl, rfl, by decide +kernel, rfl, by decide +kernel, by decide +kernel⟩
abbrev s_names_in : Stmt := topS 39
abbrev N_names_in : List Str := ["rows", "found", "row", "name"]
theorem sc_names_in : FnScope N_names_in ["rows"] (defScope s_names_in) := ⟨rfl, rfl, rfl, by decide +kernel, rfl, by decide +kernel, by decide +kernel⟩
abbrev s_bare : Stmt := topS 40
abbrev N_bare : List Str := ["test", "alike"]
theorem sc_bare : FnScope N_bare ["test"] (defScope s_bare) := ⟨rfl, rfl, rfl, by decide +kernel, rfl, by decide +kernel, by decide +kernel⟩
abbrev s_named : Stmt := topS 42
abbrev N_named : List Str := ["row", "one"]
theorem sc_named : FnScope N_named ["row"] (defScope s_named) := ⟨rfl, rfl, rfl, by decide +kernel, rfl, by decide +kernel, by decide +kernel⟩
abbrev s_law_deal : Stmt := topS 91
abbrev N_law_deal : List Str := ["_law_script", "_law_radix", "_law_cells", "_law_seed", "_law_cell"]
theorem sc_law_deal : FnScope N_law_deal ["_law_script", "_law_radix"] (defScope s_law_deal) := ⟨rfl, rfl, rfl, by decide +kernel, rfl, by decide +kernel, by decide +kernel⟩
abbrev s_law_draw : Stmt := topS 92
abbrev N_law_draw : List Str := ["_law_deal_here", "_law_amount", "_law_digit"]
theorem sc_law_draw : FnScope N_law_draw ["_law_deal_here", "_law_amount"] (defScope s_law_draw) := ⟨rfl, rfl, rfl, by decide +kernel, rfl, by decide +kernel, by decide +kernel⟩
abbrev s_law_pick : Stmt := topS 93
abbrev N_law_pick : List Str := ["_law_deal_here", "_law_some"]
theorem sc_law_pick : FnScope N_law_pick ["_law_deal_here", "_law_some"] (defScope s_law_pick) := ⟨rfl, rfl, rfl, by decide +kernel, rfl, by decide +kernel, by decide +kernel⟩
abbrev s_law_words : Stmt := topS 94
abbrev N_law_words : List Str := ["_law_deal_here", "_law_amount", "_law_letters", "_law_kept", "_law_found", "_law_k", "_law_word", "_law_at", "_law_one"]
theorem sc_law_words : FnScope N_law_words ["_law_deal_here", "_law_amount"] (defScope s_law_words) := ⟨rfl, rfl, rfl, by decide +kernel, rfl, by decide +kernel, by decide +kernel⟩
abbrev s_law_kinds : Stmt := topS 95
abbrev N_law_kinds : List Str := ["_law_found", "_law_deed_here"]
theorem sc_law_kinds : FnScope N_law_kinds [] (defScope s_law_kinds) := ⟨rfl, rfl, rfl, by decide +kernel, rfl, by decide +kernel, by decide +kernel⟩
abbrev s_law_put : Stmt := topS 96
abbrev N_law_put : List Str := ["_law_deal_here", "_law_names", "_law_most", "_law_kinds_here", "_law_deed_here", "_law_args", "_law_kind", "_law_number", "_law_one", "_law_k"]
theorem sc_law_put : FnScope N_law_put ["_law_deal_here", "_law_names", "_law_most"] (defScope s_law_put) := ⟨rfl, rfl, rfl, by decide +kernel, rfl, by decide +kernel, by decide +kernel⟩
abbrev s_law_ask : Stmt := topS 97
abbrev N_law_ask : List Str := ["_law_deal_here", "_law_names", "_law_down", "_law_word", "_law_some", "_law_k"]
theorem sc_law_ask : FnScope N_law_ask ["_law_deal_here", "_law_names", "_law_down"] (defScope s_law_ask) := ⟨rfl, rfl, rfl, by decide +kernel, rfl, by decide +kernel, by decide +kernel⟩
abbrev s_law_count : Stmt := topS 98
abbrev N_law_count : List Str := ["_law_row", "_law_one"]
theorem sc_law_count : FnScope N_law_count ["_law_row"] (defScope s_law_count) := ⟨rfl, rfl, rfl, by decide +kernel, rfl, by decide +kernel, by decide +kernel⟩
abbrev s_law_rows : Stmt := topS 99
abbrev N_law_rows : List Str := ["_law_deal_here", "_law_names", "_law_room", "_law_down", "_law_most", "_law_found", "_law_left", "_law_form", "_law_row", "_law_rows_here", "_law_rest", "_law_test", "_law_one"]
theorem sc_law_rows : FnScope N_law_rows ["_law_deal_here", "_law_names", "_law_room", "_law_down", "_law_most"] (defScope s_law_rows) := ⟨rfl, rfl, rfl, by decide +kernel, rfl, by decide +kernel, by decide +kernel⟩
abbrev s_law_ask_text : Stmt := topS 100
abbrev N_law_ask_text : List Str := ["_law_test"]
theorem sc_law_ask_text : FnScope N_law_ask_text ["_law_test"] (defScope s_law_ask_text) := ⟨rfl, rfl, rfl, by decide +kernel, rfl, by decide +kernel, by decide +kernel⟩
abbrev s_law_lines : Stmt := topS 101
abbrev N_law_lines : List Str := ["_law_row", "_law_words_here", "_law_inner", "_law_arg"]
theorem sc_law_lines : FnScope N_law_lines ["_law_row"] (defScope s_law_lines) := ⟨rfl, rfl, rfl, by decide +kernel, rfl, by decide +kernel, by decide +kernel⟩
abbrev s_law_all_lines : Stmt := topS 102
abbrev N_law_all_lines : List Str := ["_law_rows_here", "_law_found", "_law_row"]
theorem sc_law_all_lines : FnScope N_law_all_lines ["_law_rows_here"] (defScope s_law_all_lines) := ⟨rfl, rfl, rfl, by decide +kernel, rfl, by decide +kernel, by decide +kernel⟩
abbrev s_law_ask_of : Stmt := topS 103
abbrev N_law_ask_of : List Str := ["_law_test"]
theorem sc_law_ask_of : FnScope N_law_ask_of ["_law_test"] (defScope s_law_ask_of) := ⟨rfl, rfl, rfl, by decide +kernel, rfl, by decide +kernel, by decide +kernel⟩
abbrev s_law_row_of : Stmt := topS 104
abbrev N_law_row_of : List Str := ["_law_row", "_law_others", "_law_args", "_law_one"]
theorem sc_law_row_of : FnScope N_law_row_of ["_law_row"] (defScope s_law_row_of) := ⟨rfl, rfl, rfl, by decide +kernel, rfl, by decide +kernel, by decide +kernel⟩
abbrev s_law_deed : Stmt := topS 105
abbrev N_law_deed : List Str := ["_law_sheet", "_law_form", "_law_at", "_law_row", "_law_found", "e"]
theorem sc_law_deed : FnScope N_law_deed ["_law_sheet", "_law_form", "_law_at", "_law_row"] (defScope s_law_deed) := ⟨rfl, rfl, rfl, by decide +kernel, rfl, by decide +kernel, by decide +kernel⟩
abbrev s_law_begun : Stmt := topS 106
abbrev N_law_begun : List Str := ["_law_thing", "_law_found", "e"]
theorem sc_law_begun : FnScope N_law_begun ["_law_thing"] (defScope s_law_begun) := ⟨rfl, rfl, rfl, by decide +kernel, rfl, by decide +kernel, by decide +kernel⟩
abbrev s_law_alike : Stmt := topS 107
abbrev N_law_alike : List Str := ["_law_sheet", "_law_models", "_law_k", "_law_one"]
theorem sc_law_alike : FnScope N_law_alike ["_law_sheet", "_law_models"] (defScope s_law_alike) := ⟨rfl, rfl, rfl, by decide +kernel, rfl, by decide +kernel, by decide +kernel⟩
abbrev s_law : Stmt := topS 108
abbrev N_law : List Str := ["_law_script", "_law_deal_here", "_law_names", "_law_models", "_law_rows_here", "_law_sheet", "_law_one_side", "_law_built", "_law_kept", "_law_turn", "_law_form", "_law_at", "_law_other", "_law_row", "_law_due", "_law_stands", "_law_thing", "_law_one"]
theorem sc_law : FnScope N_law ["_law_script"] (defScope s_law) := ⟨rfl, rfl, rfl, by decide +kernel, rfl, by decide +kernel, by decide +kernel⟩
abbrev s_NoRow_init : Stmt := inCls (topS 10) 0
abbrev N_NoRow_init : List Str := ["self", "at"]
theorem sc_NoRow_init : FnScope N_NoRow_init ["self", "at"] (defScope s_NoRow_init) := ⟨rfl, rfl, rfl, by decide +kernel, rfl, by decide +kernel, by decide +kernel⟩
abbrev s_InvalidRow_init : Stmt := inCls (topS 7) 0
abbrev N_InvalidRow_init : List Str := ["self", "word"]
theorem sc_InvalidRow_init : FnScope N_InvalidRow_init ["self", "word"] (defScope s_InvalidRow_init) := ⟨rfl, rfl, rfl, by decide +kernel, rfl, by decide +kernel, by decide +kernel⟩
abbrev s_Put_init : Stmt := inCls (topS 24) 0
abbrev N_Put_init : List Str := ["self", "name", "deed", "given"]
theorem sc_Put_init : FnScope N_Put_init ["self", "name", "deed", "given"] (defScope s_Put_init) := ⟨rfl, rfl, rfl, by decide +kernel, rfl, by decide +kernel, by decide +kernel⟩
abbrev s_Put_eq : Stmt := inCls (topS 24) 1
abbrev N_Put_eq : List Str := ["self", "other"]
theorem sc_Put_eq : FnScope N_Put_eq ["self", "other"] (defScope s_Put_eq) := ⟨rfl, rfl, rfl, by decide +kernel, rfl, by decide +kernel, by decide +kernel⟩
abbrev s_Put_str : Stmt := inCls (topS 24) 2
abbrev N_Put_str : List Str := ["self", "given", "one"]
theorem sc_Put_str : FnScope N_Put_str ["self"] (defScope s_Put_str) := ⟨rfl, rfl, rfl, by decide +kernel, rfl, by decide +kernel, by decide +kernel⟩
abbrev s_If_init : Stmt := inCls (topS 25) 0
abbrev N_If_init : List Str := ["self", "test", "rows", "others"]
theorem sc_If_init : FnScope N_If_init ["self", "test", "rows", "others"] (defScope s_If_init) := ⟨rfl, rfl, rfl, by decide +kernel, rfl, by decide +kernel, by decide +kernel⟩
abbrev s_If_eq : Stmt := inCls (topS 25) 1
abbrev N_If_eq : List Str := ["self", "other"]
theorem sc_If_eq : FnScope N_If_eq ["self", "other"] (defScope s_If_eq) := ⟨rfl, rfl, rfl, by decide +kernel, rfl, by decide +kernel, by decide +kernel⟩
abbrev s_If_str : Stmt := inCls (topS 25) 2
abbrev N_If_str : List Str := ["self", "lines"]
theorem sc_If_str : FnScope N_If_str ["self"] (defScope s_If_str) := ⟨rfl, rfl, rfl, by decide +kernel, rfl, by decide +kernel, by decide +kernel⟩
abbrev s_Times_init : Stmt := inCls (topS 26) 0
abbrev N_Times_init : List Str := ["self", "count", "rows"]
theorem sc_Times_init : FnScope N_Times_init ["self", "count", "rows"] (defScope s_Times_init) := ⟨rfl, rfl, rfl, by decide +kernel, rfl, by decide +kernel, by decide +kernel⟩
abbrev s_Times_eq : Stmt := inCls (topS 26) 1
abbrev N_Times_eq : List Str := ["self", "other"]
theorem sc_Times_eq : FnScope N_Times_eq ["self", "other"] (defScope s_Times_eq) := ⟨rfl, rfl, rfl, by decide +kernel, rfl, by decide +kernel, by decide +kernel⟩
abbrev s_Times_str : Stmt := inCls (topS 26) 2
abbrev N_Times_str : List Str := ["self"]
theorem sc_Times_str : FnScope N_Times_str ["self"] (defScope s_Times_str) := ⟨rfl, rfl, rfl, by decide +kernel, rfl, by decide +kernel, by decide +kernel⟩
abbrev s_Stop_eq : Stmt := inCls (topS 27) 0
abbrev N_Stop_eq : List Str := ["self", "other"]
theorem sc_Stop_eq : FnScope N_Stop_eq ["self", "other"] (defScope s_Stop_eq) := ⟨rfl, rfl, rfl, by decide +kernel, rfl, by decide +kernel, by decide +kernel⟩
abbrev s_Stop_str : Stmt := inCls (topS 27) 1
abbrev N_Stop_str : List Str := ["self"]
theorem sc_Stop_str : FnScope N_Stop_str ["self"] (defScope s_Stop_str) := ⟨rfl, rfl, rfl, by decide +kernel, rfl, by decide +kernel, by decide +kernel⟩
abbrev s_Ask_init : Stmt := inCls (topS 28) 0
abbrev N_Ask_init : List Str := ["self", "word", "names", "one"]
theorem sc_Ask_init : FnScope N_Ask_init ["self", "word", "names"] (defScope s_Ask_init) := ⟨rfl, rfl, rfl, by decide +kernel, rfl, by decide +kernel, by decide +kernel⟩
abbrev s_Ask_eq : Stmt := inCls (topS 28) 1
abbrev N_Ask_eq : List Str := ["self", "other"]
theorem sc_Ask_eq : FnScope N_Ask_eq ["self", "other"] (defScope s_Ask_eq) := ⟨rfl, rfl, rfl, by decide +kernel, rfl, by decide +kernel, by decide +kernel⟩
abbrev s_Ask_str : Stmt := inCls (topS 28) 2
abbrev N_Ask_str : List Str := ["self"]
theorem sc_Ask_str : FnScope N_Ask_str ["self"] (defScope s_Ask_str) := ⟨rfl, rfl, rfl, by decide +kernel, rfl, by decide +kernel, by decide +kernel⟩
abbrev s_Not_init : Stmt := inCls (topS 29) 0
abbrev N_Not_init : List Str := ["self", "test"]
theorem sc_Not_init : FnScope N_Not_init ["self", "test"] (defScope s_Not_init) := ⟨rfl, rfl, rfl, by decide +kernel, rfl, by decide +kernel, by decide +kernel⟩
abbrev s_Not_eq : Stmt := inCls (topS 29) 1
abbrev N_Not_eq : List Str := ["self", "other"]
theorem sc_Not_eq : FnScope N_Not_eq ["self", "other"] (defScope s_Not_eq) := ⟨rfl, rfl, rfl, by decide +kernel, rfl, by decide +kernel, by decide +kernel⟩
abbrev s_Not_str : Stmt := inCls (topS 29) 2
abbrev N_Not_str : List Str := ["self"]
theorem sc_Not_str : FnScope N_Not_str ["self"] (defScope s_Not_str) := ⟨rfl, rfl, rfl, by decide +kernel, rfl, by decide +kernel, by decide +kernel⟩
abbrev s_Program_init : Stmt := inCls (topS 87) 0
abbrev N_Program_init : List Str := ["self", "rows"]
theorem sc_Program_init : FnScope N_Program_init ["self", "rows"] (defScope s_Program_init) := ⟨rfl, rfl, rfl, by decide +kernel, rfl, by decide +kernel, by decide +kernel⟩
abbrev s_Program_str : Stmt := inCls (topS 87) 10
abbrev N_Program_str : List Str := ["self"]
theorem sc_Program_str : FnScope N_Program_str ["self"] (defScope s_Program_str) := ⟨rfl, rfl, rfl, by decide +kernel, rfl, by decide +kernel, by decide +kernel⟩
abbrev s_Sheet_init : Stmt := inCls (topS 88) 0
abbrev N_Sheet_init : List Str := ["self", "rows"]
theorem sc_Sheet_init : FnScope N_Sheet_init ["self", "rows"] (defScope s_Sheet_init) := ⟨rfl, rfl, rfl, by decide +kernel, rfl, by decide +kernel, by decide +kernel⟩
abbrev s_Sheet_drop : Stmt := inCls (topS 88) 1
abbrev N_Sheet_drop : List Str := ["self", "at"]
theorem sc_Sheet_drop : FnScope N_Sheet_drop ["self", "at"] (defScope s_Sheet_drop) := ⟨rfl, rfl, rfl, by decide +kernel, rfl, by decide +kernel, by decide +kernel⟩
abbrev s_Sheet_made : Stmt := inCls (topS 88) 2
abbrev N_Sheet_made : List Str := ["self"]
theorem sc_Sheet_made : FnScope N_Sheet_made ["self"] (defScope s_Sheet_made) := ⟨rfl, rfl, rfl, by decide +kernel, rfl, by decide +kernel, by decide +kernel⟩
abbrev s_Sheet_len : Stmt := inCls (topS 88) 5
abbrev N_Sheet_len : List Str := ["self"]
theorem sc_Sheet_len : FnScope N_Sheet_len ["self"] (defScope s_Sheet_len) := ⟨rfl, rfl, rfl, by decide +kernel, rfl, by decide +kernel, by decide +kernel⟩
abbrev s_Sheet_getitem : Stmt := inCls (topS 88) 6
abbrev N_Sheet_getitem : List Str := ["self", "at"]
theorem sc_Sheet_getitem : FnScope N_Sheet_getitem ["self", "at"] (defScope s_Sheet_getitem) := ⟨rfl, rfl, rfl, by decide +kernel, rfl, by decide +kernel, by decide +kernel⟩
abbrev s_Sheet_setitem : Stmt := inCls (topS 88) 7
abbrev N_Sheet_setitem : List Str := ["self", "at", "worth"]
theorem sc_Sheet_setitem : FnScope N_Sheet_setitem ["self", "at", "worth"] (defScope s_Sheet_setitem) := ⟨rfl, rfl, rfl, by decide +kernel, rfl, by decide +kernel, by decide +kernel⟩
abbrev s_Sheet_iadd : Stmt := inCls (topS 88) 9
abbrev N_Sheet_iadd : List Str := ["self", "other"]
theorem sc_Sheet_iadd : FnScope N_Sheet_iadd ["self", "other"] (defScope s_Sheet_iadd) := ⟨rfl, rfl, rfl, by decide +kernel, rfl, by decide +kernel, by decide +kernel⟩
end My
set_option Elab.async false
set_option linter.all false
set_option maxRecDepth 100000
set_option maxHeartbeats 4000000
set_option exponentiation.threshold 5000
namespace My
open PySem PySem.Spec PyProof.Rows L2 Evl
local macro_rules | `(tactic| walk_at "st") => `(tactic| simp only [L2.start, List.map_cons, List.map_nil, List.length_cons, List.length_nil, Nat.reduceAdd, Nat.reduceSub, List.replicate_succ, List.replicate_zero, List.cons_append, List.nil_append, cxOf, List.append_nil])
local macro_rules | `(tactic| walk_at "vc") => `(tactic| try simp only [tSeq, tAsg, tOp, tUn, tVar, tC, tNil, tCons, gName, rI, rI0, rU, tRet, tIfS, tNot, tAnd, tOr, tB, tTest, tCB, tCall, tAndV, tOrV, tNotV, tNext, tNever, tIf, tChain, tYes, tPart, tNoPart, tPar, tDrop, q_isi, q_vn, q_vb, q_vi, q_vs, kb1, kb2, kb3, kb4, kb5, kb6, kb7, kb8, q_int1, q_int2, q_min, q_max, q_repr, tLst, tTup, rEq, rNe, q_sii, q_sss, q_sbb, q_snn, q_sns, q_ssn, q_ix, q_sl, tSl, tBM, tBM0, q_app, q_pop, gSub, rSetL, L2.wipe, eq_self, decide_true, decide_false, tRevL,
  List.getElem?_cons_succ, List.getElem?_cons_zero, List.set_cons_succ, List.set_cons_zero, Option.some.injEq, exists_eq_left', exists_eq_left, V.int.injEq, V.bl.injEq, V.ref.injEq, V.str.injEq, List.cons.injEq, and_true, true_and, List.append_nil, List.nil_append, List.cons_append, exists_and_left, and_assoc, if_true, if_false, Bool.not_true, Bool.not_false, Bool.false_eq_true, Bool.true_eq_false, reduceIte, tRevL, tPar3, tRevT, tUnl, tCKw, forall_const, Bool.not_eq_true', decide_eq_true_eq, decide_eq_false_iff_not])
abbrev tlV : List Value := [.type "ValueError", .type "Exception", .type "BaseException", .type "object"]
abbrev tlI : List Value := [.type "IndexError", .type "LookupError", .type "Exception", .type "BaseException", .type "object"]
def D_is_integer : He.DefD := ⟨("is_integer", none), "is_integer", "is_integer", defArgs s_is_integer, defBody s_is_integer, defScope s_is_integer, [], []⟩
def D_is_number : He.DefD := ⟨("is_number", none), "is_number", "is_number", defArgs s_is_number, defBody s_is_number, defScope s_is_number, [], []⟩
def D_is_name : He.DefD := ⟨("is_name", none), "is_name", "is_name", defArgs s_is_name, defBody s_is_name, defScope s_is_name, [], []⟩
def D_are_rows : He.DefD := ⟨("are_rows", none), "are_rows", "are_rows", defArgs s_are_rows, defBody s_are_rows, defScope s_are_rows, [], []⟩
def D_texts : He.DefD := ⟨("texts", none), "texts", "texts", defArgs s_texts, defBody s_texts, defScope s_texts, [], []⟩
def D_needed : He.DefD := ⟨("needed", none), "needed", "needed", defArgs s_needed, defBody s_needed, defScope s_needed, [], []⟩
def D_fits : He.DefD := ⟨("_fits", none), "_fits", "_fits", defArgs s_fits, defBody s_fits, defScope s_fits, [], []⟩
def D_is_of : He.DefD := ⟨("_is_of", none), "_is_of", "_is_of", defArgs s_is_of, defBody s_is_of, defScope s_is_of, [], []⟩
def D_inner : He.DefD := ⟨("inner", none), "inner", "inner", defArgs s_inner, defBody s_inner, defScope s_inner, [], []⟩
def D_flat : He.DefD := ⟨("flat", none), "flat", "flat", defArgs s_flat, defBody s_flat, defScope s_flat, [], []⟩
def D_names_in : He.DefD := ⟨("names_in", none), "names_in", "names_in", defArgs s_names_in, defBody s_names_in, defScope s_names_in, [], []⟩
def D_bare : He.DefD := ⟨("bare", none), "bare", "bare", defArgs s_bare, defBody s_bare, defScope s_bare, [], []⟩
def D_named : He.DefD := ⟨("_named", none), "_named", "_named", defArgs s_named, defBody s_named, defScope s_named, [], []⟩
def D_law_deal : He.DefD := ⟨("_law_deal", none), "_law_deal", "_law_deal", defArgs s_law_deal, defBody s_law_deal, defScope s_law_deal, [], []⟩
def D_law_draw : He.DefD := ⟨("_law_draw", none), "_law_draw", "_law_draw", defArgs s_law_draw, defBody s_law_draw, defScope s_law_draw, [], []⟩
def D_law_pick : He.DefD := ⟨("_law_pick", none), "_law_pick", "_law_pick", defArgs s_law_pick, defBody s_law_pick, defScope s_law_pick, [], []⟩
def D_law_words : He.DefD := ⟨("_law_words", none), "_law_words", "_law_words", defArgs s_law_words, defBody s_law_words, defScope s_law_words, [], []⟩
def D_law_kinds : He.DefD := ⟨("_law_kinds", none), "_law_kinds", "_law_kinds", defArgs s_law_kinds, defBody s_law_kinds, defScope s_law_kinds, [], []⟩
def D_law_put : He.DefD := ⟨("_law_put", none), "_law_put", "_law_put", defArgs s_law_put, defBody s_law_put, defScope s_law_put, [], []⟩
def D_law_ask : He.DefD := ⟨("_law_ask", none), "_law_ask", "_law_ask", defArgs s_law_ask, defBody s_law_ask, defScope s_law_ask, [], []⟩
def D_law_count : He.DefD := ⟨("_law_count", none), "_law_count", "_law_count", defArgs s_law_count, defBody s_law_count, defScope s_law_count, [], []⟩
def D_law_rows : He.DefD := ⟨("_law_rows", none), "_law_rows", "_law_rows", defArgs s_law_rows, defBody s_law_rows, defScope s_law_rows, [], []⟩
def D_law_ask_text : He.DefD := ⟨("_law_ask_text", none), "_law_ask_text", "_law_ask_text", defArgs s_law_ask_text, defBody s_law_ask_text, defScope s_law_ask_text, [], []⟩
def D_law_lines : He.DefD := ⟨("_law_lines", none), "_law_lines", "_law_lines", defArgs s_law_lines, defBody s_law_lines, defScope s_law_lines, [], []⟩
def D_law_all_lines : He.DefD := ⟨("_law_all_lines", none), "_law_all_lines", "_law_all_lines", defArgs s_law_all_lines, defBody s_law_all_lines, defScope s_law_all_lines, [], []⟩
def D_law_ask_of : He.DefD := ⟨("_law_ask_of", none), "_law_ask_of", "_law_ask_of", defArgs s_law_ask_of, defBody s_law_ask_of, defScope s_law_ask_of, [], []⟩
def D_law_row_of : He.DefD := ⟨("_law_row_of", none), "_law_row_of", "_law_row_of", defArgs s_law_row_of, defBody s_law_row_of, defScope s_law_row_of, [], []⟩
def D_law_deed : He.DefD := ⟨("_law_deed", none), "_law_deed", "_law_deed", defArgs s_law_deed, defBody s_law_deed, defScope s_law_deed, [], []⟩
def D_law_begun : He.DefD := ⟨("_law_begun", none), "_law_begun", "_law_begun", defArgs s_law_begun, defBody s_law_begun, defScope s_law_begun, [], []⟩
def D_law_alike : He.DefD := ⟨("_law_alike", none), "_law_alike", "_law_alike", defArgs s_law_alike, defBody s_law_alike, defScope s_law_alike, [], []⟩
def D_law : He.DefD := ⟨("law", none), "law", "law", defArgs s_law, defBody s_law, defScope s_law, [], []⟩
def D_NoRow_init : He.DefD := ⟨("NoRow", some "__init__"), "__init__", "NoRow.__init__", defArgs s_NoRow_init, defBody s_NoRow_init, defScope s_NoRow_init, [], []⟩
def D_InvalidRow_init : He.DefD := ⟨("InvalidRow", some "__init__"), "__init__", "InvalidRow.__init__", defArgs s_InvalidRow_init, defBody s_InvalidRow_init, defScope s_InvalidRow_init, [], []⟩
def D_Put_init : He.DefD := ⟨("Put", some "__init__"), "__init__", "Put.__init__", defArgs s_Put_init, defBody s_Put_init, defScope s_Put_init, [], []⟩
def D_Put_eq : He.DefD := ⟨("Put", some "__eq__"), "__eq__", "Put.__eq__", defArgs s_Put_eq, defBody s_Put_eq, defScope s_Put_eq, [], []⟩
def D_Put_str : He.DefD := ⟨("Put", some "__str__"), "__str__", "Put.__str__", defArgs s_Put_str, defBody s_Put_str, defScope s_Put_str, [], []⟩
def D_If_init : He.DefD := ⟨("If", some "__init__"), "__init__", "If.__init__", defArgs s_If_init, defBody s_If_init, defScope s_If_init, [.adr (He.dflAt ("If", some "__init__") 0)], []⟩
def D_If_eq : He.DefD := ⟨("If", some "__eq__"), "__eq__", "If.__eq__", defArgs s_If_eq, defBody s_If_eq, defScope s_If_eq, [], []⟩
def D_If_str : He.DefD := ⟨("If", some "__str__"), "__str__", "If.__str__", defArgs s_If_str, defBody s_If_str, defScope s_If_str, [], []⟩
def D_Times_init : He.DefD := ⟨("Times", some "__init__"), "__init__", "Times.__init__", defArgs s_Times_init, defBody s_Times_init, defScope s_Times_init, [], []⟩
def D_Times_eq : He.DefD := ⟨("Times", some "__eq__"), "__eq__", "Times.__eq__", defArgs s_Times_eq, defBody s_Times_eq, defScope s_Times_eq, [], []⟩
def D_Times_str : He.DefD := ⟨("Times", some "__str__"), "__str__", "Times.__str__", defArgs s_Times_str, defBody s_Times_str, defScope s_Times_str, [], []⟩
def D_Stop_eq : He.DefD := ⟨("Stop", some "__eq__"), "__eq__", "Stop.__eq__", defArgs s_Stop_eq, defBody s_Stop_eq, defScope s_Stop_eq, [], []⟩
def D_Stop_str : He.DefD := ⟨("Stop", some "__str__"), "__str__", "Stop.__str__", defArgs s_Stop_str, defBody s_Stop_str, defScope s_Stop_str, [], []⟩
def D_Ask_init : He.DefD := ⟨("Ask", some "__init__"), "__init__", "Ask.__init__", defArgs s_Ask_init, defBody s_Ask_init, defScope s_Ask_init, [], []⟩
def D_Ask_eq : He.DefD := ⟨("Ask", some "__eq__"), "__eq__", "Ask.__eq__", defArgs s_Ask_eq, defBody s_Ask_eq, defScope s_Ask_eq, [], []⟩
def D_Ask_str : He.DefD := ⟨("Ask", some "__str__"), "__str__", "Ask.__str__", defArgs s_Ask_str, defBody s_Ask_str, defScope s_Ask_str, [], []⟩
def D_Not_init : He.DefD := ⟨("Not", some "__init__"), "__init__", "Not.__init__", defArgs s_Not_init, defBody s_Not_init, defScope s_Not_init, [], []⟩
def D_Not_eq : He.DefD := ⟨("Not", some "__eq__"), "__eq__", "Not.__eq__", defArgs s_Not_eq, defBody s_Not_eq, defScope s_Not_eq, [], []⟩
def D_Not_str : He.DefD := ⟨("Not", some "__str__"), "__str__", "Not.__str__", defArgs s_Not_str, defBody s_Not_str, defScope s_Not_str, [], []⟩
def D_Program_init : He.DefD := ⟨("Program", some "__init__"), "__init__", "Program.__init__", defArgs s_Program_init, defBody s_Program_init, defScope s_Program_init, [.adr (He.dflAt ("Program", some "__init__") 0)], []⟩
def D_Program_str : He.DefD := ⟨("Program", some "__str__"), "__str__", "Program.__str__", defArgs s_Program_str, defBody s_Program_str, defScope s_Program_str, [], []⟩
def D_Sheet_init : He.DefD := ⟨("Sheet", some "__init__"), "__init__", "Sheet.__init__", defArgs s_Sheet_init, defBody s_Sheet_init, defScope s_Sheet_init, [.adr (He.dflAt ("Sheet", some "__init__") 0)], []⟩
def D_Sheet_drop : He.DefD := ⟨("Sheet", some "drop"), "drop", "Sheet.drop", defArgs s_Sheet_drop, defBody s_Sheet_drop, defScope s_Sheet_drop, [], []⟩
def D_Sheet_made : He.DefD := ⟨("Sheet", some "made"), "made", "Sheet.made", defArgs s_Sheet_made, defBody s_Sheet_made, defScope s_Sheet_made, [], []⟩
def D_Sheet_len : He.DefD := ⟨("Sheet", some "__len__"), "__len__", "Sheet.__len__", defArgs s_Sheet_len, defBody s_Sheet_len, defScope s_Sheet_len, [], []⟩
def D_Sheet_getitem : He.DefD := ⟨("Sheet", some "__getitem__"), "__getitem__", "Sheet.__getitem__", defArgs s_Sheet_getitem, defBody s_Sheet_getitem, defScope s_Sheet_getitem, [], []⟩
def D_Sheet_setitem : He.DefD := ⟨("Sheet", some "__setitem__"), "__setitem__", "Sheet.__setitem__", defArgs s_Sheet_setitem, defBody s_Sheet_setitem, defScope s_Sheet_setitem, [], []⟩
def D_Sheet_iadd : He.DefD := ⟨("Sheet", some "__iadd__"), "__iadd__", "Sheet.__iadd__", defArgs s_Sheet_iadd, defBody s_Sheet_iadd, defScope s_Sheet_iadd, [], []⟩
def fnL : List He.DefD := [D_is_integer, D_is_number, D_is_name, D_are_rows, D_texts, D_needed, D_fits, D_is_of, D_inner, D_flat, D_names_in, D_bare, D_named, D_law_deal, D_law_draw, D_law_pick, D_law_words, D_law_kinds, D_law_put, D_law_ask, D_law_count, D_law_rows, D_law_ask_text, D_law_lines, D_law_all_lines, D_law_ask_of, D_law_row_of, D_law_deed, D_law_begun, D_law_alike, D_law, D_NoRow_init, D_InvalidRow_init, D_Put_init, D_Put_eq, D_Put_str, D_If_init, D_If_eq, D_If_str, D_Times_init, D_Times_eq, D_Times_str, D_Stop_eq, D_Stop_str, D_Ask_init, D_Ask_eq, D_Ask_str, D_Not_init, D_Not_eq, D_Not_str, D_Program_init, D_Program_str, D_Sheet_init, D_Sheet_drop, D_Sheet_made, D_Sheet_len, D_Sheet_getitem, D_Sheet_setitem, D_Sheet_iadd]
def tsL : List He.Tab := [(fun K => He.ga K "DEEDS", ["figures", "number", "base", "let", "+", "-", "*", "//", "rest", "**", "turned", "least", "greatest", "sum", "many", "root", "figure", "first", "last", "joined", "common", "lesser"]), (fun K => He.ga K "WORDS", ["same", "less", "divides", "mirrored", "unlike"])]
def fs0 (K : PySem.W.Frag) : List Bool := [decide (PySem.W.nsIn K mainGlobals "is_integer" = some (some (.ref (He.ga K "is_integer")))),
  decide (PySem.W.nsIn K mainGlobals "is_number" = some (some (.ref (He.ga K "is_number")))),
  decide (PySem.W.nsIn K mainGlobals "is_name" = some (some (.ref (He.ga K "is_name")))),
  decide (PySem.W.nsIn K mainGlobals "are_rows" = some (some (.ref (He.ga K "are_rows")))),
  decide (PySem.W.nsIn K mainGlobals "texts" = some (some (.ref (He.ga K "texts")))),
  decide (PySem.W.nsIn K mainGlobals "needed" = some (some (.ref (He.ga K "needed")))),
  decide (PySem.W.nsIn K mainGlobals "_fits" = some (some (.ref (He.ga K "_fits")))),
  decide (PySem.W.nsIn K mainGlobals "_is_of" = some (some (.ref (He.ga K "_is_of")))),
  decide (PySem.W.nsIn K mainGlobals "inner" = some (some (.ref (He.ga K "inner")))),
  decide (PySem.W.nsIn K mainGlobals "flat" = some (some (.ref (He.ga K "flat")))),
  decide (PySem.W.nsIn K mainGlobals "names_in" = some (some (.ref (He.ga K "names_in")))),
  decide (PySem.W.nsIn K mainGlobals "bare" = some (some (.ref (He.ga K "bare")))),
  decide (PySem.W.nsIn K mainGlobals "_named" = some (some (.ref (He.ga K "_named")))),
  decide (PySem.W.nsIn K mainGlobals "_law_deal" = some (some (.ref (He.ga K "_law_deal")))),
  decide (PySem.W.nsIn K mainGlobals "_law_draw" = some (some (.ref (He.ga K "_law_draw")))),
  decide (PySem.W.nsIn K mainGlobals "_law_pick" = some (some (.ref (He.ga K "_law_pick")))),
  decide (PySem.W.nsIn K mainGlobals "_law_words" = some (some (.ref (He.ga K "_law_words")))),
  decide (PySem.W.nsIn K mainGlobals "_law_kinds" = some (some (.ref (He.ga K "_law_kinds")))),
  decide (PySem.W.nsIn K mainGlobals "_law_put" = some (some (.ref (He.ga K "_law_put")))),
  decide (PySem.W.nsIn K mainGlobals "_law_ask" = some (some (.ref (He.ga K "_law_ask")))),
  decide (PySem.W.nsIn K mainGlobals "_law_count" = some (some (.ref (He.ga K "_law_count")))),
  decide (PySem.W.nsIn K mainGlobals "_law_rows" = some (some (.ref (He.ga K "_law_rows")))),
  decide (PySem.W.nsIn K mainGlobals "_law_ask_text" = some (some (.ref (He.ga K "_law_ask_text")))),
  decide (PySem.W.nsIn K mainGlobals "_law_lines" = some (some (.ref (He.ga K "_law_lines"))))]
def fs1 (K : PySem.W.Frag) : List Bool := [decide (PySem.W.nsIn K mainGlobals "_law_all_lines" = some (some (.ref (He.ga K "_law_all_lines")))),
  decide (PySem.W.nsIn K mainGlobals "_law_ask_of" = some (some (.ref (He.ga K "_law_ask_of")))),
  decide (PySem.W.nsIn K mainGlobals "_law_row_of" = some (some (.ref (He.ga K "_law_row_of")))),
  decide (PySem.W.nsIn K mainGlobals "_law_deed" = some (some (.ref (He.ga K "_law_deed")))),
  decide (PySem.W.nsIn K mainGlobals "_law_begun" = some (some (.ref (He.ga K "_law_begun")))),
  decide (PySem.W.nsIn K mainGlobals "_law_alike" = some (some (.ref (He.ga K "_law_alike")))),
  decide (PySem.W.nsIn K mainGlobals "law" = some (some (.ref (He.ga K "law"))))]
def fs2 (K : PySem.W.Frag) : List Bool := [decide (PySem.W.nsIn K mainGlobals "abs" = some none),
  decide (PySem.W.nsIn K mainGlobals "all" = some none),
  decide (PySem.W.nsIn K mainGlobals "bool" = some none),
  decide (PySem.W.nsIn K mainGlobals "enumerate" = some none),
  decide (PySem.W.nsIn K mainGlobals "int" = some none),
  decide (PySem.W.nsIn K mainGlobals "isinstance" = some none),
  decide (PySem.W.nsIn K mainGlobals "len" = some none),
  decide (PySem.W.nsIn K mainGlobals "list" = some none),
  decide (PySem.W.nsIn K mainGlobals "max" = some none),
  decide (PySem.W.nsIn K mainGlobals "range" = some none),
  decide (PySem.W.nsIn K mainGlobals "sorted" = some none),
  decide (PySem.W.nsIn K mainGlobals "str" = some none),
  decide (PySem.W.nsIn K mainGlobals "sum" = some none),
  decide (PySem.W.nsIn K mainGlobals "tuple" = some none),
  decide (PySem.W.nsIn K mainGlobals "zip" = some none)]
def fs3 (K : PySem.W.Frag) : List Bool := [decide (PySem.W.nsIn K mainGlobals "NoRow" = some (some (.ref (He.ga K "NoRow")))),
  excB K (He.ga K "NoRow") "IndexError.__new__" (refsTo tlI),
  decide (PySem.W.findIn K (.ref (He.ga K "NoRow")) "__setattr__" = some (some (.builtin "object.__setattr__"))),
  decide (PySem.W.findIn K (.ref (He.ga K "NoRow")) "__getattribute__" = some (some (.builtin "BaseException.__getattribute__"))),
  decide (PySem.W.findIn K (.ref (He.ga K "NoRow")) "__getattr__" = some none),
  PySem.W.keepIn K (.ref (He.ga K "NoRow")),
  decide (PySem.W.subIn K (.ref (He.ga K "NoRow")) (.type "BaseException") = some true),
  PySem.W.hasDictIn K (He.ga K "NoRow"),
  (PySem.W.clsIn K (He.ga K "NoRow")).isSome,
  decide (PySem.W.findIn K (.ref (He.ga K "NoRow")) "__class__" = some (some (.builtin "object.__class__"))),
  decide (PySem.W.mroIn K (He.ga K "NoRow") (.type "object") = some true),
  decide (PySem.W.typeIn K (.ref (He.ga K "NoRow")) = some (.type "type")),
  decide (PySem.W.exmOne K (.ref (He.ga K "NoRow")) (.ref (He.ga K "NoRow")) = some true),
  decide (PySem.W.exmOne K (.ref (He.ga K "NoRow")) (.ref (He.ga K "InvalidRow")) = some false),
  decide (PySem.W.findIn K (.ref (He.ga K "NoRow")) "at" = some none),
  decide (PySem.W.findIn K (.ref (He.ga K "NoRow")) "__init__" = some (some (.ref (He.ma K (He.ga K "NoRow") "__init__")))),
  decide (PySem.W.typeIn K (.ref (He.ma K (He.ga K "NoRow") "__init__")) = some (.type "function"))]
def fs4 (K : PySem.W.Frag) : List Bool := [decide (PySem.W.nsIn K mainGlobals "InvalidRow" = some (some (.ref (He.ga K "InvalidRow")))),
  excB K (He.ga K "InvalidRow") "ValueError.__new__" (refsTo tlV),
  decide (PySem.W.findIn K (.ref (He.ga K "InvalidRow")) "__setattr__" = some (some (.builtin "object.__setattr__"))),
  decide (PySem.W.findIn K (.ref (He.ga K "InvalidRow")) "__getattribute__" = some (some (.builtin "BaseException.__getattribute__"))),
  decide (PySem.W.findIn K (.ref (He.ga K "InvalidRow")) "__getattr__" = some none),
  PySem.W.keepIn K (.ref (He.ga K "InvalidRow")),
  decide (PySem.W.subIn K (.ref (He.ga K "InvalidRow")) (.type "BaseException") = some true),
  PySem.W.hasDictIn K (He.ga K "InvalidRow"),
  (PySem.W.clsIn K (He.ga K "InvalidRow")).isSome,
  decide (PySem.W.findIn K (.ref (He.ga K "InvalidRow")) "__class__" = some (some (.builtin "object.__class__"))),
  decide (PySem.W.mroIn K (He.ga K "InvalidRow") (.type "object") = some true),
  decide (PySem.W.typeIn K (.ref (He.ga K "InvalidRow")) = some (.type "type")),
  decide (PySem.W.exmOne K (.ref (He.ga K "InvalidRow")) (.ref (He.ga K "InvalidRow")) = some true),
  decide (PySem.W.exmOne K (.ref (He.ga K "InvalidRow")) (.ref (He.ga K "NoRow")) = some false),
  decide (PySem.W.findIn K (.ref (He.ga K "InvalidRow")) "word" = some none),
  decide (PySem.W.findIn K (.ref (He.ga K "InvalidRow")) "__init__" = some (some (.ref (He.ma K (He.ga K "InvalidRow") "__init__")))),
  decide (PySem.W.typeIn K (.ref (He.ma K (He.ga K "InvalidRow") "__init__")) = some (.type "function"))]
def fs5 (K : PySem.W.Frag) : List Bool := [decide (PySem.W.specialIn K (.builtin "object.__class__") "__get__" = some (some (.builtin "getset_descriptor.__get__"))),
  decide (PySem.W.takesIn K (.builtin "object.__class__") = some true)]
def fs6 (K : PySem.W.Frag) : List Bool := [decide (PySem.W.nsIn K mainGlobals "Put" = some (some (.ref (He.ga K "Put")))),
  PySem.W.plainGet K (He.ga K "Put") Str.empty,
  PySem.W.hasDictIn K (He.ga K "Put"),
  PySem.W.plainOver K (He.ga K "Put"),
  decide (PySem.W.findIn K (.ref (He.ga K "Put")) "__setattr__" = some (some (.builtin "object.__setattr__"))),
  decide (PySem.W.findIn K (.ref (He.ga K "Put")) "__class__" = some (some (.builtin "object.__class__"))),
  decide (PySem.W.mroIn K (He.ga K "Put") (.type "object") = some true),
  decide (PySem.W.findIn K (.ref (He.ga K "Put")) "__format__" = some (some (.builtin "object.__format__"))),
  decide (PySem.W.findIn K (.ref (He.ga K "Put")) "__ne__" = some (some (.builtin "object.__ne__"))),
  decide (PySem.W.findIn K (.ref (He.ga K "Put")) "name" = some none),
  decide (PySem.W.findIn K (.ref (He.ga K "Put")) "deed" = some none),
  decide (PySem.W.findIn K (.ref (He.ga K "Put")) "given" = some none),
  decide (PySem.W.findIn K (.ref (He.ga K "Put")) "__init__" = some (some (.ref (He.ma K (He.ga K "Put") "__init__")))),
  PySem.W.isFn K (.ref (He.ma K (He.ga K "Put") "__init__")),
  decide (PySem.W.findIn K (.ref (He.ga K "Put")) "__eq__" = some (some (.ref (He.ma K (He.ga K "Put") "__eq__")))),
  PySem.W.isFn K (.ref (He.ma K (He.ga K "Put") "__eq__")),
  decide (PySem.W.findIn K (.ref (He.ga K "Put")) "__str__" = some (some (.ref (He.ma K (He.ga K "Put") "__str__")))),
  PySem.W.isFn K (.ref (He.ma K (He.ga K "Put") "__str__")),
  PySem.W.makesIn K (He.ga K "Put"),
  PySem.W.keepIn K (.ref (He.ga K "Put"))]
def fs7 (K : PySem.W.Frag) : List Bool := [decide (PySem.W.nsIn K mainGlobals "If" = some (some (.ref (He.ga K "If")))),
  PySem.W.plainGet K (He.ga K "If") Str.empty,
  PySem.W.hasDictIn K (He.ga K "If"),
  PySem.W.plainOver K (He.ga K "If"),
  decide (PySem.W.findIn K (.ref (He.ga K "If")) "__setattr__" = some (some (.builtin "object.__setattr__"))),
  decide (PySem.W.findIn K (.ref (He.ga K "If")) "__class__" = some (some (.builtin "object.__class__"))),
  decide (PySem.W.mroIn K (He.ga K "If") (.type "object") = some true),
  decide (PySem.W.findIn K (.ref (He.ga K "If")) "__format__" = some (some (.builtin "object.__format__"))),
  decide (PySem.W.findIn K (.ref (He.ga K "If")) "__ne__" = some (some (.builtin "object.__ne__"))),
  decide (PySem.W.findIn K (.ref (He.ga K "If")) "test" = some none),
  decide (PySem.W.findIn K (.ref (He.ga K "If")) "rows" = some none),
  decide (PySem.W.findIn K (.ref (He.ga K "If")) "others" = some none),
  decide (PySem.W.findIn K (.ref (He.ga K "If")) "__init__" = some (some (.ref (He.ma K (He.ga K "If") "__init__")))),
  PySem.W.isFn K (.ref (He.ma K (He.ga K "If") "__init__")),
  decide (PySem.W.findIn K (.ref (He.ga K "If")) "__eq__" = some (some (.ref (He.ma K (He.ga K "If") "__eq__")))),
  PySem.W.isFn K (.ref (He.ma K (He.ga K "If") "__eq__")),
  decide (PySem.W.findIn K (.ref (He.ga K "If")) "__str__" = some (some (.ref (He.ma K (He.ga K "If") "__str__")))),
  PySem.W.isFn K (.ref (He.ma K (He.ga K "If") "__str__")),
  PySem.W.makesIn K (He.ga K "If"),
  PySem.W.keepIn K (.ref (He.ga K "If"))]
def fs8 (K : PySem.W.Frag) : List Bool := [decide (PySem.W.nsIn K mainGlobals "Times" = some (some (.ref (He.ga K "Times")))),
  PySem.W.plainGet K (He.ga K "Times") Str.empty,
  PySem.W.hasDictIn K (He.ga K "Times"),
  PySem.W.plainOver K (He.ga K "Times"),
  decide (PySem.W.findIn K (.ref (He.ga K "Times")) "__setattr__" = some (some (.builtin "object.__setattr__"))),
  decide (PySem.W.findIn K (.ref (He.ga K "Times")) "__class__" = some (some (.builtin "object.__class__"))),
  decide (PySem.W.mroIn K (He.ga K "Times") (.type "object") = some true),
  decide (PySem.W.findIn K (.ref (He.ga K "Times")) "__format__" = some (some (.builtin "object.__format__"))),
  decide (PySem.W.findIn K (.ref (He.ga K "Times")) "__ne__" = some (some (.builtin "object.__ne__"))),
  decide (PySem.W.findIn K (.ref (He.ga K "Times")) "count" = some none),
  decide (PySem.W.findIn K (.ref (He.ga K "Times")) "rows" = some none),
  decide (PySem.W.findIn K (.ref (He.ga K "Times")) "__init__" = some (some (.ref (He.ma K (He.ga K "Times") "__init__")))),
  PySem.W.isFn K (.ref (He.ma K (He.ga K "Times") "__init__")),
  decide (PySem.W.findIn K (.ref (He.ga K "Times")) "__eq__" = some (some (.ref (He.ma K (He.ga K "Times") "__eq__")))),
  PySem.W.isFn K (.ref (He.ma K (He.ga K "Times") "__eq__")),
  decide (PySem.W.findIn K (.ref (He.ga K "Times")) "__str__" = some (some (.ref (He.ma K (He.ga K "Times") "__str__")))),
  PySem.W.isFn K (.ref (He.ma K (He.ga K "Times") "__str__")),
  PySem.W.makesIn K (He.ga K "Times"),
  PySem.W.keepIn K (.ref (He.ga K "Times"))]
def fs9 (K : PySem.W.Frag) : List Bool := [decide (PySem.W.nsIn K mainGlobals "Stop" = some (some (.ref (He.ga K "Stop")))),
  PySem.W.plainGet K (He.ga K "Stop") Str.empty,
  PySem.W.hasDictIn K (He.ga K "Stop"),
  PySem.W.plainOver K (He.ga K "Stop"),
  decide (PySem.W.findIn K (.ref (He.ga K "Stop")) "__setattr__" = some (some (.builtin "object.__setattr__"))),
  decide (PySem.W.findIn K (.ref (He.ga K "Stop")) "__class__" = some (some (.builtin "object.__class__"))),
  decide (PySem.W.mroIn K (He.ga K "Stop") (.type "object") = some true),
  decide (PySem.W.findIn K (.ref (He.ga K "Stop")) "__format__" = some (some (.builtin "object.__format__"))),
  decide (PySem.W.findIn K (.ref (He.ga K "Stop")) "__ne__" = some (some (.builtin "object.__ne__"))),
  decide (PySem.W.findIn K (.ref (He.ga K "Stop")) "__eq__" = some (some (.ref (He.ma K (He.ga K "Stop") "__eq__")))),
  PySem.W.isFn K (.ref (He.ma K (He.ga K "Stop") "__eq__")),
  decide (PySem.W.findIn K (.ref (He.ga K "Stop")) "__str__" = some (some (.ref (He.ma K (He.ga K "Stop") "__str__")))),
  PySem.W.isFn K (.ref (He.ma K (He.ga K "Stop") "__str__")),
  PySem.W.makesIn K (He.ga K "Stop"),
  PySem.W.keepIn K (.ref (He.ga K "Stop")),
  decide (PySem.W.findIn K (.ref (He.ga K "Stop")) "__init__" = some (some (.builtin "object.__init__")))]
def fs10 (K : PySem.W.Frag) : List Bool := [decide (PySem.W.nsIn K mainGlobals "Ask" = some (some (.ref (He.ga K "Ask")))),
  PySem.W.plainGet K (He.ga K "Ask") Str.empty,
  PySem.W.hasDictIn K (He.ga K "Ask"),
  PySem.W.plainOver K (He.ga K "Ask"),
  decide (PySem.W.findIn K (.ref (He.ga K "Ask")) "__setattr__" = some (some (.builtin "object.__setattr__"))),
  decide (PySem.W.findIn K (.ref (He.ga K "Ask")) "__class__" = some (some (.builtin "object.__class__"))),
  decide (PySem.W.mroIn K (He.ga K "Ask") (.type "object") = some true),
  decide (PySem.W.findIn K (.ref (He.ga K "Ask")) "__format__" = some (some (.builtin "object.__format__"))),
  decide (PySem.W.findIn K (.ref (He.ga K "Ask")) "__ne__" = some (some (.builtin "object.__ne__"))),
  decide (PySem.W.findIn K (.ref (He.ga K "Ask")) "word" = some none),
  decide (PySem.W.findIn K (.ref (He.ga K "Ask")) "names" = some none),
  decide (PySem.W.findIn K (.ref (He.ga K "Ask")) "__init__" = some (some (.ref (He.ma K (He.ga K "Ask") "__init__")))),
  PySem.W.isFn K (.ref (He.ma K (He.ga K "Ask") "__init__")),
  decide (PySem.W.findIn K (.ref (He.ga K "Ask")) "__eq__" = some (some (.ref (He.ma K (He.ga K "Ask") "__eq__")))),
  PySem.W.isFn K (.ref (He.ma K (He.ga K "Ask") "__eq__")),
  decide (PySem.W.findIn K (.ref (He.ga K "Ask")) "__str__" = some (some (.ref (He.ma K (He.ga K "Ask") "__str__")))),
  PySem.W.isFn K (.ref (He.ma K (He.ga K "Ask") "__str__")),
  PySem.W.makesIn K (He.ga K "Ask"),
  PySem.W.keepIn K (.ref (He.ga K "Ask"))]
def fs11 (K : PySem.W.Frag) : List Bool := [decide (PySem.W.nsIn K mainGlobals "Not" = some (some (.ref (He.ga K "Not")))),
  PySem.W.plainGet K (He.ga K "Not") Str.empty,
  PySem.W.hasDictIn K (He.ga K "Not"),
  PySem.W.plainOver K (He.ga K "Not"),
  decide (PySem.W.findIn K (.ref (He.ga K "Not")) "__setattr__" = some (some (.builtin "object.__setattr__"))),
  decide (PySem.W.findIn K (.ref (He.ga K "Not")) "__class__" = some (some (.builtin "object.__class__"))),
  decide (PySem.W.mroIn K (He.ga K "Not") (.type "object") = some true),
  decide (PySem.W.findIn K (.ref (He.ga K "Not")) "__format__" = some (some (.builtin "object.__format__"))),
  decide (PySem.W.findIn K (.ref (He.ga K "Not")) "__ne__" = some (some (.builtin "object.__ne__"))),
  decide (PySem.W.findIn K (.ref (He.ga K "Not")) "test" = some none),
  decide (PySem.W.findIn K (.ref (He.ga K "Not")) "__init__" = some (some (.ref (He.ma K (He.ga K "Not") "__init__")))),
  PySem.W.isFn K (.ref (He.ma K (He.ga K "Not") "__init__")),
  decide (PySem.W.findIn K (.ref (He.ga K "Not")) "__eq__" = some (some (.ref (He.ma K (He.ga K "Not") "__eq__")))),
  PySem.W.isFn K (.ref (He.ma K (He.ga K "Not") "__eq__")),
  decide (PySem.W.findIn K (.ref (He.ga K "Not")) "__str__" = some (some (.ref (He.ma K (He.ga K "Not") "__str__")))),
  PySem.W.isFn K (.ref (He.ma K (He.ga K "Not") "__str__")),
  PySem.W.makesIn K (He.ga K "Not"),
  PySem.W.keepIn K (.ref (He.ga K "Not"))]
def fs12 (K : PySem.W.Frag) : List Bool := [decide (PySem.W.nsIn K mainGlobals "Row" = some (some (.ref (He.ga K "Row")))),
  PySem.W.plainGet K (He.ga K "Row") Str.empty,
  PySem.W.hasDictIn K (He.ga K "Row"),
  PySem.W.plainOver K (He.ga K "Row"),
  decide (PySem.W.findIn K (.ref (He.ga K "Row")) "__setattr__" = some (some (.builtin "object.__setattr__"))),
  decide (PySem.W.findIn K (.ref (He.ga K "Row")) "__class__" = some (some (.builtin "object.__class__"))),
  decide (PySem.W.mroIn K (He.ga K "Row") (.type "object") = some true),
  decide (PySem.W.findIn K (.ref (He.ga K "Row")) "__format__" = some (some (.builtin "object.__format__")))]
def fs13 (K : PySem.W.Frag) : List Bool := [decide (PySem.W.nsIn K mainGlobals "Test" = some (some (.ref (He.ga K "Test")))),
  PySem.W.plainGet K (He.ga K "Test") Str.empty,
  PySem.W.hasDictIn K (He.ga K "Test"),
  PySem.W.plainOver K (He.ga K "Test"),
  decide (PySem.W.findIn K (.ref (He.ga K "Test")) "__setattr__" = some (some (.builtin "object.__setattr__"))),
  decide (PySem.W.findIn K (.ref (He.ga K "Test")) "__class__" = some (some (.builtin "object.__class__"))),
  decide (PySem.W.mroIn K (He.ga K "Test") (.type "object") = some true),
  decide (PySem.W.findIn K (.ref (He.ga K "Test")) "__format__" = some (some (.builtin "object.__format__")))]
def fs14 (K : PySem.W.Frag) : List Bool := [decide (PySem.W.nsIn K mainGlobals "Program" = some (some (.ref (He.ga K "Program")))),
  PySem.W.plainGet K (He.ga K "Program") Str.empty,
  PySem.W.hasDictIn K (He.ga K "Program"),
  PySem.W.plainOver K (He.ga K "Program"),
  decide (PySem.W.findIn K (.ref (He.ga K "Program")) "__setattr__" = some (some (.builtin "object.__setattr__"))),
  decide (PySem.W.findIn K (.ref (He.ga K "Program")) "__class__" = some (some (.builtin "object.__class__"))),
  decide (PySem.W.mroIn K (He.ga K "Program") (.type "object") = some true),
  decide (PySem.W.findIn K (.ref (He.ga K "Program")) "__format__" = some (some (.builtin "object.__format__"))),
  decide (PySem.W.kitOne K (.ref (He.ga K "Program")) (.ref (He.ga K "Row")) = some false),
  decide (PySem.W.kitOne K (.ref (He.ga K "Program")) (.type "list") = some false),
  decide (PySem.W.kitOne K (.ref (He.ga K "Program")) (.type "tuple") = some false),
  decide (PySem.W.findIn K (.ref (He.ga K "Program")) "rows" = some none),
  decide (PySem.W.findIn K (.ref (He.ga K "Program")) "names" = some none),
  decide (PySem.W.findIn K (.ref (He.ga K "Program")) "__init__" = some (some (.ref (He.ma K (He.ga K "Program") "__init__")))),
  PySem.W.isFn K (.ref (He.ma K (He.ga K "Program") "__init__")),
  decide (PySem.W.findIn K (.ref (He.ga K "Program")) "__str__" = some (some (.ref (He.ma K (He.ga K "Program") "__str__")))),
  PySem.W.isFn K (.ref (He.ma K (He.ga K "Program") "__str__")),
  PySem.W.makesIn K (He.ga K "Program"),
  PySem.W.keepIn K (.ref (He.ga K "Program"))]
def fs15 (K : PySem.W.Frag) : List Bool := [decide (PySem.W.nsIn K mainGlobals "Sheet" = some (some (.ref (He.ga K "Sheet")))),
  PySem.W.plainGet K (He.ga K "Sheet") Str.empty,
  PySem.W.hasDictIn K (He.ga K "Sheet"),
  PySem.W.plainOver K (He.ga K "Sheet"),
  decide (PySem.W.findIn K (.ref (He.ga K "Sheet")) "__setattr__" = some (some (.builtin "object.__setattr__"))),
  decide (PySem.W.findIn K (.ref (He.ga K "Sheet")) "__class__" = some (some (.builtin "object.__class__"))),
  decide (PySem.W.mroIn K (He.ga K "Sheet") (.type "object") = some true),
  decide (PySem.W.findIn K (.ref (He.ga K "Sheet")) "__format__" = some (some (.builtin "object.__format__"))),
  decide (PySem.W.kitOne K (.ref (He.ga K "Sheet")) (.ref (He.ga K "Row")) = some false),
  decide (PySem.W.kitOne K (.ref (He.ga K "Sheet")) (.ref (He.ga K "Test")) = some false),
  decide (PySem.W.findIn K (.ref (He.ga K "Sheet")) "held" = some none),
  decide (PySem.W.findIn K (.ref (He.ga K "Sheet")) "__init__" = some (some (.ref (He.ma K (He.ga K "Sheet") "__init__")))),
  PySem.W.isFn K (.ref (He.ma K (He.ga K "Sheet") "__init__")),
  decide (PySem.W.findIn K (.ref (He.ga K "Sheet")) "__len__" = some (some (.ref (He.ma K (He.ga K "Sheet") "__len__")))),
  PySem.W.isFn K (.ref (He.ma K (He.ga K "Sheet") "__len__")),
  decide (PySem.W.findIn K (.ref (He.ga K "Sheet")) "__getitem__" = some (some (.ref (He.ma K (He.ga K "Sheet") "__getitem__")))),
  PySem.W.isFn K (.ref (He.ma K (He.ga K "Sheet") "__getitem__")),
  PySem.W.fnIn K (He.ma K (He.ga K "Sheet") "__getitem__"),
  decide (PySem.W.findIn K (.ref (He.ga K "Sheet")) "__setitem__" = some (some (.ref (He.ma K (He.ga K "Sheet") "__setitem__")))),
  PySem.W.isFn K (.ref (He.ma K (He.ga K "Sheet") "__setitem__")),
  PySem.W.noSeq K (He.ga K "Sheet"),
  decide (PySem.W.findIn K (.ref (He.ga K "Sheet")) "__iadd__" = some (some (.ref (He.ma K (He.ga K "Sheet") "__iadd__")))),
  PySem.W.isFn K (.ref (He.ma K (He.ga K "Sheet") "__iadd__")),
  decide ((PySem.W.clsIn K (He.ga K "Sheet")).map (·.mro) = some [.ref (He.ga K "Sheet"), .type "object"])]
def fs16 (K : PySem.W.Frag) : List Bool := [decide (PySem.W.findIn K (.ref (He.ga K "Sheet")) "drop" = some (some (.ref (He.ma K (He.ga K "Sheet") "drop")))),
  PySem.W.isFn K (.ref (He.ma K (He.ga K "Sheet") "drop")),
  PySem.W.keepIn K (.ref (He.ma K (He.ga K "Sheet") "drop")),
  decide (PySem.W.findIn K (.ref (He.ga K "Sheet")) "made" = some (some (.ref (He.ma K (He.ga K "Sheet") "made")))),
  PySem.W.isFn K (.ref (He.ma K (He.ga K "Sheet") "made")),
  PySem.W.keepIn K (.ref (He.ma K (He.ga K "Sheet") "made")),
  PySem.W.makesIn K (He.ga K "Sheet"),
  PySem.W.keepIn K (.ref (He.ga K "Sheet"))]
def fs17 (K : PySem.W.Frag) : List Bool := [valAt K mainGlobals "LETTERS" (.str "abcdefghijklmnopqrstuvwxyz"),
  valAt K mainGlobals "LONGEST_NAME" (.int 4),
  valAt K mainGlobals "DEEDS" (.ref (He.ga K "DEEDS")),
  valAt K mainGlobals "SIGNS" (.ref (He.ga K "SIGNS")),
  valAt K mainGlobals "WORDS" (.ref (He.ga K "WORDS")),
  tupAt K (He.ga K "SIGNS") [.str "+", .str "-", .str "*", .str "//", .str "**"]]
def fs18 (K : PySem.W.Frag) : List Bool := [decide (PySem.W.nsIn K (He.ga K "DEEDS") "figures" = some (some (.ref (daAt K (He.ga K "DEEDS") "figures")))),
  tupAt K (daAt K (He.ga K "DEEDS") "figures") [.str "number"],
  decide (PySem.W.nsIn K (He.ga K "DEEDS") "number" = some (some (.ref (daAt K (He.ga K "DEEDS") "number")))),
  tupAt K (daAt K (He.ga K "DEEDS") "number") [.str "number"],
  decide (PySem.W.nsIn K (He.ga K "DEEDS") "base" = some (some (.ref (daAt K (He.ga K "DEEDS") "base")))),
  tupAt K (daAt K (He.ga K "DEEDS") "base") [],
  decide (PySem.W.nsIn K (He.ga K "DEEDS") "let" = some (some (.ref (daAt K (He.ga K "DEEDS") "let")))),
  tupAt K (daAt K (He.ga K "DEEDS") "let") [.str "name"],
  decide (PySem.W.nsIn K (He.ga K "DEEDS") "+" = some (some (.ref (daAt K (He.ga K "DEEDS") "+")))),
  tupAt K (daAt K (He.ga K "DEEDS") "+") [.str "name", .str "name"],
  decide (PySem.W.nsIn K (He.ga K "DEEDS") "-" = some (some (.ref (daAt K (He.ga K "DEEDS") "-")))),
  tupAt K (daAt K (He.ga K "DEEDS") "-") [.str "name", .str "name"],
  decide (PySem.W.nsIn K (He.ga K "DEEDS") "*" = some (some (.ref (daAt K (He.ga K "DEEDS") "*")))),
  tupAt K (daAt K (He.ga K "DEEDS") "*") [.str "name", .str "name"],
  decide (PySem.W.nsIn K (He.ga K "DEEDS") "//" = some (some (.ref (daAt K (He.ga K "DEEDS") "//")))),
  tupAt K (daAt K (He.ga K "DEEDS") "//") [.str "name", .str "name"],
  decide (PySem.W.nsIn K (He.ga K "DEEDS") "rest" = some (some (.ref (daAt K (He.ga K "DEEDS") "rest")))),
  tupAt K (daAt K (He.ga K "DEEDS") "rest") [.str "name", .str "name"],
  decide (PySem.W.nsIn K (He.ga K "DEEDS") "**" = some (some (.ref (daAt K (He.ga K "DEEDS") "**")))),
  tupAt K (daAt K (He.ga K "DEEDS") "**") [.str "name", .str "number"],
  decide (PySem.W.nsIn K (He.ga K "DEEDS") "turned" = some (some (.ref (daAt K (He.ga K "DEEDS") "turned")))),
  tupAt K (daAt K (He.ga K "DEEDS") "turned") [.str "name"],
  decide (PySem.W.nsIn K (He.ga K "DEEDS") "least" = some (some (.ref (daAt K (He.ga K "DEEDS") "least")))),
  tupAt K (daAt K (He.ga K "DEEDS") "least") [.str "name"]]
def fs19 (K : PySem.W.Frag) : List Bool := [decide (PySem.W.nsIn K (He.ga K "DEEDS") "greatest" = some (some (.ref (daAt K (He.ga K "DEEDS") "greatest")))),
  tupAt K (daAt K (He.ga K "DEEDS") "greatest") [.str "name"],
  decide (PySem.W.nsIn K (He.ga K "DEEDS") "sum" = some (some (.ref (daAt K (He.ga K "DEEDS") "sum")))),
  tupAt K (daAt K (He.ga K "DEEDS") "sum") [.str "name"],
  decide (PySem.W.nsIn K (He.ga K "DEEDS") "many" = some (some (.ref (daAt K (He.ga K "DEEDS") "many")))),
  tupAt K (daAt K (He.ga K "DEEDS") "many") [.str "name"],
  decide (PySem.W.nsIn K (He.ga K "DEEDS") "root" = some (some (.ref (daAt K (He.ga K "DEEDS") "root")))),
  tupAt K (daAt K (He.ga K "DEEDS") "root") [.str "name"],
  decide (PySem.W.nsIn K (He.ga K "DEEDS") "figure" = some (some (.ref (daAt K (He.ga K "DEEDS") "figure")))),
  tupAt K (daAt K (He.ga K "DEEDS") "figure") [.str "number", .str "name"],
  decide (PySem.W.nsIn K (He.ga K "DEEDS") "first" = some (some (.ref (daAt K (He.ga K "DEEDS") "first")))),
  tupAt K (daAt K (He.ga K "DEEDS") "first") [.str "number", .str "name"],
  decide (PySem.W.nsIn K (He.ga K "DEEDS") "last" = some (some (.ref (daAt K (He.ga K "DEEDS") "last")))),
  tupAt K (daAt K (He.ga K "DEEDS") "last") [.str "number", .str "name"],
  decide (PySem.W.nsIn K (He.ga K "DEEDS") "joined" = some (some (.ref (daAt K (He.ga K "DEEDS") "joined")))),
  tupAt K (daAt K (He.ga K "DEEDS") "joined") [.str "name", .str "name"],
  decide (PySem.W.nsIn K (He.ga K "DEEDS") "common" = some (some (.ref (daAt K (He.ga K "DEEDS") "common")))),
  tupAt K (daAt K (He.ga K "DEEDS") "common") [.str "name", .str "name"],
  decide (PySem.W.nsIn K (He.ga K "DEEDS") "lesser" = some (some (.ref (daAt K (He.ga K "DEEDS") "lesser")))),
  tupAt K (daAt K (He.ga K "DEEDS") "lesser") [.str "name", .str "name"]]
def fs20 (K : PySem.W.Frag) : List Bool := [intAt K (He.ga K "WORDS") "same" (2),
  intAt K (He.ga K "WORDS") "less" (2),
  intAt K (He.ga K "WORDS") "divides" (2),
  intAt K (He.ga K "WORDS") "mirrored" (1),
  intAt K (He.ga K "WORDS") "unlike" (1)]
def fs21 (K : PySem.W.Frag) : List Bool := [kitO K ⟨(He.ga K "Put"), (He.ga K "If"), (He.ga K "Times"), (He.ga K "Stop"), (He.ga K "Ask"), (He.ga K "Not")⟩ (He.ga K "Row") (He.ga K "Test"),
  tupAt K (He.dflAt ("If", some "__init__") 0 K) [],
  tupAt K (He.dflAt ("Program", some "__init__") 0 K) [],
  tupAt K (He.dflAt ("Sheet", some "__init__") 0 K) []]
def fsL (K : PySem.W.Frag) : List (List Bool) := [fs0 K, fs1 K, fs2 K, fs3 K, fs4 K, fs5 K, fs6 K, fs7 K, fs8 K, fs9 K, fs10 K, fs11 K, fs12 K, fs13 K, fs14 K, fs15 K, fs16 K, fs17 K, fs18 K, fs19 K, fs20 K, fs21 K]
abbrev RL : PySem.W.OpenRow := PySem.W.OpenLaw.row PySem.Challenge.rw_everybase_k15_sheets
def as0 : List Addr := [3, 59, 72, 84, 103, 122, 141, 160, 179, 244, 258, 291, 326, 359, 385, 416, 449, 589, 842, 938, 1024, 1059, 6, 209, 234, 0, 58, 71, 83, 102, 121, 140]
def as1 : List Addr := [159, 178, 243, 257, 290, 325, 358, 384, 415, 448, 588, 841, 937, 1023, 1058, 870, 872, 49, 189, 196, 203, 208, 456, 461, 468, 473, 480, 487, 494, 501, 506, 513]
def as2 : List Addr := [520, 525, 532, 539, 546, 551, 600, 607, 614, 619, 626, 633, 640, 647, 654, 659, 664, 671, 678, 685, 692, 699, 706, 713, 720, 727, 734, 741, 746, 751, 756, 763]
def as3 : List Addr := [768, 773, 780, 787, 794, 1068, 1075, 1082, 1087, 1094, 1099, 1104, 1109, 1114, 1121, 1126, 1133, 1140, 1145, 1152, 1159, 1164, 1169, 47, 100, 119, 138, 157, 176, 187, 194, 201]
def as4 : List Addr := [206, 276, 283, 288, 309, 316, 323, 342, 349, 356, 375, 382, 399, 406, 413, 432, 439, 446, 454, 459, 466, 471, 478, 485, 492, 499, 504, 511, 518, 523, 530, 537]
def as5 : List Addr := [544, 549, 565, 572, 579, 586, 598, 605, 612, 617, 624, 631, 638, 645, 652, 657, 662, 669, 676, 683, 690, 697, 704, 711, 718, 725, 732, 739, 744, 749, 754, 761]
def as6 : List Addr := [766, 771, 778, 785, 792, 806, 813, 820, 825, 832, 839, 862, 879, 886, 893, 900, 907, 914, 921, 928, 935, 958, 965, 972, 979, 986, 993, 1000, 1007, 1014, 1021, 1042]
def as7 : List Addr := [1049, 1056, 1066, 1073, 1080, 1085, 1092, 1097, 1102, 1107, 1112, 1119, 1124, 1131, 1138, 1143, 1150, 1157, 1162, 1167, 869, 98, 117, 136, 155, 174, 274, 281, 286, 307, 314, 321]
def as8 : List Addr := [340, 347, 354, 373, 380, 397, 404, 411, 430, 437, 444, 563, 570, 577, 584, 804, 811, 818, 823, 830, 837, 860, 877, 884, 891, 898, 905, 912, 919, 926, 933, 956]
def as9 : List Addr := [963, 970, 977, 984, 991, 998, 1005, 1012, 1019, 1040, 1047, 1054, 867, 48, 188, 195, 202, 207, 455, 460, 467, 472, 479, 486, 493, 500, 505, 512, 519, 524, 531, 538]
def as10 : List Addr := [545, 550, 599, 606, 613, 618, 625, 632, 639, 646, 653, 658, 663, 670, 677, 684, 691, 698, 705, 712, 719, 726, 733, 740, 745, 750, 755, 762, 767, 772, 779, 786]
def as11 : List Addr := [793, 1067, 1074, 1081, 1086, 1093, 1098, 1103, 1108, 1113, 1120, 1125, 1132, 1139, 1144, 1151, 1158, 1163, 1168, 99, 118, 137, 156, 175, 275, 282, 287, 308, 315, 322, 341, 348]
def as12 : List Addr := [355, 374, 381, 398, 405, 412, 431, 438, 445, 564, 571, 578, 585, 805, 812, 819, 824, 831, 838, 861, 878, 885, 892, 899, 906, 913, 920, 927, 934, 957, 964, 971]
def as13 : List Addr := [978, 985, 992, 999, 1006, 1013, 1020, 1041, 1048, 1055, 868, 4, 233, 210, 211, 212, 213, 214, 215, 216, 217, 218, 219, 220, 221, 222, 223, 224, 225, 226, 228, 229]
def as14 : List Addr := [230, 231, 232, 302, 855, 951, 301, 854, 950]
def asL : List Addr := as0 ++ (as1 ++ (as2 ++ (as3 ++ (as4 ++ (as5 ++ (as6 ++ (as7 ++ (as8 ++ (as9 ++ (as10 ++ (as11 ++ (as12 ++ (as13 ++ (as14))))))))))))))
abbrev hkL : PySem.W.Hook := hookL asL fnL tsL fsL
def obL (s : PySem.W.SharedT) : He.AlT × Bool := obsL asL fnL tsL fsL (HandSHeadRun.getT s)
theorem obL_eq (s : PySem.W.SharedT) : obL s = hkL.obs s.abs := obsL_eq (HandSHeadRun.getT_eq s)
def loose0 : List Str := ["_wall", "__name__", "FigureError", "InvalidBase", "InvalidNumber", "NoFigure", "InvalidRow", "InvalidText", "Stopped", "NoRow", "LETTERS", "LONGEST_NAME", "is_integer", "is_number", "is_base", "is_name"]
def loose1 : List Str := ["DEEDS", "SIGNS", "WORDS", "Row", "Test", "Put", "If", "Times", "Stop", "Ask", "Not", "are_rows", "texts", "needed", "_fits", "_is_of"]
def loose2 : List Str := ["inner", "flat", "changed", "names_in", "bare", "_changed_within", "_named", "DIGITS", "MOST_DIGITS", "rows_of", "row_of", "test_of", "number_told", "Block", "_take_line", "_take_end"]
def loose3 : List Str := ["_block_of", "_put_of", "_ask_of", "_plain", "figures_of", "number_of", "turned", "least", "greatest", "total", "many", "root", "figure", "first", "last", "joined"]
def loose4 : List Str := ["mirrored", "unlike", "_value", "result", "holding", "holding_of", "_written", "_part", "_of_one", "_of_two", "_power", "_divides", "run", "Walk", "Program", "Sheet"]
def loose5 : List Str := ["Trial", "_law_deal", "_law_draw", "_law_pick", "_law_words", "_law_kinds", "_law_put", "_law_ask", "_law_count", "_law_rows", "_law_ask_text", "_law_lines", "_law_all_lines", "_law_ask_of", "_law_row_of", "_law_deed"]
def loose6 : List Str := ["_law_begun", "_law_alike"]
def looseL : List Str := loose0 ++ loose1 ++ loose2 ++ loose3 ++ loose4 ++ loose5 ++ loose6
theorem run_af (w : World) : (HandSHeadRun.wholeF (fun p => HandSHeadRun.stepQ (HandSHeadRun.denQ HandSHeadRun.tabQ) p (World.withFollow (w) "special-get-raises" false)) HandSHeadRun.fenceQ 100000 RL.prog).map (fun x => HandSHeadRun.looksF RL.prog x.1.heap x.2.abs) = some true := by
  kernel_rfl
theorem run_at (w : World) : (HandSHeadRun.wholeF (fun p => HandSHeadRun.stepQ (HandSHeadRun.denQ HandSHeadRun.tabQ) p (World.withFollow (w) "special-get-raises" true)) HandSHeadRun.fenceQ 100000 RL.prog).map (fun x => HandSHeadRun.looksF RL.prog x.1.heap x.2.abs) = some true := by
  kernel_rfl
theorem run_bf (w : World) : (HandSHeadRun.wholeF (fun p => HandSHeadRun.stepQ (HandSHeadRun.denQ HandSHeadRun.tabQ) p (World.withFollow (w) "special-get-raises" false)) HandSHeadRun.fenceQ 100000 RL.prog).map (fun x => HandSHeadRun.seenQ (PySem.W.view RL.prog [0, 108]) looseL (importedModules RL.prog.main.body) (fun s => PySem.W.xlAt (PySem.W.view RL.prog [0, 108]) [] s && PySem.W.recOk RL.toRowW.records s) x.2.abs) = some (PySem.W.openGood (PySem.W.view RL.prog [0, 108]) looseL) := by
  kernel_rfl
theorem run_bt (w : World) : (HandSHeadRun.wholeF (fun p => HandSHeadRun.stepQ (HandSHeadRun.denQ HandSHeadRun.tabQ) p (World.withFollow (w) "special-get-raises" true)) HandSHeadRun.fenceQ 100000 RL.prog).map (fun x => HandSHeadRun.seenQ (PySem.W.view RL.prog [0, 108]) looseL (importedModules RL.prog.main.body) (fun s => PySem.W.xlAt (PySem.W.view RL.prog [0, 108]) [] s && PySem.W.recOk RL.toRowW.records s) x.2.abs) = some (PySem.W.openGood (PySem.W.view RL.prog [0, 108]) looseL) := by
  kernel_rfl
theorem run_cf (w : World) : (HandSHeadRun.wholeF (fun p => HandSHeadRun.stepQ (HandSHeadRun.denQ HandSHeadRun.tabQ) p (World.withFollow (w) "special-get-raises" false)) HandSHeadRun.fenceQ 100000 RL.prog).map (fun x => obL x.2) = some (hkL.val (World.withFollow (w) "special-get-raises" false)) := by
  kernel_rfl
theorem run_ct (w : World) : (HandSHeadRun.wholeF (fun p => HandSHeadRun.stepQ (HandSHeadRun.denQ HandSHeadRun.tabQ) p (World.withFollow (w) "special-get-raises" true)) HandSHeadRun.fenceQ 100000 RL.prog).map (fun x => obL x.2) = some (hkL.val (World.withFollow (w) "special-get-raises" true)) := by
  kernel_rfl
theorem runL (w : World) : HandSHeadRun.RunEqI RL (PySem.W.view RL.prog [0, 108]) hkL obL 100000 looseL w := by
  refine PySem.W.byRow2 "special-get-raises" (P := fun w => HandSHeadRun.RunEqI RL (PySem.W.view RL.prog [0, 108]) hkL obL 100000 looseL w) ?_ ?_ w <;> intro w
  · exact runI_of (run_af w) (run_bf w) (run_cf w)
  · exact runI_of (run_at w) (run_bt w) (run_ct w)

end My
set_option maxRecDepth 10000
set_option exponentiation.threshold 5000
/-! the mathematics of figures -/
namespace My
theorem div_lt {n b : Int} (hb : 2 ≤ b) (hn : 0 < n) : n / b < n := by
  refine Int.ediv_lt_of_lt_mul (by omega) ?_
  have h := Int.mul_le_mul_of_nonneg_left hb (Int.le_of_lt hn)
  omega
theorem div_nn {n b : Int} (hb : 2 ≤ b) (hn : 0 ≤ n) : 0 ≤ n / b := Int.ediv_nonneg hn (by omega)
theorem mod_nn {n b : Int} (hb : 2 ≤ b) : 0 ≤ n % b := Int.emod_nonneg n (by omega)
theorem mod_lt {n b : Int} (hb : 2 ≤ b) : n % b < b := Int.emod_lt_of_pos n (by omega)
theorem div_pos_iff {n b : Int} (hb : 2 ≤ b) (hn : 0 ≤ n) : 0 < n / b ↔ b ≤ n := by
  constructor
  · intro h
    by_cases hlt : n < b
    · rw [Int.ediv_eq_zero_of_lt hn hlt] at h; omega
    · omega
  · intro h
    have h1 : 1 ≤ n / b := (Int.le_ediv_iff_mul_le (by omega)).mpr (by omega)
    omega
/-- the figures, the last one first -/
def digs (b n : Int) : List Int :=
  if h : 2 ≤ b ∧ b ≤ n then n % b :: digs b (n / b) else [n]
termination_by n.toNat
decreasing_by
  have := div_lt h.1 (show 0 < n by omega)
  have := div_nn h.1 (show 0 ≤ n by omega)
  omega
theorem digs_ge {b n : Int} (hb : 2 ≤ b) (h : b ≤ n) : digs b n = n % b :: digs b (n / b) := by
  rw [digs]; rw [dif_pos ⟨hb, h⟩]
theorem digs_lt {b n : Int} (h : n < b) : digs b n = [n] := by
  rw [digs]; rw [dif_neg (by omega)]
/-- an induction over the figures -/
theorem digs_ind {b : Int} (hb : 2 ≤ b) {P : Int → Prop} (h0 : ∀ n, 0 ≤ n → n < b → P n) (h1 : ∀ n, b ≤ n → P (n / b) → P n) : ∀ n, 0 ≤ n → P n := by
  have key : ∀ k : Nat, ∀ n : Int, 0 ≤ n → n.toNat ≤ k → P n := by
    intro k
    induction k with
    | zero => intro n hn hk; exact h0 n hn (by omega)
    | succ k ih =>
      intro n hn hk
      by_cases h : b ≤ n
      · have a1 := div_lt hb (show 0 < n by omega)
        have a2 := div_nn hb hn
        exact h1 n h (ih _ a2 (by omega))
      · exact h0 n hn (by omega)
  exact fun n hn => key n.toNat n hn (Nat.le_refl _)
def figs (b n : Int) : List Int := (digs b n).reverse
theorem digs_mem {b : Int} (hb : 2 ≤ b) : ∀ n, 0 ≤ n → ∀ x ∈ digs b n, 0 ≤ x ∧ x < b :=
  digs_ind hb (fun n h0 h x hx => by
    rw [digs_lt h] at hx
    have := List.mem_singleton.mp hx
    omega) (fun n h ih x hx => by
    rw [digs_ge hb h] at hx
    rcases List.mem_cons.mp hx with e | hx
    · subst e; exact ⟨mod_nn hb, mod_lt hb⟩
    · exact ih x hx)
theorem figs_mem {b : Int} (hb : 2 ≤ b) {n : Int} (hn : 0 ≤ n) : ∀ x ∈ figs b n, 0 ≤ x ∧ x < b := fun x hx =>
  digs_mem hb n hn x (List.mem_reverse.mp hx)
theorem digs_sum {b : Int} (hb : 2 ≤ b) : ∀ n, 0 ≤ n → 0 ≤ (digs b n).sum ∧ (digs b n).sum ≤ n :=
  digs_ind hb (fun n h0 h => by rw [digs_lt h]; simp; omega) (fun n h ih => by
    rw [digs_ge hb h, List.sum_cons]
    have e := Int.emod_add_mul_ediv n b
    have q0 := div_nn hb (show 0 ≤ n by omega)
    have m := Int.mul_le_mul_of_nonneg_right hb q0
    have r0 := mod_nn (n := n) hb
    omega)
theorem sum_rev (l : List Int) : l.reverse.sum = l.sum := by
  induction l with
  | nil => rfl
  | cons a l ih => rw [List.reverse_cons, List.sum_append, List.sum_cons, ih]; simp; omega
theorem figs_sum {b : Int} (hb : 2 ≤ b) {n : Int} (hn : 0 ≤ n) : 0 ≤ (figs b n).sum ∧ (figs b n).sum ≤ n := by
  unfold figs; rw [sum_rev]; exact digs_sum hb n hn
theorem figs_sum_lt {b : Int} (hb : 2 ≤ b) {n : Int} (h : b ≤ n) : (figs b n).sum < n := by
  unfold figs; rw [sum_rev, digs_ge hb h, List.sum_cons]
  have e := Int.emod_add_mul_ediv n b
  have q0 := (div_pos_iff hb (show 0 ≤ n by omega)).mpr h
  have m := Int.mul_le_mul_of_nonneg_right hb (Int.le_of_lt q0)
  have s := (digs_sum hb (n / b) (by omega)).2
  omega
theorem figs_one {b n : Int} (h : n < b) : (figs b n).sum = n := by
  unfold figs; rw [digs_lt h]; simp
theorem digs_len {b : Int} (hb : 2 ≤ b) : ∀ n, 0 ≤ n → ∀ k : Nat, n < 2 ^ k → (digs b n).length ≤ k + 1 := by
  refine digs_ind hb (fun n h0 h k hk => ?_) (fun n h ih k hk => ?_)
  · rw [digs_lt h]; simp
  · rw [digs_ge hb h, List.length_cons]
    cases k with
    | zero => simp at hk; omega
    | succ k =>
      have : n / b < 2 ^ k := by
        refine Int.ediv_lt_of_lt_mul (by omega) ?_
        have m := Int.mul_le_mul_of_nonneg_left hb (show (0 : Int) ≤ 2 ^ k from Int.le_of_lt (Int.pow_pos (by decide)))
        rw [Int.pow_succ] at hk
        omega
      have := ih k this
      omega
theorem figs_len {b : Int} (hb : 2 ≤ b) {n : Int} (hn : 0 ≤ n) {k : Nat} (h : n < 2 ^ k) : (figs b n).length ≤ k + 1 := by
  unfold figs; rw [List.length_reverse]; exact digs_len hb n hn k h
/-- the number with these figures -/
def written (b : Int) (l : List Int) : Int := l.foldl (fun a x => a * b + x) 0
end My
namespace My
/-- the root: sums of figures until there is one -/
def rootN (b n : Int) : Int := if h : 2 ≤ b ∧ b ≤ n then rootN b (figs b n).sum else n
termination_by n.toNat
decreasing_by
  have := figs_sum_lt h.1 h.2
  have := (figs_sum h.1 (show 0 ≤ n by omega)).1
  omega
theorem rootN_ge {b n : Int} (hb : 2 ≤ b) (h : b ≤ n) : rootN b n = rootN b (figs b n).sum := by
  rw [rootN, dif_pos ⟨hb, h⟩]
theorem rootN_lt {b n : Int} (h : n < b) : rootN b n = n := by
  rw [rootN, dif_neg (by omega)]
theorem rootN_sum {b n : Int} (hb : 2 ≤ b) : rootN b (figs b n).sum = rootN b n := by
  by_cases h : b ≤ n
  · exact (rootN_ge hb h).symm
  · rw [figs_one (by omega)]
theorem rootN_bd {b : Int} (hb : 2 ≤ b) : ∀ k : Nat, ∀ n : Int, n.toNat ≤ k → 0 ≤ n → 0 ≤ rootN b n ∧ rootN b n ≤ n
  | 0, n, hk, hn => by
    rw [rootN_lt (by omega)]; omega
  | k + 1, n, hk, hn => by
    by_cases h : b ≤ n
    · have a := figs_sum_lt hb h
      have c := (figs_sum hb hn).1
      have d := rootN_bd hb k (figs b n).sum (by omega) c
      rw [rootN_ge hb h]; omega
    · rw [rootN_lt (by omega)]; omega
theorem rootN_le {b n : Int} (hb : 2 ≤ b) (hn : 0 ≤ n) : 0 ≤ rootN b n ∧ rootN b n ≤ n := rootN_bd hb n.toNat n (Nat.le_refl _) hn
end My
namespace My
theorem written_snoc (b : Int) (l : List Int) (x : Int) : written b (l ++ [x]) = written b l * b + x := by
  unfold written; rw [List.foldl_append]; rfl
theorem written_bd {b : Int} (hb : 1 ≤ b) (l : List Int) : (∀ x ∈ l, 0 ≤ x ∧ x < b) → 0 ≤ written b l ∧ written b l < b ^ l.length := by
  intro h
  have key : ∀ k : Nat, k ≤ l.length → 0 ≤ written b (l.take k) ∧ written b (l.take k) < b ^ k := by
    intro k
    induction k with
    | zero => intro _; simp [written]
    | succ k ih =>
      intro hk
      have hx : k < l.length := by omega
      have e : l.take (k + 1) = l.take k ++ [l[k]] := by rw [List.take_add_one, List.getElem?_eq_getElem hx]; rfl
      have i := ih (by omega)
      have m := h l[k] (List.getElem_mem hx)
      rw [e, written_snoc, Int.pow_succ]
      have a1 := Int.mul_nonneg i.1 (show 0 ≤ b by omega)
      have a2 := Int.mul_le_mul_of_nonneg_right (show written b (l.take k) + 1 ≤ b ^ k by omega) (show 0 ≤ b by omega)
      rw [Int.add_mul] at a2
      omega
  have := key l.length (Nat.le_refl _)
  rw [List.take_length] at this
  exact this
theorem take_snoc {l : List Int} {i : Nat} {x : Int} (h : l[i]? = some x) : l.take (i + 1) = l.take i ++ [x] := by
  rw [List.take_add_one, h]; rfl
theorem pow_le_of {b : Int} (hb : 2 ≤ b) (k : Nat) : (2 : Int) ^ k ≤ b ^ k := by
  induction k with
  | zero => simp
  | succ k ih =>
    rw [Int.pow_succ, Int.pow_succ]
    have p : (0 : Int) ≤ 2 ^ k := Int.le_of_lt (Int.pow_pos (by decide))
    have a := Int.mul_le_mul_of_nonneg_left hb p
    have c := Int.mul_le_mul_of_nonneg_right ih (show 0 ≤ b by omega)
    omega
theorem pow_mono {b : Int} (hb : 1 ≤ b) {i j : Nat} (h : i ≤ j) : b ^ i ≤ b ^ j := by
  induction j with
  | zero => have : i = 0 := by omega
            subst this; exact Int.le_refl _
  | succ j ih =>
    by_cases e : i = j + 1
    · subst e; exact Int.le_refl _
    · have a := ih (by omega)
      have p : (0 : Int) < b ^ j := Int.pow_pos (by omega)
      rw [Int.pow_succ]
      have c := Int.mul_le_mul_of_nonneg_left hb (Int.le_of_lt p)
      omega
theorem pow_small {k n : Nat} (h : (2 : Int) ^ k < 2 ^ n) : k < n := by
  by_cases e : k < n
  · exact e
  · have := pow_mono (b := 2) (by decide) (show n ≤ k by omega)
    omega
end My
namespace My
theorem figs27 : (figs 2 7).sum = 3 := by
  unfold figs; rw [sum_rev, digs_ge (by decide) (by decide), digs_ge (by decide) (by decide), digs_lt (by decide)]; decide
theorem figs23 : (figs 2 3).sum = 2 := by
  unfold figs; rw [sum_rev, digs_ge (by decide) (by decide), digs_lt (by decide)]; decide
theorem figs22 : (figs 2 2).sum = 1 := by
  unfold figs; rw [sum_rev, digs_ge (by decide) (by decide), digs_lt (by decide)]; decide
theorem root27 : rootN 2 7 = 1 := by
  rw [rootN_ge (by decide) (by decide), figs27, rootN_ge (by decide) (by decide), figs23, rootN_ge (by decide) (by decide), figs22, rootN_lt (by decide)]
end My
namespace My
theorem digs_ne (b n : Int) : digs b n ≠ [] := by
  rw [digs]; split <;> simp
theorem figs_ne (b n : Int) : figs b n ≠ [] := by
  unfold figs; intro h; exact digs_ne b n (List.reverse_eq_nil_iff.mp h)
theorem figs_pos (b n : Int) : 0 < (figs b n).length := List.length_pos_iff.mpr (figs_ne b n)
/-- b to the number of figures is at most b times the number, or b -/
theorem digs_pow {b : Int} (hb : 2 ≤ b) : ∀ n, 0 ≤ n → b ^ (digs b n).length ≤ b * n ∨ ((digs b n).length = 1 ∧ n < b) := by
  refine digs_ind hb (fun n h0 h => .inr ⟨by rw [digs_lt h]; rfl, h⟩) (fun n h ih => .inl ?_)
  rw [digs_ge hb h, List.length_cons, Int.pow_succ]
  have q1 := (div_pos_iff hb (show 0 ≤ n by omega)).mpr h
  have e := Int.emod_add_mul_ediv n b
  have r0 := mod_nn (n := n) hb
  have key : b ^ (digs b (n / b)).length ≤ b * (n / b) := by
    rcases ih with h1 | ⟨h1, _⟩
    · exact h1
    · rw [h1, Int.pow_succ, Int.pow_zero, Int.one_mul]
      have := Int.mul_le_mul_of_nonneg_left (show 1 ≤ n / b by omega) (show 0 ≤ b by omega)
      omega
  have a := Int.mul_le_mul_of_nonneg_right key (show 0 ≤ b by omega)
  have c := Int.mul_le_mul_of_nonneg_left (show b * (n / b) ≤ n by omega) (show 0 ≤ b by omega)
  rw [Int.mul_comm b (b * (n / b))] at c
  omega
theorem figs_pow {b n : Int} (hb : 2 ≤ b) (hn : 0 ≤ n) : b ^ (figs b n).length ≤ b * n ∨ ((figs b n).length = 1 ∧ n < b) := by
  unfold figs; rw [List.length_reverse]; exact digs_pow hb n hn
theorem figs_bound {b n B : Int} (hb : 2 ≤ b) (hn : 0 ≤ n) (h1 : b * n ≤ B) (h2 : b ≤ B) : b ^ (figs b n).length ≤ B := by
  rcases figs_pow hb hn with h | ⟨h, _⟩
  · omega
  · rw [h, Int.pow_succ, Int.pow_zero, Int.one_mul]; exact h2
/-- the k-th figure from behind -/
def figAt (b n : Int) (k : Nat) : Int := if k < (figs b n).length then (figs b n).getD ((figs b n).length - 1 - k) 0 else 0
end My
namespace My
theorem figs_small {b n : Int} (h : n < b) : figs b n = [n] := by unfold figs; rw [digs_lt h]; rfl
end My
namespace My
theorem fig_lens {b n : Int} (n0 : 0 ≤ n) (n1 : n < 2 ^ 240) (b0 : 2 ≤ b) (b1 : b < 2 ^ 110) : (figs b n).length ≤ 241 ∧ b ^ (figs b n).length ≤ 2 ^ 350 := by
  refine ⟨figs_len b0 n0 (k := 240) n1, figs_bound b0 n0 ?_ (by omega)⟩
  have a := Int.mul_le_mul (show b ≤ 2 ^ 110 by omega) (show n ≤ 2 ^ 240 by omega) n0 (by decide)
  exact Int.le_trans a (by decide)
theorem part_ok {b n : Int} (n0 : 0 ≤ n) (n1 : n < 2 ^ 240) (b0 : 2 ≤ b) (b1 : b < 2 ^ 110) {xs : List Int} (hm : ∀ x ∈ xs, x ∈ figs b n) (hl : xs.length ≤ (figs b n).length) :
    (∀ x ∈ xs, 0 ≤ x ∧ x < b) ∧ xs.length ≤ 1000 ∧ b ^ xs.length ≤ 2 ^ 800 := by
  obtain ⟨a, c⟩ := fig_lens n0 n1 b0 b1
  have d := pow_mono (b := b) (by omega) hl
  exact ⟨fun x hx => figs_mem b0 n0 x (hm x hx), by omega, by omega⟩
theorem two_ok {b n o : Int} (n0 : 0 ≤ n) (n1 : n < 2 ^ 240) (o0 : 0 ≤ o) (o1 : o < 2 ^ 240) (b0 : 2 ≤ b) (b1 : b < 2 ^ 110) :
    (∀ x ∈ figs b n ++ figs b o, 0 ≤ x ∧ x < b) ∧ (figs b n ++ figs b o).length ≤ 1000 ∧ b ^ (figs b n ++ figs b o).length ≤ 2 ^ 800 := by
  obtain ⟨a1, a2⟩ := fig_lens n0 n1 b0 b1
  obtain ⟨c1, c2⟩ := fig_lens o0 o1 b0 b1
  refine ⟨fun x hx => ?_, by rw [List.length_append]; omega, ?_⟩
  · rcases List.mem_append.mp hx with hx | hx
    · exact figs_mem b0 n0 x hx
    · exact figs_mem b0 o0 x hx
  · rw [List.length_append, Int.pow_add]
    have p : (0 : Int) < b ^ (figs b o).length := Int.pow_pos (by omega)
    exact Int.le_trans (Int.mul_le_mul a2 c2 (Int.le_of_lt p) (by decide)) (by decide)
/-- the list in ascending order -/
def asc (l : List Int) : List Int := l.mergeSort
theorem asc_perm (l : List Int) : (asc l).Perm l := List.mergeSort_perm l _
theorem asc_sorted (l : List Int) : (asc l).Pairwise (· ≤ ·) := by
  have h := List.pairwise_mergeSort (le := fun a b : Int => decide (a ≤ b)) (fun a b c h1 h2 => decide_eq_true (Int.le_trans (of_decide_eq_true h1) (of_decide_eq_true h2)))
    (fun a b => by rcases Int.le_total a b with h | h <;> simp [h]) l
  exact h.imp fun h => of_decide_eq_true h
theorem sorted_eq : ∀ {l m : List Int}, l.Perm m → l.Pairwise (· ≤ ·) → m.Pairwise (· ≤ ·) → l = m := fun h a b =>
  h.eq_of_pairwise (fun _ _ _ _ => Int.le_antisymm) a b
theorem eq_asc {l m : List Int} (h : l.Perm m) (s : l.Pairwise (· ≤ ·)) : l = asc m :=
  sorted_eq (h.trans (asc_perm m).symm) s (asc_sorted m)
theorem eq_desc {l m : List Int} (h : l.Perm m) (s : l.Pairwise (· ≥ ·)) : l = (asc m).reverse := by
  have h2 : l.reverse = asc m := eq_asc ((List.reverse_perm l).trans h) (List.pairwise_reverse.mpr s)
  rw [← h2, List.reverse_reverse]
theorem asc_mem {l : List Int} {x : Int} (h : x ∈ asc l) : x ∈ l := (asc_perm l).mem_iff.mp h
theorem asc_len (l : List Int) : (asc l).length = l.length := (asc_perm l).length_eq
/-- as many unlike things as things: all are unlike -/
theorem nodup_of_len {α : Type} [DecidableEq α] : ∀ (K ns : List α), K.Nodup → (∀ k ∈ K, k ∈ ns) → K.length = ns.length → (∀ x ∈ ns, x ∈ K) ∧ ns.Nodup
  | [], ns, _, _, h => by
    have : ns = [] := List.length_eq_zero_iff.mp h.symm
    subst this
    exact ⟨fun x hx => (by cases hx), List.nodup_nil⟩
  | k :: K, ns, nd, hs, h => by
    have hk := hs k (List.mem_cons_self ..)
    have nd2 := List.nodup_cons.mp nd
    have ih := nodup_of_len K (ns.erase k) nd2.2 (fun x hx => (List.mem_erase_of_ne (fun (e : x = k) => nd2.1 (e ▸ hx))).mpr (hs x (List.mem_cons_of_mem _ hx))) (by
      rw [List.length_erase_of_mem hk]
      rw [List.length_cons] at h
      omega)
    have p := List.perm_cons_erase hk
    have hnot : k ∉ ns.erase k := fun hh => nd2.1 (ih.1 k hh)
    refine ⟨fun x hx => ?_, p.nodup_iff.mpr (List.nodup_cons.mpr ⟨hnot, ih.2⟩)⟩
    rcases List.mem_cons.mp (p.mem_iff.mp hx) with e | hx
    · exact e ▸ List.mem_cons_self ..
    · exact List.mem_cons_of_mem _ (ih.1 x hx)
theorem nodup_le {α : Type} [DecidableEq α] : ∀ (K ns : List α), K.Nodup → (∀ k ∈ K, k ∈ ns) → K.length ≤ ns.length
  | [], _, _, _ => Nat.zero_le _
  | k :: K, ns, nd, hs => by
    have hk := hs k (List.mem_cons_self ..)
    have nd2 := List.nodup_cons.mp nd
    have ih := nodup_le K (ns.erase k) nd2.2 (fun x hx => (List.mem_erase_of_ne (fun (e : x = k) => nd2.1 (e ▸ hx))).mpr (hs x (List.mem_cons_of_mem _ hx)))
    rw [List.length_erase_of_mem hk] at ih
    have := List.length_pos_of_mem hk
    rw [List.length_cons]
    omega
end My
namespace My
theorem pow_left {b c : Int} (h0 : 0 ≤ b) (h : b ≤ c) (k : Nat) : b ^ k ≤ c ^ k := by
  induction k with
  | zero => simp
  | succ k ih =>
    rw [Int.pow_succ, Int.pow_succ]
    have p : (0 : Int) ≤ b ^ k := Int.pow_nonneg h0
    exact Int.mul_le_mul ih h h0 (Int.le_trans p ih)
theorem digs_eq_rev (b n : Int) : (figs b n).reverse = digs b n := by unfold figs; rw [List.reverse_reverse]
end My
namespace My
theorem nodup_snoc {α : Type} {l : List α} {x : α} : (l ++ [x]).Nodup ↔ l.Nodup ∧ x ∉ l := by
  rw [(List.perm_append_comm (l₁ := l) (l₂ := [x])).nodup_iff, List.singleton_append, List.nodup_cons]
  exact And.comm
end My
set_option Elab.async false
set_option linter.all false
set_option maxRecDepth 100000
set_option maxHeartbeats 4000000
/-! len(set(t)) of a tuple of ints -/
namespace My
open PySem PySem.Spec PyProof.Rows L2 Evl
section
variable {X : Cx}
/-- c is how many unlike ones there are: all that is said of it is whether all are unlike -/
def tUnl (K : PySem.W.Frag) (ta : TE) : TE := fun σ H Q => ta σ H fun x H1 => ∃ (a : Addr) (ns : List Int), x = .ref a ∧ SqT K H1 a (ns.map V.int) ∧ ns.length ≤ 4000 ∧ ∀ c : Nat, c ≤ ns.length → (c = ns.length ↔ ns.Nodup) → Q (.int (c : Int)) H1
theorem pe_lenSetT {a : Expr} {ta : TE} {p p2 q pos : Pos} (hg : Gl X "len") (hm : X.mg "len" = none) (hg2 : Gl X "set") (hm2 : X.mg "set" = none) (ha : PE X a ta) (hc : X.calm = true := by rfl)
    (na : starEach [a] X.env = (false, eval a X.env) :: starEach [] X.env := by rfl) : PE X (.Call (.Name "len" p) [.Call (.Name "set" p2) [a] [] q] [] pos) (tUnl X.K ta) := by
  refine ⟨fun pins s σ H Q I h => Call_ (ld_blt I hg hm boot_len (callWith_builtin1 (args_cons (Call_ (ld_blt I hg2 hm2 boot_set ?_)) rfl) rfl rfl))⟩
  refine callWith_type1 (args_cons (thn (ha.run pins s σ H _ I h) fun v s1 ⟨x, H1, I1, r1, q1⟩ => args_nil ?_) na) na rfl
  obtain ⟨t, ns, rfl, hq, hl, q1⟩ := q1
  cases r1
  obtain ⟨its, r, pl, hz⟩ := I1.tuple hq
  have hi : IntsAre its.toArray.toList ns := by simpa using RZ.intsAre_vals r
  refine call_set_tupI ns (I1.ok.hd hc) pl hi (by unfold scanBound; omega) fun h' tk c hS hcl hk => args_nil ?_
  have I2 : Inv X pins σ H1 { s1 with heap := h', toks := tk } := I1.kept hk
  obtain ⟨o, es, ep, t2, ho, hex, hd, hgood, nd, mem, hb, hf, hn, _⟩ := hS
  have hlen : (es.toList.map keyOf).length = c := by rw [List.length_map, Array.length_toList]; exact hn
  have sub : ∀ k ∈ es.toList.map keyOf, k ∈ ns := fun k hk => of_decide_eq_true ((mem k).mpr hk)
  refine call_len_set ho hex hd hf (by rw [hn]; omega) ⟨.int (c : Int), H1, I2.tok _, ⟨_, by rw [hn]⟩, q1 c hcl ⟨fun e => ?_, fun hnd => ?_⟩⟩
  · exact (nodup_of_len _ ns nd sub (hlen.trans e)).2
  · refine Nat.le_antisymm hcl ?_
    rw [← hlen]
    exact nodup_le ns _ hnd fun k hk => (mem k).mp (decide_eq_true hk)
end
end My
set_option Elab.async false
set_option linter.all false
set_option maxRecDepth 100000
set_option maxHeartbeats 4000000
/-! the source of draws of law_k08 and many behind it -/
namespace My
open PySem PySem.Spec PyProof.Rows L2 Evl
/-! ### the other source of draws: d its list of three, L its list of cells, c the cell under way, z the seed -/
structure Deal3C (d L : Addr) (cs : List Int) (c z : Int) (H : Hp) : Prop where
  d : H d = some (.lst [.ref L, .int c, .int z])
  c0 : 0 ≤ c
  l : H L = some (.lst (cs.map V.int))
  nn : ∀ c ∈ cs, 0 ≤ c
  z0 : 0 ≤ z
  z1 : z < 2147483647
  len : cs.length ≤ 63
def Deal3 (d L : Addr) (H : Hp) : Prop := ∃ cs c z, Deal3C d L cs c z H
/-- all but the source of draws is as it was, and this stands -/
structure Mv3 (d L : Addr) (H H' : Hp) : Prop where
  kp : ∀ b o, b ≠ d → b ≠ L → H b = some o → H' b = some o
  dl : Deal3 d L H'
theorem Deal3C.ne {d L : Addr} {cs : List Int} {c z : Int} {H : Hp} (D : Deal3C d L cs c z H) : d ≠ L := fun e => by
  have a := D.d
  rw [e, D.l] at a
  cases cs with
  | nil => cases a
  | cons c cs =>
    have b := List.cons.inj (HO.lst.inj (Option.some.inj a))
    cases b.1
theorem Deal3.ne {d L : Addr} {H : Hp} (D : Deal3 d L H) : d ≠ L := D.elim fun _ h => h.elim fun _ h => h.elim fun _ D => D.ne
theorem Deal3C.ex {d L : Addr} {cs : List Int} {c z : Int} {H H' : Hp} (D : Deal3C d L cs c z H) (e : Ex H H') : Deal3C d L cs c z H' := ⟨e _ _ D.d, D.c0, e _ _ D.l, D.nn, D.z0, D.z1, D.len⟩
theorem Deal3.ex {d L : Addr} {H H' : Hp} (D : Deal3 d L H) (e : Ex H H') : Deal3 d L H' := by
  obtain ⟨cs, c, z, D⟩ := D
  exact ⟨cs, c, z, D.ex e⟩
theorem Mv3.of_ex {d L : Addr} {H H' : Hp} (D : Deal3 d L H) (e : Ex H H') : Mv3 d L H H' := ⟨fun _ _ _ _ h => e _ _ h, D.ex e⟩
theorem Mv3.refl {d L : Addr} {H : Hp} (D : Deal3 d L H) : Mv3 d L H H := .of_ex D (Ex.refl H)
theorem Mv3.trans {d L : Addr} {H H1 H2 : Hp} (a : Mv3 d L H H1) (b : Mv3 d L H1 H2) : Mv3 d L H H2 := ⟨fun x o h1 h2 h => b.kp x o h1 h2 (a.kp x o h1 h2 h), b.dl⟩
theorem Mv3.tex {d L : Addr} {H H1 H2 : Hp} (a : Mv3 d L H H1) (e : Ex H1 H2) : Mv3 d L H H2 := a.trans (.of_ex a.dl e)
theorem Mv3.new {d L : Addr} {H H1 : Hp} {p : Addr} {o : HO} (a : Mv3 d L H H1) (h : H1 p = none) : Mv3 d L H (upd H1 p o) := a.tex (Ex.new h)
/-- a new place is not the source's -/
theorem Deal3.off {d L : Addr} {H : Hp} {p : Addr} (D : Deal3 d L H) (h : H p = none) : p ≠ d ∧ p ≠ L := by
  obtain ⟨cs, c, z, D⟩ := D
  exact ⟨fun e => (by rw [e, D.d] at h; cases h), fun e => (by rw [e, D.l] at h; cases h)⟩
theorem Deal3.offL {d L : Addr} {H : Hp} {p : Addr} {xs : List Int} (D : Deal3 d L H) (h : H p = some (.lst (xs.map V.int))) : p ≠ d := fun e => by
  obtain ⟨cs, c, z, D⟩ := D
  rw [e, D.d] at h
  cases xs with
  | nil => cases h
  | cons c cs =>
    have b := List.cons.inj (HO.lst.inj (Option.some.inj h))
    cases b.1
theorem Mv3.free {d L : Addr} {H H' : Hp} {p : Addr} (a : Mv3 d L H H') (h : H' p = none) : H p = none := by
  have o := a.dl.off h
  cases h1 : H p with
  | none => rfl
  | some u => rw [a.kp p u o.1 o.2 h1] at h; cases h
theorem Mv3.mut {d L : Addr} {H H' : Hp} {D : Addr} {o : HO} (a : Mv3 d L H H') (h : H D = none) (h1 : D ≠ d) (h2 : D ≠ L) : Mv3 d L H (upd H' D o) := by
  obtain ⟨kp, cs, c, z, D'⟩ := a
  exact ⟨fun b u x1 x2 e => by rw [upd_ne (ne_of_none e h)]; exact kp b u x1 x2 e, cs, c, z, ⟨by rw [upd_ne h1.symm]; exact D'.d, D'.c0, by rw [upd_ne h2.symm]; exact D'.l, D'.nn, D'.z0, D'.z1, D'.len⟩⟩
end My
set_option Elab.async false
set_option linter.all false
set_option maxRecDepth 100000
set_option maxHeartbeats 4000000
set_option exponentiation.threshold 5000
/-! any values: None, bools, ints, texts, lists and tuples of such, as data -/
namespace My
open PySem PySem.Spec PyProof.Rows L2 Evl
def All2 {α β : Type} (R : α → β → Prop) : List α → List β → Prop
  | [], [] => True
  | a :: as, b :: bs => R a b ∧ All2 R as bs
  | _, _ => False
theorem All2.imp {α β : Type} {R S : α → β → Prop} (h : ∀ a b, R a b → S a b) : ∀ {as : List α} {bs : List β}, All2 R as bs → All2 S as bs
  | [], [], _ => trivial
  | _ :: _, _ :: _, ⟨x, y⟩ => ⟨h _ _ x, All2.imp h y⟩
  | [], _ :: _, x => x.elim
  | _ :: _, [], x => x.elim
theorem All2.len {α β : Type} {R : α → β → Prop} : ∀ {as : List α} {bs : List β}, All2 R as bs → bs.length = as.length
  | [], [], _ => rfl
  | _ :: _, _ :: _, ⟨_, y⟩ => by rw [List.length_cons, List.length_cons, All2.len y]
  | [], _ :: _, x => x.elim
  | _ :: _, [], x => x.elim
theorem All2.snoc {α β : Type} {R : α → β → Prop} {a : α} {b : β} (r : R a b) : ∀ {as : List α} {bs : List β}, All2 R as bs → All2 R (as ++ [a]) (bs ++ [b])
  | [], [], _ => ⟨r, trivial⟩
  | _ :: _, _ :: _, ⟨x, y⟩ => ⟨x, All2.snoc r y⟩
  | [], _ :: _, x => x.elim
  | _ :: _, [], x => x.elim
theorem All2.rep {α β : Type} {R : α → β → Prop} {a : α} {b : β} (r : R a b) : ∀ n : Nat, All2 R (List.replicate n a) (List.replicate n b)
  | 0 => trivial
  | n + 1 => ⟨r, All2.rep r n⟩
/-- a leaf -/
def Lf : V → PyData → Prop
  | .non, .none => True
  | .bl b, .bool c => b = c
  | .int i, .int j => i = j ∧ i.natAbs < 10 ^ 31
  | .str x, .str y => x = y ∧ x.cps.size ≤ 20 ∧ (x.cps.toList.all fun c => decide (c < 16 ^ 8)) = true
  | _, _ => False
/-- a value of depth n at most, none of whose objects is bad -/
def Av (bad : Addr → Prop) (H : Hp) : Nat → V → PyData → Prop
  | 0, v, d => Lf v d
  | n + 1, v, d => Lf v d ∨ ∃ p xs ds, v = .ref p ∧ ¬ bad p ∧ xs.length ≤ 4 ∧ All2 (Av bad H n) xs ds ∧ ((H p = some (.lst xs) ∧ d = .list ds) ∨ (H p = some (.tup xs) ∧ d = .tuple ds))
section
variable {bad : Addr → Prop} {H H' : Hp}
theorem Av.leaf {v : V} {d : PyData} (h : Lf v d) : ∀ n, Av bad H n v d
  | 0 => h
  | _ + 1 => .inl h
theorem Av.up : ∀ {n : Nat} {v : V} {d : PyData}, Av bad H n v d → Av bad H (n + 1) v d
  | 0, _, _, h => .inl h
  | n + 1, _, _, .inl h => .inl h
  | n + 1, _, _, .inr ⟨p, xs, ds, e, b, l, a, o⟩ => .inr ⟨p, xs, ds, e, b, l, a.imp fun _ _ => Av.up, o⟩
theorem Av.keep (k : ∀ b o, ¬ bad b → H b = some o → H' b = some o) : ∀ {n : Nat} {v : V} {d : PyData}, Av bad H n v d → Av bad H' n v d
  | 0, _, _, h => h
  | n + 1, _, _, .inl h => .inl h
  | n + 1, _, _, .inr ⟨p, xs, ds, e, b, l, a, o⟩ => .inr ⟨p, xs, ds, e, b, l, a.imp fun _ _ => Av.keep k, by
      rcases o with ⟨o, e⟩ | ⟨o, e⟩
      · exact .inl ⟨k _ _ b o, e⟩
      · exact .inr ⟨k _ _ b o, e⟩⟩
theorem Av.avoid {p : Addr} (hp : H p = none) : ∀ {n : Nat} {v : V} {d : PyData}, Av bad H n v d → Av (fun b => bad b ∨ b = p) H n v d
  | 0, _, _, h => h
  | n + 1, _, _, .inl h => .inl h
  | n + 1, _, _, .inr ⟨q, xs, ds, e, b, l, a, o⟩ => by
    have nq : ¬ (bad q ∨ q = p) := fun z => by
      rcases z with z | z
      · exact b z
      · subst z
        rcases o with ⟨o, _⟩ | ⟨o, _⟩ <;> (rw [hp] at o; cases o)
    exact .inr ⟨q, xs, ds, e, nq, l, a.imp fun _ _ => Av.avoid hp, o⟩
theorem Av.less {bad' : Addr → Prop} (k : ∀ b, bad' b → bad b) : ∀ {n : Nat} {v : V} {d : PyData}, Av bad H n v d → Av bad' H n v d
  | 0, _, _, h => h
  | n + 1, _, _, .inl h => .inl h
  | n + 1, _, _, .inr ⟨q, xs, ds, e, b, l, a, o⟩ => .inr ⟨q, xs, ds, e, fun z => b (k _ z), l, a.imp fun _ _ => Av.less k, o⟩
theorem Lf.dp {K : PySem.W.Frag} {v : V} {d : PyData} (h : Lf v d) : Dp K H v d := by
  unfold Lf at h
  split at h
  · exact .non
  · cases h; exact .bl _
  · obtain ⟨rfl, _⟩ := h; exact .int _
  · obtain ⟨rfl, _⟩ := h; exact .str _
  · exact h.elim
theorem All2.dp {K : PySem.W.Frag} {R : V → PyData → Prop} (r : ∀ v d, R v d → Dp K H v d) : ∀ {vs : List V} {ds : List PyData}, All2 R vs ds → DpAll K H vs ds
  | [], [], _ => .nil
  | _ :: _, _ :: _, ⟨x, y⟩ => .cons (r _ _ x) (All2.dp r y)
  | [], _ :: _, x => x.elim
  | _ :: _, [], x => x.elim
theorem Av.dp {K : PySem.W.Frag} : ∀ {n : Nat} {v : V} {d : PyData}, Av bad H n v d → Dp K H v d
  | 0, _, _, h => Lf.dp h
  | n + 1, _, _, .inl h => Lf.dp h
  | n + 1, _, _, .inr ⟨q, xs, ds, e, b, l, a, o⟩ => by
    subst e
    rcases o with ⟨o, rfl⟩ | ⟨o, rfl⟩
    · exact .lst (sq_of o) (a.dp fun _ _ => Av.dp)
    · exact .tup (st_of o) (a.dp fun _ _ => Av.dp)
/-- what repr asks of data -/
structure Fine (n b : Nat) (d : PyData) : Prop where
  sh : d.showable = true
  nd : d.hasDict = false
  ls : d.leavesShort 40 = true
  dp : d.depth ≤ n
  bk : d.bulk ≤ b
theorem intShort {i : Int} (h : i.natAbs < 10 ^ 31) : (PyData.shown (.int i)).length ≤ 40 := by
  have := int_text_length_le10 (a := i) (k := 31) (by decide) h
  have e : (PyData.shown (.int i)).length = (toString i).length := by
    show (PySem.Str.ofString (toString i)).length = _
    rw [PySem.ofString_length]
  omega
theorem log31 {i : Int} (h : i.natAbs < 10 ^ 31) : i.natAbs.log2 < 1920 :=
  Nat.lt_of_lt_of_le (PySem.Flt.log2_lt_of (k := 104) (by decide) (Nat.lt_of_lt_of_le h (by decide))) (by decide)
theorem Lf.fine {v : V} {d : PyData} (h : Lf v d) : Fine 0 20 d := by
  unfold Lf at h
  split at h
  · exact ⟨by rw [PyData.showable], by rw [PyData.hasDict], by rw [PyData.leavesShort], by rw [PyData.depth]; omega, by rw [PyData.bulk]; omega⟩
  · exact ⟨by rw [PyData.showable], by rw [PyData.hasDict], by rw [PyData.leavesShort], by rw [PyData.depth]; omega, by rw [PyData.bulk]; omega⟩
  · obtain ⟨rfl, h⟩ := h
    exact ⟨by rw [PyData.showable]; exact decide_eq_true (log31 h), by rw [PyData.hasDict], by rw [PyData.leavesShort]; exact decide_eq_true (intShort h), by rw [PyData.depth]; omega, by rw [PyData.bulk]; omega⟩
  · obtain ⟨rfl, h1, h2⟩ := h
    exact ⟨by rw [PyData.showable], by rw [PyData.hasDict], by rw [PyData.leavesShort]; exact h2, by rw [PyData.depth]; omega, by rw [PyData.bulk]; exact h1⟩
  · exact h.elim
theorem Fine.more {n b m c : Nat} {d : PyData} (f : Fine n b d) (h1 : n ≤ m) (h2 : b ≤ c) : Fine m c d := ⟨f.sh, f.nd, f.ls, Nat.le_trans f.dp h1, Nat.le_trans f.bk h2⟩
theorem All2.fine {R : V → PyData → Prop} {n b : Nat} (r : ∀ v d, R v d → Fine n b d) : ∀ {vs : List V} {ds : List PyData}, All2 R vs ds →
    PyData.showableAll ds = true ∧ PyData.hasDictAll ds = false ∧ PyData.leavesShortAll 40 ds = true ∧ PyData.depthAll ds ≤ n ∧ PyData.bulkAll ds ≤ vs.length * (b + 1)
  | [], [], _ => ⟨rfl, rfl, rfl, Nat.zero_le _, Nat.zero_le _⟩
  | v :: vs, d :: ds, ⟨x, y⟩ => by
    obtain ⟨a1, a2, a3, a4, a5⟩ := All2.fine r y
    have f := r _ _ x
    refine ⟨by rw [PyData.showableAll, f.sh, a1]; rfl, by rw [PyData.hasDictAll, f.nd, a2]; rfl, by rw [PyData.leavesShortAll, f.ls, a3]; rfl, by rw [PyData.depthAll]; exact Nat.max_le.mpr ⟨f.dp, a4⟩, ?_⟩
    rw [PyData.bulkAll, List.length_cons, Nat.add_mul, Nat.one_mul]
    have := f.bk
    omega
  | [], _ :: _, x => x.elim
  | _ :: _, [], x => x.elim
theorem Fine.list {R : V → PyData → Prop} {n b k : Nat} {vs : List V} {ds : List PyData} (r : ∀ v d, R v d → Fine n b d) (h : All2 R vs ds) (hl : vs.length ≤ k) : Fine (n + 1) (k * (b + 1)) (.list ds) := by
  obtain ⟨a1, a2, a3, a4, a5⟩ := h.fine r
  exact ⟨by rw [PyData.showable]; exact a1, by rw [PyData.hasDict]; exact a2, by rw [PyData.leavesShort]; exact a3, by rw [PyData.depth]; omega, by rw [PyData.bulk]; exact Nat.le_trans a5 (Nat.mul_le_mul_right _ hl)⟩
theorem Fine.tup {R : V → PyData → Prop} {n b k : Nat} {vs : List V} {ds : List PyData} (r : ∀ v d, R v d → Fine n b d) (h : All2 R vs ds) (hl : vs.length ≤ k) : Fine (n + 1) (k * (b + 1)) (.tuple ds) := by
  obtain ⟨a1, a2, a3, a4, a5⟩ := h.fine r
  exact ⟨by rw [PyData.showable]; exact a1, by rw [PyData.hasDict]; exact a2, by rw [PyData.leavesShort]; exact a3, by rw [PyData.depth]; omega, by rw [PyData.bulk]; exact Nat.le_trans a5 (Nat.mul_le_mul_right _ hl)⟩
def bkOf : Nat → Nat
  | 0 => 20
  | n + 1 => 4 * (bkOf n + 1)
theorem bkOf_ge : ∀ n, 20 ≤ bkOf n
  | 0 => Nat.le_refl _
  | n + 1 => by have := bkOf_ge n; rw [bkOf]; omega
theorem Av.fine : ∀ {n : Nat} {v : V} {d : PyData}, Av bad H n v d → Fine n (bkOf n) d
  | 0, _, _, h => Lf.fine h
  | n + 1, _, _, .inl h => (Lf.fine h).more (Nat.zero_le _) (bkOf_ge _)
  | n + 1, _, _, .inr ⟨q, xs, ds, e, b, l, a, o⟩ => by
    rcases o with ⟨_, rfl⟩ | ⟨_, rfl⟩
    · exact Fine.list (fun _ _ => Av.fine) a l
    · exact Fine.tup (fun _ _ => Av.fine) a l
/-- repr of fine data -/
theorem reprFine {K : PySem.W.Frag} {v : V} {d : PyData} {n b : Nat} {Q : VK} (hd : Dp K H v d) (f : Fine n b d) (h1 : n ≤ 100) (h2 : b ≤ 300000) (q : Q (.str d.shown) H) : rReprD K [v] H Q :=
  ⟨v, d, rfl, hd, f.sh, f.nd, Nat.le_trans f.dp h1, Nat.le_trans (PyData.shown_le_bulk 40 (by decide) d f.ls) (by have := f.bk; rw [sizeLine_eq]; omega), q⟩
end
/-- any value that is made: none of its objects is bad; n bounds the depth -/
structure AnyR (bad : Addr → Prop) (n : Nat) (H : Hp) (v : V) (D : PyData) : Prop where
  av : Av bad H (n + 1) v D
  ls : ∀ p xs, v = .ref p → H p = some (.lst xs) → ∃ ds, D = .list ds ∧ ¬ bad p ∧ xs.length ≤ 3 ∧ All2 (Av (fun b => bad b ∨ b = p) H n) xs ds
/-- what is not new behind H, or the source's -/
def Bd (d L : Addr) (H : Hp) : Addr → Prop := fun b => (b = d ∨ b = L) ∨ H b ≠ none
theorem AnyR.leaf {bad : Addr → Prop} {n : Nat} {H : Hp} {v : V} {D : PyData} (h : Lf v D) : AnyR bad n H v D :=
  ⟨Av.leaf h _, fun p xs e _ => by subst e; cases D <;> exact h.elim⟩
theorem AnyR.kp {bad : Addr → Prop} {n : Nat} {H H' : Hp} {v : V} {D : PyData} (h : AnyR bad n H v D) (k : ∀ b o, ¬ bad b → H b = some o → H' b = some o) : AnyR bad n H' v D := by
  refine ⟨h.av.keep k, fun p xs e hp => ?_⟩
  rcases h.av with h0 | ⟨q, ys, ds, e2, b, l, a, o⟩
  · subst e; cases D <;> exact h0.elim
  · rw [e] at e2
    cases e2
    rcases o with ⟨o, _⟩ | ⟨o, _⟩
    · have o2 := k _ _ b o
      rw [hp] at o2
      cases o2
      obtain ⟨es, x1, x2, x4, x5⟩ := h.ls p xs e o
      exact ⟨es, x1, x2, x4, x5.imp fun _ _ z => z.keep fun b o nb => k b o fun w => nb (.inl w)⟩
    · have o2 := k _ _ b o
      rw [hp] at o2
      cases o2
theorem AnyR.mv {d L : Addr} {n : Nat} {H0 H H' : Hp} {v : V} {D : PyData} (h : AnyR (Bd d L H0) n H v D) (m : Mv d L H H') : AnyR (Bd d L H0) n H' v D :=
  h.kp fun b o nb e => m.kp b o (fun z => nb (.inl (.inl z))) (fun z => nb (.inl (.inr z))) e
theorem AnyR.ex {bad : Addr → Prop} {n : Nat} {H H' : Hp} {v : V} {D : PyData} (h : AnyR bad n H v D) (m : Ex H H') : AnyR bad n H' v D :=
  h.kp fun b o _ e => m b o e
/-- whether it is a list -/
theorem AnyR.isL {bad : Addr → Prop} {n : Nat} {H : Hp} {v : V} {D : PyData} (h : AnyR bad n H v D) : (∃ p xs, v = .ref p ∧ H p = some (.lst xs)) ∨ (∃ t, vty H v = some t ∧ kitB t "list" = some false ∧ ∀ p xs, v = .ref p → H p ≠ some (.lst xs)) := by
  rcases h.av with h0 | ⟨q, ys, ds, rfl, b, l, a, o⟩
  · refine .inr ?_
    cases v <;> cases D <;> first | exact h0.elim | skip
    · exact ⟨_, rfl, by decide +kernel, fun p xs e => by cases e⟩
    · exact ⟨_, rfl, by decide +kernel, fun p xs e => by cases e⟩
    · exact ⟨_, rfl, by decide +kernel, fun p xs e => by cases e⟩
    · exact ⟨_, rfl, by decide +kernel, fun p xs e => by cases e⟩
  · rcases o with ⟨o, _⟩ | ⟨o, _⟩
    · exact .inl ⟨q, ys, rfl, o⟩
    · refine .inr ⟨"tuple", by simp [vty, o], kb11, fun p xs e z => ?_⟩
      cases e
      rw [o] at z; cases z
theorem AnyR.fine {bad : Addr → Prop} {n : Nat} {H : Hp} {v : V} {D : PyData} (h : AnyR bad n H v D) : Fine (n + 1) (bkOf (n + 1)) D := h.av.fine
end My
set_option Elab.async false
set_option linter.all false
set_option maxRecDepth 100000
set_option maxHeartbeats 4000000
/-! a tuple, times once and times more -/
namespace My
open PySem PySem.Spec PyProof.Rows L2 Evl
theorem tupMul1 (l : Addr) (items : Array Value) (n : Nat) (dd : Option Addr) (sl : Array (Option Value)) (u : Tok) :
    Meets (Builtin.«tuple.__mul__» ⟨[.ref l, .int 1 u], []⟩) (fun _ R s => s.heap.get? l = some { cls := .type "tuple", dict := dd, data := .seq items n, slots := sl } ∧ R (.ok (.ret (.ref l))) s) :=
  .of_wp fun prog w A R s h => by
    obtain ⟨hp, g, d, tk, os⟩ := s
    obtain ⟨hl, h⟩ := h
    have f1 := AutoSeq1.idx_int
    wp_walk using wpAny_loadPart' hl
    repeat (first
      | (refine wpAny_ite_false (decide_eq_false (by decide)) ?_; wp_walk using wpAny_loadPart' hl)
      | (refine wpAny_ite_true (decide_eq_true (by simp)) ?_; wp_walk using wpAny_loadPart' hl))
    exact ⟨_, rfl, h⟩
section
variable {X : Cx}
/-- a tuple times k: itself once, a new one more often -/
def rRepT1 (K : PySem.W.Frag) : R2 := fun x y H Q => ∃ l k xs, x = .ref l ∧ y = .int k ∧ SqT K H l xs ∧ ((k = 1 ∧ Q (.ref l) H) ∨ (xs ≠ [] ∧ 2 ≤ k ∧ k ≤ 1000 ∧ xs.length ≤ 1000 ∧ ∀ p, H p = none → Q (.ref p) (upd H p (.tup (List.replicate k.toNat xs).flatten))))
theorem op_repT1 : OpR X (binaryOp .Mult) (rRepT1 X.K) := by
  intro pins s σ H x y v u Q I rx ry h
  obtain ⟨l, k, xs, rfl, rfl, hT, h⟩ := h
  rcases h with ⟨rfl, q⟩ | ⟨h1, h2, h3, h4, q⟩
  · cases rx
    obtain ⟨t, rfl⟩ := ry
    obtain ⟨its, r, ⟨⟨cls, dd, data, sl⟩, ho, hc, n, hd⟩, hs⟩ := I.tuple hT
    simp only at hc hd
    subst hc hd
    exact wpAny_binaryOp_repeat_ref (T := "tuple") (U := "int") (by decide) ⟨_, ho, rfl⟩ (fun s' => typeIs_int s' 1 t) noFill_tuple_mul F.fills_int_mul F.slot_int_rmul repeat_tuple F.slot_int_index.lookup
      (call_meets F.slot_int_rmul (typeIs_int s 1 t) F.entry_int_rmul (F.args_int_rmul_2 _ _) (int_rmul_tuple 1 t l its.toArray n dd sl)
        ⟨ho, rfl, ⟨_, ho, rfl⟩, call_meets F.slot_tuple_mul ⟨_, ho, rfl⟩ F.entry_tuple_mul (F.args_tuple_mul_2 _ _) (tupMul1 l its.toArray n dd sl t) ⟨ho, .ref l, H, I, rfl, q⟩⟩)
  · exact op_repT pins s σ H _ _ v u Q I rx ry ⟨_, _, _, rfl, rfl, hT, h1, h2, h3, h4, q⟩
theorem op_in_kdE {d : Addr} (D : ∃ es n, KDict X.K X.w d es n) : OpR X (compareOp .In) (fun x y H Q => ∃ (z : Str) (r : Option Value), x = .str z ∧ y = .ref d ∧ PySem.W.nsIn X.K d z = some r ∧ Q (.bl r.isSome) H) := by
  obtain ⟨es, n, D⟩ := D
  exact op_in_kd D
theorem op_notIn_kdE {d : Addr} (D : ∃ es n, KDict X.K X.w d es n) : OpR X (compareOp .NotIn) (fun x y H Q => ∃ (z : Str) (r : Option Value), x = .str z ∧ y = .ref d ∧ PySem.W.nsIn X.K d z = some r ∧ Q (.bl (!r.isSome)) H) := by
  obtain ⟨es, n, D⟩ := D
  exact op_notIn_kd D
end
/-- two tuples side by side -/
theorem walk_zipT {K : PySem.W.Frag} {a b : Addr} {xs ys : List V} {n : Nat} (hn : n = min xs.length ys.length) : Walk (RZ.ItzT K a b) n (fun H => SqT K H a xs ∧ SqT K H b ys) (YPair (fun i => xs[i]?) (fun i => ys[i]?)) := by
  subst hn
  refine ⟨fun i H hi h => ?_, fun H h => ⟨xs, ys, h.1, h.2, by omega⟩, fun i H v H' hi h y => ?_⟩
  · have l1 : i < xs.length := by omega
    have l2 : i < ys.length := by omega
    exact ⟨xs, ys, xs[i], ys[i], h.1, h.2, List.getElem?_eq_getElem l1, List.getElem?_eq_getElem l2⟩
  · obtain ⟨T, x, z, e1, e2, e3, e4, e5⟩ := y
    exact ⟨T, x, z, e1, e2, e3, e4 xs h.1, e5 ys h.2⟩
end My
set_option Elab.async false
set_option linter.all false
set_option maxRecDepth 100000
set_option maxHeartbeats 4000000
/-! texts of lines -/
namespace My
open PySem PySem.Spec PyProof.Rows L2 Evl
theorem str_assoc (a b c : Str) : a ++ b ++ c = a ++ (b ++ c) := PySem.Str.append_assoc a b c
theorem str_len (a b : Str) : (a ++ b).length = a.length + b.length := PySem.Str.length_append a b
theorem emp_app (a : Str) : Str.empty ++ a = a := PySem.Str.ext' (by show (#[] ++ a.cps : Array Nat) = a.cps; simp)
theorem emp_app' (a : Str) : (Str.ofString "") ++ a = a := PySem.Str.ext' (by show ((Str.ofString "").cps ++ a.cps : Array Nat) = a.cps; rw [show (Str.ofString "").cps = #[] from rfl]; simp)
theorem join_nil (s : Str) : Txt.join s [] = Str.empty := by rw [TL.join_eq]; rfl
theorem join_one (s x : Str) : Txt.join s [x] = x := by rw [TL.join_eq]; rfl
theorem join_cons (s x y : Str) (r : List Str) : Txt.join s (x :: y :: r) = x ++ s ++ Txt.join s (y :: r) := by rw [TL.join_eq, TL.join_eq]; rfl
theorem join_cons' (s x : Str) {r : List Str} (h : r ≠ []) : Txt.join s (x :: r) = x ++ s ++ Txt.join s r := by
  cases r with
  | nil => exact absurd rfl h
  | cons y r => exact join_cons s x y r
theorem join_app (s : Str) : ∀ {as bs : List Str}, as ≠ [] → bs ≠ [] → Txt.join s (as ++ bs) = Txt.join s as ++ s ++ Txt.join s bs
  | [], _, h, _ => absurd rfl h
  | [a], bs, _, h => by rw [List.singleton_append, join_cons' s a h, join_one]
  | a :: b :: r, bs, _, h => by
    have ih := join_app s (as := b :: r) (bs := bs) (by simp) h
    rw [List.cons_append, join_cons' s a (r := b :: r ++ bs) (by simp), ih, join_cons]
    simp only [str_assoc]
theorem join_flat (s : Str) : ∀ {ls : List (List Str)}, (∀ l ∈ ls, l ≠ []) → Txt.join s (ls.map (Txt.join s)) = Txt.join s ls.flatten
  | [], _ => rfl
  | [l], _ => by rw [List.map_cons, List.map_nil, join_one, List.flatten_cons, List.flatten_nil, List.append_nil]
  | l :: m :: r, h => by
    have ih := join_flat s (ls := m :: r) fun x hx => h x (List.mem_cons_of_mem _ hx)
    have hm : (m :: r).flatten ≠ [] := by
      rw [List.flatten_cons]
      intro z
      exact h m (by simp) (List.append_eq_nil_iff.mp z).1
    rw [List.map_cons, join_cons' s _ (by simp), ih, List.flatten_cons (l := l), join_app s (h l (by simp)) hm]
/-- how long lines are, each with its end -/
def wt (ls : List Str) : Nat := (ls.map fun x => x.length + 1).sum
theorem wt_app (as bs : List Str) : wt (as ++ bs) = wt as + wt bs := by unfold wt; rw [List.map_append, List.sum_append]
theorem wt_cons (a : Str) (bs : List Str) : wt (a :: bs) = a.length + 1 + wt bs := by unfold wt; rw [List.map_cons, List.sum_cons]
theorem wt_sum : ∀ ls : List Str, wt ls = (ls.map (·.length)).sum + ls.length * 1
  | [] => rfl
  | a :: r => by rw [wt_cons, wt_sum r, List.map_cons, List.sum_cons, List.length_cons]; omega
theorem join_wt {s : Str} (hs : s.length = 1) : ∀ {ls : List Str}, ls ≠ [] → (Txt.join s ls).length + 1 = wt ls
  | [], h => absurd rfl h
  | [a], _ => by rw [join_one, wt_cons]; rfl
  | a :: b :: r, _ => by
    have ih := join_wt hs (ls := b :: r) (by simp)
    rw [join_cons, str_len, str_len, hs, wt_cons]
    omega
theorem lines_ne (r : RowM) : r.lines ≠ [] := by cases r <;> simp [RowM.lines]
theorem liness_eq : ∀ rs : List RowM, RowM.liness rs = (rs.map RowM.lines).flatten
  | [] => by simp [RowM.liness]
  | r :: rs => by rw [RowM.liness, liness_eq rs, List.map_cons, List.flatten_cons]
theorem elses_eq (os : List RowM) : RowM.elses os = if os = [] then [] else ("else" : Str) :: RowM.liness os := by
  cases os with
  | nil => simp [RowM.elses]
  | cons o os => rw [if_neg (by simp), RowM.elses, RowM.liness]
theorem nl1 : (Str.ofString "\n").length = 1 := by decide
theorem sp1 : (Str.ofString " ").length = 1 := by decide
theorem text_wt (r : RowM) : r.text.length + 1 = wt r.lines := join_wt nl1 (lines_ne r)
theorem wt_liness : ∀ rs : List RowM, wt (RowM.liness rs) = (rs.map fun r => r.text.length + 1).sum
  | [] => by simp [RowM.liness, wt]
  | r :: rs => by rw [RowM.liness, wt_app, wt_liness rs, ← text_wt, List.map_cons, List.sum_cons]
/-- the text of a counted block, of a choice: by the texts of its rows -/
theorem text_times (c : Nat) (rs : List RowM) : (RowM.times c rs).text = Txt.join (Str.ofString "\n") ((Str.ofString "times " ++ Str.ofString (toString (c : Int))) :: (rs.map RowM.text ++ [("end" : Str)])) := by
  have e := join_flat (Str.ofString "\n") (ls := [Str.ofString "times " ++ Str.ofString (toString (c : Int))] :: (rs.map RowM.lines ++ [[("end" : Str)]])) (fun l hl => by
    simp only [List.mem_cons, List.mem_append, List.mem_map, List.not_mem_nil, or_false] at hl
    rcases hl with rfl | ⟨r, _, rfl⟩ | rfl
    · simp
    · exact lines_ne r
    · simp)
  rw [List.map_cons, join_one, List.map_append, List.map_map, List.map_cons, List.map_nil, join_one] at e
  rw [show (rs.map RowM.text) = rs.map (Txt.join (Str.ofString "\n") ∘ RowM.lines) from rfl, e]
  unfold RowM.text
  rw [RowM.lines, liness_eq]
  simp
theorem text_ifr (t : TestM) (rs os : List RowM) : (RowM.ifr t rs os).text = Txt.join (Str.ofString "\n") (((Str.ofString "if " ++ t.text) :: rs.map RowM.text ++ (if os = [] then [] else ("else" : Str) :: os.map RowM.text)) ++ [("end" : Str)]) := by
  have e := join_flat (Str.ofString "\n") (ls := (([Str.ofString "if " ++ t.text] :: rs.map RowM.lines) ++ (if os = [] then [] else [("else" : Str)] :: os.map RowM.lines)) ++ [[("end" : Str)]]) (fun l hl => by
    simp only [List.mem_cons, List.mem_append, List.mem_map, List.not_mem_nil, or_false] at hl
    rcases hl with ((rfl | ⟨r, _, rfl⟩) | hl) | rfl
    · simp
    · exact lines_ne r
    · split at hl
      · cases hl
      · rcases List.mem_cons.mp hl with rfl | hl
        · simp
        · obtain ⟨r, _, rfl⟩ := List.mem_map.mp hl
          exact lines_ne r
    · simp)
  rw [List.map_append, List.map_append, List.map_cons, join_one, List.map_map, List.map_cons, List.map_nil, join_one] at e
  have e2 : List.map (Txt.join (Str.ofString "\n")) (if os = [] then [] else [("else" : Str)] :: os.map RowM.lines) = (if os = [] then [] else ("else" : Str) :: os.map RowM.text) := by
    split
    · rfl
    · rw [List.map_cons, join_one, List.map_map]; rfl
  rw [e2] at e
  rw [show (rs.map RowM.text) = rs.map (Txt.join (Str.ofString "\n") ∘ RowM.lines) from rfl, e]
  unfold RowM.text
  rw [RowM.lines, liness_eq, elses_eq, liness_eq]
  split <;> simp
/-! ### words of signs -/
theorem em0 : (Str.ofString "").length = 0 := by decide
theorem word_of (P : Nat → Prop) : ∀ {xs : List Str}, (∀ x ∈ xs, ∃ c, x = ⟨#[c]⟩ ∧ P c) → (Txt.join (Str.ofString "") xs).length = xs.length ∧ ∀ c ∈ (Txt.join (Str.ofString "") xs).cps.toList, P c
  | [], _ => by rw [join_nil]; exact ⟨rfl, fun c hc => by cases hc⟩
  | [x], h => by
    obtain ⟨c, rfl, hc⟩ := h x (by simp)
    rw [join_one]
    exact ⟨rfl, fun z hz => by simp at hz; rw [hz]; exact hc⟩
  | x :: y :: r, h => by
    obtain ⟨c, rfl, hc⟩ := h x (by simp)
    obtain ⟨h1, h2⟩ := word_of P (xs := y :: r) fun z hz => h z (List.mem_cons_of_mem _ hz)
    rw [join_cons]
    refine ⟨by rw [str_len, str_len, em0, h1]; simp [PySem.Str.length]; omega, fun z hz => ?_⟩
    have e : ((⟨#[c]⟩ : Str) ++ Str.ofString "" ++ Txt.join (Str.ofString "") (y :: r)).cps.toList = c :: (Txt.join (Str.ofString "") (y :: r)).cps.toList := by
      show ((#[c] ++ (Str.ofString "").cps) ++ (Txt.join (Str.ofString "") (y :: r)).cps).toList = _
      rw [show (Str.ofString "").cps = #[] from rfl]
      simp
    rw [e] at hz
    rcases List.mem_cons.mp hz with rfl | hz
    · exact hc
    · exact h2 z hz
theorem nodup_len {α : Type} [DecidableEq α] : ∀ (as ns : List α), as.Nodup → (∀ a ∈ as, a ∈ ns) → as.length ≤ ns.length
  | [], _, _, _ => Nat.zero_le _
  | a :: as, ns, hn, h => by
    obtain ⟨h1, h2⟩ := List.nodup_cons.mp hn
    have ih := nodup_len as (ns.erase a) h2 fun b hb => (List.mem_erase_of_ne (fun e => h1 (by rw [← e]; exact hb))).mpr (h b (List.mem_cons_of_mem _ hb))
    have hm := h a (by simp)
    rw [List.length_erase_of_mem hm] at ih
    have := List.length_pos_of_mem hm
    rw [List.length_cons]
    omega
theorem one_free (w : Str) (ns : List Str) (h : ns.length ≤ 3) : ([w, "a", "b", "c", "d"].filter fun x => !(ns.contains x)) ≠ [] := by
  intro e
  have hall : ∀ x ∈ ([w, "a", "b", "c", "d"] : List Str), x ∈ ns := fun x hx => by
    have := List.filter_eq_nil_iff.mp e x hx
    simpa using this
  have := nodup_len (["a", "b", "c", "d"] : List Str) ns (by decide) fun x hx => hall x (List.mem_cons_of_mem _ hx)
  simp at this
  omega
theorem inV_strs (x : Str) (ns : List Str) : inV (.str x) (ns.map V.str) = ns.contains x := by
  unfold inV
  induction ns with
  | nil => rfl
  | cons n ns ih =>
    rw [List.map_cons, List.any_cons, ih, List.contains_cons]
    refine congrArg (· || _) ?_
    show (n == x) = (x == n)
    by_cases h : n = x
    · rw [h]
    · rw [beq_eq_false_iff_ne.mpr h, beq_eq_false_iff_ne.mpr (Ne.symm h)]
theorem flat_strs (ns : List Str) : (ns.map V.str).all flatV = true := by
  induction ns with
  | nil => rfl
  | cons n ns ih => rw [List.map_cons, List.all_cons, ih]; rfl
end My
set_option Elab.async false
set_option linter.all false
set_option maxRecDepth 100000
set_option maxHeartbeats 4000000
/-! o != y by object.__ne__ and the own __eq__ of o's class -/
namespace My
open PySem PySem.Spec PyProof.Rows L2 Evl
section
open PySem.W
variable {prog : Program} {w : World} {A : Around} {E : Value → Shared → Prop} {s : Shared} {K : Frag} {x C f : Addr} {ox : Obj} {od : Option Obj} {b tb : Value} {name : Str} {id : String}
theorem ifBound_B {M : Model} {args : List Value} {Q : Option Value → Shared → Prop} (X : K.In s.heap) (I : InstAt s.heap x ox C od) (hs : findIn K (.ref C) name = some (some (.builtin id))) (hb : ∀ self, bindSpecial (.builtin id) self = pure (.builtin id, [self]))
    (h : wpAny M A (call (.builtin id) (.ref x :: args)) (fun v => Q (some v)) E s) : wpAny M A (callSpecialIfBound? (.ref x) name args) Q E s := by
  simp only [callSpecialIfBound?, bindSpecialIfBound?]
  refine wpAny_holding (wpAny_bind (wpAny_bind (wpAny_bind (I.type.here ((looks_findIn X hs).here ?_)))))
  refine wpAny_bind (wpAny_askSetting (wpAny_ite ?_))
  have fin : wpAny M A (call (.builtin id) ([.ref x] ++ args) >>= fun v => pure (some v)) Q E s := wpAny_bind (wpAny_mono h (fun v s' h' => wpAny_pure h') fun _ _ h' => h')
  split
  · exact wpAny_bind ((Looks.of_pure (hb _)).here (wpAny_pure (by exact fin)))
  · exact wpAny_tryCatch (wpAny_bind ((Looks.of_pure (hb _)).here (wpAny_pure (by exact fin))))
theorem ne_bind (self : Value) : bindSpecial (.builtin "object.__ne__") self = pure (.builtin "object.__ne__", [self]) := PySem.F.cmp_object.ne.bind self
theorem objNe_K {Q : Fin → Shared → Prop} (X : K.In s.heap) (I : InstAt s.heap x ox C od) (hu : A.units < cLine) (hs : findIn K (.ref C) "__eq__" = some (some (.ref f))) (hf : isFn K (.ref f) = true)
    (hcall : wpAny (model prog w) A (call (.ref f) [.ref x, b]) (fun v s' => ∃ r, v = .bool r ∧ Q (.done (.ret (.bool (!r)))) s') E s) :
    wpAny (model prog w) A (Builtin.«object.__ne__» ⟨[.ref x, b], []⟩) Q E s := by
  unfold Builtin.«object.__ne__»
  repeat (first
    | with_reducible refine wpAny_cRoomFor hu ?_
    | (refine wpAny_bind (m := callSpecialIfBound? (.ref x) (Str.ofString "__eq__") [b])
        (ifBound_K X I hs hf (wpAny_mono hcall (fun v s' hr => by
          obtain ⟨r, rfl, hq⟩ := hr
          repeat (first | exact hq | exact wpAny_pure hq | exact wpAny_truthy_bool hq | (refine wpAny_bind (m := truthy (.bool _)) (wpAny_truthy_bool ?_)) | wp_step)) fun _ _ e => e)))
    | wp_step)
theorem cmpNe_K {Q : Value → Shared → Prop} (hu : A.units + 1 < cLine) (X : K.In s.heap) (I : InstAt s.heap x ox C od) (hb : Looks (model prog w) s.heap (typeOf b) tb) (hn : notFirst K C tb = true)
    (hne : findIn K (.ref C) "__ne__" = some (some (.builtin "object.__ne__"))) (hm : mroIn K C (.type "object") = some true)
    (hs : findIn K (.ref C) "__eq__" = some (some (.ref f))) (hf : isFn K (.ref f) = true)
    (h : wpAny (model prog w) A.in1 (call (.ref f) [.ref x, b]) (fun v s' => ∃ r, v = .bool r ∧ Q (.bool (!r)) s') E s) : wpAny (model prog w) A (richCompare .NotEq (.ref x) b) Q E s := by
  have one : wpAny (model prog w) A (tryCompare (.ref x) (cmpInfo .NotEq).2.1 b) (fun r s' => ∃ v, r = some v ∧ Q v s') E s := by
    simp only [tryCompare]
    refine wpAny_bind (ifBound_B X I hne ne_bind (wpAny_call (codeAny_call_builtin PySem.F.cmp_object.ne.plain F.cmpEntry_ne
      (check_slot (i := "object.__ne__") (owner := "object") (n := "__ne__") F.cmpKind_ne F.cmpSplit_ne (I.type.andThen (looks_mroIn X hm)) (F.cmpArgs_ne _ _) ?_))))
    refine objNe_K (A := A.in1) X I hu hs hf (wpAny_mono h (fun v s' hv => ?_) fun _ _ e => e)
    obtain ⟨r, rfl, hq⟩ := hv
    exact ⟨r, rfl, wpAny_pure ⟨_, rfl, hq⟩⟩
  unfold richCompare
  simp only [oneThing_ref]
  refine wpAny_holding (wpAny_bind (wpAny_cRoomFor (Nat.lt_of_succ_lt hu) ?_))
  refine wpAny_bind (I.type.here (wpAny_bind (hb.here ?_)))
  split
  · rename_i q
    have e : subIn K tb (.ref C) = some false := by
      rcases Bool.or_eq_true_iff.mp hn with e | e
      · rw [beq_iff_eq.mp e] at q; simp at q
      · exact beq_iff_eq.mp e
    refine wpAny_bind ((looks_subIn X e).here ?_)
    simp only [Bool.false_eq_true, if_false]
    refine wpAny_bind (wpAny_mono one (fun r s' z => ?_) fun _ _ e => e)
    obtain ⟨v, rfl, hq⟩ := z
    exact wpAny_pure hq
  · refine wpAny_bind (wpAny_pure ?_)
    simp only [Bool.false_eq_true, if_false]
    refine wpAny_bind (wpAny_mono one (fun r s' z => ?_) fun _ _ e => e)
    obtain ⟨v, rfl, hq⟩ := z
    exact wpAny_pure hq
end
/-- what an own class must say that != goes by its __eq__ -/
def NeC (K : PySem.W.Frag) (C : Addr) : Prop := PySem.W.findIn K (.ref C) "__ne__" = some (some (.builtin "object.__ne__")) ∧ PySem.W.mroIn K C (.type "object") = some true
def rNeO (K : PySem.W.Frag) (SF : Addr → Addr → Prop) (sp : Sp) (E : XK) : R2 := fun x y H Q => ∃ a C dx fs g t, x = .ref a ∧ H a = some (.ins C dx fs) ∧ SF C g ∧ TyX K H y t ∧ PySem.W.notFirst K C t = true ∧ sp [x, y] H (fun z H' => ∃ r, z = .bl r ∧ Q (.bl (!r)) H') E
theorem op_neO {X : Cx} {CX : CXT} {n : Nat} {sp : Sp} {E : XK} {SF : Addr → Addr → Prop} (hN : ∀ C g, SF C g → NeC X.K C) (hS : ∀ C g, SF C g → MethC X.K "__eq__" C g) (hF : ∀ C g, SF C g → FnR X.prog X.w X.K X.mg X.base CX n g (onC C sp)) (hr : Room (n + 1) X.A) (hx : Passes CX X E) : OpR X (compareOp .NotEq) (rNeO X.K SF sp E) := by
  intro pins s σ H x y v u Q I rx ry h
  obtain ⟨a, C, dx, fs, g, t, rfl, ha, hg, ty, hn, q⟩ := h
  obtain rfl : v = Value.ref a := rx
  obtain ⟨od, J⟩ := ins_at I ha
  obtain ⟨m, hFr⟩ := I.fr
  obtain ⟨PP, KX, hp, _⟩ := kit_of I ry ty
  have h2 : Room n X.A.in1 := Room.in1 hr
  have hu : X.A.units + 1 < cLine := by have := hr.units; omega
  show wpAny _ _ (richCompare .NotEq _ _) _ _ _
  refine cmpNe_K (tb := t) hu I.kIn J (KX.ty _ _ I.kIn hp) hn (hN C g hg).1 (hN C g hg).2 (hS C g hg).at_ (hS C g hg).fn ?_
  refine wpAny_mono (wpAny_call (SlX.run_at (us := [.ref a, u]) (ws := [.ref a, y]) (hF C g hg) h2 I.env0.in1 hx I (.cons rfl (.cons ry .nil)) ⟨⟨_, _, _, _, rfl, ha⟩, q⟩)) (fun w s' z => ?_) fun _ _ x => x
  obtain ⟨z', H', I', rz, r, ey, qz⟩ := z
  subst ey
  cases rz
  exact ⟨r, rfl, .bl (!r), H', I', rfl, qz⟩
end My
set_option Elab.async false
set_option linter.all false
set_option maxRecDepth 100000
set_option maxHeartbeats 4000000
/-! any values as far as isinstance looks at them; making an own object whose __init__ may raise; isinstance of a caught own error by one class -/
namespace My
open PySem PySem.Spec PyProof.Rows L2 Evl
/-- a value, as far as the package looks at it -/
inductive AM where
  | non
  | bl (b : Bool)
  | int (i : Int)
  | str (x : Str)
  | row
  | test
  | seq (l : Bool) (xs : List AM)
def seqO (l : Bool) (vs : List V) : HO := if l then .lst vs else .tup vs
mutual
def AO (A : ClsA) (bad : Addr → Prop) (H : Hp) : AM → V → Prop
  | .non, v => v = .non
  | .bl b, v => v = .bl b
  | .int i, v => v = .int i ∧ i.natAbs < 2 ^ 100
  | .str x, v => v = .str x ∧ x.length ≤ 100
  | .row, v => ∃ a C dx fs, v = .ref a ∧ ¬ bad a ∧ H a = some (.ins C dx fs) ∧ (C = A.put ∨ C = A.ifr ∨ C = A.times ∨ C = A.stop)
  | .test, v => ∃ a C dx fs, v = .ref a ∧ ¬ bad a ∧ H a = some (.ins C dx fs) ∧ (C = A.ask ∨ C = A.not)
  | .seq l ms, v => ∃ a vs, v = .ref a ∧ ¬ bad a ∧ H a = some (seqO l vs) ∧ vs.length ≤ 100 ∧ AOs A bad H ms vs
def AOs (A : ClsA) (bad : Addr → Prop) (H : Hp) : List AM → List V → Prop
  | [], vs => vs = []
  | m :: ms, vs => ∃ v ws, vs = v :: ws ∧ AO A bad H m v ∧ AOs A bad H ms ws
end
section
variable {A : ClsA} {bad bad' : Addr → Prop} {H H' : Hp}
mutual
theorem AO.keep (k : ∀ b o, ¬ bad b → H b = some o → H' b = some o) : ∀ {m : AM} {v : V}, AO A bad H m v → AO A bad H' m v
  | .non, _, h => by unfold AO at h ⊢; exact h
  | .bl _, _, h => by unfold AO at h ⊢; exact h
  | .int _, _, h => by unfold AO at h ⊢; exact h
  | .str _, _, h => by unfold AO at h ⊢; exact h
  | .row, _, h => by unfold AO at h ⊢; obtain ⟨a, C, dx, fs, e, b, o, c⟩ := h; exact ⟨a, C, dx, fs, e, b, k _ _ b o, c⟩
  | .test, _, h => by unfold AO at h ⊢; obtain ⟨a, C, dx, fs, e, b, o, c⟩ := h; exact ⟨a, C, dx, fs, e, b, k _ _ b o, c⟩
  | .seq l ms, _, h => by unfold AO at h ⊢; obtain ⟨a, vs, e, b, o, c, r⟩ := h; exact ⟨a, vs, e, b, k _ _ b o, c, AOs.keep k r⟩
theorem AOs.keep (k : ∀ b o, ¬ bad b → H b = some o → H' b = some o) : ∀ {ms : List AM} {vs : List V}, AOs A bad H ms vs → AOs A bad H' ms vs
  | [], _, h => by unfold AOs at h ⊢; exact h
  | m :: ms, _, h => by unfold AOs at h ⊢; obtain ⟨v, ws, e, x, y⟩ := h; exact ⟨v, ws, e, AO.keep k x, AOs.keep k y⟩
end
mutual
theorem AO.less (k : ∀ b, H b ≠ none → bad' b → bad b) : ∀ {m : AM} {v : V}, AO A bad H m v → AO A bad' H m v
  | .non, _, h => by unfold AO at h ⊢; exact h
  | .bl _, _, h => by unfold AO at h ⊢; exact h
  | .int _, _, h => by unfold AO at h ⊢; exact h
  | .str _, _, h => by unfold AO at h ⊢; exact h
  | .row, _, h => by unfold AO at h ⊢; obtain ⟨a, C, dx, fs, e, b, o, c⟩ := h; exact ⟨a, C, dx, fs, e, fun z => b (k _ (by rw [o]; simp) z), o, c⟩
  | .test, _, h => by unfold AO at h ⊢; obtain ⟨a, C, dx, fs, e, b, o, c⟩ := h; exact ⟨a, C, dx, fs, e, fun z => b (k _ (by rw [o]; simp) z), o, c⟩
  | .seq l ms, _, h => by unfold AO at h ⊢; obtain ⟨a, vs, e, b, o, c, r⟩ := h; exact ⟨a, vs, e, fun z => b (k _ (by rw [o]; simp) z), o, c, AOs.less k r⟩
theorem AOs.less (k : ∀ b, H b ≠ none → bad' b → bad b) : ∀ {ms : List AM} {vs : List V}, AOs A bad H ms vs → AOs A bad' H ms vs
  | [], _, h => by unfold AOs at h ⊢; exact h
  | m :: ms, _, h => by unfold AOs at h ⊢; obtain ⟨v, ws, e, x, y⟩ := h; exact ⟨v, ws, e, AO.less k x, AOs.less k y⟩
end
theorem AO.ex {m : AM} {v : V} (h : AO A bad H m v) (e : Ex H H') : AO A bad H' m v := h.keep fun b o _ hb => e b o hb
theorem AOs.ex {ms : List AM} {vs : List V} (h : AOs A bad H ms vs) (e : Ex H H') : AOs A bad H' ms vs := h.keep fun b o _ hb => e b o hb
theorem AOs.len : ∀ {ms : List AM} {vs : List V}, AOs A bad H ms vs → vs.length = ms.length
  | [], _, h => by unfold AOs at h; rw [h]; rfl
  | m :: ms, _, h => by unfold AOs at h; obtain ⟨v, ws, e, x, y⟩ := h; rw [e, List.length_cons, List.length_cons, AOs.len y]
theorem AOs.at_ : ∀ {ms : List AM} {vs : List V} {i : Nat} {v : V}, AOs A bad H ms vs → vs[i]? = some v → ∃ m, ms[i]? = some m ∧ AO A bad H m v
  | [], _, _, _, h, hi => by unfold AOs at h; rw [h] at hi; simp at hi
  | m :: ms, _, 0, _, h, hi => by
    unfold AOs at h; obtain ⟨v, ws, e, x, y⟩ := h
    rw [e, List.getElem?_cons_zero] at hi
    cases hi
    exact ⟨m, rfl, x⟩
  | m :: ms, _, i + 1, _, h, hi => by
    unfold AOs at h; obtain ⟨v, ws, e, x, y⟩ := h
    rw [e, List.getElem?_cons_succ] at hi
    rw [List.getElem?_cons_succ]
    exact AOs.at_ y hi
theorem AOs.nil : AOs A bad H [] [] := by unfold AOs; rfl
theorem AOs.cons {m : AM} {ms : List AM} {v : V} {vs : List V} (h : AO A bad H m v) (t : AOs A bad H ms vs) : AOs A bad H (m :: ms) (v :: vs) := by unfold AOs; exact ⟨v, vs, rfl, h, t⟩
theorem AOs.snoc {m : AM} {v : V} (h : AO A bad H m v) : ∀ {ms : List AM} {vs : List V}, AOs A bad H ms vs → AOs A bad H (ms ++ [m]) (vs ++ [v])
  | [], _, t => by unfold AOs at t; rw [t]; exact .cons h .nil
  | _ :: _, _, t => by unfold AOs at t; obtain ⟨v, ws, e, x, y⟩ := t; rw [e]; exact .cons x (AOs.snoc h y)
theorem AOs.drop : ∀ {ms : List AM} {vs : List V} (n : Nat), AOs A bad H ms vs → AOs A bad H (ms.drop n) (vs.drop n)
  | _, _, 0, h => h
  | [], _, n + 1, h => by unfold AOs at h; rw [h]; exact .nil
  | m :: ms, _, n + 1, h => by unfold AOs at h; obtain ⟨v, ws, e, x, y⟩ := h; rw [e]; exact AOs.drop n y
theorem AOs.cases1 {m : AM} {ms : List AM} {vs : List V} (h : AOs A bad H (m :: ms) vs) : ∃ v ws, vs = v :: ws ∧ AO A bad H m v ∧ AOs A bad H ms ws := by unfold AOs at h; exact h
theorem AOs.cases0 {vs : List V} (h : AOs A bad H [] vs) : vs = [] := by unfold AOs at h; exact h
end
/-! ### what isinstance says -/
def AM.is (m : AM) (c : String) : Bool := match m with
  | .non => decide (c = "NoneType")
  | .bl _ => decide (c = "bool" ∨ c = "int")
  | .int _ => decide (c = "int")
  | .str _ => decide (c = "str")
  | .row | .test => false
  | .seq l _ => decide (c = if l then "list" else "tuple")
def AM.isR : AM → Bool
  | .row => true
  | _ => false
def AM.isT : AM → Bool
  | .test => true
  | _ => false
/-- the classes of rows and tests, as isinstance asks for them -/
structure KT (K : PySem.W.Frag) (A : ClsA) (row test : Addr) : Prop where
  kit : kitO K A row test = true
  put : OC K A.put
  ifr : OC K A.ifr
  times : OC K A.times
  stop : OC K A.stop
  ask : OC K A.ask
  not : OC K A.not
def askTs : List String := ["str", "tuple", "list", "int", "bool"]
section
variable {K : PySem.W.Frag} {A : ClsA} {row test : Addr} {bad : Addr → Prop} {H : Hp}
theorem kb_ok : (["NoneType", "bool", "int", "str", "list", "tuple"].all fun t => askTs.all fun c => kitB t c == some (decide (t = c ∨ (t = "bool" ∧ c = "int")))) = true := by decide +kernel
theorem kb_at {t c : String} (ht : t ∈ ["NoneType", "bool", "int", "str", "list", "tuple"]) (hc : c ∈ askTs) : kitB t c = some (decide (t = c ∨ (t = "bool" ∧ c = "int"))) := eq_of_beq (List.all_eq_true.mp (List.all_eq_true.mp kb_ok t ht) c hc)
theorem AO.ty (k : KT K A row test) {m : AM} {v : V} (h : AO A bad H m v) : ∃ t, TyX K H v t ∧ (∀ c ∈ askTs, PySem.W.kitOne K t (.type c) = some (m.is c)) ∧ PySem.W.kitOne K t (.ref row) = some m.isR ∧ PySem.W.kitOne K t (.ref test) = some m.isT := by
  have plain : ∀ {v : V} {t : String}, TyX K H v (.type t) → t ∈ ["NoneType", "bool", "int", "str", "list", "tuple"] → (∀ c ∈ askTs, decide (t = c ∨ (t = "bool" ∧ c = "int")) = m.is c) → m.isR = false → m.isT = false →
      ∃ t, TyX K H v t ∧ (∀ c ∈ askTs, PySem.W.kitOne K t (.type c) = some (m.is c)) ∧ PySem.W.kitOne K t (.ref row) = some m.isR ∧ PySem.W.kitOne K t (.ref test) = some m.isT := by
    intro v t ty ht ha hr hs
    have hp : t ∈ plainTs := by
      simp only [List.mem_cons, List.not_mem_nil, or_false, plainTs] at ht ⊢
      rcases ht with rfl | rfl | rfl | rfl | rfl | rfl <;> simp
    refine ⟨.type t, ty, fun c hc => by rw [kit_ty (kb_at ht hc), ha c hc], ?_, ?_⟩
    · rw [hr]; exact kitO3 k.kit 6 t (by decide) hp
    · rw [hs]; exact kitO3 k.kit 7 t (by decide) hp
  have inst : ∀ {a C dx : Addr} {fs : List (Str × V)} (i : Nat), i < 6 → (clsL A row test).getD i 0 = C → OC K C → H a = some (.ins C dx fs) → (∀ c ∈ askTs, m.is c = false) → m.isR = ansO i 6 → m.isT = ansO i 7 →
      ∃ t, TyX K H (.ref a) t ∧ (∀ c ∈ askTs, PySem.W.kitOne K t (.type c) = some (m.is c)) ∧ PySem.W.kitOne K t (.ref row) = some m.isR ∧ PySem.W.kitOne K t (.ref test) = some m.isT := by
    intro a C dx fs i hi hC oc ha hm hr hs
    refine ⟨.ref C, oc.ty ha, fun c hc => ?_, ?_, ?_⟩
    · rw [hm c hc, ← hC]
      refine kitO2 k.kit i c hi ?_
      simp only [askTs, List.mem_cons, List.not_mem_nil, or_false, plainTs] at hc ⊢
      rcases hc with rfl | rfl | rfl | rfl | rfl <;> simp
    · rw [hr, ← hC]; exact kitO1 k.kit i 6 hi (by decide)
    · rw [hs, ← hC]; exact kitO1 k.kit i 7 hi (by decide)
  cases m with
  | non => unfold AO at h; subst h; exact plain (.base .non) (by simp) (fun c hc => by simp only [askTs, List.mem_cons, List.not_mem_nil, or_false] at hc; rcases hc with rfl | rfl | rfl | rfl | rfl <;> rfl) rfl rfl
  | bl b => unfold AO at h; subst h; exact plain (.base (.bl _)) (by simp) (fun c hc => by simp only [askTs, List.mem_cons, List.not_mem_nil, or_false] at hc; rcases hc with rfl | rfl | rfl | rfl | rfl <;> rfl) rfl rfl
  | int i => unfold AO at h; obtain ⟨rfl, _⟩ := h; exact plain (.base (.int _)) (by simp) (fun c hc => by simp only [askTs, List.mem_cons, List.not_mem_nil, or_false] at hc; rcases hc with rfl | rfl | rfl | rfl | rfl <;> rfl) rfl rfl
  | str i => unfold AO at h; obtain ⟨rfl, _⟩ := h; exact plain (.base (.str _)) (by simp) (fun c hc => by simp only [askTs, List.mem_cons, List.not_mem_nil, or_false] at hc; rcases hc with rfl | rfl | rfl | rfl | rfl <;> rfl) rfl rfl
  | seq l xs =>
    unfold AO at h
    obtain ⟨a, vs, rfl, _, o, _, _⟩ := h
    cases l with
    | true => exact plain (.base (.lst o)) (by simp) (fun c hc => by simp only [askTs, List.mem_cons, List.not_mem_nil, or_false] at hc; rcases hc with rfl | rfl | rfl | rfl | rfl <;> rfl) rfl rfl
    | false => exact plain (.base (.tup o)) (by simp) (fun c hc => by simp only [askTs, List.mem_cons, List.not_mem_nil, or_false] at hc; rcases hc with rfl | rfl | rfl | rfl | rfl <;> rfl) rfl rfl
  | row =>
    unfold AO at h
    obtain ⟨a, C, dx, fs, rfl, _, o, c⟩ := h
    rcases c with rfl | rfl | rfl | rfl
    · exact inst 0 (by decide) rfl k.put o (fun _ _ => rfl) rfl rfl
    · exact inst 1 (by decide) rfl k.ifr o (fun _ _ => rfl) rfl rfl
    · exact inst 2 (by decide) rfl k.times o (fun _ _ => rfl) rfl rfl
    · exact inst 3 (by decide) rfl k.stop o (fun _ _ => rfl) rfl rfl
  | test =>
    unfold AO at h
    obtain ⟨a, C, dx, fs, rfl, _, o, c⟩ := h
    rcases c with rfl | rfl
    · exact inst 4 (by decide) rfl k.ask o (fun _ _ => rfl) rfl rfl
    · exact inst 5 (by decide) rfl k.not o (fun _ _ => rfl) rfl rfl
theorem AO.isi (k : KT K A row test) {m : AM} {v : V} (h : AO A bad H m v) {c : String} {Q : VK} (hc : c ∈ askTs) (q : Q (.bl (m.is c)) H) : rIsi K [v, .ty c] H Q := by
  obtain ⟨t, ty, a, _, _⟩ := h.ty k
  exact ⟨_, _, _, _, _, rfl, .ty c, ty, a c hc, q⟩
theorem AO.isi_row (k : KT K A row test) {m : AM} {v : V} (h : AO A bad H m v) {Q : VK} (q : Q (.bl m.isR) H) : rIsi K [v, .ref row] H Q := by
  obtain ⟨t, ty, _, a, _⟩ := h.ty k
  exact ⟨_, _, _, _, _, rfl, .own _, ty, a, q⟩
theorem AO.isi_test (k : KT K A row test) {m : AM} {v : V} (h : AO A bad H m v) {Q : VK} (q : Q (.bl m.isT) H) : rIsi K [v, .ref test] H Q := by
  obtain ⟨t, ty, _, _, a⟩ := h.ty k
  exact ⟨_, _, _, _, _, rfl, .own _, ty, a, q⟩
/-- isinstance(v, (list, tuple)) -/
theorem AO.isi_lt (k : KT K A row test) {m : AM} {v : V} (h : AO A bad H m v) {Q : VK} {tp : Addr} (ht : H tp = some (.tup [.ty "list", .ty "tuple"])) (q : Q (.bl (m.is "list" || m.is "tuple")) H) : rIsiT K [v, .ref tp] H Q := by
  obtain ⟨t, ty, a, _, _⟩ := h.ty k
  refine ⟨v, tp, _, t, _, _, rfl, ht, .cons (.ty _) (.cons (.ty _) .nil), ty, kitAny_cons (a "list" (by simp [askTs])) (fun e => kitAny_cons (a "tuple" (by simp [askTs])) (fun e2 => ?_) (fun e2 => by rw [e, e2]; rfl)) (fun e => by rw [e]; rfl), q⟩
  rw [e, e2]
  exact kitAny_nil
end
/-! ### an own object whose __init__ may raise -/
def tMakeS (C : Addr) (sp : Sp) (E : L2.St → XK) (t : TA) : TE := fun σ H Q => t σ H fun vs H1 => ∀ x dx, H1 x = none → H1 dx = none → dx ≠ x →
  sp (V.ref x :: vs) (upd (upd H1 dx (.own x)) x (.ins C dx [])) (fun v H2 => v = .non ∧ Q (.ref x) H2) (E σ)
section
variable {X : Cx} {CX : CXT} {k : Nat} {f C : Addr} {sp : Sp} {E : L2.St → XK} {x : Str} {e : Expr} {es : List Expr} {t : TA} {p pos : Pos}
theorem pe_makeS (M : Mk X.K C f) (F : FnR X.prog X.w X.K X.mg X.base CX k f sp) (hr : Room (k + 1) X.A) (hg : Gl X x) (hm : X.mg x = some (.ref C)) (hx : ∀ σ, PassesAt CX X σ (E σ)) (ha : PA X (e :: es) t)
    (hdb : (x == ("__debug__" : Str)) = false := by decide) (he : starEach (e :: es) X.env = (false, eval e X.env) :: starEach es X.env := by rfl)
    (hpl : (backTo pos (starEach es X.env)).any (·.1) = false := by rfl) : PE X (.Call (.Name x p) (e :: es) [] pos) (tMakeS C sp E t) := by
  refine ⟨fun pins s σ H Q I h => wpAny_Call_Name_kw (ld_glob I hg hm ?_ hdb)⟩
  refine PySem.W.callWith_K (h₀ := X.base) I.ok.mod.kin M.kp (thn (ha.run pos pins s σ H _ I h) fun us s1 ⟨vs, H1, I1, r, q⟩ => ⟨I1.kIn, ?_⟩) he hpl
  have n1 := I1.hok.fresh (Nat.le_succ s1.heap.objs.size)
  have n2 := I1.hok.fresh (Nat.le_refl s1.heap.objs.size)
  have q1 := q _ _ n1 n2 (Nat.ne_of_lt (Nat.lt_succ_self _))
  have I2 := Inv.made (C := C) I1
  refine wpAny_call (make_map (f := f) I1.kIn M.makes M.init (beq_iff_eq.mp M.fn) (codeAny_mono (F _ X.stack _ _ _ _ _ (E σ) (hr.make C us []) (I2.env0.make C us []) (show Vals (V.ref (s1.heap.objs.size + 1) :: vs) (Value.ref (s1.heap.objs.size + 1) :: us) from .cons rfl r) q1) fun w s2 z => ?_))
  match w, z with
  | .error u, z => exact hx σ pins _ _ u s2 I2 z
  | .ok (.ret u), z =>
    obtain ⟨y, H3, I3, ry, rfl, q3⟩ := I2.after z
    exact ⟨ry, ⟨V.ref (s1.heap.objs.size + 1), H3, I3, rfl, q3⟩⟩
end
/-! ### isinstance of a caught own error, one class -/
section
variable {X : Cx} {C a : Addr} {oe : Obj} {cls : Value} {d : Option Addr} {pn : List (Addr × Obj)}
def rIsE1 (K : PySem.W.Frag) (C a : Addr) (cls : Value) (d : Option Addr) : List V → Hp → VK → Prop := fun xs H Q => ∃ (dd : Addr) (fs : List (Str × V)) (c1 : Addr) (b : Bool),
  xs = [.ref a, .ref c1] ∧ cls = .ref C ∧ d = some dd ∧ H dd = some (.xd fs) ∧ PySem.W.kitOne K (.ref C) (.ref c1) = some b ∧ Q (.bl b) H
theorem call_isE1 {x f : Str} {fI : Addr} (T : ErrX X.K X.mg x f C fI) (hz : Zc cls d oe) (hf : ∃ vs, oe.data = .fields vs) : CallR (X.suite a ((a, oe) :: pn)) (.builtin "isinstance") (rIsE1 X.K C a cls d) := by
  intro pins s σ H xs us Q I r h
  obtain ⟨dd, fs, c1, b, rfl, ec, ed, hdd, e, q⟩ := h
  subst ec ed
  obtain ⟨u1, u2, rfl, r1, r2⟩ := vals2 r
  obtain rfl : u1 = Value.ref a := r1
  obtain rfl : u2 = Value.ref c1 := r2
  obtain ⟨hget, _⟩ := I.pin (a, oe) (List.mem_append.mpr (.inl List.mem_cons_self))
  obtain ⟨vs, hv⟩ := hf
  obtain ⟨mA, hns, _⟩ := (show ObjOk X.prog X.w H s.heap dd (.xd fs) from I.hok dd _ hdd)
  obtain ⟨od, ho, _⟩ := lookIn_ns hns
  have J : PySem.W.InstAt s.heap a oe C (some od) := ⟨hget, hz.1, by unfold PySem.W.notCls; rw [hv] <;> rfl, by rw [hz.2]; exact ho⟩
  exact PySem.W.kia_one (PySem.W.kitx_exc T.isC T.xf.ga T.xf.gg T.xf.exC T.ha T.hn T.ht T.hm) I.kIn J e (fun z => nomatch z) fun tk => ⟨.bl b, H, I.tok tk, rfl, q⟩
end
/-! ### a table of the module: the keys that it has not -/
theorem keyOf_str {e : DictEntry} {k : Str} {hs : Int} (h : He.keyOf e = some (k, hs)) : ∃ t, e.key = .str k t := by
  unfold He.keyOf at h
  split at h
  · rename_i x t q
    have h1 := Option.some.inj h
    exact ⟨t, by rw [q, (Prod.mk.inj h1).1]⟩
  · cases h
theorem mem_keys {P : Params} : ∀ {l : List DictEntry} {ks : List Str}, l.map He.keyOf = He.keysIn P ks → ∀ e ∈ l, ∃ k ∈ ks, ∃ t, e.key = .str k t
  | [], _, _, e, he => by cases he
  | d :: l, [], h, e, he => by cases h
  | d :: l, k :: ks, h, e, he => by
    have h1 : He.keyOf d :: l.map He.keyOf = some (k, PyData.keyHash P k) :: He.keysIn P ks := h
    injection h1 with h2 h3
    cases he with
    | head => obtain ⟨t, ht⟩ := keyOf_str h2; exact ⟨k, List.mem_cons_self .., t, ht⟩
    | tail _ he =>
      obtain ⟨k2, hk, t, ht⟩ := mem_keys h3 e he
      exact ⟨k2, List.mem_cons_of_mem _ hk, t, ht⟩
theorem nsIn_none {K : PySem.W.Frag} {P : Params} {a : Addr} {ks : List Str} {z : Str} (h : He.dicW K a = some (He.keysIn P ks)) (hz : z ∉ ks) : PySem.W.nsIn K a z = some none := by
  have key : ∃ (c : Value) (od : Option Addr) (es : Array DictEntry) (n : Nat) (sl : Array (Option Value)), K.lookup a = some ⟨c, od, .dict es n, sl⟩ ∧ es.toList.map He.keyOf = He.keysIn P ks := by
    unfold He.dicW at h
    split at h
    · rename_i c es n sl q
      split at h
      · exact ⟨_, _, es, n, sl, q, Option.some.inj h⟩
      · cases h
    · cases h
  obtain ⟨c, od, es, n, sl, hl, hk⟩ := key
  unfold PySem.W.nsIn
  rw [hl]
  dsimp only
  have h1 : es.toList.find? (·.key.isStr z) = none := by
    refine List.find?_eq_none.mpr fun e he => ?_
    obtain ⟨k, hk2, t, ht⟩ := mem_keys hk e he
    rw [ht, PySem.W.isStr_of]
    unfold Value.isStrOf
    intro y
    exact hz (eq_of_beq y ▸ hk2)
  have h2 : (es.toList.any (·.refKey)) = false := by
    refine List.any_eq_false.mpr fun e he => ?_
    obtain ⟨k, hk2, t, ht⟩ := mem_keys hk e he
    unfold DictEntry.refKey
    rw [ht]
    simp
  rw [h1, h2]
  rfl
section
variable {X : Cx}
theorem call_isiTK {K : PySem.W.Frag} (hK : X.K = K := by rfl) : CallR X (.builtin "isinstance") (rIsiT K) := by
  subst hK
  exact call_isiT
end
end My
set_option Elab.async false
set_option linter.all false
set_option maxRecDepth 100000
set_option maxHeartbeats 4000000
/-! own objects: a + b by an own __add__, a += b without an own __iadd__, len(a) by an own __len__; == and != of tuples that hold the same objects -/
namespace My
open PySem PySem.Spec PyProof.Rows L2 Evl
/-- a + b, both of the class at C -/
def rAddO (SF : Addr → Addr → Prop) (sp : Sp) (E : XK) : R2 := fun x y H Q => ∃ a b C dx dy fs gs g, x = .ref a ∧ y = .ref b ∧ H a = some (.ins C dx fs) ∧ H b = some (.ins C dy gs) ∧ SF C g ∧ sp [x, y] H Q E
theorem op_addO {X : Cx} {CX : CXT} {n : Nat} {sp : Sp} {E : XK} {SF : Addr → Addr → Prop} (hS : ∀ C g, SF C g → MethC X.K "__add__" C g ∧ PySem.W.selfFirst X.K C = true) (hF : ∀ C g, SF C g → FnR X.prog X.w X.K X.mg X.base CX n g (onC C sp)) (hr : Room n X.A) (hx : Passes CX X E) : OpR X (binaryOp .Add) (rAddO SF sp E) := by
  intro pins s σ H x y v u Q I rx ry h
  obtain ⟨a, b, C, dx, dy, fs, gs, g, rfl, rfl, ha, hb, hg, q⟩ := h
  obtain rfl : v = Value.ref a := rx
  obtain rfl : u = Value.ref b := ry
  obtain ⟨od, J⟩ := ins_at I ha
  obtain ⟨od2, J2⟩ := ins_at I hb
  obtain ⟨m, hFr⟩ := I.fr
  obtain ⟨M, sf⟩ := hS C g hg
  refine PySem.W.binop_K (op := .Add) hFr I.ok.mod.kin J J2.type sf M.at_ M.fn ?_
  refine wpAny_mono (wpAny_call (run_fnR (us := [.ref a, .ref b]) (vs := [.ref a, .ref b]) (hF C g hg) hr hx I (.cons rfl (.cons rfl .nil)) ⟨⟨_, _, _, _, rfl, ha⟩, q⟩)) (fun w s' z => ?_) fun _ _ x => x
  obtain ⟨z', H', I', rz, qz⟩ := z
  exact SlX.cmpback rz ⟨z', H', I', rz, qz⟩
/-- len(a) -/
def rLenO (SF : Addr → Addr → Prop) (sp : Sp) (E : XK) : List V → Hp → VK → Prop := fun xs H Q => ∃ a C dx fs g, xs = [.ref a] ∧ H a = some (.ins C dx fs) ∧ SF C g ∧ sp [.ref a] H (fun z H' => ∃ k : Int, z = .int k ∧ 0 ≤ k ∧ k < 2 ^ 60 ∧ Q z H') E
theorem call_lenO {X : Cx} {CX : CXT} {n : Nat} {sp : Sp} {E : XK} {SF : Addr → Addr → Prop} (hS : ∀ C g, SF C g → MethC X.K "__len__" C g) (hF : ∀ C g, SF C g → FnR X.prog X.w X.K X.mg X.base CX n g (onC C sp)) (hr : Room (n + 1) X.A) (hx : Passes CX X E) : CallR X (.builtin "len") (rLenO SF sp E) := by
  intro pins s σ H xs us Q I r h
  obtain ⟨a, C, dx, fs, g, rfl, ha, hg, q⟩ := h
  obtain ⟨u, rfl, ru⟩ := r.one
  obtain rfl : u = Value.ref a := ru
  obtain ⟨od, J⟩ := ins_at I ha
  obtain ⟨m, hFr⟩ := I.fr
  refine PySem.W.len_K hFr I.ok.mod.kin J (hS C g hg).at_ (hS C g hg).fn ?_
  refine wpAny_mono (wpAny_call (SlX.run_at (us := [.ref a]) (ws := [.ref a]) (hF C g hg) (Room.in1 hr) I.env0.in1 hx I (.cons rfl .nil) ⟨⟨_, _, _, _, rfl, ha⟩, q⟩)) (fun w s' z => ?_) fun _ _ x => x
  obtain ⟨z', H', I', rz, k, ek, k0, k1, qz⟩ := z
  subst ek
  obtain ⟨t, e⟩ := (show ∃ t, w = Value.int k t from rz)
  cases e
  exact ⟨⟨k0, by omega⟩, ⟨.int k, H', I'.tok _, ⟨_, rfl⟩, qz⟩⟩
/-- == and != of tuples that hold the same objects -/
def rTupId (K : PySem.W.Frag) (neg : Bool) : R2 := fun x y H Q => ∃ a b xs, x = .ref a ∧ y = .ref b ∧ SqT K H a xs ∧ SqT K H b xs ∧ (∀ v ∈ xs, ∃ r, v = V.ref r) ∧ Q (.bl neg) H
theorem same_items : ∀ {xs : List V} {us ws : List Value}, (∀ v ∈ xs, ∃ r, v = V.ref r) → Vals xs us → Vals xs ws → us = ws
  | [], _, _, _, r1, r2 => by cases r1; cases r2; rfl
  | x :: xs, us, ws, h, r1, r2 => by
    obtain ⟨r, rfl⟩ := h x (List.mem_cons_self ..)
    cases r1 with
    | cons a1 b1 => cases r2 with
      | cons a2 b2 =>
        rename_i u us w ws
        obtain rfl : u = Value.ref r := a1
        obtain rfl : w = Value.ref r := a2
        rw [same_items (fun v hv => h v (List.mem_cons_of_mem _ hv)) b1 b2]
section
variable {X : Cx}
theorem op_eqTupId (hu : X.A.units + 64 < cLine) : OpR X (compareOp .Eq) (rTupId X.K true) := by
  intro pins s σ H x y v u Q I rx ry h
  obtain ⟨a, b, xs, rfl, rfl, ha, hb, hx, q⟩ := h
  obtain rfl : v = Value.ref a := rx
  obtain rfl : u = Value.ref b := ry
  obtain ⟨its, r1, p1, z1⟩ := I.tuple ha
  obtain ⟨its2, r2, p2, z2⟩ := I.tuple hb
  obtain rfl := same_items hx r1 r2
  show wpAny _ _ (richCompare .Eq _ _) _ _ _
  refine SeqAt.RcAt.tuples (e := fun _ => true) p1 p2 (by omega) (fun j h1 _ => SeqAt.EqAt.same _) X.prog X.w _ _ ?_
  refine ⟨.bl true, H, I, ?_, q⟩
  show Value.bool _ = Value.bool true
  simp
theorem op_neTupId (hu : X.A.units + 64 < cLine) : OpR X (compareOp .NotEq) (rTupId X.K false) := by
  intro pins s σ H x y v u Q I rx ry h
  obtain ⟨a, b, xs, rfl, rfl, ha, hb, hx, q⟩ := h
  obtain rfl : v = Value.ref a := rx
  obtain rfl : u = Value.ref b := ry
  obtain ⟨its, r1, p1, z1⟩ := I.tuple ha
  obtain ⟨its2, r2, p2, z2⟩ := I.tuple hb
  obtain rfl := same_items hx r1 r2
  show wpAny _ _ (richCompare .NotEq _ _) _ _ _
  refine SeqAt.RcNeAt.tuples (e := fun _ => true) p1 p2 (by omega) (fun j h1 _ => SeqAt.EqAt.same _) X.prog X.w _ _ ?_
  refine ⟨.bl false, H, I, ?_, q⟩
  show Value.bool _ = Value.bool false
  simp
/-! ### a += b -/
/-- a class without an own __iadd__ -/
structure IAdd (K : PySem.W.Frag) (C : Addr) : Prop where
  mro : (PySem.W.clsIn K C).map (·.mro) = some [.ref C, .type "object"]
  no : PySem.W.findIn K (.ref C) "__iadd__" = some none
theorem obj_iadd : typeLookup (.type "object") (dunderI "add") = pure none := by rw [typeLookup_type, builtinLookup_eq_fast]; kernel_rfl
theorem fills_no {M : Model} {K : PySem.W.Frag} {h : Heap} {C : Addr} (X : K.In h) (T : IAdd K C) : PySem.W.Looks M h (fillsInplaceSlot (.ref C) "add" true) false := by
  cases hc : PySem.W.clsIn K C with
  | none => have := T.mro; rw [hc] at this; cases this
  | some cd =>
    have hm : cd.mro = [.ref C, .type "object"] := by have := T.mro; rw [hc] at this; exact Option.some.inj this
    intro A Q E s k q
    have Lm : PySem.W.Looks M h (mroOf (.ref C)) cd.mro := (PySem.W.looks_clsIn X hc).andThen (f := fun cd => pure cd.mro) .now
    have Lm' := Lm.keeps k
    obtain ⟨hh, g, d, tt, os⟩ := s
    have X' : K.In hh := X.keeps k
    have L1 : PySem.W.Looks M hh (typeLookup (.ref C) (dunderI "add")) none := PySem.W.looks_findIn X' T.no
    unfold fillsInplaceSlot
    refine wpAny_bind (Lm'.at ?_)
    rw [hm, List.anyM_cons]
    refine wpAny_bind (wpAny_bind (L1.at (wpAny_pure ?_)))
    rw [if_neg (by decide)]
    rw [List.anyM_cons]
    refine wpAny_bind (wpAny_bind (wpAny_of_eq obj_iadd (wpAny_pure ?_)))
    rw [if_neg (by decide)]
    rw [List.anyM_nil]
    exact wpAny_pure q
theorem ip_addO {CX : CXT} {n : Nat} {sp : Sp} {E : XK} {SF : Addr → Addr → Prop} (hI : ∀ C g, SF C g → IAdd X.K C) (hS : ∀ C g, SF C g → MethC X.K "__add__" C g ∧ PySem.W.selfFirst X.K C = true) (hF : ∀ C g, SF C g → FnR X.prog X.w X.K X.mg X.base CX n g (onC C sp)) (hr : Room n X.A) (hx : Passes CX X E) : PIp X .Add (rAddO SF sp E) := by
  intro pins s σ H x y v u Q I rx ry h
  obtain ⟨a, b, C, dx, dy, fs, gs, g, rfl, rfl, ha, hb, hg, q⟩ := h
  obtain rfl : v = Value.ref a := rx
  obtain rfl : u = Value.ref b := ry
  obtain ⟨od, J⟩ := ins_at I ha
  obtain ⟨od2, J2⟩ := ins_at I hb
  obtain ⟨M, sf⟩ := hS C g hg
  have T := hI C g hg
  have KX := I.kIn
  cases hc : PySem.W.clsIn X.K C with
  | none => have := T.mro; rw [hc] at this; cases this
  | some cd =>
    have hm : cd.mro = .ref C :: [.type "object"] := by have := T.mro; rw [hc] at this; exact Option.some.inj this
    have main := wpAny_call (run_fnR (us := [.ref a, .ref b]) (vs := [.ref a, .ref b]) (hF C g hg) hr hx I (.cons rfl (.cons rfl .nil)) ⟨⟨_, _, _, _, rfl, ha⟩, q⟩)
    unfold inplaceOp
    refine wpAny_holding (wpAny_bind (J.type.here (wpAny_bind ((fills_no KX T).here ?_))))
    rw [if_neg Bool.false_ne_true]
    refine wpAny_bind (m := binaryOp1 Operator.Add.info.snd (.ref a) (.ref b)) ?_
    unfold binaryOp1
    refine wpAny_bind (J.type.here (wpAny_bind (J2.type.here (wpAny_bind ((PySem.W.fills_K (nm := "add") KX hc hm M.at_).here ?_)))))
    simp only [if_true, beq_self_eq_true]
    refine wpAny_bind (wpAny_pure ?_)
    simp only [Bool.false_and, Bool.and_false, if_false, Bool.false_eq_true]
    refine wpAny_bind (wpAny_pure ?_)
    rw [if_neg Bool.false_ne_true]
    refine wpAny_bind ?_
    unfold tryMethod
    refine wpAny_bind (PySem.W.special_fn KX J M.at_ (beq_iff_eq.mp M.fn) (wpAny_mono main (fun w s' z => ?_) fun _ _ x => x))
    obtain ⟨z', H', I', rz, qz⟩ := z
    have cb : PySem.W.CmpBack (EP X pins σ Q) w s' := SlX.cmpback rz ⟨z', H', I', rz, qz⟩
    cases w <;> first | exact cb.elim | exact wpAny_pure (wpAny_pure (wpAny_pure cb))
end
/-- for over what may be a list or a tuple -/
theorem for_LT {K : PySem.W.Frag} {a : Addr} {xs : List V} {g : TG} {tb : TS} {D : Ends} {σ : L2.St} {H : Hp} (Pv : Nat → L2.St → Hp → Prop) (h0 : Pv 0 σ H) (hl : (∀ i σ H, i ≤ xs.length → Pv i σ H → SqL K H a xs) ∨ (∀ i σ H, i ≤ xs.length → Pv i σ H → SqT K H a xs))
    (hs : ∀ i x σ H, xs[i]? = some x → Pv i σ H → g x σ H fun σ2 H2 => tb { D with nx := Pv (i + 1), ct := Pv (i + 1), bk := D.nx } σ2 H2) (hd : ∀ σ H, Pv xs.length σ H → D.nx σ H) : ∃ b, V.ref a = .ref b ∧ (((∃ xs, SqL K H b xs) ∧ ∃ W : Nat → Nat → L2.St → Hp → Prop, (∃ m, W 0 m σ H) ∧ ∀ i m σ H, W i m σ H →
      ((Itl K b).stop i H ∧ D.nx σ H) ∨ ((Itl K b).go i H ∧ ∃ N : L2.St → Hp → Prop, (∀ σ' H', N σ' H' → ∃ m', m' < m ∧ W (i + 1) m' σ' H') ∧ ∀ x H', (Itl K b).yld i H x H' → g x σ H' fun σ2 H2 => tb { D with nx := N, ct := N, bk := D.nx } σ2 H2)) ∨ ((∃ xs, SqT K H b xs) ∧ ∃ W : Nat → Nat → L2.St → Hp → Prop, (∃ m, W 0 m σ H) ∧ ∀ i m σ H, W i m σ H →
      ((Itt K b).stop i H ∧ D.nx σ H) ∨ ((Itt K b).go i H ∧ ∃ N : L2.St → Hp → Prop, (∀ σ' H', N σ' H' → ∃ m', m' < m ∧ W (i + 1) m' σ' H') ∧ ∀ x H', (Itt K b).yld i H x H' → g x σ H' fun σ2 H2 => tb { D with nx := N, ct := N, bk := D.nx } σ2 H2))) := by
  refine ⟨a, rfl, ?_⟩
  rcases hl with hl | hl
  · exact .inl ⟨⟨xs, hl 0 _ _ (Nat.zero_le _) h0⟩, for_list Pv h0 hl hs hd⟩
  · exact .inr ⟨⟨xs, hl 0 _ _ (Nat.zero_le _) h0⟩, for_tup Pv h0 hl hs hd⟩
end My
set_option Elab.async false
set_option linter.all false
set_option maxRecDepth 100000
set_option maxHeartbeats 4000000
/-! names in order: sorted texts are told by what they hold; dicts whose values are all True -/
namespace My
open PySem PySem.Spec PyProof.Rows L2 Evl
theorem lt_cons (a b : Nat) (r t : List Nat) : ltCps (a :: r) (b :: t) = false ↔ b ≤ a ∧ (a = b → ltCps r t = false) := by
  show (decide (a < b) || (a == b && ltCps r t)) = false ↔ _
  rw [Bool.or_eq_false_iff, decide_eq_false_iff_not]
  constructor
  · rintro ⟨h1, h2⟩
    exact ⟨by omega, fun e => by rw [e, beq_self_eq_true, Bool.true_and] at h2; exact h2⟩
  · rintro ⟨h1, h2⟩
    refine ⟨by omega, ?_⟩
    by_cases e : a = b
    · rw [h2 e, Bool.and_false]
    · rw [show (a == b) = false from beq_eq_false_iff_ne.mpr e, Bool.false_and]
theorem le_tr : ∀ {a b c : List Nat}, ltCps b a = false → ltCps c b = false → ltCps c a = false
  | [], _, [], _, _ => rfl
  | [], _, _ :: _, _, _ => rfl
  | _ :: _, [], _, h, _ => by cases h
  | _ :: _, _ :: _, [], _, h => by cases h
  | x :: a, y :: b, z :: c, h1, h2 => by
    rw [lt_cons] at h1 h2 ⊢
    refine ⟨by omega, fun e => le_tr (h1.2 (by omega)) (h2.2 (by omega))⟩
theorem le_anti : ∀ {a b : List Nat}, ltCps b a = false → ltCps a b = false → a = b
  | [], [], _, _ => rfl
  | [], _ :: _, _, h => by cases h
  | _ :: _, [], h, _ => by cases h
  | x :: a, y :: b, h1, h2 => by
    rw [lt_cons] at h1 h2
    have e : x = y := by omega
    rw [e, le_anti (h1.2 e.symm) (h2.2 e)]
theorem rising_pw : ∀ {l : List Str} {p : Str}, risingS p l = true → (p :: l).Pairwise (fun a b => ltCps b.cps.toList a.cps.toList = false)
  | [], p, _ => List.pairwise_singleton ..
  | x :: r, p, h => by
    have h' : (!ltCps x.cps.toList p.cps.toList && risingS x r) = true := h
    rw [Bool.and_eq_true, Bool.not_eq_true'] at h'
    have ih := rising_pw h'.2
    refine List.pairwise_cons.mpr ⟨fun b hb => ?_, ih⟩
    rcases List.mem_cons.mp hb with rfl | hb
    · exact h'.1
    · exact le_tr h'.1 ((List.pairwise_cons.mp ih).1 b hb)
theorem sorted_pw {l : List Str} (h : sortedS l = true) : l.Pairwise (fun a b => ltCps b.cps.toList a.cps.toList = false) := by
  cases l with
  | nil => exact List.Pairwise.nil
  | cons x r => exact rising_pw h
theorem str_ext {a b : Str} (h : a.cps.toList = b.cps.toList) : a = b := by
  cases a; cases b
  simp only [Str.mk.injEq]
  exact Array.toList_inj.mp h
/-- sorted, each once, the same members: the same list -/
theorem sorted_uniq {xs ys : List Str} (h1 : sortedS xs = true) (h2 : sortedS ys = true) (n1 : xs.Nodup) (n2 : ys.Nodup) (h : ∀ z, z ∈ xs ↔ z ∈ ys) : xs = ys := by
  refine List.Perm.eq_of_pairwise (fun a b _ _ p q => str_ext (le_anti p q)) (sorted_pw h1) (sorted_pw h2) ?_
  exact (List.perm_ext_iff_of_nodup n1 n2).mpr h
/-- a dict whose values are all True -/
def asB (ks : List Str) : List (Key × V) := ks.map fun x => (.inr x, .bl true)
def addN (ks : List Str) (x : Str) : List Str := if x ∈ ks then ks else ks ++ [x]
theorem asB_any (ks : List Str) (x : Str) : ((asB ks).any fun kv => decide (kv.1 = .inr x)) = decide (x ∈ ks) := by
  unfold asB
  rw [List.any_map]
  rw [Bool.eq_iff_iff, List.any_eq_true, decide_eq_true_iff]
  constructor
  · rintro ⟨y, hy, h⟩
    have h' := of_decide_eq_true h
    cases h'
    exact hy
  · intro h
    exact ⟨x, h, decide_eq_true rfl⟩
theorem putK_asB (ks : List Str) (x : Str) : putK (asB ks) (.inr x) (.bl true) = asB (addN ks x) := by
  unfold putK addN
  rw [asB_any]
  by_cases h : x ∈ ks
  · rw [if_pos (decide_eq_true h), if_pos h]
    unfold asB
    rw [List.map_map]
    refine List.map_congr_left fun y _ => ?_
    show (if (Sum.inr y : Key) = .inr x then ((Sum.inr y : Key), V.bl true) else (.inr y, .bl true)) = _
    split <;> rfl
  · rw [if_neg (by rw [decide_eq_false h]; decide), if_neg h]
    unfold asB
    rw [List.map_append]
    rfl
def addAll (ks xs : List Str) : List Str := xs.foldl addN ks
theorem addN_mem (ks : List Str) (x z : Str) : z ∈ addN ks x ↔ z ∈ ks ∨ z = x := by
  unfold addN
  split
  · rename_i h
    exact ⟨.inl, fun k => k.elim id fun e => e ▸ h⟩
  · rw [List.mem_append, List.mem_singleton]
theorem addN_nodup {ks : List Str} (x : Str) (h : ks.Nodup) : (addN ks x).Nodup := by
  unfold addN
  split
  · exact h
  · rename_i hn
    rw [List.nodup_append]
    exact ⟨h, by simp, fun a ha b hb e => hn (by rw [List.mem_singleton] at hb; rw [← hb, ← e]; exact ha)⟩
theorem addAll_mem : ∀ (xs ks : List Str) (z : Str), z ∈ addAll ks xs ↔ z ∈ ks ∨ z ∈ xs
  | [], ks, z => by unfold addAll; simp
  | x :: xs, ks, z => by
    show z ∈ addAll (addN ks x) xs ↔ _
    rw [addAll_mem xs, addN_mem, List.mem_cons, or_assoc]
theorem addAll_nodup : ∀ (xs : List Str) {ks : List Str}, ks.Nodup → (addAll ks xs).Nodup
  | [], _, h => h
  | x :: xs, _, h => addAll_nodup xs (addN_nodup x h)
theorem addAll_app (ks xs ys : List Str) : addAll ks (xs ++ ys) = addAll (addAll ks xs) ys := List.foldl_append
theorem addAll_len : ∀ (xs ks : List Str), (addAll ks xs).length ≤ ks.length + xs.length
  | [], ks => by unfold addAll; simp
  | x :: xs, ks => by
    have h1 := addAll_len xs (addN ks x)
    have h2 : (addN ks x).length ≤ ks.length + 1 := by unfold addN; split <;> simp <;> omega
    show (addAll (addN ks x) xs).length ≤ _
    rw [List.length_cons]
    omega
theorem addAll_snoc (ks xs : List Str) (x : Str) : addAll ks (xs ++ [x]) = addN (addAll ks xs) x := by rw [addAll_app]; rfl
theorem asB_len (ks : List Str) : (asB ks).length = ks.length := by unfold asB; rw [List.length_map]
theorem merge_asB : ∀ (xs ks : List Str), mergeK (asB ks) (asB xs) = asB (addAll ks xs)
  | [], ks => rfl
  | x :: xs, ks => by
    show mergeK (putK (asB ks) (.inr x) (.bl true)) (asB xs) = _
    rw [putK_asB, merge_asB xs]
    rfl
/-- what sorted(..) of the keys gives -/
def NmOf (xs ys : List Str) : Prop := sortedS ys = true ∧ ys.Nodup ∧ ∀ z, z ∈ ys ↔ z ∈ xs
theorem NmOf.uniq {xs xs2 ys zs : List Str} (h : NmOf xs ys) (k : NmOf xs2 zs) (e : ∀ z, z ∈ xs ↔ z ∈ xs2) : ys = zs := sorted_uniq h.1 k.1 h.2.1 k.2.1 fun z => by rw [h.2.2, k.2.2, e]
theorem NmOf.of {xs ys : List Str} (p : ys.Perm (addAll [] xs)) (s : sortedS ys = true) : NmOf xs ys := ⟨s, p.nodup_iff.mpr (addAll_nodup xs List.nodup_nil), fun z => by rw [p.mem_iff, addAll_mem]; simp⟩
/-- all but lists and dicts stays -/
def Kd (H H' : Hp) : Prop := ∀ b o, (∀ xs, o ≠ .lst xs) → (∀ ks, o ≠ .dK ks) → H b = some o → H' b = some o
theorem Kd.tup {H H' : Hp} (e : Kd H H') {a : Addr} {xs : List V} (h : H a = some (.tup xs)) : H' a = some (.tup xs) := e _ _ (fun _ z => by cases z) (fun _ z => by cases z) h
theorem Kd.ins {H H' : Hp} (e : Kd H H') {a C dx : Addr} {fs : List (Str × V)} (h : H a = some (.ins C dx fs)) : H' a = some (.ins C dx fs) := e _ _ (fun _ z => by cases z) (fun _ z => by cases z) h
theorem Kd.sqt {K : PySem.W.Frag} {H H' : Hp} (e : Kd H H') {a : Addr} {xs : List V} (h : SqT K H a xs) : SqT K H' a xs := by
  rcases h with (h | ⟨o, h⟩) | h
  · exact .inl (.inl (e.tup h))
  · exact .inl (.inr ⟨o, e _ _ (fun _ z => by cases z) (fun _ z => by cases z) h⟩)
  · exact .inr h
section
variable {K : PySem.W.Frag} {A : ClsA} {H H' : Hp}
theorem TestO.kd (e : Kd H H') : ∀ {t : TestM} {v : V}, TestO K A H t v → TestO K A H' t v
  | .ask _ _, _, ⟨a, dx, q, h1, h2, h3⟩ => ⟨a, dx, q, h1, e.ins h2, e.sqt h3⟩
  | .not _, _, ⟨a, dx, u, h1, h2, h3⟩ => ⟨a, dx, u, h1, e.ins h2, h3.kd e⟩
mutual
theorem RowO.kd (e : Kd H H') : ∀ {r : RowM} {v : V}, RowO K A H r v → RowO K A H' r v
  | .stop, _, h => by
    obtain ⟨a, dx, h1, h2⟩ := h
    exact ⟨a, dx, h1, e.ins h2⟩
  | .put _ _ _, _, h => by
    obtain ⟨a, dx, q, h1, h2, h3⟩ := h
    exact ⟨a, dx, q, h1, e.ins h2, e.sqt h3⟩
  | .times _ rs, _, h => by
    obtain ⟨a, dx, q, vs, h1, h2, h3, h4⟩ := h
    exact ⟨a, dx, q, vs, h1, e.ins h2, e.sqt h3, RowOs.kd e h4⟩
  | .ifr _ rs os, _, h => by
    obtain ⟨a, dx, u, q, r, vs, ws, h1, h2, h3, h4, h5, h6, h7⟩ := h
    exact ⟨a, dx, u, q, r, vs, ws, h1, e.ins h2, h3.kd e, e.sqt h4, RowOs.kd e h5, e.sqt h6, RowOs.kd e h7⟩
theorem RowOs.kd (e : Kd H H') : ∀ {rs : List RowM} {vs : List V}, RowOs K A H rs vs → RowOs K A H' rs vs
  | [], _, h => h
  | r :: rs, _, h => by
    obtain ⟨v, ws, h1, h2, h3⟩ := h
    exact ⟨v, ws, h1, RowO.kd e h2, RowOs.kd e h3⟩
end
end
theorem pi_listK {X : Cx} {K : PySem.W.Frag} {tg l : Expr} {tl : TE} (hK : X.K = K) (hl : PE X l tl) : PI X tg l (iList K tl) := hK ▸ pi_list hl
theorem pi_tupK {X : Cx} {K : PySem.W.Frag} {tg l : Expr} {tl : TE} (hK : X.K = K) (hl : PE X l tl) : PI X tg l (iTup K tl) := hK ▸ pi_tup hl
theorem nf_own {K : PySem.W.Frag} {C : Addr} : PySem.W.notFirst K C (.ref C) = true := by
  unfold PySem.W.notFirst
  simp
end My
set_option Elab.async false
set_option linter.all false
set_option maxRecDepth 100000
set_option maxHeartbeats 4000000
/-! several except clauses, each with a name for what is caught or without; raise of an own error of any chain -/
namespace My
open PySem PySem.Spec PyProof.Rows L2 Evl
abbrev Hd : Type := Value × Option Nat × (Addr → Value → Option Addr → TS)
/-- what the clauses wish of an exception of the body, one after the other -/
def wManyA (K : PySem.W.Frag) (Wout : WX) (D : Ends) : List Hd → WX
  | [] => Wout
  | (c, none, ts) :: r => fun cls d σ H => ∃ b, PySem.W.exmOne K cls c = some b ∧ (b = true → ∀ a, H a = none → ts a cls d D σ H) ∧ (b = false → wManyA K Wout D r cls d σ H)
  | (c, some i, ts) :: r => fun cls d σ H => ∃ b, PySem.W.exmOne K cls c = some b ∧
      (b = true → ∀ a, H a = none → ts a cls d { nx := fun σ' H' => D.nx (σ'.set i none) H', rt := D.rt, bk := fun σ' H' => D.bk (σ'.set i none) H', ct := fun σ' H' => D.ct (σ'.set i none) H' } (σ.set i (some (.ref a))) H) ∧
      (b = false → wManyA K Wout D r cls d σ H)
inductive HdA (X : Cx) : List ExceptHandler → List Hd → Prop
  | nil : HdA X [] []
  | plain {x : Str} {c : Value} {ts : Addr → Value → Option Addr → TS} {b₀ : Stmt} {suite : List Stmt} {np pos' : Pos} {hds : List ExceptHandler} {l : List Hd} (hc : Names X x c)
      (hsu : ∀ (a : Addr) (oe : Obj) (cls : Value) (d : Option Addr) (pn : List (Addr × Obj)), Zc cls d oe → (∃ vs, oe.data = .fields vs) → PSs (X.suite a ((a, oe) :: pn)) (b₀ :: suite) (ts a cls d)) (r : HdA X hds l) :
      HdA X (.ExceptHandler (some (.Name x np)) none (b₀ :: suite) pos' :: hds) ((c, none, ts) :: l)
  | as {x n : Str} {c : Value} {i : Nat} {ts : Addr → Value → Option Addr → TS} {b₀ : Stmt} {suite : List Stmt} {np pos' : Pos} {hds : List ExceptHandler} {l : List Hd} (hi : X.N[i]? = some n) (hln : X.env.kindOf n = some .local) (hc : Names X x c)
      (hsu : ∀ (a : Addr) (oe : Obj) (cls : Value) (d : Option Addr) (pn : List (Addr × Obj)), Zc cls d oe → (∃ vs, oe.data = .fields vs) → PSs (X.suite a ((a, oe) :: pn)) (b₀ :: suite) (ts a cls d)) (r : HdA X hds l) :
      HdA X (.ExceptHandler (some (.Name x np)) (some n) (b₀ :: suite) pos' :: hds) ((c, some i, ts) :: l)
section
variable {X : Cx} {body : List Stmt} {h₀ : ExceptHandler} {hds : List ExceptHandler} {l : List Hd} {pos : Pos} {tb : WX → TS} {Wout : WX}
theorem ps_try_manyA (hs : X.stack = X.env :: X.outer) (hf : X.env.frame = some X.env.locals) (hN : X.N.Nodup) (tk : Takes X Wout)
    (hb : ∀ (W : WX) (pn : List (Addr × Obj)) (xe : Value → Shared → Prop), Takes (X.tr pn xe) W → PassesOwn (model X.prog X.w) X.A X.env xe → PSs (X.tr pn xe) body (tb W))
    (hh : HdA X (h₀ :: hds) l) : PS X (.Try body (h₀ :: hds) [] [] pos) (fun D σ H => tb (wManyA X.K Wout D l) D σ H) := by
  refine ⟨fun pins s σ H D I h => ?_⟩
  have ok := I.ok
  have hfr : X.A.frames = some (X.env :: X.outer) := by rw [ok.frames, hs]
  refine wpAny_Try_except ?_
  refine wpAny_mono ((hb (wManyA X.K Wout D l) (X.pn ++ pins) (fun e s₁ => wpAny (model X.prog X.w) X.A (noteFrame e X.env) (fun _ s₂ => wpAny (model X.prog X.w) X.A (setFlight e none) (fun _ s₃ =>
    wpAny (model X.prog X.w) X.A (handleBy e X.env (h₀ :: hds)) (SP X pins D) X.xe s₃) X.xe s₂) X.xe s₁) (fun u s' xx => ?_) PassesOwn.looking).run [] s σ H D (I.toTry _) h) (fun f s1 hsp => ?_) (fun e s1 he => he)
  · -- the catch
    obtain ⟨a, B, sI, pins', σ', H', cls, d, rfl, J', nb, up, sky, na, os, ag, w⟩ := xx
    have J : Inv X pins σ' H' sI := J'.ofTry ok
    have sky' : Sky B (X.env :: X.outer) a (Zc cls d) X.env.locals s'.heap := by rw [← hs]; exact sky
    show wpAny (model X.prog X.w) X.A (noteFrame (.ref a) X.env) _ _ _
    refine Sky.land Zc.steady hfr hf sky' fun h3 fl3 up3 => ?_
    have J3 : Inv X pins σ' H' { s' with heap := h3 } := J.landed nb fl3.1 (up.trans up3) os ag
    obtain ⟨oe3, vs3, he3, hz3, hd3⟩ := fl3.there
    have notFr : ∀ {h : Heap} {o : Obj} {vs : Array Value}, h.FunFrames B (X.env :: X.outer) → h.get? a = some o → o.data = .fields vs → a ∉ frs (X.env :: X.outer) := fun {h o vs} ff e dd hm => by
      obtain ⟨_, o', e', hnf⟩ := ff.mem hm
      rw [e] at e'; cases e'
      exact hnf _ dd
    have nfr := notFr fl3.2.2.1 he3 hd3
    have nL : a ≠ X.env.locals := fun z => nfr (List.mem_filterMap.mpr ⟨X.env, List.mem_cons_self, by rw [hf, z]⟩)
    have nF : a ∉ X.fs := fun hm => by
      obtain ⟨e, he, q⟩ := List.mem_filterMap.mp hm
      exact nfr (List.mem_filterMap.mpr ⟨e, List.mem_cons_of_mem _ he, q⟩)
    have S3 := J3.suite he3 hd3 na nL nF
    have go : ∀ {hds' : List ExceptHandler} {l' : List Hd}, HdA X hds' l' → wManyA X.K Wout D l' cls d σ' H' →
        wpAny (model X.prog X.w) X.A (handleBy (.ref a) X.env hds') (SP X pins D) X.xe { s' with heap := h3 } := by
      intro hds' l' hk
      induction hk with
      | nil =>
        intro w
        refine wpAny_handleBy_nil ?_
        obtain ⟨k1, k2, k3, oe, vs, T, oT, ts', he, hz, hd, h1, hr⟩ := id fl3
        unfold PySem.passOn
        refine wpAny_bind (wpAny_field he hd h1 ?_)
        rw [if_neg (show ¬ ((Value.ref T == Value.none) = true) from by simp)]
        have fin : wpAny (model X.prog X.w) X.A (setFlight (.ref a) X.env.frame) (fun _ s4 => wpAny (model X.prog X.w) X.A (throw (.ref a) : Sem Flow) (SP X pins D) X.xe s4) X.xe { s' with heap := h3 } := by
          rw [hf]
          refine HandSPX.setFlight_upZ fl3 fun h4 hh4 up4 => wpAny_throw (tk _ _ ?_)
          exact ⟨a, B, sI, pins, σ', H', cls, d, rfl, J, nb, (up.trans up3).trans up4, .inr (.inr (by rw [hs]; exact hh4)), na, os, ag, w⟩
        first
          | exact wpAny_bind (wpAny_pure (wpAny_bind fin))
          | exact wpAny_bind fin
      | @plain x c ts b₀ suite np pos' hds2 l2 hc hsu r ih =>
        intro w
        obtain ⟨b, hb1, hyes, hno⟩ := w
        refine wpAny_handleBy_cons (codeAny_handlers_test ?_) (by intro q; cases q)
        have LT : PySem.W.Looks (model X.prog X.w) h3 (typeOf (.ref a)) cls := fun A Q E s k q => wpAny_typeOf_ref (k _ _ he3) (by rw [hz3.1]; exact q)
        have LM := PySem.W.exm_one (M := model X.prog X.w) (J3.kIn) LT hb1
        have test : ∀ {Q : Value → Shared → Prop} {E : Value → Shared → Prop}, Q c { s' with heap := h3 } → wpAny (model X.prog X.w) (X.A.mark (some (.ref a))) (eval (.Name x np) X.env) Q E { s' with heap := h3 } := fun {Q E} q => by
          obtain ⟨hg, hdbg, hm | ⟨hm, hv, hnn⟩⟩ := hc
          · exact ld_glob (X := X.suite a ((a, oe3) :: (X.pn ++ pins))) S3 hg hm q hdbg
          · exact ld_blt (X := X.suite a ((a, oe3) :: (X.pn ++ pins))) S3 hg hm hv q hnn hdbg
        refine test (LM.here ?_)
        cases b with
        | true =>
          refine codeAny_handlers_suite ?_
          refine HandSPX.lands_againZ fl3 fun h4 fl4 up4 => ?_
          have J4 : Inv X pins σ' H' { s' with heap := h4 } := J.landed nb fl4.1 ((up.trans up3).trans up4) os ag
          obtain ⟨oe4, vs4, he4, hz4, hd4⟩ := fl4.there
          have S4 := J4.suite he4 hd4 na nL nF
          refine wpAny_mono ((hsu a oe4 cls d (X.pn ++ pins) hz4 ⟨_, hd4⟩).run [] _ _ H' _ S4 (hyes rfl a na)) (fun f s6 hsp => ?_) (fun _ _ z => False.elim z)
          cases f with
          | next =>
            obtain ⟨σ6, H6, S6, q6⟩ := hsp
            exact ⟨_, _, S6.unsuite ok, q6⟩
          | brk =>
            obtain ⟨σ6, H6, S6, q6⟩ := hsp
            exact ⟨_, _, S6.unsuite ok, q6⟩
          | cont =>
            obtain ⟨σ6, H6, S6, q6⟩ := hsp
            exact ⟨_, _, S6.unsuite ok, q6⟩
          | ret u =>
            obtain ⟨v6, σ6, H6, S6, r6, q6⟩ := hsp
            exact ⟨_, _, _, S6.unsuite ok, r6, q6⟩
        | false =>
          show wpAny _ X.A (handleBy (.ref a) X.env hds2) _ _ _
          exact ih (hno rfl)
      | @as x n c i ts b₀ suite np pos' hds2 l2 hi hln hc hsu r ih =>
        intro w
        obtain ⟨b, hb1, hyes, hno⟩ := w
        have hloc : Loc X.env.scope n := .inl hln
        refine wpAny_handleBy_cons (codeAny_handlers_test ?_) (by intro q; cases q)
        have LT : PySem.W.Looks (model X.prog X.w) h3 (typeOf (.ref a)) cls := fun A Q E s k q => wpAny_typeOf_ref (k _ _ he3) (by rw [hz3.1]; exact q)
        have LM := PySem.W.exm_one (M := model X.prog X.w) (J3.kIn) LT hb1
        have test : ∀ {Q : Value → Shared → Prop} {E : Value → Shared → Prop}, Q c { s' with heap := h3 } → wpAny (model X.prog X.w) (X.A.mark (some (.ref a))) (eval (.Name x np) X.env) Q E { s' with heap := h3 } := fun {Q E} q => by
          obtain ⟨hg, hdbg, hm | ⟨hm, hv, hnn⟩⟩ := hc
          · exact ld_glob (X := X.suite a ((a, oe3) :: (X.pn ++ pins))) S3 hg hm q hdbg
          · exact ld_blt (X := X.suite a ((a, oe3) :: (X.pn ++ pins))) S3 hg hm hv q hnn hdbg
        refine test (LM.here ?_)
        cases b with
        | true =>
          refine codeAny_handlers_suite_as ?_
          refine HandSPX.lands_againZ fl3 fun h4 fl4 up4 => ?_
          have J4 : Inv X pins σ' H' { s' with heap := h4 } := J.landed nb fl4.1 ((up.trans up3).trans up4) os ag
          obtain ⟨oe4, vs4, he4, hz4, hd4⟩ := fl4.there
          have S4 := J4.suite he4 hd4 na nL nF
          refine store_ok (X := X.suite a ((a, oe4) :: (X.pn ++ pins))) (v := .ref a) S4 hN hi hloc rfl (fun s5 S5 => ?_) (.inr hln)
          refine wpAny_mono ((hsu a oe4 cls d (X.pn ++ pins) hz4 ⟨_, hd4⟩).run [] s5 _ H' _ S5 (hyes rfl a na)) (fun f s6 hsp => ?_) (fun _ _ z => False.elim z)
          have end_ : ∀ {σ6 : L2.St} {H6 : Hp} {Q : Shared → Prop}, Inv (X.suite a ((a, oe4) :: (X.pn ++ pins))) [] σ6 H6 s6 → (∀ s7, Inv X pins (σ6.set i none) H6 s7 → Q s7) →
              wpAny (model X.prog X.w) X.A (do bindName X.env n .none; unbindBehindTheSuite X.env n pos') (fun _ s7 => Q s7) X.xe s6 := fun {σ6 H6 Q} S6 hq => gone_ok (S6.unsuite ok) hN hi hln hq
          cases f with
          | next =>
            obtain ⟨σ6, H6, S6, q6⟩ := hsp
            exact end_ S6 fun s7 J7 => ⟨_, _, J7, q6⟩
          | brk =>
            obtain ⟨σ6, H6, S6, q6⟩ := hsp
            exact end_ S6 fun s7 J7 => ⟨_, _, J7, q6⟩
          | cont =>
            obtain ⟨σ6, H6, S6, q6⟩ := hsp
            exact end_ S6 fun s7 J7 => ⟨_, _, J7, q6⟩
          | ret u =>
            obtain ⟨v6, σ6, H6, S6, r6, q6⟩ := hsp
            exact end_ S6 fun s7 J7 => ⟨_, _, _, J7, r6, q6⟩
        | false =>
          show wpAny _ X.A (handleBy (.ref a) X.env hds2) _ _ _
          exact ih (hno rfl)
    exact go hh w
  · cases f with
    | next =>
      obtain ⟨σ', H', J', q⟩ := hsp
      exact wpAny_execs_nil ⟨σ', H', J'.ofTry ok, q⟩
    | brk =>
      obtain ⟨σ', H', J', q⟩ := hsp
      exact ⟨σ', H', J'.ofTry ok, q⟩
    | cont =>
      obtain ⟨σ', H', J', q⟩ := hsp
      exact ⟨σ', H', J'.ofTry ok, q⟩
    | ret u =>
      obtain ⟨v, σ', H', J', r, q⟩ := hsp
      exact ⟨v, σ', H', J'.ofTry ok, r, q⟩
end
/-! ### raise of an own error of any chain -/
structure ErrR (K : PySem.W.Frag) (mg : Str → Option Value) (x f : Str) (C fI : Addr) : Prop where
  g : mg x = some (.ref C)
  F : ErrF K f C fI
  ty : PySem.W.typeIn K (.ref C) = some (.type "type")
  te : PySem.W.exmOne K (.ref C) (.ref C) = some true
theorem ErrR.xf {K : PySem.W.Frag} {mg : Str → Option Value} {x f : Str} {C fI : Addr} (T : ErrR K mg x f C fI) : XfC K C := ⟨T.F.k.ga, T.F.k.gg, T.F.k.exC, T.F.k.hdC⟩
section
variable {X : Cx} {e : Expr} {es : List Expr} {ta : TA} {p pos : Pos}
theorem pmk_any {CX : CXT} {x f : Str} {C fI : Addr} {k : Nat} {fd : FuncData} {ps : List Str} {sp : Sp} {ds : List Value} {dvs : List V} (T : ErrR X.K X.mg x f C fI)
    (F1 : FnOk X.prog X.w X.K X.mg X.base CX k fI fd ps sp) (hr : Room (k + 1) X.A) (hb : Binds X.K fd ps ds) (hd : Vals dvs ds) (hx : Passes CX X (fun _ _ _ => False)) (hg : Gl X x) (ha : PA X (e :: es) ta)
    (hdb : (x == ("__debug__" : Str)) = false := by decide) (he : starEach (e :: es) X.env = (false, eval e X.env) :: starEach es X.env := by rfl) (hpl : (backTo pos (starEach es X.env)).any (·.1) = false := by rfl) :
    PMk X (.Call (.Name x p) (e :: es) [] pos) (tMkO C sp dvs ta) := by
  intro pins s σ H Q I h
  obtain ⟨B, newId, initId, tl, bmB, nm, q, N, bs, bm, sn, sub, ab, col, dd, k0, k1, k2, k3, k5, hC, hY, hbm⟩ := T.F.k.cls
  refine wpAny_Call_Name_kw (ld_glob I hg T.g ?_ hdb)
  refine PySem.W.callWith_K (h₀ := X.base) I.ok.mod.kin T.F.k.kC (thn (ha.run pos pins s σ H _ I h) fun us s1 ⟨vs, H1, I1, r1, hz, q1⟩ => ⟨I1.kIn, ?_⟩) he hpl
  show wpAny _ _ (call (.ref C) us) _ _ _
  obtain ⟨hp, g, dr, tk, os⟩ := s1
  have hsz : hp.objs.size ≤ hp.objs.size + 1 := Nat.le_succ _
  have hn : H1 (hp.objs.size + 1) = none := I1.hok.fresh hsz
  have hq := q1 (hp.objs.size + 1) hn
  have kk : ∀ b o, hp.get? b = some o → ((hp.push (PySem.W.kdv_tup us)).push (PySem.HandSPX.excO C hp.objs.size)).get? b = some o := fun b o e => Heap.get?_push_of_some _ (Heap.get?_push_of_some _ e)
  have hget : ((hp.push (PySem.W.kdv_tup us)).push (PySem.HandSPX.excO C hp.objs.size)).get? (hp.objs.size + 1) = some (PySem.HandSPX.excO C hp.objs.size) := by heap_get
  have I2 : Inv X pins σ (upd H1 (hp.objs.size + 1) (exo (hp.objs.size + 1) C none)) ⟨(hp.push (PySem.W.kdv_tup us)).push (PySem.HandSPX.excO C hp.objs.size), g, dr, tk, os⟩ :=
    I1.laid (t' := tk) (a := hp.objs.size + 1) (o := exo (hp.objs.size + 1) C none) (h' := (hp.push (PySem.W.kdv_tup us)).push (PySem.HandSPX.excO C hp.objs.size)) kk hsz (exo_ok hget)
  have r2 : Vals (V.ref (hp.objs.size + 1) :: (vs ++ dvs)) (Value.ref (hp.objs.size + 1) :: (us ++ ds)) := .cons rfl (r1.append hd)
  have hl : (Value.ref (hp.objs.size + 1) :: us ++ ds).length = ps.length := by
    have e := r2.length
    rw [F1.len _ _ _ _ hq] at e
    exact e.symm
  have hus : us.length ≤ sizeLine := by
    rw [← Paired.length r1, sizeLine_eq]
    omega
  refine wpAny_call (callX hY hbm (I1.kIn _ _ hC) (PySem.W.looks_findIn I1.kIn T.F.iC) (fun self => PySem.W.bind_fn I1.kIn self T.F.tI) hus
    (codeAny_mono (F1.run _ X.stack _ _ ⟨Value.ref (hp.objs.size + 1) :: us, []⟩ (Value.ref (hp.objs.size + 1) :: (us ++ ds)) _ _ (fun _ _ _ => False) (hr.make C us []) (I2.env0.make C us []) (hb _ (Value.ref (hp.objs.size + 1) :: us) I2.kIn hl) r2 hq) fun r s' hq' => ?_))
  cases r with
  | error er => exact hx pins σ _ _ er s' I2 hq'
  | ok fl =>
    cases fl with
    | ret u =>
      obtain ⟨v, H2, os2, bare2, un2, hok2, rv, ev, d, fs, ea, ed, hd1, q2⟩ := hq'
      subst ev
      obtain ⟨h2, g2, d2, t2, os'⟩ := s'
      exact ⟨rv, mk_end (raises_own T.F.k.exC T.ty) I1 hsz kk un2 hok2 os2 bare2 ea ed hd1 q2⟩
    | next => exact False.elim hq'
    | brk => exact False.elim hq'
    | cont => exact False.elim hq'
end
/-- the making of an error, by what its __init__ promises -/
theorem mkErrR {K : PySem.W.Frag} {mg : Str → Option Value} {x : Str} {C fI : Addr} {f : Str} {v : V} {H : Hp} {Q : XK} (T : ErrR K mg x f C fI) (q : ∀ d, H d = none → Q (.ref C) (some d) (upd H d (.xd [(f, v)]))) :
    [v].length ≤ 1000 ∧ ∀ a, H a = none → spIniX K f (.ref a :: ([v] ++ [])) (upd H a (exo a C none))
      (fun u H2 => u = .non ∧ ∃ (d : Addr) (fs : List (Str × V)), H2 a = some (exo a C (some d)) ∧ H2 d = some (exd d fs) ∧ H d = none ∧ Q (.ref C) (some d) (upd (del H2 a) d (.xd fs))) (fun _ _ _ => False) := by
  refine ⟨by simp, fun a ha => ⟨C, fI, T.F, upd_same, fun dx hd hne => ⟨rfl, dx, [(f, v)], upd_same, ?_, ?_, ?_⟩⟩⟩
  · rw [upd_ne hne, upd_same]
  · rw [upd_ne hne] at hd; exact hd
  · have hd0 : H dx = none := by rw [upd_ne hne] at hd; exact hd
    have e : upd (del (upd (upd (upd H a (exo a C none)) dx (exd dx [(f, v)])) a (exo a C (some dx))) a) dx (.xd [(f, v)]) = upd H dx (.xd [(f, v)]) := by
      funext b
      by_cases hb : b = dx
      · rw [hb, upd_same, upd_same]
      · rw [upd_ne hb, upd_ne hb]
        by_cases hba : b = a
        · rw [hba, del_same, ha]
        · rw [del_ne hba, upd_ne hba, upd_ne hb, upd_ne hba]
    rw [e]
    exact q dx hd0
end My
set_option Elab.async false
set_option linter.all false
set_option maxRecDepth 100000
set_option maxHeartbeats 4000000
/-! own objects: a[i] by an own __getitem__, a.m(..) in a try, == and != of tuples of own objects by their own == -/
namespace My
open PySem PySem.Spec PyProof.Rows L2 Evl
/-! ### a[i] -/
structure GetC (K : PySem.W.Frag) (C g : Addr) : Prop where
  at_ : PySem.W.findIn K (.ref C) "__getitem__" = some (some (.ref g))
  fi : PySem.W.fnIn K g = true
  fn : PySem.W.isFn K (.ref g) = true
def tIxO (SF : Addr → Addr → Prop) (sp : Sp) (E : L2.St → XK) (ta tb : TE) : TE := fun σ H Q => ta σ H fun x H1 => tb σ H1 fun y H2 => ∃ a C dx fs g, x = .ref a ∧ H2 a = some (.ins C dx fs) ∧ SF C g ∧ sp [x, y] H2 Q (E σ)
theorem run_atS {X : Cx} {CX : CXT} {n : Nat} {g : Addr} {sp : Sp} {E : L2.St → XK} {pins : List (Addr × Obj)} {σ : L2.St} {H : Hp} {s : Shared} {A : Around} {Q : VK} {us : List Value} {ws : List V} (F : FnR X.prog X.w X.K X.mg X.base CX n g sp) (hr : Room n A) (e0 : Env0 X.prog X.w X.K X.mg X.base A X.stack s H) (hx : PassesAt CX X σ (E σ)) (I : Inv X pins σ H s) (r : Vals ws us) (h : sp ws H Q (E σ)) :
    codeAny (model X.prog X.w) A (.call (.ref g) ⟨us, []⟩) (fun r s' => match r with | .ok (.ret v) => EP X pins σ Q v s' | .ok _ => False | .error e => X.xe e s') s := by
  refine codeAny_mono (F A X.stack s H us ws Q (E σ) hr e0 r h) fun r s' hq => ?_
  cases r with
  | error e => exact hx pins H s e s' I hq
  | ok fl =>
    cases fl with
    | ret u => exact I.after hq
    | next => exact False.elim hq
    | brk => exact False.elim hq
    | cont => exact False.elim hq
theorem pe_ixO {X : Cx} {CX : CXT} {n : Nat} {sp : Sp} {E : L2.St → XK} {SF : Addr → Addr → Prop} {a b : Expr} {ta tb : TE} {pos : Pos} (hS : ∀ C g, SF C g → GetC X.K C g) (hF : ∀ C g, SF C g → FnR X.prog X.w X.K X.mg X.base CX n g (onC C sp)) (hr : Room (n + 1) X.A) (hx : ∀ σ, PassesAt CX X σ (E σ))
    (ha : PE X a ta) (hb : PE X b tb) (hs : ∀ o i, subscripted b true o i = runValue (.builtin "lifetime.subscript" ⟨[o, i], []⟩)) : PE X (.Subscript a b pos) (tIxO SF sp E ta tb) := by
  refine ⟨fun pins s σ H Q I h => ?_⟩
  refine Subscript_ (binT (R := fun x y H => ∃ a C dx fs g, x = .ref a ∧ H a = some (.ins C dx fs) ∧ SF C g ∧ sp [x, y] H Q (E σ)) ha hb I h fun v u s2 x y H2 I2 rx ry q => ?_)
  obtain ⟨a0, C, dx, fs, g, rfl, h1, hg, q⟩ := q
  obtain rfl : v = Value.ref a0 := rx
  obtain ⟨od, J⟩ := ins_at I2 h1
  obtain ⟨m, hFr⟩ := I2.fr
  refine PySem.W.sub_K hFr I2.ok.mod.kin J (hS C g hg).at_ (hS C g hg).fi (hS C g hg).fn ?_ (hs _ _)
  exact wpAny_call (run_atS (us := [.ref a0, u]) (ws := [.ref a0, y]) (hF C g hg) (Room.in1 hr) I2.env0.in1 (hx σ) I2 (.cons rfl (.cons ry .nil)) ⟨⟨_, _, _, _, rfl, h1⟩, q⟩)
/-! ### a.m(e, ..), what it raises told by the slots -/
def tMethS2 (C : Addr) (m : Str) (sp : Sp) (E : L2.St → XK) (ta : TE) (t : TA) : TE := fun σ H Q => ta σ H fun x H1 => ∃ a dx fs, x = .ref a ∧ H1 a = some (.ins C dx fs) ∧ fs.lookup m = none ∧ t σ H1 fun vs H2 => sp (x :: vs) H2 Q (E σ)
theorem pe_methS2 {X : Cx} {CX : CXT} {k : Nat} {C f : Addr} {m : Str} {sp : Sp} {E : L2.St → XK} {o e : Expr} {es : List Expr} {ta : TE} {t : TA} {apos pos : Pos} {pl : Sem Bool} (he : PE X o ta) (c : Cls X.K C) (hm : Meth X.K C m f)
    (F : FnR X.prog X.w X.K X.mg X.base CX k f sp) (hr : Room k X.A) (hx : ∀ σ, PassesAt CX X σ (E σ)) (ha : PA X (e :: es) t)
    (hst : starEach (e :: es) X.env = (false, eval e X.env) :: starEach es X.env := by rfl) (hpl : (backTo pos (starEach es X.env)).any (·.1) = false := by rfl)
    (ht : eval (.Call (.Attribute o m apos) (e :: es) [] pos) X.env = (do
      let ov ← eval o X.env
      standAt apos.atName
      let (f, first) ← holding [ov] (getMethod ov m pl)
      callWith pos f first (backTo pos (starEach (e :: es) X.env)) (backToKw pos (keywordEach [] X.env))) := by rfl) :
    PE X (.Call (.Attribute o m apos) (e :: es) [] pos) (tMethS2 C m sp E ta t) := by
  refine ⟨fun pins s σ H Q I h => ?_⟩
  refine PySem.W.methodCall_KW (pl := pl) (thn (he.run pins s σ H _ I h) fun u s1 ⟨x, H1, I1, rx, a, dx, fs, ex, ea, l, q⟩ => ?_) ht
  subst ex
  obtain rfl : u = Value.ref a := rx
  refine getmeth_ok I1 ea c hm l ?_
  refine PySem.W.callWith_K (first := [.ref a]) (h₀ := X.base) I.ok.mod.kin hm.kp (thn (ha.run pos pins s1 σ H1 _ I1 q) fun us s2 ⟨vs, H2, I2, r, q2⟩ => ⟨I2.kIn, ?_⟩) hst hpl
  exact wpAny_call (run_atS (us := .ref a :: us) (ws := .ref a :: vs) F hr I2.env0 (hx σ) I2 (.cons rfl r) q2)
/-! ### == and != of two tuples, item by item -/
section
open PySem.SeqAt AutoSeq1 MeetsSeq MeetsSeq2 MeetsSeq3 SeqRoads2
variable {prog : Program} {w : World} {A : Around} {R : Result → Shared → Prop}
/-- all items equal, as many -/
def allEq (e : Nat → Bool) (n m : Nat) : Bool := (List.range (min n m)).all e && n == m
theorem allEq_no {e : Nat → Bool} {n m i : Nat} (h : i < min n m) (he : e i = false) : allEq e n m = false := by
  unfold allEq
  rw [Bool.and_eq_false_iff]
  refine .inl ?_
  rw [List.all_eq_false]
  exact ⟨i, List.mem_range.mpr h, by simp [he]⟩
theorem allEq_fin {e : Nat → Bool} {n m : Nat} (h : ∀ i < min n m, e i = true) : allEq e n m = (n == m) := by
  unfold allEq
  rw [List.all_eq_true.mpr (fun i hi => h i (List.mem_range.mp hi)), Bool.true_and]
theorem tuple_eqB (l b : Addr) (items items2 : Array Value) (n n2 : Nat) (dd dd2 : Option Addr) (sl sl2 : Array (Option Value)) (e : Nat → Bool) (I : Nat → Shared → Prop)
    (turn : ∀ i (h1 : i < items.size) (h2 : i < items2.size) s, I i s → wpAny (model prog w) A.in1 (eqBool items[i] items2[i]) (fun r s' => r = e i ∧ I (i + 1) s') (fun e s' => R (.error e) s') s)
    (fin : ∀ i s, I i s → R (.ok (.ret (.bool (allEq e items.size items2.size)))) s) {s : Shared} (hl1 : s.heap.get? l = some { cls := .type "tuple", dict := dd, data := .seq items n, slots := sl }) (hb1 : s.heap.get? b = some { cls := .type "tuple", dict := dd2, data := .seq items2 n2, slots := sl2 }) (h : I 0 s) :
    wpAny (model prog w) A.in1 (Builtin.«tuple.__eq__» ⟨[.ref l, .ref b], []⟩) (GQ.FinOf prog w A R) (fun e s' => R (.error e) s') s := by
  have f2 := AutoSeq1.sub_tuple_tuple
  have hZ : (items.toList.zip items2.toList).length = min items.size items2.size := by simp
  have h0 := h
  obtain ⟨hp, g, d, tk, os⟩ := s
  wp_walk using wpAny_loadPart' hl1, wpAny_loadPart' hb1, wpAny_forIn_list _ (fun rest b s' => b.1 = none ∧ ∃ i, rest = (items.toList.zip items2.toList).drop i ∧ (∀ j < i, j < min items.size items2.size → e j = true) ∧ I i s') _
  case turn =>
    rintro ⟨y, x⟩ rest b s' ⟨hb', i, hz, hi, hI⟩
    have hlt : i < (items.toList.zip items2.toList).length := by
      rcases Nat.lt_or_ge i (items.toList.zip items2.toList).length with h' | h'
      · exact h'
      · rw [List.drop_of_length_le h'] at hz; cases hz
    have hm : i < min items.size items2.size := hZ ▸ hlt
    have h1 : i < items.size := Nat.lt_of_lt_of_le hm (Nat.min_le_left _ _)
    have h2 : i < items2.size := Nat.lt_of_lt_of_le hm (Nat.min_le_right _ _)
    rw [List.drop_eq_getElem_cons hlt] at hz
    injection hz with hyx hrest
    have hy : y = items[i] := by have := congrArg Prod.fst hyx; simpa using this
    have hx : x = items2[i] := by have := congrArg Prod.snd hyx; simpa using this
    subst hy hx
    refine wpAny_bind (wpAny_mono (turn i h1 h2 s' hI) (fun r s2 q2 => ?_) fun _ _ x => x)
    obtain ⟨hr, q2⟩ := q2
    subst hr
    cases he : e i with
    | true =>
      wp_walk
      refine ⟨rfl, i + 1, hrest, fun j hj hj2 => ?_, q2⟩
      by_cases hji : j = i
      · rw [hji]; exact he
      · exact hi j (by omega) hj2
    | false =>
      have q3 := fin _ _ q2
      rw [allEq_no hm he] at q3
      wp_walk
      exact q3
  case fin =>
    rintro ⟨b1, b2⟩ s' ⟨hb', i, hz, hi, hI⟩
    simp only at hb'
    subst hb'
    have hge : min items.size items2.size ≤ i := by
      rcases Nat.lt_or_ge i (items.toList.zip items2.toList).length with h' | h'
      · rw [List.drop_eq_getElem_cons h'] at hz; cases hz
      · exact hZ ▸ h'
    have hR := fin _ _ hI
    rw [allEq_fin fun j hj => hi j (by omega) hj] at hR
    wp_walk
    exact hR
  case h =>
    exact ⟨rfl, 0, rfl, fun j hj => absurd hj (by omega), h0⟩
theorem tuple_neB (l b : Addr) (items items2 : Array Value) (n n2 : Nat) (dd dd2 : Option Addr) (sl sl2 : Array (Option Value)) (e : Nat → Bool) (I : Nat → Shared → Prop)
    (turn : ∀ i (h1 : i < items.size) (h2 : i < items2.size) s, I i s → wpAny (model prog w) A.in1 (eqBool items[i] items2[i]) (fun r s' => r = e i ∧ I (i + 1) s') (fun e s' => R (.error e) s') s)
    (fin : ∀ i s, I i s → R (.ok (.ret (.bool (!allEq e items.size items2.size)))) s) {s : Shared} (hl1 : s.heap.get? l = some { cls := .type "tuple", dict := dd, data := .seq items n, slots := sl }) (hb1 : s.heap.get? b = some { cls := .type "tuple", dict := dd2, data := .seq items2 n2, slots := sl2 }) (h : I 0 s) :
    wpAny (model prog w) A.in1 (Builtin.«tuple.__ne__» ⟨[.ref l, .ref b], []⟩) (GQ.FinOf prog w A R) (fun e s' => R (.error e) s') s := by
  have f2 := AutoSeq1.sub_tuple_tuple
  have hZ : (items.toList.zip items2.toList).length = min items.size items2.size := by simp
  have h0 := h
  obtain ⟨hp, g, d, tk, os⟩ := s
  wp_walk using wpAny_loadPart' hl1, wpAny_loadPart' hb1, wpAny_forIn_list _ (fun rest b s' => b.1 = none ∧ ∃ i, rest = (items.toList.zip items2.toList).drop i ∧ (∀ j < i, j < min items.size items2.size → e j = true) ∧ I i s') _
  case turn =>
    rintro ⟨y, x⟩ rest b s' ⟨hb', i, hz, hi, hI⟩
    have hlt : i < (items.toList.zip items2.toList).length := by
      rcases Nat.lt_or_ge i (items.toList.zip items2.toList).length with h' | h'
      · exact h'
      · rw [List.drop_of_length_le h'] at hz; cases hz
    have hm : i < min items.size items2.size := hZ ▸ hlt
    have h1 : i < items.size := Nat.lt_of_lt_of_le hm (Nat.min_le_left _ _)
    have h2 : i < items2.size := Nat.lt_of_lt_of_le hm (Nat.min_le_right _ _)
    rw [List.drop_eq_getElem_cons hlt] at hz
    injection hz with hyx hrest
    have hy : y = items[i] := by have := congrArg Prod.fst hyx; simpa using this
    have hx : x = items2[i] := by have := congrArg Prod.snd hyx; simpa using this
    subst hy hx
    refine wpAny_bind (wpAny_mono (turn i h1 h2 s' hI) (fun r s2 q2 => ?_) fun _ _ x => x)
    obtain ⟨hr, q2⟩ := q2
    subst hr
    cases he : e i with
    | true =>
      wp_walk
      refine ⟨rfl, i + 1, hrest, fun j hj hj2 => ?_, q2⟩
      by_cases hji : j = i
      · rw [hji]; exact he
      · exact hi j (by omega) hj2
    | false =>
      have q3 := fin _ _ q2
      rw [allEq_no hm he] at q3
      wp_walk
      exact q3
  case fin =>
    rintro ⟨b1, b2⟩ s' ⟨hb', i, hz, hi, hI⟩
    simp only at hb'
    subst hb'
    have hge : min items.size items2.size ≤ i := by
      rcases Nat.lt_or_ge i (items.toList.zip items2.toList).length with h' | h'
      · rw [List.drop_eq_getElem_cons h'] at hz; cases hz
      · exact hZ ▸ h'
    have hR := fin _ _ hI
    rw [allEq_fin fun j hj => hi j (by omega) hj] at hR
    wp_walk
    exact hR
  case h =>
    exact ⟨rfl, 0, rfl, fun j hj => absurd hj (by omega), h0⟩
end
/-- two items: the same object, or two that their own == compares -/
def ItemEq (K : PySem.W.Frag) (SF : Addr → Addr → Prop) (sp : Sp) (E : XK) (e : Bool) (x y : V) (H : Hp) : Prop :=
  (∃ r, x = .ref r ∧ y = .ref r ∧ e = true) ∨ ∃ a b C dx fs g t, x = .ref a ∧ y = .ref b ∧ a ≠ b ∧ H a = some (.ins C dx fs) ∧ SF C g ∧ TyX K H y t ∧ PySem.W.notFirst K C t = true ∧ sp [x, y] H (fun z H' => z = .bl e ∧ Ex H H') E
def rTupO (K : PySem.W.Frag) (SF : Addr → Addr → Prop) (sp : Sp) (E : XK) (neg : Bool) : R2 := fun x y H Q => ∃ a b xs ys es, x = .ref a ∧ y = .ref b ∧ SqT K H a xs ∧ SqT K H b ys ∧
  (∀ H', Ex H H' → ∀ i x y, xs[i]? = some x → ys[i]? = some y → ItemEq K SF sp E (es i) x y H') ∧ ∀ H', Ex H H' → Q (.bl (xor neg (allEq es xs.length ys.length))) H'
section
variable {X : Cx} {CX : CXT} {n : Nat} {sp : Sp} {E : XK} {SF : Addr → Addr → Prop}
theorem item_ok (hS : ∀ C g, SF C g → MethC X.K "__eq__" C g) (hF : ∀ C g, SF C g → FnR X.prog X.w X.K X.mg X.base CX n g (onC C sp)) (hr : Room (n + 1) X.A) (hx : Passes CX X E) {pins : List (Addr × Obj)} {σ : L2.St} {H : Hp} {s : Shared} {x y : V} {v u : Value} {e : Bool}
    (I : Inv X pins σ H s) (rx : RelV x v) (ry : RelV y u) (h : ItemEq X.K SF sp E e x y H) : wpAny (model X.prog X.w) X.A.in1 (eqBool v u) (fun r s' => r = e ∧ ∃ H', Inv X pins σ H' s' ∧ Ex H H') X.xe s := by
  rcases h with ⟨r, rfl, rfl, rfl⟩ | ⟨a, b, C, dx, fs, g, t, rfl, rfl, hne, ha, hg, ty, hn, q⟩
  · cases rx
    cases ry
    exact SeqAt.EqAt.same (A := X.A.in1) (s := s) (.ref r) X.prog X.w X.xe _ ⟨rfl, H, I, Ex.refl H⟩
  · obtain ⟨PP, KX, hp, _⟩ := kit_of I ry ty
    obtain rfl : v = Value.ref a := rx
    obtain rfl : u = Value.ref b := ry
    obtain ⟨od, J⟩ := ins_at I ha
    obtain ⟨m, hFr⟩ := I.fr
    refine GQ.eqBool_refG hne ?_
    refine PySem.W.cmp_K (op := .Eq) (tb := t) (Room.in1 hr).units0 hFr I.ok.mod.kin J (KX.ty _ _ I.kIn hp) hn (hS C g hg).at_ (hS C g hg).fn ?_
    refine wpAny_mono (wpAny_call (SlX.run_at (us := [.ref a, .ref b]) (ws := [.ref a, .ref b]) (hF C g hg) (Room.in1 hr) I.env0.in1 hx I (.cons rfl (.cons rfl .nil)) ⟨⟨_, _, _, _, rfl, ha⟩, q⟩)) (fun w s' z => ?_) fun _ _ x => x
    obtain ⟨z', H', I', rz, ez, ex⟩ := z
    subst ez
    cases rz
    exact ⟨_, rfl, rfl, H', I', ex⟩
theorem items_turn (hS : ∀ C g, SF C g → MethC X.K "__eq__" C g) (hF : ∀ C g, SF C g → FnR X.prog X.w X.K X.mg X.base CX n g (onC C sp)) (hr : Room (n + 1) X.A) (hx : Passes CX X E) {pins : List (Addr × Obj)} {σ : L2.St} {H : Hp} {xs ys : List V} {its its2 : List Value} {es : Nat → Bool}
    (r1 : Vals xs its) (r2 : Vals ys its2) (p : ∀ H', Ex H H' → ∀ i x y, xs[i]? = some x → ys[i]? = some y → ItemEq X.K SF sp E (es i) x y H') (i : Nat) (h1 : i < its.toArray.size) (h2 : i < its2.toArray.size) (s' : Shared) (l : ∃ H', Inv X pins σ H' s' ∧ Ex H H') :
    wpAny (model X.prog X.w) X.A.in1 (eqBool its.toArray[i] its2.toArray[i]) (fun r s2 => r = es i ∧ ∃ H', Inv X pins σ H' s2 ∧ Ex H H') X.xe s' := by
  obtain ⟨H1, I1, e1⟩ := l
  have g1 : its[i]? = some its.toArray[i] := by
    have h1' : i < its.length := by simpa using h1
    rw [List.getElem?_eq_getElem h1'] <;> simp
  have g2 : its2[i]? = some its2.toArray[i] := by
    have h2' : i < its2.length := by simpa using h2
    rw [List.getElem?_eq_getElem h2'] <;> simp
  have k1 : i < xs.length := by rw [r1.length]; simpa using h1
  have k2 : i < ys.length := by rw [r2.length]; simpa using h2
  obtain ⟨u, hu, ru⟩ := r1.get (List.getElem?_eq_getElem k1)
  obtain ⟨v, hv, rv⟩ := r2.get (List.getElem?_eq_getElem k2)
  rw [g1] at hu
  rw [g2] at hv
  rw [Option.some.inj hu, Option.some.inj hv]
  refine wpAny_mono (item_ok hS hF hr hx I1 ru rv (p H1 e1 i _ _ (List.getElem?_eq_getElem k1) (List.getElem?_eq_getElem k2))) (fun r s2 q => ?_) fun _ _ x => x
  obtain ⟨hr, H2, I2, e2⟩ := q
  exact ⟨hr, H2, I2, e1.trans e2⟩
open PySem.SeqAt in
theorem op_eqTupO (hS : ∀ C g, SF C g → MethC X.K "__eq__" C g) (hF : ∀ C g, SF C g → FnR X.prog X.w X.K X.mg X.base CX n g (onC C sp)) (hr : Room (n + 1) X.A) (hx : Passes CX X E) : OpR X (compareOp .Eq) (rTupO X.K SF sp E false) := by
  intro pins s σ H x y v u Q I rx ry h
  obtain ⟨a, b, xs, ys, es, rfl, rfl, ha, hb, p, q⟩ := h
  obtain rfl : v = Value.ref a := rx
  obtain rfl : u = Value.ref b := ry
  obtain ⟨its, r1, p1, z1⟩ := I.tuple ha
  obtain ⟨its2, r2, p2, z2⟩ := I.tuple hb
  obtain ⟨⟨cls, dd, data, sl⟩, ho, hc, n1, hd⟩ := id p1
  obtain ⟨⟨cls2, dd2, data2, sl2⟩, ho2, hc2, n2, hd2⟩ := id p2
  simp only at hc hd hc2 hd2
  subst hc hd hc2 hd2
  show wpAny _ _ (richCompare .Eq _ _) _ _ _
  refine wpAny_richCompare_same_room (op := .Eq) ⟨_, ho, rfl⟩ ⟨_, ho2, rfl⟩ F.slot_tuple_eq (GQ.call_here F.slot_tuple_eq ⟨_, ho, rfl⟩ F.entry_tuple_eq (F.args_tuple_eq_2 _ _) ?_) hr.units0
  refine tuple_eqB (R := wants (fun v s' => v ≠ .notImplemented ∧ EP X pins σ Q v s') X.xe) a b its.toArray its2.toArray n1 n2 dd dd2 sl sl2 es (fun _ s' => ∃ H', Inv X pins σ H' s' ∧ Ex H H') (fun i h1 h2 s' l => items_turn hS hF hr hx r1 r2 p i h1 h2 s' l) (fun i s' l => ?_) ho ho2 ⟨H, I, Ex.refl H⟩
  obtain ⟨H', I', e'⟩ := l
  refine ⟨(fun z => nomatch z), ⟨.bl _, H', I', ?_, q H' e'⟩⟩
  show Value.bool _ = Value.bool _
  rw [List.size_toArray, List.size_toArray, ← r1.length, ← r2.length, Bool.false_xor]
open PySem.SeqAt in
theorem op_neTupO (hS : ∀ C g, SF C g → MethC X.K "__eq__" C g) (hF : ∀ C g, SF C g → FnR X.prog X.w X.K X.mg X.base CX n g (onC C sp)) (hr : Room (n + 1) X.A) (hx : Passes CX X E) : OpR X (compareOp .NotEq) (rTupO X.K SF sp E true) := by
  intro pins s σ H x y v u Q I rx ry h
  obtain ⟨a, b, xs, ys, es, rfl, rfl, ha, hb, p, q⟩ := h
  obtain rfl : v = Value.ref a := rx
  obtain rfl : u = Value.ref b := ry
  obtain ⟨its, r1, p1, z1⟩ := I.tuple ha
  obtain ⟨its2, r2, p2, z2⟩ := I.tuple hb
  obtain ⟨⟨cls, dd, data, sl⟩, ho, hc, n1, hd⟩ := id p1
  obtain ⟨⟨cls2, dd2, data2, sl2⟩, ho2, hc2, n2, hd2⟩ := id p2
  simp only at hc hd hc2 hd2
  subst hc hd hc2 hd2
  show wpAny _ _ (richCompare .NotEq _ _) _ _ _
  refine wpAny_richCompare_same_room (op := .NotEq) ⟨_, ho, rfl⟩ ⟨_, ho2, rfl⟩ F.slot_tuple_ne (GQ.call_here F.slot_tuple_ne ⟨_, ho, rfl⟩ F.entry_tuple_ne (F.args_tuple_ne_2 _ _) ?_) hr.units0
  refine tuple_neB (R := wants (fun v s' => v ≠ .notImplemented ∧ EP X pins σ Q v s') X.xe) a b its.toArray its2.toArray n1 n2 dd dd2 sl sl2 es (fun _ s' => ∃ H', Inv X pins σ H' s' ∧ Ex H H') (fun i h1 h2 s' l => items_turn hS hF hr hx r1 r2 p i h1 h2 s' l) (fun i s' l => ?_) ho ho2 ⟨H, I, Ex.refl H⟩
  obtain ⟨H', I', e'⟩ := l
  refine ⟨(fun z => nomatch z), ⟨.bl _, H', I', ?_, q H' e'⟩⟩
  show Value.bool _ = Value.bool _
  rw [List.size_toArray, List.size_toArray, ← r1.length, ← r2.length, Bool.true_xor]
end
/-! ### l.extend(x), x a list or a tuple -/
section
open AutoSeq1
theorem list_extend_tupA (l : Addr) (items : Array Value) (n : Nat) (b : Addr) (items2 : Array Value) (n2 : Nat) (dd : Option Addr) (sl : Array (Option Value)) (hs0 : ¬(!items.isEmpty && Builtin.List.listTooLong (items.size + items2.size)) = true) (hs1 : items.size ≤ sizeLine) (hs2 : items.size + items2.size ≤ sizeLine + 1) :
    Meets (Builtin.«list.extend» ⟨[.ref l, .ref b], []⟩) (fun _ R s => s.heap.get? l = some { cls := .type "list", dict := none, data := .seq items n, slots := #[] } ∧ s.heap.get? b = some { cls := .type "tuple", dict := dd, data := .seq items2 n2, slots := sl } ∧ R (.ok (.ret Value.none)) { s with heap := s.heap.update l (Obj.mapSeq fun x => x ++ items2), toks := s.toks }) :=
  .of_wp fun prog w A R s h => by
    obtain ⟨hp, g, d, tk, os⟩ := s; obtain ⟨hl, hb, h⟩ := h; have f1 := AutoSeq1.idx_int; have f2 := AutoSeq1.sub_tuple_tuple; have f3 := AutoSeq1.sub_list_list; have f4 := AutoSeq1.sub_tuple_list; have f5 := AutoSeq1.sub_list_tuple;
    have hz' : (items ++ items2).size ≤ sizeLine + 1 := by rw [Array.size_append]; exact hs2
    wp_walk using (wpAny_updateSeq hl rfl (hz := hs1) (_hz' := hz')), MeetsSeq.wpAny_loadPart' hl, MeetsSeq.wpAny_loadPart' hb; exact ⟨_, rfl, h⟩
end
def rExtX (K : PySem.W.Frag) : V → List V → Hp → VK → Prop := fun x vs H Q => ∃ l b xs zs, x = .ref l ∧ vs = [.ref b] ∧ H l = some (.lst xs) ∧ (H b = some (.lst zs) ∨ SqT K H b zs) ∧ xs.length + zs.length ≤ sizeLine ∧ Q .non (upd H l (.lst (xs ++ zs)))
theorem mt_extX {X : Cx} : MtR X "list.extend" (rExtX X.K) := by
  intro pins s σ H x vs v us Q I rx rv h
  obtain ⟨l, b, xs, zs, rfl, rfl, hH, hB, hz, q⟩ := h
  rcases hB with hB | hB
  · exact mt_extend pins s σ H _ _ v us Q I rx rv ⟨l, b, xs, zs, rfl, rfl, hH, hB, hz, q⟩
  cases rx
  obtain ⟨u, rfl, ru⟩ := rv.one
  cases ru
  obtain ⟨z, its, n, r, hl, e⟩ := I.lstM hH
  obtain ⟨its2, r2, p2, hl2⟩ := I.tuple hB
  obtain ⟨⟨cls, dd, data, sl⟩, ho, hc, n2, hd⟩ := id p2
  simp only at hc hd
  subst hc hd
  have hl3 := r2.length
  have hsz : its.toArray.size + its2.toArray.size ≤ sizeLine := by rw [List.size_toArray, List.size_toArray]; omega
  have hlong : ¬ (!its.toArray.isEmpty && Builtin.List.listTooLong (its.toArray.size + its2.toArray.size)) = true := by
    rw [notLongL hsz, Bool.and_false]
    exact Bool.false_ne_true
  refine call_meets F.slot_list_extend ⟨_, e, rfl⟩ F.entry_list_extend (F.args_list_extend_2 _ _)
    (list_extend_tupA l its.toArray n b its2.toArray n2 dd sl hlong (by rw [List.size_toArray]; omega) (by omega)) ⟨e, ho, ?_⟩
  refine ⟨.non, _, I.lset (its' := its ++ its2) hH e (by simp) (r.append r2) ?_, rfl, q⟩
  rw [List.length_append]
  omega
/-- == of own objects under a comprehension -/
theorem op_eqOK {K : PySem.W.Frag} {X : Cx} {CX : CXT} {n : Nat} {sp : Sp} {E : XK} {SF : Addr → Addr → Prop} (hS : ∀ C g, SF C g → MethC K "__eq__" C g) (hF : ∀ C g, SF C g → FnR X.prog X.w X.K X.mg X.base CX n g (onC C sp)) (hr : Room n X.A) (hx : Passes CX X E) (hK : X.K = K := by rfl) : OpR X (compareOp .Eq) (rEqO K SF sp E) := by
  subst hK
  exact op_eqO hS hF hr hx
theorem op_neOK {K : PySem.W.Frag} {X : Cx} {CX : CXT} {n : Nat} {sp : Sp} {E : XK} {SF : Addr → Addr → Prop} (hN : ∀ C g, SF C g → NeC K C) (hS : ∀ C g, SF C g → MethC K "__eq__" C g) (hF : ∀ C g, SF C g → FnR X.prog X.w X.K X.mg X.base CX n g (onC C sp)) (hr : Room (n + 1) X.A) (hx : Passes CX X E) (hK : X.K = K := by rfl) : OpR X (compareOp .NotEq) (rNeO K SF sp E) := by
  subst hK
  exact op_neO hN hS hF hr hx
end My
set_option Elab.async false
set_option linter.all false
set_option maxRecDepth 100000
set_option maxHeartbeats 4000000
/-! the keys of a dict that the comprehension made itself; isinstance of a caught own error of any chain -/
namespace My
open PySem PySem.Spec PyProof.Rows L2 Evl
def iKeysN (td : TE) : TI := fun σ H R => td σ H fun x H1 => ∃ d kvs, x = .ref d ∧ H1 d = some (.dK kvs) ∧ ∀ o, R (Itk d o kvs) (upd H1 d (.frz o (.dK kvs)))
section
variable {X : Cx} {tg e : Expr} {td : TE}
theorem pi_keysN (he : PE X e td) : PI X tg e (iKeysN td) := by
  refine ⟨fun pins s σ H R I h => ?_⟩
  refine thn (he.run pins s σ H _ I h) fun u s1 ⟨x, H1, I0, rx, d, kvs, ex, hd0, q⟩ => ?_
  subst ex
  obtain rfl : u = Value.ref d := rx
  obtain ⟨o, I1⟩ := I0.lock hd0 trivial
  have hd : upd H1 d (.frz o (.dK kvs)) d = some (.frz o (.dK kvs)) := upd_same
  obtain ⟨hs, hgd, hx, es, ep, vs, hdt, hsz, kv, hm⟩ := I1.frzK hd
  refine iter_keys hs hgd hx hdt (pi_one (tk := s1.toks) I1 _ (turn_keys _ hdt) ⟨_, Heap.get?_push_size _ rfl, rfl, ?_⟩ (q o))
  rw [hsz] <;> rfl
end
/-! ### isinstance of a caught own error, one class -/
section
variable {X : Cx} {C a : Addr} {oe : Obj} {cls : Value} {d : Option Addr} {pn : List (Addr × Obj)}
def rIsR (K : PySem.W.Frag) (C a : Addr) (cls : Value) (d : Option Addr) : List V → Hp → VK → Prop := fun xs H Q => ∃ (dd : Addr) (fs : List (Str × V)) (c1 : V) (c2 : Value) (b : Bool),
  xs = [.ref a, c1] ∧ (∀ u, RelV c1 u → u = c2) ∧ (∀ tp, c2 = .ref tp → ∃ x, c1 = .ref x) ∧ cls = .ref C ∧ d = some dd ∧ H dd = some (.xd fs) ∧ PySem.W.kitOne K (.ref C) c2 = some b ∧ Q (.bl b) H
theorem call_isR {x f : Str} {fI : Addr} (T : ErrR X.K X.mg x f C fI) (hz : Zc cls d oe) (hf : ∃ vs, oe.data = .fields vs) : CallR (X.suite a ((a, oe) :: pn)) (.builtin "isinstance") (rIsR X.K C a cls d) := by
  intro pins s σ H xs us Q I r h
  obtain ⟨dd, fs, c1, c2, b, rfl, hc, _, ec, ed, hdd, e, q⟩ := h
  subst ec ed
  obtain ⟨u1, u2, rfl, r1, r2⟩ := vals2 r
  obtain rfl : u1 = Value.ref a := r1
  obtain rfl : u2 = c2 := hc _ r2
  obtain ⟨hget, _⟩ := I.pin (a, oe) (List.mem_append.mpr (.inl List.mem_cons_self))
  obtain ⟨vs, hv⟩ := hf
  obtain ⟨mA, hns, _⟩ := (show ObjOk X.prog X.w H s.heap dd (.xd fs) from I.hok dd _ hdd)
  obtain ⟨od, ho, _⟩ := lookIn_ns hns
  have J : PySem.W.InstAt s.heap a oe C (some od) := ⟨hget, hz.1, by unfold PySem.W.notCls; rw [hv] <;> rfl, by rw [hz.2]; exact ho⟩
  exact PySem.W.kia_one (PySem.W.kitx_exc T.F.k.isC T.xf.ga T.xf.gg T.xf.exC T.F.k.ha T.F.k.hn T.F.k.ht T.F.k.hm) I.kIn J e (fun z => nomatch z) fun tk => ⟨.bl b, H, I.tok tk, rfl, q⟩
end
end My
set_option Elab.async false
set_option linter.all false
set_option maxRecDepth 100000
set_option maxHeartbeats 4000000
/-! a builtin method's call in a comprehension: its promise names the fragment itself -/
namespace My
open PySem PySem.Spec PyProof.Rows L2 Evl
section
variable {X : Cx} {K : PySem.W.Frag} {T name id : String} {o e : Expr} {es : List Expr} {to : TE} {t : TA} {apos cpos : Pos} {r : V → List V → Hp → VK → Prop}
theorem pe_bmK (hK : X.K = K) (pa : PlainAttrs T) (slot : Slot T name id) (hty : typeOf (.builtin id) = pure (.type "method_descriptor")) (hm : MtR X id r) (ho : PE X o to) (ha : PA X (e :: es) t)
    (hbase : attributeBase o name X.env (eval o X.env) = eval o X.env := by rfl)
    (hfew : ((backTo cpos (starEach (e :: es) X.env)).all (fun x => !x.1) && (backToKw cpos (keywordEach [] X.env)).all (fun x => x.1.isSome)
      && decide ((e :: es).length + ([] : List Keyword).length + (if ([] : List Keyword).isEmpty then 0 else 1) < 30)) = true := by rfl)
    (hline : (apos.endLine == cpos.line) = true := by rfl) (hs : starEach (e :: es) X.env = (false, eval e X.env) :: starEach es X.env := by rfl) (hplain : (backTo cpos (starEach es X.env)).any (·.1) = false := by rfl) :
    PE X (.Call (.Attribute o name apos) (e :: es) [] cpos) (tBM K T r to t) := by
  subst hK
  exact pe_bm pa slot hty hm ho ha hbase hfew hline hs hplain
theorem mt_joinK (hK : X.K = K) : MtR X "str.join" (fun x xs H Q => ∃ a p, ∃ ys : List Str, x = .str a ∧ xs = [.ref p] ∧ (SqL K H p (ys.map V.str) ∨ SqT K H p (ys.map V.str)) ∧
    (ys.map (·.length)).sum + ys.length * a.length ≤ 16777216 ∧ Q (.str (Txt.join a ys)) H) := by
  subst hK
  exact mt_join
end
end My
set_option Elab.async false
set_option linter.all false
set_option maxRecDepth 100000
set_option maxHeartbeats 4000000
/-! own objects that change: a += v by an own __iadd__, a[i] = v by an own __setitem__, what they raise told by the slots -/
namespace My
open PySem PySem.Spec PyProof.Rows L2 Evl
structure IOwn (K : PySem.W.Frag) (C g : Addr) : Prop where
  mro : (PySem.W.clsIn K C).map (·.mro) = some [.ref C, .type "object"]
  at_ : PySem.W.findIn K (.ref C) "__iadd__" = some (some (.ref g))
  fn : PySem.W.isFn K (.ref g) = true
theorem fills_yes {M : Model} {K : PySem.W.Frag} {h : Heap} {C g : Addr} (X : K.In h) (T : IOwn K C g) : PySem.W.Looks M h (fillsInplaceSlot (.ref C) "add" true) true := by
  cases hc : PySem.W.clsIn K C with
  | none => have := T.mro; rw [hc] at this; cases this
  | some cd =>
    have hm : cd.mro = [.ref C, .type "object"] := by have := T.mro; rw [hc] at this; exact Option.some.inj this
    intro A Q E s k q
    have Lm : PySem.W.Looks M h (mroOf (.ref C)) cd.mro := (PySem.W.looks_clsIn X hc).andThen (f := fun cd => pure cd.mro) .now
    have Lm' := Lm.keeps k
    obtain ⟨hh, g', d, tt, os⟩ := s
    have X' : K.In hh := X.keeps k
    have L1 : PySem.W.Looks M hh (typeLookup (.ref C) (dunderI "add")) (some (.ref g)) := PySem.W.looks_findIn X' T.at_
    unfold fillsInplaceSlot
    refine wpAny_bind (Lm'.at ?_)
    rw [hm, List.anyM_cons]
    refine wpAny_bind (wpAny_bind (L1.at ?_))
    rw [if_pos (by rfl)]
    exact wpAny_pure (wpAny_pure q)
def tAugO (i : Nat) (SF : Addr → Addr → Prop) (sp : Sp) (E : L2.St → XK) (te : TE) : TS := fun D σ H => ∃ x, σ[i]? = some (some x) ∧ te σ H fun y H1 => ∃ a C dx fs g, x = .ref a ∧ H1 a = some (.ins C dx fs) ∧ SF C g ∧ sp [x, y] H1 (fun z H2 => D.nx (σ.set i (some z)) H2) (E σ)
theorem ps_augO {X : Cx} {CX : CXT} {n i : Nat} {sp : Sp} {E : L2.St → XK} {SF : Addr → Addr → Prop} {x : Str} {e : Expr} {te : TE} {pos pos' : Pos} (hI : ∀ C g, SF C g → IOwn X.K C g) (hF : ∀ C g, SF C g → FnR X.prog X.w X.K X.mg X.base CX n g (onC C sp)) (hr : Room n X.A) (hxx : ∀ σ, PassesAt CX X σ (E σ))
    (hN : X.N.Nodup) (hi : X.N[i]? = some x) (hx : Loc X.env.scope x) (he : PE X e te) (hf : X.fn x = true ∨ X.env.scope.names.lookup x = some .local := by first | exact .inl rfl | exact .inr rfl | assumption) :
    PS X (.AugAssign (.Name x pos') .Add e pos) (tAugO i SF sp E te) := by
  refine ⟨fun pins s σ H D I h => ?_⟩
  obtain ⟨v, e1, h⟩ := h
  obtain ⟨m, hn, hl⟩ := I.loc
  have vis : Vis X.env.scope x := by rcases hx with k | k; exact .inl k; exact .inr (.inl k)
  obtain ⟨u, r, l⟩ := hl i x v hi e1 vis
  refine wpAny_AugAssign_Name ?_
  have go : wpAny (model X.prog X.w) X.A (eval e X.env) (fun w s₂ => wpAny (model X.prog X.w) X.A (inplaceOp .Add u w) (fun r s₃ => wpAny (model X.prog X.w) X.A (storeName X.env x r) (fun _ => SP X pins D .next) X.xe s₃) X.xe s₂) X.xe s := by
    refine thn (he.run pins s σ H _ I h) fun w s1 ⟨y, H1, I1, r1, a, C, dx, fs, g, ex, ha, hg, q⟩ => ?_
    subst ex
    obtain rfl : u = Value.ref a := r
    obtain ⟨od, J⟩ := ins_at I1 ha
    have T := hI C g hg
    have KX := I1.kIn
    have main := wpAny_call (run_atS (us := [.ref a, w]) (ws := [.ref a, y]) (hF C g hg) hr I1.env0 (hxx σ) I1 (.cons rfl (.cons r1 .nil)) ⟨⟨_, _, _, _, rfl, ha⟩, q⟩)
    unfold inplaceOp
    refine wpAny_holding (wpAny_bind (J.type.here (wpAny_bind ((fills_yes KX T).here ?_))))
    rw [if_pos rfl]
    refine wpAny_bind ?_
    unfold tryMethod
    refine wpAny_bind (PySem.W.special_fn KX J T.at_ (beq_iff_eq.mp T.fn) (wpAny_mono main (fun w s' z => ?_) fun _ _ x => x))
    obtain ⟨z', H', I', rz, qz⟩ := z
    have cb : PySem.W.CmpBack (EP X pins σ fun z H2 => D.nx (σ.set i (some z)) H2) w s' := SlX.cmpback rz ⟨z', H', I', rz, qz⟩
    cases w <;> first | exact cb.elim | exact wpAny_pure (wpAny_bind (wpAny_rule (wpAny_pure (let ⟨z', H', I', rz, qz⟩ := cb; store_ok I' hN hi hx rz (fun s3 I3 => ⟨_, H', I3, qz⟩) hf))))
  rcases l with ⟨hk, hm⟩ | ⟨hk, c, hc, hcell⟩
  · exact wpAny_loadName_local I.ok.kind hk hn hm go
  · rcases hk with hk | hk
    · exact wpAny_loadName_cell I.ok.kind hk hc hcell go
    · rcases hx with k | k
      · have : X.env.scope.names.lookup x = some .free := hk
        rw [k] at this; cases this
      · have : X.env.scope.names.lookup x = some .free := hk
        rw [k] at this; cases this
/-! ### a[i] = v -/
structure SetC (K : PySem.W.Frag) (C g : Addr) : Prop where
  at_ : PySem.W.findIn K (.ref C) "__setitem__" = some (some (.ref g))
  no : PySem.W.noSeq K C = true
  fn : PySem.W.isFn K (.ref g) = true
def gSubO (SF : Addr → Addr → Prop) (sp : Sp) (E : L2.St → XK) (to ti : TE) : TG := fun v σ H Q => to σ H fun x H1 => ti σ H1 fun y H2 => ∃ a C dx fs g, x = .ref a ∧ H2 a = some (.ins C dx fs) ∧ SF C g ∧ sp [x, y, v] H2 (fun _ H3 => Q σ H3) (E σ)
theorem pg_subO {X : Cx} {CX : CXT} {n : Nat} {sp : Sp} {E : L2.St → XK} {SF : Addr → Addr → Prop} {o i : Expr} {to ti : TE} {pos : Pos} (hS : ∀ C g, SF C g → SetC X.K C g) (hF : ∀ C g, SF C g → FnR X.prog X.w X.K X.mg X.base CX n g (onC C sp)) (hr : Room n X.A) (hxx : ∀ σ, PassesAt CX X σ (E σ)) (ho : PE X o to) (hi : PE X i ti)
    (ha : ∀ v, assign (.Subscript o i pos) X.env v = (do
      let ov ← holding [v] (eval o X.env)
      let iv ← holding [v, ov] (eval i X.env)
      standAt pos
      holding [v, ov, iv] (setItem ov iv v)
      release [v, ov, iv] []) := by intro _; rfl) : PG X (.Subscript o i pos) (gSubO SF sp E to ti) := by
  refine ⟨fun pins s σ H v u Q I r h => ?_⟩
  rw [ha]
  refine wpAny_bind (wpAny_holding (thn (ho.run pins s σ H _ I h) fun ov s1 ⟨x, H1, I1, r1, q1⟩ => ?_))
  refine wpAny_bind (wpAny_holding (thn (hi.run pins s1 σ H1 _ I1 q1) fun iv s2 ⟨y, H2, I2, r2, a, C, dx, fs, g, ex, hins, hg, q⟩ => ?_))
  subst ex
  obtain rfl : ov = Value.ref a := r1
  obtain ⟨od, J⟩ := ins_at I2 hins
  obtain ⟨m, hFr⟩ := I2.fr
  have T := hS C g hg
  have main := wpAny_call (run_atS (us := [.ref a, iv, u]) (ws := [.ref a, y, v]) (hF C g hg) hr I2.env0 (hxx σ) I2 (.cons rfl (.cons r2 (.cons r .nil))) ⟨⟨_, _, _, _, rfl, hins⟩, q⟩)
  refine wpAny_bind (wpAny_standAt (wpAny_bind (wpAny_holding (PySem.W.ksp_setItem hFr I2.ok.mod.kin J T.no T.at_ T.fn (wpAny_mono main (fun w s3 z => ?_) fun _ _ x => x)))))
  obtain ⟨z', H3, I3, rz, q3⟩ := z
  exact wpAny_release ⟨σ, H3, I3, q3⟩
/-! ### a.m() -/
def tMethS0 (C : Addr) (m : Str) (sp : Sp) (E : L2.St → XK) (ta : TE) : TE := fun σ H Q => ta σ H fun x H1 => ∃ a dx fs, x = .ref a ∧ H1 a = some (.ins C dx fs) ∧ fs.lookup m = none ∧ sp [x] H1 Q (E σ)
theorem pe_methS0 {X : Cx} {CX : CXT} {k : Nat} {C f : Addr} {m : Str} {sp : Sp} {E : L2.St → XK} {o : Expr} {ta : TE} {apos pos : Pos} {pl : Sem Bool} (he : PE X o ta) (c : Cls X.K C) (hm : Meth X.K C m f)
    (F : FnR X.prog X.w X.K X.mg X.base CX k f sp) (hr : Room k X.A) (hx : ∀ σ, PassesAt CX X σ (E σ))
    (ht : eval (.Call (.Attribute o m apos) [] [] pos) X.env = (do
      let ov ← eval o X.env
      standAt apos.atName
      let (f, first) ← holding [ov] (getMethod ov m pl)
      callWith pos f first (backTo pos (starEach [] X.env)) (backToKw pos (keywordEach [] X.env))) := by rfl) :
    PE X (.Call (.Attribute o m apos) [] [] pos) (tMethS0 C m sp E ta) := by
  refine ⟨fun pins s σ H Q I h => ?_⟩
  refine PySem.W.methodCall_KW (pl := pl) (thn (he.run pins s σ H _ I h) fun u s1 ⟨x, H1, I1, rx, a, dx, fs, ex, ea, l, q⟩ => ?_) ht
  subst ex
  obtain rfl : u = Value.ref a := rx
  refine getmeth_ok I1 ea c hm l ?_
  exact PySem.W.callWith_K0 (first := [.ref a]) I1.kIn hm.kp (wpAny_call (run_atS (us := [.ref a]) (ws := [.ref a]) F hr I1.env0 (hx σ) I1 (.cons rfl .nil) q))
end My
set_option Elab.async false
set_option linter.all false
set_option maxRecDepth 100000
set_option maxHeartbeats 4000000
set_option exponentiation.threshold 5000
namespace My
open PySem PySem.Spec PyProof.Rows L2 Evl
local macro_rules | `(tactic| walk_at "st") => `(tactic| simp only [L2.start, List.map_cons, List.map_nil, List.length_cons, List.length_nil, Nat.reduceAdd, Nat.reduceSub, List.replicate_succ, List.replicate_zero, List.cons_append, List.nil_append, cxOf, List.append_nil])
local macro_rules | `(tactic| walk_at "vc") => `(tactic| try simp only [tSeq, tAsg, tOp, tUn, tVar, tC, tNil, tCons, gName, rI, rI0, rU, tRet, tIfS, tNot, tAnd, tOr, tB, tTest, tCB, tCall, tAndV, tOrV, tNotV, tNext, tNever, tIf, tChain, tYes, tPart, tNoPart, tPar, tDrop, q_isi, q_vn, q_vb, q_vi, q_vs, kb1, kb2, kb3, kb4, kb5, kb6, kb7, kb8, q_int1, q_int2, q_min, q_max, q_repr, tLst, tTup, rEq, rNe, q_sii, q_sss, q_sbb, q_snn, q_sns, q_ssn, q_ix, q_sl, tSl, tBM, tBM0, q_app, q_pop, gSub, rSetL, L2.wipe, eq_self, decide_true, decide_false, tRevL,
  List.getElem?_cons_succ, List.getElem?_cons_zero, List.set_cons_succ, List.set_cons_zero, Option.some.injEq, exists_eq_left', exists_eq_left, V.int.injEq, V.bl.injEq, V.ref.injEq, V.str.injEq, List.cons.injEq, and_true, true_and, List.append_nil, List.nil_append, List.cons_append, exists_and_left, and_assoc, if_true, if_false, Bool.not_true, Bool.not_false, Bool.false_eq_true, Bool.true_eq_false, reduceIte, tRevL, tPar3, tRevT, tUnl, tCKw, forall_const, Bool.not_eq_true', decide_eq_true_eq, decide_eq_false_iff_not])
structure Txt (w : World) (K : PySem.W.Frag) (mg : Str → Option Value) (a_is_integer a_is_number a_is_name a_are_rows a_texts a_needed a_fits a_is_of a_inner a_flat a_names_in a_bare a_named a_law_deal a_law_draw a_law_pick a_law_words a_law_kinds a_law_put a_law_ask a_law_count a_law_rows a_law_ask_text a_law_lines a_law_all_lines a_law_ask_of a_law_row_of a_law_deed a_law_begun a_law_alike a_law a_NoRow_init a_InvalidRow_init a_Put_init a_Put_eq a_Put_str a_If_init a_If_eq a_If_str a_Times_init a_Times_eq a_Times_str a_Stop_eq a_Stop_str a_Ask_init a_Ask_eq a_Ask_str a_Not_init a_Not_eq a_Not_str a_Program_init a_Program_str a_Sheet_init a_Sheet_drop a_Sheet_made a_Sheet_len a_Sheet_getitem a_Sheet_setitem a_Sheet_iadd a_NoRow a_InvalidRow a_Put a_If a_Times a_Stop a_Ask a_Not a_Row a_Test a_Program a_Sheet a_DEEDS a_SIGNS a_WORDS a_If_init_d0 a_Program_init_d0 a_Sheet_init_d0 : Addr) (d_is_integer d_is_number d_is_name d_are_rows d_texts d_needed d_fits d_is_of d_inner d_flat d_names_in d_bare d_named d_law_deal d_law_draw d_law_pick d_law_words d_law_kinds d_law_put d_law_ask d_law_count d_law_rows d_law_ask_text d_law_lines d_law_all_lines d_law_ask_of d_law_row_of d_law_deed d_law_begun d_law_alike d_law d_NoRow_init d_InvalidRow_init d_Put_init d_Put_eq d_Put_str d_If_init d_If_eq d_If_str d_Times_init d_Times_eq d_Times_str d_Stop_eq d_Stop_str d_Ask_init d_Ask_eq d_Ask_str d_Not_init d_Not_eq d_Not_str d_Program_init d_Program_str d_Sheet_init d_Sheet_drop d_Sheet_made d_Sheet_len d_Sheet_getitem d_Sheet_setitem d_Sheet_iadd : FuncData) : Prop where
  F_is_integer : Fun K "is_integer" "is_integer" s_is_integer a_is_integer d_is_integer
  b_is_integer : Binds K d_is_integer ["value"] []
  g_is_integer : mg "is_integer" = some (.ref a_is_integer)
  F_is_number : Fun K "is_number" "is_number" s_is_number a_is_number d_is_number
  b_is_number : Binds K d_is_number ["value"] []
  g_is_number : mg "is_number" = some (.ref a_is_number)
  F_is_name : Fun K "is_name" "is_name" s_is_name a_is_name d_is_name
  b_is_name : Binds K d_is_name ["value"] []
  g_is_name : mg "is_name" = some (.ref a_is_name)
  F_are_rows : Fun K "are_rows" "are_rows" s_are_rows a_are_rows d_are_rows
  b_are_rows : Binds K d_are_rows ["value"] []
  g_are_rows : mg "are_rows" = some (.ref a_are_rows)
  F_texts : Fun K "texts" "texts" s_texts a_texts d_texts
  b_texts : Binds K d_texts ["rows"] []
  g_texts : mg "texts" = some (.ref a_texts)
  F_needed : Fun K "needed" "needed" s_needed a_needed d_needed
  b_needed : Binds K d_needed ["deed", "many"] []
  g_needed : mg "needed" = some (.ref a_needed)
  F_fits : Fun K "_fits" "_fits" s_fits a_fits d_fits
  b_fits : Binds K d_fits ["deed", "given"] []
  g_fits : mg "_fits" = some (.ref a_fits)
  F_is_of : Fun K "_is_of" "_is_of" s_is_of a_is_of d_is_of
  b_is_of : Binds K d_is_of ["kind", "value"] []
  g_is_of : mg "_is_of" = some (.ref a_is_of)
  F_inner : Fun K "inner" "inner" s_inner a_inner d_inner
  b_inner : Binds K d_inner ["row"] []
  g_inner : mg "inner" = some (.ref a_inner)
  F_flat : Fun K "flat" "flat" s_flat a_flat d_flat
  b_flat : Binds K d_flat ["rows"] []
  g_flat : mg "flat" = some (.ref a_flat)
  F_names_in : Fun K "names_in" "names_in" s_names_in a_names_in d_names_in
  b_names_in : Binds K d_names_in ["rows"] []
  g_names_in : mg "names_in" = some (.ref a_names_in)
  F_bare : Fun K "bare" "bare" s_bare a_bare d_bare
  b_bare : Binds K d_bare ["test"] []
  g_bare : mg "bare" = some (.ref a_bare)
  F_named : Fun K "_named" "_named" s_named a_named d_named
  b_named : Binds K d_named ["row"] []
  g_named : mg "_named" = some (.ref a_named)
  F_law_deal : Fun K "_law_deal" "_law_deal" s_law_deal a_law_deal d_law_deal
  b_law_deal : Binds K d_law_deal ["_law_script", "_law_radix"] []
  g_law_deal : mg "_law_deal" = some (.ref a_law_deal)
  F_law_draw : Fun K "_law_draw" "_law_draw" s_law_draw a_law_draw d_law_draw
  b_law_draw : Binds K d_law_draw ["_law_deal_here", "_law_amount"] []
  g_law_draw : mg "_law_draw" = some (.ref a_law_draw)
  F_law_pick : Fun K "_law_pick" "_law_pick" s_law_pick a_law_pick d_law_pick
  b_law_pick : Binds K d_law_pick ["_law_deal_here", "_law_some"] []
  g_law_pick : mg "_law_pick" = some (.ref a_law_pick)
  F_law_words : Fun K "_law_words" "_law_words" s_law_words a_law_words d_law_words
  b_law_words : Binds K d_law_words ["_law_deal_here", "_law_amount"] []
  g_law_words : mg "_law_words" = some (.ref a_law_words)
  F_law_kinds : Fun K "_law_kinds" "_law_kinds" s_law_kinds a_law_kinds d_law_kinds
  b_law_kinds : Binds K d_law_kinds [] []
  g_law_kinds : mg "_law_kinds" = some (.ref a_law_kinds)
  F_law_put : Fun K "_law_put" "_law_put" s_law_put a_law_put d_law_put
  b_law_put : Binds K d_law_put ["_law_deal_here", "_law_names", "_law_most"] []
  g_law_put : mg "_law_put" = some (.ref a_law_put)
  F_law_ask : Fun K "_law_ask" "_law_ask" s_law_ask a_law_ask d_law_ask
  b_law_ask : Binds K d_law_ask ["_law_deal_here", "_law_names", "_law_down"] []
  g_law_ask : mg "_law_ask" = some (.ref a_law_ask)
  F_law_count : Fun K "_law_count" "_law_count" s_law_count a_law_count d_law_count
  b_law_count : Binds K d_law_count ["_law_row"] []
  g_law_count : mg "_law_count" = some (.ref a_law_count)
  F_law_rows : Fun K "_law_rows" "_law_rows" s_law_rows a_law_rows d_law_rows
  b_law_rows : Binds K d_law_rows ["_law_deal_here", "_law_names", "_law_room", "_law_down", "_law_most"] []
  g_law_rows : mg "_law_rows" = some (.ref a_law_rows)
  F_law_ask_text : Fun K "_law_ask_text" "_law_ask_text" s_law_ask_text a_law_ask_text d_law_ask_text
  b_law_ask_text : Binds K d_law_ask_text ["_law_test"] []
  g_law_ask_text : mg "_law_ask_text" = some (.ref a_law_ask_text)
  F_law_lines : Fun K "_law_lines" "_law_lines" s_law_lines a_law_lines d_law_lines
  b_law_lines : Binds K d_law_lines ["_law_row"] []
  g_law_lines : mg "_law_lines" = some (.ref a_law_lines)
  F_law_all_lines : Fun K "_law_all_lines" "_law_all_lines" s_law_all_lines a_law_all_lines d_law_all_lines
  b_law_all_lines : Binds K d_law_all_lines ["_law_rows_here"] []
  g_law_all_lines : mg "_law_all_lines" = some (.ref a_law_all_lines)
  F_law_ask_of : Fun K "_law_ask_of" "_law_ask_of" s_law_ask_of a_law_ask_of d_law_ask_of
  b_law_ask_of : Binds K d_law_ask_of ["_law_test"] []
  g_law_ask_of : mg "_law_ask_of" = some (.ref a_law_ask_of)
  F_law_row_of : Fun K "_law_row_of" "_law_row_of" s_law_row_of a_law_row_of d_law_row_of
  b_law_row_of : Binds K d_law_row_of ["_law_row"] []
  g_law_row_of : mg "_law_row_of" = some (.ref a_law_row_of)
  F_law_deed : Fun K "_law_deed" "_law_deed" s_law_deed a_law_deed d_law_deed
  b_law_deed : Binds K d_law_deed ["_law_sheet", "_law_form", "_law_at", "_law_row"] []
  g_law_deed : mg "_law_deed" = some (.ref a_law_deed)
  F_law_begun : Fun K "_law_begun" "_law_begun" s_law_begun a_law_begun d_law_begun
  b_law_begun : Binds K d_law_begun ["_law_thing"] []
  g_law_begun : mg "_law_begun" = some (.ref a_law_begun)
  F_law_alike : Fun K "_law_alike" "_law_alike" s_law_alike a_law_alike d_law_alike
  b_law_alike : Binds K d_law_alike ["_law_sheet", "_law_models"] []
  g_law_alike : mg "_law_alike" = some (.ref a_law_alike)
  F_law : Fun K "law" "law" s_law a_law d_law
  b_law : Binds K d_law ["_law_script"] []
  g_law : mg "law" = some (.ref a_law)
  F_NoRow_init : Fun K "__init__" "NoRow.__init__" s_NoRow_init a_NoRow_init d_NoRow_init
  b_NoRow_init : Binds K d_NoRow_init ["self", "at"] []
  F_InvalidRow_init : Fun K "__init__" "InvalidRow.__init__" s_InvalidRow_init a_InvalidRow_init d_InvalidRow_init
  b_InvalidRow_init : Binds K d_InvalidRow_init ["self", "word"] []
  F_Put_init : Fun K "__init__" "Put.__init__" s_Put_init a_Put_init d_Put_init
  F_Put_eq : Fun K "__eq__" "Put.__eq__" s_Put_eq a_Put_eq d_Put_eq
  b_Put_eq : Binds K d_Put_eq ["self", "other"] []
  F_Put_str : Fun K "__str__" "Put.__str__" s_Put_str a_Put_str d_Put_str
  b_Put_str : Binds K d_Put_str ["self"] []
  F_If_init : FunD K "__init__" "If.__init__" (defArgs s_If_init) (defBody s_If_init) (defScope s_If_init) [.ref a_If_init_d0] [] a_If_init d_If_init
  b_If_init : Binds K d_If_init ["self", "test", "rows", "others"] []
  bd_If_init : Binds K d_If_init ["self", "test", "rows", "others"] [.ref a_If_init_d0]
  S_If_init_d0 : ∀ H, SqT K H a_If_init_d0 []
  F_If_eq : Fun K "__eq__" "If.__eq__" s_If_eq a_If_eq d_If_eq
  b_If_eq : Binds K d_If_eq ["self", "other"] []
  F_If_str : Fun K "__str__" "If.__str__" s_If_str a_If_str d_If_str
  b_If_str : Binds K d_If_str ["self"] []
  F_Times_init : Fun K "__init__" "Times.__init__" s_Times_init a_Times_init d_Times_init
  b_Times_init : Binds K d_Times_init ["self", "count", "rows"] []
  F_Times_eq : Fun K "__eq__" "Times.__eq__" s_Times_eq a_Times_eq d_Times_eq
  b_Times_eq : Binds K d_Times_eq ["self", "other"] []
  F_Times_str : Fun K "__str__" "Times.__str__" s_Times_str a_Times_str d_Times_str
  b_Times_str : Binds K d_Times_str ["self"] []
  F_Stop_eq : Fun K "__eq__" "Stop.__eq__" s_Stop_eq a_Stop_eq d_Stop_eq
  b_Stop_eq : Binds K d_Stop_eq ["self", "other"] []
  F_Stop_str : Fun K "__str__" "Stop.__str__" s_Stop_str a_Stop_str d_Stop_str
  b_Stop_str : Binds K d_Stop_str ["self"] []
  F_Ask_init : Fun K "__init__" "Ask.__init__" s_Ask_init a_Ask_init d_Ask_init
  F_Ask_eq : Fun K "__eq__" "Ask.__eq__" s_Ask_eq a_Ask_eq d_Ask_eq
  b_Ask_eq : Binds K d_Ask_eq ["self", "other"] []
  F_Ask_str : Fun K "__str__" "Ask.__str__" s_Ask_str a_Ask_str d_Ask_str
  b_Ask_str : Binds K d_Ask_str ["self"] []
  F_Not_init : Fun K "__init__" "Not.__init__" s_Not_init a_Not_init d_Not_init
  b_Not_init : Binds K d_Not_init ["self", "test"] []
  F_Not_eq : Fun K "__eq__" "Not.__eq__" s_Not_eq a_Not_eq d_Not_eq
  b_Not_eq : Binds K d_Not_eq ["self", "other"] []
  F_Not_str : Fun K "__str__" "Not.__str__" s_Not_str a_Not_str d_Not_str
  b_Not_str : Binds K d_Not_str ["self"] []
  F_Program_init : FunD K "__init__" "Program.__init__" (defArgs s_Program_init) (defBody s_Program_init) (defScope s_Program_init) [.ref a_Program_init_d0] [] a_Program_init d_Program_init
  b_Program_init : Binds K d_Program_init ["self", "rows"] []
  bd_Program_init : Binds K d_Program_init ["self", "rows"] [.ref a_Program_init_d0]
  S_Program_init_d0 : ∀ H, SqT K H a_Program_init_d0 []
  F_Program_str : Fun K "__str__" "Program.__str__" s_Program_str a_Program_str d_Program_str
  b_Program_str : Binds K d_Program_str ["self"] []
  F_Sheet_init : FunD K "__init__" "Sheet.__init__" (defArgs s_Sheet_init) (defBody s_Sheet_init) (defScope s_Sheet_init) [.ref a_Sheet_init_d0] [] a_Sheet_init d_Sheet_init
  b_Sheet_init : Binds K d_Sheet_init ["self", "rows"] []
  bd_Sheet_init : Binds K d_Sheet_init ["self", "rows"] [.ref a_Sheet_init_d0]
  S_Sheet_init_d0 : ∀ H, SqT K H a_Sheet_init_d0 []
  F_Sheet_drop : Fun K "drop" "Sheet.drop" s_Sheet_drop a_Sheet_drop d_Sheet_drop
  b_Sheet_drop : Binds K d_Sheet_drop ["self", "at"] []
  F_Sheet_made : Fun K "made" "Sheet.made" s_Sheet_made a_Sheet_made d_Sheet_made
  b_Sheet_made : Binds K d_Sheet_made ["self"] []
  F_Sheet_len : Fun K "__len__" "Sheet.__len__" s_Sheet_len a_Sheet_len d_Sheet_len
  b_Sheet_len : Binds K d_Sheet_len ["self"] []
  F_Sheet_getitem : Fun K "__getitem__" "Sheet.__getitem__" s_Sheet_getitem a_Sheet_getitem d_Sheet_getitem
  b_Sheet_getitem : Binds K d_Sheet_getitem ["self", "at"] []
  F_Sheet_setitem : Fun K "__setitem__" "Sheet.__setitem__" s_Sheet_setitem a_Sheet_setitem d_Sheet_setitem
  b_Sheet_setitem : Binds K d_Sheet_setitem ["self", "at", "worth"] []
  F_Sheet_iadd : Fun K "__iadd__" "Sheet.__iadd__" s_Sheet_iadd a_Sheet_iadd d_Sheet_iadd
  b_Sheet_iadd : Binds K d_Sheet_iadd ["self", "other"] []
  E_NoRow : ErrR K mg "NoRow" "at" a_NoRow a_NoRow_init
  E_InvalidRow : ErrR K mg "InvalidRow" "word" a_InvalidRow a_InvalidRow_init
  kx_NoRow_InvalidRow : PySem.W.exmOne K (.ref a_NoRow) (.ref a_InvalidRow) = some false
  kx_InvalidRow_NoRow : PySem.W.exmOne K (.ref a_InvalidRow) (.ref a_NoRow) = some false
  g_LETTERS : ∃ u, mg "LETTERS" = some u ∧ RelV (.str "abcdefghijklmnopqrstuvwxyz") u
  g_LONGEST_NAME : ∃ u, mg "LONGEST_NAME" = some u ∧ RelV (.int 4) u
  g_DEEDS : ∃ u, mg "DEEDS" = some u ∧ RelV (.ref a_DEEDS) u
  g_SIGNS : ∃ u, mg "SIGNS" = some u ∧ RelV (.ref a_SIGNS) u
  g_WORDS : ∃ u, mg "WORDS" = some u ∧ RelV (.ref a_WORDS) u
  S_SIGNS : ∀ H, SqT K H a_SIGNS [.str "+", .str "-", .str "*", .str "//", .str "**"]
  D_DEEDS : ∃ es n, KDict K w a_DEEDS es n
  I_DEEDS_0 : ∃ t, PySem.W.nsIn K a_DEEDS "figures" = some (some (.ref t)) ∧ ∀ H, SqT K H t [.str "number"]
  I_DEEDS_1 : ∃ t, PySem.W.nsIn K a_DEEDS "number" = some (some (.ref t)) ∧ ∀ H, SqT K H t [.str "number"]
  I_DEEDS_2 : ∃ t, PySem.W.nsIn K a_DEEDS "base" = some (some (.ref t)) ∧ ∀ H, SqT K H t []
  I_DEEDS_3 : ∃ t, PySem.W.nsIn K a_DEEDS "let" = some (some (.ref t)) ∧ ∀ H, SqT K H t [.str "name"]
  I_DEEDS_4 : ∃ t, PySem.W.nsIn K a_DEEDS "+" = some (some (.ref t)) ∧ ∀ H, SqT K H t [.str "name", .str "name"]
  I_DEEDS_5 : ∃ t, PySem.W.nsIn K a_DEEDS "-" = some (some (.ref t)) ∧ ∀ H, SqT K H t [.str "name", .str "name"]
  I_DEEDS_6 : ∃ t, PySem.W.nsIn K a_DEEDS "*" = some (some (.ref t)) ∧ ∀ H, SqT K H t [.str "name", .str "name"]
  I_DEEDS_7 : ∃ t, PySem.W.nsIn K a_DEEDS "//" = some (some (.ref t)) ∧ ∀ H, SqT K H t [.str "name", .str "name"]
  I_DEEDS_8 : ∃ t, PySem.W.nsIn K a_DEEDS "rest" = some (some (.ref t)) ∧ ∀ H, SqT K H t [.str "name", .str "name"]
  I_DEEDS_9 : ∃ t, PySem.W.nsIn K a_DEEDS "**" = some (some (.ref t)) ∧ ∀ H, SqT K H t [.str "name", .str "number"]
  I_DEEDS_10 : ∃ t, PySem.W.nsIn K a_DEEDS "turned" = some (some (.ref t)) ∧ ∀ H, SqT K H t [.str "name"]
  I_DEEDS_11 : ∃ t, PySem.W.nsIn K a_DEEDS "least" = some (some (.ref t)) ∧ ∀ H, SqT K H t [.str "name"]
  I_DEEDS_12 : ∃ t, PySem.W.nsIn K a_DEEDS "greatest" = some (some (.ref t)) ∧ ∀ H, SqT K H t [.str "name"]
  I_DEEDS_13 : ∃ t, PySem.W.nsIn K a_DEEDS "sum" = some (some (.ref t)) ∧ ∀ H, SqT K H t [.str "name"]
  I_DEEDS_14 : ∃ t, PySem.W.nsIn K a_DEEDS "many" = some (some (.ref t)) ∧ ∀ H, SqT K H t [.str "name"]
  I_DEEDS_15 : ∃ t, PySem.W.nsIn K a_DEEDS "root" = some (some (.ref t)) ∧ ∀ H, SqT K H t [.str "name"]
  I_DEEDS_16 : ∃ t, PySem.W.nsIn K a_DEEDS "figure" = some (some (.ref t)) ∧ ∀ H, SqT K H t [.str "number", .str "name"]
  I_DEEDS_17 : ∃ t, PySem.W.nsIn K a_DEEDS "first" = some (some (.ref t)) ∧ ∀ H, SqT K H t [.str "number", .str "name"]
  I_DEEDS_18 : ∃ t, PySem.W.nsIn K a_DEEDS "last" = some (some (.ref t)) ∧ ∀ H, SqT K H t [.str "number", .str "name"]
  I_DEEDS_19 : ∃ t, PySem.W.nsIn K a_DEEDS "joined" = some (some (.ref t)) ∧ ∀ H, SqT K H t [.str "name", .str "name"]
  I_DEEDS_20 : ∃ t, PySem.W.nsIn K a_DEEDS "common" = some (some (.ref t)) ∧ ∀ H, SqT K H t [.str "name", .str "name"]
  I_DEEDS_21 : ∃ t, PySem.W.nsIn K a_DEEDS "lesser" = some (some (.ref t)) ∧ ∀ H, SqT K H t [.str "name", .str "name"]
  D_WORDS : ∃ es n, KDict K w a_WORDS es n
  I_WORDS_0 : ∃ t, PySem.W.nsIn K a_WORDS "same" = some (some (.int 2 t))
  I_WORDS_1 : ∃ t, PySem.W.nsIn K a_WORDS "less" = some (some (.int 2 t))
  I_WORDS_2 : ∃ t, PySem.W.nsIn K a_WORDS "divides" = some (some (.int 2 t))
  I_WORDS_3 : ∃ t, PySem.W.nsIn K a_WORDS "mirrored" = some (some (.int 1 t))
  I_WORDS_4 : ∃ t, PySem.W.nsIn K a_WORDS "unlike" = some (some (.int 1 t))
  kits : kitO K ⟨a_Put, a_If, a_Times, a_Stop, a_Ask, a_Not⟩ a_Row a_Test = true
  oc_Put : OC K a_Put
  ne_Put : NeC K a_Put
  nF_Put_name : NoAttr K a_Put "name"
  nF_Put_deed : NoAttr K a_Put "deed"
  nF_Put_given : NoAttr K a_Put "given"
  mt_Put_eq : MethC K "__eq__" a_Put a_Put_eq
  mt_Put_str : MethC K "__str__" a_Put a_Put_str
  M_Put : Mk K a_Put a_Put_init
  oc_If : OC K a_If
  ne_If : NeC K a_If
  nF_If_test : NoAttr K a_If "test"
  nF_If_rows : NoAttr K a_If "rows"
  nF_If_others : NoAttr K a_If "others"
  mt_If_eq : MethC K "__eq__" a_If a_If_eq
  mt_If_str : MethC K "__str__" a_If a_If_str
  M_If : Mk K a_If a_If_init
  oc_Times : OC K a_Times
  ne_Times : NeC K a_Times
  nF_Times_count : NoAttr K a_Times "count"
  nF_Times_rows : NoAttr K a_Times "rows"
  mt_Times_eq : MethC K "__eq__" a_Times a_Times_eq
  mt_Times_str : MethC K "__str__" a_Times a_Times_str
  M_Times : Mk K a_Times a_Times_init
  oc_Stop : OC K a_Stop
  ne_Stop : NeC K a_Stop
  mt_Stop_eq : MethC K "__eq__" a_Stop a_Stop_eq
  mt_Stop_str : MethC K "__str__" a_Stop a_Stop_str
  N_Stop : New0 K a_Stop
  oc_Ask : OC K a_Ask
  ne_Ask : NeC K a_Ask
  nF_Ask_word : NoAttr K a_Ask "word"
  nF_Ask_names : NoAttr K a_Ask "names"
  mt_Ask_eq : MethC K "__eq__" a_Ask a_Ask_eq
  mt_Ask_str : MethC K "__str__" a_Ask a_Ask_str
  M_Ask : Mk K a_Ask a_Ask_init
  oc_Not : OC K a_Not
  ne_Not : NeC K a_Not
  nF_Not_test : NoAttr K a_Not "test"
  mt_Not_eq : MethC K "__eq__" a_Not a_Not_eq
  mt_Not_str : MethC K "__str__" a_Not a_Not_str
  M_Not : Mk K a_Not a_Not_init
  oc_Row : OC K a_Row
  oc_Test : OC K a_Test
  oc_Program : OC K a_Program
  kz_Program_Row : PySem.W.kitOne K (.ref a_Program) (.ref a_Row) = some false
  kl_Program_list : PySem.W.kitOne K (.ref a_Program) (.type "list") = some false
  kl_Program_tuple : PySem.W.kitOne K (.ref a_Program) (.type "tuple") = some false
  nF_Program_rows : NoAttr K a_Program "rows"
  nF_Program_names : NoAttr K a_Program "names"
  mt_Program_str : MethC K "__str__" a_Program a_Program_str
  M_Program : Mk K a_Program a_Program_init
  oc_Sheet : OC K a_Sheet
  kz_Sheet_Row : PySem.W.kitOne K (.ref a_Sheet) (.ref a_Row) = some false
  kz_Sheet_Test : PySem.W.kitOne K (.ref a_Sheet) (.ref a_Test) = some false
  nF_Sheet_held : NoAttr K a_Sheet "held"
  mt_Sheet_len : MethC K "__len__" a_Sheet a_Sheet_len
  mt_Sheet_getitem : GetC K a_Sheet a_Sheet_getitem
  mt_Sheet_setitem : SetC K a_Sheet a_Sheet_setitem
  mt_Sheet_iadd : IOwn K a_Sheet a_Sheet_iadd
  mm_Sheet_drop : Meth K a_Sheet "drop" a_Sheet_drop
  mm_Sheet_made : Meth K a_Sheet "made" a_Sheet_made
  M_Sheet : Mk K a_Sheet a_Sheet_init
  g_Put : mg "Put" = some (.ref a_Put)
  g_If : mg "If" = some (.ref a_If)
  g_Times : mg "Times" = some (.ref a_Times)
  g_Stop : mg "Stop" = some (.ref a_Stop)
  g_Ask : mg "Ask" = some (.ref a_Ask)
  g_Not : mg "Not" = some (.ref a_Not)
  g_Row : mg "Row" = some (.ref a_Row)
  g_Test : mg "Test" = some (.ref a_Test)
  g_Program : mg "Program" = some (.ref a_Program)
  g_Sheet : mg "Sheet" = some (.ref a_Sheet)
  z_abs : mg "abs" = none
  z_all : mg "all" = none
  z_bool : mg "bool" = none
  z_enumerate : mg "enumerate" = none
  z_int : mg "int" = none
  z_isinstance : mg "isinstance" = none
  z_len : mg "len" = none
  z_list : mg "list" = none
  z_max : mg "max" = none
  z_range : mg "range" = none
  z_sorted : mg "sorted" = none
  z_str : mg "str" = none
  z_sum : mg "sum" = none
  z_tuple : mg "tuple" = none
  z_zip : mg "zip" = none
section
variable {P : Program} {w : World} {K : PySem.W.Frag} {mg : Str → Option Value} {base : Heap}
variable {a_is_integer a_is_number a_is_name a_are_rows a_texts a_needed a_fits a_is_of a_inner a_flat a_names_in a_bare a_named a_law_deal a_law_draw a_law_pick a_law_words a_law_kinds a_law_put a_law_ask a_law_count a_law_rows a_law_ask_text a_law_lines a_law_all_lines a_law_ask_of a_law_row_of a_law_deed a_law_begun a_law_alike a_law a_NoRow_init a_InvalidRow_init a_Put_init a_Put_eq a_Put_str a_If_init a_If_eq a_If_str a_Times_init a_Times_eq a_Times_str a_Stop_eq a_Stop_str a_Ask_init a_Ask_eq a_Ask_str a_Not_init a_Not_eq a_Not_str a_Program_init a_Program_str a_Sheet_init a_Sheet_drop a_Sheet_made a_Sheet_len a_Sheet_getitem a_Sheet_setitem a_Sheet_iadd a_NoRow a_InvalidRow a_Put a_If a_Times a_Stop a_Ask a_Not a_Row a_Test a_Program a_Sheet a_DEEDS a_SIGNS a_WORDS a_If_init_d0 a_Program_init_d0 a_Sheet_init_d0 : Addr} {d_is_integer d_is_number d_is_name d_are_rows d_texts d_needed d_fits d_is_of d_inner d_flat d_names_in d_bare d_named d_law_deal d_law_draw d_law_pick d_law_words d_law_kinds d_law_put d_law_ask d_law_count d_law_rows d_law_ask_text d_law_lines d_law_all_lines d_law_ask_of d_law_row_of d_law_deed d_law_begun d_law_alike d_law d_NoRow_init d_InvalidRow_init d_Put_init d_Put_eq d_Put_str d_If_init d_If_eq d_If_str d_Times_init d_Times_eq d_Times_str d_Stop_eq d_Stop_str d_Ask_init d_Ask_eq d_Ask_str d_Not_init d_Not_eq d_Not_str d_Program_init d_Program_str d_Sheet_init d_Sheet_drop d_Sheet_made d_Sheet_len d_Sheet_getitem d_Sheet_setitem d_Sheet_iadd : FuncData}
def isInt : V → Bool
  | .int _ => true
  | _ => false
def kindOk : Option String → Bool
  | some t => t == "int" || t == "bool" || t == "NoneType" || t == "str" || t == "list" || t == "tuple"
  | none => false
theorem isInt_of {H : Hp} {x : V} {t : String} (h : vty H x = some t) : isInt x = decide (t = "int") := by
  unfold vty at h
  split at h
  · cases h; rfl
  · cases h; rfl
  · cases h; rfl
  · cases h; rfl
  · split at h
    · cases h; rfl
    · cases h; rfl
    · cases h
  · cases h
/-- a value of the plain kinds -/
def sp_is_integer : Sp
  | [x], H, Q, _ => kindOk (vty H x) = true ∧ Q (.bl (isInt x)) H
  | _, _, _, _ => False
theorem ok_is_integer (T : Txt w K mg a_is_integer a_is_number a_is_name a_are_rows a_texts a_needed a_fits a_is_of a_inner a_flat a_names_in a_bare a_named a_law_deal a_law_draw a_law_pick a_law_words a_law_kinds a_law_put a_law_ask a_law_count a_law_rows a_law_ask_text a_law_lines a_law_all_lines a_law_ask_of a_law_row_of a_law_deed a_law_begun a_law_alike a_law a_NoRow_init a_InvalidRow_init a_Put_init a_Put_eq a_Put_str a_If_init a_If_eq a_If_str a_Times_init a_Times_eq a_Times_str a_Stop_eq a_Stop_str a_Ask_init a_Ask_eq a_Ask_str a_Not_init a_Not_eq a_Not_str a_Program_init a_Program_str a_Sheet_init a_Sheet_drop a_Sheet_made a_Sheet_len a_Sheet_getitem a_Sheet_setitem a_Sheet_iadd a_NoRow a_InvalidRow a_Put a_If a_Times a_Stop a_Ask a_Not a_Row a_Test a_Program a_Sheet a_DEEDS a_SIGNS a_WORDS a_If_init_d0 a_Program_init_d0 a_Sheet_init_d0 d_is_integer d_is_number d_is_name d_are_rows d_texts d_needed d_fits d_is_of d_inner d_flat d_names_in d_bare d_named d_law_deal d_law_draw d_law_pick d_law_words d_law_kinds d_law_put d_law_ask d_law_count d_law_rows d_law_ask_text d_law_lines d_law_all_lines d_law_ask_of d_law_row_of d_law_deed d_law_begun d_law_alike d_law d_NoRow_init d_InvalidRow_init d_Put_init d_Put_eq d_Put_str d_If_init d_If_eq d_If_str d_Times_init d_Times_eq d_Times_str d_Stop_eq d_Stop_str d_Ask_init d_Ask_eq d_Ask_str d_Not_init d_Not_eq d_Not_str d_Program_init d_Program_str d_Sheet_init d_Sheet_drop d_Sheet_made d_Sheet_len d_Sheet_getitem d_Sheet_setitem d_Sheet_iadd) : FnOk P w K mg base CX0 1 a_is_integer d_is_integer ["value"] sp_is_integer := by
  refine T.F_is_integer.ok sc_is_integer (fun vs H Q E h => ?_) (fun cdv A outer s H vs Q E hr h => ?_)
  · unfold sp_is_integer at h; split at h; rfl; exact h.elim
  · unfold sp_is_integer at h; split at h
    case h_2 => exact h.elim
    rename_i x
    obtain ⟨hk, h⟩ := h
    refine ⟨_, (pss_one (ps_ret (pe_and (pe_callB call_isiV (by rfl) T.z_isinstance (by decide +kernel) (pa_cons (pv 0) (pa_cons (pe_bltn (v := .ty "int") (by rfl) T.z_int (by decide +kernel) rfl) pa_nil))) (pe_one (pe_not (pe_callB call_isiV (by rfl) T.z_isinstance (by decide +kernel) (pa_cons (pv 0) (pa_cons (pe_bltn (v := .ty "bool") (by rfl) T.z_bool (by decide +kernel) rfl) pa_nil)))))))), ?_⟩
    walk_at "st"
    walk_at "vc"
    cases e : vty H x with
    | none => rw [e] at hk; cases hk
    | some t =>
      rw [e] at hk
      rw [isInt_of e] at h
      have h6 : ((((t = "int" ∨ t = "bool") ∨ t = "NoneType") ∨ t = "str") ∨ t = "list") ∨ t = "tuple" := by simpa [kindOk] using hk
      rcases h6 with ((((rfl | rfl) | rfl) | rfl) | rfl) | rfl
      · exact ⟨_, rfl, _, kb1, by rw [if_pos rfl]; exact ⟨_, rfl, _, kb2, h⟩⟩
      · exact ⟨_, rfl, _, kb3, by rw [if_pos rfl]; exact ⟨_, rfl, _, kb4, h⟩⟩
      · exact ⟨_, rfl, _, kb5, by rw [if_neg Bool.false_ne_true]; exact h⟩
      · exact ⟨_, rfl, _, kb6, by rw [if_neg Bool.false_ne_true]; exact h⟩
      · exact ⟨_, rfl, _, kb7, by rw [if_neg Bool.false_ne_true]; exact h⟩
      · exact ⟨_, rfl, _, kb8, by rw [if_neg Bool.false_ne_true]; exact h⟩
def sp_is_number : Sp
  | [.int n], H, Q, _ => Q (.bl (decide (0 ≤ n))) H
  | _, _, _, _ => False
theorem ok_is_number (T : Txt w K mg a_is_integer a_is_number a_is_name a_are_rows a_texts a_needed a_fits a_is_of a_inner a_flat a_names_in a_bare a_named a_law_deal a_law_draw a_law_pick a_law_words a_law_kinds a_law_put a_law_ask a_law_count a_law_rows a_law_ask_text a_law_lines a_law_all_lines a_law_ask_of a_law_row_of a_law_deed a_law_begun a_law_alike a_law a_NoRow_init a_InvalidRow_init a_Put_init a_Put_eq a_Put_str a_If_init a_If_eq a_If_str a_Times_init a_Times_eq a_Times_str a_Stop_eq a_Stop_str a_Ask_init a_Ask_eq a_Ask_str a_Not_init a_Not_eq a_Not_str a_Program_init a_Program_str a_Sheet_init a_Sheet_drop a_Sheet_made a_Sheet_len a_Sheet_getitem a_Sheet_setitem a_Sheet_iadd a_NoRow a_InvalidRow a_Put a_If a_Times a_Stop a_Ask a_Not a_Row a_Test a_Program a_Sheet a_DEEDS a_SIGNS a_WORDS a_If_init_d0 a_Program_init_d0 a_Sheet_init_d0 d_is_integer d_is_number d_is_name d_are_rows d_texts d_needed d_fits d_is_of d_inner d_flat d_names_in d_bare d_named d_law_deal d_law_draw d_law_pick d_law_words d_law_kinds d_law_put d_law_ask d_law_count d_law_rows d_law_ask_text d_law_lines d_law_all_lines d_law_ask_of d_law_row_of d_law_deed d_law_begun d_law_alike d_law d_NoRow_init d_InvalidRow_init d_Put_init d_Put_eq d_Put_str d_If_init d_If_eq d_If_str d_Times_init d_Times_eq d_Times_str d_Stop_eq d_Stop_str d_Ask_init d_Ask_eq d_Ask_str d_Not_init d_Not_eq d_Not_str d_Program_init d_Program_str d_Sheet_init d_Sheet_drop d_Sheet_made d_Sheet_len d_Sheet_getitem d_Sheet_setitem d_Sheet_iadd) : FnOk P w K mg base CX0 2 a_is_number d_is_number ["value"] sp_is_number := by
  have G_is_integer := ok_is_integer (P := P) (w := w) (base := base) T
  refine T.F_is_number.ok sc_is_number (fun vs H Q E h => ?_) (fun cdv A outer s H vs Q E hr h => ?_)
  · unfold sp_is_number at h; split at h; rfl; exact h.elim
  · unfold sp_is_number at h; split at h
    case h_2 => exact h.elim
    refine ⟨_, (pss_one (ps_ret (pe_and (pe_call G_is_integer (hr.mono (by decide)) (by rfl) T.g_is_integer T.F_is_integer.kp T.b_is_integer .nil pass0 (pa_cons (pv 0) pa_nil)) (pe_one (pe_cmpR op_ge (pv 0) pe_int (nomark _)))))), ?_⟩
    walk_at "st"
    walk_at "vc"
    simp only [sp_is_integer]
    walk_at "vc"
    exact ⟨by decide, by simpa only [isInt, if_true] using h⟩
def sp_law_deal : Sp
  | [.ref a, .int k], H, Q, _ => ∃ ns : List Int, SqL K H a (ns.map V.int) ∧ ns.length ≤ 63 ∧ 0 ≤ k ∧ k ≤ 63 ∧ ∀ d L H', Ex H H' → Deal3 d L H' → Q (.ref d) H'
  | _, _, _, _ => False
def C_d1 (p D : Addr) (ms : List Int) (H : Hp) : Nat → Hp → Prop := fun i H' => ∃ vs : List Int, H' D = some (.lst (vs.map V.int)) ∧ vs.length = i ∧ (∀ v ∈ vs, 0 ≤ v) ∧ Ex H H' ∧ H' p = some (.lst (ms.map V.int))
def C_d2 (c D : Addr) (ms : List Int) (H : Hp) : Nat → Hp → Prop := fun i H' => ∃ vs : List Int, H' D = some (.lst (vs.map V.int)) ∧ vs.length ≤ i ∧ (∀ v ∈ vs, 0 ≤ v) ∧ Ex H H' ∧ H' c = some (.lst (ms.map V.int))
def I_dl (a c : Addr) (k : Int) (H : Hp) : Nat → L2.St → Hp → Prop := fun i σ H' => H' = H ∧ ∃ z x, σ = [some (.ref a), some (.int k), some (.ref c), some (.int z), x] ∧ 0 ≤ z ∧ z < 2147483647
theorem ok_law_deal (T : Txt w K mg a_is_integer a_is_number a_is_name a_are_rows a_texts a_needed a_fits a_is_of a_inner a_flat a_names_in a_bare a_named a_law_deal a_law_draw a_law_pick a_law_words a_law_kinds a_law_put a_law_ask a_law_count a_law_rows a_law_ask_text a_law_lines a_law_all_lines a_law_ask_of a_law_row_of a_law_deed a_law_begun a_law_alike a_law a_NoRow_init a_InvalidRow_init a_Put_init a_Put_eq a_Put_str a_If_init a_If_eq a_If_str a_Times_init a_Times_eq a_Times_str a_Stop_eq a_Stop_str a_Ask_init a_Ask_eq a_Ask_str a_Not_init a_Not_eq a_Not_str a_Program_init a_Program_str a_Sheet_init a_Sheet_drop a_Sheet_made a_Sheet_len a_Sheet_getitem a_Sheet_setitem a_Sheet_iadd a_NoRow a_InvalidRow a_Put a_If a_Times a_Stop a_Ask a_Not a_Row a_Test a_Program a_Sheet a_DEEDS a_SIGNS a_WORDS a_If_init_d0 a_Program_init_d0 a_Sheet_init_d0 d_is_integer d_is_number d_is_name d_are_rows d_texts d_needed d_fits d_is_of d_inner d_flat d_names_in d_bare d_named d_law_deal d_law_draw d_law_pick d_law_words d_law_kinds d_law_put d_law_ask d_law_count d_law_rows d_law_ask_text d_law_lines d_law_all_lines d_law_ask_of d_law_row_of d_law_deed d_law_begun d_law_alike d_law d_NoRow_init d_InvalidRow_init d_Put_init d_Put_eq d_Put_str d_If_init d_If_eq d_If_str d_Times_init d_Times_eq d_Times_str d_Stop_eq d_Stop_str d_Ask_init d_Ask_eq d_Ask_str d_Not_init d_Not_eq d_Not_str d_Program_init d_Program_str d_Sheet_init d_Sheet_drop d_Sheet_made d_Sheet_len d_Sheet_getitem d_Sheet_setitem d_Sheet_iadd) : FnOk P w K mg base CX0 1 a_law_deal d_law_deal ["_law_script", "_law_radix"] (sp_law_deal (K := K)) := by
  refine T.F_law_deal.ok sc_law_deal (fun vs H Q E h => ?_) (fun cdv A outer s H vs Q E hr h => ?_)
  · unfold sp_law_deal at h; split at h; rfl; exact h.elim
  unfold sp_law_deal at h; split at h
  case h_2 => exact h.elim
  rename_i a k
  obtain ⟨ns, hS, hl, k0, k1, q⟩ := h
  obtain ⟨ms, em, hm1, hm2⟩ := cut_ints ns (some k) (some 63)
  refine ⟨_, (pss_cons (ps_setLc (i := 2) (own := [("_law_cell", 4)]) (g := gName 4) (by rfl) sc_law_deal.nd rfl rfl (sw_true rfl rfl rfl (by decide +kernel)) (pi_list (pe_slice sl_listM (pv 0) (po_some (pv 1)) (po_some pe_int))) (blkOk_by (own := [("_law_cell", 4)]) (N := N_law_deal) (sc := defScope s_law_deal) (by decide +kernel)) (fun _ _ _ _ _ => (pg_name (i := 4) sc_law_deal.nd rfl (by first | exact .inl rfl | exact .inr rfl))) (fun _ _ _ _ _ => pts_nil) (fun _ _ _ _ _ => (pe_callB call_abs (by rfl) T.z_abs (by decide +kernel) (pa_cons (pv 4) pa_nil))))
      (pss_cons (ps_set (i := 3) sc_law_deal.nd rfl (by first | exact .inl rfl | exact .inr rfl) (pe_op op_add pe_int (pe_op op_mulX pe_int (pv 1))))
      (Evl.pss_cut (ps_for PassesOwn.never rfl (pi_list (pv 2)) (pg_name (i := 4) sc_law_deal.nd rfl (by first | exact .inl rfl | exact .inr rfl))
      (pss_one (ps_set (i := 3) sc_law_deal.nd rfl (by first | exact .inl rfl | exact .inr rfl) (pe_op op_mod (pe_callTy call_intM (by rfl) T.z_int (by decide +kernel) (pa_cons (pe_op op_add (pe_op op_add (pe_op op_mulX (pv 3) pe_int) (pe_op op_mod (pe_callTy call_intM (by rfl) T.z_int (by decide +kernel) (pa_cons (pv 4) pa_nil)) pe_int)) pe_int) pa_nil)) pe_int))))
      (pss_one (ps_ret (pe_lst (pa_cons (pe_revL (pe_lc (own := [("_law_cell", 4)]) (g := gName 4) (by rfl) sc_law_deal.nd (pi_list (pv 2)) (blkOk_by (own := [("_law_cell", 4)]) (N := N_law_deal) (sc := defScope s_law_deal) (by decide +kernel)) (fun _ _ _ _ _ => (pg_name (i := 4) sc_law_deal.nd rfl (by first | exact .inl rfl | exact .inr rfl))) (fun _ _ _ _ _ => (pts_one (pt_cmpR op_ge (pv 4) (pe_op op_pow pe_int pe_int) (nomark _)))) (fun _ _ _ _ _ => (pv 4)))) (pa_cons pe_int (pa_cons (pv 3) pa_nil))))))))), ?_⟩
  walk_at "st"
  refine ⟨_, rfl, _, rfl, _, rfl, _, rfl, _, hS, fun p hp => ⟨p, rfl, ⟨_, sq_of upd_same⟩, fun D hD => lc_list (xs := ms.map V.int) (C_d1 p D ms H) ?_ ?_ ?_ ?_⟩⟩
  · rw [em] at hD ⊢
    exact ⟨[], upd_same, rfl, fun v hv => (by cases hv), (Ex.new hp).trans (Ex.new hD), by rw [upd_ne (ne_of_none upd_same hD), upd_same]⟩
  · intro i H' _ h
    obtain ⟨vs, h1, h2, h3, h4, h5⟩ := h
    exact sq_of h5
  · intro i x H' hx h
    obtain ⟨vs, h1, h2, h3, h4, h5⟩ := h
    rw [List.getElem?_map] at hx
    obtain ⟨n, hn, rfl⟩ := Option.map_eq_some_iff.mp hx
    have hi : i < ms.length := (List.getElem?_eq_some_iff.mp hn).1
    rw [em] at hD
    have hDH : H D = none := (Ex.new hp).free hD
    have hDp : p ≠ D := ne_of_none upd_same hD
    walk_at "vc"
    have fin : ∀ z : Int, 0 ≤ z → C_d1 p D ms H (i + 1) (upd H' D (.lst (vs.map V.int ++ [.int z]))) := fun z hz =>
      ⟨vs ++ [z], by rw [upd_same, List.map_append]; rfl, by simp [h2], fun v hv => by
        rcases List.mem_append.mp hv with hv | hv
        · exact h3 v hv
        · rw [List.mem_singleton.mp hv]; exact hz, h4.mut hDH, by rw [upd_ne hDp]; exact h5⟩
    exact ⟨_, h1, sz_lt (by simp; omega), fin _ (by split <;> omega)⟩
  · intro H1 h
    obtain ⟨cs, h1, h2, h3, h4, h5⟩ := h
    have hcl : cs.length ≤ 63 := by rw [List.length_map] at h2; omega
    walk_at "vc"
    refine ⟨mulOk (by decide) (by decide) (by omega) (by omega), fun σ H' => H' = H1 ∧ ∃ z x, σ = [some (.ref a), some (.int k), some (.ref D), some (.int z), x] ∧ 0 ≤ z ∧ z < 2147483647, ?_, fun σ H' hm => ?_⟩
    · refine ⟨_, rfl, D, rfl, ⟨_, sq_of h1⟩, for_list (xs := cs.map V.int) (I_dl a D k H1) ⟨rfl, _, _, rfl, by omega, by omega⟩ (fun i σ H' _ hw => by rw [hw.1]; exact sq_of h1) (fun i x σ H' hx' hw => ?_) (fun σ H' hw => ?_)⟩
      · obtain ⟨rfl, z, y, rfl, z0, z1⟩ := hw
        rw [List.getElem?_map] at hx'
        obtain ⟨n, hn, rfl⟩ := Option.map_eq_some_iff.mp hx'
        walk_at "vc"
        exact ⟨mulOk (by omega) (by omega) (by decide) (by decide), by decide, by decide, rfl, _, _, rfl, Int.emod_nonneg _ (by decide), Int.emod_lt_of_pos _ (by decide)⟩
      · exact hw
    obtain ⟨rfl, z, x, rfl, z0, z1⟩ := hm
    refine ⟨_, rfl, D, rfl, ⟨_, sq_of h1⟩, fun D2 hD2 => lc_list (xs := cs.map V.int) (C_d2 D D2 cs H') ?_ ?_ ?_ ?_⟩
    · exact ⟨[], upd_same, Nat.le_refl _, fun v hv => (by cases hv), Ex.new hD2, by rw [upd_ne (ne_of_none h1 hD2)]; exact h1⟩
    · intro i H2 _ h
      obtain ⟨vs, g1, g2, g3, g4, g5⟩ := h
      exact sq_of g5
    · intro i x H2 hx h
      obtain ⟨vs, g1, g2, g3, g4, g5⟩ := h
      rw [List.getElem?_map] at hx
      obtain ⟨n, hn, rfl⟩ := Option.map_eq_some_iff.mp hx
      have hi : i < cs.length := (List.getElem?_eq_some_iff.mp hn).1
      walk_at "vc"
      refine ⟨powOk (by decide) (by decide) (by decide) (by decide), ite2 (fun hc => ?_) (fun hc => ⟨vs, g1, by omega, g3, g4, g5⟩)⟩
      refine ⟨_, g1, sz_lt (by simp; omega), vs ++ [n], by rw [upd_same, List.map_append]; rfl, by simp; omega, fun v hv => ?_, g4.mut hD2, by rw [upd_ne (ne_of_none h1 hD2)]; exact g5⟩
      rcases List.mem_append.mp hv with hv | hv
      · exact g3 v hv
      · rw [List.mem_singleton.mp hv]
        exact h3 n (List.mem_of_getElem? hn)
    · intro H2 h
      obtain ⟨vs, g1, g2, g3, g4, g5⟩ := h
      rw [List.length_map] at g2
      walk_at "vc"
      refine ⟨_, sq_of g1, fun r hr2 => ⟨sz_le (by simp), fun d hd => q d r _ ((h4.trans g4).trans ((Ex.new hr2).trans (Ex.new hd))) ⟨vs.reverse, 0, z, upd_same, by decide, ?_, fun c hc => g3 c (List.mem_reverse.mp hc), z0, z1, by simp; omega⟩⟩⟩
      rw [upd_ne (ne_of_none upd_same hd), upd_same, List.map_reverse]
def sp_law_draw : Sp
  | [.ref d, .int n], H, Q, _ => ∃ L, Deal3 d L H ∧ 0 < n ∧ n < 2 ^ 240 ∧ ∀ v H', 0 ≤ v → v < n → Mv3 d L H H' → Q (.int v) H'
  | _, _, _, _ => False
def I_dr (d L : Addr) (n : Int) (H : Hp) : Nat → L2.St → Hp → Prop := fun m σ H' => ∃ (cs : List Int) (c z : Int), σ = [some (.ref d), some (.int n), none] ∧ m = cs.length ∧ Deal3C d L cs c z H' ∧ Mv3 d L H H'
theorem ok_law_draw (T : Txt w K mg a_is_integer a_is_number a_is_name a_are_rows a_texts a_needed a_fits a_is_of a_inner a_flat a_names_in a_bare a_named a_law_deal a_law_draw a_law_pick a_law_words a_law_kinds a_law_put a_law_ask a_law_count a_law_rows a_law_ask_text a_law_lines a_law_all_lines a_law_ask_of a_law_row_of a_law_deed a_law_begun a_law_alike a_law a_NoRow_init a_InvalidRow_init a_Put_init a_Put_eq a_Put_str a_If_init a_If_eq a_If_str a_Times_init a_Times_eq a_Times_str a_Stop_eq a_Stop_str a_Ask_init a_Ask_eq a_Ask_str a_Not_init a_Not_eq a_Not_str a_Program_init a_Program_str a_Sheet_init a_Sheet_drop a_Sheet_made a_Sheet_len a_Sheet_getitem a_Sheet_setitem a_Sheet_iadd a_NoRow a_InvalidRow a_Put a_If a_Times a_Stop a_Ask a_Not a_Row a_Test a_Program a_Sheet a_DEEDS a_SIGNS a_WORDS a_If_init_d0 a_Program_init_d0 a_Sheet_init_d0 d_is_integer d_is_number d_is_name d_are_rows d_texts d_needed d_fits d_is_of d_inner d_flat d_names_in d_bare d_named d_law_deal d_law_draw d_law_pick d_law_words d_law_kinds d_law_put d_law_ask d_law_count d_law_rows d_law_ask_text d_law_lines d_law_all_lines d_law_ask_of d_law_row_of d_law_deed d_law_begun d_law_alike d_law d_NoRow_init d_InvalidRow_init d_Put_init d_Put_eq d_Put_str d_If_init d_If_eq d_If_str d_Times_init d_Times_eq d_Times_str d_Stop_eq d_Stop_str d_Ask_init d_Ask_eq d_Ask_str d_Not_init d_Not_eq d_Not_str d_Program_init d_Program_str d_Sheet_init d_Sheet_drop d_Sheet_made d_Sheet_len d_Sheet_getitem d_Sheet_setitem d_Sheet_iadd) : FnOk P w K mg base CX0 1 a_law_draw d_law_draw ["_law_deal_here", "_law_amount"] sp_law_draw := by
  refine T.F_law_draw.ok sc_law_draw (fun vs H Q E h => ?_) (fun cdv A outer s H vs Q E hr h => ?_)
  · unfold sp_law_draw at h; split at h; rfl; exact h.elim
  unfold sp_law_draw at h; split at h
  case h_2 => exact h.elim
  rename_i d n
  obtain ⟨L, ⟨cs, c, z, D⟩, n0, n1, q⟩ := h
  refine ⟨_, (Evl.pss_cut (ps_while PassesOwn.never (PW.pt (pw_and (pt_cmpR op_eq (pe_ix ix_listM (pv 0) pe_int (fun _ _ => rfl)) pe_int (nomark _)) (pw_and1 (pt_cmpR op_gt (pe_callB call_len_seq (by rfl) T.z_len (by decide +kernel) (pa_cons (pe_ix ix_listM (pv 0) pe_int (fun _ _ => rfl)) pa_nil)) pe_int (nomark _)))))
      (pss_one (ps_asg (pe_bm0 PySem.F.plainAttrs_list PySem.F.slot_list_pop PySem.F.type_list_pop mt_popM (pe_ix ix_listM (pv 0) pe_int (fun _ _ => rfl))) (pg_sub (pv 0) pe_int set_list))))
      (pss_cons (ps_if (pt_cmpR op_gt (pe_ix ix_listM (pv 0) pe_int (fun _ _ => rfl)) pe_int (nomark _))
      (pss_cons (ps_set (i := 2) sc_law_draw.nd rfl (by first | exact .inl rfl | exact .inr rfl) (pe_op op_mod (pe_callTy call_intM (by rfl) T.z_int (by decide +kernel) (pa_cons (pe_ix ix_listM (pv 0) pe_int (fun _ _ => rfl)) pa_nil)) (pv 1)))
      (pss_cons (ps_asg (pe_op op_fdivW (pe_ix ix_listM (pv 0) pe_int (fun _ _ => rfl)) (pv 1)) (pg_sub (pv 0) pe_int set_list))
      (pss_one (ps_ret (pv 2)))))
      pss_nil)
      (pss_cons (ps_asg (pe_op op_mod (pe_callTy call_intM (by rfl) T.z_int (by decide +kernel) (pa_cons (pe_op op_add (pe_op op_mulX (pe_ix ix_listM (pv 0) pe_int (fun _ _ => rfl)) pe_int) pe_int) pa_nil)) pe_int) (pg_sub (pv 0) pe_int set_list))
      (pss_one (ps_ret (pe_op op_mod (pe_callTy call_intM (by rfl) T.z_int (by decide +kernel) (pa_cons (pe_op op_fdivW (pe_ix ix_listM (pv 0) pe_int (fun _ _ => rfl)) pe_int) pa_nil)) (pv 1))))))), ?_⟩
  walk_at "st"
  walk_at "vc"
  refine ⟨fun σ H' => ∃ cs c z, σ = [some (.ref d), some (.int n), none] ∧ Deal3C d L cs c z H' ∧ Mv3 d L H H', ⟨I_dr d L n H, ⟨_, cs, c, z, rfl, rfl, D, .refl ⟨_, _, _, D⟩⟩, fun m σ H' hw => ?_⟩, fun σ H' hm => ?_⟩
  · obtain ⟨cs, c, z, rfl, rfl, D, M⟩ := hw
    walk_at "vc"
    refine ⟨_, sq_of D.d, _, rfl, ?_⟩
    walk_at "vc"
    refine ite2 (fun h0 => ⟨_, sq_of D.d, _, rfl, L, rfl, _, .inl (sq_of D.l), ?_⟩) (fun h0 => ⟨_, _, _, D, M⟩)
    rw [List.length_map]
    refine ite2 (fun hc => ?_) (fun hc => ⟨_, _, _, D, M⟩)
    have hne : cs ≠ [] := List.length_pos_iff.mp (by omega)
    obtain ⟨ds, e, rfl⟩ : ∃ ds e, cs = ds ++ [e] := ⟨cs.dropLast, cs.getLast hne, (List.dropLast_concat_getLast hne).symm⟩
    have eL := D.l
    rw [List.map_append] at eL
    refine ⟨_, fun _ _ hN => hN, _, sq_of D.d, _, rfl, .inl ⟨rfl, _, sq_of eL⟩, ?_⟩
    have D2 : Deal3C d L ds e z (upd (upd H' L (.lst (ds.map V.int ++ List.map V.int [e]).dropLast)) d (.lst ([V.ref L, V.int c, V.int z].set 1 (.int e)))) :=
      ⟨by rw [upd_same]; rfl, D.nn e (by simp), by rw [upd_ne D.ne.symm, upd_same]; simp, fun x hx => D.nn x (List.mem_append_left _ hx), D.z0, D.z1, by have := D.len; simp at this; omega⟩
    have M2 : Mv3 d L H _ := M.trans ⟨fun b o h1 h2 h => by rw [upd_ne h1, upd_ne h2]; exact h, _, _, _, D2⟩
    walk_at "vc"
    exact ⟨_, eL, V.int e, by simp, _, by rw [upd_ne D.ne]; exact D.d, 1, rfl, ds.length, by simp, ds, e, z, rfl, rfl, D2, M2⟩
  · obtain ⟨cs, c, z, rfl, D, M⟩ := hm
    walk_at "vc"
    refine ⟨_, sq_of D.d, _, rfl, ?_⟩
    walk_at "vc"
    have c0 := D.c0
    have z0 := D.z0
    have z1 := D.z1
    refine ite2 (fun hc => ⟨_, sq_of D.d, _, rfl, ?_⟩) (fun hc => ⟨_, sq_of D.d, _, rfl, ?_⟩)
    · walk_at "vc"
      refine ⟨n0, _, sq_of D.d, _, rfl, ?_⟩
      walk_at "vc"
      have D2 : Deal3C d L cs (c / n) z (upd H' d (.lst ([V.ref L, V.int c, V.int z].set 1 (.int (c / n))))) :=
        ⟨by rw [upd_same]; rfl, Int.ediv_nonneg c0 (by omega), by rw [upd_ne D.ne.symm]; exact D.l, D.nn, D.z0, D.z1, D.len⟩
      exact ⟨divOk n0 (by omega), _, D.d, 1, rfl, q _ _ (Int.emod_nonneg _ (by omega)) (Int.emod_lt_of_pos _ n0) (M.trans ⟨fun b o h1 h2 h => by rw [upd_ne h1]; exact h, _, _, _, D2⟩)⟩
    · walk_at "vc"
      have w0 := Int.emod_nonneg (z * 48271 + 11) (show (2147483647 : Int) ≠ 0 by decide)
      have w1 := Int.emod_lt_of_pos (z * 48271 + 11) (show (0 : Int) < 2147483647 by decide)
      have D2 : Deal3C d L cs c ((z * 48271 + 11) % 2147483647) (upd H' d (.lst ([V.ref L, V.int c, V.int z].set 2 (.int ((z * 48271 + 11) % 2147483647))))) :=
        ⟨by rw [upd_same]; rfl, c0, by rw [upd_ne D.ne.symm]; exact D.l, D.nn, w0, w1, D.len⟩
      refine ⟨mulOk (by omega) (by omega) (by decide) (by decide), by decide, _, D.d, 2, rfl, _, sq_of D2.d, _, rfl, ?_⟩
      walk_at "vc"
      exact ⟨divOk (by decide) (by decide), n0, q _ _ (Int.emod_nonneg _ (by omega)) (Int.emod_lt_of_pos _ n0) (M.trans ⟨fun b o h1 h2 h => by rw [upd_ne h1]; exact h, _, _, _, D2⟩)⟩
/-- one of a tracked list of things, one sign of a text -/
def sp_law_pick : Sp
  | [.ref d, y], H, Q, _ => ∃ L, Deal3 d L H ∧ ((∃ a xs, y = .ref a ∧ H a = some (.lst xs) ∧ a ≠ d ∧ a ≠ L ∧ 0 < xs.length ∧ xs.length ≤ 1000 ∧ ∀ v H', v ∈ xs → Mv3 d L H H' → Q v H') ∨
      (∃ z : Str, y = .str z ∧ 0 < z.length ∧ z.length ≤ 1000 ∧ ∀ c H', c ∈ z.cps.toList → Mv3 d L H H' → Q (.str ⟨#[c]⟩) H'))
  | _, _, _, _ => False
theorem ok_law_pick (T : Txt w K mg a_is_integer a_is_number a_is_name a_are_rows a_texts a_needed a_fits a_is_of a_inner a_flat a_names_in a_bare a_named a_law_deal a_law_draw a_law_pick a_law_words a_law_kinds a_law_put a_law_ask a_law_count a_law_rows a_law_ask_text a_law_lines a_law_all_lines a_law_ask_of a_law_row_of a_law_deed a_law_begun a_law_alike a_law a_NoRow_init a_InvalidRow_init a_Put_init a_Put_eq a_Put_str a_If_init a_If_eq a_If_str a_Times_init a_Times_eq a_Times_str a_Stop_eq a_Stop_str a_Ask_init a_Ask_eq a_Ask_str a_Not_init a_Not_eq a_Not_str a_Program_init a_Program_str a_Sheet_init a_Sheet_drop a_Sheet_made a_Sheet_len a_Sheet_getitem a_Sheet_setitem a_Sheet_iadd a_NoRow a_InvalidRow a_Put a_If a_Times a_Stop a_Ask a_Not a_Row a_Test a_Program a_Sheet a_DEEDS a_SIGNS a_WORDS a_If_init_d0 a_Program_init_d0 a_Sheet_init_d0 d_is_integer d_is_number d_is_name d_are_rows d_texts d_needed d_fits d_is_of d_inner d_flat d_names_in d_bare d_named d_law_deal d_law_draw d_law_pick d_law_words d_law_kinds d_law_put d_law_ask d_law_count d_law_rows d_law_ask_text d_law_lines d_law_all_lines d_law_ask_of d_law_row_of d_law_deed d_law_begun d_law_alike d_law d_NoRow_init d_InvalidRow_init d_Put_init d_Put_eq d_Put_str d_If_init d_If_eq d_If_str d_Times_init d_Times_eq d_Times_str d_Stop_eq d_Stop_str d_Ask_init d_Ask_eq d_Ask_str d_Not_init d_Not_eq d_Not_str d_Program_init d_Program_str d_Sheet_init d_Sheet_drop d_Sheet_made d_Sheet_len d_Sheet_getitem d_Sheet_setitem d_Sheet_iadd) : FnOk P w K mg base CX0 2 a_law_pick d_law_pick ["_law_deal_here", "_law_some"] sp_law_pick := by
  have G_law_draw := ok_law_draw (P := P) (w := w) (base := base) T
  refine T.F_law_pick.ok sc_law_pick (fun vs H Q E h => ?_) (fun cdv A outer s H vs Q E hr h => ?_)
  · unfold sp_law_pick at h; split at h; rfl; exact h.elim
  · unfold sp_law_pick at h; split at h
    case h_2 => exact h.elim
    rename_i d y
    obtain ⟨L, D, h⟩ := h
    refine ⟨_, (pss_one (ps_ret (pe_ix ix_seq (pv 1) (pe_call G_law_draw (hr.mono (by decide)) (by rfl) T.g_law_draw T.F_law_draw.kp T.b_law_draw .nil pass0 (pa_cons (pv 0) (pa_cons (pe_callB call_len (by rfl) T.z_len (by decide +kernel) (pa_cons (pv 1) pa_nil)) pa_nil))) (fun _ _ => rfl)))), ?_⟩
    walk_at "st"
    walk_at "vc"
    rcases h with ⟨a, xs, rfl, hx, h1, h2, h3, h4, q⟩ | ⟨z, rfl, h3, h4, q⟩
    · refine ⟨xs.length, .inl ⟨_, sq_of hx, rfl⟩, L, D, by omega, by omega, fun v H1 v0 v1 M => ?_⟩
      obtain ⟨j, rfl⟩ : ∃ j : Nat, v = (j : Int) := ⟨v.toNat, by omega⟩
      have hj : j < xs.length := by omega
      exact .inl ⟨_, _, _, _, rfl, rfl, sq_of (M.kp _ _ h1 h2 hx), atI_nat (List.getElem?_eq_getElem hj), q _ _ (List.getElem_mem hj) M⟩
    · refine ⟨z.length, ⟨sz_le (by omega), rfl⟩, L, D, by omega, by omega, fun v H1 v0 v1 M => ?_⟩
      obtain ⟨j, rfl⟩ : ∃ j : Nat, v = (j : Int) := ⟨v.toNat, by omega⟩
      have hj : j < z.cps.toList.length := by rw [Array.length_toList]; unfold PySem.Str.length at v1; omega
      exact .inr (.inr ⟨_, _, _, rfl, rfl, sz_le (by omega), atI_nat (List.getElem?_eq_getElem hj), q _ _ (List.getElem_mem hj) M⟩)
def nmOk (x : Str) : Bool := decide (1 ≤ (x.length : Int)) && (decide ((x.length : Int) ≤ 4) && x.cps.toList.all fun c => decide (c ∈ (Str.ofString "abcdefghijklmnopqrstuvwxyz").cps.toList))
def sp_is_name : Sp
  | [.str x], H, Q, _ => x.length ≤ 1000 ∧ ∀ H', Ex H H' → Q (.bl (nmOk x)) H'
  | _, _, _, _ => False
def C_nm (D : Addr) (x : Str) (H : Hp) : Nat → Hp → Prop := fun i H' => H' D = some (.lst (((x.cps.toList.take i).map fun c => decide (c ∈ (Str.ofString "abcdefghijklmnopqrstuvwxyz").cps.toList)).map V.bl)) ∧ Ex H H'
theorem ok_is_name (T : Txt w K mg a_is_integer a_is_number a_is_name a_are_rows a_texts a_needed a_fits a_is_of a_inner a_flat a_names_in a_bare a_named a_law_deal a_law_draw a_law_pick a_law_words a_law_kinds a_law_put a_law_ask a_law_count a_law_rows a_law_ask_text a_law_lines a_law_all_lines a_law_ask_of a_law_row_of a_law_deed a_law_begun a_law_alike a_law a_NoRow_init a_InvalidRow_init a_Put_init a_Put_eq a_Put_str a_If_init a_If_eq a_If_str a_Times_init a_Times_eq a_Times_str a_Stop_eq a_Stop_str a_Ask_init a_Ask_eq a_Ask_str a_Not_init a_Not_eq a_Not_str a_Program_init a_Program_str a_Sheet_init a_Sheet_drop a_Sheet_made a_Sheet_len a_Sheet_getitem a_Sheet_setitem a_Sheet_iadd a_NoRow a_InvalidRow a_Put a_If a_Times a_Stop a_Ask a_Not a_Row a_Test a_Program a_Sheet a_DEEDS a_SIGNS a_WORDS a_If_init_d0 a_Program_init_d0 a_Sheet_init_d0 d_is_integer d_is_number d_is_name d_are_rows d_texts d_needed d_fits d_is_of d_inner d_flat d_names_in d_bare d_named d_law_deal d_law_draw d_law_pick d_law_words d_law_kinds d_law_put d_law_ask d_law_count d_law_rows d_law_ask_text d_law_lines d_law_all_lines d_law_ask_of d_law_row_of d_law_deed d_law_begun d_law_alike d_law d_NoRow_init d_InvalidRow_init d_Put_init d_Put_eq d_Put_str d_If_init d_If_eq d_If_str d_Times_init d_Times_eq d_Times_str d_Stop_eq d_Stop_str d_Ask_init d_Ask_eq d_Ask_str d_Not_init d_Not_eq d_Not_str d_Program_init d_Program_str d_Sheet_init d_Sheet_drop d_Sheet_made d_Sheet_len d_Sheet_getitem d_Sheet_setitem d_Sheet_iadd) : FnOk P w K mg base CX0 1 a_is_name d_is_name ["value"] sp_is_name := by
  refine T.F_is_name.ok sc_is_name (fun vs H Q E h => ?_) (fun cdv A outer s H vs Q E hr h => ?_)
  · unfold sp_is_name at h; split at h; rfl; exact h.elim
  unfold sp_is_name at h; split at h
  case h_2 => exact h.elim
  rename_i x
  obtain ⟨hl, q⟩ := h
  refine ⟨_, (pss_cons (ps_if (pt_not (pt_val (pe_callB call_isiV (by rfl) T.z_isinstance (by decide +kernel) (pa_cons (pv 0) (pa_cons (pe_bltn (v := .ty "str") (by rfl) T.z_str (by decide +kernel) rfl) pa_nil)))))
      (pss_one (ps_ret pe_bl))
      pss_nil)
      (pss_one (ps_ret (pe_and (pe_chain op_le op_le pe_int (pe_callB call_len_str (by rfl) T.z_len (by decide +kernel) (pa_cons (pv 0) pa_nil)) (pe_globE (by rfl) T.g_LONGEST_NAME)) (pe_one (pe_callB (cr_all rfl) (by rfl) T.z_all (by decide +kernel) (pa_cons (pe_lc (own := [("one", 1)]) (g := gName 1) (by rfl) sc_is_name.nd (pi_str (pv 0)) (blkOk_by (own := [("one", 1)]) (N := N_is_name) (sc := defScope s_is_name) (by decide +kernel)) (fun _ _ _ _ _ => (pg_name (i := 1) sc_is_name.nd rfl (by first | exact .inl rfl | exact .inr rfl))) (fun _ _ _ _ _ => pts_nil) (fun _ _ _ _ _ => (pe_cmpR op_in_sign (pv 1) (pe_globE (by rfl) T.g_LETTERS) (by rfl)))) pa_nil))))))), ?_⟩
  walk_at "st"
  walk_at "vc"
  refine ⟨true, by decide +kernel, ?_⟩
  rw [if_neg (by decide)]
  refine ⟨sz_le (by omega), ite2 (fun h1 => ite2 (fun h2 => ?_) (fun h2 => ?_)) (fun h1 => ?_)⟩
  · refine ⟨_, rfl, x, rfl, fun D hD => lc_it walk_str (C_nm D x H) ⟨upd_same, Ex.new hD⟩ (fun i H' _ _ => trivial) (fun i v H1 H' hi hP y => ?_) (fun H' hP => ?_)⟩
    · obtain ⟨rfl, c, hc, rfl⟩ := y
      walk_at "vc"
      have hc' : x.cps.toList[i]? = some c := by rw [Array.getElem?_toList]; exact hc
      refine ⟨c, rfl, _, hP.1, sz_lt (by simp [PySem.Str.length] at hl ⊢; omega), ?_, hP.2.mut hD⟩
      rw [upd_same, List.take_add_one, hc', List.map_append, List.map_append]
      rfl
    · refine ⟨D, _, rfl, sq_of hP.1, ?_⟩
      have e : x.cps.toList.take x.cps.size = x.cps.toList := by rw [← Array.length_toList, List.take_length]
      rw [e]
      have := q H' hP.2
      unfold nmOk at this
      rw [decide_eq_true h1, decide_eq_true h2, Bool.true_and, Bool.true_and] at this
      rw [List.all_map]
      exact this
  · have := q H (Ex.refl H)
    unfold nmOk at this
    rw [decide_eq_false h2, Bool.false_and, Bool.and_false] at this
    exact this
  · have := q H (Ex.refl H)
    unfold nmOk at this
    rw [decide_eq_false h1, Bool.false_and] at this
    exact this
def sp_is_of : Sp
  | [.str k, v], H, Q, _ => (k = "name" ∧ ∃ x, v = .str x ∧ x.length ≤ 1000 ∧ ∀ H', Ex H H' → Q (.bl (nmOk x)) H') ∨ (k = "number" ∧ ∃ i, v = .int i ∧ ∀ H', Ex H H' → Q (.bl (decide (0 ≤ i))) H')
  | _, _, _, _ => False
theorem ok_is_of (T : Txt w K mg a_is_integer a_is_number a_is_name a_are_rows a_texts a_needed a_fits a_is_of a_inner a_flat a_names_in a_bare a_named a_law_deal a_law_draw a_law_pick a_law_words a_law_kinds a_law_put a_law_ask a_law_count a_law_rows a_law_ask_text a_law_lines a_law_all_lines a_law_ask_of a_law_row_of a_law_deed a_law_begun a_law_alike a_law a_NoRow_init a_InvalidRow_init a_Put_init a_Put_eq a_Put_str a_If_init a_If_eq a_If_str a_Times_init a_Times_eq a_Times_str a_Stop_eq a_Stop_str a_Ask_init a_Ask_eq a_Ask_str a_Not_init a_Not_eq a_Not_str a_Program_init a_Program_str a_Sheet_init a_Sheet_drop a_Sheet_made a_Sheet_len a_Sheet_getitem a_Sheet_setitem a_Sheet_iadd a_NoRow a_InvalidRow a_Put a_If a_Times a_Stop a_Ask a_Not a_Row a_Test a_Program a_Sheet a_DEEDS a_SIGNS a_WORDS a_If_init_d0 a_Program_init_d0 a_Sheet_init_d0 d_is_integer d_is_number d_is_name d_are_rows d_texts d_needed d_fits d_is_of d_inner d_flat d_names_in d_bare d_named d_law_deal d_law_draw d_law_pick d_law_words d_law_kinds d_law_put d_law_ask d_law_count d_law_rows d_law_ask_text d_law_lines d_law_all_lines d_law_ask_of d_law_row_of d_law_deed d_law_begun d_law_alike d_law d_NoRow_init d_InvalidRow_init d_Put_init d_Put_eq d_Put_str d_If_init d_If_eq d_If_str d_Times_init d_Times_eq d_Times_str d_Stop_eq d_Stop_str d_Ask_init d_Ask_eq d_Ask_str d_Not_init d_Not_eq d_Not_str d_Program_init d_Program_str d_Sheet_init d_Sheet_drop d_Sheet_made d_Sheet_len d_Sheet_getitem d_Sheet_setitem d_Sheet_iadd) : FnOk P w K mg base CX0 3 a_is_of d_is_of ["kind", "value"] sp_is_of := by
  have G_is_name := ok_is_name (P := P) (w := w) (base := base) T
  have G_is_number := ok_is_number (P := P) (w := w) (base := base) T
  refine T.F_is_of.ok sc_is_of (fun vs H Q E h => ?_) (fun cdv A outer s H vs Q E hr h => ?_)
  · unfold sp_is_of at h; split at h; rfl; exact h.elim
  unfold sp_is_of at h; split at h
  case h_2 => exact h.elim
  rename_i k v
  refine ⟨_, (pss_cons (ps_if (pt_cmpR op_eq (pv 0) pe_str (nomark _))
      (pss_one (ps_ret (pe_call G_is_name (hr.mono (by decide)) (by rfl) T.g_is_name T.F_is_name.kp T.b_is_name .nil pass0 (pa_cons (pv 1) pa_nil))))
      pss_nil)
      (pss_one (ps_ret (pe_call G_is_number (hr.mono (by decide)) (by rfl) T.g_is_number T.F_is_number.kp T.b_is_number .nil pass0 (pa_cons (pv 1) pa_nil))))), ?_⟩
  walk_at "st"
  walk_at "vc"
  rcases h with ⟨rfl, x, rfl, hl, q⟩ | ⟨rfl, i, rfl, q⟩
  · rw [if_pos rfl]
    exact ⟨hl, q⟩
  · rw [if_neg (by decide)]
    exact q H (Ex.refl H)
/-- what stands behind each deed, as the package tells it -/
def deedTab : List (Str × List Str) := [("figures", ["number"]), ("number", ["number"]), ("base", []), ("let", ["name"]), ("+", ["name", "name"]), ("-", ["name", "name"]), ("*", ["name", "name"]), ("//", ["name", "name"]), ("rest", ["name", "name"]), ("**", ["name", "number"]), ("turned", ["name"]), ("least", ["name"]), ("greatest", ["name"]), ("sum", ["name"]), ("many", ["name"]), ("root", ["name"]), ("figure", ["number", "name"]), ("first", ["number", "name"]), ("last", ["number", "name"]), ("joined", ["name", "name"]), ("common", ["name", "name"]), ("lesser", ["name", "name"])]
def kindsFor (d : Str) (n : Nat) : Option (List Str) := if d = "figures" then (if n = 0 then none else some (List.replicate n "number")) else deedTab.lookup d
theorem lookup_mem {α : Type} {k : Str} {v : α} : ∀ {l : List (Str × α)}, l.lookup k = some v → (k, v) ∈ l
  | [], h => by cases h
  | (a, b) :: l, h => by
    rw [List.lookup_cons] at h
    split at h
    · rename_i e
      cases h
      rw [eq_of_beq e]
      exact List.mem_cons_self ..
    · exact List.mem_cons_of_mem _ (lookup_mem h)
theorem deedAt (T : Txt w K mg a_is_integer a_is_number a_is_name a_are_rows a_texts a_needed a_fits a_is_of a_inner a_flat a_names_in a_bare a_named a_law_deal a_law_draw a_law_pick a_law_words a_law_kinds a_law_put a_law_ask a_law_count a_law_rows a_law_ask_text a_law_lines a_law_all_lines a_law_ask_of a_law_row_of a_law_deed a_law_begun a_law_alike a_law a_NoRow_init a_InvalidRow_init a_Put_init a_Put_eq a_Put_str a_If_init a_If_eq a_If_str a_Times_init a_Times_eq a_Times_str a_Stop_eq a_Stop_str a_Ask_init a_Ask_eq a_Ask_str a_Not_init a_Not_eq a_Not_str a_Program_init a_Program_str a_Sheet_init a_Sheet_drop a_Sheet_made a_Sheet_len a_Sheet_getitem a_Sheet_setitem a_Sheet_iadd a_NoRow a_InvalidRow a_Put a_If a_Times a_Stop a_Ask a_Not a_Row a_Test a_Program a_Sheet a_DEEDS a_SIGNS a_WORDS a_If_init_d0 a_Program_init_d0 a_Sheet_init_d0 d_is_integer d_is_number d_is_name d_are_rows d_texts d_needed d_fits d_is_of d_inner d_flat d_names_in d_bare d_named d_law_deal d_law_draw d_law_pick d_law_words d_law_kinds d_law_put d_law_ask d_law_count d_law_rows d_law_ask_text d_law_lines d_law_all_lines d_law_ask_of d_law_row_of d_law_deed d_law_begun d_law_alike d_law d_NoRow_init d_InvalidRow_init d_Put_init d_Put_eq d_Put_str d_If_init d_If_eq d_If_str d_Times_init d_Times_eq d_Times_str d_Stop_eq d_Stop_str d_Ask_init d_Ask_eq d_Ask_str d_Not_init d_Not_eq d_Not_str d_Program_init d_Program_str d_Sheet_init d_Sheet_drop d_Sheet_made d_Sheet_len d_Sheet_getitem d_Sheet_setitem d_Sheet_iadd) : ∀ p ∈ deedTab, ∃ t, PySem.W.nsIn K a_DEEDS p.1 = some (some (.ref t)) ∧ ∀ H, SqT K H t (p.2.map V.str) := by
  intro p hp
  simp only [deedTab, List.mem_cons, List.not_mem_nil, or_false] at hp
  rcases hp with rfl | rfl | rfl | rfl | rfl | rfl | rfl | rfl | rfl | rfl | rfl | rfl | rfl | rfl | rfl | rfl | rfl | rfl | rfl | rfl | rfl | rfl
  · exact T.I_DEEDS_0
  · exact T.I_DEEDS_1
  · exact T.I_DEEDS_2
  · exact T.I_DEEDS_3
  · exact T.I_DEEDS_4
  · exact T.I_DEEDS_5
  · exact T.I_DEEDS_6
  · exact T.I_DEEDS_7
  · exact T.I_DEEDS_8
  · exact T.I_DEEDS_9
  · exact T.I_DEEDS_10
  · exact T.I_DEEDS_11
  · exact T.I_DEEDS_12
  · exact T.I_DEEDS_13
  · exact T.I_DEEDS_14
  · exact T.I_DEEDS_15
  · exact T.I_DEEDS_16
  · exact T.I_DEEDS_17
  · exact T.I_DEEDS_18
  · exact T.I_DEEDS_19
  · exact T.I_DEEDS_20
  · exact T.I_DEEDS_21
theorem kindsFor_in {d : Str} {n : Nat} {ks : List Str} (h : kindsFor d n = some ks) : ∃ k0, (d, k0) ∈ deedTab := by
  unfold kindsFor at h
  split at h
  · rename_i e
    exact ⟨["number"], by rw [e]; exact List.mem_cons_self ..⟩
  · exact ⟨ks, lookup_mem h⟩
theorem deedIn (T : Txt w K mg a_is_integer a_is_number a_is_name a_are_rows a_texts a_needed a_fits a_is_of a_inner a_flat a_names_in a_bare a_named a_law_deal a_law_draw a_law_pick a_law_words a_law_kinds a_law_put a_law_ask a_law_count a_law_rows a_law_ask_text a_law_lines a_law_all_lines a_law_ask_of a_law_row_of a_law_deed a_law_begun a_law_alike a_law a_NoRow_init a_InvalidRow_init a_Put_init a_Put_eq a_Put_str a_If_init a_If_eq a_If_str a_Times_init a_Times_eq a_Times_str a_Stop_eq a_Stop_str a_Ask_init a_Ask_eq a_Ask_str a_Not_init a_Not_eq a_Not_str a_Program_init a_Program_str a_Sheet_init a_Sheet_drop a_Sheet_made a_Sheet_len a_Sheet_getitem a_Sheet_setitem a_Sheet_iadd a_NoRow a_InvalidRow a_Put a_If a_Times a_Stop a_Ask a_Not a_Row a_Test a_Program a_Sheet a_DEEDS a_SIGNS a_WORDS a_If_init_d0 a_Program_init_d0 a_Sheet_init_d0 d_is_integer d_is_number d_is_name d_are_rows d_texts d_needed d_fits d_is_of d_inner d_flat d_names_in d_bare d_named d_law_deal d_law_draw d_law_pick d_law_words d_law_kinds d_law_put d_law_ask d_law_count d_law_rows d_law_ask_text d_law_lines d_law_all_lines d_law_ask_of d_law_row_of d_law_deed d_law_begun d_law_alike d_law d_NoRow_init d_InvalidRow_init d_Put_init d_Put_eq d_Put_str d_If_init d_If_eq d_If_str d_Times_init d_Times_eq d_Times_str d_Stop_eq d_Stop_str d_Ask_init d_Ask_eq d_Ask_str d_Not_init d_Not_eq d_Not_str d_Program_init d_Program_str d_Sheet_init d_Sheet_drop d_Sheet_made d_Sheet_len d_Sheet_getitem d_Sheet_setitem d_Sheet_iadd) {d : Str} {n : Nat} {ks : List Str} (h : kindsFor d n = some ks) : ∃ t, PySem.W.nsIn K a_DEEDS d = some (some (.ref t)) := by
  obtain ⟨k0, hk⟩ := kindsFor_in h
  obtain ⟨t, h1, _⟩ := deedAt T _ hk
  exact ⟨t, h1⟩
def sp_needed (K : PySem.W.Frag) : Sp
  | [.str d, .int n], H, Q, _ => ∃ (m : Nat) (ks : List Str), n = m ∧ m ≤ 1000 ∧ kindsFor d m = some ks ∧ ∀ t H', Ex H H' → SqT K H' t (ks.map V.str) → Q (.ref t) H'
  | _, _, _, _ => False
theorem ok_needed (T : Txt w K mg a_is_integer a_is_number a_is_name a_are_rows a_texts a_needed a_fits a_is_of a_inner a_flat a_names_in a_bare a_named a_law_deal a_law_draw a_law_pick a_law_words a_law_kinds a_law_put a_law_ask a_law_count a_law_rows a_law_ask_text a_law_lines a_law_all_lines a_law_ask_of a_law_row_of a_law_deed a_law_begun a_law_alike a_law a_NoRow_init a_InvalidRow_init a_Put_init a_Put_eq a_Put_str a_If_init a_If_eq a_If_str a_Times_init a_Times_eq a_Times_str a_Stop_eq a_Stop_str a_Ask_init a_Ask_eq a_Ask_str a_Not_init a_Not_eq a_Not_str a_Program_init a_Program_str a_Sheet_init a_Sheet_drop a_Sheet_made a_Sheet_len a_Sheet_getitem a_Sheet_setitem a_Sheet_iadd a_NoRow a_InvalidRow a_Put a_If a_Times a_Stop a_Ask a_Not a_Row a_Test a_Program a_Sheet a_DEEDS a_SIGNS a_WORDS a_If_init_d0 a_Program_init_d0 a_Sheet_init_d0 d_is_integer d_is_number d_is_name d_are_rows d_texts d_needed d_fits d_is_of d_inner d_flat d_names_in d_bare d_named d_law_deal d_law_draw d_law_pick d_law_words d_law_kinds d_law_put d_law_ask d_law_count d_law_rows d_law_ask_text d_law_lines d_law_all_lines d_law_ask_of d_law_row_of d_law_deed d_law_begun d_law_alike d_law d_NoRow_init d_InvalidRow_init d_Put_init d_Put_eq d_Put_str d_If_init d_If_eq d_If_str d_Times_init d_Times_eq d_Times_str d_Stop_eq d_Stop_str d_Ask_init d_Ask_eq d_Ask_str d_Not_init d_Not_eq d_Not_str d_Program_init d_Program_str d_Sheet_init d_Sheet_drop d_Sheet_made d_Sheet_len d_Sheet_getitem d_Sheet_setitem d_Sheet_iadd) : FnOk P w K mg base CX0 1 a_needed d_needed ["deed", "many"] (sp_needed K) := by
  refine T.F_needed.ok sc_needed (fun vs H Q E h => ?_) (fun cdv A outer s H vs Q E hr h => ?_)
  · unfold sp_needed at h; split at h; rfl; exact h.elim
  unfold sp_needed at h; split at h
  case h_2 => exact h.elim
  rename_i d n
  obtain ⟨m, ks, rfl, hm, hk, q⟩ := h
  refine ⟨_, (pss_cons (ps_if (pt_cmpR op_eq (pv 0) pe_str (nomark _))
      (pss_one (ps_ret (pe_op op_repT1 (pe_ixDX rfl takes0 (pe_globE (by rfl) T.g_DEEDS) (pv 0) (fun _ _ => rfl)) (pe_callB (call_maxM rfl) (by rfl) T.z_max (by decide +kernel) (pa_cons pe_int (pa_cons (pv 1) pa_nil))))))
      pss_nil)
      (pss_one (ps_ret (pe_ixDX rfl takes0 (pe_globE (by rfl) T.g_DEEDS) (pv 0) (fun _ _ => rfl))))), ?_⟩
  walk_at "st"
  walk_at "vc"
  have kd : ∀ ks0, (d, ks0) ∈ deedTab → ∃ t, KDct K w a_DEEDS d (.ref t) ∧ ∀ H, SqT K H t (ks0.map V.str) := fun ks0 hm0 => by
    obtain ⟨t, h1, h2⟩ := deedAt T _ hm0
    obtain ⟨es, n, D⟩ := T.D_DEEDS
    exact ⟨t, ⟨es, n, .ref t, D.at_, D.lit, h1, rfl⟩, h2⟩
  unfold kindsFor at hk
  refine ite2 (fun hd => ?_) (fun hd => ?_)
  · rw [if_pos hd] at hk
    by_cases hm0 : m = 0
    · rw [if_pos hm0] at hk; cases hk
    rw [if_neg hm0] at hk
    cases hk
    obtain ⟨t, h1, h2⟩ := kd ["number"] (by rw [hd]; exact List.mem_cons_self ..)
    refine ⟨_, rfl, a_DEEDS, d, rfl, rfl, .inl ⟨_, h1, t, _, _, rfl, rfl, h2 H, ?_⟩⟩
    by_cases h1m : m = 1
    · subst h1m
      exact .inl ⟨by decide, q t H (Ex.refl H) (h2 H)⟩
    · have e : (if (m : Int) > 1 then (m : Int) else 1) = m := if_pos (by omega)
      rw [e]
      refine .inr ⟨by simp, by omega, by omega, by simp, fun p hp => q p _ (Ex.new hp) (st_of ?_)⟩
      rw [upd_same, Int.toNat_natCast]
      refine congrArg some (congrArg HO.tup ?_)
      clear q
      induction m with
      | zero => rfl
      | succ k ih => rw [List.replicate_succ, List.replicate_succ, List.flatten_cons, List.map_cons]; by_cases hk0 : k = 0 <;> simp [hk0, List.map_replicate, List.flatten_replicate_singleton]
  · rw [if_neg hd] at hk
    obtain ⟨t, h1, h2⟩ := kd ks (lookup_mem hk)
    exact ⟨_, rfl, a_DEEDS, d, rfl, rfl, .inl ⟨_, h1, q t H (Ex.refl H) (h2 H)⟩⟩
/-- an argument is as the deed needs it -/
def argOk (k : Str) (v : V) : Prop := (k = "name" ∧ ∃ x, v = .str x ∧ x.length ≤ 1000 ∧ nmOk x = true) ∨ (k = "number" ∧ ∃ i, v = .int i ∧ 0 ≤ i ∧ i.natAbs.log2 < 1920)
def sp_fits (K : PySem.W.Frag) : Sp
  | [.str d, .ref q], H, Q, _ => ∃ g ks, SqT K H q g ∧ kindsFor d g.length = some ks ∧ All2T argOk ks g ∧ g.length ≤ 1000 ∧ ∀ H', Ex H H' → Q (.bl true) H'
  | _, _, _, _ => False
def C_ft (D : Addr) (H : Hp) : Nat → Hp → Prop := fun i H' => H' D = some (.lst ((List.replicate i true).map V.bl)) ∧ Ex H H'
theorem ok_fits (T : Txt w K mg a_is_integer a_is_number a_is_name a_are_rows a_texts a_needed a_fits a_is_of a_inner a_flat a_names_in a_bare a_named a_law_deal a_law_draw a_law_pick a_law_words a_law_kinds a_law_put a_law_ask a_law_count a_law_rows a_law_ask_text a_law_lines a_law_all_lines a_law_ask_of a_law_row_of a_law_deed a_law_begun a_law_alike a_law a_NoRow_init a_InvalidRow_init a_Put_init a_Put_eq a_Put_str a_If_init a_If_eq a_If_str a_Times_init a_Times_eq a_Times_str a_Stop_eq a_Stop_str a_Ask_init a_Ask_eq a_Ask_str a_Not_init a_Not_eq a_Not_str a_Program_init a_Program_str a_Sheet_init a_Sheet_drop a_Sheet_made a_Sheet_len a_Sheet_getitem a_Sheet_setitem a_Sheet_iadd a_NoRow a_InvalidRow a_Put a_If a_Times a_Stop a_Ask a_Not a_Row a_Test a_Program a_Sheet a_DEEDS a_SIGNS a_WORDS a_If_init_d0 a_Program_init_d0 a_Sheet_init_d0 d_is_integer d_is_number d_is_name d_are_rows d_texts d_needed d_fits d_is_of d_inner d_flat d_names_in d_bare d_named d_law_deal d_law_draw d_law_pick d_law_words d_law_kinds d_law_put d_law_ask d_law_count d_law_rows d_law_ask_text d_law_lines d_law_all_lines d_law_ask_of d_law_row_of d_law_deed d_law_begun d_law_alike d_law d_NoRow_init d_InvalidRow_init d_Put_init d_Put_eq d_Put_str d_If_init d_If_eq d_If_str d_Times_init d_Times_eq d_Times_str d_Stop_eq d_Stop_str d_Ask_init d_Ask_eq d_Ask_str d_Not_init d_Not_eq d_Not_str d_Program_init d_Program_str d_Sheet_init d_Sheet_drop d_Sheet_made d_Sheet_len d_Sheet_getitem d_Sheet_setitem d_Sheet_iadd) : FnOk P w K mg base CX0 4 a_fits d_fits ["deed", "given"] (sp_fits K) := by
  have G_needed := ok_needed (P := P) (w := w) (base := base) T
  have G_is_of := ok_is_of (P := P) (w := w) (base := base) T
  refine T.F_fits.ok sc_fits (fun vs H Q E h => ?_) (fun cdv A outer s H vs Q E hr h => ?_)
  · unfold sp_fits at h; split at h; rfl; exact h.elim
  unfold sp_fits at h; split at h
  case h_2 => exact h.elim
  rename_i d p
  obtain ⟨g, ks, hg, hk, ha, hl, q⟩ := h
  refine ⟨_, (pss_cons (ps_set (i := 2) sc_fits.nd rfl (by first | exact .inl rfl | exact .inr rfl) (pe_call G_needed (hr.mono (by decide)) (by rfl) T.g_needed T.F_needed.kp T.b_needed .nil pass0 (pa_cons (pv 0) (pa_cons (pe_callB call_len_seq (by rfl) T.z_len (by decide +kernel) (pa_cons (pv 1) pa_nil)) pa_nil))))
      (pss_cons (ps_if (pt_cmpR op_ne (pe_callB call_len_seq (by rfl) T.z_len (by decide +kernel) (pa_cons (pv 1) pa_nil)) (pe_callB call_len_seq (by rfl) T.z_len (by decide +kernel) (pa_cons (pv 2) pa_nil)) (nomark _))
      (pss_one (ps_ret pe_bl))
      pss_nil)
      (pss_one (ps_ret (pe_callB (cr_all rfl) (by rfl) T.z_all (by decide +kernel) (pa_cons (pe_lc (own := [("kind", 3), ("one", 4)]) (g := gTup K 2 (gCons (gName 3) (gCons (gName 4) gNil))) (by rfl) sc_fits.nd (RZ.pi_zipA (by rfl) T.z_zip (pa_cons (pv 2) (pa_cons (pv 1) pa_nil))) (blkOk_by (own := [("kind", 3), ("one", 4)]) (N := N_fits) (sc := defScope s_fits) (by decide +kernel)) (fun _ _ _ _ _ => (pg_tupK (K := K) (n := 2) rfl rfl (pgs_cons (pg_name (i := 3) sc_fits.nd rfl (by first | exact .inl rfl | exact .inr rfl)) (pgs_cons (pg_name (i := 4) sc_fits.nd rfl (by first | exact .inl rfl | exact .inr rfl)) pgs_nil)))) (fun _ _ _ _ _ => pts_nil) (fun _ _ _ _ _ => (pe_call G_is_of (hr.mono (by decide)) (by rfl) T.g_is_of T.F_is_of.kp T.b_is_of .nil pass0 (pa_cons (pv 3) (pa_cons (pv 4) pa_nil))))) pa_nil)))))), ?_⟩
  walk_at "st"
  walk_at "vc"
  refine ⟨g, .inr hg, g.length, ks, rfl, hl, hk, fun t H1 e1 ht => ?_⟩
  walk_at "vc"
  refine ⟨g, .inr (e1.sqt hg), _, .inr ht, ?_⟩
  have hlen := ha.len
  rw [if_neg (by rw [List.length_map, hlen]; simp)]
  refine ⟨_, rfl, _, rfl, t, p, _, g, rfl, .inr ⟨ht, e1.sqt hg, fun D hD => ?_⟩⟩
  refine lc_it (walk_zipT (n := g.length) (by rw [List.length_map]; omega)) (C_ft D H1) ⟨upd_same, Ex.new hD⟩ (fun i H' _ hP => ⟨hP.2.sqt ht, hP.2.sqt (e1.sqt hg)⟩) (fun i v H2 H' hi hP y => ?_) (fun H' hP => ?_)
  · obtain ⟨T0, x, z, rfl, hT, rfl, hx, hz⟩ := y
    refine ⟨T0, _, rfl, st_of upd_same, rfl, ?_⟩
    simp only [gCons, gNil]
    walk_at "vc"
    obtain ⟨k, hk2, ok⟩ := ha.at_ hz
    have hx2 : (ks.map V.str)[i]? = some x := hx
    rw [List.getElem?_map, hk2] at hx2
    cases hx2
    have hP2 : C_ft D H1 i (upd H2 T0 (.tup [.str k, z])) := ⟨Ex.new hT _ _ hP.1, hP.2.trans (Ex.new hT)⟩
    have fin : ∀ H4, Ex (upd H2 T0 (.tup [.str k, z])) H4 → ∃ acc, H4 D = some (.lst acc) ∧ acc.length < sizeLine ∧ C_ft D H1 (i + 1) (upd H4 D (.lst (acc ++ [.bl true]))) := fun H4 e4 => by
      refine ⟨_, e4 _ _ hP2.1, sz_lt (by simp; omega), ?_, (hP2.2.trans e4).mut hD⟩
      rw [upd_same, List.replicate_succ', List.map_append]
      rfl
    rcases ok with ⟨rfl, w0, rfl, hw, hn⟩ | ⟨rfl, j, rfl, hj, _⟩
    · exact .inl ⟨rfl, w0, rfl, hw, fun H4 e4 => by rw [hn]; exact fin H4 e4⟩
    · exact .inr ⟨rfl, j, rfl, fun H4 e4 => by rw [decide_eq_true hj]; exact fin H4 e4⟩
  · refine ⟨D, _, rfl, sq_of hP.1, ?_⟩
    rw [show (List.replicate g.length true).all id = true by simp]
    exact q _ (e1.trans hP.2)
/-- all but what stands at a is as it was -/
def Off (a : Addr) (H H1 : Hp) : Prop := ∀ b o, b ≠ a → H b = some o → H1 b = some o
theorem Off.upd {a : Addr} {H H1 : Hp} {o : HO} (e : Ex H H1) : Off a H (L2.upd H1 a o) := fun b u n h => by rw [upd_ne n]; exact e _ _ h
theorem Off.of {a : Addr} {H H1 : Hp} (e : Ex H H1) : Off a H H1 := fun b u _ h => e _ _ h
theorem Off.set {a : Addr} {H H1 : Hp} {o : HO} (e : Off a H H1) : Off a H (L2.upd H1 a o) := fun b u n h => by rw [upd_ne n]; exact e b u n h
theorem Off.tex {a : Addr} {H H1 H2 : Hp} (e : Off a H H1) (f : Ex H1 H2) : Off a H H2 := fun b u n h => f _ _ (e b u n h)
/-- the arguments of a row: tests by tests -/
def sp_Put_init (K : PySem.W.Frag) (C : Addr) : Sp
  | [.ref a, .str n, .str d, .ref q], H, Q, _ => ∃ dx g ks, H a = some (.ins C dx []) ∧ SqT K H q g ∧ n.length ≤ 1000 ∧ nmOk n = true ∧ kindsFor d g.length = some ks ∧ All2T argOk ks g ∧ g.length ≤ 1000 ∧ ∀ H1, Off a H H1 → H1 a = some (.ins C dx [("name", .str n), ("deed", .str d), ("given", .ref q)]) → Q .non H1
  | _, _, _, _ => False
def bs_Put_init : Prop := ∀ (kV doc pm : Value) (an : Option Addr) (cdv ct : Value) (us rest : List Value), us.length = ["self", "name", "deed"].length → bindArgs (PySem.W.fnOf "__init__" "Put.__init__" (defArgs s_Put_init) (defBody s_Put_init) (defScope s_Put_init) .none kV doc pm an cdv ct) ⟨us ++ rest, []⟩ = (newTuple rest >>= fun t => pure ((["self", "name", "deed"] : List Str).zip us ++ [(("given" : Str), t)]))
theorem bd_Put_init : bs_Put_init := fun kV doc pm an cdv ct us rest h => by
  match us, rest, h with
  | [a, b, c], [], _ => rfl
  | [a, b, c], r :: rs, _ => rfl
theorem ok_Put_init (T : Txt w K mg a_is_integer a_is_number a_is_name a_are_rows a_texts a_needed a_fits a_is_of a_inner a_flat a_names_in a_bare a_named a_law_deal a_law_draw a_law_pick a_law_words a_law_kinds a_law_put a_law_ask a_law_count a_law_rows a_law_ask_text a_law_lines a_law_all_lines a_law_ask_of a_law_row_of a_law_deed a_law_begun a_law_alike a_law a_NoRow_init a_InvalidRow_init a_Put_init a_Put_eq a_Put_str a_If_init a_If_eq a_If_str a_Times_init a_Times_eq a_Times_str a_Stop_eq a_Stop_str a_Ask_init a_Ask_eq a_Ask_str a_Not_init a_Not_eq a_Not_str a_Program_init a_Program_str a_Sheet_init a_Sheet_drop a_Sheet_made a_Sheet_len a_Sheet_getitem a_Sheet_setitem a_Sheet_iadd a_NoRow a_InvalidRow a_Put a_If a_Times a_Stop a_Ask a_Not a_Row a_Test a_Program a_Sheet a_DEEDS a_SIGNS a_WORDS a_If_init_d0 a_Program_init_d0 a_Sheet_init_d0 d_is_integer d_is_number d_is_name d_are_rows d_texts d_needed d_fits d_is_of d_inner d_flat d_names_in d_bare d_named d_law_deal d_law_draw d_law_pick d_law_words d_law_kinds d_law_put d_law_ask d_law_count d_law_rows d_law_ask_text d_law_lines d_law_all_lines d_law_ask_of d_law_row_of d_law_deed d_law_begun d_law_alike d_law d_NoRow_init d_InvalidRow_init d_Put_init d_Put_eq d_Put_str d_If_init d_If_eq d_If_str d_Times_init d_Times_eq d_Times_str d_Stop_eq d_Stop_str d_Ask_init d_Ask_eq d_Ask_str d_Not_init d_Not_eq d_Not_str d_Program_init d_Program_str d_Sheet_init d_Sheet_drop d_Sheet_made d_Sheet_len d_Sheet_getitem d_Sheet_setitem d_Sheet_iadd) : FnR P w K mg base CX0 6 a_Put_init (fun vs H Q E => ∃ ws rest, vs = ws ++ rest ∧ ws.length = 3 ∧ rest.length ≤ sizeLine ∧ ∀ p, H p = none → sp_Put_init K a_Put (ws ++ [V.ref p]) (upd H p (.tup rest)) Q E) := by
  have G_is_name := ok_is_name (P := P) (w := w) (base := base) T
  have G_fits := ok_fits (P := P) (w := w) (base := base) T
  obtain ⟨oc, od, kV, doc, pm, an, cdv, ct, osl, hfd, lk, hcd⟩ := T.F_Put_init.ex
  rw [hfd] at lk
  refine StX.fn_star (ps := ["self", "name", "deed"]) (pv := "given") lk hcd sc_Put_init StX.cxUp_none (bd_Put_init kV doc pm an cdv ct) fun A outer s H vs Q E hr h => ?_
  unfold sp_Put_init at h; split at h
  case h_2 => exact h.elim
  rename_i a n d q0
  obtain ⟨dx, g, ks, h1, h2, h3, h4, h5, h6, h7, q⟩ := h
  refine ⟨_, ((pss_cons (ps_if (pt_not (pt_val (pe_call G_is_name (hr.mono (by decide)) (by rfl) T.g_is_name T.F_is_name.kp T.b_is_name .nil pass0 (pa_cons (pv 1) pa_nil))))
      (pss_one ps_never)
      pss_nil)
      (pss_cons (ps_if (PW.pt (pw_or (pt_not (pt_val (pe_callB call_isiV (by rfl) T.z_isinstance (by decide +kernel) (pa_cons (pv 2) (pa_cons (pe_bltn (v := .ty "str") (by rfl) T.z_str (by decide +kernel) rfl) pa_nil))))) (pw_or1 (pt_cmpR (op_notIn_kdE T.D_DEEDS) (pv 2) (pe_globE (by rfl) T.g_DEEDS) (by rfl)))))
      (pss_one ps_never)
      pss_nil)
      (pss_cons (ps_if (pt_not (pt_val (pe_call G_fits (hr.mono (by decide)) (by rfl) T.g_fits T.F_fits.kp T.b_fits .nil pass0 (pa_cons (pv 2) (pa_cons (pv 3) pa_nil)))))
      (pss_one ps_never)
      pss_nil)
      (pss_cons (ps_fld (pv 0) (pv 1) (by rfl))
      (pss_cons (ps_fld (pv 0) (pv 2) (by rfl))
      (pss_one (ps_fld (pv 0) (pv 3) (by rfl))))))))).nox, ?_⟩
  walk_at "st"
  walk_at "vc"
  refine ⟨by omega, fun H1 e1 => ⟨true, by rw [h4], ?_⟩⟩
  rw [if_neg (by decide)]
  refine ⟨true, by decide +kernel, ?_⟩
  rw [if_neg (by decide)]
  obtain ⟨t, ht⟩ := deedIn T h5
  refine ⟨_, ht, ?_⟩
  rw [if_neg (by simp)]
  refine ⟨g, ks, e1.sqt h2, h5, h6, h7, fun H2 e2 => ⟨true, rfl, ?_⟩⟩
  rw [if_neg (by decide)]
  have e12 := e1.trans e2
  refine ⟨_, rfl, _, rfl, a, a_Put, dx, [], rfl, e12 _ _ h1, T.oc_Put.cl, T.nF_Put_name, by decide, ?_⟩
  refine ⟨_, rfl, _, rfl, a, a_Put, dx, _, rfl, upd_same, T.oc_Put.cl, T.nF_Put_deed, (show (1 : Nat) < 1000 by decide), ?_⟩
  refine ⟨_, rfl, _, rfl, a, a_Put, dx, _, rfl, upd_same, T.oc_Put.cl, T.nF_Put_given, (show (2 : Nat) < 1000 by decide), ?_⟩
  rw [upd_upd, upd_upd]
  exact q _ (Off.upd e12) upd_same
/-! ### the other rows and the tests, made -/
def wordTab : List (Str × Nat) := [("same", 2), ("less", 2), ("divides", 2), ("mirrored", 1), ("unlike", 1)]
theorem wordAt (T : Txt w K mg a_is_integer a_is_number a_is_name a_are_rows a_texts a_needed a_fits a_is_of a_inner a_flat a_names_in a_bare a_named a_law_deal a_law_draw a_law_pick a_law_words a_law_kinds a_law_put a_law_ask a_law_count a_law_rows a_law_ask_text a_law_lines a_law_all_lines a_law_ask_of a_law_row_of a_law_deed a_law_begun a_law_alike a_law a_NoRow_init a_InvalidRow_init a_Put_init a_Put_eq a_Put_str a_If_init a_If_eq a_If_str a_Times_init a_Times_eq a_Times_str a_Stop_eq a_Stop_str a_Ask_init a_Ask_eq a_Ask_str a_Not_init a_Not_eq a_Not_str a_Program_init a_Program_str a_Sheet_init a_Sheet_drop a_Sheet_made a_Sheet_len a_Sheet_getitem a_Sheet_setitem a_Sheet_iadd a_NoRow a_InvalidRow a_Put a_If a_Times a_Stop a_Ask a_Not a_Row a_Test a_Program a_Sheet a_DEEDS a_SIGNS a_WORDS a_If_init_d0 a_Program_init_d0 a_Sheet_init_d0 d_is_integer d_is_number d_is_name d_are_rows d_texts d_needed d_fits d_is_of d_inner d_flat d_names_in d_bare d_named d_law_deal d_law_draw d_law_pick d_law_words d_law_kinds d_law_put d_law_ask d_law_count d_law_rows d_law_ask_text d_law_lines d_law_all_lines d_law_ask_of d_law_row_of d_law_deed d_law_begun d_law_alike d_law d_NoRow_init d_InvalidRow_init d_Put_init d_Put_eq d_Put_str d_If_init d_If_eq d_If_str d_Times_init d_Times_eq d_Times_str d_Stop_eq d_Stop_str d_Ask_init d_Ask_eq d_Ask_str d_Not_init d_Not_eq d_Not_str d_Program_init d_Program_str d_Sheet_init d_Sheet_drop d_Sheet_made d_Sheet_len d_Sheet_getitem d_Sheet_setitem d_Sheet_iadd) : ∀ p ∈ wordTab, ∃ t, PySem.W.nsIn K a_WORDS p.1 = some (some (.int (p.2 : Int) t)) := by
  intro p hp
  simp only [wordTab, List.mem_cons, List.not_mem_nil, or_false] at hp
  rcases hp with rfl | rfl | rfl | rfl | rfl
  · exact T.I_WORDS_0
  · exact T.I_WORDS_1
  · exact T.I_WORDS_2
  · exact T.I_WORDS_3
  · exact T.I_WORDS_4
def nameOk (x : Str) : Prop := x.length ≤ 1000 ∧ nmOk x = true
def sp_Ask_init (K : PySem.W.Frag) (C : Addr) : Sp
  | [.ref a, .str x, .ref q], H, Q, _ => ∃ (dx : Addr) (ns : List Str), H a = some (.ins C dx []) ∧ SqT K H q (ns.map V.str) ∧ (x, ns.length) ∈ wordTab ∧ (∀ n ∈ ns, nameOk n) ∧ ∀ H1, Off a H H1 → H1 a = some (.ins C dx [("word", .str x), ("names", .ref q)]) → Q .non H1
  | _, _, _, _ => False
def bs_Ask_init : Prop := ∀ (kV doc pm : Value) (an : Option Addr) (cdv ct : Value) (us rest : List Value), us.length = ["self", "word"].length → bindArgs (PySem.W.fnOf "__init__" "Ask.__init__" (defArgs s_Ask_init) (defBody s_Ask_init) (defScope s_Ask_init) .none kV doc pm an cdv ct) ⟨us ++ rest, []⟩ = (newTuple rest >>= fun t => pure ((["self", "word"] : List Str).zip us ++ [(("names" : Str), t)]))
theorem bd_Ask_init : bs_Ask_init := fun kV doc pm an cdv ct us rest h => by
  match us, rest, h with
  | [a, b], [], _ => rfl
  | [a, b], r :: rs, _ => rfl
theorem ok_Ask_init (T : Txt w K mg a_is_integer a_is_number a_is_name a_are_rows a_texts a_needed a_fits a_is_of a_inner a_flat a_names_in a_bare a_named a_law_deal a_law_draw a_law_pick a_law_words a_law_kinds a_law_put a_law_ask a_law_count a_law_rows a_law_ask_text a_law_lines a_law_all_lines a_law_ask_of a_law_row_of a_law_deed a_law_begun a_law_alike a_law a_NoRow_init a_InvalidRow_init a_Put_init a_Put_eq a_Put_str a_If_init a_If_eq a_If_str a_Times_init a_Times_eq a_Times_str a_Stop_eq a_Stop_str a_Ask_init a_Ask_eq a_Ask_str a_Not_init a_Not_eq a_Not_str a_Program_init a_Program_str a_Sheet_init a_Sheet_drop a_Sheet_made a_Sheet_len a_Sheet_getitem a_Sheet_setitem a_Sheet_iadd a_NoRow a_InvalidRow a_Put a_If a_Times a_Stop a_Ask a_Not a_Row a_Test a_Program a_Sheet a_DEEDS a_SIGNS a_WORDS a_If_init_d0 a_Program_init_d0 a_Sheet_init_d0 d_is_integer d_is_number d_is_name d_are_rows d_texts d_needed d_fits d_is_of d_inner d_flat d_names_in d_bare d_named d_law_deal d_law_draw d_law_pick d_law_words d_law_kinds d_law_put d_law_ask d_law_count d_law_rows d_law_ask_text d_law_lines d_law_all_lines d_law_ask_of d_law_row_of d_law_deed d_law_begun d_law_alike d_law d_NoRow_init d_InvalidRow_init d_Put_init d_Put_eq d_Put_str d_If_init d_If_eq d_If_str d_Times_init d_Times_eq d_Times_str d_Stop_eq d_Stop_str d_Ask_init d_Ask_eq d_Ask_str d_Not_init d_Not_eq d_Not_str d_Program_init d_Program_str d_Sheet_init d_Sheet_drop d_Sheet_made d_Sheet_len d_Sheet_getitem d_Sheet_setitem d_Sheet_iadd) : FnR P w K mg base CX0 3 a_Ask_init (fun vs H Q E => ∃ ws rest, vs = ws ++ rest ∧ ws.length = 2 ∧ rest.length ≤ sizeLine ∧ ∀ p, H p = none → sp_Ask_init K a_Ask (ws ++ [V.ref p]) (upd H p (.tup rest)) Q E) := by
  have G_is_name := ok_is_name (P := P) (w := w) (base := base) T
  obtain ⟨oc, od, kV, doc, pm, an, cdv, ct, osl, hfd, lk, hcd⟩ := T.F_Ask_init.ex
  rw [hfd] at lk
  refine StX.fn_star (ps := ["self", "word"]) (pv := "names") lk hcd sc_Ask_init StX.cxUp_none (bd_Ask_init kV doc pm an cdv ct) fun A outer s H vs Q E hr h => ?_
  unfold sp_Ask_init at h; split at h
  case h_2 => exact h.elim
  rename_i a x q0
  obtain ⟨dx, ns, h1, h2, h3, h4, q⟩ := h
  refine ⟨_, ((pss_cons (ps_if (PW.pt (pw_or (pt_not (pt_val (pe_callB call_isiV (by rfl) T.z_isinstance (by decide +kernel) (pa_cons (pv 1) (pa_cons (pe_bltn (v := .ty "str") (by rfl) T.z_str (by decide +kernel) rfl) pa_nil))))) (pw_or1 (pt_cmpR (op_notIn_kdE T.D_WORDS) (pv 1) (pe_globE (by rfl) T.g_WORDS) (by rfl)))))
      (pss_one ps_never)
      pss_nil)
      (pss_cons (ps_if (PW.pt (pw_or (pt_cmpR op_ne (pe_callB call_len_seq (by rfl) T.z_len (by decide +kernel) (pa_cons (pv 2) pa_nil)) (pe_ixDX rfl takes0 (pe_globE (by rfl) T.g_WORDS) (pv 1) (fun _ _ => rfl)) (nomark _)) (pw_or1 (pt_not (pt_val (pe_callB (cr_all rfl) (by rfl) T.z_all (by decide +kernel) (pa_cons (pe_lc (own := [("one", 3)]) (g := gName 3) (by rfl) sc_Ask_init.nd (pi_tup (pv 2)) (blkOk_by (own := [("one", 3)]) (N := N_Ask_init) (sc := defScope s_Ask_init) (by decide +kernel)) (fun _ _ _ _ _ => (pg_name (i := 3) sc_Ask_init.nd rfl (by first | exact .inl rfl | exact .inr rfl))) (fun _ _ _ _ _ => pts_nil) (fun _ _ _ _ _ => (pe_call G_is_name (hr.mono (by decide)) (by rfl) T.g_is_name T.F_is_name.kp T.b_is_name .nil pass0 (pa_cons (pv 3) pa_nil)))) pa_nil)))))))
      (pss_one ps_never)
      pss_nil)
      (pss_cons (ps_fld (pv 0) (pv 1) (by rfl))
      (pss_one (ps_fld (pv 0) (pv 2) (by rfl))))))).nox, ?_⟩
  walk_at "st"
  walk_at "vc"
  obtain ⟨t, ht⟩ := wordAt T _ h3
  obtain ⟨es, n, D⟩ := T.D_WORDS
  refine ⟨true, by decide +kernel, ?_⟩
  rw [if_neg (by decide)]
  refine ⟨_, ht, ?_⟩
  rw [if_neg (by simp)]
  refine ⟨_, .inr h2, _, rfl, a_WORDS, x, rfl, rfl, .inl ⟨.int (ns.length : Nat), ⟨es, n, .int (ns.length : Nat) t, D.at_, D.lit, ht, ⟨t, rfl⟩⟩, rfl, ?_⟩⟩
  rw [if_neg (fun z => z (by rw [List.length_map]))]
  refine ⟨_, rfl, q0, rfl, ⟨_, h2⟩, fun D0 hD => lc_it (walk_tup (xs := ns.map V.str)) (C_ft D0 H) ⟨upd_same, Ex.new hD⟩ (fun i H' _ hP => hP.2.sqt h2) (fun i v H2 H' hi hP y => ?_) (fun H' hP => ?_)⟩
  · obtain ⟨rfl, hv⟩ := y
    rw [List.getElem?_map] at hv
    obtain ⟨z, hz, rfl⟩ := Option.map_eq_some_iff.mp hv
    have ok := h4 z (List.mem_of_getElem? hz)
    rw [List.length_map] at hi
    have hl2 : ns.length ≤ 2 := by
      simp only [wordTab, List.mem_cons, List.not_mem_nil, or_false, Prod.mk.injEq] at h3
      omega
    walk_at "vc"
    refine ⟨ok.1, fun H4 e4 => ?_⟩
    rw [ok.2]
    refine ⟨_, e4 _ _ hP.1, sz_lt (by simp; omega), ?_, (hP.2.trans e4).mut hD⟩
    rw [upd_same, List.replicate_succ', List.map_append]
    rfl
  refine ⟨D0, _, rfl, sq_of hP.1, true, by simp, ?_⟩
  rw [if_neg (by decide)]
  refine ⟨_, rfl, _, rfl, a, a_Ask, dx, [], rfl, hP.2 _ _ h1, T.oc_Ask.cl, T.nF_Ask_word, (show (0 : Nat) < 1000 by decide), ?_⟩
  refine ⟨_, rfl, _, rfl, a, a_Ask, dx, _, rfl, upd_same, T.oc_Ask.cl, T.nF_Ask_names, (show (1 : Nat) < 1000 by decide), ?_⟩
  rw [upd_upd]
  exact q _ (Off.upd hP.2) upd_same
/-- a test's own class -/
theorem TestO.cls {K : PySem.W.Frag} {A : ClsA} {H : Hp} {t : TestM} {v : V} (h : TestO K A H t v) : ∃ a dx fs, v = .ref a ∧ (H a = some (.ins A.ask dx fs) ∨ H a = some (.ins A.not dx fs)) := by
  cases t with
  | ask w ns => obtain ⟨a, dx, q, h1, h2, _⟩ := h; exact ⟨a, dx, _, h1, .inl h2⟩
  | not t => obtain ⟨a, dx, u, h1, h2, _⟩ := h; exact ⟨a, dx, _, h1, .inr h2⟩
/-- isinstance(t, Test) -/
theorem isTest (T : Txt w K mg a_is_integer a_is_number a_is_name a_are_rows a_texts a_needed a_fits a_is_of a_inner a_flat a_names_in a_bare a_named a_law_deal a_law_draw a_law_pick a_law_words a_law_kinds a_law_put a_law_ask a_law_count a_law_rows a_law_ask_text a_law_lines a_law_all_lines a_law_ask_of a_law_row_of a_law_deed a_law_begun a_law_alike a_law a_NoRow_init a_InvalidRow_init a_Put_init a_Put_eq a_Put_str a_If_init a_If_eq a_If_str a_Times_init a_Times_eq a_Times_str a_Stop_eq a_Stop_str a_Ask_init a_Ask_eq a_Ask_str a_Not_init a_Not_eq a_Not_str a_Program_init a_Program_str a_Sheet_init a_Sheet_drop a_Sheet_made a_Sheet_len a_Sheet_getitem a_Sheet_setitem a_Sheet_iadd a_NoRow a_InvalidRow a_Put a_If a_Times a_Stop a_Ask a_Not a_Row a_Test a_Program a_Sheet a_DEEDS a_SIGNS a_WORDS a_If_init_d0 a_Program_init_d0 a_Sheet_init_d0 d_is_integer d_is_number d_is_name d_are_rows d_texts d_needed d_fits d_is_of d_inner d_flat d_names_in d_bare d_named d_law_deal d_law_draw d_law_pick d_law_words d_law_kinds d_law_put d_law_ask d_law_count d_law_rows d_law_ask_text d_law_lines d_law_all_lines d_law_ask_of d_law_row_of d_law_deed d_law_begun d_law_alike d_law d_NoRow_init d_InvalidRow_init d_Put_init d_Put_eq d_Put_str d_If_init d_If_eq d_If_str d_Times_init d_Times_eq d_Times_str d_Stop_eq d_Stop_str d_Ask_init d_Ask_eq d_Ask_str d_Not_init d_Not_eq d_Not_str d_Program_init d_Program_str d_Sheet_init d_Sheet_drop d_Sheet_made d_Sheet_len d_Sheet_getitem d_Sheet_setitem d_Sheet_iadd) {H : Hp} {t : TestM} {v : V} {Q : VK} (h : TestO K ⟨a_Put, a_If, a_Times, a_Stop, a_Ask, a_Not⟩ H t v) (q : Q (.bl true) H) : rIsi K [v, .ref a_Test] H Q := by
  obtain ⟨a, dx, fs, rfl, h1 | h1⟩ := h.cls
  · exact ⟨_, _, _, _, true, rfl, .own _, T.oc_Ask.ty h1, kitO1 T.kits 4 7 (by decide) (by decide), q⟩
  · exact ⟨_, _, _, _, true, rfl, .own _, T.oc_Not.ty h1, kitO1 T.kits 5 7 (by decide) (by decide), q⟩
def sp_Not_init (K : PySem.W.Frag) (A : ClsA) : Sp
  | [.ref a, u], H, Q, _ => ∃ dx t, H a = some (.ins A.not dx []) ∧ TestO K A H t u ∧ ∀ H1, Off a H H1 → H1 a = some (.ins A.not dx [("test", u)]) → Q .non H1
  | _, _, _, _ => False
theorem ok_Not_init (T : Txt w K mg a_is_integer a_is_number a_is_name a_are_rows a_texts a_needed a_fits a_is_of a_inner a_flat a_names_in a_bare a_named a_law_deal a_law_draw a_law_pick a_law_words a_law_kinds a_law_put a_law_ask a_law_count a_law_rows a_law_ask_text a_law_lines a_law_all_lines a_law_ask_of a_law_row_of a_law_deed a_law_begun a_law_alike a_law a_NoRow_init a_InvalidRow_init a_Put_init a_Put_eq a_Put_str a_If_init a_If_eq a_If_str a_Times_init a_Times_eq a_Times_str a_Stop_eq a_Stop_str a_Ask_init a_Ask_eq a_Ask_str a_Not_init a_Not_eq a_Not_str a_Program_init a_Program_str a_Sheet_init a_Sheet_drop a_Sheet_made a_Sheet_len a_Sheet_getitem a_Sheet_setitem a_Sheet_iadd a_NoRow a_InvalidRow a_Put a_If a_Times a_Stop a_Ask a_Not a_Row a_Test a_Program a_Sheet a_DEEDS a_SIGNS a_WORDS a_If_init_d0 a_Program_init_d0 a_Sheet_init_d0 d_is_integer d_is_number d_is_name d_are_rows d_texts d_needed d_fits d_is_of d_inner d_flat d_names_in d_bare d_named d_law_deal d_law_draw d_law_pick d_law_words d_law_kinds d_law_put d_law_ask d_law_count d_law_rows d_law_ask_text d_law_lines d_law_all_lines d_law_ask_of d_law_row_of d_law_deed d_law_begun d_law_alike d_law d_NoRow_init d_InvalidRow_init d_Put_init d_Put_eq d_Put_str d_If_init d_If_eq d_If_str d_Times_init d_Times_eq d_Times_str d_Stop_eq d_Stop_str d_Ask_init d_Ask_eq d_Ask_str d_Not_init d_Not_eq d_Not_str d_Program_init d_Program_str d_Sheet_init d_Sheet_drop d_Sheet_made d_Sheet_len d_Sheet_getitem d_Sheet_setitem d_Sheet_iadd) : FnOk P w K mg base CX0 1 a_Not_init d_Not_init ["self", "test"] (sp_Not_init K ⟨a_Put, a_If, a_Times, a_Stop, a_Ask, a_Not⟩) := by
  refine T.F_Not_init.ok sc_Not_init (fun vs H Q E h => ?_) (fun cdv A outer s H vs Q E hr h => ?_)
  · unfold sp_Not_init at h; split at h; rfl; exact h.elim
  unfold sp_Not_init at h; split at h
  case h_2 => exact h.elim
  rename_i a u
  obtain ⟨dx, t, h1, h2, q⟩ := h
  refine ⟨_, (pss_cons (ps_if (pt_not (pt_val (pe_callB (call_isiK (K := K)) (by rfl) T.z_isinstance (by decide +kernel) (pa_cons (pv 1) (pa_cons (pe_glob (v := .ref a_Test) (by rfl) T.g_Test rfl) pa_nil)))))
      (pss_one ps_never)
      pss_nil)
      (pss_one (ps_fld (pv 0) (pv 1) (by rfl)))), ?_⟩
  walk_at "st"
  walk_at "vc"
  refine isTest T h2 ⟨true, rfl, ?_⟩
  rw [if_neg (by decide)]
  refine ⟨_, rfl, _, rfl, a, a_Not, dx, [], rfl, h1, T.oc_Not.cl, T.nF_Not_test, (show (0 : Nat) < 1000 by decide), q _ (Off.upd (Ex.refl H)) upd_same⟩
end
end My
set_option Elab.async false
set_option linter.all false
set_option maxRecDepth 100000
set_option maxHeartbeats 4000000
set_option exponentiation.threshold 5000
namespace My
open PySem PySem.Spec PyProof.Rows L2 Evl
local macro_rules | `(tactic| walk_at "st") => `(tactic| simp only [L2.start, List.map_cons, List.map_nil, List.length_cons, List.length_nil, Nat.reduceAdd, Nat.reduceSub, List.replicate_succ, List.replicate_zero, List.cons_append, List.nil_append, cxOf, List.append_nil])
local macro_rules | `(tactic| walk_at "vc") => `(tactic| try simp only [tSeq, tAsg, tOp, tUn, tVar, tC, tNil, tCons, gName, rI, rI0, rU, tRet, tIfS, tNot, tAnd, tOr, tB, tTest, tCB, tCall, tAndV, tOrV, tNotV, tNext, tNever, tIf, tChain, tYes, tPart, tNoPart, tPar, tDrop, q_isi, q_vn, q_vb, q_vi, q_vs, kb1, kb2, kb3, kb4, kb5, kb6, kb7, kb8, q_int1, q_int2, q_min, q_max, q_repr, tLst, tTup, rEq, rNe, q_sii, q_sss, q_sbb, q_snn, q_sns, q_ssn, q_ix, q_sl, tSl, tBM, tBM0, q_app, q_pop, gSub, rSetL, L2.wipe, eq_self, decide_true, decide_false, tRevL,
  List.getElem?_cons_succ, List.getElem?_cons_zero, List.set_cons_succ, List.set_cons_zero, Option.some.injEq, exists_eq_left', exists_eq_left, V.int.injEq, V.bl.injEq, V.ref.injEq, V.str.injEq, List.cons.injEq, and_true, true_and, List.append_nil, List.nil_append, List.cons_append, exists_and_left, and_assoc, if_true, if_false, Bool.not_true, Bool.not_false, Bool.false_eq_true, Bool.true_eq_false, reduceIte, tRevL, tPar3, tRevT, tUnl, tCKw, forall_const, Bool.not_eq_true', decide_eq_true_eq, decide_eq_false_iff_not])
section
variable {P : Program} {w : World} {K : PySem.W.Frag} {mg : Str → Option Value} {base : Heap}
variable {a_is_integer a_is_number a_is_name a_are_rows a_texts a_needed a_fits a_is_of a_inner a_flat a_names_in a_bare a_named a_law_deal a_law_draw a_law_pick a_law_words a_law_kinds a_law_put a_law_ask a_law_count a_law_rows a_law_ask_text a_law_lines a_law_all_lines a_law_ask_of a_law_row_of a_law_deed a_law_begun a_law_alike a_law a_NoRow_init a_InvalidRow_init a_Put_init a_Put_eq a_Put_str a_If_init a_If_eq a_If_str a_Times_init a_Times_eq a_Times_str a_Stop_eq a_Stop_str a_Ask_init a_Ask_eq a_Ask_str a_Not_init a_Not_eq a_Not_str a_Program_init a_Program_str a_Sheet_init a_Sheet_drop a_Sheet_made a_Sheet_len a_Sheet_getitem a_Sheet_setitem a_Sheet_iadd a_NoRow a_InvalidRow a_Put a_If a_Times a_Stop a_Ask a_Not a_Row a_Test a_Program a_Sheet a_DEEDS a_SIGNS a_WORDS a_If_init_d0 a_Program_init_d0 a_Sheet_init_d0 : Addr} {d_is_integer d_is_number d_is_name d_are_rows d_texts d_needed d_fits d_is_of d_inner d_flat d_names_in d_bare d_named d_law_deal d_law_draw d_law_pick d_law_words d_law_kinds d_law_put d_law_ask d_law_count d_law_rows d_law_ask_text d_law_lines d_law_all_lines d_law_ask_of d_law_row_of d_law_deed d_law_begun d_law_alike d_law d_NoRow_init d_InvalidRow_init d_Put_init d_Put_eq d_Put_str d_If_init d_If_eq d_If_str d_Times_init d_Times_eq d_Times_str d_Stop_eq d_Stop_str d_Ask_init d_Ask_eq d_Ask_str d_Not_init d_Not_eq d_Not_str d_Program_init d_Program_str d_Sheet_init d_Sheet_drop d_Sheet_made d_Sheet_len d_Sheet_getitem d_Sheet_setitem d_Sheet_iadd : FuncData}
/-- a row's own class -/
theorem RowO.cls {K : PySem.W.Frag} {A : ClsA} {H : Hp} {r : RowM} {v : V} (h : RowO K A H r v) : ∃ a dx fs C, v = .ref a ∧ H a = some (.ins C dx fs) ∧ (C = A.put ∨ C = A.ifr ∨ C = A.times ∨ C = A.stop) := by
  cases r with
  | stop => unfold RowO at h; obtain ⟨a, dx, h1, h2⟩ := h; exact ⟨a, dx, _, _, h1, h2, .inr (.inr (.inr rfl))⟩
  | put n d g => unfold RowO at h; obtain ⟨a, dx, q, h1, h2, _⟩ := h; exact ⟨a, dx, _, _, h1, h2, .inl rfl⟩
  | times c rs => unfold RowO at h; obtain ⟨a, dx, q, vs, h1, h2, _⟩ := h; exact ⟨a, dx, _, _, h1, h2, .inr (.inr (.inl rfl))⟩
  | ifr t rs os => unfold RowO at h; obtain ⟨a, dx, u, q, r, vs, ws, h1, h2, _⟩ := h; exact ⟨a, dx, _, _, h1, h2, .inr (.inl rfl)⟩
theorem isRow (T : Txt w K mg a_is_integer a_is_number a_is_name a_are_rows a_texts a_needed a_fits a_is_of a_inner a_flat a_names_in a_bare a_named a_law_deal a_law_draw a_law_pick a_law_words a_law_kinds a_law_put a_law_ask a_law_count a_law_rows a_law_ask_text a_law_lines a_law_all_lines a_law_ask_of a_law_row_of a_law_deed a_law_begun a_law_alike a_law a_NoRow_init a_InvalidRow_init a_Put_init a_Put_eq a_Put_str a_If_init a_If_eq a_If_str a_Times_init a_Times_eq a_Times_str a_Stop_eq a_Stop_str a_Ask_init a_Ask_eq a_Ask_str a_Not_init a_Not_eq a_Not_str a_Program_init a_Program_str a_Sheet_init a_Sheet_drop a_Sheet_made a_Sheet_len a_Sheet_getitem a_Sheet_setitem a_Sheet_iadd a_NoRow a_InvalidRow a_Put a_If a_Times a_Stop a_Ask a_Not a_Row a_Test a_Program a_Sheet a_DEEDS a_SIGNS a_WORDS a_If_init_d0 a_Program_init_d0 a_Sheet_init_d0 d_is_integer d_is_number d_is_name d_are_rows d_texts d_needed d_fits d_is_of d_inner d_flat d_names_in d_bare d_named d_law_deal d_law_draw d_law_pick d_law_words d_law_kinds d_law_put d_law_ask d_law_count d_law_rows d_law_ask_text d_law_lines d_law_all_lines d_law_ask_of d_law_row_of d_law_deed d_law_begun d_law_alike d_law d_NoRow_init d_InvalidRow_init d_Put_init d_Put_eq d_Put_str d_If_init d_If_eq d_If_str d_Times_init d_Times_eq d_Times_str d_Stop_eq d_Stop_str d_Ask_init d_Ask_eq d_Ask_str d_Not_init d_Not_eq d_Not_str d_Program_init d_Program_str d_Sheet_init d_Sheet_drop d_Sheet_made d_Sheet_len d_Sheet_getitem d_Sheet_setitem d_Sheet_iadd) {H : Hp} {r : RowM} {v : V} {Q : VK} (h : RowO K ⟨a_Put, a_If, a_Times, a_Stop, a_Ask, a_Not⟩ H r v) (q : Q (.bl true) H) : rIsi K [v, .ref a_Row] H Q := by
  obtain ⟨a, dx, fs, C, rfl, h1, rfl | rfl | rfl | rfl⟩ := h.cls
  · exact ⟨_, _, _, _, true, rfl, .own _, T.oc_Put.ty h1, kitO1 T.kits 0 6 (by decide) (by decide), q⟩
  · exact ⟨_, _, _, _, true, rfl, .own _, T.oc_If.ty h1, kitO1 T.kits 1 6 (by decide) (by decide), q⟩
  · exact ⟨_, _, _, _, true, rfl, .own _, T.oc_Times.ty h1, kitO1 T.kits 2 6 (by decide) (by decide), q⟩
  · exact ⟨_, _, _, _, true, rfl, .own _, T.oc_Stop.ty h1, kitO1 T.kits 3 6 (by decide) (by decide), q⟩
theorem RowOs.at_ {K : PySem.W.Frag} {A : ClsA} {H : Hp} : ∀ {rs : List RowM} {vs : List V} {i : Nat} {v : V}, RowOs K A H rs vs → vs[i]? = some v → ∃ r, rs[i]? = some r ∧ RowO K A H r v
  | [], vs, i, v, h, hv => by unfold RowOs at h; subst h; simp at hv
  | r :: rs, vs, i, v, h, hv => by
    unfold RowOs at h
    obtain ⟨x, ws, rfl, h1, h2⟩ := h
    cases i with
    | zero => rw [List.getElem?_cons_zero] at hv; cases hv; exact ⟨r, rfl, h1⟩
    | succ i => rw [List.getElem?_cons_succ] at hv ⊢; exact h2.at_ hv
theorem RowOs.len {K : PySem.W.Frag} {A : ClsA} {H : Hp} : ∀ {rs : List RowM} {vs : List V}, RowOs K A H rs vs → vs.length = rs.length
  | [], vs, h => by unfold RowOs at h; subst h; rfl
  | r :: rs, vs, h => by
    unfold RowOs at h
    obtain ⟨x, ws, rfl, h1, h2⟩ := h
    rw [List.length_cons, List.length_cons, h2.len]
theorem sqt_tyx {K : PySem.W.Frag} {H : Hp} {a : Addr} {xs : List V} (h : SqT K H a xs) : TyX K H (.ref a) (.type "tuple") := by
  rcases h with (h | ⟨o, h⟩) | ⟨o, its, n, l, c, _⟩
  · exact .base (.tup h)
  · exact .fTuple h
  · exact .kTuple l c
def sp_are_rows (K : PySem.W.Frag) (A : ClsA) : Sp
  | [.ref p], H, Q, _ => ∃ rs vs, (H p = some (.lst vs) ∨ SqT K H p vs) ∧ RowOs K A H rs vs ∧ vs.length ≤ 1000 ∧ ∀ H', Ex H H' → Q (.bl true) H'
  | _, _, _, _ => False
theorem ok_are_rows (T : Txt w K mg a_is_integer a_is_number a_is_name a_are_rows a_texts a_needed a_fits a_is_of a_inner a_flat a_names_in a_bare a_named a_law_deal a_law_draw a_law_pick a_law_words a_law_kinds a_law_put a_law_ask a_law_count a_law_rows a_law_ask_text a_law_lines a_law_all_lines a_law_ask_of a_law_row_of a_law_deed a_law_begun a_law_alike a_law a_NoRow_init a_InvalidRow_init a_Put_init a_Put_eq a_Put_str a_If_init a_If_eq a_If_str a_Times_init a_Times_eq a_Times_str a_Stop_eq a_Stop_str a_Ask_init a_Ask_eq a_Ask_str a_Not_init a_Not_eq a_Not_str a_Program_init a_Program_str a_Sheet_init a_Sheet_drop a_Sheet_made a_Sheet_len a_Sheet_getitem a_Sheet_setitem a_Sheet_iadd a_NoRow a_InvalidRow a_Put a_If a_Times a_Stop a_Ask a_Not a_Row a_Test a_Program a_Sheet a_DEEDS a_SIGNS a_WORDS a_If_init_d0 a_Program_init_d0 a_Sheet_init_d0 d_is_integer d_is_number d_is_name d_are_rows d_texts d_needed d_fits d_is_of d_inner d_flat d_names_in d_bare d_named d_law_deal d_law_draw d_law_pick d_law_words d_law_kinds d_law_put d_law_ask d_law_count d_law_rows d_law_ask_text d_law_lines d_law_all_lines d_law_ask_of d_law_row_of d_law_deed d_law_begun d_law_alike d_law d_NoRow_init d_InvalidRow_init d_Put_init d_Put_eq d_Put_str d_If_init d_If_eq d_If_str d_Times_init d_Times_eq d_Times_str d_Stop_eq d_Stop_str d_Ask_init d_Ask_eq d_Ask_str d_Not_init d_Not_eq d_Not_str d_Program_init d_Program_str d_Sheet_init d_Sheet_drop d_Sheet_made d_Sheet_len d_Sheet_getitem d_Sheet_setitem d_Sheet_iadd) : FnOk P w K mg base CX0 1 a_are_rows d_are_rows ["value"] (sp_are_rows K ⟨a_Put, a_If, a_Times, a_Stop, a_Ask, a_Not⟩) := by
  refine T.F_are_rows.ok sc_are_rows (fun vs H Q E h => ?_) (fun cdv A outer s H vs Q E hr h => ?_)
  · unfold sp_are_rows at h; split at h; rfl; exact h.elim
  unfold sp_are_rows at h; split at h
  case h_2 => exact h.elim
  rename_i p
  obtain ⟨rs, vs, hp, ho, hl, q⟩ := h
  refine ⟨_, (pss_one (ps_ret (pe_and (pe_callB (call_isiTK (K := K)) (by rfl) T.z_isinstance (by decide +kernel) (pa_cons (pv 0) (pa_cons (pe_tup (pa_cons (pe_bltn (v := .ty "list") (by rfl) T.z_list (by decide +kernel) rfl) (pa_cons (pe_bltn (v := .ty "tuple") (by rfl) T.z_tuple (by decide +kernel) rfl) pa_nil))) pa_nil))) (pe_one (pe_callB (cr_all rfl) (by rfl) T.z_all (by decide +kernel) (pa_cons (pe_lc (own := [("one", 1)]) (g := gName 1) (by rfl) sc_are_rows.nd (pi_lt (pv 0)) (blkOk_by (own := [("one", 1)]) (N := N_are_rows) (sc := defScope s_are_rows) (by decide +kernel)) (fun _ _ _ _ _ => (pg_name (i := 1) sc_are_rows.nd rfl (by first | exact .inl rfl | exact .inr rfl))) (fun _ _ _ _ _ => pts_nil) (fun _ _ _ _ _ => (pe_callB (call_isiK (K := K)) (by rfl) T.z_isinstance (by decide +kernel) (pa_cons (pv 1) (pa_cons (pe_glob (v := .ref a_Row) (by rfl) T.g_Row rfl) pa_nil))))) pa_nil)))))), ?_⟩
  walk_at "st"
  walk_at "vc"
  refine ⟨sz_le (by simp), fun p1 h1 => ?_⟩
  have e1 := Ex.new h1 (o := .tup [.ty "list", .ty "tuple"])
  have w1 : upd H p1 (.tup [.ty "list", .ty "tuple"]) p1 = some (.tup [.ty "list", .ty "tuple"]) := upd_same
  generalize upd H p1 (.tup [.ty "list", .ty "tuple"]) = H1 at *
  have hp1 : H1 p = some (.lst vs) ∨ SqT K H1 p vs := hp.imp (fun h => e1 _ _ h) (fun h => (Kp.of_ex e1).sqt h)
  have ho1 := ho.kp (Kp.of_ex e1)
  have body : ∀ (i : Nat) (v : V) (D : Addr) (H2 : Hp), H1 D = none → vs[i]? = some v → C_ft D H1 i H2 → rIsi K [v, .ref a_Row] H2 fun y H4 => ∃ acc, H4 D = some (.lst acc) ∧ acc.length < sizeLine ∧ C_ft D H1 (i + 1) (upd H4 D (.lst (acc ++ [y]))) := by
    intro i v D H2 hD hv hP
    obtain ⟨r, hr0, hr1⟩ := ho1.at_ hv
    have hi := (List.getElem?_eq_some_iff.mp hv).1
    refine isRow T (hr1.kp (Kp.of_ex hP.2)) ⟨_, hP.1, sz_lt (by simp; omega), ?_, hP.2.mut hD⟩
    rw [upd_same, List.replicate_succ', List.map_append]
    rfl
  have fin : ∀ (D : Addr) (H2 : Hp), C_ft D H1 vs.length H2 → rAll K [.ref D] H2 Q := fun D H2 hP => ⟨D, _, rfl, sq_of hP.1, by rw [show (List.replicate vs.length true).all id = true by simp]; exact q _ (e1.trans hP.2)⟩
  rcases hp1 with hl1 | ht1
  · refine ⟨_, p1, _, .type "list", _, true, rfl, w1, .cons (.ty _) (.cons (.ty _) .nil), .base (.lst hl1), ?_, _, rfl, ?_⟩
    · exact kitAny_cons (b := true) (kit_ty kb9) (fun z => by cases z) (fun _ => rfl)
    rw [if_pos rfl]
    refine ⟨_, rfl, p, rfl, .inl ⟨⟨_, sq_of hl1⟩, fun D hD => lc_it (walk_list (xs := vs)) (C_ft D H1) ⟨upd_same, Ex.new hD⟩ (fun i H' _ hP => hP.2.sql (sq_of hl1)) (fun i v H2 H' hi hP y => ?_) (fun H' hP => fin D H' hP)⟩⟩
    obtain ⟨rfl, hv⟩ := y
    walk_at "vc"
    exact body i v D _ hD hv hP
  · refine ⟨_, p1, _, .type "tuple", _, true, rfl, w1, .cons (.ty _) (.cons (.ty _) .nil), sqt_tyx ht1, ?_, _, rfl, ?_⟩
    · exact kitAny_cons (b := false) (kit_ty kb11) (fun _ => kitAny_cons (b := true) (kit_ty kb12) (fun z => by cases z) (fun _ => rfl)) (fun z => by cases z)
    rw [if_pos rfl]
    refine ⟨_, rfl, p, rfl, .inr ⟨⟨_, ht1⟩, fun D hD => lc_it (walk_tup (xs := vs)) (C_ft D H1) ⟨upd_same, Ex.new hD⟩ (fun i H' _ hP => hP.2.sqt ht1) (fun i v H2 H' hi hP y => ?_) (fun H' hP => fin D H' hP)⟩⟩
    obtain ⟨rfl, hv⟩ := y
    walk_at "vc"
    exact body i v D _ hD hv hP
/-- tuple(x) of what may be a list or a tuple -/
theorem tupleX {K : PySem.W.Frag} {i : Nat} {σ : L2.St} {a p C dx : Addr} {fs : List (Str × V)} {H H1 : Hp} {vs : List V} {Q : VK} (hs : σ[i]? = some (some (.ref p))) (o : Off a H H1) (h1 : H a = some (.ins C dx fs)) (h3 : H p = some (.lst vs) ∨ H p = some (.tup vs)) (ha : H1 a ≠ none)
    (q : ∀ r H2, Ex H1 H2 → H2 r = some (.tup vs) → r ≠ a → Q (.ref r) H2) : tCB (fun xs H Q => ∃ p, xs = [V.ref p] ∧ ∃ x, (SqL K H p x ∧ ∀ (l : Addr), H l = none → Q (V.ref l) (upd H l (HO.tup x))) ∨ SqT K H p x ∧ Q (V.ref p) H) (tCons (tVar i) tNil) σ H1 Q := by
  have np : p ≠ a := fun e => by
    rw [e, h1] at h3
    rcases h3 with z | z <;> cases z
  refine ⟨_, hs, p, rfl, vs, ?_⟩
  rcases h3 with h | h
  · exact .inl ⟨sq_of (o _ _ np h), fun l hl => q l _ (Ex.new hl) upd_same (fun e => by rw [e] at hl; exact ha hl)⟩
  · exact .inr ⟨st_of (o _ _ np h), q p H1 (Ex.refl _) (o _ _ np h) np⟩
theorem fldT {K : PySem.W.Frag} {i : Nat} {σ : L2.St} {a p C dx : Addr} {fs fs1 : List (Str × V)} {H H1 : Hp} {vs : List V} {f : Str} {D : Ends} (h0 : σ[0]? = some (some (.ref a))) (hs : σ[i]? = some (some (.ref p))) (o : Off a H H1) (h1 : H a = some (.ins C dx fs)) (h3 : H p = some (.lst vs) ∨ H p = some (.tup vs)) (ha : H1 a = some (.ins C dx fs1)) (cl : Cls K C) (nf : NoAttr K C f) (hl : fs1.length < 1000)
    (q : ∀ r H2, Ex H1 H2 → H2 r = some (.tup vs) → r ≠ a → D.nx σ (upd H2 a (.ins C dx (putF f (.ref r) fs1)))) : sFld K (tVar 0) (tCB (fun xs H Q => ∃ p, xs = [V.ref p] ∧ ∃ x, (SqL K H p x ∧ ∀ (l : Addr), H l = none → Q (V.ref l) (upd H l (HO.tup x))) ∨ SqT K H p x ∧ Q (V.ref p) H) (tCons (tVar i) tNil)) f D σ H1 := by
  unfold sFld
  exact tupleX hs o h1 h3 (by rw [ha]; simp) fun r H2 e2 hr nra => ⟨_, h0, a, C, dx, _, rfl, e2 _ _ ha, cl, nf, hl, q r H2 e2 hr nra⟩
def sp_Times_init (K : PySem.W.Frag) (A : ClsA) : Sp
  | [.ref a, .int c, .ref p], H, Q, _ => ∃ dx rs vs, H a = some (.ins A.times dx []) ∧ 0 ≤ c ∧ (H p = some (.lst vs) ∨ H p = some (.tup vs)) ∧ RowOs K A H rs vs ∧ vs.length ≤ 1000 ∧
      ∀ H1 q, Off a H H1 → H1 q = some (.tup vs) → H1 a = some (.ins A.times dx [("count", .int c), ("rows", .ref q)]) → Q .non H1
  | _, _, _, _ => False
theorem ok_Times_init (T : Txt w K mg a_is_integer a_is_number a_is_name a_are_rows a_texts a_needed a_fits a_is_of a_inner a_flat a_names_in a_bare a_named a_law_deal a_law_draw a_law_pick a_law_words a_law_kinds a_law_put a_law_ask a_law_count a_law_rows a_law_ask_text a_law_lines a_law_all_lines a_law_ask_of a_law_row_of a_law_deed a_law_begun a_law_alike a_law a_NoRow_init a_InvalidRow_init a_Put_init a_Put_eq a_Put_str a_If_init a_If_eq a_If_str a_Times_init a_Times_eq a_Times_str a_Stop_eq a_Stop_str a_Ask_init a_Ask_eq a_Ask_str a_Not_init a_Not_eq a_Not_str a_Program_init a_Program_str a_Sheet_init a_Sheet_drop a_Sheet_made a_Sheet_len a_Sheet_getitem a_Sheet_setitem a_Sheet_iadd a_NoRow a_InvalidRow a_Put a_If a_Times a_Stop a_Ask a_Not a_Row a_Test a_Program a_Sheet a_DEEDS a_SIGNS a_WORDS a_If_init_d0 a_Program_init_d0 a_Sheet_init_d0 d_is_integer d_is_number d_is_name d_are_rows d_texts d_needed d_fits d_is_of d_inner d_flat d_names_in d_bare d_named d_law_deal d_law_draw d_law_pick d_law_words d_law_kinds d_law_put d_law_ask d_law_count d_law_rows d_law_ask_text d_law_lines d_law_all_lines d_law_ask_of d_law_row_of d_law_deed d_law_begun d_law_alike d_law d_NoRow_init d_InvalidRow_init d_Put_init d_Put_eq d_Put_str d_If_init d_If_eq d_If_str d_Times_init d_Times_eq d_Times_str d_Stop_eq d_Stop_str d_Ask_init d_Ask_eq d_Ask_str d_Not_init d_Not_eq d_Not_str d_Program_init d_Program_str d_Sheet_init d_Sheet_drop d_Sheet_made d_Sheet_len d_Sheet_getitem d_Sheet_setitem d_Sheet_iadd) : FnOk P w K mg base CX0 3 a_Times_init d_Times_init ["self", "count", "rows"] (sp_Times_init K ⟨a_Put, a_If, a_Times, a_Stop, a_Ask, a_Not⟩) := by
  have G_is_number := ok_is_number (P := P) (w := w) (base := base) T
  have G_are_rows := ok_are_rows (P := P) (w := w) (base := base) T
  refine T.F_Times_init.ok sc_Times_init (fun vs H Q E h => ?_) (fun cdv A outer s H vs Q E hr h => ?_)
  · unfold sp_Times_init at h; split at h; rfl; exact h.elim
  unfold sp_Times_init at h; split at h
  case h_2 => exact h.elim
  rename_i a c p
  obtain ⟨dx, rs, vs, h1, h2, h3, h4, h5, q⟩ := h
  refine ⟨_, (pss_cons (ps_if (pt_not (pt_val (pe_call G_is_number (hr.mono (by decide)) (by rfl) T.g_is_number T.F_is_number.kp T.b_is_number .nil pass0 (pa_cons (pv 1) pa_nil))))
      (pss_one ps_never)
      pss_nil)
      (pss_cons (ps_if (pt_not (pt_val (pe_call G_are_rows (hr.mono (by decide)) (by rfl) T.g_are_rows T.F_are_rows.kp T.b_are_rows .nil pass0 (pa_cons (pv 2) pa_nil))))
      (pss_one ps_never)
      pss_nil)
      (pss_cons (ps_fld (pv 0) (pv 1) (by rfl))
      (pss_one (ps_fld (pv 0) (pe_callTy call_tuple_of (by rfl) T.z_tuple (by decide +kernel) (pa_cons (pv 2) pa_nil)) (by rfl)))))), ?_⟩
  walk_at "st"
  walk_at "vc"
  refine ⟨true, by rw [decide_eq_true h2], ?_⟩
  rw [if_neg (by decide)]
  refine ⟨rs, vs, h3.imp id st_of, h4, h5, fun H1 e1 => ⟨true, rfl, ?_⟩⟩
  rw [if_neg (by decide)]
  refine ⟨_, rfl, _, rfl, a, a_Times, dx, [], rfl, e1 _ _ h1, T.oc_Times.cl, T.nF_Times_count, (show (0 : Nat) < 1000 by decide), ?_⟩
  have o1 : Off a H (upd H1 a (.ins a_Times dx (putF "count" (.int c) []))) := Off.upd e1
  refine fldT rfl rfl o1 h1 h3 upd_same T.oc_Times.cl T.nF_Times_rows (show (1 : Nat) < 1000 by decide) fun r H2 e2 hr nra => ?_
  exact q _ r (o1.tex e2).set (by rw [upd_ne nra]; exact hr) upd_same
def sp_If_init (K : PySem.W.Frag) (A : ClsA) : Sp
  | [.ref a, u, .ref p, .ref r], H, Q, _ => ∃ dx t rs vs os ws, H a = some (.ins A.ifr dx []) ∧ TestO K A H t u ∧ (H p = some (.lst vs) ∨ H p = some (.tup vs)) ∧ RowOs K A H rs vs ∧ vs.length ≤ 1000 ∧ (H r = some (.lst ws) ∨ H r = some (.tup ws)) ∧ RowOs K A H os ws ∧ ws.length ≤ 1000 ∧
      ∀ H1 q q2, Off a H H1 → H1 q = some (.tup vs) → H1 q2 = some (.tup ws) → H1 a = some (.ins A.ifr dx [("test", u), ("rows", .ref q), ("others", .ref q2)]) → Q .non H1
  | _, _, _, _ => False
theorem ok_If_init (T : Txt w K mg a_is_integer a_is_number a_is_name a_are_rows a_texts a_needed a_fits a_is_of a_inner a_flat a_names_in a_bare a_named a_law_deal a_law_draw a_law_pick a_law_words a_law_kinds a_law_put a_law_ask a_law_count a_law_rows a_law_ask_text a_law_lines a_law_all_lines a_law_ask_of a_law_row_of a_law_deed a_law_begun a_law_alike a_law a_NoRow_init a_InvalidRow_init a_Put_init a_Put_eq a_Put_str a_If_init a_If_eq a_If_str a_Times_init a_Times_eq a_Times_str a_Stop_eq a_Stop_str a_Ask_init a_Ask_eq a_Ask_str a_Not_init a_Not_eq a_Not_str a_Program_init a_Program_str a_Sheet_init a_Sheet_drop a_Sheet_made a_Sheet_len a_Sheet_getitem a_Sheet_setitem a_Sheet_iadd a_NoRow a_InvalidRow a_Put a_If a_Times a_Stop a_Ask a_Not a_Row a_Test a_Program a_Sheet a_DEEDS a_SIGNS a_WORDS a_If_init_d0 a_Program_init_d0 a_Sheet_init_d0 d_is_integer d_is_number d_is_name d_are_rows d_texts d_needed d_fits d_is_of d_inner d_flat d_names_in d_bare d_named d_law_deal d_law_draw d_law_pick d_law_words d_law_kinds d_law_put d_law_ask d_law_count d_law_rows d_law_ask_text d_law_lines d_law_all_lines d_law_ask_of d_law_row_of d_law_deed d_law_begun d_law_alike d_law d_NoRow_init d_InvalidRow_init d_Put_init d_Put_eq d_Put_str d_If_init d_If_eq d_If_str d_Times_init d_Times_eq d_Times_str d_Stop_eq d_Stop_str d_Ask_init d_Ask_eq d_Ask_str d_Not_init d_Not_eq d_Not_str d_Program_init d_Program_str d_Sheet_init d_Sheet_drop d_Sheet_made d_Sheet_len d_Sheet_getitem d_Sheet_setitem d_Sheet_iadd) : FnOk P w K mg base CX0 2 a_If_init d_If_init ["self", "test", "rows", "others"] (sp_If_init K ⟨a_Put, a_If, a_Times, a_Stop, a_Ask, a_Not⟩) := by
  have G_are_rows := ok_are_rows (P := P) (w := w) (base := base) T
  refine T.F_If_init.ok sc_If_init (fun vs H Q E h => ?_) (fun cdv A outer s H vs Q E hr h => ?_)
  · unfold sp_If_init at h; split at h; rfl; exact h.elim
  unfold sp_If_init at h; split at h
  case h_2 => exact h.elim
  rename_i a u p r
  obtain ⟨dx, t, rs, vs, os, ws, h1, h2, h3, h4, h5, h6, h7, h8, q⟩ := h
  refine ⟨_, ((pss_cons (ps_if (pt_not (pt_val (pe_callB (call_isiK (K := K)) (by rfl) T.z_isinstance (by decide +kernel) (pa_cons (pv 1) (pa_cons (pe_glob (v := .ref a_Test) (by rfl) T.g_Test rfl) pa_nil)))))
      (pss_one ps_never)
      pss_nil)
      (pss_cons (ps_if (PW.pt (pw_or (pt_not (pt_val (pe_call G_are_rows (hr.mono (by decide)) (by rfl) T.g_are_rows T.F_are_rows.kp T.b_are_rows .nil pass0 (pa_cons (pv 2) pa_nil)))) (pw_or1 (pt_not (pt_val (pe_call G_are_rows (hr.mono (by decide)) (by rfl) T.g_are_rows T.F_are_rows.kp T.b_are_rows .nil pass0 (pa_cons (pv 3) pa_nil)))))))
      (pss_one ps_never)
      pss_nil)
      (pss_cons (ps_fld (pv 0) (pv 1) (by rfl))
      (pss_cons (ps_fld (pv 0) (pe_callTy call_tuple_of (by rfl) T.z_tuple (by decide +kernel) (pa_cons (pv 2) pa_nil)) (by rfl))
      (pss_one (ps_fld (pv 0) (pe_callTy call_tuple_of (by rfl) T.z_tuple (by decide +kernel) (pa_cons (pv 3) pa_nil)) (by rfl)))))))).nox, ?_⟩
  walk_at "st"
  walk_at "vc"
  refine isTest T h2 ⟨true, rfl, ?_⟩
  rw [if_neg (by decide)]
  refine ⟨rs, vs, h3.imp id st_of, h4, h5, fun H1 e1 => ⟨true, rfl, ?_⟩⟩
  rw [if_neg (by decide)]
  have h6' : H1 r = some (.lst ws) ∨ H1 r = some (.tup ws) := by
    rcases h6 with h | h
    · exact .inl (e1 _ _ h)
    · exact .inr (e1 _ _ h)
  refine ⟨os, ws, h6'.imp id st_of, h7.kp (Kp.of_ex e1), h8, fun H2 e2 => ⟨true, rfl, ?_⟩⟩
  rw [if_neg (by decide)]
  have e12 := e1.trans e2
  refine ⟨_, rfl, _, rfl, a, a_If, dx, [], rfl, e12 _ _ h1, T.oc_If.cl, T.nF_If_test, (show (0 : Nat) < 1000 by decide), ?_⟩
  have o1 : Off a H (upd H2 a (.ins a_If dx (putF "test" u []))) := Off.upd e12
  refine fldT rfl rfl o1 h1 h3 upd_same T.oc_If.cl T.nF_If_rows (show (1 : Nat) < 1000 by decide) fun r1 H3 e3 hr1 n1 => ?_
  have o2 := (o1.tex e3).set (o := .ins a_If dx (putF "rows" (.ref r1) (putF "test" u [])))
  refine fldT rfl rfl o2 h1 h6 upd_same T.oc_If.cl T.nF_If_others (show (2 : Nat) < 1000 by decide) fun r2 H4 e4 hr2 n2 => ?_
  exact q _ r1 r2 (o2.tex e4).set (by rw [upd_ne n1]; exact e4 _ _ (by rw [upd_ne n1]; exact hr1)) (by rw [upd_ne n2]; exact hr2) upd_same
end
end My
set_option Elab.async false
set_option linter.all false
set_option maxRecDepth 100000
set_option maxHeartbeats 4000000
set_option exponentiation.threshold 5000
namespace My
open PySem PySem.Spec PyProof.Rows L2 Evl
local macro_rules | `(tactic| walk_at "st") => `(tactic| simp only [L2.start, List.map_cons, List.map_nil, List.length_cons, List.length_nil, Nat.reduceAdd, Nat.reduceSub, List.replicate_succ, List.replicate_zero, List.cons_append, List.nil_append, cxOf, List.append_nil])
local macro_rules | `(tactic| walk_at "vc") => `(tactic| try simp only [tSeq, tAsg, tOp, tUn, tVar, tC, tNil, tCons, gName, rI, rI0, rU, tRet, tIfS, tNot, tAnd, tOr, tB, tTest, tCB, tCall, tAndV, tOrV, tNotV, tNext, tNever, tIf, tChain, tYes, tPart, tNoPart, tPar, tDrop, q_isi, q_vn, q_vb, q_vi, q_vs, kb1, kb2, kb3, kb4, kb5, kb6, kb7, kb8, q_int1, q_int2, q_min, q_max, q_repr, tLst, tTup, rEq, rNe, q_sii, q_sss, q_sbb, q_snn, q_sns, q_ssn, q_ix, q_sl, tSl, tBM, tBM0, q_app, q_pop, gSub, rSetL, L2.wipe, eq_self, decide_true, decide_false, tRevL,
  List.getElem?_cons_succ, List.getElem?_cons_zero, List.set_cons_succ, List.set_cons_zero, Option.some.injEq, exists_eq_left', exists_eq_left, V.int.injEq, V.bl.injEq, V.ref.injEq, V.str.injEq, List.cons.injEq, and_true, true_and, List.append_nil, List.nil_append, List.cons_append, exists_and_left, and_assoc, if_true, if_false, Bool.not_true, Bool.not_false, Bool.false_eq_true, Bool.true_eq_false, reduceIte, tRevL, tPar3, tRevT, tUnl, tCKw, forall_const, Bool.not_eq_true', decide_eq_true_eq, decide_eq_false_iff_not])
section
variable {P : Program} {w : World} {K : PySem.W.Frag} {mg : Str → Option Value} {base : Heap}
variable {a_is_integer a_is_number a_is_name a_are_rows a_texts a_needed a_fits a_is_of a_inner a_flat a_names_in a_bare a_named a_law_deal a_law_draw a_law_pick a_law_words a_law_kinds a_law_put a_law_ask a_law_count a_law_rows a_law_ask_text a_law_lines a_law_all_lines a_law_ask_of a_law_row_of a_law_deed a_law_begun a_law_alike a_law a_NoRow_init a_InvalidRow_init a_Put_init a_Put_eq a_Put_str a_If_init a_If_eq a_If_str a_Times_init a_Times_eq a_Times_str a_Stop_eq a_Stop_str a_Ask_init a_Ask_eq a_Ask_str a_Not_init a_Not_eq a_Not_str a_Program_init a_Program_str a_Sheet_init a_Sheet_drop a_Sheet_made a_Sheet_len a_Sheet_getitem a_Sheet_setitem a_Sheet_iadd a_NoRow a_InvalidRow a_Put a_If a_Times a_Stop a_Ask a_Not a_Row a_Test a_Program a_Sheet a_DEEDS a_SIGNS a_WORDS a_If_init_d0 a_Program_init_d0 a_Sheet_init_d0 : Addr} {d_is_integer d_is_number d_is_name d_are_rows d_texts d_needed d_fits d_is_of d_inner d_flat d_names_in d_bare d_named d_law_deal d_law_draw d_law_pick d_law_words d_law_kinds d_law_put d_law_ask d_law_count d_law_rows d_law_ask_text d_law_lines d_law_all_lines d_law_ask_of d_law_row_of d_law_deed d_law_begun d_law_alike d_law d_NoRow_init d_InvalidRow_init d_Put_init d_Put_eq d_Put_str d_If_init d_If_eq d_If_str d_Times_init d_Times_eq d_Times_str d_Stop_eq d_Stop_str d_Ask_init d_Ask_eq d_Ask_str d_Not_init d_Not_eq d_Not_str d_Program_init d_Program_str d_Sheet_init d_Sheet_drop d_Sheet_made d_Sheet_len d_Sheet_getitem d_Sheet_setitem d_Sheet_iadd : FuncData}
/-! ### the texts of tests -/
def SFt (A : ClsA) (g1 g2 : Addr) : Addr → Addr → Prop := fun C g => (C = A.ask ∧ g = g1) ∨ (C = A.not ∧ g = g2)
/-- str(t), t a test of a depth below n -/
def spTx (K : PySem.W.Frag) (A : ClsA) (n : Nat) : Sp := fun vs H Q _ => ∃ t u, vs = [u] ∧ TestO K A H t u ∧ t.dep < n ∧ t.text.length ≤ 10000000 ∧ ∀ H', Ex H H' → Q (.str t.text) H'
theorem ok_Ask_str (T : Txt w K mg a_is_integer a_is_number a_is_name a_are_rows a_texts a_needed a_fits a_is_of a_inner a_flat a_names_in a_bare a_named a_law_deal a_law_draw a_law_pick a_law_words a_law_kinds a_law_put a_law_ask a_law_count a_law_rows a_law_ask_text a_law_lines a_law_all_lines a_law_ask_of a_law_row_of a_law_deed a_law_begun a_law_alike a_law a_NoRow_init a_InvalidRow_init a_Put_init a_Put_eq a_Put_str a_If_init a_If_eq a_If_str a_Times_init a_Times_eq a_Times_str a_Stop_eq a_Stop_str a_Ask_init a_Ask_eq a_Ask_str a_Not_init a_Not_eq a_Not_str a_Program_init a_Program_str a_Sheet_init a_Sheet_drop a_Sheet_made a_Sheet_len a_Sheet_getitem a_Sheet_setitem a_Sheet_iadd a_NoRow a_InvalidRow a_Put a_If a_Times a_Stop a_Ask a_Not a_Row a_Test a_Program a_Sheet a_DEEDS a_SIGNS a_WORDS a_If_init_d0 a_Program_init_d0 a_Sheet_init_d0 d_is_integer d_is_number d_is_name d_are_rows d_texts d_needed d_fits d_is_of d_inner d_flat d_names_in d_bare d_named d_law_deal d_law_draw d_law_pick d_law_words d_law_kinds d_law_put d_law_ask d_law_count d_law_rows d_law_ask_text d_law_lines d_law_all_lines d_law_ask_of d_law_row_of d_law_deed d_law_begun d_law_alike d_law d_NoRow_init d_InvalidRow_init d_Put_init d_Put_eq d_Put_str d_If_init d_If_eq d_If_str d_Times_init d_Times_eq d_Times_str d_Stop_eq d_Stop_str d_Ask_init d_Ask_eq d_Ask_str d_Not_init d_Not_eq d_Not_str d_Program_init d_Program_str d_Sheet_init d_Sheet_drop d_Sheet_made d_Sheet_len d_Sheet_getitem d_Sheet_setitem d_Sheet_iadd) (n : Nat) : FnR P w K mg base CX0 1 a_Ask_str (onC a_Ask (spTx K ⟨a_Put, a_If, a_Times, a_Stop, a_Ask, a_Not⟩ n)) := by
  have F : FnOk P w K mg base CX0 1 a_Ask_str d_Ask_str ["self"] (onC a_Ask (spTx K ⟨a_Put, a_If, a_Times, a_Stop, a_Ask, a_Not⟩ n)) := by
    refine T.F_Ask_str.ok sc_Ask_str (fun vs H Q E h => ?_) (fun cdv A outer s H vs Q E hr h => ?_)
    · obtain ⟨_, t, u, rfl, _⟩ := h; rfl
    obtain ⟨⟨a, dx, fs, rest, e0, h0⟩, t, u, rfl, ht, hd, hl, q⟩ := h
    refine ⟨_, (pss_one (ps_ret (pe_bm PySem.F.plainAttrs_str PySem.F.slot_str_join PySem.F.type_str_join mt_join pe_str (pa_cons (pe_lst (pa_cons (pe_fld (pv 0) (by rfl)) (StX.pa_star (pe_fld (pv 0) (by rfl)) pa_nil))) pa_nil)))), ?_⟩
    walk_at "st"
    walk_at "vc"
    cases t with
    | not t =>
      obtain ⟨a2, dx2, u2, rfl, h2, _⟩ := ht
      cases e0
      rw [h0] at h2
      exact absurd (HO.ins.inj (Option.some.inj h2)).1 (clsNe T.kits 4 5 (by decide) (by decide) (by decide))
    | ask x ns =>
      obtain ⟨a2, dx2, q2, rfl, h2, h3⟩ := ht
      have e1 : TestM.text (.ask x ns) = Txt.join (Str.ofString " ") (x :: ns) := rfl
      have e2 := join_wt sp1 (ls := x :: ns) (by simp)
      rw [wt_sum, ← e1] at e2
      refine ⟨rfl, ⟨_, rfl, a2, _, dx2, _, .str x, rfl, h2, T.oc_Ask.cl, T.nF_Ask_word, rfl, ⟨_, rfl, a2, _, dx2, _, .ref q2, rfl, h2, T.oc_Ask.cl, T.nF_Ask_names, rfl, q2, _, rfl, .inl h3, ?_⟩⟩⟩
      have hls : (x :: ns).length ≤ 10000001 := by rw [List.length_cons] at e2 ⊢; omega
      refine ⟨by rw [sizeLine_eq]; simp at hls ⊢; omega, fun p hp => ⟨x :: ns, .inl (sq_of (by rw [upd_same]; simp)), by rw [sp1]; omega, ?_⟩⟩
      rw [← e1]
      exact q _ (Ex.new hp)
  exact FnOk.raw (dvs := []) F T.b_Ask_str .nil |>.imp fun vs H Q E h => by simpa using h
theorem ok_Not_str (T : Txt w K mg a_is_integer a_is_number a_is_name a_are_rows a_texts a_needed a_fits a_is_of a_inner a_flat a_names_in a_bare a_named a_law_deal a_law_draw a_law_pick a_law_words a_law_kinds a_law_put a_law_ask a_law_count a_law_rows a_law_ask_text a_law_lines a_law_all_lines a_law_ask_of a_law_row_of a_law_deed a_law_begun a_law_alike a_law a_NoRow_init a_InvalidRow_init a_Put_init a_Put_eq a_Put_str a_If_init a_If_eq a_If_str a_Times_init a_Times_eq a_Times_str a_Stop_eq a_Stop_str a_Ask_init a_Ask_eq a_Ask_str a_Not_init a_Not_eq a_Not_str a_Program_init a_Program_str a_Sheet_init a_Sheet_drop a_Sheet_made a_Sheet_len a_Sheet_getitem a_Sheet_setitem a_Sheet_iadd a_NoRow a_InvalidRow a_Put a_If a_Times a_Stop a_Ask a_Not a_Row a_Test a_Program a_Sheet a_DEEDS a_SIGNS a_WORDS a_If_init_d0 a_Program_init_d0 a_Sheet_init_d0 d_is_integer d_is_number d_is_name d_are_rows d_texts d_needed d_fits d_is_of d_inner d_flat d_names_in d_bare d_named d_law_deal d_law_draw d_law_pick d_law_words d_law_kinds d_law_put d_law_ask d_law_count d_law_rows d_law_ask_text d_law_lines d_law_all_lines d_law_ask_of d_law_row_of d_law_deed d_law_begun d_law_alike d_law d_NoRow_init d_InvalidRow_init d_Put_init d_Put_eq d_Put_str d_If_init d_If_eq d_If_str d_Times_init d_Times_eq d_Times_str d_Stop_eq d_Stop_str d_Ask_init d_Ask_eq d_Ask_str d_Not_init d_Not_eq d_Not_str d_Program_init d_Program_str d_Sheet_init d_Sheet_drop d_Sheet_made d_Sheet_len d_Sheet_getitem d_Sheet_setitem d_Sheet_iadd) (n lv : Nat) (HS : ∀ C g, SFt ⟨a_Put, a_If, a_Times, a_Stop, a_Ask, a_Not⟩ a_Ask_str a_Not_str C g → MethC K "__str__" C g ∧ FmtC K C) (GS : ∀ C g, SFt ⟨a_Put, a_If, a_Times, a_Stop, a_Ask, a_Not⟩ a_Ask_str a_Not_str C g → FnR P w K mg base CX0 lv g (onC C (spTx K ⟨a_Put, a_If, a_Times, a_Stop, a_Ask, a_Not⟩ n))) : FnR P w K mg base CX0 (lv + 2) a_Not_str (onC a_Not (spTx K ⟨a_Put, a_If, a_Times, a_Stop, a_Ask, a_Not⟩ (n + 1))) := by
  have F : FnOk P w K mg base CX0 (lv + 2) a_Not_str d_Not_str ["self"] (onC a_Not (spTx K ⟨a_Put, a_If, a_Times, a_Stop, a_Ask, a_Not⟩ (n + 1))) := by
    refine T.F_Not_str.ok sc_Not_str (fun vs H Q E h => ?_) (fun cdv A outer s H vs Q E hr h => ?_)
    · obtain ⟨_, t, u, rfl, _⟩ := h; rfl
    obtain ⟨⟨a, dx, fs, rest, e0, h0⟩, t, u, rfl, ht, hd, hl, q⟩ := h
    refine ⟨_, (pss_one (ps_ret (pe_joined (.cons pe_str (.cons (pe_fmtO HS GS (hr.mono (by omega)) pass0 (pe_fld (pv 0) (by rfl))) .nil))))), ?_⟩
    walk_at "st"
    walk_at "vc"
    cases t with
    | ask x ns =>
      obtain ⟨a2, dx2, q2, rfl, h2, _⟩ := ht
      cases e0
      rw [h0] at h2
      exact absurd (HO.ins.inj (Option.some.inj h2)).1 (clsNe T.kits 5 4 (by decide) (by decide) (by decide))
    | not t =>
      obtain ⟨a2, dx2, u2, rfl, h2, h3⟩ := ht
      have e1 : TestM.text (.not t) = Str.ofString "not " ++ t.text := rfl
      rw [e1, str_len] at hl
      rw [e1] at q
      have hd2 : t.dep < n := by rw [TestM.dep] at hd; omega
      refine ⟨_, rfl, by rw [emp_app]; decide, _, rfl, a2, _, dx2, _, u2, rfl, h2, T.oc_Not.cl, T.nF_Not_test, rfl, ?_⟩
      rw [emp_app]
      have fin : spTx K ⟨a_Put, a_If, a_Times, a_Stop, a_Ask, a_Not⟩ n [u2] H (fun z H' => ∃ y, z = .str y ∧ ∃ y2, z = .str y2 ∧ (Str.ofString "not " ++ y2).length ≤ sizeLine ∧ tJs [] (Str.ofString "not " ++ y2) [some (.ref a2)] H' fun out H1 => Q (V.str out) H1) E0 :=
        ⟨t, u2, rfl, h3, hd2, by omega, fun H' e' => ⟨_, rfl, _, rfl, by rw [str_len, sizeLine_eq]; omega, q H' e'⟩⟩
      obtain ⟨a3, dx3, fs3, rfl, h4 | h4⟩ := h3.cls
      · exact ⟨a3, _, dx3, fs3, a_Ask_str, rfl, h4, .inl ⟨rfl, rfl⟩, fin⟩
      · exact ⟨a3, _, dx3, fs3, a_Not_str, rfl, h4, .inr ⟨rfl, rfl⟩, fin⟩
  exact FnOk.raw (dvs := []) F T.b_Not_str .nil |>.imp fun vs H Q E h => by simpa using h
theorem HSt (T : Txt w K mg a_is_integer a_is_number a_is_name a_are_rows a_texts a_needed a_fits a_is_of a_inner a_flat a_names_in a_bare a_named a_law_deal a_law_draw a_law_pick a_law_words a_law_kinds a_law_put a_law_ask a_law_count a_law_rows a_law_ask_text a_law_lines a_law_all_lines a_law_ask_of a_law_row_of a_law_deed a_law_begun a_law_alike a_law a_NoRow_init a_InvalidRow_init a_Put_init a_Put_eq a_Put_str a_If_init a_If_eq a_If_str a_Times_init a_Times_eq a_Times_str a_Stop_eq a_Stop_str a_Ask_init a_Ask_eq a_Ask_str a_Not_init a_Not_eq a_Not_str a_Program_init a_Program_str a_Sheet_init a_Sheet_drop a_Sheet_made a_Sheet_len a_Sheet_getitem a_Sheet_setitem a_Sheet_iadd a_NoRow a_InvalidRow a_Put a_If a_Times a_Stop a_Ask a_Not a_Row a_Test a_Program a_Sheet a_DEEDS a_SIGNS a_WORDS a_If_init_d0 a_Program_init_d0 a_Sheet_init_d0 d_is_integer d_is_number d_is_name d_are_rows d_texts d_needed d_fits d_is_of d_inner d_flat d_names_in d_bare d_named d_law_deal d_law_draw d_law_pick d_law_words d_law_kinds d_law_put d_law_ask d_law_count d_law_rows d_law_ask_text d_law_lines d_law_all_lines d_law_ask_of d_law_row_of d_law_deed d_law_begun d_law_alike d_law d_NoRow_init d_InvalidRow_init d_Put_init d_Put_eq d_Put_str d_If_init d_If_eq d_If_str d_Times_init d_Times_eq d_Times_str d_Stop_eq d_Stop_str d_Ask_init d_Ask_eq d_Ask_str d_Not_init d_Not_eq d_Not_str d_Program_init d_Program_str d_Sheet_init d_Sheet_drop d_Sheet_made d_Sheet_len d_Sheet_getitem d_Sheet_setitem d_Sheet_iadd) : ∀ C g, SFt ⟨a_Put, a_If, a_Times, a_Stop, a_Ask, a_Not⟩ a_Ask_str a_Not_str C g → MethC K "__str__" C g ∧ FmtC K C := by
  rintro C g (⟨rfl, rfl⟩ | ⟨rfl, rfl⟩)
  · exact ⟨T.mt_Ask_str, T.oc_Ask.fm, T.oc_Ask.hm⟩
  · exact ⟨T.mt_Not_str, T.oc_Not.fm, T.oc_Not.hm⟩
theorem GSt (T : Txt w K mg a_is_integer a_is_number a_is_name a_are_rows a_texts a_needed a_fits a_is_of a_inner a_flat a_names_in a_bare a_named a_law_deal a_law_draw a_law_pick a_law_words a_law_kinds a_law_put a_law_ask a_law_count a_law_rows a_law_ask_text a_law_lines a_law_all_lines a_law_ask_of a_law_row_of a_law_deed a_law_begun a_law_alike a_law a_NoRow_init a_InvalidRow_init a_Put_init a_Put_eq a_Put_str a_If_init a_If_eq a_If_str a_Times_init a_Times_eq a_Times_str a_Stop_eq a_Stop_str a_Ask_init a_Ask_eq a_Ask_str a_Not_init a_Not_eq a_Not_str a_Program_init a_Program_str a_Sheet_init a_Sheet_drop a_Sheet_made a_Sheet_len a_Sheet_getitem a_Sheet_setitem a_Sheet_iadd a_NoRow a_InvalidRow a_Put a_If a_Times a_Stop a_Ask a_Not a_Row a_Test a_Program a_Sheet a_DEEDS a_SIGNS a_WORDS a_If_init_d0 a_Program_init_d0 a_Sheet_init_d0 d_is_integer d_is_number d_is_name d_are_rows d_texts d_needed d_fits d_is_of d_inner d_flat d_names_in d_bare d_named d_law_deal d_law_draw d_law_pick d_law_words d_law_kinds d_law_put d_law_ask d_law_count d_law_rows d_law_ask_text d_law_lines d_law_all_lines d_law_ask_of d_law_row_of d_law_deed d_law_begun d_law_alike d_law d_NoRow_init d_InvalidRow_init d_Put_init d_Put_eq d_Put_str d_If_init d_If_eq d_If_str d_Times_init d_Times_eq d_Times_str d_Stop_eq d_Stop_str d_Ask_init d_Ask_eq d_Ask_str d_Not_init d_Not_eq d_Not_str d_Program_init d_Program_str d_Sheet_init d_Sheet_drop d_Sheet_made d_Sheet_len d_Sheet_getitem d_Sheet_setitem d_Sheet_iadd) : ∀ n : Nat, ∀ C g, SFt ⟨a_Put, a_If, a_Times, a_Stop, a_Ask, a_Not⟩ a_Ask_str a_Not_str C g → FnR P w K mg base CX0 (2 * n + 1) g (onC C (spTx K ⟨a_Put, a_If, a_Times, a_Stop, a_Ask, a_Not⟩ n))
  | 0 => fun C g _ A outer s H us vs Q E _ _ _ h => by
    obtain ⟨_, t, u, _, _, hd, _⟩ := h
    exact absurd hd (Nat.not_lt_zero _)
  | n + 1 => by
    have ih := GSt T n
    have a1 := (ok_Ask_str (P := P) (w := w) (base := base) T (n + 1)).mono (show 1 ≤ 2 * (n + 1) + 1 by omega)
    have a2 := (ok_Not_str T n (2 * n + 1) (HSt T) ih).mono (show 2 * n + 1 + 2 ≤ 2 * (n + 1) + 1 by omega)
    rintro C g (⟨h1, h2⟩ | ⟨h1, h2⟩)
    · rw [h1, h2]; exact a1
    · rw [h1, h2]; exact a2
/-! ### the texts of rows -/
def TestM.ok : TestM → Prop
  | .ask x ns => (x, ns.length) ∈ wordTab ∧ ∀ n ∈ ns, nameOk n
  | .not t => t.ok
mutual
def RowM.ok : RowM → Prop
  | .stop => True
  | .put n d g => nameOk n ∧ (∃ ks, kindsFor d g.length = some ks ∧ All2T argOk ks g) ∧ g.length ≤ 1000
  | .times c rs => c ≤ 1000 ∧ RowM.oks rs ∧ rs.length ≤ 1000
  | .ifr t rs os => t.ok ∧ t.dep < 9 ∧ RowM.oks rs ∧ rs.length ≤ 1000 ∧ RowM.oks os ∧ os.length ≤ 1000
def RowM.oks : List RowM → Prop
  | [] => True
  | r :: rs => r.ok ∧ RowM.oks rs
end
def spRx (K : PySem.W.Frag) (A : ClsA) (n : Nat) : Sp := fun vs H Q _ => ∃ r u, vs = [u] ∧ RowO K A H r u ∧ r.ok ∧ r.dep < n ∧ r.text.length ≤ 10000000 ∧ ∀ H', Ex H H' → Q (.str r.text) H'
theorem argT_all {ks : List Str} : ∀ {g : List V}, All2T argOk ks g → ∀ v ∈ g, (∃ x, v = .str x) ∨ ∃ i, v = .int i ∧ i.natAbs.log2 < 1920 := by
  intro g h v hv
  obtain ⟨i, hi⟩ := List.mem_iff_getElem?.mp hv
  obtain ⟨k, _, ok⟩ := h.at_ hi
  rcases ok with ⟨_, x, rfl, _⟩ | ⟨_, j, rfl, _, hl⟩
  · exact .inl ⟨x, rfl⟩
  · exact .inr ⟨j, rfl, hl⟩
/-- an argument's text, as a value -/
def argVS (v : V) : V := .str (argT v)
def C_gv (D : Addr) (g : List V) (H : Hp) : Nat → Hp → Prop := fun i H' => H' D = some (.lst (((g.take i).map argT).map V.str)) ∧ Ex H H'
theorem inV_signs (d : Str) : inV (.str d) [.str "+", .str "-", .str "*", .str "//", .str "**"] = decide (d ∈ signs) := by
  unfold inV signs
  simp only [List.any_cons, List.any_nil, eqV, Bool.or_false, List.mem_cons, List.not_mem_nil, or_false, Bool.decide_or]
  have e : ∀ x : Str, (x == d) = decide (d = x) := fun x => by
    by_cases h : d = x
    · rw [h]; simp
    · rw [decide_eq_false h]; exact beq_eq_false_iff_ne.mpr (fun z => h z.symm)
  rw [e, e, e, e, e]
theorem signs_two {d : Str} {n : Nat} {ks : List Str} (hs : d ∈ signs) (h : kindsFor d n = some ks) : ks.length = 2 := by
  unfold signs at hs
  simp only [List.mem_cons, List.not_mem_nil, or_false] at hs
  rcases hs with rfl | rfl | rfl | rfl | rfl <;> (rw [show kindsFor _ n = _ from rfl] at h; simp only [kindsFor] at h; rw [if_neg (by decide)] at h; have h2 := Option.some.inj h; rw [← h2]; rfl)
theorem ok_Put_str (T : Txt w K mg a_is_integer a_is_number a_is_name a_are_rows a_texts a_needed a_fits a_is_of a_inner a_flat a_names_in a_bare a_named a_law_deal a_law_draw a_law_pick a_law_words a_law_kinds a_law_put a_law_ask a_law_count a_law_rows a_law_ask_text a_law_lines a_law_all_lines a_law_ask_of a_law_row_of a_law_deed a_law_begun a_law_alike a_law a_NoRow_init a_InvalidRow_init a_Put_init a_Put_eq a_Put_str a_If_init a_If_eq a_If_str a_Times_init a_Times_eq a_Times_str a_Stop_eq a_Stop_str a_Ask_init a_Ask_eq a_Ask_str a_Not_init a_Not_eq a_Not_str a_Program_init a_Program_str a_Sheet_init a_Sheet_drop a_Sheet_made a_Sheet_len a_Sheet_getitem a_Sheet_setitem a_Sheet_iadd a_NoRow a_InvalidRow a_Put a_If a_Times a_Stop a_Ask a_Not a_Row a_Test a_Program a_Sheet a_DEEDS a_SIGNS a_WORDS a_If_init_d0 a_Program_init_d0 a_Sheet_init_d0 d_is_integer d_is_number d_is_name d_are_rows d_texts d_needed d_fits d_is_of d_inner d_flat d_names_in d_bare d_named d_law_deal d_law_draw d_law_pick d_law_words d_law_kinds d_law_put d_law_ask d_law_count d_law_rows d_law_ask_text d_law_lines d_law_all_lines d_law_ask_of d_law_row_of d_law_deed d_law_begun d_law_alike d_law d_NoRow_init d_InvalidRow_init d_Put_init d_Put_eq d_Put_str d_If_init d_If_eq d_If_str d_Times_init d_Times_eq d_Times_str d_Stop_eq d_Stop_str d_Ask_init d_Ask_eq d_Ask_str d_Not_init d_Not_eq d_Not_str d_Program_init d_Program_str d_Sheet_init d_Sheet_drop d_Sheet_made d_Sheet_len d_Sheet_getitem d_Sheet_setitem d_Sheet_iadd) (n : Nat) : FnR P w K mg base CX0 1 a_Put_str (onC a_Put (spRx K ⟨a_Put, a_If, a_Times, a_Stop, a_Ask, a_Not⟩ n)) := by
  have F : FnOk P w K mg base CX0 1 a_Put_str d_Put_str ["self"] (onC a_Put (spRx K ⟨a_Put, a_If, a_Times, a_Stop, a_Ask, a_Not⟩ n)) := by
    refine T.F_Put_str.ok sc_Put_str (fun vs H Q E h => ?_) (fun cdv A outer s H vs Q E hr h => ?_)
    · obtain ⟨_, t, u, rfl, _⟩ := h; rfl
    obtain ⟨⟨a, dx, fs, rest, e0, h0⟩, r, u, rfl, hr0, hok, hd, hl, q⟩ := h
    refine ⟨_, (pss_cons (ps_setLc (i := 1) (own := [("one", 2)]) (g := gName 2) (by rfl) sc_Put_str.nd rfl rfl (sw_true rfl rfl rfl (by decide +kernel)) (pi_tup (pe_fld (pv 0) (by rfl))) (blkOk_by (own := [("one", 2)]) (N := N_Put_str) (sc := defScope s_Put_str) (by decide +kernel)) (fun _ _ _ _ _ => (pg_name (i := 2) sc_Put_str.nd rfl (by first | exact .inl rfl | exact .inr rfl))) (fun _ _ _ _ _ => pts_nil) (fun _ _ _ _ _ => (pe_callTy call_strA (by rfl) T.z_str (by decide +kernel) (pa_cons (pv 2) pa_nil))))
      (pss_cons (ps_if (pt_cmpR op_in_seq (pe_fld (pv 0) (by rfl)) (pe_globE (by rfl) T.g_SIGNS) (by rfl))
      (pss_one (ps_ret (pe_joined (.cons (pe_fmt (pe_fld (pv 0) (by rfl))) (.cons pe_str (.cons (pe_fmt (pe_ix ix_listM (pv 1) pe_int (fun _ _ => rfl))) (.cons pe_str (.cons (pe_fmt (pe_fld (pv 0) (by rfl))) (.cons pe_str (.cons (pe_fmt (pe_ix ix_listM (pv 1) pe_int (fun _ _ => rfl))) .nil))))))))))
      pss_nil)
      (pss_one (ps_ret (pe_bm PySem.F.plainAttrs_str PySem.F.slot_str_join PySem.F.type_str_join mt_join pe_str (pa_cons (pe_lst (pa_cons (pe_fld (pv 0) (by rfl)) (pa_cons pe_str (pa_cons (pe_fld (pv 0) (by rfl)) (StX.pa_star (pv 1) pa_nil))))) pa_nil)))))), ?_⟩
    walk_at "st"
    walk_at "vc"
    cases e0
    obtain ⟨m, d, g, q0, rfl, rfl, hg⟩ := hr0.put_of T.kits h0
    obtain ⟨hm, ⟨ks, hk, ha⟩, hgl⟩ := hok
    have hall := argT_all ha
    have et : RowM.text (.put m d g) = putText m d g := by unfold RowM.text; rw [RowM.lines, join_one]
    rw [et] at hl q
    refine ⟨_, rfl, a, _, dx, _, .ref q0, rfl, h0, T.oc_Put.cl, T.nF_Put_given, rfl, q0, rfl, ⟨_, hg⟩, fun D hD => lc_it (walk_tup (xs := g)) (C_gv D g H) ⟨upd_same, Ex.new hD⟩ (fun i H' _ hP => hP.2.sqt hg) (fun i v H2 H' hi hP y => ?_) (fun H' hP => ?_)⟩
    · obtain ⟨rfl, hv⟩ := y
      walk_at "vc"
      have step : ∀ z, argT v = z → ∃ acc, H' D = some (.lst acc) ∧ acc.length < sizeLine ∧ C_gv D g H (i + 1) (upd H' D (.lst (acc ++ [.str z]))) := fun z hz => by
        refine ⟨_, hP.1, sz_lt (by simp; omega), ?_, hP.2.mut hD⟩
        rw [upd_same, List.take_add_one, hv, List.map_append, List.map_append, ← hz]
        rfl
      rcases hall v (List.mem_of_getElem? hv) with ⟨x, rfl⟩ | ⟨j, rfl, hj⟩
      · exact step _ rfl
      · exact ⟨hj, step _ rfl⟩
    have h1 := hP.1
    rw [List.take_length] at h1
    have h0' := hP.2 _ _ h0
    refine ⟨_, rfl, a, _, dx, _, .str d, rfl, h0', T.oc_Put.cl, T.nF_Put_deed, rfl, a_SIGNS, _, rfl, .inr (T.S_SIGNS H'), rfl, rfl, _, rfl, ?_⟩
    have hin : inV (.str d) [.str "+", .str "-", .str "*", .str "//", .str "**"] = decide (d ∈ signs) := by
      exact inV_signs d
    rw [if_neg (c := false = true) Bool.false_ne_true, hin]
    by_cases hs : d ∈ signs
    · rw [if_pos (decide_eq_true hs)]
      have hgl2 : g.length = 2 := by rw [ha.len]; exact signs_two hs hk
      obtain ⟨x, y, rfl⟩ : ∃ x y, g = [x, y] := by
        match g, hgl2 with
        | [x, y], _ => exact ⟨x, y, rfl⟩
      unfold putText at hl q
      rw [if_pos hs] at hl q
      dsimp only at hl q
      simp only [str_len] at hl
      have big : ∀ k, k ≤ 10000000 → k ≤ sizeLine := fun k hk => by rw [sizeLine_eq]; omega
      refine ⟨_, rfl, a, _, dx, _, .str m, rfl, h0', T.oc_Put.cl, T.nF_Put_name, rfl, .inl ⟨m, rfl, big _ (by omega), m, rfl, ?_⟩⟩
      rw [emp_app]
      refine ⟨big _ (by omega), _, rfl, big _ (by simp only [str_len]; omega), ?_⟩
      refine ⟨_, rfl, _, argVS x, sq_of h1, rfl, .inl ⟨argT x, rfl, big _ (by omega), _, rfl, big _ (by simp only [str_len]; omega), ?_⟩⟩
      refine ⟨_, rfl, big _ (by simp only [str_len]; omega), ?_⟩
      refine ⟨_, rfl, a, _, dx, _, .str d, rfl, h0', T.oc_Put.cl, T.nF_Put_deed, rfl, .inl ⟨d, rfl, big _ (by omega), d, rfl, big _ (by simp only [str_len]; omega), ?_⟩⟩
      refine ⟨_, rfl, big _ (by simp only [str_len]; omega), ?_⟩
      refine ⟨_, rfl, _, argVS y, sq_of h1, rfl, .inl ⟨argT y, rfl, big _ (by omega), _, rfl, big _ (by simp only [str_len]; omega), ?_⟩⟩
      exact q H' hP.2
    · rw [if_neg (by simp [hs])]
      unfold putText at hl q
      rw [if_neg hs] at hl q
      have e2 := join_wt sp1 (ls := m :: "=" :: d :: g.map argT) (by simp)
      rw [wt_sum] at e2
      have hls : (m :: ("=" : Str) :: d :: g.map argT).length ≤ 10000001 := by omega
      refine ⟨rfl, _, rfl, a, _, dx, _, .str m, rfl, h0', T.oc_Put.cl, T.nF_Put_name, rfl, _, rfl, a, _, dx, _, .str d, rfl, h0', T.oc_Put.cl, T.nF_Put_deed, rfl, _, rfl, D, _, rfl, .inr (sq_of h1), ?_⟩
      refine ⟨by rw [sizeLine_eq]; simp at hls ⊢; omega, fun p hp => ⟨m :: "=" :: d :: g.map argT, .inl (sq_of (by rw [upd_same]; simp)), by rw [sp1]; omega, ?_⟩⟩
      exact q _ (hP.2.trans (Ex.new hp))
  exact FnOk.raw (dvs := []) F T.b_Put_str .nil |>.imp fun vs H Q E h => by simpa using h
end
end My
set_option Elab.async false
set_option linter.all false
set_option maxRecDepth 100000
set_option maxHeartbeats 4000000
set_option exponentiation.threshold 5000
namespace My
open PySem PySem.Spec PyProof.Rows L2 Evl
local macro_rules | `(tactic| walk_at "st") => `(tactic| simp only [L2.start, List.map_cons, List.map_nil, List.length_cons, List.length_nil, Nat.reduceAdd, Nat.reduceSub, List.replicate_succ, List.replicate_zero, List.cons_append, List.nil_append, cxOf, List.append_nil])
local macro_rules | `(tactic| walk_at "vc") => `(tactic| try simp only [tSeq, tAsg, tOp, tUn, tVar, tC, tNil, tCons, gName, rI, rI0, rU, tRet, tIfS, tNot, tAnd, tOr, tB, tTest, tCB, tCall, tAndV, tOrV, tNotV, tNext, tNever, tIf, tChain, tYes, tPart, tNoPart, tPar, tDrop, q_isi, q_vn, q_vb, q_vi, q_vs, kb1, kb2, kb3, kb4, kb5, kb6, kb7, kb8, q_int1, q_int2, q_min, q_max, q_repr, tLst, tTup, rEq, rNe, q_sii, q_sss, q_sbb, q_snn, q_sns, q_ssn, q_ix, q_sl, tSl, tBM, tBM0, q_app, q_pop, gSub, rSetL, L2.wipe, eq_self, decide_true, decide_false, tRevL,
  List.getElem?_cons_succ, List.getElem?_cons_zero, List.set_cons_succ, List.set_cons_zero, Option.some.injEq, exists_eq_left', exists_eq_left, V.int.injEq, V.bl.injEq, V.ref.injEq, V.str.injEq, List.cons.injEq, and_true, true_and, List.append_nil, List.nil_append, List.cons_append, exists_and_left, and_assoc, if_true, if_false, Bool.not_true, Bool.not_false, Bool.false_eq_true, Bool.true_eq_false, reduceIte, tRevL, tPar3, tRevT, tUnl, tCKw, forall_const, Bool.not_eq_true', decide_eq_true_eq, decide_eq_false_iff_not])
section
variable {P : Program} {w : World} {K : PySem.W.Frag} {mg : Str → Option Value} {base : Heap}
variable {a_is_integer a_is_number a_is_name a_are_rows a_texts a_needed a_fits a_is_of a_inner a_flat a_names_in a_bare a_named a_law_deal a_law_draw a_law_pick a_law_words a_law_kinds a_law_put a_law_ask a_law_count a_law_rows a_law_ask_text a_law_lines a_law_all_lines a_law_ask_of a_law_row_of a_law_deed a_law_begun a_law_alike a_law a_NoRow_init a_InvalidRow_init a_Put_init a_Put_eq a_Put_str a_If_init a_If_eq a_If_str a_Times_init a_Times_eq a_Times_str a_Stop_eq a_Stop_str a_Ask_init a_Ask_eq a_Ask_str a_Not_init a_Not_eq a_Not_str a_Program_init a_Program_str a_Sheet_init a_Sheet_drop a_Sheet_made a_Sheet_len a_Sheet_getitem a_Sheet_setitem a_Sheet_iadd a_NoRow a_InvalidRow a_Put a_If a_Times a_Stop a_Ask a_Not a_Row a_Test a_Program a_Sheet a_DEEDS a_SIGNS a_WORDS a_If_init_d0 a_Program_init_d0 a_Sheet_init_d0 : Addr} {d_is_integer d_is_number d_is_name d_are_rows d_texts d_needed d_fits d_is_of d_inner d_flat d_names_in d_bare d_named d_law_deal d_law_draw d_law_pick d_law_words d_law_kinds d_law_put d_law_ask d_law_count d_law_rows d_law_ask_text d_law_lines d_law_all_lines d_law_ask_of d_law_row_of d_law_deed d_law_begun d_law_alike d_law d_NoRow_init d_InvalidRow_init d_Put_init d_Put_eq d_Put_str d_If_init d_If_eq d_If_str d_Times_init d_Times_eq d_Times_str d_Stop_eq d_Stop_str d_Ask_init d_Ask_eq d_Ask_str d_Not_init d_Not_eq d_Not_str d_Program_init d_Program_str d_Sheet_init d_Sheet_drop d_Sheet_made d_Sheet_len d_Sheet_getitem d_Sheet_setitem d_Sheet_iadd : FuncData}
def SFr (A : ClsA) (g0 g1 g2 g3 : Addr) : Addr → Addr → Prop := fun C g => (C = A.put ∧ g = g0) ∨ (C = A.ifr ∧ g = g1) ∨ (C = A.times ∧ g = g2) ∨ (C = A.stop ∧ g = g3)
theorem ok_Stop_str (T : Txt w K mg a_is_integer a_is_number a_is_name a_are_rows a_texts a_needed a_fits a_is_of a_inner a_flat a_names_in a_bare a_named a_law_deal a_law_draw a_law_pick a_law_words a_law_kinds a_law_put a_law_ask a_law_count a_law_rows a_law_ask_text a_law_lines a_law_all_lines a_law_ask_of a_law_row_of a_law_deed a_law_begun a_law_alike a_law a_NoRow_init a_InvalidRow_init a_Put_init a_Put_eq a_Put_str a_If_init a_If_eq a_If_str a_Times_init a_Times_eq a_Times_str a_Stop_eq a_Stop_str a_Ask_init a_Ask_eq a_Ask_str a_Not_init a_Not_eq a_Not_str a_Program_init a_Program_str a_Sheet_init a_Sheet_drop a_Sheet_made a_Sheet_len a_Sheet_getitem a_Sheet_setitem a_Sheet_iadd a_NoRow a_InvalidRow a_Put a_If a_Times a_Stop a_Ask a_Not a_Row a_Test a_Program a_Sheet a_DEEDS a_SIGNS a_WORDS a_If_init_d0 a_Program_init_d0 a_Sheet_init_d0 d_is_integer d_is_number d_is_name d_are_rows d_texts d_needed d_fits d_is_of d_inner d_flat d_names_in d_bare d_named d_law_deal d_law_draw d_law_pick d_law_words d_law_kinds d_law_put d_law_ask d_law_count d_law_rows d_law_ask_text d_law_lines d_law_all_lines d_law_ask_of d_law_row_of d_law_deed d_law_begun d_law_alike d_law d_NoRow_init d_InvalidRow_init d_Put_init d_Put_eq d_Put_str d_If_init d_If_eq d_If_str d_Times_init d_Times_eq d_Times_str d_Stop_eq d_Stop_str d_Ask_init d_Ask_eq d_Ask_str d_Not_init d_Not_eq d_Not_str d_Program_init d_Program_str d_Sheet_init d_Sheet_drop d_Sheet_made d_Sheet_len d_Sheet_getitem d_Sheet_setitem d_Sheet_iadd) (n : Nat) : FnR P w K mg base CX0 1 a_Stop_str (onC a_Stop (spRx K ⟨a_Put, a_If, a_Times, a_Stop, a_Ask, a_Not⟩ n)) := by
  have F : FnOk P w K mg base CX0 1 a_Stop_str d_Stop_str ["self"] (onC a_Stop (spRx K ⟨a_Put, a_If, a_Times, a_Stop, a_Ask, a_Not⟩ n)) := by
    refine T.F_Stop_str.ok sc_Stop_str (fun vs H Q E h => ?_) (fun cdv A outer s H vs Q E hr h => ?_)
    · obtain ⟨_, t, u, rfl, _⟩ := h; rfl
    obtain ⟨⟨a, dx, fs, rest, e0, h0⟩, r, u, rfl, hr0, hok, hd, hl, q⟩ := h
    refine ⟨_, (pss_one (ps_ret pe_str)), ?_⟩
    walk_at "st"
    walk_at "vc"
    cases e0
    have := hr0.stop_of T.kits h0
    subst this
    have et : RowM.text .stop = "stop" := by unfold RowM.text; rw [RowM.lines, join_one]
    rw [et] at q
    exact q H (Ex.refl H)
  exact FnOk.raw (dvs := []) F T.b_Stop_str .nil |>.imp fun vs H Q E h => by simpa using h
theorem RowM.oks_at : ∀ {rs : List RowM} {i : Nat} {r : RowM}, RowM.oks rs → rs[i]? = some r → r.ok
  | [], _, _, _, h => by simp at h
  | x :: rs, 0, r, h, e => by rw [List.getElem?_cons_zero] at e; cases e; unfold RowM.oks at h; exact h.1
  | x :: rs, i + 1, r, h, e => by rw [List.getElem?_cons_succ] at e; unfold RowM.oks at h; exact RowM.oks_at h.2 e
theorem RowM.deps_at : ∀ {rs : List RowM} {i : Nat} {r : RowM}, rs[i]? = some r → r.dep ≤ RowM.deps rs
  | [], _, _, h => by simp at h
  | x :: rs, 0, r, e => by rw [List.getElem?_cons_zero] at e; cases e; rw [RowM.deps]; omega
  | x :: rs, i + 1, r, e => by rw [List.getElem?_cons_succ] at e; have := RowM.deps_at e; rw [RowM.deps]; omega
def sp_texts (K : PySem.W.Frag) (A : ClsA) (n : Nat) : Sp := fun vs H Q _ => ∃ q us rs, vs = [.ref q] ∧ SqT K H q us ∧ RowOs K A H rs us ∧ RowM.oks rs ∧ RowM.deps rs < n ∧ rs.length ≤ 1000 ∧ (∀ r ∈ rs, r.text.length ≤ 10000000) ∧ ∀ D H', Ex H H' → H' D = some (.lst ((rs.map RowM.text).map V.str)) → Q (.ref D) H'
def C_tx (D : Addr) (rs : List RowM) (H : Hp) : Nat → Hp → Prop := fun i H' => H' D = some (.lst (((rs.take i).map RowM.text).map V.str)) ∧ Ex H H'
theorem ok_texts (T : Txt w K mg a_is_integer a_is_number a_is_name a_are_rows a_texts a_needed a_fits a_is_of a_inner a_flat a_names_in a_bare a_named a_law_deal a_law_draw a_law_pick a_law_words a_law_kinds a_law_put a_law_ask a_law_count a_law_rows a_law_ask_text a_law_lines a_law_all_lines a_law_ask_of a_law_row_of a_law_deed a_law_begun a_law_alike a_law a_NoRow_init a_InvalidRow_init a_Put_init a_Put_eq a_Put_str a_If_init a_If_eq a_If_str a_Times_init a_Times_eq a_Times_str a_Stop_eq a_Stop_str a_Ask_init a_Ask_eq a_Ask_str a_Not_init a_Not_eq a_Not_str a_Program_init a_Program_str a_Sheet_init a_Sheet_drop a_Sheet_made a_Sheet_len a_Sheet_getitem a_Sheet_setitem a_Sheet_iadd a_NoRow a_InvalidRow a_Put a_If a_Times a_Stop a_Ask a_Not a_Row a_Test a_Program a_Sheet a_DEEDS a_SIGNS a_WORDS a_If_init_d0 a_Program_init_d0 a_Sheet_init_d0 d_is_integer d_is_number d_is_name d_are_rows d_texts d_needed d_fits d_is_of d_inner d_flat d_names_in d_bare d_named d_law_deal d_law_draw d_law_pick d_law_words d_law_kinds d_law_put d_law_ask d_law_count d_law_rows d_law_ask_text d_law_lines d_law_all_lines d_law_ask_of d_law_row_of d_law_deed d_law_begun d_law_alike d_law d_NoRow_init d_InvalidRow_init d_Put_init d_Put_eq d_Put_str d_If_init d_If_eq d_If_str d_Times_init d_Times_eq d_Times_str d_Stop_eq d_Stop_str d_Ask_init d_Ask_eq d_Ask_str d_Not_init d_Not_eq d_Not_str d_Program_init d_Program_str d_Sheet_init d_Sheet_drop d_Sheet_made d_Sheet_len d_Sheet_getitem d_Sheet_setitem d_Sheet_iadd) (n lv : Nat) (HS : ∀ C g, SFr ⟨a_Put, a_If, a_Times, a_Stop, a_Ask, a_Not⟩ a_Put_str a_If_str a_Times_str a_Stop_str C g → MethC K "__str__" C g) (GS : ∀ C g, SFr ⟨a_Put, a_If, a_Times, a_Stop, a_Ask, a_Not⟩ a_Put_str a_If_str a_Times_str a_Stop_str C g → FnR P w K mg base CX0 lv g (onC C (spRx K ⟨a_Put, a_If, a_Times, a_Stop, a_Ask, a_Not⟩ n))) : FnOk P w K mg base CX0 (lv + 3) a_texts d_texts ["rows"] (sp_texts K ⟨a_Put, a_If, a_Times, a_Stop, a_Ask, a_Not⟩ n) := by
  refine T.F_texts.ok sc_texts (fun vs H Q E h => ?_) (fun cdv A outer s H vs Q E hr h => ?_)
  · obtain ⟨q, us, rs, rfl, _⟩ := h; rfl
  obtain ⟨q0, us, rs, rfl, hq, ho, hok, hd, hlen, hl, q⟩ := h
  refine ⟨_, (pss_one (ps_ret (pe_lc (own := [("row", 1)]) (g := gName 1) (by rfl) sc_texts.nd (pi_tup (pv 0)) (blkOk_by (own := [("row", 1)]) (N := N_texts) (sc := defScope s_texts) (by decide +kernel)) (fun _ _ _ _ _ => (pg_name (i := 1) sc_texts.nd rfl (by first | exact .inl rfl | exact .inr rfl))) (fun _ _ _ _ _ => pts_nil) (fun _ _ _ _ _ => (pe_callTy (call_strO HS GS (hr.mono (by omega)) pass0) (by rfl) T.z_str (by decide +kernel) (pa_cons (pv 1) pa_nil)))))), ?_⟩
  walk_at "st"
  walk_at "vc"
  refine ⟨_, rfl, q0, rfl, ⟨_, hq⟩, fun D hD => lc_it (walk_tup (xs := us)) (C_tx D rs H) ⟨upd_same, Ex.new hD⟩ (fun i H' _ hP => hP.2.sqt hq) (fun i v H2 H' hi hP y => ?_) (fun H' hP => ?_)⟩
  · obtain ⟨rfl, hv⟩ := y
    walk_at "vc"
    obtain ⟨r, hr0, hr1⟩ := ho.at_ hv
    have hr2 := hr1.kp (Kp.of_ex hP.2)
    have hsp : ∀ C g0, SFr ⟨a_Put, a_If, a_Times, a_Stop, a_Ask, a_Not⟩ a_Put_str a_If_str a_Times_str a_Stop_str C g0 → spRx K ⟨a_Put, a_If, a_Times, a_Stop, a_Ask, a_Not⟩ n [v] H' (fun z H4 => ∃ y, z = .str y ∧ ∃ acc, H4 D = some (.lst acc) ∧ acc.length < sizeLine ∧ C_tx D rs H (i + 1) (upd H4 D (.lst (acc ++ [z])))) E0 := fun _ _ _ => by
      refine ⟨r, v, rfl, hr2, RowM.oks_at hok hr0, Nat.lt_of_le_of_lt (RowM.deps_at hr0) hd, hl r (List.mem_of_getElem? hr0), fun H4 e4 => ⟨_, rfl, _, e4 _ _ hP.1, sz_lt (by simp; omega), ?_, (hP.2.trans e4).mut hD⟩⟩
      rw [upd_same, List.take_add_one, hr0, List.map_append, List.map_append]
      rfl
    obtain ⟨a, dx, fs, C, rfl, h1, hC | hC | hC | hC⟩ := hr2.cls
    · exact ⟨a, C, dx, fs, a_Put_str, rfl, h1, .inl ⟨hC, rfl⟩, hsp _ _ (.inl ⟨hC, rfl⟩)⟩
    · exact ⟨a, C, dx, fs, a_If_str, rfl, h1, .inr (.inl ⟨hC, rfl⟩), hsp _ _ (.inl ⟨rfl, rfl⟩)⟩
    · exact ⟨a, C, dx, fs, a_Times_str, rfl, h1, .inr (.inr (.inl ⟨hC, rfl⟩)), hsp _ _ (.inl ⟨rfl, rfl⟩)⟩
    · exact ⟨a, C, dx, fs, a_Stop_str, rfl, h1, .inr (.inr (.inr ⟨hC, rfl⟩)), hsp _ _ (.inl ⟨rfl, rfl⟩)⟩
  · have h1 := hP.1
    rw [ho.len, List.take_length] at h1
    exact q D H' hP.2 h1
theorem text_le_sum {rs : List RowM} {r : RowM} (h : r ∈ rs) : r.text.length + 1 ≤ (rs.map fun r => r.text.length + 1).sum := by
  induction rs with
  | nil => cases h
  | cons x rs ih =>
    rw [List.map_cons, List.sum_cons]
    rcases List.mem_cons.mp h with rfl | h
    · omega
    · have := ih h; omega
theorem wt_texts (rs : List RowM) : wt (rs.map RowM.text) = (rs.map fun r => r.text.length + 1).sum := by unfold wt; rw [List.map_map]; rfl
theorem ok_Times_str (T : Txt w K mg a_is_integer a_is_number a_is_name a_are_rows a_texts a_needed a_fits a_is_of a_inner a_flat a_names_in a_bare a_named a_law_deal a_law_draw a_law_pick a_law_words a_law_kinds a_law_put a_law_ask a_law_count a_law_rows a_law_ask_text a_law_lines a_law_all_lines a_law_ask_of a_law_row_of a_law_deed a_law_begun a_law_alike a_law a_NoRow_init a_InvalidRow_init a_Put_init a_Put_eq a_Put_str a_If_init a_If_eq a_If_str a_Times_init a_Times_eq a_Times_str a_Stop_eq a_Stop_str a_Ask_init a_Ask_eq a_Ask_str a_Not_init a_Not_eq a_Not_str a_Program_init a_Program_str a_Sheet_init a_Sheet_drop a_Sheet_made a_Sheet_len a_Sheet_getitem a_Sheet_setitem a_Sheet_iadd a_NoRow a_InvalidRow a_Put a_If a_Times a_Stop a_Ask a_Not a_Row a_Test a_Program a_Sheet a_DEEDS a_SIGNS a_WORDS a_If_init_d0 a_Program_init_d0 a_Sheet_init_d0 d_is_integer d_is_number d_is_name d_are_rows d_texts d_needed d_fits d_is_of d_inner d_flat d_names_in d_bare d_named d_law_deal d_law_draw d_law_pick d_law_words d_law_kinds d_law_put d_law_ask d_law_count d_law_rows d_law_ask_text d_law_lines d_law_all_lines d_law_ask_of d_law_row_of d_law_deed d_law_begun d_law_alike d_law d_NoRow_init d_InvalidRow_init d_Put_init d_Put_eq d_Put_str d_If_init d_If_eq d_If_str d_Times_init d_Times_eq d_Times_str d_Stop_eq d_Stop_str d_Ask_init d_Ask_eq d_Ask_str d_Not_init d_Not_eq d_Not_str d_Program_init d_Program_str d_Sheet_init d_Sheet_drop d_Sheet_made d_Sheet_len d_Sheet_getitem d_Sheet_setitem d_Sheet_iadd) (n lv : Nat) (HS : ∀ C g, SFr ⟨a_Put, a_If, a_Times, a_Stop, a_Ask, a_Not⟩ a_Put_str a_If_str a_Times_str a_Stop_str C g → MethC K "__str__" C g) (GS : ∀ C g, SFr ⟨a_Put, a_If, a_Times, a_Stop, a_Ask, a_Not⟩ a_Put_str a_If_str a_Times_str a_Stop_str C g → FnR P w K mg base CX0 lv g (onC C (spRx K ⟨a_Put, a_If, a_Times, a_Stop, a_Ask, a_Not⟩ n))) : FnR P w K mg base CX0 (lv + 4) a_Times_str (onC a_Times (spRx K ⟨a_Put, a_If, a_Times, a_Stop, a_Ask, a_Not⟩ (n + 1))) := by
  have G_texts := ok_texts (P := P) (w := w) (base := base) T n lv HS GS
  have F : FnOk P w K mg base CX0 (lv + 4) a_Times_str d_Times_str ["self"] (onC a_Times (spRx K ⟨a_Put, a_If, a_Times, a_Stop, a_Ask, a_Not⟩ (n + 1))) := by
    refine T.F_Times_str.ok sc_Times_str (fun vs H Q E h => ?_) (fun cdv A outer s H vs Q E hr h => ?_)
    · obtain ⟨_, t, u, rfl, _⟩ := h; rfl
    obtain ⟨⟨a, dx, fs, rest, e0, h0⟩, r, u, rfl, hr0, hok, hd, hl, q⟩ := h
    refine ⟨_, (pss_one (ps_ret (pe_bm PySem.F.plainAttrs_str PySem.F.slot_str_join PySem.F.type_str_join mt_join pe_str (pa_cons (pe_lst (pa_cons (pe_joined (.cons pe_str (.cons (pe_fmt (pe_fld (pv 0) (by rfl))) .nil))) (StX.pa_star (pe_call G_texts (hr.mono (by omega)) (by rfl) T.g_texts T.F_texts.kp T.b_texts .nil pass0 (pa_cons (pe_fld (pv 0) (by rfl)) pa_nil)) (pa_cons pe_str pa_nil)))) pa_nil)))), ?_⟩
    walk_at "st"
    walk_at "vc"
    cases e0
    obtain ⟨c, rs, q0, us, rfl, rfl, hq, ho⟩ := hr0.times_of T.kits h0
    unfold RowM.ok at hok
    obtain ⟨hc, hoks, hlen⟩ := hok
    have et := text_times c rs
    have e2 := join_wt nl1 (ls := (Str.ofString "times " ++ Str.ofString (toString (c : Int))) :: (rs.map RowM.text ++ [("end" : Str)])) (by simp)
    rw [← et, wt_cons, wt_app, wt_texts] at e2
    have hcl : (c : Int).natAbs.log2 < 1920 := Nat.lt_of_lt_of_le (PySem.Flt.log2_lt_of (k := 10) (by decide) (by omega)) (by decide)
    have big : ∀ k, k ≤ 10000001 → k ≤ sizeLine := fun k hk => by rw [sizeLine_eq]; omega
    have hdp : RowM.deps rs < n := by rw [RowM.dep] at hd; omega
    refine ⟨rfl, _, rfl, by rw [emp_app]; decide, _, rfl, a, _, dx, _, .int (c : Nat), rfl, h0, T.oc_Times.cl, T.nF_Times_count, rfl, .inr ⟨c, rfl, hcl, _, rfl, ?_⟩⟩
    rw [emp_app]
    refine ⟨big _ (by rw [str_len] at *; omega), ?_⟩
    refine ⟨_, rfl, a, _, dx, _, .ref q0, rfl, h0, T.oc_Times.cl, T.nF_Times_rows, rfl, q0, us, rs, rfl, hq, ho, hoks, hdp, hlen, fun r hr => by have := text_le_sum hr; omega, fun D H1 e1 hD => ?_⟩
    refine ⟨D, _, rfl, .inr (sq_of hD), ?_⟩
    refine ⟨big _ (by simp; omega), fun p hp => ⟨(Str.ofString "times " ++ Str.ofString (toString (c : Int))) :: (rs.map RowM.text ++ [("end" : Str)]), .inl (sq_of (by rw [upd_same]; simp)), ?_, ?_⟩⟩
    · rw [nl1, ← wt_sum, wt_cons, wt_app, wt_texts]; omega
    · rw [← et]
      exact q _ (e1.trans (Ex.new hp))
  exact FnOk.raw (dvs := []) F T.b_Times_str .nil |>.imp fun vs H Q E h => by simpa using h
theorem ok_If_str (T : Txt w K mg a_is_integer a_is_number a_is_name a_are_rows a_texts a_needed a_fits a_is_of a_inner a_flat a_names_in a_bare a_named a_law_deal a_law_draw a_law_pick a_law_words a_law_kinds a_law_put a_law_ask a_law_count a_law_rows a_law_ask_text a_law_lines a_law_all_lines a_law_ask_of a_law_row_of a_law_deed a_law_begun a_law_alike a_law a_NoRow_init a_InvalidRow_init a_Put_init a_Put_eq a_Put_str a_If_init a_If_eq a_If_str a_Times_init a_Times_eq a_Times_str a_Stop_eq a_Stop_str a_Ask_init a_Ask_eq a_Ask_str a_Not_init a_Not_eq a_Not_str a_Program_init a_Program_str a_Sheet_init a_Sheet_drop a_Sheet_made a_Sheet_len a_Sheet_getitem a_Sheet_setitem a_Sheet_iadd a_NoRow a_InvalidRow a_Put a_If a_Times a_Stop a_Ask a_Not a_Row a_Test a_Program a_Sheet a_DEEDS a_SIGNS a_WORDS a_If_init_d0 a_Program_init_d0 a_Sheet_init_d0 d_is_integer d_is_number d_is_name d_are_rows d_texts d_needed d_fits d_is_of d_inner d_flat d_names_in d_bare d_named d_law_deal d_law_draw d_law_pick d_law_words d_law_kinds d_law_put d_law_ask d_law_count d_law_rows d_law_ask_text d_law_lines d_law_all_lines d_law_ask_of d_law_row_of d_law_deed d_law_begun d_law_alike d_law d_NoRow_init d_InvalidRow_init d_Put_init d_Put_eq d_Put_str d_If_init d_If_eq d_If_str d_Times_init d_Times_eq d_Times_str d_Stop_eq d_Stop_str d_Ask_init d_Ask_eq d_Ask_str d_Not_init d_Not_eq d_Not_str d_Program_init d_Program_str d_Sheet_init d_Sheet_drop d_Sheet_made d_Sheet_len d_Sheet_getitem d_Sheet_setitem d_Sheet_iadd) (n lv : Nat) (h20 : 20 ≤ lv) (HSx : ∀ C g, SFr ⟨a_Put, a_If, a_Times, a_Stop, a_Ask, a_Not⟩ a_Put_str a_If_str a_Times_str a_Stop_str C g → MethC K "__str__" C g) (GSx : ∀ C g, SFr ⟨a_Put, a_If, a_Times, a_Stop, a_Ask, a_Not⟩ a_Put_str a_If_str a_Times_str a_Stop_str C g → FnR P w K mg base CX0 lv g (onC C (spRx K ⟨a_Put, a_If, a_Times, a_Stop, a_Ask, a_Not⟩ n))) : FnR P w K mg base CX0 (lv + 4) a_If_str (onC a_If (spRx K ⟨a_Put, a_If, a_Times, a_Stop, a_Ask, a_Not⟩ (n + 1))) := by
  have G_texts := ok_texts (P := P) (w := w) (base := base) T n lv HSx GSx
  have HS := HSt T
  have GS := GSt (P := P) (w := w) (mg := mg) (base := base) T 9
  have F : FnOk P w K mg base CX0 (lv + 4) a_If_str d_If_str ["self"] (onC a_If (spRx K ⟨a_Put, a_If, a_Times, a_Stop, a_Ask, a_Not⟩ (n + 1))) := by
    refine T.F_If_str.ok sc_If_str (fun vs H Q E h => ?_) (fun cdv A outer s H vs Q E hr h => ?_)
    · obtain ⟨_, t, u, rfl, _⟩ := h; rfl
    obtain ⟨⟨a, dx, fs, rest, e0, h0⟩, r, u, rfl, hr0, hok, hd, hl, q⟩ := h
    refine ⟨_, (pss_cons (ps_set (i := 1) sc_If_str.nd rfl (by first | exact .inl rfl | exact .inr rfl) (pe_lst (pa_cons (pe_joined (.cons pe_str (.cons (pe_fmtO HS GS (hr.mono (by omega)) pass0 (pe_fld (pv 0) (by rfl))) .nil))) (StX.pa_star (pe_call G_texts (hr.mono (by omega)) (by rfl) T.g_texts T.F_texts.kp T.b_texts .nil pass0 (pa_cons (pe_fld (pv 0) (by rfl)) pa_nil)) pa_nil))))
      (Evl.pss_cut (ps_if (pt_cmpR op_gt (pe_callB call_len_seq (by rfl) T.z_len (by decide +kernel) (pa_cons (pe_fld (pv 0) (by rfl)) pa_nil)) pe_int (nomark _))
      (pss_one (ps_set (i := 1) sc_If_str.nd rfl (by first | exact .inl rfl | exact .inr rfl) (pe_lst (StX.pa_star (pv 1) (pa_cons pe_str (StX.pa_star (pe_call G_texts (hr.mono (by omega)) (by rfl) T.g_texts T.F_texts.kp T.b_texts .nil pass0 (pa_cons (pe_fld (pv 0) (by rfl)) pa_nil)) pa_nil))))))
      pss_nil)
      (pss_one (ps_ret (pe_bm PySem.F.plainAttrs_str PySem.F.slot_str_join PySem.F.type_str_join mt_join pe_str (pa_cons (pe_lst (StX.pa_star (pv 1) (pa_cons pe_str pa_nil))) pa_nil)))))), ?_⟩
    walk_at "st"
    walk_at "vc"
    cases e0
    obtain ⟨t, rs, os, u, q0, q1, us, ws, rfl, rfl, ht, hq, ho, hq1, hw⟩ := hr0.ifr_of T.kits h0
    unfold RowM.ok at hok
    obtain ⟨htk, htd, hoks, hlen, hoos, hlen2⟩ := hok
    have et := text_ifr t rs os
    have e2 := join_wt nl1 (ls := ((Str.ofString "if " ++ t.text) :: rs.map RowM.text ++ (if os = [] then [] else ("else" : Str) :: os.map RowM.text)) ++ [("end" : Str)]) (by simp)
    rw [← et, List.cons_append, List.cons_append, wt_cons, wt_app, wt_app, wt_texts, str_len] at e2
    have wo : (os.map fun r => r.text.length + 1).sum ≤ wt (if os = [] then [] else ("else" : Str) :: os.map RowM.text) := by
      split
      · rename_i e; subst e; exact Nat.zero_le _
      · rw [wt_cons, wt_texts]; omega
    have big : ∀ k, k ≤ 10000001 → k ≤ sizeLine := fun k hk => by rw [sizeLine_eq]; omega
    have hdp : RowM.deps rs < n ∧ RowM.deps os < n := by rw [RowM.dep] at hd; omega
    have hc : ∃ a3 dx3 fs3 C g, u = .ref a3 ∧ H a3 = some (.ins C dx3 fs3) ∧ SFt ⟨a_Put, a_If, a_Times, a_Stop, a_Ask, a_Not⟩ a_Ask_str a_Not_str C g := by
      obtain ⟨a3, dx3, fs3, rfl, h4 | h4⟩ := ht.cls
      · exact ⟨a3, dx3, fs3, _, a_Ask_str, rfl, h4, .inl ⟨rfl, rfl⟩⟩
      · exact ⟨a3, dx3, fs3, _, a_Not_str, rfl, h4, .inr ⟨rfl, rfl⟩⟩
    obtain ⟨a3, dx3, fs3, C3, g3, rfl, h4, hSF⟩ := hc
    refine ⟨_, rfl, by rw [emp_app]; decide, _, rfl, a, _, dx, _, .ref a3, rfl, h0, T.oc_If.cl, T.nF_If_test, rfl, a3, C3, dx3, fs3, g3, rfl, h4, hSF, t, _, rfl, ht, htd, by omega, fun H1 e1 => ⟨_, rfl, _, rfl, ?_⟩⟩
    rw [emp_app]
    refine ⟨big _ (by rw [str_len]; omega), ?_⟩
    refine ⟨_, rfl, a, _, dx, _, .ref q0, rfl, e1 _ _ h0, T.oc_If.cl, T.nF_If_rows, rfl, q0, us, rs, rfl, e1.sqt hq, ho.kp (Kp.of_ex e1), hoks, hdp.1, hlen, fun r hr => by have := text_le_sum hr; omega, fun D H2 e3 hD => ?_⟩
    refine ⟨D, _, rfl, .inr (sq_of hD), big _ (by simp; omega), fun p hp => ?_⟩
    have e4 := (e1.trans e3).trans (Ex.new hp (o := .lst (.str (Str.ofString "if " ++ t.text) :: ((rs.map RowM.text).map V.str ++ []))))
    have w4 : upd H2 p (.lst (.str (Str.ofString "if " ++ t.text) :: ((rs.map RowM.text).map V.str ++ []))) p = some (.lst (((Str.ofString "if " ++ t.text) :: rs.map RowM.text).map V.str)) := by rw [upd_same]; simp
    generalize upd H2 p (.lst (.str (Str.ofString "if " ++ t.text) :: ((rs.map RowM.text).map V.str ++ []))) = H4 at *
    refine ⟨fun σ H' => ∃ p', σ = [some (.ref a), some (.ref p')] ∧ Ex H H' ∧ H' p' = some (.lst (((Str.ofString "if " ++ t.text) :: rs.map RowM.text ++ (if os = [] then [] else ("else" : Str) :: os.map RowM.text)).map V.str)), ?_, fun σ H' hm => ?_⟩
    · walk_at "vc"
      refine ⟨_, rfl, a, _, dx, _, .ref q1, rfl, e4 _ _ h0, T.oc_If.cl, T.nF_If_others, rfl, q1, rfl, ws, .inr (e4.sqt hq1), ?_⟩
      walk_at "vc"
      refine ite2 (fun hpos => ?_) (fun hz => ?_)
      · have hne : os ≠ [] := fun z => by
          subst z
          unfold RowOs at hw
          subst hw
          simp at hpos
        refine ⟨_, rfl, p, _, rfl, .inr (sq_of w4), _, rfl, a, _, dx, _, .ref q1, rfl, e4 _ _ h0, T.oc_If.cl, T.nF_If_others, rfl, q1, ws, os, rfl, e4.sqt hq1, hw.kp (Kp.of_ex e4), hoos, hdp.2, hlen2, fun r hr => by have := text_le_sum hr; omega, fun D2 H5 e5 hD2 => ?_⟩
        refine ⟨D2, _, rfl, .inr (sq_of hD2), big _ (by simp; omega), fun p2 hp2 => ⟨(e4.trans e5).trans (Ex.new hp2), ?_⟩⟩
        rw [upd_same, if_neg hne]
        simp
      · have hnil : os = [] := by
          cases os with
          | nil => rfl
          | cons o os => unfold RowOs at hw; obtain ⟨x, y, rfl, _⟩ := hw; simp at hz
        refine ⟨e4, ?_⟩
        rw [w4, if_pos hnil]
        simp
    obtain ⟨p', rfl, e5, w5⟩ := hm
    walk_at "vc"
    have l1 : (if os = [] then [] else ("else" : Str) :: os.map RowM.text).length ≤ 1001 := by split <;> simp <;> omega
    have l2 : (((Str.ofString "if " ++ t.text) :: rs.map RowM.text ++ (if os = [] then [] else ("else" : Str) :: os.map RowM.text)).map V.str ++ [V.str "end"]).length ≤ 10000001 := by
      simp only [List.length_append, List.length_map, List.length_cons, List.length_nil]; omega
    refine ⟨rfl, _, rfl, p', _, rfl, .inr (sq_of w5), ?_⟩
    refine ⟨big _ l2, fun p2 hp2 => ⟨((Str.ofString "if " ++ t.text) :: rs.map RowM.text ++ (if os = [] then [] else ("else" : Str) :: os.map RowM.text)) ++ [("end" : Str)], .inl (sq_of (by rw [upd_same]; simp)), ?_, ?_⟩⟩
    · rw [nl1, ← wt_sum, List.cons_append, List.cons_append, wt_cons, wt_app, wt_app, wt_texts, str_len]; omega
    · rw [← et]
      exact q _ (e5.trans (Ex.new hp2))
  exact FnOk.raw (dvs := []) F T.b_If_str .nil |>.imp fun vs H Q E h => by simpa using h
theorem HSr (T : Txt w K mg a_is_integer a_is_number a_is_name a_are_rows a_texts a_needed a_fits a_is_of a_inner a_flat a_names_in a_bare a_named a_law_deal a_law_draw a_law_pick a_law_words a_law_kinds a_law_put a_law_ask a_law_count a_law_rows a_law_ask_text a_law_lines a_law_all_lines a_law_ask_of a_law_row_of a_law_deed a_law_begun a_law_alike a_law a_NoRow_init a_InvalidRow_init a_Put_init a_Put_eq a_Put_str a_If_init a_If_eq a_If_str a_Times_init a_Times_eq a_Times_str a_Stop_eq a_Stop_str a_Ask_init a_Ask_eq a_Ask_str a_Not_init a_Not_eq a_Not_str a_Program_init a_Program_str a_Sheet_init a_Sheet_drop a_Sheet_made a_Sheet_len a_Sheet_getitem a_Sheet_setitem a_Sheet_iadd a_NoRow a_InvalidRow a_Put a_If a_Times a_Stop a_Ask a_Not a_Row a_Test a_Program a_Sheet a_DEEDS a_SIGNS a_WORDS a_If_init_d0 a_Program_init_d0 a_Sheet_init_d0 d_is_integer d_is_number d_is_name d_are_rows d_texts d_needed d_fits d_is_of d_inner d_flat d_names_in d_bare d_named d_law_deal d_law_draw d_law_pick d_law_words d_law_kinds d_law_put d_law_ask d_law_count d_law_rows d_law_ask_text d_law_lines d_law_all_lines d_law_ask_of d_law_row_of d_law_deed d_law_begun d_law_alike d_law d_NoRow_init d_InvalidRow_init d_Put_init d_Put_eq d_Put_str d_If_init d_If_eq d_If_str d_Times_init d_Times_eq d_Times_str d_Stop_eq d_Stop_str d_Ask_init d_Ask_eq d_Ask_str d_Not_init d_Not_eq d_Not_str d_Program_init d_Program_str d_Sheet_init d_Sheet_drop d_Sheet_made d_Sheet_len d_Sheet_getitem d_Sheet_setitem d_Sheet_iadd) : ∀ C g, SFr ⟨a_Put, a_If, a_Times, a_Stop, a_Ask, a_Not⟩ a_Put_str a_If_str a_Times_str a_Stop_str C g → MethC K "__str__" C g := by
  rintro C g (⟨h1, h2⟩ | ⟨h1, h2⟩ | ⟨h1, h2⟩ | ⟨h1, h2⟩)
  · rw [h1, h2]; exact T.mt_Put_str
  · rw [h1, h2]; exact T.mt_If_str
  · rw [h1, h2]; exact T.mt_Times_str
  · rw [h1, h2]; exact T.mt_Stop_str
theorem GSr (T : Txt w K mg a_is_integer a_is_number a_is_name a_are_rows a_texts a_needed a_fits a_is_of a_inner a_flat a_names_in a_bare a_named a_law_deal a_law_draw a_law_pick a_law_words a_law_kinds a_law_put a_law_ask a_law_count a_law_rows a_law_ask_text a_law_lines a_law_all_lines a_law_ask_of a_law_row_of a_law_deed a_law_begun a_law_alike a_law a_NoRow_init a_InvalidRow_init a_Put_init a_Put_eq a_Put_str a_If_init a_If_eq a_If_str a_Times_init a_Times_eq a_Times_str a_Stop_eq a_Stop_str a_Ask_init a_Ask_eq a_Ask_str a_Not_init a_Not_eq a_Not_str a_Program_init a_Program_str a_Sheet_init a_Sheet_drop a_Sheet_made a_Sheet_len a_Sheet_getitem a_Sheet_setitem a_Sheet_iadd a_NoRow a_InvalidRow a_Put a_If a_Times a_Stop a_Ask a_Not a_Row a_Test a_Program a_Sheet a_DEEDS a_SIGNS a_WORDS a_If_init_d0 a_Program_init_d0 a_Sheet_init_d0 d_is_integer d_is_number d_is_name d_are_rows d_texts d_needed d_fits d_is_of d_inner d_flat d_names_in d_bare d_named d_law_deal d_law_draw d_law_pick d_law_words d_law_kinds d_law_put d_law_ask d_law_count d_law_rows d_law_ask_text d_law_lines d_law_all_lines d_law_ask_of d_law_row_of d_law_deed d_law_begun d_law_alike d_law d_NoRow_init d_InvalidRow_init d_Put_init d_Put_eq d_Put_str d_If_init d_If_eq d_If_str d_Times_init d_Times_eq d_Times_str d_Stop_eq d_Stop_str d_Ask_init d_Ask_eq d_Ask_str d_Not_init d_Not_eq d_Not_str d_Program_init d_Program_str d_Sheet_init d_Sheet_drop d_Sheet_made d_Sheet_len d_Sheet_getitem d_Sheet_setitem d_Sheet_iadd) : ∀ n : Nat, ∀ C g, SFr ⟨a_Put, a_If, a_Times, a_Stop, a_Ask, a_Not⟩ a_Put_str a_If_str a_Times_str a_Stop_str C g → FnR P w K mg base CX0 (4 * n + 22) g (onC C (spRx K ⟨a_Put, a_If, a_Times, a_Stop, a_Ask, a_Not⟩ n))
  | 0 => fun C g _ A outer s H us vs Q E _ _ _ h => by
    obtain ⟨_, t, u, _, _, _, hd, _⟩ := h
    exact absurd hd (Nat.not_lt_zero _)
  | n + 1 => by
    have ih := GSr T n
    have a1 := (ok_Put_str (P := P) (w := w) (base := base) T (n + 1)).mono (show 1 ≤ 4 * (n + 1) + 22 by omega)
    have a2 := (ok_If_str T n (4 * n + 22) (by omega) (HSr T) ih).mono (show 4 * n + 22 + 4 ≤ 4 * (n + 1) + 22 by omega)
    have a3 := (ok_Times_str T n (4 * n + 22) (HSr T) ih).mono (show 4 * n + 22 + 4 ≤ 4 * (n + 1) + 22 by omega)
    have a4 := (ok_Stop_str (P := P) (w := w) (base := base) T (n + 1)).mono (show 1 ≤ 4 * (n + 1) + 22 by omega)
    rintro C g (⟨h1, h2⟩ | ⟨h1, h2⟩ | ⟨h1, h2⟩ | ⟨h1, h2⟩)
    · rw [h1, h2]; exact a1
    · rw [h1, h2]; exact a2
    · rw [h1, h2]; exact a3
    · rw [h1, h2]; exact a4
end
end My
set_option Elab.async false
set_option linter.all false
set_option maxRecDepth 100000
set_option maxHeartbeats 4000000
set_option exponentiation.threshold 5000
namespace My
open PySem PySem.Spec PyProof.Rows L2 Evl
local macro_rules | `(tactic| walk_at "st") => `(tactic| simp only [L2.start, List.map_cons, List.map_nil, List.length_cons, List.length_nil, Nat.reduceAdd, Nat.reduceSub, List.replicate_succ, List.replicate_zero, List.cons_append, List.nil_append, cxOf, List.append_nil])
local macro_rules | `(tactic| walk_at "vc") => `(tactic| try simp only [tSeq, tAsg, tOp, tUn, tVar, tC, tNil, tCons, gName, rI, rI0, rU, tRet, tIfS, tNot, tAnd, tOr, tB, tTest, tCB, tCall, tAndV, tOrV, tNotV, tNext, tNever, tIf, tChain, tYes, tPart, tNoPart, tPar, tDrop, q_isi, q_vn, q_vb, q_vi, q_vs, kb1, kb2, kb3, kb4, kb5, kb6, kb7, kb8, q_int1, q_int2, q_min, q_max, q_repr, tLst, tTup, rEq, rNe, q_sii, q_sss, q_sbb, q_snn, q_sns, q_ssn, q_ix, q_sl, tSl, tBM, tBM0, q_app, q_pop, gSub, rSetL, L2.wipe, eq_self, decide_true, decide_false, tRevL,
  List.getElem?_cons_succ, List.getElem?_cons_zero, List.set_cons_succ, List.set_cons_zero, Option.some.injEq, exists_eq_left', exists_eq_left, V.int.injEq, V.bl.injEq, V.ref.injEq, V.str.injEq, List.cons.injEq, and_true, true_and, List.append_nil, List.nil_append, List.cons_append, exists_and_left, and_assoc, if_true, if_false, Bool.not_true, Bool.not_false, Bool.false_eq_true, Bool.true_eq_false, reduceIte, tRevL, tPar3, tRevT, tUnl, tCKw, forall_const, Bool.not_eq_true', decide_eq_true_eq, decide_eq_false_iff_not])
section
variable {P : Program} {w : World} {K : PySem.W.Frag} {mg : Str → Option Value} {base : Heap}
variable {a_is_integer a_is_number a_is_name a_are_rows a_texts a_needed a_fits a_is_of a_inner a_flat a_names_in a_bare a_named a_law_deal a_law_draw a_law_pick a_law_words a_law_kinds a_law_put a_law_ask a_law_count a_law_rows a_law_ask_text a_law_lines a_law_all_lines a_law_ask_of a_law_row_of a_law_deed a_law_begun a_law_alike a_law a_NoRow_init a_InvalidRow_init a_Put_init a_Put_eq a_Put_str a_If_init a_If_eq a_If_str a_Times_init a_Times_eq a_Times_str a_Stop_eq a_Stop_str a_Ask_init a_Ask_eq a_Ask_str a_Not_init a_Not_eq a_Not_str a_Program_init a_Program_str a_Sheet_init a_Sheet_drop a_Sheet_made a_Sheet_len a_Sheet_getitem a_Sheet_setitem a_Sheet_iadd a_NoRow a_InvalidRow a_Put a_If a_Times a_Stop a_Ask a_Not a_Row a_Test a_Program a_Sheet a_DEEDS a_SIGNS a_WORDS a_If_init_d0 a_Program_init_d0 a_Sheet_init_d0 : Addr} {d_is_integer d_is_number d_is_name d_are_rows d_texts d_needed d_fits d_is_of d_inner d_flat d_names_in d_bare d_named d_law_deal d_law_draw d_law_pick d_law_words d_law_kinds d_law_put d_law_ask d_law_count d_law_rows d_law_ask_text d_law_lines d_law_all_lines d_law_ask_of d_law_row_of d_law_deed d_law_begun d_law_alike d_law d_NoRow_init d_InvalidRow_init d_Put_init d_Put_eq d_Put_str d_If_init d_If_eq d_If_str d_Times_init d_Times_eq d_Times_str d_Stop_eq d_Stop_str d_Ask_init d_Ask_eq d_Ask_str d_Not_init d_Not_eq d_Not_str d_Program_init d_Program_str d_Sheet_init d_Sheet_drop d_Sheet_made d_Sheet_len d_Sheet_getitem d_Sheet_setitem d_Sheet_iadd : FuncData}
/-! ### == of rows -/
def RowM.ci : RowM → Nat
  | .put .. => 0
  | .ifr .. => 1
  | .times .. => 2
  | .stop => 3
def eqR (r r2 : RowM) : Bool := decide (r.ci = r2.ci ∧ r.text = r2.text)
/-- the type t is none of a row's classes below i -/
def noRow (K : PySem.W.Frag) (A : ClsA) (t : Value) : Prop := (∀ i, i < 4 → PySem.W.kitOne K t (.ref ([A.put, A.ifr, A.times, A.stop].getD i 0)) = some false) ∧ True
def spEr (K : PySem.W.Frag) (A : ClsA) (n : Nat) : Sp := fun vs H Q _ => ∃ r u y, vs = [u, y] ∧ RowO K A H r u ∧ r.ok ∧ r.dep < n ∧ r.text.length ≤ 10000000 ∧
  ((∃ r2, RowO K A H r2 y ∧ r2.ok ∧ r2.dep < n ∧ r2.text.length ≤ 10000000 ∧ ∀ H', Ex H H' → Q (.bl (eqR r r2)) H') ∨ (∃ (t : Value) (_ : Unit), TyX K H y t ∧ noRow K A t ∧ ∀ H', Ex H H' → Q (.bl false) H'))
theorem RowO.ci_of {K : PySem.W.Frag} {A : ClsA} {row test : Addr} {H : Hp} {a C dx : Addr} {fs : List (Str × V)} {r : RowM} (k : kitO K A row test = true) (hr : RowO K A H r (.ref a)) (h : H a = some (.ins C dx fs)) : r.ci < 4 ∧ C = (clsL A row test).getD r.ci 0 := by
  cases r with
  | put n d g => unfold RowO at hr; obtain ⟨b, dx2, q, e, h2, h3⟩ := hr; cases e; rw [h] at h2; exact ⟨by simp [RowM.ci], (HO.ins.inj (Option.some.inj h2)).1⟩
  | stop => unfold RowO at hr; obtain ⟨b, dx2, e, h2⟩ := hr; cases e; rw [h] at h2; exact ⟨by simp [RowM.ci], (HO.ins.inj (Option.some.inj h2)).1⟩
  | times c rs => unfold RowO at hr; obtain ⟨b, dx2, q, vs, e, h2, _⟩ := hr; cases e; rw [h] at h2; exact ⟨by simp [RowM.ci], (HO.ins.inj (Option.some.inj h2)).1⟩
  | ifr t rs os => unfold RowO at hr; obtain ⟨b, dx2, u, q, x, vs, ws, e, h2, _⟩ := hr; cases e; rw [h] at h2; exact ⟨by simp [RowM.ci], (HO.ins.inj (Option.some.inj h2)).1⟩
theorem isTy (T : Txt w K mg a_is_integer a_is_number a_is_name a_are_rows a_texts a_needed a_fits a_is_of a_inner a_flat a_names_in a_bare a_named a_law_deal a_law_draw a_law_pick a_law_words a_law_kinds a_law_put a_law_ask a_law_count a_law_rows a_law_ask_text a_law_lines a_law_all_lines a_law_ask_of a_law_row_of a_law_deed a_law_begun a_law_alike a_law a_NoRow_init a_InvalidRow_init a_Put_init a_Put_eq a_Put_str a_If_init a_If_eq a_If_str a_Times_init a_Times_eq a_Times_str a_Stop_eq a_Stop_str a_Ask_init a_Ask_eq a_Ask_str a_Not_init a_Not_eq a_Not_str a_Program_init a_Program_str a_Sheet_init a_Sheet_drop a_Sheet_made a_Sheet_len a_Sheet_getitem a_Sheet_setitem a_Sheet_iadd a_NoRow a_InvalidRow a_Put a_If a_Times a_Stop a_Ask a_Not a_Row a_Test a_Program a_Sheet a_DEEDS a_SIGNS a_WORDS a_If_init_d0 a_Program_init_d0 a_Sheet_init_d0 d_is_integer d_is_number d_is_name d_are_rows d_texts d_needed d_fits d_is_of d_inner d_flat d_names_in d_bare d_named d_law_deal d_law_draw d_law_pick d_law_words d_law_kinds d_law_put d_law_ask d_law_count d_law_rows d_law_ask_text d_law_lines d_law_all_lines d_law_ask_of d_law_row_of d_law_deed d_law_begun d_law_alike d_law d_NoRow_init d_InvalidRow_init d_Put_init d_Put_eq d_Put_str d_If_init d_If_eq d_If_str d_Times_init d_Times_eq d_Times_str d_Stop_eq d_Stop_str d_Ask_init d_Ask_eq d_Ask_str d_Not_init d_Not_eq d_Not_str d_Program_init d_Program_str d_Sheet_init d_Sheet_drop d_Sheet_made d_Sheet_len d_Sheet_getitem d_Sheet_setitem d_Sheet_iadd) {H : Hp} {a C dx : Addr} {fs : List (Str × V)} (h : H a = some (.ins C dx fs)) (hC : C = a_Put ∨ C = a_If ∨ C = a_Times ∨ C = a_Stop) : TyX K H (.ref a) (.ref C) := by
  rcases hC with rfl | rfl | rfl | rfl
  · exact T.oc_Put.ty h
  · exact T.oc_If.ty h
  · exact T.oc_Times.ty h
  · exact T.oc_Stop.ty h
theorem sfr_of (T : Txt w K mg a_is_integer a_is_number a_is_name a_are_rows a_texts a_needed a_fits a_is_of a_inner a_flat a_names_in a_bare a_named a_law_deal a_law_draw a_law_pick a_law_words a_law_kinds a_law_put a_law_ask a_law_count a_law_rows a_law_ask_text a_law_lines a_law_all_lines a_law_ask_of a_law_row_of a_law_deed a_law_begun a_law_alike a_law a_NoRow_init a_InvalidRow_init a_Put_init a_Put_eq a_Put_str a_If_init a_If_eq a_If_str a_Times_init a_Times_eq a_Times_str a_Stop_eq a_Stop_str a_Ask_init a_Ask_eq a_Ask_str a_Not_init a_Not_eq a_Not_str a_Program_init a_Program_str a_Sheet_init a_Sheet_drop a_Sheet_made a_Sheet_len a_Sheet_getitem a_Sheet_setitem a_Sheet_iadd a_NoRow a_InvalidRow a_Put a_If a_Times a_Stop a_Ask a_Not a_Row a_Test a_Program a_Sheet a_DEEDS a_SIGNS a_WORDS a_If_init_d0 a_Program_init_d0 a_Sheet_init_d0 d_is_integer d_is_number d_is_name d_are_rows d_texts d_needed d_fits d_is_of d_inner d_flat d_names_in d_bare d_named d_law_deal d_law_draw d_law_pick d_law_words d_law_kinds d_law_put d_law_ask d_law_count d_law_rows d_law_ask_text d_law_lines d_law_all_lines d_law_ask_of d_law_row_of d_law_deed d_law_begun d_law_alike d_law d_NoRow_init d_InvalidRow_init d_Put_init d_Put_eq d_Put_str d_If_init d_If_eq d_If_str d_Times_init d_Times_eq d_Times_str d_Stop_eq d_Stop_str d_Ask_init d_Ask_eq d_Ask_str d_Not_init d_Not_eq d_Not_str d_Program_init d_Program_str d_Sheet_init d_Sheet_drop d_Sheet_made d_Sheet_len d_Sheet_getitem d_Sheet_setitem d_Sheet_iadd) {H : Hp} {a C dx : Addr} {fs : List (Str × V)} {r : RowM} (hr : RowO K ⟨a_Put, a_If, a_Times, a_Stop, a_Ask, a_Not⟩ H r (.ref a)) (h : H a = some (.ins C dx fs)) : ∃ g, SFr ⟨a_Put, a_If, a_Times, a_Stop, a_Ask, a_Not⟩ a_Put_str a_If_str a_Times_str a_Stop_str C g := by
  obtain ⟨b, dx2, fs2, C2, e, h2, hC⟩ := hr.cls
  cases e
  rw [h] at h2
  rw [← (HO.ins.inj (Option.some.inj h2)).1] at hC
  rcases hC with hC | hC | hC | hC
  · exact ⟨_, .inl ⟨hC, rfl⟩⟩
  · exact ⟨_, .inr (.inl ⟨hC, rfl⟩)⟩
  · exact ⟨_, .inr (.inr (.inl ⟨hC, rfl⟩))⟩
  · exact ⟨_, .inr (.inr (.inr ⟨hC, rfl⟩))⟩
theorem ok_Put_eq (T : Txt w K mg a_is_integer a_is_number a_is_name a_are_rows a_texts a_needed a_fits a_is_of a_inner a_flat a_names_in a_bare a_named a_law_deal a_law_draw a_law_pick a_law_words a_law_kinds a_law_put a_law_ask a_law_count a_law_rows a_law_ask_text a_law_lines a_law_all_lines a_law_ask_of a_law_row_of a_law_deed a_law_begun a_law_alike a_law a_NoRow_init a_InvalidRow_init a_Put_init a_Put_eq a_Put_str a_If_init a_If_eq a_If_str a_Times_init a_Times_eq a_Times_str a_Stop_eq a_Stop_str a_Ask_init a_Ask_eq a_Ask_str a_Not_init a_Not_eq a_Not_str a_Program_init a_Program_str a_Sheet_init a_Sheet_drop a_Sheet_made a_Sheet_len a_Sheet_getitem a_Sheet_setitem a_Sheet_iadd a_NoRow a_InvalidRow a_Put a_If a_Times a_Stop a_Ask a_Not a_Row a_Test a_Program a_Sheet a_DEEDS a_SIGNS a_WORDS a_If_init_d0 a_Program_init_d0 a_Sheet_init_d0 d_is_integer d_is_number d_is_name d_are_rows d_texts d_needed d_fits d_is_of d_inner d_flat d_names_in d_bare d_named d_law_deal d_law_draw d_law_pick d_law_words d_law_kinds d_law_put d_law_ask d_law_count d_law_rows d_law_ask_text d_law_lines d_law_all_lines d_law_ask_of d_law_row_of d_law_deed d_law_begun d_law_alike d_law d_NoRow_init d_InvalidRow_init d_Put_init d_Put_eq d_Put_str d_If_init d_If_eq d_If_str d_Times_init d_Times_eq d_Times_str d_Stop_eq d_Stop_str d_Ask_init d_Ask_eq d_Ask_str d_Not_init d_Not_eq d_Not_str d_Program_init d_Program_str d_Sheet_init d_Sheet_drop d_Sheet_made d_Sheet_len d_Sheet_getitem d_Sheet_setitem d_Sheet_iadd) (n lv : Nat) (HS : ∀ C g, SFr ⟨a_Put, a_If, a_Times, a_Stop, a_Ask, a_Not⟩ a_Put_str a_If_str a_Times_str a_Stop_str C g → MethC K "__str__" C g) (GS : ∀ C g, SFr ⟨a_Put, a_If, a_Times, a_Stop, a_Ask, a_Not⟩ a_Put_str a_If_str a_Times_str a_Stop_str C g → FnR P w K mg base CX0 lv g (onC C (spRx K ⟨a_Put, a_If, a_Times, a_Stop, a_Ask, a_Not⟩ n))) : FnR P w K mg base CX0 (lv + 3) a_Put_eq (onC a_Put (spEr K ⟨a_Put, a_If, a_Times, a_Stop, a_Ask, a_Not⟩ n)) := by
  have F : FnOk P w K mg base CX0 (lv + 3) a_Put_eq d_Put_eq ["self", "other"] (onC a_Put (spEr K ⟨a_Put, a_If, a_Times, a_Stop, a_Ask, a_Not⟩ n)) := by
    refine T.F_Put_eq.ok sc_Put_eq (fun vs H Q E h => ?_) (fun cdv A outer s H vs Q E hr h => ?_)
    · obtain ⟨_, r, u, y, rfl, _⟩ := h; rfl
    obtain ⟨⟨a, dx, fs, rest, e0, h0⟩, r, u, y, rfl, hr0, hok, hd, hl, hy⟩ := h
    refine ⟨_, (pss_one (ps_ret (pe_and (pe_callB (call_isiK (K := K)) (by rfl) T.z_isinstance (by decide +kernel) (pa_cons (pv 1) (pa_cons (pe_glob (v := .ref a_Put) (by rfl) T.g_Put rfl) pa_nil))) (pe_one (pe_cmpR op_eq (pe_callTy (call_strO HS GS (hr.mono (by omega)) pass0) (by rfl) T.z_str (by decide +kernel) (pa_cons (pv 0) pa_nil)) (pe_callTy (call_strO HS GS (hr.mono (by omega)) pass0) (by rfl) T.z_str (by decide +kernel) (pa_cons (pv 1) pa_nil)) (nomark _)))))), ?_⟩
    walk_at "st"
    walk_at "vc"
    cases e0
    have ci : r.ci = 0 := by obtain ⟨_, _, _, _, rfl, _⟩ := hr0.put_of T.kits h0; first | rfl | (subst e; rfl)
    rcases hy with ⟨r2, hr2, hok2, hd2, hl2, q⟩ | ⟨t, j, ty, ht, q⟩
    · obtain ⟨b, dx2, fs2, C, rfl, h2, hC⟩ := hr2.cls
      have c2 := hr2.ci_of T.kits h2
      refine ⟨_, _, _, _, ansO r2.ci 0, rfl, .own _, isTy T h2 hC, ?_, ?_⟩
      · rw [c2.2]; exact kitO1 T.kits r2.ci 0 (by omega) (by decide)
      refine ⟨_, rfl, ?_⟩
      by_cases hc : r2.ci = 0
      · rw [if_pos (by rw [hc]; rfl)]
        obtain ⟨g1, hg1⟩ := sfr_of T hr0 h0
        obtain ⟨g2, hg2⟩ := sfr_of T hr2 h2
        refine ⟨a, _, dx, _, g1, rfl, h0, hg1, r, _, rfl, hr0, hok, hd, hl, fun H1 e1 => ⟨_, rfl, ?_⟩⟩
        refine ⟨b, C, dx2, fs2, g2, rfl, e1 _ _ h2, hg2, r2, _, rfl, hr2.kp (Kp.of_ex e1), hok2, hd2, hl2, fun H2 e2 => ⟨_, rfl, ?_⟩⟩
        refine ⟨rfl, ?_⟩
        have := q H2 (e1.trans e2)
        unfold eqR at this
        rw [ci, hc] at this
        simpa using this
      · rw [if_neg (by unfold ansO; simp; omega)]
        have := q H (Ex.refl H)
        unfold eqR at this
        rw [decide_eq_false (fun z => hc (z.1.symm.trans ci))] at this
        exact this
    · refine ⟨_, _, _, _, false, rfl, .own _, ty, ht.1 0 (by decide), _, rfl, ?_⟩
      rw [if_neg (by decide)]
      exact q H (Ex.refl H)
  exact FnOk.raw (dvs := []) F T.b_Put_eq .nil |>.imp fun vs H Q E h => by simpa using h
theorem ok_If_eq (T : Txt w K mg a_is_integer a_is_number a_is_name a_are_rows a_texts a_needed a_fits a_is_of a_inner a_flat a_names_in a_bare a_named a_law_deal a_law_draw a_law_pick a_law_words a_law_kinds a_law_put a_law_ask a_law_count a_law_rows a_law_ask_text a_law_lines a_law_all_lines a_law_ask_of a_law_row_of a_law_deed a_law_begun a_law_alike a_law a_NoRow_init a_InvalidRow_init a_Put_init a_Put_eq a_Put_str a_If_init a_If_eq a_If_str a_Times_init a_Times_eq a_Times_str a_Stop_eq a_Stop_str a_Ask_init a_Ask_eq a_Ask_str a_Not_init a_Not_eq a_Not_str a_Program_init a_Program_str a_Sheet_init a_Sheet_drop a_Sheet_made a_Sheet_len a_Sheet_getitem a_Sheet_setitem a_Sheet_iadd a_NoRow a_InvalidRow a_Put a_If a_Times a_Stop a_Ask a_Not a_Row a_Test a_Program a_Sheet a_DEEDS a_SIGNS a_WORDS a_If_init_d0 a_Program_init_d0 a_Sheet_init_d0 d_is_integer d_is_number d_is_name d_are_rows d_texts d_needed d_fits d_is_of d_inner d_flat d_names_in d_bare d_named d_law_deal d_law_draw d_law_pick d_law_words d_law_kinds d_law_put d_law_ask d_law_count d_law_rows d_law_ask_text d_law_lines d_law_all_lines d_law_ask_of d_law_row_of d_law_deed d_law_begun d_law_alike d_law d_NoRow_init d_InvalidRow_init d_Put_init d_Put_eq d_Put_str d_If_init d_If_eq d_If_str d_Times_init d_Times_eq d_Times_str d_Stop_eq d_Stop_str d_Ask_init d_Ask_eq d_Ask_str d_Not_init d_Not_eq d_Not_str d_Program_init d_Program_str d_Sheet_init d_Sheet_drop d_Sheet_made d_Sheet_len d_Sheet_getitem d_Sheet_setitem d_Sheet_iadd) (n lv : Nat) (HS : ∀ C g, SFr ⟨a_Put, a_If, a_Times, a_Stop, a_Ask, a_Not⟩ a_Put_str a_If_str a_Times_str a_Stop_str C g → MethC K "__str__" C g) (GS : ∀ C g, SFr ⟨a_Put, a_If, a_Times, a_Stop, a_Ask, a_Not⟩ a_Put_str a_If_str a_Times_str a_Stop_str C g → FnR P w K mg base CX0 lv g (onC C (spRx K ⟨a_Put, a_If, a_Times, a_Stop, a_Ask, a_Not⟩ n))) : FnR P w K mg base CX0 (lv + 3) a_If_eq (onC a_If (spEr K ⟨a_Put, a_If, a_Times, a_Stop, a_Ask, a_Not⟩ n)) := by
  have F : FnOk P w K mg base CX0 (lv + 3) a_If_eq d_If_eq ["self", "other"] (onC a_If (spEr K ⟨a_Put, a_If, a_Times, a_Stop, a_Ask, a_Not⟩ n)) := by
    refine T.F_If_eq.ok sc_If_eq (fun vs H Q E h => ?_) (fun cdv A outer s H vs Q E hr h => ?_)
    · obtain ⟨_, r, u, y, rfl, _⟩ := h; rfl
    obtain ⟨⟨a, dx, fs, rest, e0, h0⟩, r, u, y, rfl, hr0, hok, hd, hl, hy⟩ := h
    refine ⟨_, (pss_one (ps_ret (pe_and (pe_callB (call_isiK (K := K)) (by rfl) T.z_isinstance (by decide +kernel) (pa_cons (pv 1) (pa_cons (pe_glob (v := .ref a_If) (by rfl) T.g_If rfl) pa_nil))) (pe_one (pe_cmpR op_eq (pe_callTy (call_strO HS GS (hr.mono (by omega)) pass0) (by rfl) T.z_str (by decide +kernel) (pa_cons (pv 0) pa_nil)) (pe_callTy (call_strO HS GS (hr.mono (by omega)) pass0) (by rfl) T.z_str (by decide +kernel) (pa_cons (pv 1) pa_nil)) (nomark _)))))), ?_⟩
    walk_at "st"
    walk_at "vc"
    cases e0
    have ci : r.ci = 1 := by obtain ⟨_, _, _, _, _, _, _, _, rfl, _⟩ := hr0.ifr_of T.kits h0; first | rfl | (subst e; rfl)
    rcases hy with ⟨r2, hr2, hok2, hd2, hl2, q⟩ | ⟨t, j, ty, ht, q⟩
    · obtain ⟨b, dx2, fs2, C, rfl, h2, hC⟩ := hr2.cls
      have c2 := hr2.ci_of T.kits h2
      refine ⟨_, _, _, _, ansO r2.ci 1, rfl, .own _, isTy T h2 hC, ?_, ?_⟩
      · rw [c2.2]; exact kitO1 T.kits r2.ci 1 (by omega) (by decide)
      refine ⟨_, rfl, ?_⟩
      by_cases hc : r2.ci = 1
      · rw [if_pos (by rw [hc]; rfl)]
        obtain ⟨g1, hg1⟩ := sfr_of T hr0 h0
        obtain ⟨g2, hg2⟩ := sfr_of T hr2 h2
        refine ⟨a, _, dx, _, g1, rfl, h0, hg1, r, _, rfl, hr0, hok, hd, hl, fun H1 e1 => ⟨_, rfl, ?_⟩⟩
        refine ⟨b, C, dx2, fs2, g2, rfl, e1 _ _ h2, hg2, r2, _, rfl, hr2.kp (Kp.of_ex e1), hok2, hd2, hl2, fun H2 e2 => ⟨_, rfl, ?_⟩⟩
        refine ⟨rfl, ?_⟩
        have := q H2 (e1.trans e2)
        unfold eqR at this
        rw [ci, hc] at this
        simpa using this
      · rw [if_neg (by unfold ansO; simp; omega)]
        have := q H (Ex.refl H)
        unfold eqR at this
        rw [decide_eq_false (fun z => hc (z.1.symm.trans ci))] at this
        exact this
    · refine ⟨_, _, _, _, false, rfl, .own _, ty, ht.1 1 (by decide), _, rfl, ?_⟩
      rw [if_neg (by decide)]
      exact q H (Ex.refl H)
  exact FnOk.raw (dvs := []) F T.b_If_eq .nil |>.imp fun vs H Q E h => by simpa using h
theorem ok_Times_eq (T : Txt w K mg a_is_integer a_is_number a_is_name a_are_rows a_texts a_needed a_fits a_is_of a_inner a_flat a_names_in a_bare a_named a_law_deal a_law_draw a_law_pick a_law_words a_law_kinds a_law_put a_law_ask a_law_count a_law_rows a_law_ask_text a_law_lines a_law_all_lines a_law_ask_of a_law_row_of a_law_deed a_law_begun a_law_alike a_law a_NoRow_init a_InvalidRow_init a_Put_init a_Put_eq a_Put_str a_If_init a_If_eq a_If_str a_Times_init a_Times_eq a_Times_str a_Stop_eq a_Stop_str a_Ask_init a_Ask_eq a_Ask_str a_Not_init a_Not_eq a_Not_str a_Program_init a_Program_str a_Sheet_init a_Sheet_drop a_Sheet_made a_Sheet_len a_Sheet_getitem a_Sheet_setitem a_Sheet_iadd a_NoRow a_InvalidRow a_Put a_If a_Times a_Stop a_Ask a_Not a_Row a_Test a_Program a_Sheet a_DEEDS a_SIGNS a_WORDS a_If_init_d0 a_Program_init_d0 a_Sheet_init_d0 d_is_integer d_is_number d_is_name d_are_rows d_texts d_needed d_fits d_is_of d_inner d_flat d_names_in d_bare d_named d_law_deal d_law_draw d_law_pick d_law_words d_law_kinds d_law_put d_law_ask d_law_count d_law_rows d_law_ask_text d_law_lines d_law_all_lines d_law_ask_of d_law_row_of d_law_deed d_law_begun d_law_alike d_law d_NoRow_init d_InvalidRow_init d_Put_init d_Put_eq d_Put_str d_If_init d_If_eq d_If_str d_Times_init d_Times_eq d_Times_str d_Stop_eq d_Stop_str d_Ask_init d_Ask_eq d_Ask_str d_Not_init d_Not_eq d_Not_str d_Program_init d_Program_str d_Sheet_init d_Sheet_drop d_Sheet_made d_Sheet_len d_Sheet_getitem d_Sheet_setitem d_Sheet_iadd) (n lv : Nat) (HS : ∀ C g, SFr ⟨a_Put, a_If, a_Times, a_Stop, a_Ask, a_Not⟩ a_Put_str a_If_str a_Times_str a_Stop_str C g → MethC K "__str__" C g) (GS : ∀ C g, SFr ⟨a_Put, a_If, a_Times, a_Stop, a_Ask, a_Not⟩ a_Put_str a_If_str a_Times_str a_Stop_str C g → FnR P w K mg base CX0 lv g (onC C (spRx K ⟨a_Put, a_If, a_Times, a_Stop, a_Ask, a_Not⟩ n))) : FnR P w K mg base CX0 (lv + 3) a_Times_eq (onC a_Times (spEr K ⟨a_Put, a_If, a_Times, a_Stop, a_Ask, a_Not⟩ n)) := by
  have F : FnOk P w K mg base CX0 (lv + 3) a_Times_eq d_Times_eq ["self", "other"] (onC a_Times (spEr K ⟨a_Put, a_If, a_Times, a_Stop, a_Ask, a_Not⟩ n)) := by
    refine T.F_Times_eq.ok sc_Times_eq (fun vs H Q E h => ?_) (fun cdv A outer s H vs Q E hr h => ?_)
    · obtain ⟨_, r, u, y, rfl, _⟩ := h; rfl
    obtain ⟨⟨a, dx, fs, rest, e0, h0⟩, r, u, y, rfl, hr0, hok, hd, hl, hy⟩ := h
    refine ⟨_, (pss_one (ps_ret (pe_and (pe_callB (call_isiK (K := K)) (by rfl) T.z_isinstance (by decide +kernel) (pa_cons (pv 1) (pa_cons (pe_glob (v := .ref a_Times) (by rfl) T.g_Times rfl) pa_nil))) (pe_one (pe_cmpR op_eq (pe_callTy (call_strO HS GS (hr.mono (by omega)) pass0) (by rfl) T.z_str (by decide +kernel) (pa_cons (pv 0) pa_nil)) (pe_callTy (call_strO HS GS (hr.mono (by omega)) pass0) (by rfl) T.z_str (by decide +kernel) (pa_cons (pv 1) pa_nil)) (nomark _)))))), ?_⟩
    walk_at "st"
    walk_at "vc"
    cases e0
    have ci : r.ci = 2 := by obtain ⟨_, _, _, _, rfl, _⟩ := hr0.times_of T.kits h0; first | rfl | (subst e; rfl)
    rcases hy with ⟨r2, hr2, hok2, hd2, hl2, q⟩ | ⟨t, j, ty, ht, q⟩
    · obtain ⟨b, dx2, fs2, C, rfl, h2, hC⟩ := hr2.cls
      have c2 := hr2.ci_of T.kits h2
      refine ⟨_, _, _, _, ansO r2.ci 2, rfl, .own _, isTy T h2 hC, ?_, ?_⟩
      · rw [c2.2]; exact kitO1 T.kits r2.ci 2 (by omega) (by decide)
      refine ⟨_, rfl, ?_⟩
      by_cases hc : r2.ci = 2
      · rw [if_pos (by rw [hc]; rfl)]
        obtain ⟨g1, hg1⟩ := sfr_of T hr0 h0
        obtain ⟨g2, hg2⟩ := sfr_of T hr2 h2
        refine ⟨a, _, dx, _, g1, rfl, h0, hg1, r, _, rfl, hr0, hok, hd, hl, fun H1 e1 => ⟨_, rfl, ?_⟩⟩
        refine ⟨b, C, dx2, fs2, g2, rfl, e1 _ _ h2, hg2, r2, _, rfl, hr2.kp (Kp.of_ex e1), hok2, hd2, hl2, fun H2 e2 => ⟨_, rfl, ?_⟩⟩
        refine ⟨rfl, ?_⟩
        have := q H2 (e1.trans e2)
        unfold eqR at this
        rw [ci, hc] at this
        simpa using this
      · rw [if_neg (by unfold ansO; simp; omega)]
        have := q H (Ex.refl H)
        unfold eqR at this
        rw [decide_eq_false (fun z => hc (z.1.symm.trans ci))] at this
        exact this
    · refine ⟨_, _, _, _, false, rfl, .own _, ty, ht.1 2 (by decide), _, rfl, ?_⟩
      rw [if_neg (by decide)]
      exact q H (Ex.refl H)
  exact FnOk.raw (dvs := []) F T.b_Times_eq .nil |>.imp fun vs H Q E h => by simpa using h
theorem ok_Stop_eq (T : Txt w K mg a_is_integer a_is_number a_is_name a_are_rows a_texts a_needed a_fits a_is_of a_inner a_flat a_names_in a_bare a_named a_law_deal a_law_draw a_law_pick a_law_words a_law_kinds a_law_put a_law_ask a_law_count a_law_rows a_law_ask_text a_law_lines a_law_all_lines a_law_ask_of a_law_row_of a_law_deed a_law_begun a_law_alike a_law a_NoRow_init a_InvalidRow_init a_Put_init a_Put_eq a_Put_str a_If_init a_If_eq a_If_str a_Times_init a_Times_eq a_Times_str a_Stop_eq a_Stop_str a_Ask_init a_Ask_eq a_Ask_str a_Not_init a_Not_eq a_Not_str a_Program_init a_Program_str a_Sheet_init a_Sheet_drop a_Sheet_made a_Sheet_len a_Sheet_getitem a_Sheet_setitem a_Sheet_iadd a_NoRow a_InvalidRow a_Put a_If a_Times a_Stop a_Ask a_Not a_Row a_Test a_Program a_Sheet a_DEEDS a_SIGNS a_WORDS a_If_init_d0 a_Program_init_d0 a_Sheet_init_d0 d_is_integer d_is_number d_is_name d_are_rows d_texts d_needed d_fits d_is_of d_inner d_flat d_names_in d_bare d_named d_law_deal d_law_draw d_law_pick d_law_words d_law_kinds d_law_put d_law_ask d_law_count d_law_rows d_law_ask_text d_law_lines d_law_all_lines d_law_ask_of d_law_row_of d_law_deed d_law_begun d_law_alike d_law d_NoRow_init d_InvalidRow_init d_Put_init d_Put_eq d_Put_str d_If_init d_If_eq d_If_str d_Times_init d_Times_eq d_Times_str d_Stop_eq d_Stop_str d_Ask_init d_Ask_eq d_Ask_str d_Not_init d_Not_eq d_Not_str d_Program_init d_Program_str d_Sheet_init d_Sheet_drop d_Sheet_made d_Sheet_len d_Sheet_getitem d_Sheet_setitem d_Sheet_iadd) (n : Nat) : FnR P w K mg base CX0 1 a_Stop_eq (onC a_Stop (spEr K ⟨a_Put, a_If, a_Times, a_Stop, a_Ask, a_Not⟩ n)) := by
  have F : FnOk P w K mg base CX0 1 a_Stop_eq d_Stop_eq ["self", "other"] (onC a_Stop (spEr K ⟨a_Put, a_If, a_Times, a_Stop, a_Ask, a_Not⟩ n)) := by
    refine T.F_Stop_eq.ok sc_Stop_eq (fun vs H Q E h => ?_) (fun cdv A outer s H vs Q E hr h => ?_)
    · obtain ⟨_, r, u, y, rfl, _⟩ := h; rfl
    obtain ⟨⟨a, dx, fs, rest, e0, h0⟩, r, u, y, rfl, hr0, hok, hd, hl, hy⟩ := h
    refine ⟨_, (pss_one (ps_ret (pe_callB (call_isiK (K := K)) (by rfl) T.z_isinstance (by decide +kernel) (pa_cons (pv 1) (pa_cons (pe_glob (v := .ref a_Stop) (by rfl) T.g_Stop rfl) pa_nil))))), ?_⟩
    walk_at "st"
    walk_at "vc"
    cases e0
    have er := hr0.stop_of T.kits h0
    subst er
    rcases hy with ⟨r2, hr2, hok2, hd2, hl2, q⟩ | ⟨t, j, ty, ht, q⟩
    · obtain ⟨b, dx2, fs2, C, rfl, h2, hC⟩ := hr2.cls
      have c2 := hr2.ci_of T.kits h2
      refine ⟨_, _, _, _, ansO r2.ci 3, rfl, .own _, isTy T h2 hC, ?_, ?_⟩
      · rw [c2.2]; exact kitO1 T.kits r2.ci 3 (by omega) (by decide)
      have := q H (Ex.refl H)
      have e : eqR .stop r2 = ansO r2.ci 3 := by
        cases r2 with
        | stop => rfl
        | put n d g => unfold eqR ansO; simp [RowM.ci]
        | times c rs => unfold eqR ansO; simp [RowM.ci]
        | ifr t rs os => unfold eqR ansO; simp [RowM.ci]
      rw [← e]
      exact this
    · exact ⟨_, _, _, _, false, rfl, .own _, ty, ht.1 3 (by decide), q H (Ex.refl H)⟩
  exact FnOk.raw (dvs := []) F T.b_Stop_eq .nil |>.imp fun vs H Q E h => by simpa using h
/-! ### == of tests -/
def TestM.ci : TestM → Nat
  | .ask .. => 4
  | .not _ => 5
def eqT (t t2 : TestM) : Bool := decide (t.ci = t2.ci ∧ t.text = t2.text)
def noTest (K : PySem.W.Frag) (A : ClsA) (t : Value) : Prop := PySem.W.kitOne K t (.ref A.ask) = some false ∧ PySem.W.kitOne K t (.ref A.not) = some false
def spEt (K : PySem.W.Frag) (A : ClsA) (n : Nat) : Sp := fun vs H Q _ => ∃ t u y, vs = [u, y] ∧ TestO K A H t u ∧ t.dep < n ∧ t.text.length ≤ 10000000 ∧
  ((∃ t2, TestO K A H t2 y ∧ t2.dep < n ∧ t2.text.length ≤ 10000000 ∧ ∀ H', Ex H H' → Q (.bl (eqT t t2)) H') ∨ (∃ ty, TyX K H y ty ∧ noTest K A ty ∧ ∀ H', Ex H H' → Q (.bl false) H'))
theorem TestO.ci_of {K : PySem.W.Frag} {A : ClsA} {row test : Addr} {H : Hp} {a C dx : Addr} {fs : List (Str × V)} {t : TestM} (ht : TestO K A H t (.ref a)) (h : H a = some (.ins C dx fs)) : C = (clsL A row test).getD t.ci 0 := by
  cases t with
  | ask w ns => obtain ⟨b, dx2, q, e, h2, _⟩ := ht; cases e; rw [h] at h2; exact (HO.ins.inj (Option.some.inj h2)).1
  | not t => obtain ⟨b, dx2, u, e, h2, _⟩ := ht; cases e; rw [h] at h2; exact (HO.ins.inj (Option.some.inj h2)).1
theorem TestM.ci_two (t : TestM) : t.ci = 4 ∨ t.ci = 5 := by cases t <;> simp [TestM.ci]
theorem testTy (T : Txt w K mg a_is_integer a_is_number a_is_name a_are_rows a_texts a_needed a_fits a_is_of a_inner a_flat a_names_in a_bare a_named a_law_deal a_law_draw a_law_pick a_law_words a_law_kinds a_law_put a_law_ask a_law_count a_law_rows a_law_ask_text a_law_lines a_law_all_lines a_law_ask_of a_law_row_of a_law_deed a_law_begun a_law_alike a_law a_NoRow_init a_InvalidRow_init a_Put_init a_Put_eq a_Put_str a_If_init a_If_eq a_If_str a_Times_init a_Times_eq a_Times_str a_Stop_eq a_Stop_str a_Ask_init a_Ask_eq a_Ask_str a_Not_init a_Not_eq a_Not_str a_Program_init a_Program_str a_Sheet_init a_Sheet_drop a_Sheet_made a_Sheet_len a_Sheet_getitem a_Sheet_setitem a_Sheet_iadd a_NoRow a_InvalidRow a_Put a_If a_Times a_Stop a_Ask a_Not a_Row a_Test a_Program a_Sheet a_DEEDS a_SIGNS a_WORDS a_If_init_d0 a_Program_init_d0 a_Sheet_init_d0 d_is_integer d_is_number d_is_name d_are_rows d_texts d_needed d_fits d_is_of d_inner d_flat d_names_in d_bare d_named d_law_deal d_law_draw d_law_pick d_law_words d_law_kinds d_law_put d_law_ask d_law_count d_law_rows d_law_ask_text d_law_lines d_law_all_lines d_law_ask_of d_law_row_of d_law_deed d_law_begun d_law_alike d_law d_NoRow_init d_InvalidRow_init d_Put_init d_Put_eq d_Put_str d_If_init d_If_eq d_If_str d_Times_init d_Times_eq d_Times_str d_Stop_eq d_Stop_str d_Ask_init d_Ask_eq d_Ask_str d_Not_init d_Not_eq d_Not_str d_Program_init d_Program_str d_Sheet_init d_Sheet_drop d_Sheet_made d_Sheet_len d_Sheet_getitem d_Sheet_setitem d_Sheet_iadd) {H : Hp} {t : TestM} {v : V} (h : TestO K ⟨a_Put, a_If, a_Times, a_Stop, a_Ask, a_Not⟩ H t v) : ∃ a dx fs C g, v = .ref a ∧ H a = some (.ins C dx fs) ∧ SFt ⟨a_Put, a_If, a_Times, a_Stop, a_Ask, a_Not⟩ a_Ask_str a_Not_str C g ∧ TyX K H v (.ref C) := by
  obtain ⟨a3, dx3, fs3, rfl, h4 | h4⟩ := h.cls
  · exact ⟨a3, dx3, fs3, _, a_Ask_str, rfl, h4, .inl ⟨rfl, rfl⟩, T.oc_Ask.ty h4⟩
  · exact ⟨a3, dx3, fs3, _, a_Not_str, rfl, h4, .inr ⟨rfl, rfl⟩, T.oc_Not.ty h4⟩
theorem ok_Ask_eq (T : Txt w K mg a_is_integer a_is_number a_is_name a_are_rows a_texts a_needed a_fits a_is_of a_inner a_flat a_names_in a_bare a_named a_law_deal a_law_draw a_law_pick a_law_words a_law_kinds a_law_put a_law_ask a_law_count a_law_rows a_law_ask_text a_law_lines a_law_all_lines a_law_ask_of a_law_row_of a_law_deed a_law_begun a_law_alike a_law a_NoRow_init a_InvalidRow_init a_Put_init a_Put_eq a_Put_str a_If_init a_If_eq a_If_str a_Times_init a_Times_eq a_Times_str a_Stop_eq a_Stop_str a_Ask_init a_Ask_eq a_Ask_str a_Not_init a_Not_eq a_Not_str a_Program_init a_Program_str a_Sheet_init a_Sheet_drop a_Sheet_made a_Sheet_len a_Sheet_getitem a_Sheet_setitem a_Sheet_iadd a_NoRow a_InvalidRow a_Put a_If a_Times a_Stop a_Ask a_Not a_Row a_Test a_Program a_Sheet a_DEEDS a_SIGNS a_WORDS a_If_init_d0 a_Program_init_d0 a_Sheet_init_d0 d_is_integer d_is_number d_is_name d_are_rows d_texts d_needed d_fits d_is_of d_inner d_flat d_names_in d_bare d_named d_law_deal d_law_draw d_law_pick d_law_words d_law_kinds d_law_put d_law_ask d_law_count d_law_rows d_law_ask_text d_law_lines d_law_all_lines d_law_ask_of d_law_row_of d_law_deed d_law_begun d_law_alike d_law d_NoRow_init d_InvalidRow_init d_Put_init d_Put_eq d_Put_str d_If_init d_If_eq d_If_str d_Times_init d_Times_eq d_Times_str d_Stop_eq d_Stop_str d_Ask_init d_Ask_eq d_Ask_str d_Not_init d_Not_eq d_Not_str d_Program_init d_Program_str d_Sheet_init d_Sheet_drop d_Sheet_made d_Sheet_len d_Sheet_getitem d_Sheet_setitem d_Sheet_iadd) (n : Nat) : FnR P w K mg base CX0 (2 * n + 4) a_Ask_eq (onC a_Ask (spEt K ⟨a_Put, a_If, a_Times, a_Stop, a_Ask, a_Not⟩ n)) := by
  have HS : ∀ C g, SFt ⟨a_Put, a_If, a_Times, a_Stop, a_Ask, a_Not⟩ a_Ask_str a_Not_str C g → MethC K "__str__" C g := fun C g h => (HSt T C g h).1
  have GS := GSt (P := P) (w := w) (mg := mg) (base := base) T n
  have F : FnOk P w K mg base CX0 (2 * n + 4) a_Ask_eq d_Ask_eq ["self", "other"] (onC a_Ask (spEt K ⟨a_Put, a_If, a_Times, a_Stop, a_Ask, a_Not⟩ n)) := by
    refine T.F_Ask_eq.ok sc_Ask_eq (fun vs H Q E h => ?_) (fun cdv A outer s H vs Q E hr h => ?_)
    · obtain ⟨_, r, u, y, rfl, _⟩ := h; rfl
    obtain ⟨⟨a, dx, fs, rest, e0, h0⟩, t, u, y, rfl, ht0, hd, hl, hy⟩ := h
    refine ⟨_, (pss_one (ps_ret (pe_and (pe_callB (call_isiK (K := K)) (by rfl) T.z_isinstance (by decide +kernel) (pa_cons (pv 1) (pa_cons (pe_glob (v := .ref a_Ask) (by rfl) T.g_Ask rfl) pa_nil))) (pe_one (pe_cmpR op_eq (pe_callTy (call_strO HS GS (hr.mono (by omega)) pass0) (by rfl) T.z_str (by decide +kernel) (pa_cons (pv 0) pa_nil)) (pe_callTy (call_strO HS GS (hr.mono (by omega)) pass0) (by rfl) T.z_str (by decide +kernel) (pa_cons (pv 1) pa_nil)) (nomark _)))))), ?_⟩
    walk_at "st"
    walk_at "vc"
    cases e0
    have ci : t.ci = 4 := by
      have h1 := ht0.ci_of (row := a_Row) (test := a_Test) h0
      rcases t.ci_two with h2 | h2
      · rw [h2] at h1; first | exact h2 | exact absurd h1 (clsNe T.kits 4 4 (by decide) (by decide) (by decide))
      · rw [h2] at h1; first | exact h2 | exact absurd h1 (clsNe T.kits 4 5 (by decide) (by decide) (by decide))
    obtain ⟨a', dx', fs', C', g1, e', h0', hg1, _⟩ := testTy T ht0
    cases e'
    rcases hy with ⟨t2, ht2, hd2, hl2, q⟩ | ⟨ty0, ty, hno, q⟩
    · obtain ⟨b, dx2, fs2, C, g2, rfl, h2, hg2, hty⟩ := testTy T ht2
      have c2 := ht2.ci_of (row := a_Row) (test := a_Test) h2
      refine ⟨_, _, _, _, ansO t2.ci 4, rfl, .own _, hty, ?_, ?_⟩
      · rw [c2]; exact kitO1 T.kits t2.ci 4 (by rcases t2.ci_two with h | h <;> omega) (by decide)
      refine ⟨_, rfl, ?_⟩
      by_cases hc : t2.ci = 4
      · rw [if_pos (by rw [hc]; rfl)]
        refine ⟨a, _, _, _, g1, rfl, h0', hg1, t, _, rfl, ht0, hd, hl, fun H1 e1 => ⟨_, rfl, ?_⟩⟩
        refine ⟨b, C, dx2, fs2, g2, rfl, e1 _ _ h2, hg2, t2, _, rfl, ht2.kp (Kp.of_ex e1), hd2, hl2, fun H2 e2 => ⟨_, rfl, ?_⟩⟩
        refine ⟨rfl, ?_⟩
        have := q H2 (e1.trans e2)
        unfold eqT at this
        rw [ci, hc] at this
        simpa using this
      · rw [if_neg (by unfold ansO; rcases t2.ci_two with h | h <;> simp [h] at hc ⊢)]
        have := q H (Ex.refl H)
        unfold eqT at this
        rw [decide_eq_false (fun z => hc (z.1.symm.trans ci))] at this
        exact this
    · refine ⟨_, _, _, _, false, rfl, .own _, ty, hno.1, _, rfl, ?_⟩
      rw [if_neg (by decide)]
      exact q H (Ex.refl H)
  exact FnOk.raw (dvs := []) F T.b_Ask_eq .nil |>.imp fun vs H Q E h => by simpa using h
theorem ok_Not_eq (T : Txt w K mg a_is_integer a_is_number a_is_name a_are_rows a_texts a_needed a_fits a_is_of a_inner a_flat a_names_in a_bare a_named a_law_deal a_law_draw a_law_pick a_law_words a_law_kinds a_law_put a_law_ask a_law_count a_law_rows a_law_ask_text a_law_lines a_law_all_lines a_law_ask_of a_law_row_of a_law_deed a_law_begun a_law_alike a_law a_NoRow_init a_InvalidRow_init a_Put_init a_Put_eq a_Put_str a_If_init a_If_eq a_If_str a_Times_init a_Times_eq a_Times_str a_Stop_eq a_Stop_str a_Ask_init a_Ask_eq a_Ask_str a_Not_init a_Not_eq a_Not_str a_Program_init a_Program_str a_Sheet_init a_Sheet_drop a_Sheet_made a_Sheet_len a_Sheet_getitem a_Sheet_setitem a_Sheet_iadd a_NoRow a_InvalidRow a_Put a_If a_Times a_Stop a_Ask a_Not a_Row a_Test a_Program a_Sheet a_DEEDS a_SIGNS a_WORDS a_If_init_d0 a_Program_init_d0 a_Sheet_init_d0 d_is_integer d_is_number d_is_name d_are_rows d_texts d_needed d_fits d_is_of d_inner d_flat d_names_in d_bare d_named d_law_deal d_law_draw d_law_pick d_law_words d_law_kinds d_law_put d_law_ask d_law_count d_law_rows d_law_ask_text d_law_lines d_law_all_lines d_law_ask_of d_law_row_of d_law_deed d_law_begun d_law_alike d_law d_NoRow_init d_InvalidRow_init d_Put_init d_Put_eq d_Put_str d_If_init d_If_eq d_If_str d_Times_init d_Times_eq d_Times_str d_Stop_eq d_Stop_str d_Ask_init d_Ask_eq d_Ask_str d_Not_init d_Not_eq d_Not_str d_Program_init d_Program_str d_Sheet_init d_Sheet_drop d_Sheet_made d_Sheet_len d_Sheet_getitem d_Sheet_setitem d_Sheet_iadd) (n : Nat) : FnR P w K mg base CX0 (2 * n + 4) a_Not_eq (onC a_Not (spEt K ⟨a_Put, a_If, a_Times, a_Stop, a_Ask, a_Not⟩ n)) := by
  have HS : ∀ C g, SFt ⟨a_Put, a_If, a_Times, a_Stop, a_Ask, a_Not⟩ a_Ask_str a_Not_str C g → MethC K "__str__" C g := fun C g h => (HSt T C g h).1
  have GS := GSt (P := P) (w := w) (mg := mg) (base := base) T n
  have F : FnOk P w K mg base CX0 (2 * n + 4) a_Not_eq d_Not_eq ["self", "other"] (onC a_Not (spEt K ⟨a_Put, a_If, a_Times, a_Stop, a_Ask, a_Not⟩ n)) := by
    refine T.F_Not_eq.ok sc_Not_eq (fun vs H Q E h => ?_) (fun cdv A outer s H vs Q E hr h => ?_)
    · obtain ⟨_, r, u, y, rfl, _⟩ := h; rfl
    obtain ⟨⟨a, dx, fs, rest, e0, h0⟩, t, u, y, rfl, ht0, hd, hl, hy⟩ := h
    refine ⟨_, (pss_one (ps_ret (pe_and (pe_callB (call_isiK (K := K)) (by rfl) T.z_isinstance (by decide +kernel) (pa_cons (pv 1) (pa_cons (pe_glob (v := .ref a_Not) (by rfl) T.g_Not rfl) pa_nil))) (pe_one (pe_cmpR op_eq (pe_callTy (call_strO HS GS (hr.mono (by omega)) pass0) (by rfl) T.z_str (by decide +kernel) (pa_cons (pv 0) pa_nil)) (pe_callTy (call_strO HS GS (hr.mono (by omega)) pass0) (by rfl) T.z_str (by decide +kernel) (pa_cons (pv 1) pa_nil)) (nomark _)))))), ?_⟩
    walk_at "st"
    walk_at "vc"
    cases e0
    have ci : t.ci = 5 := by
      have h1 := ht0.ci_of (row := a_Row) (test := a_Test) h0
      rcases t.ci_two with h2 | h2
      · rw [h2] at h1; first | exact h2 | exact absurd h1 (clsNe T.kits 5 4 (by decide) (by decide) (by decide))
      · rw [h2] at h1; first | exact h2 | exact absurd h1 (clsNe T.kits 5 5 (by decide) (by decide) (by decide))
    obtain ⟨a', dx', fs', C', g1, e', h0', hg1, _⟩ := testTy T ht0
    cases e'
    rcases hy with ⟨t2, ht2, hd2, hl2, q⟩ | ⟨ty0, ty, hno, q⟩
    · obtain ⟨b, dx2, fs2, C, g2, rfl, h2, hg2, hty⟩ := testTy T ht2
      have c2 := ht2.ci_of (row := a_Row) (test := a_Test) h2
      refine ⟨_, _, _, _, ansO t2.ci 5, rfl, .own _, hty, ?_, ?_⟩
      · rw [c2]; exact kitO1 T.kits t2.ci 5 (by rcases t2.ci_two with h | h <;> omega) (by decide)
      refine ⟨_, rfl, ?_⟩
      by_cases hc : t2.ci = 5
      · rw [if_pos (by rw [hc]; rfl)]
        refine ⟨a, _, _, _, g1, rfl, h0', hg1, t, _, rfl, ht0, hd, hl, fun H1 e1 => ⟨_, rfl, ?_⟩⟩
        refine ⟨b, C, dx2, fs2, g2, rfl, e1 _ _ h2, hg2, t2, _, rfl, ht2.kp (Kp.of_ex e1), hd2, hl2, fun H2 e2 => ⟨_, rfl, ?_⟩⟩
        refine ⟨rfl, ?_⟩
        have := q H2 (e1.trans e2)
        unfold eqT at this
        rw [ci, hc] at this
        simpa using this
      · rw [if_neg (by unfold ansO; rcases t2.ci_two with h | h <;> simp [h] at hc ⊢)]
        have := q H (Ex.refl H)
        unfold eqT at this
        rw [decide_eq_false (fun z => hc (z.1.symm.trans ci))] at this
        exact this
    · refine ⟨_, _, _, _, false, rfl, .own _, ty, hno.2, _, rfl, ?_⟩
      rw [if_neg (by decide)]
      exact q H (Ex.refl H)
  exact FnOk.raw (dvs := []) F T.b_Not_eq .nil |>.imp fun vs H Q E h => by simpa using h
end
end My
set_option Elab.async false
set_option linter.all false
set_option maxRecDepth 100000
set_option maxHeartbeats 4000000
set_option exponentiation.threshold 5000
namespace My
open PySem PySem.Spec PyProof.Rows L2 Evl
local macro_rules | `(tactic| walk_at "st") => `(tactic| simp only [L2.start, List.map_cons, List.map_nil, List.length_cons, List.length_nil, Nat.reduceAdd, Nat.reduceSub, List.replicate_succ, List.replicate_zero, List.cons_append, List.nil_append, cxOf, List.append_nil])
local macro_rules | `(tactic| walk_at "vc") => `(tactic| try simp only [tSeq, tAsg, tOp, tUn, tVar, tC, tNil, tCons, gName, rI, rI0, rU, tRet, tIfS, tNot, tAnd, tOr, tB, tTest, tCB, tCall, tAndV, tOrV, tNotV, tNext, tNever, tIf, tChain, tYes, tPart, tNoPart, tPar, tDrop, q_isi, q_vn, q_vb, q_vi, q_vs, kb1, kb2, kb3, kb4, kb5, kb6, kb7, kb8, q_int1, q_int2, q_min, q_max, q_repr, tLst, tTup, rEq, rNe, q_sii, q_sss, q_sbb, q_snn, q_sns, q_ssn, q_ix, q_sl, tSl, tBM, tBM0, q_app, q_pop, gSub, rSetL, L2.wipe, eq_self, decide_true, decide_false, tRevL,
  List.getElem?_cons_succ, List.getElem?_cons_zero, List.set_cons_succ, List.set_cons_zero, Option.some.injEq, exists_eq_left', exists_eq_left, V.int.injEq, V.bl.injEq, V.ref.injEq, V.str.injEq, List.cons.injEq, and_true, true_and, List.append_nil, List.nil_append, List.cons_append, exists_and_left, and_assoc, if_true, if_false, Bool.not_true, Bool.not_false, Bool.false_eq_true, Bool.true_eq_false, reduceIte, tRevL, tPar3, tRevT, tUnl, tCKw, forall_const, Bool.not_eq_true', decide_eq_true_eq, decide_eq_false_iff_not])
section
variable {P : Program} {w : World} {K : PySem.W.Frag} {mg : Str → Option Value} {base : Heap}
variable {a_is_integer a_is_number a_is_name a_are_rows a_texts a_needed a_fits a_is_of a_inner a_flat a_names_in a_bare a_named a_law_deal a_law_draw a_law_pick a_law_words a_law_kinds a_law_put a_law_ask a_law_count a_law_rows a_law_ask_text a_law_lines a_law_all_lines a_law_ask_of a_law_row_of a_law_deed a_law_begun a_law_alike a_law a_NoRow_init a_InvalidRow_init a_Put_init a_Put_eq a_Put_str a_If_init a_If_eq a_If_str a_Times_init a_Times_eq a_Times_str a_Stop_eq a_Stop_str a_Ask_init a_Ask_eq a_Ask_str a_Not_init a_Not_eq a_Not_str a_Program_init a_Program_str a_Sheet_init a_Sheet_drop a_Sheet_made a_Sheet_len a_Sheet_getitem a_Sheet_setitem a_Sheet_iadd a_NoRow a_InvalidRow a_Put a_If a_Times a_Stop a_Ask a_Not a_Row a_Test a_Program a_Sheet a_DEEDS a_SIGNS a_WORDS a_If_init_d0 a_Program_init_d0 a_Sheet_init_d0 : Addr} {d_is_integer d_is_number d_is_name d_are_rows d_texts d_needed d_fits d_is_of d_inner d_flat d_names_in d_bare d_named d_law_deal d_law_draw d_law_pick d_law_words d_law_kinds d_law_put d_law_ask d_law_count d_law_rows d_law_ask_text d_law_lines d_law_all_lines d_law_ask_of d_law_row_of d_law_deed d_law_begun d_law_alike d_law d_NoRow_init d_InvalidRow_init d_Put_init d_Put_eq d_Put_str d_If_init d_If_eq d_If_str d_Times_init d_Times_eq d_Times_str d_Stop_eq d_Stop_str d_Ask_init d_Ask_eq d_Ask_str d_Not_init d_Not_eq d_Not_str d_Program_init d_Program_str d_Sheet_init d_Sheet_drop d_Sheet_made d_Sheet_len d_Sheet_getitem d_Sheet_setitem d_Sheet_iadd : FuncData}
/-! ### the law's own: names -/
def keptWords : List Str := ["if", "end", "else", "not", "base", "sum", "last", "many", "root", "let", "same", "stop"]
def wOk (x : Str) : Prop := x.length ≤ 4 ∧ nmOk x = true
theorem kept_ok : ∀ x ∈ keptWords, wOk x := by
  intro x hx
  simp only [keptWords, List.mem_cons, List.not_mem_nil, or_false] at hx
  rcases hx with rfl | rfl | rfl | rfl | rfl | rfl | rfl | rfl | rfl | rfl | rfl | rfl <;> exact ⟨by decide +kernel, by decide +kernel⟩
def I_wd (d L p p1 : Addr) (n : Int) (H : Hp) : Nat → L2.St → Hp → Prop := fun k σ H' => ∃ x5 x6 x7 x8, σ = [some (.ref d), some (.int n), some (.str "abcdefghijklmnopqrstuvwxyz"), some (.ref p), some (.ref p1), x5, x6, x7, x8] ∧ ∃ ns : List Str, H' p1 = some (.lst (ns.map V.str)) ∧ ns.length = k ∧ (∀ x ∈ ns, wOk x) ∧ H' p = some (.lst (keptWords.map V.str)) ∧ Mv3 d L H H'
def C_wd (d L D0 : Addr) (H0 : Hp) : Nat → Hp → Prop := fun i H' => ∃ xs : List Str, H' D0 = some (.lst (xs.map V.str)) ∧ xs.length = i ∧ (∀ x ∈ xs, ∃ c, x = ⟨#[c]⟩ ∧ c ∈ (Str.ofString "abcdefghijklmnopqrstuvwxyz").cps.toList) ∧ Mv3 d L H0 H'
def C_fl (D0 : Addr) (cs ns : List Str) (H0 : Hp) : Nat → Hp → Prop := fun i H' => H' D0 = some (.lst (((cs.take i).filter fun x => !(ns.contains x)).map V.str)) ∧ Ex H0 H'
def sp_law_words : Sp
  | [.ref d, .int n], H, Q, _ => ∃ L, Deal3 d L H ∧ 0 ≤ n ∧ n ≤ 4 ∧ ∀ (p : Addr) (ns : List Str) (H' : Hp), Mv3 d L H H' → H p = none → p ≠ d → p ≠ L → H' p = some (.lst (ns.map V.str)) → (ns.length : Int) = n → (∀ x ∈ ns, x.length ≤ 4 ∧ nmOk x = true) → Q (.ref p) H'
  | _, _, _, _ => False
theorem ok_law_words (T : Txt w K mg a_is_integer a_is_number a_is_name a_are_rows a_texts a_needed a_fits a_is_of a_inner a_flat a_names_in a_bare a_named a_law_deal a_law_draw a_law_pick a_law_words a_law_kinds a_law_put a_law_ask a_law_count a_law_rows a_law_ask_text a_law_lines a_law_all_lines a_law_ask_of a_law_row_of a_law_deed a_law_begun a_law_alike a_law a_NoRow_init a_InvalidRow_init a_Put_init a_Put_eq a_Put_str a_If_init a_If_eq a_If_str a_Times_init a_Times_eq a_Times_str a_Stop_eq a_Stop_str a_Ask_init a_Ask_eq a_Ask_str a_Not_init a_Not_eq a_Not_str a_Program_init a_Program_str a_Sheet_init a_Sheet_drop a_Sheet_made a_Sheet_len a_Sheet_getitem a_Sheet_setitem a_Sheet_iadd a_NoRow a_InvalidRow a_Put a_If a_Times a_Stop a_Ask a_Not a_Row a_Test a_Program a_Sheet a_DEEDS a_SIGNS a_WORDS a_If_init_d0 a_Program_init_d0 a_Sheet_init_d0 d_is_integer d_is_number d_is_name d_are_rows d_texts d_needed d_fits d_is_of d_inner d_flat d_names_in d_bare d_named d_law_deal d_law_draw d_law_pick d_law_words d_law_kinds d_law_put d_law_ask d_law_count d_law_rows d_law_ask_text d_law_lines d_law_all_lines d_law_ask_of d_law_row_of d_law_deed d_law_begun d_law_alike d_law d_NoRow_init d_InvalidRow_init d_Put_init d_Put_eq d_Put_str d_If_init d_If_eq d_If_str d_Times_init d_Times_eq d_Times_str d_Stop_eq d_Stop_str d_Ask_init d_Ask_eq d_Ask_str d_Not_init d_Not_eq d_Not_str d_Program_init d_Program_str d_Sheet_init d_Sheet_drop d_Sheet_made d_Sheet_len d_Sheet_getitem d_Sheet_setitem d_Sheet_iadd) : FnOk P w K mg base CX0 3 a_law_words d_law_words ["_law_deal_here", "_law_amount"] sp_law_words := by
  have G_law_draw := ok_law_draw (P := P) (w := w) (base := base) T
  have G_law_pick := ok_law_pick (P := P) (w := w) (base := base) T
  refine T.F_law_words.ok sc_law_words (fun vs H Q E h => ?_) (fun cdv A outer s H vs Q E hr h => ?_)
  · unfold sp_law_words at h; split at h; rfl; exact h.elim
  unfold sp_law_words at h; split at h
  case h_2 => exact h.elim
  rename_i d n
  obtain ⟨L, D, n0, n4, q⟩ := h
  refine ⟨_, (pss_cons (ps_set (i := 2) sc_law_words.nd rfl (by first | exact .inl rfl | exact .inr rfl) pe_str)
      (pss_cons (ps_set (i := 3) sc_law_words.nd rfl (by first | exact .inl rfl | exact .inr rfl) (pe_lst (pa_cons pe_str (pa_cons pe_str (pa_cons pe_str (pa_cons pe_str (pa_cons pe_str (pa_cons pe_str (pa_cons pe_str (pa_cons pe_str (pa_cons pe_str (pa_cons pe_str (pa_cons pe_str (pa_cons pe_str pa_nil))))))))))))))
      (pss_cons (ps_set (i := 4) sc_law_words.nd rfl (by first | exact .inl rfl | exact .inr rfl) (pe_lst pa_nil))
      (Evl.pss_cut (ps_for PassesOwn.never rfl (pi_range1 (by rfl) T.z_range (pa_cons (pv 1) pa_nil)) (pg_name (i := 5) sc_law_words.nd rfl (by first | exact .inl rfl | exact .inr rfl))
      (pss_cons (ps_set (i := 6) sc_law_words.nd rfl (by first | exact .inl rfl | exact .inr rfl) (pe_bm PySem.F.plainAttrs_str PySem.F.slot_str_join PySem.F.type_str_join mt_join pe_str (pa_cons (pe_lc (own := [("_law_at", 7)]) (g := gName 7) (by rfl) sc_law_words.nd (pi_range1 (by rfl) T.z_range (pa_cons (pe_op op_add pe_int (pe_call G_law_draw (hr.mono (by decide)) (by rfl) T.g_law_draw T.F_law_draw.kp T.b_law_draw .nil pass0 (pa_cons (pv 0) (pa_cons pe_int pa_nil)))) pa_nil)) (blkOk_by (own := [("_law_at", 7)]) (N := N_law_words) (sc := defScope s_law_words) (by decide +kernel)) (fun _ _ _ _ _ => (pg_name (i := 7) sc_law_words.nd rfl (by first | exact .inl rfl | exact .inr rfl))) (fun _ _ _ _ _ => pts_nil) (fun _ _ _ _ _ => (pe_call G_law_pick (hr.mono (by decide)) (by rfl) T.g_law_pick T.F_law_pick.kp T.b_law_pick .nil pass0 (pa_cons (pv 0) (pa_cons (pv 2) pa_nil))))) pa_nil)))
      (Evl.pss_cut (ps_if (pt_cmpR op_eq (pe_call G_law_draw (hr.mono (by decide)) (by rfl) T.g_law_draw T.F_law_draw.kp T.b_law_draw .nil pass0 (pa_cons (pv 0) (pa_cons pe_int pa_nil))) pe_int (nomark _))
      (pss_one (ps_set (i := 6) sc_law_words.nd rfl (by first | exact .inl rfl | exact .inr rfl) (pe_call G_law_pick (hr.mono (by decide)) (by rfl) T.g_law_pick T.F_law_pick.kp T.b_law_pick .nil pass0 (pa_cons (pv 0) (pa_cons (pv 3) pa_nil)))))
      pss_nil)
      (pss_one (ps_expr (pe_bm PySem.F.plainAttrs_list PySem.F.slot_list_append PySem.F.type_list_append mt_appendM (pv 4) (pa_cons (pe_ix ix_listM (pe_lc (own := [("_law_one", 8)]) (g := gName 8) (by rfl) sc_law_words.nd (pi_list (pe_lst (pa_cons (pv 6) (pa_cons pe_str (pa_cons pe_str (pa_cons pe_str (pa_cons pe_str pa_nil))))))) (blkOk_by (own := [("_law_one", 8)]) (N := N_law_words) (sc := defScope s_law_words) (by decide +kernel)) (fun _ _ _ _ _ => (pg_name (i := 8) sc_law_words.nd rfl (by first | exact .inl rfl | exact .inr rfl))) (fun _ _ _ _ _ => (pts_one (pt_cmpR (op_notInK (K := K)) (pv 8) (pv 4) (by rfl)))) (fun _ _ _ _ _ => (pv 8))) pe_int (fun _ _ => rfl)) pa_nil)))))))
      (pss_one (ps_ret (pv 4))))))), ?_⟩
  walk_at "st"
  walk_at "vc"
  refine ⟨sz_le (by simp), fun p hp => ⟨sz_le (by simp), fun p1 hp1 => ?_⟩⟩
  have op := D.off hp
  have M1 := (Mv3.of_ex D (Ex.new hp (o := .lst (keptWords.map V.str)))).new hp1 (o := .lst [])
  have wp : upd (upd H p (.lst (keptWords.map V.str))) p1 (.lst []) p = some (.lst (keptWords.map V.str)) := Ex.new hp1 _ _ upd_same
  have wp1 : upd (upd H p (.lst (keptWords.map V.str))) p1 (.lst []) p1 = some (.lst []) := upd_same
  have hp1H : H p1 = none := by
    by_cases e : p1 = p
    · rw [e]; exact hp
    · rw [upd_ne e] at hp1; exact hp1
  have op1 := D.off hp1H
  have npp : p ≠ p1 := fun e => by rw [← e, upd_same] at hp1; cases hp1
  refine ⟨fun σ H' => I_wd d L p p1 n H n.toNat σ H', ?_, fun σ H' hm => ?_⟩
  · refine ⟨_, rfl, _, rfl, by omega, by omega, for_range (lo := 0) (n := n.toNat) (I_wd d L p p1 n H) ⟨_, _, _, _, rfl, [], wp1, rfl, by simp, wp, M1⟩ (fun k σ H2 hk hw => ?_) (fun σ H2 hw => hw)⟩
    obtain ⟨x5, x6, x7, x8, rfl, ns, h1, h2, h3, h4, M⟩ := hw
    walk_at "vc"
    refine ⟨rfl, _, rfl, L, M.dl, by decide, by decide, fun v H3 v0 v1 M3 => ?_⟩
    refine ⟨_, _, rfl, rfl, _, rfl, by omega, by omega, fun D0 hD0 => ?_⟩
    obtain ⟨m, hm⟩ : ∃ m : Nat, 1 + v = (m : Int) := ⟨(1 + v).toNat, by omega⟩
    have oD0 := M3.dl.off hD0
    rw [hm]
    refine lc_range (lo := 0) (n := m) (C_wd d L D0 H3) ⟨[], upd_same, rfl, by simp, Mv3.of_ex M3.dl (Ex.new hD0)⟩ (fun t H4 ht hI => ?_) (fun H4 hI => ?_)
    · obtain ⟨xs, g1, g2, g3, M4⟩ := hI
      walk_at "vc"
      refine ⟨L, M4.dl, .inr ⟨_, rfl, by decide, by decide, fun c H5 hc M5 => ?_⟩⟩
      refine ⟨_, M5.kp _ _ oD0.1 oD0.2 g1, sz_lt (by simp; omega), xs ++ [⟨#[c]⟩], by rw [upd_same, List.map_append]; rfl, by simp; omega, fun x hx => ?_, (M4.trans M5).mut hD0 oD0.1 oD0.2⟩
      rcases List.mem_append.mp hx with hx | hx
      · exact g3 x hx
      · rw [List.mem_singleton.mp hx]; exact ⟨c, rfl, hc⟩
    obtain ⟨xs, g1, g2, g3, M4⟩ := hI
    obtain ⟨w1, w2⟩ := word_of (fun c => c ∈ (Str.ofString "abcdefghijklmnopqrstuvwxyz").cps.toList) g3
    have hsum : (xs.map fun x => x.length).sum = xs.length := by
      clear w1 w2 g1 g2
      induction xs with
      | nil => rfl
      | cons x xs ih =>
        obtain ⟨c, rfl, _⟩ := g3 x (by simp)
        rw [List.map_cons, List.sum_cons, ih (fun y hy => g3 y (List.mem_cons_of_mem _ hy)), List.length_cons]
        show 1 + _ = _
        omega
    have hw : wOk (Txt.join (Str.ofString "") xs) := by
      refine ⟨by omega, ?_⟩
      unfold nmOk
      rw [decide_eq_true (show (1 : Int) ≤ ((Txt.join (Str.ofString "") xs).length : Int) by omega), decide_eq_true (show ((Txt.join (Str.ofString "") xs).length : Int) ≤ 4 by omega), Bool.true_and, Bool.true_and]
      exact List.all_eq_true.mpr fun c hc => decide_eq_true (w2 c hc)
    refine ⟨D0, rfl, xs, .inl (sq_of g1), by rw [hsum, em0]; omega, ?_⟩
    have M4' := (M.trans M3).trans M4
    have h1' := M4.kp _ _ op1.1 op1.2 (M3.kp _ _ op1.1 op1.2 h1)
    have h4' := M4.kp _ _ op.1 op.2 (M3.kp _ _ op.1 op.2 h4)
    generalize Txt.join (Str.ofString "") xs = wd at *
    refine ⟨fun σ H' => ∃ wd, σ = [some (.ref d), some (.int n), some (.str "abcdefghijklmnopqrstuvwxyz"), some (.ref p), some (.ref p1), some (.int (0 + (k : Int))), some (.str wd), x7, x8] ∧ wOk wd ∧ H' p1 = some (.lst (ns.map V.str)) ∧ H' p = some (.lst (keptWords.map V.str)) ∧ Mv3 d L H H', ?_, fun σ H5 hm5 => ?_⟩
    · walk_at "vc"
      refine ⟨L, M4.dl, by decide, by decide, fun c H5 c0 c1 M5 => ?_⟩
      have h1'' := M5.kp _ _ op1.1 op1.2 h1'
      have h4'' := M5.kp _ _ op.1 op.2 h4'
      walk_at "vc"
      refine ite2 (fun _ => ?_) (fun _ => ⟨hw, h1'', h4'', M4'.trans M5⟩)
      refine ⟨L, M5.dl, .inl ⟨p, _, rfl, h4'', op.1, op.2, by decide, by decide, fun v H6 hv M6 => ?_⟩⟩
      obtain ⟨x, hx, rfl⟩ := List.mem_map.mp hv
      exact ⟨x, rfl, kept_ok x hx, M6.kp _ _ op1.1 op1.2 h1'', M6.kp _ _ op.1 op.2 h4'', (M4'.trans M5).trans M6⟩
    obtain ⟨wd2, rfl, hw2, k1, k2, M5⟩ := hm5
    walk_at "vc"
    refine ⟨.inl ⟨rfl, _, sq_of k1⟩, _, rfl, sz_le (by simp), fun p5 hp5 => ⟨p5, rfl, ⟨_, sq_of upd_same⟩, fun D2 hD2 => ?_⟩⟩
    have w5 : upd H5 p5 (.lst [.str wd2, .str "a", .str "b", .str "c", .str "d"]) p5 = some (.lst (([wd2, "a", "b", "c", "d"] : List Str).map V.str)) := upd_same
    have M6 := M5.new hp5 (o := .lst [.str wd2, .str "a", .str "b", .str "c", .str "d"])
    have k1' := Ex.new hp5 (o := .lst [.str wd2, .str "a", .str "b", .str "c", .str "d"]) _ _ k1
    have k2' := Ex.new hp5 (o := .lst [.str wd2, .str "a", .str "b", .str "c", .str "d"]) _ _ k2
    generalize upd H5 p5 (.lst [.str wd2, .str "a", .str "b", .str "c", .str "d"]) = H6 at *
    refine lc_it (walk_list (xs := ([wd2, "a", "b", "c", "d"] : List Str).map V.str)) (C_fl D2 [wd2, "a", "b", "c", "d"] ns H6) ⟨upd_same, Ex.new hD2⟩ (fun t H7 _ hP => hP.2.sql (sq_of w5)) (fun t v H7 H8 ht hP y => ?_) (fun H7 hP => ?_)
    · obtain ⟨rfl, hv⟩ := y
      rw [List.getElem?_map] at hv
      obtain ⟨x, hx, rfl⟩ := Option.map_eq_some_iff.mp hv
      walk_at "vc"
      refine ⟨p1, _, rfl, .inl (sq_of (hP.2 _ _ k1')), rfl, flat_strs ns, _, rfl, ?_⟩
      rw [if_pos rfl, inV_strs]
      have ht5 : t < 5 := by simpa using ht
      have hl : (([wd2, "a", "b", "c", "d"] : List Str).take t).length ≤ 5 := by rw [List.length_take]; omega
      have hfl := Nat.le_trans (List.length_filter_le (fun x => !(ns.contains x)) (([wd2, "a", "b", "c", "d"] : List Str).take t)) hl
      by_cases hc : ns.contains x = true
      · rw [hc]
        refine iteF ⟨?_, hP.2⟩
        rw [List.take_add_one, hx, List.filter_append]
        simp only [Option.toList, List.filter_cons, hc, Bool.not_true]
        simpa using hP.1
      · rw [Bool.not_eq_true] at hc
        rw [hc]
        refine iteT ⟨_, hP.1, sz_lt (by rw [List.length_map]; omega), ?_, hP.2.mut hD2⟩
        rw [upd_same, List.take_add_one, hx, List.filter_append]
        simp only [Option.toList, List.filter_cons, hc, Bool.not_false, if_true, List.filter_nil, List.map_append, List.map_cons, List.map_nil]
    · have g1 := hP.1
      rw [List.length_map, List.take_length] at g1
      have hne := one_free wd2 ns (by omega)
      obtain ⟨x, r, hxr⟩ := List.exists_cons_of_ne_nil hne
      rw [hxr] at g1
      have hxm : x ∈ ([wd2, "a", "b", "c", "d"] : List Str) := (List.mem_filter.mp (by rw [hxr]; exact List.mem_cons_self .. : x ∈ ([wd2, "a", "b", "c", "d"] : List Str).filter fun x => !(ns.contains x))).1
      have hxo : wOk x := by
        simp only [List.mem_cons, List.not_mem_nil, or_false] at hxm
        rcases hxm with rfl | rfl | rfl | rfl | rfl
        · exact hw2
        · exact ⟨by decide +kernel, by decide +kernel⟩
        · exact ⟨by decide +kernel, by decide +kernel⟩
        · exact ⟨by decide +kernel, by decide +kernel⟩
        · exact ⟨by decide +kernel, by decide +kernel⟩
      refine ⟨_, .str x, sq_of g1, atI_nat (j := 0) (xs := (x :: r).map V.str) rfl, _, hP.2 _ _ k1', sz_lt (by rw [List.length_map]; omega), ?_⟩
      refine ⟨_, _, _, _, rfl, ns ++ [x], by rw [upd_same, List.map_append]; rfl, by rw [List.length_append, h2]; rfl, fun y hy => ?_, by rw [upd_ne npp]; exact hP.2 _ _ k2', (M6.tex hP.2).mut hp1H op1.1 op1.2⟩
      rcases List.mem_append.mp hy with hy | hy
      · exact h3 y hy
      · rw [List.mem_singleton.mp hy]; exact hxo
  · obtain ⟨x5, x6, x7, x8, rfl, ns, h1, h2, h3, h4, M⟩ := hm
    walk_at "vc"
    exact q p1 ns H' M hp1H op1.1 op1.2 h1 (by omega) h3
end
end My
set_option Elab.async false
set_option linter.all false
set_option maxRecDepth 100000
set_option maxHeartbeats 4000000
set_option exponentiation.threshold 5000
namespace My
open PySem PySem.Spec PyProof.Rows L2 Evl
local macro_rules | `(tactic| walk_at "st") => `(tactic| simp only [L2.start, List.map_cons, List.map_nil, List.length_cons, List.length_nil, Nat.reduceAdd, Nat.reduceSub, List.replicate_succ, List.replicate_zero, List.cons_append, List.nil_append, cxOf, List.append_nil])
local macro_rules | `(tactic| walk_at "vc") => `(tactic| try simp only [tSeq, tAsg, tOp, tUn, tVar, tC, tNil, tCons, gName, rI, rI0, rU, tRet, tIfS, tNot, tAnd, tOr, tB, tTest, tCB, tCall, tAndV, tOrV, tNotV, tNext, tNever, tIf, tChain, tYes, tPart, tNoPart, tPar, tDrop, q_isi, q_vn, q_vb, q_vi, q_vs, kb1, kb2, kb3, kb4, kb5, kb6, kb7, kb8, q_int1, q_int2, q_min, q_max, q_repr, tLst, tTup, rEq, rNe, q_sii, q_sss, q_sbb, q_snn, q_sns, q_ssn, q_ix, q_sl, tSl, tBM, tBM0, q_app, q_pop, gSub, rSetL, L2.wipe, eq_self, decide_true, decide_false, tRevL,
  List.getElem?_cons_succ, List.getElem?_cons_zero, List.set_cons_succ, List.set_cons_zero, Option.some.injEq, exists_eq_left', exists_eq_left, V.int.injEq, V.bl.injEq, V.ref.injEq, V.str.injEq, List.cons.injEq, and_true, true_and, List.append_nil, List.nil_append, List.cons_append, exists_and_left, and_assoc, if_true, if_false, Bool.not_true, Bool.not_false, Bool.false_eq_true, Bool.true_eq_false, reduceIte, tRevL, tPar3, tRevT, tUnl, tCKw, forall_const, Bool.not_eq_true', decide_eq_true_eq, decide_eq_false_iff_not])
section
variable {P : Program} {w : World} {K : PySem.W.Frag} {mg : Str → Option Value} {base : Heap}
variable {a_is_integer a_is_number a_is_name a_are_rows a_texts a_needed a_fits a_is_of a_inner a_flat a_names_in a_bare a_named a_law_deal a_law_draw a_law_pick a_law_words a_law_kinds a_law_put a_law_ask a_law_count a_law_rows a_law_ask_text a_law_lines a_law_all_lines a_law_ask_of a_law_row_of a_law_deed a_law_begun a_law_alike a_law a_NoRow_init a_InvalidRow_init a_Put_init a_Put_eq a_Put_str a_If_init a_If_eq a_If_str a_Times_init a_Times_eq a_Times_str a_Stop_eq a_Stop_str a_Ask_init a_Ask_eq a_Ask_str a_Not_init a_Not_eq a_Not_str a_Program_init a_Program_str a_Sheet_init a_Sheet_drop a_Sheet_made a_Sheet_len a_Sheet_getitem a_Sheet_setitem a_Sheet_iadd a_NoRow a_InvalidRow a_Put a_If a_Times a_Stop a_Ask a_Not a_Row a_Test a_Program a_Sheet a_DEEDS a_SIGNS a_WORDS a_If_init_d0 a_Program_init_d0 a_Sheet_init_d0 : Addr} {d_is_integer d_is_number d_is_name d_are_rows d_texts d_needed d_fits d_is_of d_inner d_flat d_names_in d_bare d_named d_law_deal d_law_draw d_law_pick d_law_words d_law_kinds d_law_put d_law_ask d_law_count d_law_rows d_law_ask_text d_law_lines d_law_all_lines d_law_ask_of d_law_row_of d_law_deed d_law_begun d_law_alike d_law d_NoRow_init d_InvalidRow_init d_Put_init d_Put_eq d_Put_str d_If_init d_If_eq d_If_str d_Times_init d_Times_eq d_Times_str d_Stop_eq d_Stop_str d_Ask_init d_Ask_eq d_Ask_str d_Not_init d_Not_eq d_Not_str d_Program_init d_Program_str d_Sheet_init d_Sheet_drop d_Sheet_made d_Sheet_len d_Sheet_getitem d_Sheet_setitem d_Sheet_iadd : FuncData}
/-! ### the kinds of the deeds -/
def kOne : List Str := ["let", "turned", "least", "greatest", "sum", "many", "root"]
def kTwo : List Str := ["+", "-", "*", "//", "rest", "joined", "common", "lesser"]
theorem un1 {n : Nat} (h : n + 64 < cLine) : n + 1 < cLine := by omega
def kinds0 : List (Str × Str) := [("number", "k"), ("base", ""), ("**", "xk"), ("figure", "kx"), ("first", "kx"), ("last", "kx")]
def putAll (z : Str) (ps : List (Str × Str)) (xs : List Str) : List (Str × Str) := ps ++ xs.map fun x => (x, z)
def kindsS : List (Str × Str) := putAll "xy" (putAll "x" kinds0 kOne) kTwo
def asK (ps : List (Str × Str)) : List (Key × V) := ps.map fun p => (.inr p.1, .str p.2)
theorem putK_new {ps : List (Str × Str)} {x z : Str} (h : x ∉ ps.map (·.1)) : putK (asK ps) (.inr x) (.str z) = asK (ps ++ [(x, z)]) := by
  unfold putK
  rw [if_neg]
  · unfold asK; rw [List.map_append]; rfl
  · intro e
    obtain ⟨kv, h1, h2⟩ := List.any_eq_true.mp e
    obtain ⟨p, hp, rfl⟩ := List.mem_map.mp h1
    have e2 : p.1 = x := Sum.inr.inj (of_decide_eq_true h2)
    exact h (List.mem_map.mpr ⟨p, hp, e2⟩)
theorem kinds_nd : (kindsS.map (·.1)).Nodup := by decide +kernel
theorem fresh_at {ps : List (Str × Str)} {z x : Str} {xs : List Str} {i : Nat} (hnd : ((putAll z ps xs).map (·.1)).Nodup) (hx : xs[i]? = some x) : x ∉ (putAll z ps (xs.take i)).map (·.1) := by
  unfold putAll at hnd ⊢
  rw [List.map_append, List.map_map] at hnd ⊢
  have e : ((fun p : Str × Str => p.1) ∘ fun x => (x, z)) = id := rfl
  rw [e, List.map_id] at hnd
  rw [e, List.map_id]
  obtain ⟨_, h2, h3⟩ := List.nodup_append.mp hnd
  have hm : x ∈ xs := List.mem_of_getElem? hx
  intro hc
  rcases List.mem_append.mp hc with hc | hc
  · exact h3 x hc x hm rfl
  · obtain ⟨j, hj⟩ := List.mem_iff_getElem?.mp hc
    rw [List.getElem?_take] at hj
    split at hj
    · rename_i hji
      exact absurd ((List.getElem?_inj (List.getElem?_eq_some_iff.mp hj).1 h2).mp (hj.trans hx.symm)) (by omega)
    · cases hj
def sp_law_kinds : Sp
  | [], H, Q, _ => ∀ p H', Ex H H' → H p = none → H' p = some (.dK (asK kindsS)) → Q (.ref p) H'
  | _, _, _, _ => False
def I_kd (p g : Addr) (z : Str) (ps : List (Str × Str)) (xs : List Str) (H : Hp) : Nat → L2.St → Hp → Prop := fun i σ H' => ∃ x, σ = [some (.ref p), x] ∧ H' p = some (.dK (asK (putAll z ps (xs.take i)))) ∧ Ex H H' ∧ H' g = some (.tup (xs.map V.str))
def J_kd (p : Addr) (ps : List (Str × Str)) (H : Hp) : L2.St → Hp → Prop := fun σ H' => ∃ x, σ = [some (.ref p), x] ∧ H' p = some (.dK (asK ps)) ∧ Ex H H'
theorem asK_len (ps : List (Str × Str)) : (asK ps).length = ps.length := by unfold asK; rw [List.length_map]
theorem ok_law_kinds (T : Txt w K mg a_is_integer a_is_number a_is_name a_are_rows a_texts a_needed a_fits a_is_of a_inner a_flat a_names_in a_bare a_named a_law_deal a_law_draw a_law_pick a_law_words a_law_kinds a_law_put a_law_ask a_law_count a_law_rows a_law_ask_text a_law_lines a_law_all_lines a_law_ask_of a_law_row_of a_law_deed a_law_begun a_law_alike a_law a_NoRow_init a_InvalidRow_init a_Put_init a_Put_eq a_Put_str a_If_init a_If_eq a_If_str a_Times_init a_Times_eq a_Times_str a_Stop_eq a_Stop_str a_Ask_init a_Ask_eq a_Ask_str a_Not_init a_Not_eq a_Not_str a_Program_init a_Program_str a_Sheet_init a_Sheet_drop a_Sheet_made a_Sheet_len a_Sheet_getitem a_Sheet_setitem a_Sheet_iadd a_NoRow a_InvalidRow a_Put a_If a_Times a_Stop a_Ask a_Not a_Row a_Test a_Program a_Sheet a_DEEDS a_SIGNS a_WORDS a_If_init_d0 a_Program_init_d0 a_Sheet_init_d0 d_is_integer d_is_number d_is_name d_are_rows d_texts d_needed d_fits d_is_of d_inner d_flat d_names_in d_bare d_named d_law_deal d_law_draw d_law_pick d_law_words d_law_kinds d_law_put d_law_ask d_law_count d_law_rows d_law_ask_text d_law_lines d_law_all_lines d_law_ask_of d_law_row_of d_law_deed d_law_begun d_law_alike d_law d_NoRow_init d_InvalidRow_init d_Put_init d_Put_eq d_Put_str d_If_init d_If_eq d_If_str d_Times_init d_Times_eq d_Times_str d_Stop_eq d_Stop_str d_Ask_init d_Ask_eq d_Ask_str d_Not_init d_Not_eq d_Not_str d_Program_init d_Program_str d_Sheet_init d_Sheet_drop d_Sheet_made d_Sheet_len d_Sheet_getitem d_Sheet_setitem d_Sheet_iadd) : FnOk P w K mg base CX0 1 a_law_kinds d_law_kinds [] sp_law_kinds := by
  refine T.F_law_kinds.ok sc_law_kinds (fun vs H Q E h => ?_) (fun cdv A outer s H vs Q E hr h => ?_)
  · unfold sp_law_kinds at h; split at h; rfl; exact h.elim
  unfold sp_law_kinds at h; split at h
  case h_2 => exact h.elim

  refine ⟨_, (pss_cons (ps_set (i := 0) sc_law_kinds.nd rfl (by first | exact .inl rfl | exact .inr rfl) (pe_disp (pps_cons pe_str pe_str (pps_cons pe_str pe_str (pps_cons pe_str pe_str (pps_cons pe_str pe_str (pps_cons pe_str pe_str (pps_cons pe_str pe_str pps_nil)))))) (by rfl) (by rfl) (fun z => by cases z) (by decide)))
      (Evl.pss_cut (ps_for PassesOwn.never rfl (pi_tup (pe_tup (pa_cons pe_str (pa_cons pe_str (pa_cons pe_str (pa_cons pe_str (pa_cons pe_str (pa_cons pe_str (pa_cons pe_str pa_nil))))))))) (pg_name (i := 1) sc_law_kinds.nd rfl (by first | exact .inl rfl | exact .inr rfl))
      (pss_one (ps_dput (un1 hr.units) (pv 0) (pv 1) pe_str rfl)))
      (Evl.pss_cut (ps_for PassesOwn.never rfl (pi_tup (pe_tup (pa_cons pe_str (pa_cons pe_str (pa_cons pe_str (pa_cons pe_str (pa_cons pe_str (pa_cons pe_str (pa_cons pe_str (pa_cons pe_str pa_nil)))))))))) (pg_name (i := 1) sc_law_kinds.nd rfl (by first | exact .inl rfl | exact .inr rfl))
      (pss_one (ps_dput (un1 hr.units) (pv 0) (pv 1) pe_str rfl)))
      (pss_one (ps_ret (pv 0)))))), ?_⟩
  walk_at "st"
  walk_at "vc"
  refine fun p hp => ?_
  have M0 := Ex.new hp (o := .dK [])
  have w0 : upd H p (.dK []) p = some (.dK []) := upd_same
  generalize upd H p (.dK []) = H0 at *
  refine ⟨w0, kinds0.map (fun p => (.inr p.1, .str p.2)), rfl, by decide, ?_⟩
  have e0 : mergeK [] (kinds0.map (fun p => ((.inr p.1 : Key), V.str p.2))) = asK kinds0 := by rfl
  rw [e0]
  have M1 := M0.mut hp (o := .dK (asK kinds0))
  have w1 : upd H0 p (.dK (asK kinds0)) p = some (.dK (asK kinds0)) := upd_same
  generalize upd H0 p (.dK (asK kinds0)) = H1 at *
  walk_at "vc"
  have turn : ∀ (z : Str) (ps : List (Str × Str)) (xs : List Str) (_ : ((putAll z ps xs).map (·.1)).Nodup) (_ : ps.length + xs.length ≤ 100) (g : Addr) (_ : g ≠ p) (D : Ends) (i : Nat) (x : V) (σ : L2.St) (H3 : Hp), (xs.map V.str)[i]? = some x → I_kd p g z ps xs H i σ H3 → D.nx = I_kd p g z ps xs H (i + 1) → gName 1 x σ H3 fun σ2 H2 => sDPut (tVar 0) (tVar 1) (tC (.str z)) D σ2 H2 := by
    intro z ps xs hnd hlen g hgp D i x σ H3 hx hI hD
    obtain ⟨y, rfl, h1, h2, h3⟩ := hI
    rw [List.getElem?_map] at hx
    obtain ⟨u, hu, rfl⟩ := Option.map_eq_some_iff.mp hx
    have hi := (List.getElem?_eq_some_iff.mp hu).1
    unfold sDPut
    walk_at "vc"
    refine ⟨_, DPut.k (k := .inr u) h1 (by rw [asK_len]; unfold putAll; rw [List.length_append, List.length_map, List.length_take, sizeLine_eq]; omega), ?_⟩
    rw [hD]
    refine ⟨_, rfl, ?_, h2.mut hp, by rw [upd_ne hgp]; exact h3⟩
    rw [upd_same, putK_new (fresh_at hnd hu)]
    unfold putAll
    rw [List.take_add_one, hu, List.map_append, List.append_assoc]
    rfl
  have one : (((putAll "x" kinds0 kOne).map (·.1)).Nodup) := by decide +kernel
  refine ⟨J_kd p (putAll "x" kinds0 kOne) H, ?_, fun σ H' hm => ?_⟩
  · refine ⟨sz_le (by simp), fun g hg => ⟨g, rfl, ⟨_, st_of upd_same⟩, for_tup (xs := kOne.map V.str) (I_kd p g "x" kinds0 kOne H) ⟨_, rfl, by rw [upd_ne (ne_of_none w1 hg)]; unfold putAll; exact w1, M1.trans (Ex.new hg), upd_same⟩ (fun i σ H2 _ hv => st_of hv.choose_spec.2.2.2) (fun i x σ H2 hx hv => turn _ _ _ one (by decide) g (fun e => by rw [e, w1] at hg; cases hg) _ i x σ H2 hx hv rfl) (fun σ H2 hv => ?_)⟩⟩
    obtain ⟨y, rfl, h1, h2, h3⟩ := hv
    exact ⟨_, rfl, h1, h2⟩
  obtain ⟨y, rfl, h1, h2⟩ := hm
  walk_at "vc"
  refine ⟨J_kd p kindsS H, ?_, fun σ H' hm => ?_⟩
  · refine ⟨sz_le (by simp), fun g hg => ⟨g, rfl, ⟨_, st_of upd_same⟩, for_tup (xs := kTwo.map V.str) (I_kd p g "xy" (putAll "x" kinds0 kOne) kTwo H) ⟨_, rfl, by rw [upd_ne (ne_of_none h1 hg)]; exact h1.trans (by unfold putAll; rfl), h2.trans (Ex.new hg), upd_same⟩ (fun i σ H2 _ hv => st_of hv.choose_spec.2.2.2) (fun i x σ H2 hx hv => turn _ _ _ kinds_nd (by decide) g (fun e => by rw [e, h1] at hg; cases hg) _ i x σ H2 hx hv rfl) (fun σ H2 hv => ?_)⟩⟩
    obtain ⟨y, rfl, h1, h2, h3⟩ := hv
    exact ⟨_, rfl, h1, h2⟩
  obtain ⟨y, rfl, h1, h2⟩ := hm
  walk_at "vc"
  exact h p _ h2 hp h1
end
end My
set_option Elab.async false
set_option linter.all false
set_option maxRecDepth 100000
set_option maxHeartbeats 4000000
set_option exponentiation.threshold 5000
namespace My
open PySem PySem.Spec PyProof.Rows L2 Evl
local macro_rules | `(tactic| walk_at "st") => `(tactic| simp only [L2.start, List.map_cons, List.map_nil, List.length_cons, List.length_nil, Nat.reduceAdd, Nat.reduceSub, List.replicate_succ, List.replicate_zero, List.cons_append, List.nil_append, cxOf, List.append_nil])
local macro_rules | `(tactic| walk_at "vc") => `(tactic| try simp only [tSeq, tAsg, tOp, tUn, tVar, tC, tNil, tCons, gName, rI, rI0, rU, tRet, tIfS, tNot, tAnd, tOr, tB, tTest, tCB, tCall, tAndV, tOrV, tNotV, tNext, tNever, tIf, tChain, tYes, tPart, tNoPart, tPar, tDrop, q_isi, q_vn, q_vb, q_vi, q_vs, kb1, kb2, kb3, kb4, kb5, kb6, kb7, kb8, q_int1, q_int2, q_min, q_max, q_repr, tLst, tTup, rEq, rNe, q_sii, q_sss, q_sbb, q_snn, q_sns, q_ssn, q_ix, q_sl, tSl, tBM, tBM0, q_app, q_pop, gSub, rSetL, L2.wipe, eq_self, decide_true, decide_false, tRevL,
  List.getElem?_cons_succ, List.getElem?_cons_zero, List.set_cons_succ, List.set_cons_zero, Option.some.injEq, exists_eq_left', exists_eq_left, V.int.injEq, V.bl.injEq, V.ref.injEq, V.str.injEq, List.cons.injEq, and_true, true_and, List.append_nil, List.nil_append, List.cons_append, exists_and_left, and_assoc, if_true, if_false, Bool.not_true, Bool.not_false, Bool.false_eq_true, Bool.true_eq_false, reduceIte, tRevL, tPar3, tRevT, tUnl, tCKw, forall_const, Bool.not_eq_true', decide_eq_true_eq, decide_eq_false_iff_not])
section
variable {P : Program} {w : World} {K : PySem.W.Frag} {mg : Str → Option Value} {base : Heap}
variable {a_is_integer a_is_number a_is_name a_are_rows a_texts a_needed a_fits a_is_of a_inner a_flat a_names_in a_bare a_named a_law_deal a_law_draw a_law_pick a_law_words a_law_kinds a_law_put a_law_ask a_law_count a_law_rows a_law_ask_text a_law_lines a_law_all_lines a_law_ask_of a_law_row_of a_law_deed a_law_begun a_law_alike a_law a_NoRow_init a_InvalidRow_init a_Put_init a_Put_eq a_Put_str a_If_init a_If_eq a_If_str a_Times_init a_Times_eq a_Times_str a_Stop_eq a_Stop_str a_Ask_init a_Ask_eq a_Ask_str a_Not_init a_Not_eq a_Not_str a_Program_init a_Program_str a_Sheet_init a_Sheet_drop a_Sheet_made a_Sheet_len a_Sheet_getitem a_Sheet_setitem a_Sheet_iadd a_NoRow a_InvalidRow a_Put a_If a_Times a_Stop a_Ask a_Not a_Row a_Test a_Program a_Sheet a_DEEDS a_SIGNS a_WORDS a_If_init_d0 a_Program_init_d0 a_Sheet_init_d0 : Addr} {d_is_integer d_is_number d_is_name d_are_rows d_texts d_needed d_fits d_is_of d_inner d_flat d_names_in d_bare d_named d_law_deal d_law_draw d_law_pick d_law_words d_law_kinds d_law_put d_law_ask d_law_count d_law_rows d_law_ask_text d_law_lines d_law_all_lines d_law_ask_of d_law_row_of d_law_deed d_law_begun d_law_alike d_law d_NoRow_init d_InvalidRow_init d_Put_init d_Put_eq d_Put_str d_If_init d_If_eq d_If_str d_Times_init d_Times_eq d_Times_str d_Stop_eq d_Stop_str d_Ask_init d_Ask_eq d_Ask_str d_Not_init d_Not_eq d_Not_str d_Program_init d_Program_str d_Sheet_init d_Sheet_drop d_Sheet_made d_Sheet_len d_Sheet_getitem d_Sheet_setitem d_Sheet_iadd : FuncData}
/-! ### a row that sets a name -/
def Names (d L nm : Addr) (ns : List Str) (H : Hp) : Prop := H nm = some (.lst (ns.map V.str)) ∧ nm ≠ d ∧ nm ≠ L ∧ 0 < ns.length ∧ ns.length ≤ 1000 ∧ ∀ x ∈ ns, wOk x
theorem Names.mv {d L nm : Addr} {ns : List Str} {H H' : Hp} (N : Names d L nm ns H) (M : Mv3 d L H H') : Names d L nm ns H' := ⟨M.kp _ _ N.2.1 N.2.2.1 N.1, N.2⟩
theorem wOk.name {x : Str} (h : wOk x) : nameOk x := ⟨by have := h.1; omega, h.2⟩
theorem Mv3.kpx {d L : Addr} {H H' : Hp} (D : Deal3 d L H) (M : Mv3 d L H H') : Kp H H' := fun b o no h => by
  obtain ⟨cs, c, z, D⟩ := D
  exact M.kp b o (fun e => by rw [e, D.d] at h; cases h; exact no _ rfl) (fun e => by rw [e, D.l] at h; cases h; exact no _ rfl) h
theorem Ex.unlock {H H' : Hp} {p : Addr} {u x : HO} (h : H p = some u) (e : Ex (upd H p x) H') : Ex H (upd H' p u) := fun b o hb => by
  by_cases eb : b = p
  · rw [eb] at hb ⊢; rw [upd_same, ← h, hb]
  · rw [upd_ne eb]; exact e _ _ (by rw [upd_ne eb]; exact hb)
theorem e_none {H H' : Hp} {a : Addr} (e : Ex H H') (h : H' a = none) : H a = none := by
  cases h1 : H a with
  | none => rfl
  | some u => rw [e _ _ h1] at h; cases h
def deeds : List Str := kindsS.map (·.1)
def kOf (c : Nat) : Str := if (⟨#[c]⟩ : Str) = "k" then "number" else "name"
theorem kinds_tab : ∀ p ∈ kindsS, p.1 ≠ "**" → deedTab.lookup p.1 = some (p.2.cps.toList.map kOf) := by decide +kernel
theorem kinds_len : ∀ p ∈ kindsS, p.2.length ≤ 2 := by decide +kernel
theorem kinds_at : ∀ p ∈ kindsS, (kindsS.find? fun q => decide (q.1 = p.1)) = some p := by decide +kernel
theorem kinds_fig : ∀ p ∈ kindsS, p.1 ≠ "figures" := by decide +kernel
theorem valV_as {ps : List (Str × Str)} {p : Str × Str} (h : (ps.find? fun q => decide (q.1 = p.1)) = some p) : valV (asK ps) (.inr p.1) = some (.str p.2) := by
  unfold valV asK
  rw [List.find?_map]
  have e : ((fun kv : Key × V => decide (kv.1 = .inr p.1)) ∘ fun q : Str × Str => ((.inr q.1 : Key), V.str q.2)) = fun q => decide (q.1 = p.1) := by
    funext q
    simp
  rw [e, h]
  rfl
/-- what the law draws is short -/
def argSm : V → Prop
  | .str x => x.length ≤ 4
  | .int i => 0 ≤ i ∧ i < 2 ^ 100
  | _ => False
def TestM.sm : TestM → Prop
  | .ask w ns => w.length ≤ 8 ∧ ∀ n ∈ ns, n.length ≤ 4
  | .not t => t.sm
mutual
def RowM.sm : RowM → Prop
  | .stop => True
  | .put n d g => n.length ≤ 4 ∧ d.length ≤ 8 ∧ g.length ≤ 6 ∧ ∀ v ∈ g, argSm v
  | .times _ rs => RowM.sms rs
  | .ifr t rs os => t.sm ∧ RowM.sms rs ∧ RowM.sms os
def RowM.sms : List RowM → Prop
  | [] => True
  | r :: rs => r.sm ∧ RowM.sms rs
end
def argOk2 (k : Str) (v : V) : Prop := argOk k v ∧ argSm v
theorem deeds_len : ∀ p ∈ kindsS, p.1.length ≤ 8 := by decide +kernel
def sp_law_put (K : PySem.W.Frag) : Sp
  | [.ref d, .ref nm, .int most], H, Q, _ => ∃ L ns, Deal3 d L H ∧ Names d L nm ns H ∧ 0 ≤ most ∧ most < 2 ^ 100 ∧ ∀ n dd g v H', Mv3 d L H H' → RowT K H' (.put n dd g) v → RowM.ok (.put n dd g) → RowM.sm (.put n dd g) → Q v H'
  | _, _, _, _ => False
def C_kd (p D0 : Addr) (H : Hp) : Nat → Hp → Prop := fun i H' => H' D0 = some (.lst ((deeds.take i).map V.str)) ∧ Ex H H'
theorem ok_law_put (T : Txt w K mg a_is_integer a_is_number a_is_name a_are_rows a_texts a_needed a_fits a_is_of a_inner a_flat a_names_in a_bare a_named a_law_deal a_law_draw a_law_pick a_law_words a_law_kinds a_law_put a_law_ask a_law_count a_law_rows a_law_ask_text a_law_lines a_law_all_lines a_law_ask_of a_law_row_of a_law_deed a_law_begun a_law_alike a_law a_NoRow_init a_InvalidRow_init a_Put_init a_Put_eq a_Put_str a_If_init a_If_eq a_If_str a_Times_init a_Times_eq a_Times_str a_Stop_eq a_Stop_str a_Ask_init a_Ask_eq a_Ask_str a_Not_init a_Not_eq a_Not_str a_Program_init a_Program_str a_Sheet_init a_Sheet_drop a_Sheet_made a_Sheet_len a_Sheet_getitem a_Sheet_setitem a_Sheet_iadd a_NoRow a_InvalidRow a_Put a_If a_Times a_Stop a_Ask a_Not a_Row a_Test a_Program a_Sheet a_DEEDS a_SIGNS a_WORDS a_If_init_d0 a_Program_init_d0 a_Sheet_init_d0 d_is_integer d_is_number d_is_name d_are_rows d_texts d_needed d_fits d_is_of d_inner d_flat d_names_in d_bare d_named d_law_deal d_law_draw d_law_pick d_law_words d_law_kinds d_law_put d_law_ask d_law_count d_law_rows d_law_ask_text d_law_lines d_law_all_lines d_law_ask_of d_law_row_of d_law_deed d_law_begun d_law_alike d_law d_NoRow_init d_InvalidRow_init d_Put_init d_Put_eq d_Put_str d_If_init d_If_eq d_If_str d_Times_init d_Times_eq d_Times_str d_Stop_eq d_Stop_str d_Ask_init d_Ask_eq d_Ask_str d_Not_init d_Not_eq d_Not_str d_Program_init d_Program_str d_Sheet_init d_Sheet_drop d_Sheet_made d_Sheet_len d_Sheet_getitem d_Sheet_setitem d_Sheet_iadd) : FnOk P w K mg base CX0 3 a_law_put d_law_put ["_law_deal_here", "_law_names", "_law_most"] (sp_law_put K) := by
  have G_law_draw := ok_law_draw (P := P) (w := w) (base := base) T
  have G_law_pick := ok_law_pick (P := P) (w := w) (base := base) T
  have G_law_kinds := ok_law_kinds (P := P) (w := w) (base := base) T
  refine T.F_law_put.ok sc_law_put (fun vs H Q E h => ?_) (fun cdv A outer s H vs Q E hr h => ?_)
  · unfold sp_law_put at h; split at h; rfl; exact h.elim
  unfold sp_law_put at h; split at h
  case h_2 => exact h.elim
  rename_i d nm most
  obtain ⟨L, ns, D, N, m0, m1, q⟩ := h
  refine ⟨_, (pss_cons (ps_set (i := 3) sc_law_put.nd rfl (by first | exact .inl rfl | exact .inr rfl) (pe_call0 G_law_kinds (hr.mono (by decide)) (by rfl) T.g_law_kinds T.F_law_kinds.kp T.b_law_kinds .nil pass0))
      (pss_cons (ps_set (i := 4) sc_law_put.nd rfl (by first | exact .inl rfl | exact .inr rfl) (pe_call G_law_pick (hr.mono (by decide)) (by rfl) T.g_law_pick T.F_law_pick.kp T.b_law_pick .nil pass0 (pa_cons (pv 0) (pa_cons (pe_op op_cat (pe_callB L2.cr_sortedS (by rfl) T.z_sorted (by decide +kernel) (pa_cons (pe_lock (pe_lc (own := [("_law_one", 8)]) (g := gName 8) (by rfl) sc_law_put.nd (pi_keys (pv 3)) (blkOk_by (own := [("_law_one", 8)]) (N := N_law_put) (sc := defScope s_law_put) (by decide +kernel)) (fun _ _ _ _ _ => (pg_name (i := 8) sc_law_put.nd rfl (by first | exact .inl rfl | exact .inr rfl))) (fun _ _ _ _ _ => pts_nil) (fun _ _ _ _ _ => (pe_callTy call_strA (by rfl) T.z_str (by decide +kernel) (pa_cons (pv 8) pa_nil))))) pa_nil)) (pe_lst (pa_cons pe_str (pa_cons pe_str (pa_cons pe_str (pa_cons pe_str (pa_cons pe_str (pa_cons pe_str pa_nil)))))))) pa_nil))))
      (Evl.pss_cut (ps_if (pt_cmpR op_eq (pv 4) pe_str (nomark _))
      (pss_one (ps_setLc (i := 5) (own := [("_law_k", 9)]) (g := gName 9) (by rfl) sc_law_put.nd rfl rfl (sw_true rfl rfl rfl (by decide +kernel)) (pi_range1 (by rfl) T.z_range (pa_cons (pe_op op_add pe_int (pe_call G_law_draw (hr.mono (by decide)) (by rfl) T.g_law_draw T.F_law_draw.kp T.b_law_draw .nil pass0 (pa_cons (pv 0) (pa_cons pe_int pa_nil)))) pa_nil)) (blkOk_by (own := [("_law_k", 9)]) (N := N_law_put) (sc := defScope s_law_put) (by decide +kernel)) (fun _ _ _ _ _ => (pg_name (i := 9) sc_law_put.nd rfl (by first | exact .inl rfl | exact .inr rfl))) (fun _ _ _ _ _ => pts_nil) (fun _ _ _ _ _ => (pe_call G_law_draw (hr.mono (by decide)) (by rfl) T.g_law_draw T.F_law_draw.kp T.b_law_draw .nil pass0 (pa_cons (pv 0) (pa_cons (pe_ix (ix_listK (K := K)) (pe_lst (pa_cons pe_int (pa_cons pe_int (pa_cons pe_int pa_nil)))) (pe_call G_law_draw (hr.mono (by decide)) (by rfl) T.g_law_draw T.F_law_draw.kp T.b_law_draw .nil pass0 (pa_cons (pv 0) (pa_cons pe_int pa_nil))) (fun _ _ => rfl)) pa_nil))))))
      (pss_one (ps_if (pt_cmpR op_eq (pv 4) pe_str (nomark _))
      (pss_one (ps_set (i := 5) sc_law_put.nd rfl (by first | exact .inl rfl | exact .inr rfl) (pe_lst (pa_cons (pe_call G_law_pick (hr.mono (by decide)) (by rfl) T.g_law_pick T.F_law_pick.kp T.b_law_pick .nil pass0 (pa_cons (pv 0) (pa_cons (pv 1) pa_nil))) (pa_cons (pe_call G_law_draw (hr.mono (by decide)) (by rfl) T.g_law_draw T.F_law_draw.kp T.b_law_draw .nil pass0 (pa_cons (pv 0) (pa_cons pe_int pa_nil))) pa_nil)))))
      (pss_cons (ps_set (i := 5) sc_law_put.nd rfl (by first | exact .inl rfl | exact .inr rfl) (pe_lst pa_nil))
      (pss_one (ps_for PassesOwn.never rfl (pi_str (pe_dget (un1 hr.units) (pv 3) (pv 4) (fun _ _ => rfl))) (pg_name (i := 6) sc_law_put.nd rfl (by first | exact .inl rfl | exact .inr rfl))
      (pss_cons (ps_set (i := 7) sc_law_put.nd rfl (by first | exact .inl rfl | exact .inr rfl) (pe_call G_law_draw (hr.mono (by decide)) (by rfl) T.g_law_draw T.F_law_draw.kp T.b_law_draw .nil pass0 (pa_cons (pv 0) (pa_cons (pe_ifExp (pt_cmpR op_in_seq (pv 4) (pe_tup (pa_cons pe_str (pa_cons pe_str (pa_cons pe_str pa_nil)))) (by rfl)) pe_int (pe_op op_add (pv 2) pe_int)) pa_nil))))
      (pss_one (ps_expr (pe_bm PySem.F.plainAttrs_list PySem.F.slot_list_append PySem.F.type_list_append mt_appendM (pv 5) (pa_cons (pe_ifExp (pt_cmpR op_eq (pv 6) pe_str (nomark _)) (pv 7) (pe_call G_law_pick (hr.mono (by decide)) (by rfl) T.g_law_pick T.F_law_pick.kp T.b_law_pick .nil pass0 (pa_cons (pv 0) (pa_cons (pv 1) pa_nil)))) pa_nil)))))))))))
      (pss_one (ps_ret (pe_tup (pa_cons pe_str (pa_cons (pe_call G_law_pick (hr.mono (by decide)) (by rfl) T.g_law_pick T.F_law_pick.kp T.b_law_pick .nil pass0 (pa_cons (pv 0) (pa_cons (pv 1) pa_nil))) (pa_cons (pv 4) (pa_cons (pe_callTy call_tuple_of (by rfl) T.z_tuple (by decide +kernel) (pa_cons (pv 5) pa_nil)) pa_nil)))))))))), ?_⟩
  walk_at "st"
  walk_at "vc"
  refine fun p H1 e1 hp hk => ?_
  have M1 := Mv3.of_ex D e1
  have nd : p ≠ d ∧ p ≠ L := D.off hp
  refine ⟨p, _, hk, trivial, fun od => ?_⟩
  have eF : Ex H (upd H1 p (.frz od (.dK (asK kindsS)))) := e1.mut hp
  walk_at "vc"
  refine ⟨.ref p, rfl, p, od, rfl, .inl ⟨_, upd_same, fun D0 hD0 => ?_⟩⟩
  have hD0H : H D0 = none := e_none eF hD0
  have npD : p ≠ D0 := fun e => by rw [← e, upd_same] at hD0; cases hD0
  refine lc_it walk_keys (fun i H' => H' D0 = some (.lst ((deeds.take i).map V.str)) ∧ Ex H H' ∧ H' p = some (.frz od (.dK (asK kindsS)))) ⟨upd_same, eF.mut hD0H, by rw [upd_ne npD]; exact upd_same⟩ (fun i H' _ hP => hP.2.2) (fun t v H3 H4 ht hP y => ?_) (fun H3 hP => ?_)
  · obtain ⟨rfl, k, z, hkz, rfl⟩ := y
    unfold asK at hkz
    rw [List.getElem?_map] at hkz
    obtain ⟨⟨x, zz⟩, hx, e⟩ := Option.map_eq_some_iff.mp hkz
    cases e
    have hx2 : deeds[t]? = some x := by unfold deeds; rw [List.getElem?_map, hx]; rfl
    have htl : t < 21 := (List.getElem?_eq_some_iff.mp hx2).1
    walk_at "vc"
    show ∃ acc, H4 D0 = some (HO.lst acc) ∧ acc.length < sizeLine ∧ _ ∧ _ ∧ _
    refine ⟨_, hP.1, sz_lt (by rw [List.length_map, List.length_take]; omega), ?_, hP.2.1.mut hD0H, by rw [upd_ne npD]; exact hP.2.2⟩
    rw [upd_same, List.take_add_one, hx2, List.map_append]
    rfl
  obtain ⟨g1, e3, g3⟩ := hP
  refine ⟨g3, ?_⟩
  rw [show (asK kindsS).length = deeds.length by unfold asK deeds; rw [List.length_map, List.length_map], List.take_length] at g1
  have dl : deeds.length = 21 := rfl
  have e4 : Ex H (upd H3 p (.dK (asK kindsS))) := e3.mut hp
  have k4 : upd H3 p (.dK (asK kindsS)) p = some (.dK (asK kindsS)) := upd_same
  have g4 : upd H3 p (.dK (asK kindsS)) D0 = some (.lst (deeds.map V.str)) := by rw [upd_ne npD.symm]; exact g1
  generalize upd H3 p (.dK (asK kindsS)) = H4 at *
  refine ⟨D0, deeds, rfl, sq_of g4, by rw [dl]; decide, fun ys s1 perm _ hs1 => ?_⟩
  have e5 := e4.trans (Ex.new hs1 (o := .lst (ys.map V.str)))
  have w5 : upd H4 s1 (.lst (ys.map V.str)) s1 = some (.lst (ys.map V.str)) := upd_same
  have k5 := Ex.new hs1 (o := .lst (ys.map V.str)) _ _ k4
  generalize upd H4 s1 (.lst (ys.map V.str)) = H5 at *
  refine ⟨sz_le (by decide), fun s2 hs2 => ?_⟩
  have e6 := e5.trans (Ex.new hs2 (o := .lst [.str "figures", .str "figures", .str "+", .str "-", .str "*", .str "number"]))
  have w6 : upd H5 s2 (.lst [.str "figures", .str "figures", .str "+", .str "-", .str "*", .str "number"]) s2 = some (.lst [.str "figures", .str "figures", .str "+", .str "-", .str "*", .str "number"]) := upd_same
  have w5' := Ex.new hs2 (o := .lst [.str "figures", .str "figures", .str "+", .str "-", .str "*", .str "number"]) _ _ w5
  have k6 := Ex.new hs2 (o := .lst [.str "figures", .str "figures", .str "+", .str "-", .str "*", .str "number"]) _ _ k5
  generalize upd H5 s2 (.lst [.str "figures", .str "figures", .str "+", .str "-", .str "*", .str "number"]) = H6 at *
  have yl : ys.length = 21 := by rw [perm.length_eq, dl]
  refine ⟨s1, s2, _, _, rfl, rfl, w5', w6, sz_le (by rw [List.length_map, yl]; decide), fun s3 hs3 => ?_⟩
  have M7 := Mv3.of_ex D (e6.trans (Ex.new hs3 (o := .lst (ys.map V.str ++ [.str "figures", .str "figures", .str "+", .str "-", .str "*", .str "number"]))))
  have w7 : upd H6 s3 (.lst (ys.map V.str ++ [.str "figures", .str "figures", .str "+", .str "-", .str "*", .str "number"])) s3 = some (.lst (ys.map V.str ++ [.str "figures", .str "figures", .str "+", .str "-", .str "*", .str "number"])) := upd_same
  have k7 := Ex.new hs3 (o := .lst (ys.map V.str ++ [.str "figures", .str "figures", .str "+", .str "-", .str "*", .str "number"])) _ _ k6
  have os3 := D.off (e_none e6 hs3)
  generalize upd H6 s3 (.lst (ys.map V.str ++ [.str "figures", .str "figures", .str "+", .str "-", .str "*", .str "number"])) = H7 at *
  refine ⟨L, M7.dl, .inl ⟨s3, _, rfl, w7, os3.1, os3.2, by simp, by rw [List.length_append, List.length_map, yl]; decide, fun v H8 hv M8 => ?_⟩⟩
  obtain ⟨x, rfl, hx⟩ : ∃ x, v = .str x ∧ (x = "figures" ∨ ∃ z, (x, z) ∈ kindsS) := by
    have inD : ∀ x, x ∈ deeds → ∃ z, (x, z) ∈ kindsS := fun x hx => by
      obtain ⟨⟨a, z⟩, h1, h2⟩ := List.mem_map.mp hx
      cases h2
      exact ⟨z, h1⟩
    rcases List.mem_append.mp hv with hv | hv
    · obtain ⟨x, hx, rfl⟩ := List.mem_map.mp hv
      exact ⟨x, rfl, .inr (inD x (perm.mem_iff.mp hx))⟩
    · simp only [List.mem_cons, List.not_mem_nil, or_false] at hv
      rcases hv with rfl | rfl | rfl | rfl | rfl | rfl
      · exact ⟨_, rfl, .inl rfl⟩
      · exact ⟨_, rfl, .inl rfl⟩
      · exact ⟨_, rfl, .inr (inD _ (by decide +kernel))⟩
      · exact ⟨_, rfl, .inr (inD _ (by decide +kernel))⟩
      · exact ⟨_, rfl, .inr (inD _ (by decide +kernel))⟩
      · exact ⟨_, rfl, .inr (inD _ (by decide +kernel))⟩
  have k8 := M8.kp _ _ nd.1 nd.2 k7
  have M := M7.trans M8
  clear hv w7 w5' w6 k7 k6 k5 k4 w5 g4 g1 g3 e3 e4 e5 e6 M8 M7 hs3 hs2 hs1 perm yl
  have N8 := N.mv M
  refine ⟨fun σ H' => ∃ a g x6 x7 x8 x9, σ = [some (.ref d), some (.ref nm), some (.int most), some (.ref p), some (.str x), some (.ref a), x6, x7, x8, x9] ∧ H' a = some (.lst g) ∧ a ≠ d ∧ a ≠ L ∧ (∃ ks, kindsFor x g.length = some ks ∧ All2T argOk2 ks g) ∧ g.length ≤ 6 ∧ Mv3 d L H H', ?_, fun σ H9 hm => ?_⟩
  · walk_at "vc"
    refine ite2 (fun ex => ?_) (fun nf => ite2 (fun ex => ?_) (fun nx => ?_))
    · refine ⟨_, rfl, L, M.dl, by decide, by decide, fun v H9 v0 v1 M9 => ?_⟩
      obtain ⟨m, hm⟩ : ∃ m : Nat, 1 + v = (m : Int) := ⟨(1 + v).toNat, by omega⟩
      refine ⟨_, _, rfl, rfl, _, rfl, by omega, by omega, fun D1 hD1 => ?_⟩
      have oD := M9.dl.off hD1
      rw [hm]
      refine lc_range (lo := 0) (n := m) (fun i H' => ∃ g, H' D1 = some (.lst g) ∧ g.length = i ∧ All2T argOk2 (List.replicate i "number") g ∧ Mv3 d L H9 H') ⟨[], upd_same, rfl, trivial, Mv3.of_ex M9.dl (Ex.new hD1)⟩ (fun t H10 ht hI => ?_) (fun H10 hI => ?_)
      · obtain ⟨g, h1, h2, h3, M10⟩ := hI
        walk_at "vc"
        refine ⟨sz_le (by simp), fun q0 hq0 => ?_⟩
        have w0 : upd H10 q0 (.lst [.int 3, .int 10, .int 36]) q0 = some (.lst [.int 3, .int 10, .int 36]) := upd_same
        have h1' := Ex.new hq0 (o := .lst [.int 3, .int 10, .int 36]) _ _ h1
        have oq := M10.dl.off hq0
        have M11 := M10.new hq0 (o := .lst [.int 3, .int 10, .int 36])
        generalize upd H10 q0 (.lst [.int 3, .int 10, .int 36]) = H11 at *
        refine ⟨L, M11.dl, by decide, by decide, fun j H12 j0 j1 M12 => ?_⟩
        obtain ⟨k, rfl⟩ : ∃ k : Nat, j = (k : Int) := ⟨j.toNat, by omega⟩
        obtain ⟨b, hb, b0, b1⟩ : ∃ b : Int, ([.int 3, .int 10, .int 36] : List V)[k]? = some (.int b) ∧ 0 < b ∧ b ≤ 36 := by
          match k, (by omega : k < 3) with
          | 0, _ => exact ⟨3, rfl, by decide, by decide⟩
          | 1, _ => exact ⟨10, rfl, by decide, by decide⟩
          | 2, _ => exact ⟨36, rfl, by decide, by decide⟩
        refine ⟨_, _, sq_of (M12.kp _ _ oq.1 oq.2 w0), atI_nat hb, L, M12.dl, b0, by omega, fun f H13 f0 f1 M13 => ?_⟩
        refine ⟨g, M13.kp _ _ oD.1 oD.2 (M12.kp _ _ oD.1 oD.2 h1'), sz_lt (by omega), g ++ [.int f], upd_same, by rw [List.length_append, h2]; rfl, ?_, ((M11.trans M12).trans M13).mut hD1 oD.1 oD.2⟩
        rw [List.replicate_succ']
        exact h3.snoc ⟨.inr ⟨rfl, f, rfl, f0, reprOk (by omega) (by omega)⟩, f0, by omega⟩
      · obtain ⟨g, h1, h2, h3, M10⟩ := hI
        refine ⟨D1, rfl, g, h1, oD.1, oD.2, ⟨List.replicate m "number", ?_, h3⟩, by omega, (M.trans M9).trans M10⟩
        rw [ex, h2]
        unfold kindsFor
        rw [if_pos rfl, if_neg (by omega)]
    · refine ⟨L, M.dl, .inl ⟨nm, _, rfl, N8.1, N.2.1, N.2.2.1, by rw [List.length_map]; exact N.2.2.2.1, by rw [List.length_map]; exact N.2.2.2.2.1, fun v H9 hv M9 => ?_⟩⟩
      obtain ⟨y, hy, rfl⟩ := List.mem_map.mp hv
      refine ⟨L, M9.dl, by decide, by decide, fun f H10 f0 f1 M10 => ⟨sz_le (by simp), fun a ha => ?_⟩⟩
      have oa := M10.dl.off ha
      refine ⟨_, upd_same, oa.1, oa.2, ⟨["name", "number"], ?_, ⟨.inl ⟨rfl, y, rfl, (N.2.2.2.2.2 y hy).name⟩, (N.2.2.2.2.2 y hy).1⟩, ⟨.inr ⟨rfl, f, rfl, f0, reprOk (by omega) (by omega)⟩, f0, by omega⟩, trivial⟩, by simp, ((M.trans M9).trans M10).new ha⟩
      rw [ex]
      show deedTab.lookup ("**" : Str) = _
      decide +kernel
    · refine ⟨sz_le (by simp), fun a ha => ?_⟩
      have oa := M.dl.off ha
      obtain ⟨z, hz⟩ := hx.resolve_left nf
      have hks := kinds_tab _ hz nx
      have hzl := kinds_len _ hz
      have hn := kinds_fig _ hz
      have k9 := Ex.new ha (o := .lst []) _ _ k8
      have w9 : upd H8 a (.lst []) a = some (.lst []) := upd_same
      have M9 := M.new ha (o := .lst [])
      have haH := M.free ha
      generalize upd H8 a (.lst []) = H9 at *
      refine ⟨.ref p, rfl, .str x, rfl, p, .str z, rfl, ?_, z, rfl, ?_⟩
      · have := DGet.k (k := .inr x) k9
        rw [valV_as (kinds_at _ hz)] at this
        exact this
      refine for_it walk_str (fun i σ H' => ∃ x6 x7, σ = [some (.ref d), some (.ref nm), some (.int most), some (.ref p), some (.str x), some (.ref a), x6, x7, none, none] ∧ ∃ g, H' a = some (.lst g) ∧ g.length = i ∧ All2T argOk2 ((z.cps.toList.map kOf).take i) g ∧ Mv3 d L H H') ⟨_, _, rfl, [], w9, rfl, trivial, M9⟩ (fun _ _ _ _ _ => trivial) (fun t v σ H10 H11 ht hP y => ?_) (fun σ H10 hP => ?_)
      · obtain ⟨rfl, c, hc, rfl⟩ := y
        obtain ⟨x6, x7, rfl, g, h1, h2, h3, M10⟩ := hP
        walk_at "vc"
        refine ⟨sz_le (by simp), fun q0 hq0 => ?_⟩
        have w0 : upd H11 q0 (.tup [.str "figure", .str "first", .str "last"]) q0 = some (.tup [.str "figure", .str "first", .str "last"]) := upd_same
        have h1' := Ex.new hq0 (o := .tup [.str "figure", .str "first", .str "last"]) _ _ h1
        have M11 := M10.new hq0 (o := .tup [.str "figure", .str "first", .str "last"])
        generalize upd H11 q0 (.tup [.str "figure", .str "first", .str "last"]) = H12 at *
        have hk1 : (z.cps.toList.map kOf)[t]? = some (kOf c) := by
          rw [List.getElem?_map, Array.getElem?_toList, hc]; rfl
        have hg : g.length < 1000 := by
          have : z.cps.size ≤ 2 := hzl
          omega
        have add : ∀ v, argOk2 (kOf c) v → All2T argOk2 ((z.cps.toList.map kOf).take (t + 1)) (g ++ [v]) := fun v hv => by
          rw [List.take_add_one, hk1]
          exact h3.snoc hv
        refine ⟨q0, _, rfl, .inr (st_of w0), rfl, rfl, _, rfl, ite2 (fun _ => ?_) (fun _ => ?_)⟩
        all_goals
          refine ⟨L, M11.dl, by omega, by omega, fun f H13 f0 f1 M13 => ?_⟩
          have h1'' := M13.kp _ _ oa.1 oa.2 h1'
          refine ⟨.inl ⟨rfl, _, sq_of h1''⟩, ite2 (fun ek => ?_) (fun ek => ?_)⟩
          · refine ⟨g, h1'', sz_lt (by omega), g ++ [.int f], upd_same, by rw [List.length_append, h2]; rfl, add _ ?_, (M11.trans M13).mut haH oa.1 oa.2⟩
            unfold kOf
            rw [if_pos ek]
            exact ⟨.inr ⟨rfl, f, rfl, f0, reprOk (by omega) (by omega)⟩, f0, by omega⟩
          · have N13 := N.mv (M11.trans M13)
            refine ⟨L, M13.dl, .inl ⟨nm, _, rfl, N13.1, N.2.1, N.2.2.1, by rw [List.length_map]; exact N.2.2.2.1, by rw [List.length_map]; exact N.2.2.2.2.1, fun v H14 hv M14 => ?_⟩⟩
            obtain ⟨y, hy, rfl⟩ := List.mem_map.mp hv
            refine ⟨g, M14.kp _ _ oa.1 oa.2 h1'', sz_lt (by omega), g ++ [.str y], upd_same, by rw [List.length_append, h2]; rfl, add _ ?_, ((M11.trans M13).trans M14).mut haH oa.1 oa.2⟩
            unfold kOf
            rw [if_neg ek]
            exact ⟨.inl ⟨rfl, y, rfl, (N.2.2.2.2.2 y hy).name⟩, (N.2.2.2.2.2 y hy).1⟩
      · obtain ⟨x6, x7, rfl, g, h1, h2, h3, M10⟩ := hP
        refine ⟨a, g, _, _, _, _, rfl, h1, oa.1, oa.2, ⟨z.cps.toList.map kOf, ?_, ?_⟩, ?_, M10⟩
        · unfold kindsFor
          rw [if_neg nf]
          exact hks
        · rw [List.take_of_length_le (by rw [List.length_map]; simp)] at h3
          exact h3
        · have : z.cps.size ≤ 2 := hzl
          omega
  · obtain ⟨a, g, x6, x7, x8, x9, rfl, ha, ad, aL, hk, gl, M9⟩ := hm
    walk_at "vc"
    refine ⟨L, M9.dl, .inl ⟨nm, _, rfl, (N.mv M9).1, N.2.1, N.2.2.1, by rw [List.length_map]; exact N.2.2.2.1, by rw [List.length_map]; exact N.2.2.2.2.1, fun v H10 hv M10 => ?_⟩⟩
    obtain ⟨y, hy, rfl⟩ := List.mem_map.mp hv
    refine ⟨g, .inl ⟨sq_of (M10.kp _ _ ad aL ha), fun l hl => ⟨sz_le (by simp), fun r hr => q y x g _ _ (((M9.trans M10).new hl).new hr) ⟨r, l, rfl, st_of upd_same, st_of (Ex.new hr _ _ upd_same)⟩ ?_ ?_⟩⟩⟩
    · obtain ⟨ks, e1, e2⟩ := hk
      unfold RowM.ok
      exact ⟨(N.2.2.2.2.2 y hy).name, ⟨ks, e1, e2.imp fun _ _ z => z.1⟩, by omega⟩
    · obtain ⟨ks, e1, e2⟩ := hk
      unfold RowM.sm
      refine ⟨(N.2.2.2.2.2 y hy).1, ?_, gl, fun v hv => ?_⟩
      · rcases hx with rfl | ⟨z, hz⟩
        · decide
        · exact deeds_len _ hz
      · obtain ⟨i, hi⟩ := List.mem_iff_getElem?.mp hv
        obtain ⟨k, _, ok⟩ := e2.at_ hi
        exact ok.2
end
end My
set_option Elab.async false
set_option linter.all false
set_option maxRecDepth 100000
set_option maxHeartbeats 4000000
set_option exponentiation.threshold 5000
namespace My
open PySem PySem.Spec PyProof.Rows L2 Evl
local macro_rules | `(tactic| walk_at "st") => `(tactic| simp only [L2.start, List.map_cons, List.map_nil, List.length_cons, List.length_nil, Nat.reduceAdd, Nat.reduceSub, List.replicate_succ, List.replicate_zero, List.cons_append, List.nil_append, cxOf, List.append_nil])
local macro_rules | `(tactic| walk_at "vc") => `(tactic| try simp only [tSeq, tAsg, tOp, tUn, tVar, tC, tNil, tCons, gName, rI, rI0, rU, tRet, tIfS, tNot, tAnd, tOr, tB, tTest, tCB, tCall, tAndV, tOrV, tNotV, tNext, tNever, tIf, tChain, tYes, tPart, tNoPart, tPar, tDrop, q_isi, q_vn, q_vb, q_vi, q_vs, kb1, kb2, kb3, kb4, kb5, kb6, kb7, kb8, q_int1, q_int2, q_min, q_max, q_repr, tLst, tTup, rEq, rNe, q_sii, q_sss, q_sbb, q_snn, q_sns, q_ssn, q_ix, q_sl, tSl, tBM, tBM0, q_app, q_pop, gSub, rSetL, L2.wipe, eq_self, decide_true, decide_false, tRevL,
  List.getElem?_cons_succ, List.getElem?_cons_zero, List.set_cons_succ, List.set_cons_zero, Option.some.injEq, exists_eq_left', exists_eq_left, V.int.injEq, V.bl.injEq, V.ref.injEq, V.str.injEq, List.cons.injEq, and_true, true_and, List.append_nil, List.nil_append, List.cons_append, exists_and_left, and_assoc, if_true, if_false, Bool.not_true, Bool.not_false, Bool.false_eq_true, Bool.true_eq_false, reduceIte, tRevL, tPar3, tRevT, tUnl, tCKw, forall_const, Bool.not_eq_true', decide_eq_true_eq, decide_eq_false_iff_not])
section
variable {P : Program} {w : World} {K : PySem.W.Frag} {mg : Str → Option Value} {base : Heap}
variable {a_is_integer a_is_number a_is_name a_are_rows a_texts a_needed a_fits a_is_of a_inner a_flat a_names_in a_bare a_named a_law_deal a_law_draw a_law_pick a_law_words a_law_kinds a_law_put a_law_ask a_law_count a_law_rows a_law_ask_text a_law_lines a_law_all_lines a_law_ask_of a_law_row_of a_law_deed a_law_begun a_law_alike a_law a_NoRow_init a_InvalidRow_init a_Put_init a_Put_eq a_Put_str a_If_init a_If_eq a_If_str a_Times_init a_Times_eq a_Times_str a_Stop_eq a_Stop_str a_Ask_init a_Ask_eq a_Ask_str a_Not_init a_Not_eq a_Not_str a_Program_init a_Program_str a_Sheet_init a_Sheet_drop a_Sheet_made a_Sheet_len a_Sheet_getitem a_Sheet_setitem a_Sheet_iadd a_NoRow a_InvalidRow a_Put a_If a_Times a_Stop a_Ask a_Not a_Row a_Test a_Program a_Sheet a_DEEDS a_SIGNS a_WORDS a_If_init_d0 a_Program_init_d0 a_Sheet_init_d0 : Addr} {d_is_integer d_is_number d_is_name d_are_rows d_texts d_needed d_fits d_is_of d_inner d_flat d_names_in d_bare d_named d_law_deal d_law_draw d_law_pick d_law_words d_law_kinds d_law_put d_law_ask d_law_count d_law_rows d_law_ask_text d_law_lines d_law_all_lines d_law_ask_of d_law_row_of d_law_deed d_law_begun d_law_alike d_law d_NoRow_init d_InvalidRow_init d_Put_init d_Put_eq d_Put_str d_If_init d_If_eq d_If_str d_Times_init d_Times_eq d_Times_str d_Stop_eq d_Stop_str d_Ask_init d_Ask_eq d_Ask_str d_Not_init d_Not_eq d_Not_str d_Program_init d_Program_str d_Sheet_init d_Sheet_drop d_Sheet_made d_Sheet_len d_Sheet_getitem d_Sheet_setitem d_Sheet_iadd : FuncData}
/-! ### a test -/
def sp_law_ask (K : PySem.W.Frag) (n : Nat) : Sp
  | [.ref d, .ref nm, .int down], H, Q, _ => ∃ L ns, Deal3 d L H ∧ Names d L nm ns H ∧ 0 ≤ down ∧ down < n ∧ ∀ t v H', Mv3 d L H H' → TestT K H' t v → t.ok → t.sm → (t.dep : Int) ≤ down → Q v H'
  | _, _, _, _ => False
theorem TestT.ex {K : PySem.W.Frag} {H H' : Hp} {t : TestM} {v : V} (e : Ex H H') (h : TestT K H t v) : TestT K H' t v := h.kp (Kp.of_ex e)
theorem words_tab : ∀ x ∈ (["same", "less", "divides", "mirrored", "unlike"] : List Str), (x, if x ∈ (["same", "less", "divides"] : List Str) then 2 else 1) ∈ wordTab := by decide +kernel
theorem word_len : ∀ p ∈ wordTab, p.1.length ≤ 8 := by decide +kernel
theorem inV_mem (x : Str) (ns : List Str) : inV (.str x) (ns.map V.str) = decide (x ∈ ns) := by
  rw [inV_strs]
  by_cases h : x ∈ ns
  · rw [decide_eq_true h]; exact List.contains_iff_mem.mpr h
  · rw [decide_eq_false h]; exact Bool.eq_false_iff.mpr fun e => h (List.contains_iff_mem.mp e)
theorem ok_law_ask (T : Txt w K mg a_is_integer a_is_number a_is_name a_are_rows a_texts a_needed a_fits a_is_of a_inner a_flat a_names_in a_bare a_named a_law_deal a_law_draw a_law_pick a_law_words a_law_kinds a_law_put a_law_ask a_law_count a_law_rows a_law_ask_text a_law_lines a_law_all_lines a_law_ask_of a_law_row_of a_law_deed a_law_begun a_law_alike a_law a_NoRow_init a_InvalidRow_init a_Put_init a_Put_eq a_Put_str a_If_init a_If_eq a_If_str a_Times_init a_Times_eq a_Times_str a_Stop_eq a_Stop_str a_Ask_init a_Ask_eq a_Ask_str a_Not_init a_Not_eq a_Not_str a_Program_init a_Program_str a_Sheet_init a_Sheet_drop a_Sheet_made a_Sheet_len a_Sheet_getitem a_Sheet_setitem a_Sheet_iadd a_NoRow a_InvalidRow a_Put a_If a_Times a_Stop a_Ask a_Not a_Row a_Test a_Program a_Sheet a_DEEDS a_SIGNS a_WORDS a_If_init_d0 a_Program_init_d0 a_Sheet_init_d0 d_is_integer d_is_number d_is_name d_are_rows d_texts d_needed d_fits d_is_of d_inner d_flat d_names_in d_bare d_named d_law_deal d_law_draw d_law_pick d_law_words d_law_kinds d_law_put d_law_ask d_law_count d_law_rows d_law_ask_text d_law_lines d_law_all_lines d_law_ask_of d_law_row_of d_law_deed d_law_begun d_law_alike d_law d_NoRow_init d_InvalidRow_init d_Put_init d_Put_eq d_Put_str d_If_init d_If_eq d_If_str d_Times_init d_Times_eq d_Times_str d_Stop_eq d_Stop_str d_Ask_init d_Ask_eq d_Ask_str d_Not_init d_Not_eq d_Not_str d_Program_init d_Program_str d_Sheet_init d_Sheet_drop d_Sheet_made d_Sheet_len d_Sheet_getitem d_Sheet_setitem d_Sheet_iadd) : ∀ n : Nat, FnOk P w K mg base CX0 (n + 2) a_law_ask d_law_ask ["_law_deal_here", "_law_names", "_law_down"] (sp_law_ask K n)
  | 0 => by
    refine T.F_law_ask.ok sc_law_ask (fun vs H Q E h => ?_) (fun cdv A outer s H vs Q E hr h => ?_)
    · unfold sp_law_ask at h; split at h; rfl; exact h.elim
    · unfold sp_law_ask at h; split at h
      case h_2 => exact h.elim
      obtain ⟨L, ns, _, _, h1, h2, _⟩ := h
      exact absurd h2 (by omega)
  | n + 1 => by
    have G_law_ask := ok_law_ask T n
    have G_law_draw := ok_law_draw (P := P) (w := w) (base := base) T
    have G_law_pick := ok_law_pick (P := P) (w := w) (base := base) T
    refine T.F_law_ask.ok sc_law_ask (fun vs H Q E h => ?_) (fun cdv A outer s H vs Q E hr h => ?_)
    · unfold sp_law_ask at h; split at h; rfl; exact h.elim
    unfold sp_law_ask at h; split at h
    case h_2 => exact h.elim
    rename_i d nm down
    obtain ⟨L, ns, D, N, d0, d1, q⟩ := h
    refine ⟨_, (Evl.pss_cut (ps_if (PW.pt (pw_and (pt_cmpR op_gt (pv 2) pe_int (nomark _)) (pw_and1 (pt_cmpR op_eq (pe_call G_law_draw (hr.mono (by omega)) (by rfl) T.g_law_draw T.F_law_draw.kp T.b_law_draw .nil pass0 (pa_cons (pv 0) (pa_cons pe_int pa_nil))) pe_int (nomark _)))))
      (pss_one (ps_ret (pe_tup (pa_cons pe_str (pa_cons (pe_call G_law_ask (hr.mono (by omega)) (by rfl) T.g_law_ask T.F_law_ask.kp T.b_law_ask .nil pass0 (pa_cons (pv 0) (pa_cons (pv 1) (pa_cons (pe_op op_sub (pv 2) pe_int) pa_nil)))) pa_nil)))))
      pss_nil)
      (pss_cons (ps_set (i := 3) sc_law_ask.nd rfl (by first | exact .inl rfl | exact .inr rfl) (pe_call G_law_pick (hr.mono (by omega)) (by rfl) T.g_law_pick T.F_law_pick.kp T.b_law_pick .nil pass0 (pa_cons (pv 0) (pa_cons (pe_lst (pa_cons pe_str (pa_cons pe_str (pa_cons pe_str (pa_cons pe_str (pa_cons pe_str pa_nil)))))) pa_nil))))
      (pss_cons (ps_setLc (i := 4) (own := [("_law_k", 5)]) (g := gName 5) (by rfl) sc_law_ask.nd rfl rfl (sw_true rfl rfl rfl (by decide +kernel)) (pi_range1 (by rfl) T.z_range (pa_cons (pe_op op_add pe_int (pe_callTy call_intM (by rfl) T.z_int (by decide +kernel) (pa_cons (pe_cmpR op_in_seq (pv 3) (pe_tup (pa_cons pe_str (pa_cons pe_str (pa_cons pe_str pa_nil)))) (by rfl)) pa_nil))) pa_nil)) (blkOk_by (own := [("_law_k", 5)]) (N := N_law_ask) (sc := defScope s_law_ask) (by decide +kernel)) (fun _ _ _ _ _ => (pg_name (i := 5) sc_law_ask.nd rfl (by first | exact .inl rfl | exact .inr rfl))) (fun _ _ _ _ _ => pts_nil) (fun _ _ _ _ _ => (pe_call G_law_pick (hr.mono (by omega)) (by rfl) T.g_law_pick T.F_law_pick.kp T.b_law_pick .nil pass0 (pa_cons (pv 0) (pa_cons (pv 1) pa_nil)))))
      (pss_one (ps_ret (pe_tup (pa_cons pe_str (pa_cons (pv 3) (pa_cons (pe_callTy call_tuple_of (by rfl) T.z_tuple (by decide +kernel) (pa_cons (pv 4) pa_nil)) pa_nil))))))))), ?_⟩
    walk_at "st"
    walk_at "vc"
    refine ⟨fun σ H' => σ = [some (.ref d), some (.ref nm), some (.int down), none, none, none] ∧ Mv3 d L H H', ?_, fun σ H1 hm => ?_⟩
    · walk_at "vc"
      refine ite2 (fun h0 => ?_) (fun _ => Mv3.refl D)
      refine ⟨L, D, by decide, by decide, fun v H1 v0 v1 M1 => ?_⟩
      refine ⟨rfl, ite2 (fun _ => ?_) (fun _ => M1)⟩
      refine ⟨L, ns, M1.dl, N.mv M1, by omega, by omega, fun t v H2 M2 ht ok sm hd => ⟨sz_le (by simp), fun p hp => q (.not t) _ _ ((M1.trans M2).new hp) ⟨p, v, rfl, st_of upd_same, ht.ex (Ex.new hp)⟩ ok sm ?_⟩⟩
      rw [TestM.dep]
      omega
    · obtain ⟨rfl, M⟩ := hm
      walk_at "vc"
      refine ⟨sz_le (by simp), fun p hp => ?_⟩
      have op := M.dl.off hp
      have w0 : upd H1 p (.lst ((["same", "less", "divides", "mirrored", "unlike"] : List Str).map V.str)) p = some (.lst ((["same", "less", "divides", "mirrored", "unlike"] : List Str).map V.str)) := upd_same
      have M1 := M.new hp (o := .lst ((["same", "less", "divides", "mirrored", "unlike"] : List Str).map V.str))
      refine ⟨L, M1.dl, .inl ⟨p, _, rfl, w0, op.1, op.2, by simp, by simp, fun v H2 hv M2 => ?_⟩⟩
      obtain ⟨x, hx, rfl⟩ := List.mem_map.mp hv
      have ht := words_tab x hx
      have M3 := M1.trans M2
      clear hx hv w0 M1 M2
      walk_at "vc"
      refine ⟨.str x, rfl, sz_le (by simp), fun q0 hq0 => ⟨q0, _, rfl, .inr (st_of (xs := (["same", "less", "divides"] : List Str).map V.str) upd_same), rfl, rfl, ?_⟩⟩
      have M4 := M3.new hq0 (o := .tup ((["same", "less", "divides"] : List Str).map V.str))
      have eB : (if false then !inV (.str x) ((["same", "less", "divides"] : List Str).map V.str) else inV (.str x) ((["same", "less", "divides"] : List Str).map V.str)) = decide (x ∈ (["same", "less", "divides"] : List Str)) := by
        rw [if_neg (by decide), inV_mem]
      obtain ⟨m, hm, htm, m1, m2⟩ : ∃ m : Nat, (1 : Int) + (if decide (x ∈ (["same", "less", "divides"] : List Str)) then 1 else 0) = (m : Int) ∧ (x, m) ∈ wordTab ∧ 1 ≤ m ∧ m ≤ 2 := by
        by_cases hx : x ∈ (["same", "less", "divides"] : List Str)
        · rw [if_pos hx] at ht
          exact ⟨2, by rw [decide_eq_true hx]; rfl, ht, by decide, by decide⟩
        · rw [if_neg hx] at ht
          exact ⟨1, by rw [decide_eq_false hx]; rfl, ht, by decide, by decide⟩
      refine ⟨1, _, rfl, rfl, (m : Int), ?_, by omega, by omega, fun D0 hD0 => ?_⟩
      · rw [← hm, ← eB]
      have oD := M4.dl.off hD0
      have hD0H := M4.free hD0
      refine lc_range (lo := 0) (n := m) (fun i H' => ∃ xs : List Str, H' D0 = some (.lst (xs.map V.str)) ∧ xs.length = i ∧ (∀ x ∈ xs, wOk x) ∧ Mv3 d L H H') ⟨[], upd_same, rfl, by simp, M4.new hD0⟩ (fun t H4 ht hI => ?_) (fun H4 hI => ?_)
      · obtain ⟨xs, h1, h2, h3, M5⟩ := hI
        walk_at "vc"
        refine ⟨L, M5.dl, .inl ⟨nm, _, rfl, (N.mv M5).1, N.2.1, N.2.2.1, by rw [List.length_map]; exact N.2.2.2.1, by rw [List.length_map]; exact N.2.2.2.2.1, fun v H5 hv M6 => ?_⟩⟩
        obtain ⟨y, hy, rfl⟩ := List.mem_map.mp hv
        refine ⟨_, M6.kp _ _ oD.1 oD.2 h1, sz_lt (by rw [List.length_map]; omega), xs ++ [y], by rw [upd_same, List.map_append]; rfl, by rw [List.length_append, h2]; rfl, fun z hz => ?_, (M5.trans M6).mut hD0H oD.1 oD.2⟩
        rcases List.mem_append.mp hz with hz | hz
        · exact h3 z hz
        · rw [List.mem_singleton.mp hz]; exact N.2.2.2.2.2 y hy
      · obtain ⟨xs, h1, h2, h3, M5⟩ := hI
        refine ⟨D0, rfl, _, .inl ⟨sq_of h1, fun l hl => ⟨sz_le (by simp), fun r hr => q (.ask x xs) _ _ ((M5.new hl).new hr) ⟨r, l, rfl, st_of upd_same, st_of (Ex.new hr _ _ upd_same)⟩ ⟨by rw [h2]; exact htm, fun z hz => (h3 z hz).name⟩ ⟨word_len _ htm, fun z hz => (h3 z hz).1⟩ ?_⟩⟩⟩
        rw [TestM.dep]
        omega
end
end My
set_option Elab.async false
set_option linter.all false
set_option maxRecDepth 100000
set_option maxHeartbeats 4000000
set_option exponentiation.threshold 5000
namespace My
open PySem PySem.Spec PyProof.Rows L2 Evl
local macro_rules | `(tactic| walk_at "st") => `(tactic| simp only [L2.start, List.map_cons, List.map_nil, List.length_cons, List.length_nil, Nat.reduceAdd, Nat.reduceSub, List.replicate_succ, List.replicate_zero, List.cons_append, List.nil_append, cxOf, List.append_nil])
local macro_rules | `(tactic| walk_at "vc") => `(tactic| try simp only [tSeq, tAsg, tOp, tUn, tVar, tC, tNil, tCons, gName, rI, rI0, rU, tRet, tIfS, tNot, tAnd, tOr, tB, tTest, tCB, tCall, tAndV, tOrV, tNotV, tNext, tNever, tIf, tChain, tYes, tPart, tNoPart, tPar, tDrop, q_isi, q_vn, q_vb, q_vi, q_vs, kb1, kb2, kb3, kb4, kb5, kb6, kb7, kb8, q_int1, q_int2, q_min, q_max, q_repr, tLst, tTup, rEq, rNe, q_sii, q_sss, q_sbb, q_snn, q_sns, q_ssn, q_ix, q_sl, tSl, tBM, tBM0, q_app, q_pop, gSub, rSetL, L2.wipe, eq_self, decide_true, decide_false, tRevL,
  List.getElem?_cons_succ, List.getElem?_cons_zero, List.set_cons_succ, List.set_cons_zero, Option.some.injEq, exists_eq_left', exists_eq_left, V.int.injEq, V.bl.injEq, V.ref.injEq, V.str.injEq, List.cons.injEq, and_true, true_and, List.append_nil, List.nil_append, List.cons_append, exists_and_left, and_assoc, if_true, if_false, Bool.not_true, Bool.not_false, Bool.false_eq_true, Bool.true_eq_false, reduceIte, tRevL, tPar3, tRevT, tUnl, tCKw, forall_const, Bool.not_eq_true', decide_eq_true_eq, decide_eq_false_iff_not])
section
variable {P : Program} {w : World} {K : PySem.W.Frag} {mg : Str → Option Value} {base : Heap}
variable {a_is_integer a_is_number a_is_name a_are_rows a_texts a_needed a_fits a_is_of a_inner a_flat a_names_in a_bare a_named a_law_deal a_law_draw a_law_pick a_law_words a_law_kinds a_law_put a_law_ask a_law_count a_law_rows a_law_ask_text a_law_lines a_law_all_lines a_law_ask_of a_law_row_of a_law_deed a_law_begun a_law_alike a_law a_NoRow_init a_InvalidRow_init a_Put_init a_Put_eq a_Put_str a_If_init a_If_eq a_If_str a_Times_init a_Times_eq a_Times_str a_Stop_eq a_Stop_str a_Ask_init a_Ask_eq a_Ask_str a_Not_init a_Not_eq a_Not_str a_Program_init a_Program_str a_Sheet_init a_Sheet_drop a_Sheet_made a_Sheet_len a_Sheet_getitem a_Sheet_setitem a_Sheet_iadd a_NoRow a_InvalidRow a_Put a_If a_Times a_Stop a_Ask a_Not a_Row a_Test a_Program a_Sheet a_DEEDS a_SIGNS a_WORDS a_If_init_d0 a_Program_init_d0 a_Sheet_init_d0 : Addr} {d_is_integer d_is_number d_is_name d_are_rows d_texts d_needed d_fits d_is_of d_inner d_flat d_names_in d_bare d_named d_law_deal d_law_draw d_law_pick d_law_words d_law_kinds d_law_put d_law_ask d_law_count d_law_rows d_law_ask_text d_law_lines d_law_all_lines d_law_ask_of d_law_row_of d_law_deed d_law_begun d_law_alike d_law d_NoRow_init d_InvalidRow_init d_Put_init d_Put_eq d_Put_str d_If_init d_If_eq d_If_str d_Times_init d_Times_eq d_Times_str d_Stop_eq d_Stop_str d_Ask_init d_Ask_eq d_Ask_str d_Not_init d_Not_eq d_Not_str d_Program_init d_Program_str d_Sheet_init d_Sheet_drop d_Sheet_made d_Sheet_len d_Sheet_getitem d_Sheet_setitem d_Sheet_iadd : FuncData}
/-! ### how many rows -/
mutual
def RowM.cnt : RowM → Nat
  | .stop | .put .. => 1
  | .times _ rs => 1 + RowM.cnts rs
  | .ifr _ rs os => 1 + (RowM.cnts rs + RowM.cnts os)
def RowM.cnts : List RowM → Nat
  | [] => 0
  | r :: rs => r.cnt + RowM.cnts rs
end
theorem cnts_sum : ∀ rs : List RowM, ((RowM.cnts rs : Nat) : Int) = (rs.map fun r => (r.cnt : Int)).sum
  | [] => by rw [RowM.cnts]; rfl
  | r :: rs => by rw [RowM.cnts, List.map_cons, List.sum_cons, ← cnts_sum rs]; omega
theorem cnts_app : ∀ as bs : List RowM, RowM.cnts (as ++ bs) = RowM.cnts as + RowM.cnts bs
  | [], bs => by rw [List.nil_append, RowM.cnts]; omega
  | a :: as, bs => by rw [List.cons_append, RowM.cnts, RowM.cnts, cnts_app as bs]; omega
theorem cnt_pos (r : RowM) : 1 ≤ r.cnt := by cases r <;> rw [RowM.cnt] <;> omega
theorem cnts_len : ∀ rs : List RowM, rs.length ≤ RowM.cnts rs
  | [] => Nat.zero_le _
  | r :: rs => by have := cnt_pos r; have := cnts_len rs; rw [RowM.cnts, List.length_cons]; omega
theorem RowTs.len {K : PySem.W.Frag} {H : Hp} : ∀ {rs : List RowM} {vs : List V}, RowTs K H rs vs → vs.length = rs.length
  | [], _, h => by rw [RowTs] at h; rw [h]; rfl
  | r :: rs, _, h => by
    obtain ⟨v, ws, rfl, _, h3⟩ := h
    rw [List.length_cons, List.length_cons, RowTs.len h3]
theorem RowTs.at_ {K : PySem.W.Frag} {H : Hp} : ∀ {rs : List RowM} {vs : List V} {i : Nat} {v : V}, RowTs K H rs vs → vs[i]? = some v → ∃ r, rs[i]? = some r ∧ RowT K H r v
  | [], _, _, _, h, e => by rw [RowTs] at h; rw [h] at e; simp at e
  | r :: rs, _, 0, _, h, e => by
    obtain ⟨v, ws, rfl, h2, h3⟩ := h
    cases e
    exact ⟨r, rfl, h2⟩
  | r :: rs, _, i + 1, _, h, e => by
    obtain ⟨v, ws, rfl, h2, h3⟩ := h
    rw [List.getElem?_cons_succ] at e
    obtain ⟨r', e', h'⟩ := RowTs.at_ h3 e
    exact ⟨r', by rw [List.getElem?_cons_succ]; exact e', h'⟩
theorem RowTs.app {K : PySem.W.Frag} {H : Hp} : ∀ {rs os : List RowM} {vs ws : List V}, RowTs K H rs vs → RowTs K H os ws → RowTs K H (rs ++ os) (vs ++ ws)
  | [], _, _, _, h, k => by rw [RowTs] at h; rw [h]; exact k
  | r :: rs, os, _, ws, h, k => by
    obtain ⟨v, us, rfl, h2, h3⟩ := h
    exact ⟨v, us ++ ws, rfl, h2, RowTs.app h3 k⟩
theorem RowTs.one {K : PySem.W.Frag} {H : Hp} {r : RowM} {v : V} (h : RowT K H r v) : RowTs K H [r] [v] := ⟨v, [], rfl, h, by rw [RowTs]⟩
theorem deps_app : ∀ as bs : List RowM, RowM.deps (as ++ bs) = max (RowM.deps as) (RowM.deps bs)
  | [], bs => by rw [List.nil_append, RowM.deps]; omega
  | a :: as, bs => by rw [List.cons_append, RowM.deps, RowM.deps, deps_app as bs]; omega
theorem deps_at : ∀ {rs : List RowM} {i : Nat} {r : RowM}, rs[i]? = some r → r.dep ≤ RowM.deps rs
  | [], _, _, e => by simp at e
  | r :: rs, 0, _, e => by cases e; rw [RowM.deps]; omega
  | r :: rs, i + 1, x, e => by rw [List.getElem?_cons_succ] at e; have := deps_at e; rw [RowM.deps]; omega
theorem oks_app : ∀ {as bs : List RowM}, RowM.oks as → RowM.oks bs → RowM.oks (as ++ bs)
  | [], _, _, h => h
  | a :: as, bs, h, k => by rw [RowM.oks] at h; rw [List.cons_append, RowM.oks]; exact ⟨h.1, oks_app h.2 k⟩
theorem sms_app : ∀ {as bs : List RowM}, RowM.sms as → RowM.sms bs → RowM.sms (as ++ bs)
  | [], _, _, h => h
  | a :: as, bs, h, k => by rw [RowM.sms] at h; rw [List.cons_append, RowM.sms]; exact ⟨h.1, sms_app h.2 k⟩
theorem oks_at2 : ∀ {rs : List RowM} {i : Nat} {r : RowM}, RowM.oks rs → rs[i]? = some r → r.ok
  | [], _, _, _, e => by simp at e
  | r :: rs, 0, _, h, e => by cases e; rw [RowM.oks] at h; exact h.1
  | r :: rs, i + 1, x, h, e => by rw [List.getElem?_cons_succ] at e; rw [RowM.oks] at h; exact oks_at2 h.2 e
theorem catA_of {K : PySem.W.Frag} {H : Hp} {a b : Addr} {xs ys : List V} {Q : VK} (ha : SqT K H a xs) (hb : SqT K H b ys) (hz : xs.length + ys.length ≤ sizeLine) (q : ∀ p H', Ex H H' → SqT K H' p (xs ++ ys) → Q (.ref p) H') : rCatA K (.ref a) (.ref b) H Q := by
  refine ⟨a, b, xs, ys, rfl, rfl, ha, hb, hz, fun e => ?_, fun _ e => ?_, fun _ _ p hp => q p _ (Ex.new hp) (st_of upd_same)⟩
  · subst e; exact q b H (Ex.refl H) hb
  · subst e; exact q a H (Ex.refl H) (by rw [List.append_nil]; exact ha)
def sp_law_count (K : PySem.W.Frag) (n : Nat) : Sp
  | [v], H, Q, _ => ∃ r, RowT K H r v ∧ r.ok ∧ r.dep < n ∧ ∀ H', Ex H H' → Q (.int (r.cnt : Nat)) H'
  | _, _, _, _ => False
theorem RowT.ex {K : PySem.W.Frag} {H H' : Hp} {r : RowM} {v : V} (e : Ex H H') (h : RowT K H r v) : RowT K H' r v := h.kp (Kp.of_ex e)
theorem RowTs.ex {K : PySem.W.Frag} {H H' : Hp} {r : List RowM} {v : List V} (e : Ex H H') (h : RowTs K H r v) : RowTs K H' r v := h.kp (Kp.of_ex e)
theorem ok_law_count (T : Txt w K mg a_is_integer a_is_number a_is_name a_are_rows a_texts a_needed a_fits a_is_of a_inner a_flat a_names_in a_bare a_named a_law_deal a_law_draw a_law_pick a_law_words a_law_kinds a_law_put a_law_ask a_law_count a_law_rows a_law_ask_text a_law_lines a_law_all_lines a_law_ask_of a_law_row_of a_law_deed a_law_begun a_law_alike a_law a_NoRow_init a_InvalidRow_init a_Put_init a_Put_eq a_Put_str a_If_init a_If_eq a_If_str a_Times_init a_Times_eq a_Times_str a_Stop_eq a_Stop_str a_Ask_init a_Ask_eq a_Ask_str a_Not_init a_Not_eq a_Not_str a_Program_init a_Program_str a_Sheet_init a_Sheet_drop a_Sheet_made a_Sheet_len a_Sheet_getitem a_Sheet_setitem a_Sheet_iadd a_NoRow a_InvalidRow a_Put a_If a_Times a_Stop a_Ask a_Not a_Row a_Test a_Program a_Sheet a_DEEDS a_SIGNS a_WORDS a_If_init_d0 a_Program_init_d0 a_Sheet_init_d0 d_is_integer d_is_number d_is_name d_are_rows d_texts d_needed d_fits d_is_of d_inner d_flat d_names_in d_bare d_named d_law_deal d_law_draw d_law_pick d_law_words d_law_kinds d_law_put d_law_ask d_law_count d_law_rows d_law_ask_text d_law_lines d_law_all_lines d_law_ask_of d_law_row_of d_law_deed d_law_begun d_law_alike d_law d_NoRow_init d_InvalidRow_init d_Put_init d_Put_eq d_Put_str d_If_init d_If_eq d_If_str d_Times_init d_Times_eq d_Times_str d_Stop_eq d_Stop_str d_Ask_init d_Ask_eq d_Ask_str d_Not_init d_Not_eq d_Not_str d_Program_init d_Program_str d_Sheet_init d_Sheet_drop d_Sheet_made d_Sheet_len d_Sheet_getitem d_Sheet_setitem d_Sheet_iadd) : ∀ n : Nat, FnOk P w K mg base CX0 (n + 1) a_law_count d_law_count ["_law_row"] (sp_law_count K n)
  | 0 => by
    refine T.F_law_count.ok sc_law_count (fun vs H Q E h => ?_) (fun cdv A outer s H vs Q E hr h => ?_)
    · unfold sp_law_count at h; split at h; rfl; exact h.elim
    · unfold sp_law_count at h; split at h
      case h_2 => exact h.elim
      obtain ⟨r, _, _, h1, _⟩ := h
      exact absurd h1 (by omega)
  | n + 1 => by
    have G_law_count := ok_law_count T n
    refine T.F_law_count.ok sc_law_count (fun vs H Q E h => ?_) (fun cdv A outer s H vs Q E hr h => ?_)
    · unfold sp_law_count at h; split at h; rfl; exact h.elim
    unfold sp_law_count at h; split at h
    case h_2 => exact h.elim
    rename_i v
    obtain ⟨r, hT, hok, hd, q⟩ := h
    refine ⟨_, (pss_cons (ps_if (pt_cmpR op_eq (pe_ix ix_tup (pv 0) pe_int (fun _ _ => rfl)) pe_str (nomark _))
      (pss_one (ps_ret (pe_op op_add pe_int (pe_callB (cr_sum rfl) (by rfl) T.z_sum (by decide +kernel) (pa_cons (pe_lc (own := [("_law_one", 1)]) (g := gName 1) (by rfl) sc_law_count.nd (pi_tup (pe_op op_catA (pe_ix ix_tup (pv 0) pe_int (fun _ _ => rfl)) (pe_ix ix_tup (pv 0) pe_int (fun _ _ => rfl)))) (blkOk_by (own := [("_law_one", 1)]) (N := N_law_count) (sc := defScope s_law_count) (by decide +kernel)) (fun _ _ _ _ _ => (pg_name (i := 1) sc_law_count.nd rfl (by first | exact .inl rfl | exact .inr rfl))) (fun _ _ _ _ _ => pts_nil) (fun _ _ _ _ _ => (pe_call G_law_count (hr.mono (by omega)) (by rfl) T.g_law_count T.F_law_count.kp T.b_law_count .nil pass0 (pa_cons (pv 1) pa_nil)))) pa_nil)))))
      pss_nil)
      (pss_one (ps_ret (pe_ifExp (pt_cmpR op_eq (pe_ix ix_tup (pv 0) pe_int (fun _ _ => rfl)) pe_str (nomark _)) (pe_op op_add pe_int (pe_callB (cr_sum rfl) (by rfl) T.z_sum (by decide +kernel) (pa_cons (pe_lc (own := [("_law_one", 1)]) (g := gName 1) (by rfl) sc_law_count.nd (pi_tup (pe_ix ix_tup (pv 0) pe_int (fun _ _ => rfl))) (blkOk_by (own := [("_law_one", 1)]) (N := N_law_count) (sc := defScope s_law_count) (by decide +kernel)) (fun _ _ _ _ _ => (pg_name (i := 1) sc_law_count.nd rfl (by first | exact .inl rfl | exact .inr rfl))) (fun _ _ _ _ _ => pts_nil) (fun _ _ _ _ _ => (pe_call G_law_count (hr.mono (by omega)) (by rfl) T.g_law_count T.F_law_count.kp T.b_law_count .nil pass0 (pa_cons (pv 1) pa_nil)))) pa_nil))) pe_int)))), ?_⟩
    walk_at "st"
    walk_at "vc"
    cases r with
    | stop =>
      obtain ⟨a, rfl, h1⟩ := hT
      refine ⟨a, _, _, _, rfl, rfl, h1, rfl, rfl, ?_⟩
      rw [if_neg (by decide +kernel)]
      refine ⟨a, _, _, _, rfl, rfl, h1, rfl, rfl, ?_⟩
      rw [if_neg (by decide +kernel)]
      exact q H (Ex.refl H)
    | put x dd g =>
      obtain ⟨a, b, rfl, h1, h2⟩ := hT
      refine ⟨a, _, _, _, rfl, rfl, h1, rfl, rfl, ?_⟩
      rw [if_neg (by decide +kernel)]
      refine ⟨a, _, _, _, rfl, rfl, h1, rfl, rfl, ?_⟩
      rw [if_neg (by decide +kernel)]
      exact q H (Ex.refl H)
    | times c rs =>
      obtain ⟨a, b, vs, rfl, h1, h2, h3⟩ := hT
      rw [RowM.ok] at hok
      rw [RowM.dep] at hd
      have hlen := h3.len
      refine ⟨a, _, _, _, rfl, rfl, h1, rfl, rfl, ?_⟩
      rw [if_neg (by decide +kernel)]
      refine ⟨a, _, _, _, rfl, rfl, h1, rfl, rfl, ?_⟩
      rw [if_pos rfl]
      refine ⟨.ref a, rfl, a, _, _, _, rfl, rfl, h1, rfl, b, rfl, ⟨_, h2⟩, fun D0 hD0 => ?_⟩
      refine lc_tup (xs := vs) (fun i H' => H' D0 = some (.lst (((rs.take i).map fun r => (r.cnt : Int)).map V.int)) ∧ Ex H H') ⟨upd_same, Ex.new hD0⟩ (fun i H' _ hP => (Kp.of_ex hP.2).sqt h2) (fun i v H' hv hP => ?_) (fun H' hP => ?_)
      · obtain ⟨r, hr, hrT⟩ := h3.at_ hv
        walk_at "vc"
        refine ⟨r, hrT.ex hP.2, oks_at2 hok.2.1 hr, by have := deps_at hr; omega, fun H2 e2 => ?_⟩
        refine ⟨_, e2 _ _ hP.1, sz_lt (by rw [List.length_map, List.length_map, List.length_take]; omega), ?_, (hP.2.trans e2).mut hD0⟩
        rw [upd_same, List.take_add_one, hr, List.map_append, List.map_append]
        rfl
      · obtain ⟨g1, e⟩ := hP
        rw [hlen, List.take_length] at g1
        refine ⟨D0, _, rfl, sq_of g1, _, rfl, ?_⟩
        rw [← cnts_sum]
        have := q H' e
        rw [RowM.cnt] at this
        simpa using this
    | ifr t rs os =>
      obtain ⟨a, u, b, c, vs, ws, rfl, h1, ht, h2, h3, h4, h5⟩ := hT
      rw [RowM.ok] at hok
      rw [RowM.dep] at hd
      have hlen := h3.len
      have hlen2 := h5.len
      refine ⟨a, _, _, _, rfl, rfl, h1, rfl, rfl, ?_⟩
      rw [if_pos rfl]
      refine ⟨.ref a, rfl, a, _, _, _, rfl, rfl, h1, rfl, .ref a, rfl, a, _, _, _, rfl, rfl, h1, rfl, ?_⟩
      refine catA_of h2 h4 (sz_le (by omega)) fun p0 H1 e1 hp0 => ⟨p0, rfl, ⟨_, hp0⟩, fun D0 hD0 => ?_⟩
      have h6 := h3.app h5
      have hl6 := h6.len
      have hok6 := oks_app hok.2.2.1 hok.2.2.2.2.1
      have hdep6 := deps_app rs os
      have hc6 := cnts_app rs os
      have hln : (rs ++ os).length ≤ 2000 := by rw [List.length_append]; omega
      generalize rs ++ os = ros at *
      refine lc_tup (xs := vs ++ ws) (fun i H' => H' D0 = some (.lst (((ros.take i).map fun r => (r.cnt : Int)).map V.int)) ∧ Ex H1 H') ⟨upd_same, Ex.new hD0⟩ (fun i H' _ hP => (Kp.of_ex hP.2).sqt hp0) (fun i v H' hv hP => ?_) (fun H' hP => ?_)
      · obtain ⟨r, hr, hrT⟩ := h6.at_ hv
        walk_at "vc"
        refine ⟨r, hrT.ex (e1.trans hP.2), oks_at2 hok6 hr, by have := deps_at hr; omega, fun H2 e2 => ?_⟩
        refine ⟨_, e2 _ _ hP.1, sz_lt (by rw [List.length_map, List.length_map, List.length_take]; omega), ?_, (hP.2.trans e2).mut hD0⟩
        rw [upd_same, List.take_add_one, hr, List.map_append, List.map_append]
        rfl
      · obtain ⟨g1, e⟩ := hP
        rw [hl6, List.take_length] at g1
        refine ⟨D0, _, rfl, sq_of g1, _, rfl, ?_⟩
        rw [← cnts_sum]
        have := q H' (e1.trans e)
        rw [RowM.cnt] at this
        simpa [hc6] using this
end
end My
set_option Elab.async false
set_option linter.all false
set_option maxRecDepth 100000
set_option maxHeartbeats 4000000
set_option exponentiation.threshold 5000
namespace My
open PySem PySem.Spec PyProof.Rows L2 Evl
local macro_rules | `(tactic| walk_at "st") => `(tactic| simp only [L2.start, List.map_cons, List.map_nil, List.length_cons, List.length_nil, Nat.reduceAdd, Nat.reduceSub, List.replicate_succ, List.replicate_zero, List.cons_append, List.nil_append, cxOf, List.append_nil])
local macro_rules | `(tactic| walk_at "vc") => `(tactic| try simp only [tSeq, tAsg, tOp, tUn, tVar, tC, tNil, tCons, gName, rI, rI0, rU, tRet, tIfS, tNot, tAnd, tOr, tB, tTest, tCB, tCall, tAndV, tOrV, tNotV, tNext, tNever, tIf, tChain, tYes, tPart, tNoPart, tPar, tDrop, q_isi, q_vn, q_vb, q_vi, q_vs, kb1, kb2, kb3, kb4, kb5, kb6, kb7, kb8, q_int1, q_int2, q_min, q_max, q_repr, tLst, tTup, rEq, rNe, q_sii, q_sss, q_sbb, q_snn, q_sns, q_ssn, q_ix, q_sl, tSl, tBM, tBM0, q_app, q_pop, gSub, rSetL, L2.wipe, eq_self, decide_true, decide_false, tRevL,
  List.getElem?_cons_succ, List.getElem?_cons_zero, List.set_cons_succ, List.set_cons_zero, Option.some.injEq, exists_eq_left', exists_eq_left, V.int.injEq, V.bl.injEq, V.ref.injEq, V.str.injEq, List.cons.injEq, and_true, true_and, List.append_nil, List.nil_append, List.cons_append, exists_and_left, and_assoc, if_true, if_false, Bool.not_true, Bool.not_false, Bool.false_eq_true, Bool.true_eq_false, reduceIte, tRevL, tPar3, tRevT, tUnl, tCKw, forall_const, Bool.not_eq_true', decide_eq_true_eq, decide_eq_false_iff_not])
section
variable {P : Program} {w : World} {K : PySem.W.Frag} {mg : Str → Option Value} {base : Heap}
variable {a_is_integer a_is_number a_is_name a_are_rows a_texts a_needed a_fits a_is_of a_inner a_flat a_names_in a_bare a_named a_law_deal a_law_draw a_law_pick a_law_words a_law_kinds a_law_put a_law_ask a_law_count a_law_rows a_law_ask_text a_law_lines a_law_all_lines a_law_ask_of a_law_row_of a_law_deed a_law_begun a_law_alike a_law a_NoRow_init a_InvalidRow_init a_Put_init a_Put_eq a_Put_str a_If_init a_If_eq a_If_str a_Times_init a_Times_eq a_Times_str a_Stop_eq a_Stop_str a_Ask_init a_Ask_eq a_Ask_str a_Not_init a_Not_eq a_Not_str a_Program_init a_Program_str a_Sheet_init a_Sheet_drop a_Sheet_made a_Sheet_len a_Sheet_getitem a_Sheet_setitem a_Sheet_iadd a_NoRow a_InvalidRow a_Put a_If a_Times a_Stop a_Ask a_Not a_Row a_Test a_Program a_Sheet a_DEEDS a_SIGNS a_WORDS a_If_init_d0 a_Program_init_d0 a_Sheet_init_d0 : Addr} {d_is_integer d_is_number d_is_name d_are_rows d_texts d_needed d_fits d_is_of d_inner d_flat d_names_in d_bare d_named d_law_deal d_law_draw d_law_pick d_law_words d_law_kinds d_law_put d_law_ask d_law_count d_law_rows d_law_ask_text d_law_lines d_law_all_lines d_law_ask_of d_law_row_of d_law_deed d_law_begun d_law_alike d_law d_NoRow_init d_InvalidRow_init d_Put_init d_Put_eq d_Put_str d_If_init d_If_eq d_If_str d_Times_init d_Times_eq d_Times_str d_Stop_eq d_Stop_str d_Ask_init d_Ask_eq d_Ask_str d_Not_init d_Not_eq d_Not_str d_Program_init d_Program_str d_Sheet_init d_Sheet_drop d_Sheet_made d_Sheet_len d_Sheet_getitem d_Sheet_setitem d_Sheet_iadd : FuncData}
/-! ### rows -/
theorem Kp.updL {H : Hp} {a : Addr} {xs ys : List V} (h : H a = some (.lst xs)) : Kp H (upd H a (.lst ys)) := fun b o no hb => by
  have e : b ≠ a := fun e => by rw [e, h] at hb; cases hb; exact no _ rfl
  rw [upd_ne e]; exact hb
theorem iteAnd {p q : Prop} [Decidable p] [Decidable q] {A B : Prop} (h1 : p → q → A) (h2 : B) : if p then (if q then A else B) else B := by
  by_cases hp : p
  · rw [if_pos hp]
    by_cases hq : q
    · rw [if_pos hq]; exact h1 hp hq
    · rw [if_neg hq]; exact h2
  · rw [if_neg hp]; exact h2
def sp_law_rows (K : PySem.W.Frag) (n : Nat) : Sp
  | [.ref d, .ref nm, .int room, .int down, .int most], H, Q, _ => ∃ L ns, Deal3 d L H ∧ Names d L nm ns H ∧ 0 ≤ room ∧ room ≤ 1000 ∧ 0 ≤ down ∧ down < n ∧ 0 ≤ most ∧ most < 2 ^ 100 ∧
      ∀ l rs vs H', Mv3 d L H H' → H l = none → H' l = some (.lst vs) → RowTs K H' rs vs → RowM.oks rs → RowM.sms rs → (RowM.deps rs : Int) ≤ down → (RowM.cnts rs : Int) ≤ room → Q (.ref l) H'
  | _, _, _, _ => False
def I_rw (K : PySem.W.Frag) (d L nm l : Addr) (room down most : Int) (H : Hp) (left : Int) (x8 : Option V) (σ : L2.St) (H' : Hp) : Prop := ∃ rs vs x7 x9 x10 x11 x12, σ = [some (.ref d), some (.ref nm), some (.int room), some (.int down), some (.int most), some (.ref l), some (.int left), x7, x8, x9, x10, x11, x12] ∧
  0 ≤ left ∧ H' l = some (.lst vs) ∧ RowTs K H' rs vs ∧ (RowM.oks rs ∧ RowM.sms rs) ∧ (RowM.deps rs : Int) ≤ down ∧ (RowM.cnts rs : Int) + left ≤ room ∧ Mv3 d L H H'
theorem ok_law_rows (T : Txt w K mg a_is_integer a_is_number a_is_name a_are_rows a_texts a_needed a_fits a_is_of a_inner a_flat a_names_in a_bare a_named a_law_deal a_law_draw a_law_pick a_law_words a_law_kinds a_law_put a_law_ask a_law_count a_law_rows a_law_ask_text a_law_lines a_law_all_lines a_law_ask_of a_law_row_of a_law_deed a_law_begun a_law_alike a_law a_NoRow_init a_InvalidRow_init a_Put_init a_Put_eq a_Put_str a_If_init a_If_eq a_If_str a_Times_init a_Times_eq a_Times_str a_Stop_eq a_Stop_str a_Ask_init a_Ask_eq a_Ask_str a_Not_init a_Not_eq a_Not_str a_Program_init a_Program_str a_Sheet_init a_Sheet_drop a_Sheet_made a_Sheet_len a_Sheet_getitem a_Sheet_setitem a_Sheet_iadd a_NoRow a_InvalidRow a_Put a_If a_Times a_Stop a_Ask a_Not a_Row a_Test a_Program a_Sheet a_DEEDS a_SIGNS a_WORDS a_If_init_d0 a_Program_init_d0 a_Sheet_init_d0 d_is_integer d_is_number d_is_name d_are_rows d_texts d_needed d_fits d_is_of d_inner d_flat d_names_in d_bare d_named d_law_deal d_law_draw d_law_pick d_law_words d_law_kinds d_law_put d_law_ask d_law_count d_law_rows d_law_ask_text d_law_lines d_law_all_lines d_law_ask_of d_law_row_of d_law_deed d_law_begun d_law_alike d_law d_NoRow_init d_InvalidRow_init d_Put_init d_Put_eq d_Put_str d_If_init d_If_eq d_If_str d_Times_init d_Times_eq d_Times_str d_Stop_eq d_Stop_str d_Ask_init d_Ask_eq d_Ask_str d_Not_init d_Not_eq d_Not_str d_Program_init d_Program_str d_Sheet_init d_Sheet_drop d_Sheet_made d_Sheet_len d_Sheet_getitem d_Sheet_setitem d_Sheet_iadd) : ∀ n : Nat, FnOk P w K mg base CX0 (n + 6) a_law_rows d_law_rows ["_law_deal_here", "_law_names", "_law_room", "_law_down", "_law_most"] (sp_law_rows K n)
  | 0 => by
    refine T.F_law_rows.ok sc_law_rows (fun vs H Q E h => ?_) (fun cdv A outer s H vs Q E hr h => ?_)
    · unfold sp_law_rows at h; split at h; rfl; exact h.elim
    · unfold sp_law_rows at h; split at h
      case h_2 => exact h.elim
      obtain ⟨L, ns, _, _, _, _, h1, h2, _⟩ := h
      exact absurd h2 (by omega)
  | n + 1 => by
    have G_law_rows := ok_law_rows T n
    have G_law_count := ok_law_count (P := P) (w := w) (base := base) T (n + 1)
    have G_law_ask := ok_law_ask (P := P) (w := w) (base := base) T 3
    have G_law_draw := ok_law_draw (P := P) (w := w) (base := base) T
    have G_law_put := ok_law_put (P := P) (w := w) (base := base) T
    refine T.F_law_rows.ok sc_law_rows (fun vs H Q E h => ?_) (fun cdv A outer s H vs Q E hr h => ?_)
    · unfold sp_law_rows at h; split at h; rfl; exact h.elim
    unfold sp_law_rows at h; split at h
    case h_2 => exact h.elim
    rename_i d nm room down most
    obtain ⟨L, ns, D, N, r0, r1, d0, d1, m0, m1, q⟩ := h
    refine ⟨_, (pss_cons (ps_par (i := 5) (j := 6) (by rfl) sc_law_rows.nd rfl rfl (by decide) rfl rfl (pa_cons (pe_lst pa_nil) (pa_cons (pv 2) pa_nil)) (by rfl))
      (Evl.pss_cut (ps_while PassesOwn.never (PW.pt (pw_and (pt_cmpR op_gt (pv 6) pe_int (nomark _)) (pw_and1 (pt_cmpR op_gt (pe_call G_law_draw (hr.mono (by omega)) (by rfl) T.g_law_draw T.F_law_draw.kp T.b_law_draw .nil pass0 (pa_cons (pv 0) (pa_cons pe_int pa_nil))) pe_int (nomark _)))))
      (pss_cons (ps_set (i := 7) sc_law_rows.nd rfl (by first | exact .inl rfl | exact .inr rfl) (pe_call G_law_draw (hr.mono (by omega)) (by rfl) T.g_law_draw T.F_law_draw.kp T.b_law_draw .nil pass0 (pa_cons (pv 0) (pa_cons pe_int pa_nil))))
      (pss_cons (ps_set (i := 8) sc_law_rows.nd rfl (by first | exact .inl rfl | exact .inr rfl) (pe_call G_law_put (hr.mono (by omega)) (by rfl) T.g_law_put T.F_law_put.kp T.b_law_put .nil pass0 (pa_cons (pv 0) (pa_cons (pv 1) (pa_cons (pv 4) pa_nil)))))
      (Evl.pss_cut (ps_if (PW.pt (pw_and (pt_cmpR op_eq (pv 7) pe_int (nomark _)) (pw_and1 (pt_cmpR op_lt (pv 6) pe_int (nomark _)))))
      (pss_one (ps_set (i := 8) sc_law_rows.nd rfl (by first | exact .inl rfl | exact .inr rfl) (pe_tup (pa_cons pe_str pa_nil))))
      (pss_one (ps_if (PW.pt (pw_and (pt_cmpR op_lt (pv 7) pe_int (nomark _)) (pw_and1 (pt_cmpR op_gt (pv 3) pe_int (nomark _)))))
      (pss_cons (ps_set (i := 9) sc_law_rows.nd rfl (by first | exact .inl rfl | exact .inr rfl) (pe_callTy call_tuple_of (by rfl) T.z_tuple (by decide +kernel) (pa_cons (pe_call G_law_rows (hr.mono (by omega)) (by rfl) T.g_law_rows T.F_law_rows.kp T.b_law_rows .nil pass0 (pa_cons (pv 0) (pa_cons (pv 1) (pa_cons (pe_op op_sub (pv 6) pe_int) (pa_cons (pe_op op_sub (pv 3) pe_int) (pa_cons (pv 4) pa_nil)))))) pa_nil)))
      (pss_cons (ps_set (i := 10) sc_law_rows.nd rfl (by first | exact .inl rfl | exact .inr rfl) (pe_op op_sub (pe_op op_sub (pv 6) pe_int) (pe_callB (cr_sum rfl) (by rfl) T.z_sum (by decide +kernel) (pa_cons (pe_lc (own := [("_law_one", 12)]) (g := gName 12) (by rfl) sc_law_rows.nd (pi_tup (pv 9)) (blkOk_by (own := [("_law_one", 12)]) (N := N_law_rows) (sc := defScope s_law_rows) (by decide +kernel)) (fun _ _ _ _ _ => (pg_name (i := 12) sc_law_rows.nd rfl (by first | exact .inl rfl | exact .inr rfl))) (fun _ _ _ _ _ => pts_nil) (fun _ _ _ _ _ => (pe_call G_law_count (hr.mono (by omega)) (by rfl) T.g_law_count T.F_law_count.kp T.b_law_count .nil pass0 (pa_cons (pv 12) pa_nil)))) pa_nil))))
      (pss_cons (ps_set (i := 8) sc_law_rows.nd rfl (by first | exact .inl rfl | exact .inr rfl) (pe_tup (pa_cons pe_str (pa_cons (pe_call G_law_draw (hr.mono (by omega)) (by rfl) T.g_law_draw T.F_law_draw.kp T.b_law_draw .nil pass0 (pa_cons (pv 0) (pa_cons pe_int pa_nil))) (pa_cons (pv 9) pa_nil)))))
      (pss_one (ps_if (pt_cmpR op_lt (pv 7) pe_int (nomark _))
      (pss_cons (ps_set (i := 11) sc_law_rows.nd rfl (by first | exact .inl rfl | exact .inr rfl) (pe_call G_law_ask (hr.mono (by omega)) (by rfl) T.g_law_ask T.F_law_ask.kp T.b_law_ask .nil pass0 (pa_cons (pv 0) (pa_cons (pv 1) (pa_cons pe_int pa_nil)))))
      (pss_one (ps_set (i := 8) sc_law_rows.nd rfl (by first | exact .inl rfl | exact .inr rfl) (pe_tup (pa_cons pe_str (pa_cons (pv 11) (pa_cons (pv 9) (pa_cons (pe_callTy call_tuple_of (by rfl) T.z_tuple (by decide +kernel) (pa_cons (pe_call G_law_rows (hr.mono (by omega)) (by rfl) T.g_law_rows T.F_law_rows.kp T.b_law_rows .nil pass0 (pa_cons (pv 0) (pa_cons (pv 1) (pa_cons (pv 10) (pa_cons (pe_op op_sub (pv 3) pe_int) (pa_cons (pv 4) pa_nil)))))) pa_nil)) pa_nil))))))))
      pss_nil)))))
      pss_nil)))
      (pss_cons (ps_expr (pe_bm PySem.F.plainAttrs_list PySem.F.slot_list_append PySem.F.type_list_append mt_appendM (pv 5) (pa_cons (pv 8) pa_nil)))
      (pss_one (ps_set (i := 6) sc_law_rows.nd rfl (by first | exact .inl rfl | exact .inr rfl) (pe_op op_sub (pv 6) (pe_call G_law_count (hr.mono (by omega)) (by rfl) T.g_law_count T.F_law_count.kp T.b_law_count .nil pass0 (pa_cons (pv 8) pa_nil))))))))))
      (pss_one (ps_ret (pv 5))))), ?_⟩
    walk_at "st"
    walk_at "vc"
    refine ⟨sz_le (by simp), fun l hl => ?_⟩
    have ol := D.off hl
    refine ⟨fun σ H' => ∃ left x8, I_rw K d L nm l room down most H left x8 σ H', ⟨fun m σ H' => ∃ left x8, m = left.toNat ∧ I_rw K d L nm l room down most H left x8 σ H', ⟨_, room, none, rfl, [], [], _, _, _, _, _, rfl, r0, upd_same, by rw [RowTs], ⟨by rw [RowM.oks]; trivial, by rw [RowM.sms]; trivial⟩, by rw [RowM.deps]; exact d0, by rw [RowM.cnts]; omega, Mv3.of_ex D (Ex.new hl)⟩, fun m σ H1 hw => ?_⟩, fun σ H1 hm => ?_⟩
    · obtain ⟨left, x8, rfl, rs, vs, x7, x9, x10, x11, x12, rfl, l0, h1, h2, h3, h4, h5, M⟩ := hw
      walk_at "vc"
      refine ite2 (fun hl0 => ?_) (fun _ => ⟨left, x8, rs, vs, x7, x9, x10, x11, x12, rfl, l0, h1, h2, h3, h4, h5, M⟩)
      refine ⟨L, M.dl, by decide, by decide, fun g H2 g0 g1 M2 => ?_⟩
      have Ma := M.trans M2
      have h1a := M2.kp _ _ ol.1 ol.2 h1
      have h2a := h2.kp (M2.kpx M.dl)
      refine ⟨g, rfl, ite2 (fun _ => ?_) (fun _ => ⟨left, x8, rs, vs, x7, x9, x10, x11, x12, rfl, l0, h1a, h2a, h3, h4, h5, Ma⟩)⟩
      refine ⟨fun σ H' => ∃ left' x8, left'.toNat < left.toNat ∧ I_rw K d L nm l room down most H left' x8 σ H', fun σ' H' ⟨left', x8, hlt, hI⟩ => ⟨_, hlt, left', rfl, x8, hI⟩, ?_⟩
      refine ⟨L, Ma.dl, by decide, by decide, fun form H3 f0 f1 M3 => ?_⟩
      have Mb := Ma.trans M3
      have h1b := M3.kp _ _ ol.1 ol.2 h1a
      have h2b := h2a.kp (M3.kpx Ma.dl)
      refine ⟨L, ns, Mb.dl, N.mv Mb, m0, m1, fun pn pd pg v H4 M4 hv okv smv => ?_⟩
      have Mc := Mb.trans M4
      have h1c := M4.kp _ _ ol.1 ol.2 h1b
      have h2c := h2b.kp (M4.kpx Mb.dl)
      have len1 : rs.length ≤ 1000 := by have := cnts_len rs; omega
      have hvl := h2.len
      clear h1 h2 h1a h2a h1b h2b M2 M3 M4 Ma Mb M
      refine ⟨fun σ H' => ∃ r v y9 y10 y11 y12, σ = [some (.ref d), some (.ref nm), some (.int room), some (.int down), some (.int most), some (.ref l), some (.int left), some (.int form), some v, y9, y10, y11, y12] ∧ RowT K H' r v ∧ r.ok ∧ r.sm ∧ (r.dep : Int) ≤ down ∧ (r.cnt : Int) ≤ left ∧ H' l = some (.lst vs) ∧ RowTs K H' rs vs ∧ Mv3 d L H H', ?_, fun σ H5 hm => ?_⟩
      · walk_at "vc"
        refine iteAnd (fun _ _ => ⟨sz_le (by simp), fun p hp => ⟨.stop, ⟨p, rfl, st_of upd_same⟩, by rw [RowM.ok]; trivial, by rw [RowM.sm]; trivial, by rw [RowM.dep]; exact d0, by rw [RowM.cnt]; omega, Ex.new hp _ _ h1c, h2c.ex (Ex.new hp), Mc.new hp⟩⟩) ?_
        refine iteAnd (fun _ hdn => ?_) ⟨_, hv, okv, smv, by rw [RowM.dep]; exact d0, by rw [RowM.cnt]; omega, h1c, h2c, Mc⟩
        refine ⟨L, ns, Mc.dl, N.mv Mc, by omega, by omega, by omega, by omega, m0, m1, fun l2 rs2 vs2 H5 M5 _ w2 T2 ok2 sm2 dep2 cnt2 => ?_⟩
        have h1d := M5.kp _ _ ol.1 ol.2 h1c
        have h2d := h2c.kp (M5.kpx Mc.dl)
        have Md := Mc.trans M5
        have len2 : rs2.length ≤ 1000 := by have := cnts_len rs2; omega
        have hvl2 := T2.len
        clear h1c h2c Mc M5
        refine ⟨l2, rfl, vs2, .inl ⟨sq_of w2, fun l3 hl3 => ?_⟩⟩
        have w3 : upd H5 l3 (.tup vs2) l3 = some (.tup vs2) := upd_same
        have h1e := Ex.new hl3 (o := .tup vs2) _ _ h1d
        have h2e := h2d.ex (Ex.new hl3 (o := .tup vs2))
        have T3 := T2.ex (Ex.new hl3 (o := .tup vs2))
        have Me := Md.new hl3 (o := .tup vs2)
        clear h1d h2d w2 T2 Md
        generalize upd H5 l3 (.tup vs2) = H6 at *
        refine ⟨.ref l3, rfl, l3, rfl, ⟨_, st_of w3⟩, fun D0 hD0 => ?_⟩
        refine lc_tup (xs := vs2) (fun i H' => H' D0 = some (.lst (((rs2.take i).map fun r => (r.cnt : Int)).map V.int)) ∧ Ex H6 H') ⟨upd_same, Ex.new hD0⟩ (fun i H' _ hP => st_of (hP.2 _ _ w3)) (fun i u H' hu hP => ?_) (fun H7 hP => ?_)
        · obtain ⟨r, hr, hrT⟩ := T3.at_ hu
          walk_at "vc"
          refine ⟨r, hrT.ex hP.2, oks_at2 ok2 hr, by have := deps_at hr; omega, fun H2 e2 => ?_⟩
          refine ⟨_, e2 _ _ hP.1, sz_lt (by rw [List.length_map, List.length_map, List.length_take]; omega), ?_, (hP.2.trans e2).mut hD0⟩
          rw [upd_same, List.take_add_one, hr, List.map_append, List.map_append]
          rfl
        obtain ⟨g1, e7⟩ := hP
        rw [hvl2, List.take_length] at g1
        refine ⟨D0, _, rfl, sq_of g1, _, rfl, ?_⟩
        rw [← cnts_sum]
        have h1f := e7 _ _ h1e
        have h2f := h2e.ex e7
        have T4 := T3.ex e7
        have w4 := e7 _ _ w3
        have Mf := Me.tex e7
        clear h1e h2e T3 w3 Me
        refine ⟨L, Mf.dl, by decide, by decide, fun c H8 c0 c1 M8 => ⟨sz_le (by simp), fun p hp => ?_⟩⟩
        obtain ⟨c, rfl⟩ : ∃ k : Nat, c = (k : Int) := ⟨c.toNat, by omega⟩
        have kp8 := M8.kpx Mf.dl
        have h1g := Ex.new hp (o := .tup [.str "times", .int c, .ref l3]) _ _ (M8.kp _ _ ol.1 ol.2 h1f)
        have h2g := (h2f.kp kp8).ex (Ex.new hp (o := .tup [.str "times", .int c, .ref l3]))
        have T5 := (T4.kp kp8).ex (Ex.new hp (o := .tup [.str "times", .int c, .ref l3]))
        have w5 := (kp8.trans (Kp.of_ex (Ex.new hp (o := .tup [.str "times", .int c, .ref l3])))).tup w4
        have wp : upd H8 p (.tup [.str "times", .int c, .ref l3]) p = some (.tup [.str "times", .int c, .ref l3]) := upd_same
        have Mg := (Mf.trans M8).new hp (o := .tup [.str "times", .int c, .ref l3])
        clear h1f h2f T4 w4 Mf M8 kp8
        generalize upd H8 p (.tup [.str "times", .int c, .ref l3]) = H9 at *
        refine ite2 (fun _ => ?_) (fun _ => ?_)
        · refine ⟨L, ns, Mg.dl, N.mv Mg, by decide, by decide, fun t u H10 M10 hTt htok htsm htd => ?_⟩
          have kp10 := M10.kpx Mg.dl
          have Mh := Mg.trans M10
          refine ⟨L, ns, Mh.dl, N.mv Mh, by omega, by omega, by omega, by omega, m0, m1, fun l4 rs4 vs4 H11 M11 _ w11 T11 ok11 sm11 dep11 cnt11 => ?_⟩
          have kp11 := kp10.trans (M11.kpx Mh.dl)
          have Mi := Mh.trans M11
          refine ⟨l4, rfl, vs4, .inl ⟨sq_of w11, fun l5 hl5 => ⟨sz_le (by simp), fun p2 hp2 => ?_⟩⟩⟩
          have e12 : Ex H11 (upd (upd H11 l5 (.tup vs4)) p2 (.tup [.str "if", u, .ref l3, .ref l5])) := (Ex.new hl5).trans (Ex.new hp2)
          have kp12 := kp11.trans (Kp.of_ex e12)
          have len4 : rs4.length ≤ 1000 := by have := cnts_len rs4; omega
          refine ⟨.ifr t rs2 rs4, ⟨p2, u, l3, l5, vs2, vs4, rfl, st_of upd_same, (hTt.kp (M11.kpx Mh.dl)).ex e12, st_of (kp12.tup w5), T5.kp kp12, st_of (Ex.new hp2 _ _ upd_same), T11.ex e12⟩, ?_, ?_, ?_, ?_, ?_, h2g.kp kp12, (Mi.new hl5).new hp2⟩
          · rw [RowM.ok]; exact ⟨htok, by omega, ok2, len2, ok11, len4⟩
          · rw [RowM.sm]; exact ⟨htsm, sm2, sm11⟩
          · rw [RowM.dep]; omega
          · rw [RowM.cnt]; omega
          · exact e12 _ _ (M11.kp _ _ ol.1 ol.2 (M10.kp _ _ ol.1 ol.2 h1g))
        · refine ⟨.times c rs2, ⟨p, l3, vs2, rfl, st_of wp, st_of w5, T5⟩, ?_, ?_, ?_, ?_, h1g, h2g, Mg⟩
          · rw [RowM.ok]; exact ⟨by omega, ok2, len2⟩
          · rw [RowM.sm]; exact sm2
          · rw [RowM.dep]; omega
          · rw [RowM.cnt]; omega
      · obtain ⟨r, v, y9, y10, y11, y12, rfl, hT, hok, hsm, hdep, hcnt, k1, k2, M5⟩ := hm
        walk_at "vc"
        have kpl : Kp H5 (upd H5 l (.lst (vs ++ [v]))) := Kp.updL k1
        have cp := cnt_pos r
        refine ⟨.inl ⟨rfl, _, sq_of k1⟩, vs, k1, sz_lt (by omega), r, hT.kp kpl, hok, by omega, fun H6 e6 => ⟨_, rfl, left - (r.cnt : Nat), by omega, some v, rs ++ [r], vs ++ [v], _, _, _, _, _, rfl, by omega, e6 _ _ upd_same, ?_, ?_, ?_, ?_, ?_⟩⟩
        · exact ((k2.kp kpl).app (RowTs.one (hT.kp kpl))).ex e6
        · exact ⟨oks_app h3.1 (by rw [RowM.oks, RowM.oks]; exact ⟨hok, trivial⟩), sms_app h3.2 (by rw [RowM.sms, RowM.sms]; exact ⟨hsm, trivial⟩)⟩
        · rw [deps_app, RowM.deps, RowM.deps]; omega
        · rw [cnts_app, RowM.cnts, RowM.cnts]; omega
        · exact (M5.mut hl ol.1 ol.2).tex e6
    · obtain ⟨left, x8, rs, vs, x7, x9, x10, x11, x12, rfl, l0, h1, h2, h3, h4, h5, M⟩ := hm
      walk_at "vc"
      exact q l rs vs H1 M hl h1 h2 h3.1 h3.2 h4 (by omega)
end
end My
set_option Elab.async false
set_option linter.all false
set_option maxRecDepth 100000
set_option maxHeartbeats 4000000
set_option exponentiation.threshold 5000
namespace My
open PySem PySem.Spec PyProof.Rows L2 Evl
local macro_rules | `(tactic| walk_at "st") => `(tactic| simp only [L2.start, List.map_cons, List.map_nil, List.length_cons, List.length_nil, Nat.reduceAdd, Nat.reduceSub, List.replicate_succ, List.replicate_zero, List.cons_append, List.nil_append, cxOf, List.append_nil])
local macro_rules | `(tactic| walk_at "vc") => `(tactic| try simp only [tSeq, tAsg, tOp, tUn, tVar, tC, tNil, tCons, gName, rI, rI0, rU, tRet, tIfS, tNot, tAnd, tOr, tB, tTest, tCB, tCall, tAndV, tOrV, tNotV, tNext, tNever, tIf, tChain, tYes, tPart, tNoPart, tPar, tDrop, q_isi, q_vn, q_vb, q_vi, q_vs, kb1, kb2, kb3, kb4, kb5, kb6, kb7, kb8, q_int1, q_int2, q_min, q_max, q_repr, tLst, tTup, rEq, rNe, q_sii, q_sss, q_sbb, q_snn, q_sns, q_ssn, q_ix, q_sl, tSl, tBM, tBM0, q_app, q_pop, gSub, rSetL, L2.wipe, eq_self, decide_true, decide_false, tRevL,
  List.getElem?_cons_succ, List.getElem?_cons_zero, List.set_cons_succ, List.set_cons_zero, Option.some.injEq, exists_eq_left', exists_eq_left, V.int.injEq, V.bl.injEq, V.ref.injEq, V.str.injEq, List.cons.injEq, and_true, true_and, List.append_nil, List.nil_append, List.cons_append, exists_and_left, and_assoc, if_true, if_false, Bool.not_true, Bool.not_false, Bool.false_eq_true, Bool.true_eq_false, reduceIte, tRevL, tPar3, tRevT, tUnl, tCKw, forall_const, Bool.not_eq_true', decide_eq_true_eq, decide_eq_false_iff_not])
/-! ### how long the texts of rows are -/
theorem num_len {i : Int} (h0 : 0 ≤ i) (h1 : i < 2 ^ 200) : (Str.ofString (toString i)).length ≤ 70 := by
  obtain ⟨n, rfl⟩ : ∃ n : Nat, i = (n : Int) := ⟨i.toNat, by omega⟩
  have hn : n < 10 ^ 70 := by have : (2 : Int) ^ 200 < 10 ^ 70 := by decide
                              omega
  have h2 := (Nat.length_repr_le_iff (n := n) (k := 70) (by decide)).mpr hn
  have e : toString (n : Int) = n.repr := rfl
  rw [e]
  unfold PySem.Str.length
  rw [PySem.Str.ofString_eq_toList]
  rw [Nat.repr_eq_ofList_toDigits] at h2
  simpa using h2
theorem arg_len {v : V} (h : argSm v) : (argT v).length ≤ 70 := by
  cases v with
  | str x => have : x.length ≤ 4 := h; show x.length ≤ 70; omega
  | int i => exact num_len h.1 (by have := h.2; omega)
  | _ => exact h.elim
theorem test_len : ∀ {t : TestM}, t.ok → t.sm → t.text.length ≤ 30 + 4 * t.dep
  | .ask w ns, ok, sm => by
    have e : TestM.text (.ask w ns) = Txt.join (Str.ofString " ") (w :: ns) := rfl
    have e2 := join_wt sp1 (ls := w :: ns) (by simp)
    rw [← e, wt_cons] at e2
    have hl : ns.length ≤ 2 := by
      have : ∀ p ∈ wordTab, p.2 ≤ 2 := by decide
      exact this _ ok.1
    have hw : wt ns ≤ 5 * ns.length := by
      have : ∀ ls : List Str, (∀ n ∈ ls, n.length ≤ 4) → wt ls ≤ 5 * ls.length := by
        intro ls
        induction ls with
        | nil => intro _; simp [wt]
        | cons a r ih => intro h; have := ih fun n hn => h n (List.mem_cons_of_mem _ hn); have := h a (by simp); rw [wt_cons, List.length_cons]; omega
      exact this _ sm.2
    have := sm.1
    rw [TestM.dep]
    omega
  | .not t, ok, sm => by
    have ih := test_len (t := t) ok sm
    have e : TestM.text (.not t) = Str.ofString "not " ++ t.text := rfl
    rw [e, str_len, TestM.dep, show (Str.ofString "not ").length = 4 by decide]
    omega
theorem put_len {n d : Str} {g : List V} (sm : RowM.sm (.put n d g)) : (putText n d g).length ≤ 700 := by
  unfold RowM.sm at sm
  obtain ⟨h1, h2, h3, h4⟩ := sm
  unfold putText
  split
  · split
    · rename_i a b
      have := arg_len (h4 a (by simp))
      have := arg_len (h4 b (by simp))
      simp only [str_len]
      have e1 : (Str.ofString " = ").length = 3 := by decide
      have e2 := sp1
      omega
    · decide
  · have e2 := join_wt sp1 (ls := n :: "=" :: d :: g.map argT) (by simp)
    rw [wt_cons, wt_cons, wt_cons] at e2
    have hw : wt (g.map argT) ≤ 71 * g.length := by
      have : ∀ ls : List V, (∀ v ∈ ls, argSm v) → wt (ls.map argT) ≤ 71 * ls.length := by
        intro ls
        induction ls with
        | nil => intro _; simp [wt]
        | cons a r ih => intro h; have := ih fun n hn => h n (List.mem_cons_of_mem _ hn); have := arg_len (h a (by simp)); rw [List.map_cons, wt_cons, List.length_cons]; omega
      exact this _ h4
    have : (Str.ofString "=").length = 1 := by decide
    omega
theorem end_len : (Str.ofString "end").length = 3 := by decide
theorem else_len : (Str.ofString "else").length = 4 := by decide
mutual
theorem lines_wt : ∀ r : RowM, r.ok → r.sm → wt r.lines ≤ 800 * r.cnt
  | .stop, _, _ => by rw [RowM.lines, RowM.cnt, wt_cons]; decide
  | .put n d g, _, sm => by
    have := put_len sm
    rw [RowM.lines, RowM.cnt, wt_cons, show wt [] = 0 from rfl]
    omega
  | .times c rs, ok, sm => by
    rw [RowM.ok] at ok
    rw [RowM.sm] at sm
    have ih := liness_wt rs ok.2.1 sm
    have := num_len (i := (c : Int)) (by omega) (by omega)
    rw [RowM.lines, RowM.cnt, wt_cons, wt_app, wt_cons, str_len, show wt [] = 0 from rfl, end_len, show (Str.ofString "times ").length = 6 by decide]
    omega
  | .ifr t rs os, ok, sm => by
    rw [RowM.ok] at ok
    rw [RowM.sm] at sm
    have ih := liness_wt rs ok.2.2.1 sm.2.1
    have ih2 := liness_wt os ok.2.2.2.2.1 sm.2.2
    have ht := test_len ok.1 sm.1
    rw [RowM.lines, RowM.cnt, wt_cons, wt_app, wt_app, wt_cons, str_len, elses_eq, show wt [] = 0 from rfl, end_len, show (Str.ofString "if ").length = 3 by decide]
    split
    · rw [show wt [] = 0 from rfl]; omega
    · rw [wt_cons, else_len]; omega
theorem liness_wt : ∀ rs : List RowM, RowM.oks rs → RowM.sms rs → wt (RowM.liness rs) ≤ 800 * RowM.cnts rs
  | [], _, _ => by rw [RowM.liness, RowM.cnts]; simp [wt]
  | r :: rs, ok, sm => by
    rw [RowM.oks] at ok
    rw [RowM.sms] at sm
    have h1 := lines_wt r ok.1 sm.1
    have h2 := liness_wt rs ok.2 sm.2
    rw [RowM.liness, RowM.cnts, wt_app]
    omega
end
end My
set_option Elab.async false
set_option linter.all false
set_option maxRecDepth 100000
set_option maxHeartbeats 4000000
set_option exponentiation.threshold 5000
namespace My
open PySem PySem.Spec PyProof.Rows L2 Evl
local macro_rules | `(tactic| walk_at "st") => `(tactic| simp only [L2.start, List.map_cons, List.map_nil, List.length_cons, List.length_nil, Nat.reduceAdd, Nat.reduceSub, List.replicate_succ, List.replicate_zero, List.cons_append, List.nil_append, cxOf, List.append_nil])
local macro_rules | `(tactic| walk_at "vc") => `(tactic| try simp only [tSeq, tAsg, tOp, tUn, tVar, tC, tNil, tCons, gName, rI, rI0, rU, tRet, tIfS, tNot, tAnd, tOr, tB, tTest, tCB, tCall, tAndV, tOrV, tNotV, tNext, tNever, tIf, tChain, tYes, tPart, tNoPart, tPar, tDrop, q_isi, q_vn, q_vb, q_vi, q_vs, kb1, kb2, kb3, kb4, kb5, kb6, kb7, kb8, q_int1, q_int2, q_min, q_max, q_repr, tLst, tTup, rEq, rNe, q_sii, q_sss, q_sbb, q_snn, q_sns, q_ssn, q_ix, q_sl, tSl, tBM, tBM0, q_app, q_pop, gSub, rSetL, L2.wipe, eq_self, decide_true, decide_false, tRevL,
  List.getElem?_cons_succ, List.getElem?_cons_zero, List.set_cons_succ, List.set_cons_zero, Option.some.injEq, exists_eq_left', exists_eq_left, V.int.injEq, V.bl.injEq, V.ref.injEq, V.str.injEq, List.cons.injEq, and_true, true_and, List.append_nil, List.nil_append, List.cons_append, exists_and_left, and_assoc, if_true, if_false, Bool.not_true, Bool.not_false, Bool.false_eq_true, Bool.true_eq_false, reduceIte, tRevL, tPar3, tRevT, tUnl, tCKw, forall_const, Bool.not_eq_true', decide_eq_true_eq, decide_eq_false_iff_not])
section
variable {P : Program} {w : World} {K : PySem.W.Frag} {mg : Str → Option Value} {base : Heap}
variable {a_is_integer a_is_number a_is_name a_are_rows a_texts a_needed a_fits a_is_of a_inner a_flat a_names_in a_bare a_named a_law_deal a_law_draw a_law_pick a_law_words a_law_kinds a_law_put a_law_ask a_law_count a_law_rows a_law_ask_text a_law_lines a_law_all_lines a_law_ask_of a_law_row_of a_law_deed a_law_begun a_law_alike a_law a_NoRow_init a_InvalidRow_init a_Put_init a_Put_eq a_Put_str a_If_init a_If_eq a_If_str a_Times_init a_Times_eq a_Times_str a_Stop_eq a_Stop_str a_Ask_init a_Ask_eq a_Ask_str a_Not_init a_Not_eq a_Not_str a_Program_init a_Program_str a_Sheet_init a_Sheet_drop a_Sheet_made a_Sheet_len a_Sheet_getitem a_Sheet_setitem a_Sheet_iadd a_NoRow a_InvalidRow a_Put a_If a_Times a_Stop a_Ask a_Not a_Row a_Test a_Program a_Sheet a_DEEDS a_SIGNS a_WORDS a_If_init_d0 a_Program_init_d0 a_Sheet_init_d0 : Addr} {d_is_integer d_is_number d_is_name d_are_rows d_texts d_needed d_fits d_is_of d_inner d_flat d_names_in d_bare d_named d_law_deal d_law_draw d_law_pick d_law_words d_law_kinds d_law_put d_law_ask d_law_count d_law_rows d_law_ask_text d_law_lines d_law_all_lines d_law_ask_of d_law_row_of d_law_deed d_law_begun d_law_alike d_law d_NoRow_init d_InvalidRow_init d_Put_init d_Put_eq d_Put_str d_If_init d_If_eq d_If_str d_Times_init d_Times_eq d_Times_str d_Stop_eq d_Stop_str d_Ask_init d_Ask_eq d_Ask_str d_Not_init d_Not_eq d_Not_str d_Program_init d_Program_str d_Sheet_init d_Sheet_drop d_Sheet_made d_Sheet_len d_Sheet_getitem d_Sheet_setitem d_Sheet_iadd : FuncData}
/-! ### the law's own lines -/
def sp_law_ask_text (K : PySem.W.Frag) (n : Nat) : Sp
  | [v], H, Q, _ => ∃ t, TestT K H t v ∧ t.ok ∧ t.sm ∧ t.dep < n ∧ t.dep ≤ 100 ∧ ∀ H', Ex H H' → Q (.str t.text) H'
  | _, _, _, _ => False
theorem ok_law_ask_text (T : Txt w K mg a_is_integer a_is_number a_is_name a_are_rows a_texts a_needed a_fits a_is_of a_inner a_flat a_names_in a_bare a_named a_law_deal a_law_draw a_law_pick a_law_words a_law_kinds a_law_put a_law_ask a_law_count a_law_rows a_law_ask_text a_law_lines a_law_all_lines a_law_ask_of a_law_row_of a_law_deed a_law_begun a_law_alike a_law a_NoRow_init a_InvalidRow_init a_Put_init a_Put_eq a_Put_str a_If_init a_If_eq a_If_str a_Times_init a_Times_eq a_Times_str a_Stop_eq a_Stop_str a_Ask_init a_Ask_eq a_Ask_str a_Not_init a_Not_eq a_Not_str a_Program_init a_Program_str a_Sheet_init a_Sheet_drop a_Sheet_made a_Sheet_len a_Sheet_getitem a_Sheet_setitem a_Sheet_iadd a_NoRow a_InvalidRow a_Put a_If a_Times a_Stop a_Ask a_Not a_Row a_Test a_Program a_Sheet a_DEEDS a_SIGNS a_WORDS a_If_init_d0 a_Program_init_d0 a_Sheet_init_d0 d_is_integer d_is_number d_is_name d_are_rows d_texts d_needed d_fits d_is_of d_inner d_flat d_names_in d_bare d_named d_law_deal d_law_draw d_law_pick d_law_words d_law_kinds d_law_put d_law_ask d_law_count d_law_rows d_law_ask_text d_law_lines d_law_all_lines d_law_ask_of d_law_row_of d_law_deed d_law_begun d_law_alike d_law d_NoRow_init d_InvalidRow_init d_Put_init d_Put_eq d_Put_str d_If_init d_If_eq d_If_str d_Times_init d_Times_eq d_Times_str d_Stop_eq d_Stop_str d_Ask_init d_Ask_eq d_Ask_str d_Not_init d_Not_eq d_Not_str d_Program_init d_Program_str d_Sheet_init d_Sheet_drop d_Sheet_made d_Sheet_len d_Sheet_getitem d_Sheet_setitem d_Sheet_iadd) : ∀ n : Nat, FnOk P w K mg base CX0 (n + 1) a_law_ask_text d_law_ask_text ["_law_test"] (sp_law_ask_text K n)
  | 0 => by
    refine T.F_law_ask_text.ok sc_law_ask_text (fun vs H Q E h => ?_) (fun cdv A outer s H vs Q E hr h => ?_)
    · unfold sp_law_ask_text at h; split at h; rfl; exact h.elim
    · unfold sp_law_ask_text at h; split at h
      case h_2 => exact h.elim
      obtain ⟨t, _, _, _, h1, _⟩ := h
      exact absurd h1 (by omega)
  | n + 1 => by
    have G_law_ask_text := ok_law_ask_text T n
    refine T.F_law_ask_text.ok sc_law_ask_text (fun vs H Q E h => ?_) (fun cdv A outer s H vs Q E hr h => ?_)
    · unfold sp_law_ask_text at h; split at h; rfl; exact h.elim
    unfold sp_law_ask_text at h; split at h
    case h_2 => exact h.elim
    rename_i v
    obtain ⟨t, hT, hok, hsm, hd, hd1, q⟩ := h
    refine ⟨_, (pss_one (ps_ret (pe_ifExp (pt_cmpR op_eq (pe_ix ix_tup (pv 0) pe_int (fun _ _ => rfl)) pe_str (nomark _)) (pe_op op_add_str pe_str (pe_call G_law_ask_text (hr.mono (by omega)) (by rfl) T.g_law_ask_text T.F_law_ask_text.kp T.b_law_ask_text .nil pass0 (pa_cons (pe_ix ix_tup (pv 0) pe_int (fun _ _ => rfl)) pa_nil))) (pe_bm PySem.F.plainAttrs_str PySem.F.slot_str_join PySem.F.type_str_join mt_join pe_str (pa_cons (pe_op op_cat (pe_lst (pa_cons (pe_ix ix_tup (pv 0) pe_int (fun _ _ => rfl)) pa_nil)) (pe_callTy call_list_of (by rfl) T.z_list (by decide +kernel) (pa_cons (pe_ix ix_tup (pv 0) pe_int (fun _ _ => rfl)) pa_nil))) pa_nil))))), ?_⟩
    walk_at "st"
    walk_at "vc"
    cases t with
    | not t =>
      obtain ⟨a, u, rfl, h1, h2⟩ := hT
      have hl := test_len (t := t) hok hsm
      rw [TestM.dep] at hd hd1
      refine ⟨a, _, _, _, rfl, rfl, h1, rfl, rfl, ?_⟩
      rw [if_pos rfl]
      exact ⟨a, _, _, _, rfl, rfl, h1, rfl, t, h2, hok, hsm, by omega, by omega, fun H' e => ⟨_, rfl, by rw [show (Str.ofString "not ").length = 4 by decide]; exact sz_le (by omega), q H' e⟩⟩
    | ask x ns =>
      obtain ⟨a, q0, rfl, h1, h2⟩ := hT
      have hl := test_len (t := .ask x ns) hok hsm
      refine ⟨a, _, _, _, rfl, rfl, h1, rfl, rfl, ?_⟩
      rw [if_neg (by decide +kernel)]
      have e1 : TestM.text (.ask x ns) = Txt.join (Str.ofString " ") (x :: ns) := rfl
      have e2 := join_wt sp1 (ls := x :: ns) (by simp)
      rw [wt_sum, ← e1] at e2
      have hls : (x :: ns).length ≤ 1000 := by omega
      rw [List.length_cons] at hls
      refine ⟨rfl, a, _, _, _, rfl, rfl, h1, rfl, sz_le (by simp), fun p hp => ?_⟩
      have ep := Ex.new hp (o := .lst [.str x])
      refine ⟨a, _, _, _, rfl, rfl, (Kp.of_ex ep).sqt h1, rfl, q0, rfl, _, .inr ((Kp.of_ex ep).sqt h2), fun l hl => ?_⟩
      have el := Ex.new hl (o := .lst (ns.map V.str))
      refine ⟨p, l, _, _, rfl, rfl, el _ _ upd_same, upd_same, sz_le (by simp; omega), fun r hr => ⟨r, rfl, x :: ns, .inl (sq_of upd_same), by rw [sp1]; omega, ?_⟩⟩
      rw [← e1]
      exact q _ ((ep.trans el).trans (Ex.new hr))
/-! ### lines -/
def sp_law_lines (K : PySem.W.Frag) (n : Nat) : Sp
  | [v], H, Q, _ => ∃ r, RowT K H r v ∧ r.ok ∧ r.sm ∧ r.dep < n ∧ r.cnt ≤ 1000 ∧ ∀ D H', Ex H H' → H D = none → H' D = some (.lst (r.lines.map V.str)) → Q (.ref D) H'
  | _, _, _, _ => False
def sp_law_all_lines (K : PySem.W.Frag) (n : Nat) : Sp
  | [.ref p], H, Q, _ => ∃ rs vs, (H p = some (.lst vs) ∨ SqT K H p vs) ∧ RowTs K H rs vs ∧ RowM.oks rs ∧ RowM.sms rs ∧ RowM.deps rs < n ∧ RowM.cnts rs ≤ 1000 ∧ ∀ D H', Ex H H' → H D = none → H' D = some (.lst ((RowM.liness rs).map V.str)) → Q (.ref D) H'
  | _, _, _, _ => False
theorem wt_len : ∀ ls : List Str, ls.length ≤ wt ls
  | [] => Nat.zero_le _
  | a :: r => by have := wt_len r; rw [wt_cons, List.length_cons]; omega
theorem liness_app : ∀ as bs : List RowM, RowM.liness (as ++ bs) = RowM.liness as ++ RowM.liness bs := by
  intro as bs
  rw [liness_eq, liness_eq, liness_eq, List.map_append, List.flatten_append]
theorem sms_at : ∀ {rs : List RowM} {i : Nat} {r : RowM}, RowM.sms rs → rs[i]? = some r → r.sm
  | [], _, _, _, e => by simp at e
  | r :: rs, 0, _, h, e => by cases e; rw [RowM.sms] at h; exact h.1
  | r :: rs, i + 1, x, h, e => by rw [List.getElem?_cons_succ] at e; rw [RowM.sms] at h; exact sms_at h.2 e
theorem cnts_at : ∀ {rs : List RowM} {i : Nat} {r : RowM}, rs[i]? = some r → r.cnt ≤ RowM.cnts rs
  | [], _, _, e => by simp at e
  | r :: rs, 0, _, e => by cases e; rw [RowM.cnts]; omega
  | r :: rs, i + 1, x, e => by rw [List.getElem?_cons_succ] at e; have := cnts_at e; rw [RowM.cnts]; omega
theorem take_lines (rs : List RowM) (i : Nat) {r : RowM} (h : rs[i]? = some r) : RowM.liness (rs.take (i + 1)) = RowM.liness (rs.take i) ++ r.lines := by
  rw [List.take_add_one, h, liness_app]
  simp [RowM.liness]
theorem wt_take (rs : List RowM) (i : Nat) : wt (RowM.liness (rs.take i)) ≤ wt (RowM.liness rs) := by
  conv => rhs; rw [← List.take_append_drop i rs, liness_app, wt_app]
  omega
theorem ok_law_all_lines (T : Txt w K mg a_is_integer a_is_number a_is_name a_are_rows a_texts a_needed a_fits a_is_of a_inner a_flat a_names_in a_bare a_named a_law_deal a_law_draw a_law_pick a_law_words a_law_kinds a_law_put a_law_ask a_law_count a_law_rows a_law_ask_text a_law_lines a_law_all_lines a_law_ask_of a_law_row_of a_law_deed a_law_begun a_law_alike a_law a_NoRow_init a_InvalidRow_init a_Put_init a_Put_eq a_Put_str a_If_init a_If_eq a_If_str a_Times_init a_Times_eq a_Times_str a_Stop_eq a_Stop_str a_Ask_init a_Ask_eq a_Ask_str a_Not_init a_Not_eq a_Not_str a_Program_init a_Program_str a_Sheet_init a_Sheet_drop a_Sheet_made a_Sheet_len a_Sheet_getitem a_Sheet_setitem a_Sheet_iadd a_NoRow a_InvalidRow a_Put a_If a_Times a_Stop a_Ask a_Not a_Row a_Test a_Program a_Sheet a_DEEDS a_SIGNS a_WORDS a_If_init_d0 a_Program_init_d0 a_Sheet_init_d0 d_is_integer d_is_number d_is_name d_are_rows d_texts d_needed d_fits d_is_of d_inner d_flat d_names_in d_bare d_named d_law_deal d_law_draw d_law_pick d_law_words d_law_kinds d_law_put d_law_ask d_law_count d_law_rows d_law_ask_text d_law_lines d_law_all_lines d_law_ask_of d_law_row_of d_law_deed d_law_begun d_law_alike d_law d_NoRow_init d_InvalidRow_init d_Put_init d_Put_eq d_Put_str d_If_init d_If_eq d_If_str d_Times_init d_Times_eq d_Times_str d_Stop_eq d_Stop_str d_Ask_init d_Ask_eq d_Ask_str d_Not_init d_Not_eq d_Not_str d_Program_init d_Program_str d_Sheet_init d_Sheet_drop d_Sheet_made d_Sheet_len d_Sheet_getitem d_Sheet_setitem d_Sheet_iadd) (n lv : Nat) (G_law_lines : FnOk P w K mg base CX0 lv a_law_lines d_law_lines ["_law_row"] (sp_law_lines K n)) : FnOk P w K mg base CX0 (lv + 1) a_law_all_lines d_law_all_lines ["_law_rows_here"] (sp_law_all_lines K n) := by
  refine T.F_law_all_lines.ok sc_law_all_lines (fun vs H Q E h => ?_) (fun cdv A outer s H vs Q E hr h => ?_)
  · unfold sp_law_all_lines at h; split at h; rfl; exact h.elim
  unfold sp_law_all_lines at h; split at h
  case h_2 => exact h.elim
  rename_i p
  obtain ⟨rs, vs, hS, hT, hok, hsm, hd, hc, q⟩ := h
  have hw := liness_wt rs hok hsm
  refine ⟨_, (pss_cons (ps_set (i := 1) sc_law_all_lines.nd rfl (by first | exact .inl rfl | exact .inr rfl) (pe_lst pa_nil))
      (Evl.pss_cut (ps_for PassesOwn.never rfl (pi_lt (pv 0)) (pg_name (i := 2) sc_law_all_lines.nd rfl (by first | exact .inl rfl | exact .inr rfl))
      (pss_one (ps_expr (pe_bm PySem.F.plainAttrs_list PySem.F.slot_list_extend PySem.F.type_list_extend mt_extend (pv 1) (pa_cons (pe_call G_law_lines (hr.mono (by omega)) (by rfl) T.g_law_lines T.F_law_lines.kp T.b_law_lines .nil pass0 (pa_cons (pv 2) pa_nil)) pa_nil)))))
      (pss_one (ps_ret (pv 1))))), ?_⟩
  walk_at "st"
  walk_at "vc"
  refine ⟨sz_le (by simp), fun D hD => ⟨fun σ H' => ∃ x, σ = [some (.ref p), some (.ref D), x] ∧ H' D = some (.lst ((RowM.liness rs).map V.str)) ∧ Ex H H', ?_, fun σ H' hm => ?_⟩⟩
  · refine ⟨.ref p, rfl, for_LT (xs := vs) (fun i σ H' => ∃ x, σ = [some (.ref p), some (.ref D), x] ∧ H' D = some (.lst ((RowM.liness (rs.take i)).map V.str)) ∧ Ex H H') ⟨_, rfl, by rw [List.take_zero, RowM.liness]; exact upd_same, Ex.new hD⟩ (hS.imp (fun hp i σ H' _ hv => sq_of (hv.choose_spec.2.2 _ _ hp)) (fun hp i σ H' _ hv => (Kp.of_ex hv.choose_spec.2.2).sqt hp)) (fun i v σ H' hi hv => ?_) (fun σ H' hv => ?_)⟩
    · obtain ⟨x, rfl, h1, h2⟩ := hv
      obtain ⟨r, hr, hrT⟩ := hT.at_ hi
      walk_at "vc"
      have hwr := lines_wt r (oks_at2 hok hr) (sms_at hsm hr)
      have hcr := cnts_at hr
      refine ⟨.inl ⟨rfl, _, sq_of h1⟩, r, hrT.ex h2, oks_at2 hok hr, sms_at hsm hr, by have := deps_at hr; omega, by omega, fun D1 H2 e2 _ w2 => ?_⟩
      have l1 := wt_len (RowM.liness (rs.take i))
      have l2 := wt_take rs i
      have l3 := wt_len r.lines
      refine ⟨D, D1, _, _, rfl, rfl, e2 _ _ h1, w2, by rw [List.length_map, List.length_map, sizeLine_eq]; omega, ?_, (h2.trans e2).mut hD⟩
      rw [upd_same, take_lines rs i hr, List.map_append]
    · obtain ⟨x, rfl, h1, h2⟩ := hv
      rw [hT.len, List.take_length] at h1
      exact ⟨_, rfl, h1, h2⟩
  · obtain ⟨x, rfl, h1, h2⟩ := hm
    walk_at "vc"
    exact q D H' h2 hD h1
theorem catL_of {H : Hp} {p q : Addr} {xs ys : List Str} {Q : VK} (hp : H p = some (.lst (xs.map V.str))) (hq : H q = some (.lst (ys.map V.str))) (hz : xs.length + ys.length ≤ 2000000) (k : ∀ r H', Ex H H' → H r = none → H' r = some (.lst ((xs ++ ys).map V.str)) → Q (.ref r) H') : rCat (.ref p) (.ref q) H Q :=
  ⟨p, q, _, _, rfl, rfl, hp, hq, by rw [List.length_map, List.length_map, sizeLine_eq]; omega, fun r hr => k r _ (Ex.new hr) hr (by rw [upd_same, List.map_append])⟩
theorem ok_law_lines (T : Txt w K mg a_is_integer a_is_number a_is_name a_are_rows a_texts a_needed a_fits a_is_of a_inner a_flat a_names_in a_bare a_named a_law_deal a_law_draw a_law_pick a_law_words a_law_kinds a_law_put a_law_ask a_law_count a_law_rows a_law_ask_text a_law_lines a_law_all_lines a_law_ask_of a_law_row_of a_law_deed a_law_begun a_law_alike a_law a_NoRow_init a_InvalidRow_init a_Put_init a_Put_eq a_Put_str a_If_init a_If_eq a_If_str a_Times_init a_Times_eq a_Times_str a_Stop_eq a_Stop_str a_Ask_init a_Ask_eq a_Ask_str a_Not_init a_Not_eq a_Not_str a_Program_init a_Program_str a_Sheet_init a_Sheet_drop a_Sheet_made a_Sheet_len a_Sheet_getitem a_Sheet_setitem a_Sheet_iadd a_NoRow a_InvalidRow a_Put a_If a_Times a_Stop a_Ask a_Not a_Row a_Test a_Program a_Sheet a_DEEDS a_SIGNS a_WORDS a_If_init_d0 a_Program_init_d0 a_Sheet_init_d0 d_is_integer d_is_number d_is_name d_are_rows d_texts d_needed d_fits d_is_of d_inner d_flat d_names_in d_bare d_named d_law_deal d_law_draw d_law_pick d_law_words d_law_kinds d_law_put d_law_ask d_law_count d_law_rows d_law_ask_text d_law_lines d_law_all_lines d_law_ask_of d_law_row_of d_law_deed d_law_begun d_law_alike d_law d_NoRow_init d_InvalidRow_init d_Put_init d_Put_eq d_Put_str d_If_init d_If_eq d_If_str d_Times_init d_Times_eq d_Times_str d_Stop_eq d_Stop_str d_Ask_init d_Ask_eq d_Ask_str d_Not_init d_Not_eq d_Not_str d_Program_init d_Program_str d_Sheet_init d_Sheet_drop d_Sheet_made d_Sheet_len d_Sheet_getitem d_Sheet_setitem d_Sheet_iadd) : ∀ n : Nat, n ≤ 90 → FnOk P w K mg base CX0 (2 * n + 11) a_law_lines d_law_lines ["_law_row"] (sp_law_lines K n)
  | 0, _ => by
    refine T.F_law_lines.ok sc_law_lines (fun vs H Q E h => ?_) (fun cdv A outer s H vs Q E hr h => ?_)
    · unfold sp_law_lines at h; split at h; rfl; exact h.elim
    · unfold sp_law_lines at h; split at h
      case h_2 => exact h.elim
      obtain ⟨t, _, _, _, h1, _⟩ := h
      exact absurd h1 (by omega)
  | n + 1, hn => by
    have G_law_all_lines := ok_law_all_lines T n _ (ok_law_lines T n (by omega))
    have G_law_ask_text := ok_law_ask_text (P := P) (w := w) (base := base) T 9
    refine T.F_law_lines.ok sc_law_lines (fun vs H Q E h => ?_) (fun cdv A outer s H vs Q E hr h => ?_)
    · unfold sp_law_lines at h; split at h; rfl; exact h.elim
    unfold sp_law_lines at h; split at h
    case h_2 => exact h.elim
    rename_i v
    obtain ⟨r, hT, hok, hsm, hd, hc, q⟩ := h
    have hw := lines_wt r hok hsm
    have hL : r.lines.length ≤ 800000 := by
      have hwl := wt_len r.lines
      omega
    clear hw
    refine ⟨_, (pss_cons (ps_if (pt_cmpR op_eq (pe_ix ix_tup (pv 0) pe_int (fun _ _ => rfl)) pe_str (nomark _))
      (pss_one (ps_ret (pe_lst (pa_cons pe_str pa_nil))))
      pss_nil)
      (Evl.pss_cut (ps_if (pt_cmpR op_eq (pe_ix ix_tup (pv 0) pe_int (fun _ _ => rfl)) pe_str (nomark _))
      (pss_cons (ps_setLc (i := 1) (own := [("_law_arg", 3)]) (g := gName 3) (by rfl) sc_law_lines.nd rfl rfl (sw_true rfl rfl rfl (by decide +kernel)) (pi_tup (pe_ix ix_tup (pv 0) pe_int (fun _ _ => rfl))) (blkOk_by (own := [("_law_arg", 3)]) (N := N_law_lines) (sc := defScope s_law_lines) (by decide +kernel)) (fun _ _ _ _ _ => (pg_name (i := 3) sc_law_lines.nd rfl (by first | exact .inl rfl | exact .inr rfl))) (fun _ _ _ _ _ => pts_nil) (fun _ _ _ _ _ => (pe_callTy call_strA (by rfl) T.z_str (by decide +kernel) (pa_cons (pv 3) pa_nil))))
      (pss_cons (ps_if (pt_cmpR op_in_seq (pe_ix ix_tup (pv 0) pe_int (fun _ _ => rfl)) (pe_tup (pa_cons pe_str (pa_cons pe_str (pa_cons pe_str (pa_cons pe_str (pa_cons pe_str pa_nil)))))) (by rfl))
      (pss_one (ps_ret (pe_lst (pa_cons (pe_op op_add_str (pe_op op_add_str (pe_op op_add_str (pe_op op_add_str (pe_op op_add_str (pe_op op_add_str (pe_ix ix_tup (pv 0) pe_int (fun _ _ => rfl)) pe_str) (pe_ix ix_listM (pv 1) pe_int (fun _ _ => rfl))) pe_str) (pe_ix ix_tup (pv 0) pe_int (fun _ _ => rfl))) pe_str) (pe_ix ix_listM (pv 1) pe_int (fun _ _ => rfl))) pa_nil))))
      pss_nil)
      (pss_one (ps_ret (pe_lst (pa_cons (pe_bm PySem.F.plainAttrs_str PySem.F.slot_str_join PySem.F.type_str_join mt_join pe_str (pa_cons (pe_op op_cat (pe_lst (pa_cons (pe_ix ix_tup (pv 0) pe_int (fun _ _ => rfl)) (pa_cons pe_str (pa_cons (pe_ix ix_tup (pv 0) pe_int (fun _ _ => rfl)) pa_nil)))) (pv 1)) pa_nil)) pa_nil))))))
      pss_nil)
      (pss_cons (ps_set (i := 2) sc_law_lines.nd rfl (by first | exact .inl rfl | exact .inr rfl) (pe_call G_law_all_lines (hr.mono (by omega)) (by rfl) T.g_law_all_lines T.F_law_all_lines.kp T.b_law_all_lines .nil pass0 (pa_cons (pe_ix ix_tup (pv 0) pe_int (fun _ _ => rfl)) pa_nil)))
      (pss_cons (ps_if (pt_cmpR op_eq (pe_ix ix_tup (pv 0) pe_int (fun _ _ => rfl)) pe_str (nomark _))
      (pss_one (ps_ret (pe_op op_cat (pe_op op_cat (pe_lst (pa_cons (pe_op op_add_str pe_str (pe_callTy call_strA (by rfl) T.z_str (by decide +kernel) (pa_cons (pe_ix ix_tup (pv 0) pe_int (fun _ _ => rfl)) pa_nil))) pa_nil)) (pv 2)) (pe_lst (pa_cons pe_str pa_nil)))))
      pss_nil)
      (Evl.pss_cut (ps_if (pt_cmpR op_gt (pe_callB call_len_seq (by rfl) T.z_len (by decide +kernel) (pa_cons (pe_ix ix_tup (pv 0) pe_int (fun _ _ => rfl)) pa_nil)) pe_int (nomark _))
      (pss_one (ps_set (i := 2) sc_law_lines.nd rfl (by first | exact .inl rfl | exact .inr rfl) (pe_op op_cat (pe_op op_cat (pv 2) (pe_lst (pa_cons pe_str pa_nil))) (pe_call G_law_all_lines (hr.mono (by omega)) (by rfl) T.g_law_all_lines T.F_law_all_lines.kp T.b_law_all_lines .nil pass0 (pa_cons (pe_ix ix_tup (pv 0) pe_int (fun _ _ => rfl)) pa_nil)))))
      pss_nil)
      (pss_one (ps_ret (pe_op op_cat (pe_op op_cat (pe_lst (pa_cons (pe_op op_add_str pe_str (pe_call G_law_ask_text (hr.mono (by omega)) (by rfl) T.g_law_ask_text T.F_law_ask_text.kp T.b_law_ask_text .nil pass0 (pa_cons (pe_ix ix_tup (pv 0) pe_int (fun _ _ => rfl)) pa_nil))) pa_nil)) (pv 2)) (pe_lst (pa_cons pe_str pa_nil)))))))))), ?_⟩
    walk_at "st"
    walk_at "vc"
    cases r with
    | stop =>
      obtain ⟨a, rfl, h1⟩ := hT
      refine ⟨a, _, _, _, rfl, rfl, h1, rfl, rfl, ?_⟩
      rw [if_pos rfl]
      exact ⟨sz_le (by simp), fun p hp => q p _ (Ex.new hp) hp (by rw [RowM.lines]; exact upd_same)⟩
    | put x dd g =>
      obtain ⟨a, b, rfl, h1, h2⟩ := hT
      refine ⟨a, _, _, _, rfl, rfl, h1, rfl, rfl, ?_⟩
      rw [if_neg (by decide +kernel)]
      refine ⟨fun _ _ => False, ?_, fun _ _ z => z.elim⟩
      walk_at "vc"
      refine ⟨a, _, _, _, rfl, rfl, h1, rfl, rfl, ?_⟩
      rw [if_pos rfl]
      have hall := argT_all hok.2.1.choose_spec.2
      have hpl := put_len hsm
      have hgl : g.length ≤ 6 := hsm.2.2.1
      rw [RowM.lines] at q
      refine ⟨.ref a, rfl, a, _, _, _, rfl, rfl, h1, rfl, b, rfl, ⟨_, h2⟩, fun D0 hD0 => lc_it (walk_tup (xs := g)) (C_gv D0 g H) ⟨upd_same, Ex.new hD0⟩ (fun i H' _ hP => hP.2.sqt h2) (fun i v H2 H' hi hP y => ?_) (fun H' hP => ?_)⟩
      · obtain ⟨rfl, hv⟩ := y
        walk_at "vc"
        have step : ∀ z, argT v = z → ∃ acc, H' D0 = some (.lst acc) ∧ acc.length < sizeLine ∧ C_gv D0 g H (i + 1) (upd H' D0 (.lst (acc ++ [.str z]))) := fun z hz => by
          refine ⟨_, hP.1, sz_lt (by simp; omega), ?_, hP.2.mut hD0⟩
          rw [upd_same, List.take_add_one, hv, List.map_append, List.map_append, ← hz]
          rfl
        rcases hall v (List.mem_of_getElem? hv) with ⟨z, rfl⟩ | ⟨j, rfl, hj⟩
        · exact step _ rfl
        · exact ⟨hj, step _ rfl⟩
      obtain ⟨g1, e1⟩ := hP
      rw [List.take_length] at g1
      refine ⟨a, _, _, _, rfl, rfl, (Kp.of_ex e1).sqt h1, rfl, sz_le (by simp), fun p hp => ?_⟩
      have ep := Ex.new hp (o := .tup [.str "+", .str "-", .str "*", .str "//", .str "**"])
      have e2 := e1.trans ep
      have g2 := ep _ _ g1
      refine ⟨p, _, rfl, .inr (st_of upd_same), rfl, rfl, _, rfl, ?_⟩
      generalize upd H' p (.tup [.str "+", .str "-", .str "*", .str "//", .str "**"]) = H1 at *
      rw [if_neg (c := false = true) Bool.false_ne_true, inV_signs]
      by_cases hs : dd ∈ signs
      · rw [if_pos (decide_eq_true hs)]
        obtain ⟨y, z, rfl⟩ : ∃ y z, g = [y, z] := by
          have hg2 : g.length = 2 := by rw [hok.2.1.choose_spec.2.len]; exact signs_two hs hok.2.1.choose_spec.1
          match g, hg2 with
          | [y, z], _ => exact ⟨y, z, rfl⟩
        unfold putText at hpl q
        rw [if_pos hs] at hpl q
        dsimp only at hpl q
        simp only [str_len] at hpl
        have big : ∀ k, k ≤ 10000 → k ≤ sizeLine := fun k hk => sz_le (by omega)
        have h1' := (Kp.of_ex e2).sqt h1
        refine ⟨a, _, _, _, rfl, rfl, h1', rfl, _, rfl, big _ (by omega), _, .str (argT y), sq_of g2, rfl, _, rfl, big _ (by simp only [str_len]; omega), big _ (by simp only [str_len]; omega), ?_⟩
        refine ⟨a, _, _, _, rfl, rfl, h1', rfl, _, rfl, big _ (by simp only [str_len]; omega), big _ (by simp only [str_len]; omega), _, .str (argT z), sq_of g2, rfl, _, rfl, big _ (by simp only [str_len]; omega), sz_le (by simp), fun p2 hp2 => ?_⟩
        exact q p2 _ (e2.trans (Ex.new hp2)) (e_none e2 hp2) upd_same
      · rw [if_neg (by simp [hs])]
        unfold putText at hpl q
        rw [if_neg hs] at hpl q
        have j2 := join_wt sp1 (ls := x :: "=" :: dd :: g.map argT) (by simp)
        rw [wt_sum] at j2
        have h1' := (Kp.of_ex e2).sqt h1
        refine ⟨rfl, a, _, _, _, rfl, rfl, h1', rfl, a, _, _, _, rfl, rfl, h1', rfl, sz_le (by simp), fun p2 hp2 => ?_⟩
        have ep2 := Ex.new hp2 (o := .lst [.str x, .str "=", .str dd])
        refine catL_of (xs := [x, "=", dd]) (ys := g.map argT) upd_same (ep2 _ _ g2) (by simp; omega) fun r3 H3 e3 n3 w3 => ⟨r3, rfl, _, .inl (sq_of w3), ?_, sz_le (by simp), fun p4 hp4 => ?_⟩
        · rw [sp1]
          exact Nat.le_trans (Nat.le_of_eq j2.symm) (by omega)
        · have e4 := (e2.trans ep2).trans e3
          exact q p4 _ (e4.trans (Ex.new hp4)) (e_none e4 hp4) upd_same
    | times c rs =>
      obtain ⟨a, b, vs, rfl, h1, h2, h3⟩ := hT
      refine ⟨a, _, _, _, rfl, rfl, h1, rfl, rfl, ?_⟩
      rw [if_neg (by decide +kernel)]
      refine ⟨fun σ H' => σ = [some (.ref a), none, none, none] ∧ H' = H, ?_, fun σ H' hm => ?_⟩
      · walk_at "vc"
        refine ⟨a, _, _, _, rfl, rfl, h1, rfl, rfl, ?_⟩
        rw [if_neg (by decide +kernel)]
      obtain ⟨rfl, rfl⟩ := hm
      walk_at "vc"
      rw [RowM.ok] at hok
      rw [RowM.sm] at hsm
      rw [RowM.dep] at hd
      rw [RowM.cnt] at hc
      rw [RowM.lines] at q hL
      have hcl : (c : Int).natAbs.log2 < 1920 := Nat.lt_of_lt_of_le (PySem.Flt.log2_lt_of (k := 10) (by decide) (by omega)) (by decide)
      have nl := num_len (i := (c : Int)) (by omega) (by omega)
      have t6 : (Str.ofString "times ").length = 6 := by decide
      refine ⟨a, _, _, _, rfl, rfl, h1, rfl, rs, vs, .inr h2, h3, hok.2.1, hsm, by omega, by omega, fun D1 H1 e1 n1 w1 => ?_⟩
      refine ⟨a, _, _, _, rfl, rfl, (Kp.of_ex e1).sqt h1, rfl, rfl, ?_⟩
      rw [if_pos rfl]
      refine ⟨a, _, _, _, rfl, rfl, (Kp.of_ex e1).sqt h1, rfl, hcl, _, rfl, by rw [t6]; exact sz_le (by omega), sz_le (by simp), fun p hp => ?_⟩
      have ep := Ex.new hp (o := .lst [.str (Str.ofString "times " ++ Str.ofString (toString (c : Int)))])
      rw [List.length_cons, List.length_append, List.length_singleton] at hL
      refine catL_of (xs := [Str.ofString "times " ++ Str.ofString (toString (c : Int))]) upd_same (ep _ _ w1) (by rw [List.length_singleton]; omega) fun r2 H2 e2 n2 w2 => ⟨sz_le (by simp), fun p2 hp2 => ?_⟩
      have ep2 := Ex.new hp2 (o := .lst [.str "end"])
      refine catL_of (ys := ["end"]) (ep2 _ _ w2) upd_same (by simp; omega) fun r3 H3 e3 n3 w3 => ?_
      have e123 := ((e1.trans ep).trans e2).trans ep2
      exact q r3 H3 (e123.trans e3) (e_none e123 n3) w3
    | ifr t rs os =>
      obtain ⟨a, u, b, c, vs, ws, rfl, h1, ht, h2, h3, h4, h5⟩ := hT
      refine ⟨a, _, _, _, rfl, rfl, h1, rfl, rfl, ?_⟩
      rw [if_neg (by decide +kernel)]
      refine ⟨fun σ H' => σ = [some (.ref a), none, none, none] ∧ H' = H, ?_, fun σ H' hm => ?_⟩
      · walk_at "vc"
        refine ⟨a, _, _, _, rfl, rfl, h1, rfl, rfl, ?_⟩
        rw [if_neg (by decide +kernel)]
      obtain ⟨rfl, rfl⟩ := hm
      walk_at "vc"
      rw [RowM.ok] at hok
      rw [RowM.sm] at hsm
      rw [RowM.dep] at hd
      rw [RowM.cnt] at hc
      rw [RowM.lines] at q hL
      have tl := test_len hok.1 hsm.1
      have t3 : (Str.ofString "if ").length = 3 := by decide
      rw [List.length_cons, List.length_append, List.length_append, List.length_singleton] at hL
      refine ⟨a, _, _, _, rfl, rfl, h1, rfl, rs, vs, .inr h2, h3, hok.2.2.1, hsm.2.1, by omega, by omega, fun D1 H1 e1 n1 w1 => ?_⟩
      refine ⟨a, _, _, _, rfl, rfl, (Kp.of_ex e1).sqt h1, rfl, rfl, ?_⟩
      rw [if_neg (by decide +kernel)]
      refine ⟨fun σ H2 => ∃ D2, σ = [some (.ref a), none, some (.ref D2), none] ∧ H2 D2 = some (.lst ((RowM.liness rs ++ RowM.elses os).map V.str)) ∧ Ex H' H2, ?_, fun σ H2 hm => ?_⟩
      · walk_at "vc"
        refine ⟨a, _, _, _, rfl, rfl, (Kp.of_ex e1).sqt h1, rfl, c, rfl, ws, .inr ((Kp.of_ex e1).sqt h4), ?_⟩
        refine ite2 (fun h0 => ?_) (fun h0 => ?_)
        · refine ⟨sz_le (by simp), fun p hp => ?_⟩
          have ep := Ex.new hp (o := .lst [.str "else"])
          refine catL_of (xs := RowM.liness rs) (ys := ["else"]) (ep _ _ w1) upd_same (by simp; omega) fun r2 H2 e2 n2 w2 => ?_
          have e12 := (e1.trans ep).trans e2
          have hone : os ≠ [] := fun z => by
            subst z
            rw [h5.len] at h0
            exact absurd h0 (by decide)
          have eel : RowM.elses os = ("else" : Str) :: RowM.liness os := by rw [elses_eq, if_neg hone]
          refine ⟨a, _, _, _, rfl, rfl, (Kp.of_ex e12).sqt h1, rfl, os, ws, .inr ((Kp.of_ex e12).sqt h4), h5.ex e12, hok.2.2.2.2.1, hsm.2.2, by omega, by omega, fun D3 H3 e3 n3 w3 => ?_⟩
          rw [eel] at hL ⊢
          refine catL_of (e3 _ _ w2) w3 (by rw [List.length_append, List.length_singleton]; rw [List.length_cons] at hL; omega) fun r4 H4 e4 n4 w4 => ⟨r4, rfl, ?_, (e12.trans e3).trans e4⟩
          rw [List.append_assoc] at w4
          exact w4
        · have hone : os = [] := by
            have := h5.len
            exact List.eq_nil_of_length_eq_zero (by omega)
          rw [hone, RowM.elses, List.append_nil]
          exact ⟨w1, e1⟩
      obtain ⟨D2, rfl, w2, e2⟩ := hm
      walk_at "vc"
      refine ⟨a, _, _, _, rfl, rfl, (Kp.of_ex e2).sqt h1, rfl, t, ht.ex e2, hok.1, hsm.1, hok.2.1, by have := hok.2.1; omega, fun H3 e3 => ⟨_, rfl, by rw [t3]; have := hok.2.1; exact sz_le (by omega), sz_le (by simp), fun p hp => ?_⟩⟩
      have ep := Ex.new hp (o := .lst [.str (Str.ofString "if " ++ t.text)])
      refine catL_of (xs := [Str.ofString "if " ++ t.text]) upd_same (ep _ _ (e3 _ _ w2)) (by rw [List.length_singleton, List.length_append]; omega) fun r4 H4 e4 n4 w4 => ⟨sz_le (by simp), fun p2 hp2 => ?_⟩
      have ep2 := Ex.new hp2 (o := .lst [.str "end"])
      refine catL_of (ys := ["end"]) (ep2 _ _ w4) upd_same (by simp; omega) fun r5 H5 e5 n5 w5 => ?_
      have eA := (((e2.trans e3).trans ep).trans e4).trans ep2
      exact q r5 H5 (eA.trans e5) (e_none eA n5) w5
end
end My
set_option Elab.async false
set_option linter.all false
set_option maxRecDepth 100000
set_option maxHeartbeats 4000000
set_option exponentiation.threshold 5000
namespace My
open PySem PySem.Spec PyProof.Rows L2 Evl
local macro_rules | `(tactic| walk_at "st") => `(tactic| simp only [L2.start, List.map_cons, List.map_nil, List.length_cons, List.length_nil, Nat.reduceAdd, Nat.reduceSub, List.replicate_succ, List.replicate_zero, List.cons_append, List.nil_append, cxOf, List.append_nil])
local macro_rules | `(tactic| walk_at "vc") => `(tactic| try simp only [tSeq, tAsg, tOp, tUn, tVar, tC, tNil, tCons, gName, rI, rI0, rU, tRet, tIfS, tNot, tAnd, tOr, tB, tTest, tCB, tCall, tAndV, tOrV, tNotV, tNext, tNever, tIf, tChain, tYes, tPart, tNoPart, tPar, tDrop, q_isi, q_vn, q_vb, q_vi, q_vs, kb1, kb2, kb3, kb4, kb5, kb6, kb7, kb8, q_int1, q_int2, q_min, q_max, q_repr, tLst, tTup, rEq, rNe, q_sii, q_sss, q_sbb, q_snn, q_sns, q_ssn, q_ix, q_sl, tSl, tBM, tBM0, q_app, q_pop, gSub, rSetL, L2.wipe, eq_self, decide_true, decide_false, tRevL,
  List.getElem?_cons_succ, List.getElem?_cons_zero, List.set_cons_succ, List.set_cons_zero, Option.some.injEq, exists_eq_left', exists_eq_left, V.int.injEq, V.bl.injEq, V.ref.injEq, V.str.injEq, List.cons.injEq, and_true, true_and, List.append_nil, List.nil_append, List.cons_append, exists_and_left, and_assoc, if_true, if_false, Bool.not_true, Bool.not_false, Bool.false_eq_true, Bool.true_eq_false, reduceIte, tRevL, tPar3, tRevT, tUnl, tCKw, forall_const, Bool.not_eq_true', decide_eq_true_eq, decide_eq_false_iff_not])
section
variable {P : Program} {w : World} {K : PySem.W.Frag} {mg : Str → Option Value} {base : Heap}
variable {a_is_integer a_is_number a_is_name a_are_rows a_texts a_needed a_fits a_is_of a_inner a_flat a_names_in a_bare a_named a_law_deal a_law_draw a_law_pick a_law_words a_law_kinds a_law_put a_law_ask a_law_count a_law_rows a_law_ask_text a_law_lines a_law_all_lines a_law_ask_of a_law_row_of a_law_deed a_law_begun a_law_alike a_law a_NoRow_init a_InvalidRow_init a_Put_init a_Put_eq a_Put_str a_If_init a_If_eq a_If_str a_Times_init a_Times_eq a_Times_str a_Stop_eq a_Stop_str a_Ask_init a_Ask_eq a_Ask_str a_Not_init a_Not_eq a_Not_str a_Program_init a_Program_str a_Sheet_init a_Sheet_drop a_Sheet_made a_Sheet_len a_Sheet_getitem a_Sheet_setitem a_Sheet_iadd a_NoRow a_InvalidRow a_Put a_If a_Times a_Stop a_Ask a_Not a_Row a_Test a_Program a_Sheet a_DEEDS a_SIGNS a_WORDS a_If_init_d0 a_Program_init_d0 a_Sheet_init_d0 : Addr} {d_is_integer d_is_number d_is_name d_are_rows d_texts d_needed d_fits d_is_of d_inner d_flat d_names_in d_bare d_named d_law_deal d_law_draw d_law_pick d_law_words d_law_kinds d_law_put d_law_ask d_law_count d_law_rows d_law_ask_text d_law_lines d_law_all_lines d_law_ask_of d_law_row_of d_law_deed d_law_begun d_law_alike d_law d_NoRow_init d_InvalidRow_init d_Put_init d_Put_eq d_Put_str d_If_init d_If_eq d_If_str d_Times_init d_Times_eq d_Times_str d_Stop_eq d_Stop_str d_Ask_init d_Ask_eq d_Ask_str d_Not_init d_Not_eq d_Not_str d_Program_init d_Program_str d_Sheet_init d_Sheet_drop d_Sheet_made d_Sheet_len d_Sheet_getitem d_Sheet_setitem d_Sheet_iadd : FuncData}
/-! ### the package's tests and rows, made of the law's own -/
theorem made_ex {H H3 : Hp} {x dx : Addr} {o1 o2 : HO} (hx : H x = none) (hd : H dx = none) (off : Off x (upd (upd H dx o1) x o2) H3) : Ex H H3 := fun b o hb => by
  have e1 : b ≠ x := ne_of_none hb hx
  have e2 : b ≠ dx := ne_of_none hb hd
  exact off b o e1 (by rw [upd_ne e1, upd_ne e2]; exact hb)
theorem TestO.ex {K : PySem.W.Frag} {A : ClsA} {H H' : Hp} {t : TestM} {v : V} (e : Ex H H') (h : TestO K A H t v) : TestO K A H' t v := h.kp (Kp.of_ex e)
theorem RowO.ex {K : PySem.W.Frag} {A : ClsA} {H H' : Hp} {t : RowM} {v : V} (e : Ex H H') (h : RowO K A H t v) : RowO K A H' t v := h.kp (Kp.of_ex e)
theorem RowOs.ex {K : PySem.W.Frag} {A : ClsA} {H H' : Hp} {t : List RowM} {v : List V} (e : Ex H H') (h : RowOs K A H t v) : RowOs K A H' t v := h.kp (Kp.of_ex e)
theorem mk_ex {H : Hp} {x dx : Addr} {o1 o2 : HO} (hx : H x = none) (hd : H dx = none) (hn : dx ≠ x) : Ex H (upd (upd H dx o1) x o2) := (Ex.new hd).trans (Ex.new (by rw [upd_ne hn.symm]; exact hx))
def sp_law_ask_of (K : PySem.W.Frag) (A : ClsA) (n : Nat) : Sp
  | [v], H, Q, _ => ∃ t, TestT K H t v ∧ t.ok ∧ t.dep < n ∧ ∀ u H', Ex H H' → TestO K A H' t u → Q u H'
  | _, _, _, _ => False
theorem ok_law_ask_of (T : Txt w K mg a_is_integer a_is_number a_is_name a_are_rows a_texts a_needed a_fits a_is_of a_inner a_flat a_names_in a_bare a_named a_law_deal a_law_draw a_law_pick a_law_words a_law_kinds a_law_put a_law_ask a_law_count a_law_rows a_law_ask_text a_law_lines a_law_all_lines a_law_ask_of a_law_row_of a_law_deed a_law_begun a_law_alike a_law a_NoRow_init a_InvalidRow_init a_Put_init a_Put_eq a_Put_str a_If_init a_If_eq a_If_str a_Times_init a_Times_eq a_Times_str a_Stop_eq a_Stop_str a_Ask_init a_Ask_eq a_Ask_str a_Not_init a_Not_eq a_Not_str a_Program_init a_Program_str a_Sheet_init a_Sheet_drop a_Sheet_made a_Sheet_len a_Sheet_getitem a_Sheet_setitem a_Sheet_iadd a_NoRow a_InvalidRow a_Put a_If a_Times a_Stop a_Ask a_Not a_Row a_Test a_Program a_Sheet a_DEEDS a_SIGNS a_WORDS a_If_init_d0 a_Program_init_d0 a_Sheet_init_d0 d_is_integer d_is_number d_is_name d_are_rows d_texts d_needed d_fits d_is_of d_inner d_flat d_names_in d_bare d_named d_law_deal d_law_draw d_law_pick d_law_words d_law_kinds d_law_put d_law_ask d_law_count d_law_rows d_law_ask_text d_law_lines d_law_all_lines d_law_ask_of d_law_row_of d_law_deed d_law_begun d_law_alike d_law d_NoRow_init d_InvalidRow_init d_Put_init d_Put_eq d_Put_str d_If_init d_If_eq d_If_str d_Times_init d_Times_eq d_Times_str d_Stop_eq d_Stop_str d_Ask_init d_Ask_eq d_Ask_str d_Not_init d_Not_eq d_Not_str d_Program_init d_Program_str d_Sheet_init d_Sheet_drop d_Sheet_made d_Sheet_len d_Sheet_getitem d_Sheet_setitem d_Sheet_iadd) : ∀ n : Nat, FnOk P w K mg base CX0 (n + 5) a_law_ask_of d_law_ask_of ["_law_test"] (sp_law_ask_of K ⟨a_Put, a_If, a_Times, a_Stop, a_Ask, a_Not⟩ n)
  | 0 => by
    refine T.F_law_ask_of.ok sc_law_ask_of (fun vs H Q E h => ?_) (fun cdv A outer s H vs Q E hr h => ?_)
    · unfold sp_law_ask_of at h; split at h; rfl; exact h.elim
    · unfold sp_law_ask_of at h; split at h
      case h_2 => exact h.elim
      obtain ⟨t, _, _, h1, _⟩ := h
      exact absurd h1 (by omega)
  | n + 1 => by
    have G_law_ask_of := ok_law_ask_of T n
    have G_Not_init := ok_Not_init (P := P) (w := w) (base := base) T
    have G_Ask_init := ok_Ask_init (P := P) (w := w) (base := base) T
    refine T.F_law_ask_of.ok sc_law_ask_of (fun vs H Q E h => ?_) (fun cdv A outer s H vs Q E hr h => ?_)
    · unfold sp_law_ask_of at h; split at h; rfl; exact h.elim
    unfold sp_law_ask_of at h; split at h
    case h_2 => exact h.elim
    rename_i v
    obtain ⟨t, hT, hok, hd, q⟩ := h
    refine ⟨_, (pss_cons (ps_if (pt_cmpR op_eq (pe_ix ix_tup (pv 0) pe_int (fun _ _ => rfl)) pe_str (nomark _))
      (pss_one (ps_ret (pe_make T.M_Not G_Not_init (hr.mono (by omega)) (by rfl) T.g_Not T.b_Not_init .nil pass0 (pa_cons (pe_call G_law_ask_of (hr.mono (by omega)) (by rfl) T.g_law_ask_of T.F_law_ask_of.kp T.b_law_ask_of .nil pass0 (pa_cons (pe_ix ix_tup (pv 0) pe_int (fun _ _ => rfl)) pa_nil)) pa_nil))))
      pss_nil)
      (pss_cons (ps_if (pt_cmpR op_eq (pe_callB call_len_seq (by rfl) T.z_len (by decide +kernel) (pa_cons (pe_ix ix_tup (pv 0) pe_int (fun _ _ => rfl)) pa_nil)) pe_int (nomark _))
      (pss_one (ps_ret (StX.pe_makeR T.M_Ask G_Ask_init (hr.mono (by omega)) (by rfl) T.g_Ask pass0 (pa_cons (pe_ix ix_tup (pv 0) pe_int (fun _ _ => rfl)) (pa_cons (pe_ix ix_tup (pe_ix ix_tup (pv 0) pe_int (fun _ _ => rfl)) pe_int (fun _ _ => rfl)) pa_nil)))))
      pss_nil)
      (pss_one (ps_ret (StX.pe_makeR T.M_Ask G_Ask_init (hr.mono (by omega)) (by rfl) T.g_Ask pass0 (pa_cons (pe_ix ix_tup (pv 0) pe_int (fun _ _ => rfl)) (pa_cons (pe_ix ix_tup (pe_ix ix_tup (pv 0) pe_int (fun _ _ => rfl)) pe_int (fun _ _ => rfl)) (pa_cons (pe_ix ix_tup (pe_ix ix_tup (pv 0) pe_int (fun _ _ => rfl)) pe_int (fun _ _ => rfl)) pa_nil)))))))), ?_⟩
    walk_at "st"
    walk_at "vc"
    cases t with
    | not t =>
      obtain ⟨a, u, rfl, h1, h2⟩ := hT
      rw [TestM.dep] at hd
      refine ⟨a, _, _, _, rfl, rfl, h1, rfl, rfl, ?_⟩
      rw [if_pos rfl]
      unfold tMake
      walk_at "vc"
      refine ⟨a, _, _, _, rfl, rfl, h1, rfl, t, h2, hok, by omega, fun u1 H1 e1 hO x1 dx hx hdx hne => ?_⟩
      have em := mk_ex (o1 := .own x1) (o2 := .ins a_Not dx []) hx hdx hne
      refine ⟨dx, t, upd_same, hO.ex em, fun H3 off h3 => ⟨rfl, ?_⟩⟩
      have e3 := made_ex hx hdx off
      exact q _ H3 (e1.trans e3) ⟨x1, dx, u1, rfl, h3, hO.ex e3⟩
    | ask x ns =>
      obtain ⟨a, q0, rfl, h1, h2⟩ := hT
      refine ⟨a, _, _, _, rfl, rfl, h1, rfl, rfl, ?_⟩
      rw [if_neg (by decide +kernel)]
      have hn : ns.length = 1 ∨ ns.length = 2 := by
        have : ∀ p ∈ wordTab, p.2 = 1 ∨ p.2 = 2 := by decide
        exact this _ hok.1
      refine ⟨a, _, _, _, rfl, rfl, h1, rfl, q0, rfl, _, .inr h2, ?_⟩
      unfold StX.tMakeR
      walk_at "vc"
      have fin : ∀ (x3 dx : Addr), H x3 = none → H dx = none → dx ≠ x3 → ∃ ws rest, (V.ref x3 :: V.str x :: ns.map V.str) = ws ++ rest ∧ ws.length = 2 ∧ rest.length ≤ sizeLine ∧ ∀ p, upd (upd H dx (.own x3)) x3 (.ins a_Ask dx []) p = none →
          sp_Ask_init K a_Ask (ws ++ [V.ref p]) (upd (upd (upd H dx (.own x3)) x3 (.ins a_Ask dx [])) p (.tup rest)) (fun v H2 => v = V.non ∧ Q (V.ref x3) H2) E0 := by
        intro x3 dx hx hdx hne
        refine ⟨[.ref x3, .str x], ns.map V.str, rfl, rfl, sz_le (by rw [List.length_map]; omega), fun p hp => ?_⟩
        have em := mk_ex (o1 := .own x3) (o2 := .ins a_Ask dx []) hx hdx hne
        have ep := Ex.new hp (o := .tup (ns.map V.str))
        refine ⟨dx, ns, ep _ _ upd_same, st_of upd_same, hok.1, hok.2, fun H3 off h3 => ⟨rfl, ?_⟩⟩
        have off2 : Off x3 (upd (upd H dx (.own x3)) x3 (.ins a_Ask dx [])) H3 := fun b o hb h => off b o hb (ep _ _ h)
        have npx : p ≠ x3 := fun e => by rw [e, upd_same] at hp; cases hp
        exact q _ H3 (made_ex hx hdx off2) ⟨x3, dx, p, rfl, h3, st_of (off p _ npx upd_same)⟩
      rcases hn with hn | hn
      · obtain ⟨y, rfl⟩ : ∃ y, ns = [y] := by
          match ns, hn with
          | [y], _ => exact ⟨y, rfl⟩
        rw [if_pos (by rfl)]
        exact ⟨a, _, _, _, rfl, rfl, h1, rfl, a, _, _, _, rfl, rfl, h1, rfl, q0, _, _, _, rfl, rfl, h2, rfl, fin⟩
      · obtain ⟨y, z, rfl⟩ : ∃ y z, ns = [y, z] := by
          match ns, hn with
          | [y, z], _ => exact ⟨y, z, rfl⟩
        rw [if_neg (by simp)]
        exact ⟨a, _, _, _, rfl, rfl, h1, rfl, a, _, _, _, rfl, rfl, h1, rfl, q0, _, _, _, rfl, rfl, h2, rfl, a, _, _, _, rfl, rfl, h1, rfl, q0, _, _, _, rfl, rfl, h2, rfl, fin⟩
theorem RowOs.snoc {K : PySem.W.Frag} {A : ClsA} {H : Hp} {r : RowM} {u : V} : ∀ {rs : List RowM} {us : List V}, RowOs K A H rs us → RowO K A H r u → RowOs K A H (rs ++ [r]) (us ++ [u])
  | [], _, h, k => by rw [RowOs] at h; subst h; exact ⟨u, [], rfl, k, by rw [RowOs]⟩
  | x :: rs, _, h, k => by
    obtain ⟨v, ws, rfl, h2, h3⟩ := h
    exact ⟨v, ws ++ [u], rfl, h2, RowOs.snoc h3 k⟩
def sp_law_row_of (K : PySem.W.Frag) (A : ClsA) (n : Nat) : Sp
  | [v], H, Q, _ => ∃ r, RowT K H r v ∧ r.ok ∧ r.sm ∧ r.dep < n ∧ ∀ u H', Ex H H' → RowO K A H' r u → (∃ b, u = .ref b ∧ H b = none) → Q u H'
  | _, _, _, _ => False
theorem ok_law_row_of (T : Txt w K mg a_is_integer a_is_number a_is_name a_are_rows a_texts a_needed a_fits a_is_of a_inner a_flat a_names_in a_bare a_named a_law_deal a_law_draw a_law_pick a_law_words a_law_kinds a_law_put a_law_ask a_law_count a_law_rows a_law_ask_text a_law_lines a_law_all_lines a_law_ask_of a_law_row_of a_law_deed a_law_begun a_law_alike a_law a_NoRow_init a_InvalidRow_init a_Put_init a_Put_eq a_Put_str a_If_init a_If_eq a_If_str a_Times_init a_Times_eq a_Times_str a_Stop_eq a_Stop_str a_Ask_init a_Ask_eq a_Ask_str a_Not_init a_Not_eq a_Not_str a_Program_init a_Program_str a_Sheet_init a_Sheet_drop a_Sheet_made a_Sheet_len a_Sheet_getitem a_Sheet_setitem a_Sheet_iadd a_NoRow a_InvalidRow a_Put a_If a_Times a_Stop a_Ask a_Not a_Row a_Test a_Program a_Sheet a_DEEDS a_SIGNS a_WORDS a_If_init_d0 a_Program_init_d0 a_Sheet_init_d0 d_is_integer d_is_number d_is_name d_are_rows d_texts d_needed d_fits d_is_of d_inner d_flat d_names_in d_bare d_named d_law_deal d_law_draw d_law_pick d_law_words d_law_kinds d_law_put d_law_ask d_law_count d_law_rows d_law_ask_text d_law_lines d_law_all_lines d_law_ask_of d_law_row_of d_law_deed d_law_begun d_law_alike d_law d_NoRow_init d_InvalidRow_init d_Put_init d_Put_eq d_Put_str d_If_init d_If_eq d_If_str d_Times_init d_Times_eq d_Times_str d_Stop_eq d_Stop_str d_Ask_init d_Ask_eq d_Ask_str d_Not_init d_Not_eq d_Not_str d_Program_init d_Program_str d_Sheet_init d_Sheet_drop d_Sheet_made d_Sheet_len d_Sheet_getitem d_Sheet_setitem d_Sheet_iadd) : ∀ n : Nat, FnOk P w K mg base CX0 (n + 15) a_law_row_of d_law_row_of ["_law_row"] (sp_law_row_of K ⟨a_Put, a_If, a_Times, a_Stop, a_Ask, a_Not⟩ n)
  | 0 => by
    refine T.F_law_row_of.ok sc_law_row_of (fun vs H Q E h => ?_) (fun cdv A outer s H vs Q E hr h => ?_)
    · unfold sp_law_row_of at h; split at h; rfl; exact h.elim
    · unfold sp_law_row_of at h; split at h
      case h_2 => exact h.elim
      obtain ⟨t, _, _, _, h1, _⟩ := h
      exact absurd h1 (by omega)
  | n + 1 => by
    have G_law_row_of := ok_law_row_of T n
    have G_law_ask_of := ok_law_ask_of (P := P) (w := w) (base := base) T 9
    have G_Put_init := ok_Put_init (P := P) (w := w) (base := base) T
    have G_Times_init := ok_Times_init (P := P) (w := w) (base := base) T
    have G_If_init := ok_If_init (P := P) (w := w) (base := base) T
    refine T.F_law_row_of.ok sc_law_row_of (fun vs H Q E h => ?_) (fun cdv A outer s H vs Q E hr h => ?_)
    · unfold sp_law_row_of at h; split at h; rfl; exact h.elim
    unfold sp_law_row_of at h; split at h
    case h_2 => exact h.elim
    rename_i v
    obtain ⟨r, hT, hok, hsm, hd, q⟩ := h
    refine ⟨_, (pss_cons (ps_if (pt_cmpR op_eq (pe_ix ix_tup (pv 0) pe_int (fun _ _ => rfl)) pe_str (nomark _))
      (pss_one (ps_ret (pe_new0 T.N_Stop (by rfl) T.g_Stop)))
      pss_nil)
      (pss_cons (ps_if (pt_cmpR op_eq (pe_ix ix_tup (pv 0) pe_int (fun _ _ => rfl)) pe_str (nomark _))
      (pss_one (ps_ret (pe_make T.M_Times G_Times_init (hr.mono (by omega)) (by rfl) T.g_Times T.b_Times_init .nil pass0 (pa_cons (pe_ix ix_tup (pv 0) pe_int (fun _ _ => rfl)) (pa_cons (pe_lc (own := [("_law_one", 3)]) (g := gName 3) (by rfl) sc_law_row_of.nd (pi_tup (pe_ix ix_tup (pv 0) pe_int (fun _ _ => rfl))) (blkOk_by (own := [("_law_one", 3)]) (N := N_law_row_of) (sc := defScope s_law_row_of) (by decide +kernel)) (fun _ _ _ _ _ => (pg_name (i := 3) sc_law_row_of.nd rfl (by first | exact .inl rfl | exact .inr rfl))) (fun _ _ _ _ _ => pts_nil) (fun _ _ _ _ _ => (pe_call G_law_row_of (hr.mono (by omega)) (by rfl) T.g_law_row_of T.F_law_row_of.kp T.b_law_row_of .nil pass0 (pa_cons (pv 3) pa_nil)))) pa_nil)))))
      pss_nil)
      (pss_cons (ps_if (pt_cmpR op_eq (pe_ix ix_tup (pv 0) pe_int (fun _ _ => rfl)) pe_str (nomark _))
      (pss_cons (ps_set (i := 1) sc_law_row_of.nd rfl (by first | exact .inl rfl | exact .inr rfl) (pe_callTy call_tuple_of (by rfl) T.z_tuple (by decide +kernel) (pa_cons (pe_lc (own := [("_law_one", 3)]) (g := gName 3) (by rfl) sc_law_row_of.nd (pi_tup (pe_ix ix_tup (pv 0) pe_int (fun _ _ => rfl))) (blkOk_by (own := [("_law_one", 3)]) (N := N_law_row_of) (sc := defScope s_law_row_of) (by decide +kernel)) (fun _ _ _ _ _ => (pg_name (i := 3) sc_law_row_of.nd rfl (by first | exact .inl rfl | exact .inr rfl))) (fun _ _ _ _ _ => pts_nil) (fun _ _ _ _ _ => (pe_call G_law_row_of (hr.mono (by omega)) (by rfl) T.g_law_row_of T.F_law_row_of.kp T.b_law_row_of .nil pass0 (pa_cons (pv 3) pa_nil)))) pa_nil)))
      (pss_one (ps_ret (pe_make T.M_If G_If_init (hr.mono (by omega)) (by rfl) T.g_If T.b_If_init .nil pass0 (pa_cons (pe_call G_law_ask_of (hr.mono (by omega)) (by rfl) T.g_law_ask_of T.F_law_ask_of.kp T.b_law_ask_of .nil pass0 (pa_cons (pe_ix ix_tup (pv 0) pe_int (fun _ _ => rfl)) pa_nil)) (pa_cons (pe_lc (own := [("_law_one", 3)]) (g := gName 3) (by rfl) sc_law_row_of.nd (pi_tup (pe_ix ix_tup (pv 0) pe_int (fun _ _ => rfl))) (blkOk_by (own := [("_law_one", 3)]) (N := N_law_row_of) (sc := defScope s_law_row_of) (by decide +kernel)) (fun _ _ _ _ _ => (pg_name (i := 3) sc_law_row_of.nd rfl (by first | exact .inl rfl | exact .inr rfl))) (fun _ _ _ _ _ => pts_nil) (fun _ _ _ _ _ => (pe_call G_law_row_of (hr.mono (by omega)) (by rfl) T.g_law_row_of T.F_law_row_of.kp T.b_law_row_of .nil pass0 (pa_cons (pv 3) pa_nil)))) (pa_cons (pv 1) pa_nil)))))))
      pss_nil)
      (pss_cons (ps_set (i := 2) sc_law_row_of.nd rfl (by first | exact .inl rfl | exact .inr rfl) (pe_ix ix_tup (pv 0) pe_int (fun _ _ => rfl)))
      (pss_cons (ps_if (pt_cmpR op_eq (pe_callB call_len_seq (by rfl) T.z_len (by decide +kernel) (pa_cons (pv 2) pa_nil)) pe_int (nomark _))
      (pss_one (ps_ret (StX.pe_makeR T.M_Put G_Put_init (hr.mono (by omega)) (by rfl) T.g_Put pass0 (pa_cons (pe_ix ix_tup (pv 0) pe_int (fun _ _ => rfl)) (pa_cons (pe_ix ix_tup (pv 0) pe_int (fun _ _ => rfl)) pa_nil)))))
      pss_nil)
      (pss_cons (ps_if (pt_cmpR op_eq (pe_callB call_len_seq (by rfl) T.z_len (by decide +kernel) (pa_cons (pv 2) pa_nil)) pe_int (nomark _))
      (pss_one (ps_ret (StX.pe_makeR T.M_Put G_Put_init (hr.mono (by omega)) (by rfl) T.g_Put pass0 (pa_cons (pe_ix ix_tup (pv 0) pe_int (fun _ _ => rfl)) (pa_cons (pe_ix ix_tup (pv 0) pe_int (fun _ _ => rfl)) (pa_cons (pe_ix ix_tup (pv 2) pe_int (fun _ _ => rfl)) pa_nil))))))
      pss_nil)
      (pss_cons (ps_if (pt_cmpR op_eq (pe_callB call_len_seq (by rfl) T.z_len (by decide +kernel) (pa_cons (pv 2) pa_nil)) pe_int (nomark _))
      (pss_one (ps_ret (StX.pe_makeR T.M_Put G_Put_init (hr.mono (by omega)) (by rfl) T.g_Put pass0 (pa_cons (pe_ix ix_tup (pv 0) pe_int (fun _ _ => rfl)) (pa_cons (pe_ix ix_tup (pv 0) pe_int (fun _ _ => rfl)) (pa_cons (pe_ix ix_tup (pv 2) pe_int (fun _ _ => rfl)) (pa_cons (pe_ix ix_tup (pv 2) pe_int (fun _ _ => rfl)) pa_nil)))))))
      pss_nil)
      (pss_cons (ps_if (pt_cmpR op_eq (pe_callB call_len_seq (by rfl) T.z_len (by decide +kernel) (pa_cons (pv 2) pa_nil)) pe_int (nomark _))
      (pss_one (ps_ret (StX.pe_makeR T.M_Put G_Put_init (hr.mono (by omega)) (by rfl) T.g_Put pass0 (pa_cons (pe_ix ix_tup (pv 0) pe_int (fun _ _ => rfl)) (pa_cons (pe_ix ix_tup (pv 0) pe_int (fun _ _ => rfl)) (pa_cons (pe_ix ix_tup (pv 2) pe_int (fun _ _ => rfl)) (pa_cons (pe_ix ix_tup (pv 2) pe_int (fun _ _ => rfl)) (pa_cons (pe_ix ix_tup (pv 2) pe_int (fun _ _ => rfl)) pa_nil))))))))
      pss_nil)
      (pss_cons (ps_if (pt_cmpR op_eq (pe_callB call_len_seq (by rfl) T.z_len (by decide +kernel) (pa_cons (pv 2) pa_nil)) pe_int (nomark _))
      (pss_one (ps_ret (StX.pe_makeR T.M_Put G_Put_init (hr.mono (by omega)) (by rfl) T.g_Put pass0 (pa_cons (pe_ix ix_tup (pv 0) pe_int (fun _ _ => rfl)) (pa_cons (pe_ix ix_tup (pv 0) pe_int (fun _ _ => rfl)) (pa_cons (pe_ix ix_tup (pv 2) pe_int (fun _ _ => rfl)) (pa_cons (pe_ix ix_tup (pv 2) pe_int (fun _ _ => rfl)) (pa_cons (pe_ix ix_tup (pv 2) pe_int (fun _ _ => rfl)) (pa_cons (pe_ix ix_tup (pv 2) pe_int (fun _ _ => rfl)) pa_nil)))))))))
      pss_nil)
      (pss_cons (ps_if (pt_cmpR op_eq (pe_callB call_len_seq (by rfl) T.z_len (by decide +kernel) (pa_cons (pv 2) pa_nil)) pe_int (nomark _))
      (pss_one (ps_ret (StX.pe_makeR T.M_Put G_Put_init (hr.mono (by omega)) (by rfl) T.g_Put pass0 (pa_cons (pe_ix ix_tup (pv 0) pe_int (fun _ _ => rfl)) (pa_cons (pe_ix ix_tup (pv 0) pe_int (fun _ _ => rfl)) (pa_cons (pe_ix ix_tup (pv 2) pe_int (fun _ _ => rfl)) (pa_cons (pe_ix ix_tup (pv 2) pe_int (fun _ _ => rfl)) (pa_cons (pe_ix ix_tup (pv 2) pe_int (fun _ _ => rfl)) (pa_cons (pe_ix ix_tup (pv 2) pe_int (fun _ _ => rfl)) (pa_cons (pe_ix ix_tup (pv 2) pe_int (fun _ _ => rfl)) pa_nil))))))))))
      pss_nil)
      (pss_one (ps_ret (StX.pe_makeR T.M_Put G_Put_init (hr.mono (by omega)) (by rfl) T.g_Put pass0 (pa_cons (pe_ix ix_tup (pv 0) pe_int (fun _ _ => rfl)) (pa_cons (pe_ix ix_tup (pv 0) pe_int (fun _ _ => rfl)) (pa_cons (pe_ix ix_tup (pv 2) pe_int (fun _ _ => rfl)) (pa_cons (pe_ix ix_tup (pv 2) pe_int (fun _ _ => rfl)) (pa_cons (pe_ix ix_tup (pv 2) pe_int (fun _ _ => rfl)) (pa_cons (pe_ix ix_tup (pv 2) pe_int (fun _ _ => rfl)) (pa_cons (pe_ix ix_tup (pv 2) pe_int (fun _ _ => rfl)) (pa_cons (pe_ix ix_tup (pv 2) pe_int (fun _ _ => rfl)) pa_nil))))))))))))))))))))), ?_⟩
    walk_at "st"
    walk_at "vc"
    cases r with
    | stop =>
      obtain ⟨a, rfl, h1⟩ := hT
      refine ⟨a, _, _, _, rfl, rfl, h1, rfl, rfl, ?_⟩
      rw [if_pos rfl]
      intro x1 dx hx hdx hne
      exact q _ _ (mk_ex hx hdx hne) ⟨x1, dx, rfl, upd_same⟩ ⟨x1, rfl, hx⟩
    | put x dd g =>
      obtain ⟨a, b, rfl, h1, h2⟩ := hT
      refine ⟨a, _, _, _, rfl, rfl, h1, rfl, rfl, ?_⟩
      rw [if_neg (by decide +kernel)]
      refine ⟨a, _, _, _, rfl, rfl, h1, rfl, rfl, ?_⟩
      rw [if_neg (by decide +kernel)]
      refine ⟨a, _, _, _, rfl, rfl, h1, rfl, rfl, ?_⟩
      rw [if_neg (by decide +kernel)]
      refine ⟨a, _, _, _, rfl, rfl, h1, rfl, b, rfl, _, .inr h2, ?_⟩
      unfold StX.tMakeR
      walk_at "vc"
      have hgl : g.length ≤ 6 := hsm.2.2.1
      have fin : ∀ (x3 dx : Addr), H x3 = none → H dx = none → dx ≠ x3 → ∃ ws rest, (V.ref x3 :: V.str x :: V.str dd :: g) = ws ++ rest ∧ ws.length = 3 ∧ rest.length ≤ sizeLine ∧ ∀ p, upd (upd H dx (.own x3)) x3 (.ins a_Put dx []) p = none →
          sp_Put_init K a_Put (ws ++ [V.ref p]) (upd (upd (upd H dx (.own x3)) x3 (.ins a_Put dx [])) p (.tup rest)) (fun v H2 => v = V.non ∧ Q (V.ref x3) H2) E0 := by
        intro x3 dx hx hdx hne
        refine ⟨[.ref x3, .str x, .str dd], g, rfl, rfl, sz_le (by omega), fun p hp => ?_⟩
        have em := mk_ex (o1 := .own x3) (o2 := .ins a_Put dx []) hx hdx hne
        have ep := Ex.new hp (o := .tup g)
        obtain ⟨hn, ⟨ks, hk1, hk2⟩, _⟩ := hok
        refine ⟨dx, g, ks, ep _ _ upd_same, st_of upd_same, hn.1, hn.2, hk1, hk2, by omega, fun H3 off h3 => ⟨rfl, ?_⟩⟩
        have off2 : Off x3 (upd (upd H dx (.own x3)) x3 (.ins a_Put dx [])) H3 := fun b o hb h => off b o hb (ep _ _ h)
        have npx : p ≠ x3 := fun e => by rw [e, upd_same] at hp; cases hp
        exact q _ H3 (made_ex hx hdx off2) ⟨x3, dx, p, rfl, h3, st_of (off p _ npx upd_same)⟩ ⟨x3, rfl, hx⟩
      match g, hgl with
      | [], _ =>
        rw [if_pos (by simp)]
        exact ⟨a, _, _, _, rfl, rfl, h1, rfl, a, _, _, _, rfl, rfl, h1, rfl, fin⟩
      | [y0], _ =>
        rw [if_neg (by simp)]
        refine ⟨_, .inr h2, ?_⟩
        rw [if_pos (by simp)]
        exact ⟨a, _, _, _, rfl, rfl, h1, rfl, a, _, _, _, rfl, rfl, h1, rfl, b, _, _, _, rfl, rfl, h2, rfl, fin⟩
      | [y0, y1], _ =>
        rw [if_neg (by simp)]
        refine ⟨_, .inr h2, ?_⟩
        rw [if_neg (by simp)]
        refine ⟨_, .inr h2, ?_⟩
        rw [if_pos (by simp)]
        exact ⟨a, _, _, _, rfl, rfl, h1, rfl, a, _, _, _, rfl, rfl, h1, rfl, b, _, _, _, rfl, rfl, h2, rfl, b, _, _, _, rfl, rfl, h2, rfl, fin⟩
      | [y0, y1, y2], _ =>
        rw [if_neg (by simp)]
        refine ⟨_, .inr h2, ?_⟩
        rw [if_neg (by simp)]
        refine ⟨_, .inr h2, ?_⟩
        rw [if_neg (by simp)]
        refine ⟨_, .inr h2, ?_⟩
        rw [if_pos (by simp)]
        exact ⟨a, _, _, _, rfl, rfl, h1, rfl, a, _, _, _, rfl, rfl, h1, rfl, b, _, _, _, rfl, rfl, h2, rfl, b, _, _, _, rfl, rfl, h2, rfl, b, _, _, _, rfl, rfl, h2, rfl, fin⟩
      | [y0, y1, y2, y3], _ =>
        rw [if_neg (by simp)]
        refine ⟨_, .inr h2, ?_⟩
        rw [if_neg (by simp)]
        refine ⟨_, .inr h2, ?_⟩
        rw [if_neg (by simp)]
        refine ⟨_, .inr h2, ?_⟩
        rw [if_neg (by simp)]
        refine ⟨_, .inr h2, ?_⟩
        rw [if_pos (by simp)]
        exact ⟨a, _, _, _, rfl, rfl, h1, rfl, a, _, _, _, rfl, rfl, h1, rfl, b, _, _, _, rfl, rfl, h2, rfl, b, _, _, _, rfl, rfl, h2, rfl, b, _, _, _, rfl, rfl, h2, rfl, b, _, _, _, rfl, rfl, h2, rfl, fin⟩
      | [y0, y1, y2, y3, y4], _ =>
        rw [if_neg (by simp)]
        refine ⟨_, .inr h2, ?_⟩
        rw [if_neg (by simp)]
        refine ⟨_, .inr h2, ?_⟩
        rw [if_neg (by simp)]
        refine ⟨_, .inr h2, ?_⟩
        rw [if_neg (by simp)]
        refine ⟨_, .inr h2, ?_⟩
        rw [if_neg (by simp)]
        refine ⟨_, .inr h2, ?_⟩
        rw [if_pos (by simp)]
        exact ⟨a, _, _, _, rfl, rfl, h1, rfl, a, _, _, _, rfl, rfl, h1, rfl, b, _, _, _, rfl, rfl, h2, rfl, b, _, _, _, rfl, rfl, h2, rfl, b, _, _, _, rfl, rfl, h2, rfl, b, _, _, _, rfl, rfl, h2, rfl, b, _, _, _, rfl, rfl, h2, rfl, fin⟩
      | [y0, y1, y2, y3, y4, y5], _ =>
        rw [if_neg (by simp)]
        refine ⟨_, .inr h2, ?_⟩
        rw [if_neg (by simp)]
        refine ⟨_, .inr h2, ?_⟩
        rw [if_neg (by simp)]
        refine ⟨_, .inr h2, ?_⟩
        rw [if_neg (by simp)]
        refine ⟨_, .inr h2, ?_⟩
        rw [if_neg (by simp)]
        refine ⟨_, .inr h2, ?_⟩
        rw [if_neg (by simp)]
        exact ⟨a, _, _, _, rfl, rfl, h1, rfl, a, _, _, _, rfl, rfl, h1, rfl, b, _, _, _, rfl, rfl, h2, rfl, b, _, _, _, rfl, rfl, h2, rfl, b, _, _, _, rfl, rfl, h2, rfl, b, _, _, _, rfl, rfl, h2, rfl, b, _, _, _, rfl, rfl, h2, rfl, b, _, _, _, rfl, rfl, h2, rfl, fin⟩
      | _ :: _ :: _ :: _ :: _ :: _ :: _ :: _, z => simp at z
    | times c rs =>
      obtain ⟨a, b, vs, rfl, h1, h2, h3⟩ := hT
      refine ⟨a, _, _, _, rfl, rfl, h1, rfl, rfl, ?_⟩
      rw [if_neg (by decide +kernel)]
      refine ⟨a, _, _, _, rfl, rfl, h1, rfl, rfl, ?_⟩
      rw [if_pos rfl]
      unfold tMake
      walk_at "vc"
      rw [RowM.ok] at hok
      rw [RowM.sm] at hsm
      rw [RowM.dep] at hd
      have hlen := h3.len
      refine ⟨a, _, _, _, rfl, rfl, h1, rfl, .ref a, rfl, a, _, _, _, rfl, rfl, h1, rfl, b, rfl, ⟨_, h2⟩, fun D0 hD0 => ?_⟩
      refine lc_tup (xs := vs) (fun i H' => ∃ us, H' D0 = some (.lst us) ∧ us.length = i ∧ RowOs K ⟨a_Put, a_If, a_Times, a_Stop, a_Ask, a_Not⟩ H' (rs.take i) us ∧ Ex H H') ⟨[], upd_same, rfl, by rw [List.take_zero, RowOs], Ex.new hD0⟩ (fun i H' _ hP => (Kp.of_ex hP.choose_spec.2.2.2).sqt h2) (fun i v H' hv hP => ?_) (fun H' hP => ?_)
      · obtain ⟨us, g1, g2, g3, g4⟩ := hP
        obtain ⟨r, hr, hrT⟩ := (h3).at_ hv
        walk_at "vc"
        refine ⟨r, hrT.ex g4, oks_at2 hok.2.1 hr, sms_at hsm hr, by have := deps_at hr; omega, fun u1 H2 e2 hu _ => ?_⟩
        have hil := (List.getElem?_eq_some_iff.mp hv).1
        refine ⟨us, e2 _ _ g1, sz_lt (by omega), us ++ [u1], upd_same, by rw [List.length_append, g2]; rfl, ?_, (g4.trans e2).mut hD0⟩
        have kpl : Kp H2 (upd H2 D0 (.lst (us ++ [u1]))) := Kp.updL (e2 _ _ g1)
        rw [List.take_add_one, hr]
        exact RowOs.snoc ((g3.ex e2).kp kpl) (hu.kp kpl)
      obtain ⟨us, g1, g2, g3, g4⟩ := hP
      rw [hlen, List.take_length] at g3
      intro x1 dx hx hdx hne
      have em := mk_ex (o1 := .own x1) (o2 := .ins a_Times dx []) hx hdx hne
      refine ⟨dx, rs, us, upd_same, by omega, .inl (em _ _ g1), g3.ex em, by omega, fun H3 qq off hq h3' => ⟨rfl, ?_⟩⟩
      have e3 := made_ex hx hdx off
      exact q _ H3 (g4.trans e3) ⟨x1, dx, qq, us, rfl, h3', st_of hq, g3.ex e3⟩ ⟨x1, rfl, e_none g4 hx⟩
    | ifr t rs os =>
      obtain ⟨a, u, b, c, vs, ws, rfl, h1, ht, h2, h3, h4, h5⟩ := hT
      refine ⟨a, _, _, _, rfl, rfl, h1, rfl, rfl, ?_⟩
      rw [if_neg (by decide +kernel)]
      refine ⟨a, _, _, _, rfl, rfl, h1, rfl, rfl, ?_⟩
      rw [if_neg (by decide +kernel)]
      refine ⟨a, _, _, _, rfl, rfl, h1, rfl, rfl, ?_⟩
      rw [if_pos rfl]
      rw [RowM.ok] at hok
      rw [RowM.sm] at hsm
      rw [RowM.dep] at hd
      have hlen := h3.len
      have hlen2 := h5.len
      refine ⟨.ref a, rfl, a, _, _, _, rfl, rfl, h1, rfl, c, rfl, ⟨_, h4⟩, fun D0 hD0 => ?_⟩
      refine lc_tup (xs := ws) (fun i H' => ∃ us, H' D0 = some (.lst us) ∧ us.length = i ∧ RowOs K ⟨a_Put, a_If, a_Times, a_Stop, a_Ask, a_Not⟩ H' (os.take i) us ∧ Ex H H') ⟨[], upd_same, rfl, by rw [List.take_zero, RowOs], Ex.new hD0⟩ (fun i H' _ hP => (Kp.of_ex hP.choose_spec.2.2.2).sqt h4) (fun i v H' hv hP => ?_) (fun H' hP => ?_)
      · obtain ⟨us, g1, g2, g3, g4⟩ := hP
        obtain ⟨r, hr, hrT⟩ := (h5).at_ hv
        walk_at "vc"
        refine ⟨r, hrT.ex g4, oks_at2 hok.2.2.2.2.1 hr, sms_at hsm.2.2 hr, by have := deps_at hr; omega, fun u1 H2 e2 hu _ => ?_⟩
        have hil := (List.getElem?_eq_some_iff.mp hv).1
        refine ⟨us, e2 _ _ g1, sz_lt (by omega), us ++ [u1], upd_same, by rw [List.length_append, g2]; rfl, ?_, (g4.trans e2).mut hD0⟩
        have kpl : Kp H2 (upd H2 D0 (.lst (us ++ [u1]))) := Kp.updL (e2 _ _ g1)
        rw [List.take_add_one, hr]
        exact RowOs.snoc ((g3.ex e2).kp kpl) (hu.kp kpl)
      obtain ⟨us1, f1, f2, f3, f4⟩ := hP
      rw [hlen2, List.take_length] at f3
      refine ⟨D0, rfl, us1, .inl ⟨sq_of f1, fun l hl => ?_⟩⟩
      have el := f4.trans (Ex.new hl (o := .tup us1))
      have wl : upd H' l (.tup us1) l = some (.tup us1) := upd_same
      have f5 := f3.ex (Ex.new hl (o := .tup us1))
      clear f1 f3 f4
      generalize upd H' l (.tup us1) = H1 at *
      unfold tMake
      walk_at "vc"
      refine ⟨a, _, _, _, rfl, rfl, (Kp.of_ex el).sqt h1, rfl, t, ht.ex el, hok.1, hok.2.1, fun u1 H2 e2 hu1 => ?_⟩
      have em2 := el.trans e2
      refine ⟨.ref a, rfl, a, _, _, _, rfl, rfl, (Kp.of_ex em2).sqt h1, rfl, b, rfl, ⟨_, (Kp.of_ex em2).sqt h2⟩, fun D0 hD0 => ?_⟩
      refine lc_tup (xs := vs) (fun i H' => ∃ us, H' D0 = some (.lst us) ∧ us.length = i ∧ RowOs K ⟨a_Put, a_If, a_Times, a_Stop, a_Ask, a_Not⟩ H' (rs.take i) us ∧ Ex H2 H') ⟨[], upd_same, rfl, by rw [List.take_zero, RowOs], Ex.new hD0⟩ (fun i H' _ hP => (Kp.of_ex hP.choose_spec.2.2.2).sqt ((Kp.of_ex em2).sqt h2)) (fun i v H' hv hP => ?_) (fun H' hP => ?_)
      · obtain ⟨us, g1, g2, g3, g4⟩ := hP
        obtain ⟨r, hr, hrT⟩ := (h3.ex em2).at_ hv
        walk_at "vc"
        refine ⟨r, hrT.ex g4, oks_at2 hok.2.2.1 hr, sms_at hsm.2.1 hr, by have := deps_at hr; omega, fun u1 H2 e2 hu _ => ?_⟩
        have hil := (List.getElem?_eq_some_iff.mp hv).1
        refine ⟨us, e2 _ _ g1, sz_lt (by omega), us ++ [u1], upd_same, by rw [List.length_append, g2]; rfl, ?_, (g4.trans e2).mut hD0⟩
        have kpl : Kp H2 (upd H2 D0 (.lst (us ++ [u1]))) := Kp.updL (e2 _ _ g1)
        rw [List.take_add_one, hr]
        exact RowOs.snoc ((g3.ex e2).kp kpl) (hu.kp kpl)
      obtain ⟨us, g1, g2, g3, g4⟩ := hP
      rw [hlen, List.take_length] at g3
      intro x1 dx hx hdx hne
      have em := mk_ex (o1 := .own x1) (o2 := .ins a_If dx []) hx hdx hne
      have e5 := e2.trans g4
      refine ⟨dx, t, rs, us, os, us1, upd_same, hu1.ex (g4.trans em), .inl (em _ _ g1), g3.ex em, by omega, .inr (em _ _ (e5 _ _ wl)), (f5.ex e5).ex em, by omega, fun H3 q1 q2 off hq1 hq2 h3' => ⟨rfl, ?_⟩⟩
      have e3 := made_ex hx hdx off
      exact q _ H3 ((el.trans e5).trans e3) ⟨x1, dx, u1, q1, q2, us, us1, rfl, h3', hu1.ex (g4.trans e3), st_of hq1, g3.ex e3, st_of hq2, f5.ex (e5.trans e3)⟩ ⟨x1, rfl, e_none (el.trans e5) hx⟩
end
end My
set_option Elab.async false
set_option linter.all false
set_option maxRecDepth 100000
set_option maxHeartbeats 4000000
set_option exponentiation.threshold 5000
namespace My
open PySem PySem.Spec PyProof.Rows L2 Evl
local macro_rules | `(tactic| walk_at "st") => `(tactic| simp only [L2.start, List.map_cons, List.map_nil, List.length_cons, List.length_nil, Nat.reduceAdd, Nat.reduceSub, List.replicate_succ, List.replicate_zero, List.cons_append, List.nil_append, cxOf, List.append_nil])
local macro_rules | `(tactic| walk_at "vc") => `(tactic| try simp only [tSeq, tAsg, tOp, tUn, tVar, tC, tNil, tCons, gName, rI, rI0, rU, tRet, tIfS, tNot, tAnd, tOr, tB, tTest, tCB, tCall, tAndV, tOrV, tNotV, tNext, tNever, tIf, tChain, tYes, tPart, tNoPart, tPar, tDrop, q_isi, q_vn, q_vb, q_vi, q_vs, kb1, kb2, kb3, kb4, kb5, kb6, kb7, kb8, q_int1, q_int2, q_min, q_max, q_repr, tLst, tTup, rEq, rNe, q_sii, q_sss, q_sbb, q_snn, q_sns, q_ssn, q_ix, q_sl, tSl, tBM, tBM0, q_app, q_pop, gSub, rSetL, L2.wipe, eq_self, decide_true, decide_false, tRevL,
  List.getElem?_cons_succ, List.getElem?_cons_zero, List.set_cons_succ, List.set_cons_zero, Option.some.injEq, exists_eq_left', exists_eq_left, V.int.injEq, V.bl.injEq, V.ref.injEq, V.str.injEq, List.cons.injEq, and_true, true_and, List.append_nil, List.nil_append, List.cons_append, exists_and_left, and_assoc, if_true, if_false, Bool.not_true, Bool.not_false, Bool.false_eq_true, Bool.true_eq_false, reduceIte, tRevL, tPar3, tRevT, tUnl, tCKw, forall_const, Bool.not_eq_true', decide_eq_true_eq, decide_eq_false_iff_not])
section
variable {P : Program} {w : World} {K : PySem.W.Frag} {mg : Str → Option Value} {base : Heap}
variable {a_is_integer a_is_number a_is_name a_are_rows a_texts a_needed a_fits a_is_of a_inner a_flat a_names_in a_bare a_named a_law_deal a_law_draw a_law_pick a_law_words a_law_kinds a_law_put a_law_ask a_law_count a_law_rows a_law_ask_text a_law_lines a_law_all_lines a_law_ask_of a_law_row_of a_law_deed a_law_begun a_law_alike a_law a_NoRow_init a_InvalidRow_init a_Put_init a_Put_eq a_Put_str a_If_init a_If_eq a_If_str a_Times_init a_Times_eq a_Times_str a_Stop_eq a_Stop_str a_Ask_init a_Ask_eq a_Ask_str a_Not_init a_Not_eq a_Not_str a_Program_init a_Program_str a_Sheet_init a_Sheet_drop a_Sheet_made a_Sheet_len a_Sheet_getitem a_Sheet_setitem a_Sheet_iadd a_NoRow a_InvalidRow a_Put a_If a_Times a_Stop a_Ask a_Not a_Row a_Test a_Program a_Sheet a_DEEDS a_SIGNS a_WORDS a_If_init_d0 a_Program_init_d0 a_Sheet_init_d0 : Addr} {d_is_integer d_is_number d_is_name d_are_rows d_texts d_needed d_fits d_is_of d_inner d_flat d_names_in d_bare d_named d_law_deal d_law_draw d_law_pick d_law_words d_law_kinds d_law_put d_law_ask d_law_count d_law_rows d_law_ask_text d_law_lines d_law_all_lines d_law_ask_of d_law_row_of d_law_deed d_law_begun d_law_alike d_law d_NoRow_init d_InvalidRow_init d_Put_init d_Put_eq d_Put_str d_If_init d_If_eq d_If_str d_Times_init d_Times_eq d_Times_str d_Stop_eq d_Stop_str d_Ask_init d_Ask_eq d_Ask_str d_Not_init d_Not_eq d_Not_str d_Program_init d_Program_str d_Sheet_init d_Sheet_drop d_Sheet_made d_Sheet_len d_Sheet_getitem d_Sheet_setitem d_Sheet_iadd : FuncData}
/-! ### blocks: what lies in a row, all rows of a program -/
def RowM.inn : RowM → List RowM
  | .times _ rs => rs
  | .ifr _ rs os => rs ++ os
  | _ => []
mutual
def RowM.flat : RowM → List RowM
  | .stop => [.stop]
  | .put n d g => [.put n d g]
  | .times c rs => .times c rs :: RowM.flats rs
  | .ifr t rs os => .ifr t rs os :: (RowM.flats rs ++ RowM.flats os)
def RowM.flats : List RowM → List RowM
  | [] => []
  | r :: rs => r.flat ++ RowM.flats rs
end
theorem flats_app : ∀ as bs : List RowM, RowM.flats (as ++ bs) = RowM.flats as ++ RowM.flats bs
  | [], bs => by rw [List.nil_append, RowM.flats, List.nil_append]
  | a :: as, bs => by rw [List.cons_append, RowM.flats, RowM.flats, flats_app as bs, List.append_assoc]
theorem flat_inn (r : RowM) : r.flat = r :: RowM.flats r.inn := by
  cases r with
  | stop => rw [RowM.flat, show RowM.inn .stop = [] from rfl, RowM.flats]
  | put n d g => rw [RowM.flat, show RowM.inn (.put n d g) = [] from rfl, RowM.flats]
  | times c rs => rw [RowM.flat, RowM.inn]
  | ifr t rs os => rw [RowM.flat, RowM.inn, flats_app]
mutual
theorem flat_len : ∀ r : RowM, r.flat.length = r.cnt
  | .stop => by rw [RowM.flat, RowM.cnt]; rfl
  | .put _ _ _ => by rw [RowM.flat, RowM.cnt]; rfl
  | .times _ rs => by rw [RowM.flat, RowM.cnt, List.length_cons, flats_len rs]; omega
  | .ifr _ rs os => by rw [RowM.flat, RowM.cnt, List.length_cons, List.length_append, flats_len rs, flats_len os]; omega
theorem flats_len : ∀ rs : List RowM, (RowM.flats rs).length = RowM.cnts rs
  | [] => by rw [RowM.flats, RowM.cnts]; rfl
  | r :: rs => by rw [RowM.flats, RowM.cnts, List.length_append, flat_len r, flats_len rs]
end
theorem inn_cnt (r : RowM) : r.cnt = 1 + RowM.cnts r.inn := by rw [← flat_len, flat_inn, List.length_cons, flats_len]; omega
theorem inn_dep (r : RowM) : r.inn ≠ [] → RowM.deps r.inn < r.dep := by
  cases r with
  | stop => intro h; exact absurd rfl h
  | put n d g => intro h; exact absurd rfl h
  | times c rs => intro _; rw [RowM.inn, RowM.dep]; omega
  | ifr t rs os => intro _; rw [RowM.inn, RowM.dep, deps_app]; omega
theorem RowOs.app {K : PySem.W.Frag} {A : ClsA} {H : Hp} : ∀ {rs os : List RowM} {vs ws : List V}, RowOs K A H rs vs → RowOs K A H os ws → RowOs K A H (rs ++ os) (vs ++ ws)
  | [], _, _, _, h, k => by unfold RowOs at h; rw [h]; exact k
  | r :: rs, os, _, ws, h, k => by
    unfold RowOs at h
    obtain ⟨v, us, rfl, h2, h3⟩ := h
    show RowOs K A H (r :: (rs ++ os)) (v :: (us ++ ws))
    unfold RowOs
    exact ⟨v, us ++ ws, rfl, h2, RowOs.app h3 k⟩
theorem RowOs.one {K : PySem.W.Frag} {A : ClsA} {H : Hp} {r : RowM} {v : V} (h : RowO K A H r v) : RowOs K A H [r] [v] := by
  unfold RowOs
  exact ⟨v, [], rfl, h, by unfold RowOs; rfl⟩
theorem RowOs.take {K : PySem.W.Frag} {A : ClsA} {H : Hp} : ∀ {rs : List RowM} {vs : List V} (i : Nat), RowOs K A H rs vs → RowOs K A H (rs.take i) (vs.take i)
  | [], _, i, h => by unfold RowOs at h; subst h; simp [RowOs]
  | r :: rs, _, 0, h => by rw [List.take_zero, List.take_zero]; unfold RowOs; rfl
  | r :: rs, _, i + 1, h => by
    unfold RowOs at h
    obtain ⟨v, us, rfl, h2, h3⟩ := h
    rw [List.take_succ_cons, List.take_succ_cons]
    unfold RowOs
    exact ⟨v, us.take i, rfl, h2, RowOs.take i h3⟩
theorem take_flats (rs : List RowM) (i : Nat) {r : RowM} (h : rs[i]? = some r) : RowM.flats (rs.take (i + 1)) = RowM.flats (rs.take i) ++ r.flat := by
  rw [List.take_add_one, h, flats_app]
  simp [RowM.flats]
theorem cnts_take (rs : List RowM) (i : Nat) : RowM.cnts (rs.take i) ≤ RowM.cnts rs := by
  conv => rhs; rw [← List.take_append_drop i rs, cnts_app]
  omega
/-- is a row of the class at place j of A's list -/
theorem isClsR (T : Txt w K mg a_is_integer a_is_number a_is_name a_are_rows a_texts a_needed a_fits a_is_of a_inner a_flat a_names_in a_bare a_named a_law_deal a_law_draw a_law_pick a_law_words a_law_kinds a_law_put a_law_ask a_law_count a_law_rows a_law_ask_text a_law_lines a_law_all_lines a_law_ask_of a_law_row_of a_law_deed a_law_begun a_law_alike a_law a_NoRow_init a_InvalidRow_init a_Put_init a_Put_eq a_Put_str a_If_init a_If_eq a_If_str a_Times_init a_Times_eq a_Times_str a_Stop_eq a_Stop_str a_Ask_init a_Ask_eq a_Ask_str a_Not_init a_Not_eq a_Not_str a_Program_init a_Program_str a_Sheet_init a_Sheet_drop a_Sheet_made a_Sheet_len a_Sheet_getitem a_Sheet_setitem a_Sheet_iadd a_NoRow a_InvalidRow a_Put a_If a_Times a_Stop a_Ask a_Not a_Row a_Test a_Program a_Sheet a_DEEDS a_SIGNS a_WORDS a_If_init_d0 a_Program_init_d0 a_Sheet_init_d0 d_is_integer d_is_number d_is_name d_are_rows d_texts d_needed d_fits d_is_of d_inner d_flat d_names_in d_bare d_named d_law_deal d_law_draw d_law_pick d_law_words d_law_kinds d_law_put d_law_ask d_law_count d_law_rows d_law_ask_text d_law_lines d_law_all_lines d_law_ask_of d_law_row_of d_law_deed d_law_begun d_law_alike d_law d_NoRow_init d_InvalidRow_init d_Put_init d_Put_eq d_Put_str d_If_init d_If_eq d_If_str d_Times_init d_Times_eq d_Times_str d_Stop_eq d_Stop_str d_Ask_init d_Ask_eq d_Ask_str d_Not_init d_Not_eq d_Not_str d_Program_init d_Program_str d_Sheet_init d_Sheet_drop d_Sheet_made d_Sheet_len d_Sheet_getitem d_Sheet_setitem d_Sheet_iadd) {H : Hp} {r : RowM} {v : V} {Q : VK} (j : Nat) (b : Bool) (hj : j < 8) (hb : ansO r.ci j = b) (h : RowO K ⟨a_Put, a_If, a_Times, a_Stop, a_Ask, a_Not⟩ H r v) (q : ∀ a dx fs C, v = .ref a → H a = some (.ins C dx fs) → r.ci < 4 → C = (clsL ⟨a_Put, a_If, a_Times, a_Stop, a_Ask, a_Not⟩ a_Row a_Test).getD r.ci 0 → Q (.bl b) H) : rIsi K [v, .ref ((clsL ⟨a_Put, a_If, a_Times, a_Stop, a_Ask, a_Not⟩ a_Row a_Test).getD j 0)] H Q := by
  obtain ⟨a, dx, fs, C, rfl, h1, hC⟩ := h.cls
  have c2 := h.ci_of T.kits h1
  refine ⟨_, _, _, _, b, rfl, .own _, isTy T h1 hC, ?_, q a dx fs C rfl h1 c2.1 c2.2⟩
  rw [c2.2, ← hb]
  exact kitO1 T.kits r.ci j (by omega) hj
def sp_inner (K : PySem.W.Frag) (A : ClsA) : Sp
  | [v], H, Q, _ => ∃ r, RowO K A H r v ∧ r.cnt ≤ 1000 ∧ ∀ q ws H', Ex H H' → SqT K H' q ws → RowOs K A H' r.inn ws → Q (.ref q) H'
  | _, _, _, _ => False
theorem ok_inner (T : Txt w K mg a_is_integer a_is_number a_is_name a_are_rows a_texts a_needed a_fits a_is_of a_inner a_flat a_names_in a_bare a_named a_law_deal a_law_draw a_law_pick a_law_words a_law_kinds a_law_put a_law_ask a_law_count a_law_rows a_law_ask_text a_law_lines a_law_all_lines a_law_ask_of a_law_row_of a_law_deed a_law_begun a_law_alike a_law a_NoRow_init a_InvalidRow_init a_Put_init a_Put_eq a_Put_str a_If_init a_If_eq a_If_str a_Times_init a_Times_eq a_Times_str a_Stop_eq a_Stop_str a_Ask_init a_Ask_eq a_Ask_str a_Not_init a_Not_eq a_Not_str a_Program_init a_Program_str a_Sheet_init a_Sheet_drop a_Sheet_made a_Sheet_len a_Sheet_getitem a_Sheet_setitem a_Sheet_iadd a_NoRow a_InvalidRow a_Put a_If a_Times a_Stop a_Ask a_Not a_Row a_Test a_Program a_Sheet a_DEEDS a_SIGNS a_WORDS a_If_init_d0 a_Program_init_d0 a_Sheet_init_d0 d_is_integer d_is_number d_is_name d_are_rows d_texts d_needed d_fits d_is_of d_inner d_flat d_names_in d_bare d_named d_law_deal d_law_draw d_law_pick d_law_words d_law_kinds d_law_put d_law_ask d_law_count d_law_rows d_law_ask_text d_law_lines d_law_all_lines d_law_ask_of d_law_row_of d_law_deed d_law_begun d_law_alike d_law d_NoRow_init d_InvalidRow_init d_Put_init d_Put_eq d_Put_str d_If_init d_If_eq d_If_str d_Times_init d_Times_eq d_Times_str d_Stop_eq d_Stop_str d_Ask_init d_Ask_eq d_Ask_str d_Not_init d_Not_eq d_Not_str d_Program_init d_Program_str d_Sheet_init d_Sheet_drop d_Sheet_made d_Sheet_len d_Sheet_getitem d_Sheet_setitem d_Sheet_iadd) : FnOk P w K mg base CX0 1 a_inner d_inner ["row"] (sp_inner K ⟨a_Put, a_If, a_Times, a_Stop, a_Ask, a_Not⟩) := by
  refine T.F_inner.ok sc_inner (fun vs H Q E h => ?_) (fun cdv A outer s H vs Q E hr h => ?_)
  · unfold sp_inner at h; split at h; rfl; exact h.elim
  unfold sp_inner at h; split at h
  case h_2 => exact h.elim
  rename_i v
  obtain ⟨r, hO, hc, q⟩ := h
  refine ⟨_, (pss_cons (ps_if (pt_val (pe_callB (call_isiK (K := K)) (by rfl) T.z_isinstance (by decide +kernel) (pa_cons (pv 0) (pa_cons (pe_glob (v := .ref a_If) (by rfl) T.g_If rfl) pa_nil))))
      (pss_one (ps_ret (pe_op op_catA (pe_fld (pv 0) (by rfl)) (pe_fld (pv 0) (by rfl)))))
      pss_nil)
      (pss_cons (ps_if (pt_val (pe_callB (call_isiK (K := K)) (by rfl) T.z_isinstance (by decide +kernel) (pa_cons (pv 0) (pa_cons (pe_glob (v := .ref a_Times) (by rfl) T.g_Times rfl) pa_nil))))
      (pss_one (ps_ret (pe_fld (pv 0) (by rfl))))
      pss_nil)
      (pss_one (ps_ret (pe_tup pa_nil))))), ?_⟩
  walk_at "st"
  walk_at "vc"
  cases r with
  | stop =>
    refine isClsR T 1 false (by decide) rfl hO fun a dx fs C e ha _ hC => ⟨_, rfl, ?_⟩
    rw [if_neg (show ¬ false = true by decide)]
    refine isClsR T 2 false (by decide) rfl hO fun a dx fs C e ha _ hC => ⟨_, rfl, ?_⟩
    rw [if_neg (show ¬ false = true by decide)]
    exact ⟨sz_le (by simp), fun p hp => q p [] _ (Ex.new hp) (st_of upd_same) (show RowOs K _ _ [] [] by unfold RowOs; rfl)⟩
  | put n d g =>
    refine isClsR T 1 false (by decide) rfl hO fun a dx fs C e ha _ hC => ⟨_, rfl, ?_⟩
    rw [if_neg (show ¬ false = true by decide)]
    refine isClsR T 2 false (by decide) rfl hO fun a dx fs C e ha _ hC => ⟨_, rfl, ?_⟩
    rw [if_neg (show ¬ false = true by decide)]
    exact ⟨sz_le (by simp), fun p hp => q p [] _ (Ex.new hp) (st_of upd_same) (show RowOs K _ _ [] [] by unfold RowOs; rfl)⟩
  | times c rs =>
    refine isClsR T 1 false (by decide) rfl hO fun a dx fs C e ha _ hC => ⟨_, rfl, ?_⟩
    rw [if_neg (show ¬ false = true by decide)]
    refine isClsR T 2 true (by decide) rfl hO fun a dx fs C e ha _ hC => ⟨_, rfl, ?_⟩
    rw [if_pos (show true = true from rfl)]
    unfold RowO at hO
    obtain ⟨b, dy, q0, vs, rfl, h2, h3, h4⟩ := hO
    exact ⟨_, rfl, b, _, dy, _, .ref q0, rfl, h2, T.oc_Times.cl, T.nF_Times_rows, rfl, q q0 vs H (Ex.refl H) h3 h4⟩
  | ifr t rs os =>
    refine isClsR T 1 true (by decide) rfl hO fun a dx fs C e ha _ hC => ⟨_, rfl, ?_⟩
    rw [if_pos (show true = true from rfl)]
    unfold RowO at hO
    obtain ⟨b, dy, u, q0, q1, vs, ws, rfl, h2, _, h3, h4, h5, h6⟩ := hO
    rw [RowM.cnt] at hc
    have l1 := h4.len
    have l2 := h6.len
    have c1 := cnts_len rs
    have c2 := cnts_len os
    exact ⟨_, rfl, b, _, dy, _, .ref q0, rfl, h2, T.oc_If.cl, T.nF_If_rows, rfl, _, rfl, b, _, dy, _, .ref q1, rfl, h2, T.oc_If.cl, T.nF_If_others, rfl, catA_of h3 h5 (sz_le (by omega)) fun r H' e1 hr => q r (vs ++ ws) H' e1 hr ((h4.app h6).kp (Kp.of_ex e1))⟩
def sp_flat (K : PySem.W.Frag) (A : ClsA) (n : Nat) : Sp
  | [.ref p], H, Q, _ => ∃ rs vs, (H p = some (.lst vs) ∨ SqT K H p vs) ∧ RowOs K A H rs vs ∧ (RowM.deps rs + 1 < n ∨ (rs = [] ∧ 0 < n)) ∧ RowM.cnts rs ≤ 1000 ∧ ∀ D ws H', Ex H H' → H D = none → H' D = some (.lst ws) → RowOs K A H' (RowM.flats rs) ws → Q (.ref D) H'
  | _, _, _, _ => False
def C_flat (K : PySem.W.Frag) (A : ClsA) (D : Addr) (rs : List RowM) (H : Hp) : Nat → Hp → Prop := fun i H' => ∃ ws, H' D = some (.lst ws) ∧ RowOs K A H' (RowM.flats (rs.take i)) ws ∧ Ex H H'
theorem C_flat.ex {K : PySem.W.Frag} {A : ClsA} {D : Addr} {rs : List RowM} {H : Hp} {i : Nat} {H' : Hp} (h : C_flat K A D rs H i H') : Ex H H' := h.choose_spec.2.2
theorem ok_flat (T : Txt w K mg a_is_integer a_is_number a_is_name a_are_rows a_texts a_needed a_fits a_is_of a_inner a_flat a_names_in a_bare a_named a_law_deal a_law_draw a_law_pick a_law_words a_law_kinds a_law_put a_law_ask a_law_count a_law_rows a_law_ask_text a_law_lines a_law_all_lines a_law_ask_of a_law_row_of a_law_deed a_law_begun a_law_alike a_law a_NoRow_init a_InvalidRow_init a_Put_init a_Put_eq a_Put_str a_If_init a_If_eq a_If_str a_Times_init a_Times_eq a_Times_str a_Stop_eq a_Stop_str a_Ask_init a_Ask_eq a_Ask_str a_Not_init a_Not_eq a_Not_str a_Program_init a_Program_str a_Sheet_init a_Sheet_drop a_Sheet_made a_Sheet_len a_Sheet_getitem a_Sheet_setitem a_Sheet_iadd a_NoRow a_InvalidRow a_Put a_If a_Times a_Stop a_Ask a_Not a_Row a_Test a_Program a_Sheet a_DEEDS a_SIGNS a_WORDS a_If_init_d0 a_Program_init_d0 a_Sheet_init_d0 d_is_integer d_is_number d_is_name d_are_rows d_texts d_needed d_fits d_is_of d_inner d_flat d_names_in d_bare d_named d_law_deal d_law_draw d_law_pick d_law_words d_law_kinds d_law_put d_law_ask d_law_count d_law_rows d_law_ask_text d_law_lines d_law_all_lines d_law_ask_of d_law_row_of d_law_deed d_law_begun d_law_alike d_law d_NoRow_init d_InvalidRow_init d_Put_init d_Put_eq d_Put_str d_If_init d_If_eq d_If_str d_Times_init d_Times_eq d_Times_str d_Stop_eq d_Stop_str d_Ask_init d_Ask_eq d_Ask_str d_Not_init d_Not_eq d_Not_str d_Program_init d_Program_str d_Sheet_init d_Sheet_drop d_Sheet_made d_Sheet_len d_Sheet_getitem d_Sheet_setitem d_Sheet_iadd) : ∀ n : Nat, n ≤ 90 → FnOk P w K mg base CX0 (n + 1) a_flat d_flat ["rows"] (sp_flat K ⟨a_Put, a_If, a_Times, a_Stop, a_Ask, a_Not⟩ n)
  | 0, _ => by
    refine T.F_flat.ok sc_flat (fun vs H Q E h => ?_) (fun cdv A outer s H vs Q E hr h => ?_)
    · unfold sp_flat at h; split at h; rfl; exact h.elim
    · unfold sp_flat at h; split at h
      case h_2 => exact h.elim
      obtain ⟨t, _, _, _, h1, _⟩ := h
      exact absurd h1 (by omega)
  | n + 1, hn => by
    have G_flat := ok_flat T n (by omega)
    have G_inner := (ok_inner (P := P) (w := w) (base := base) T).mono (show 1 ≤ n + 1 by omega)
    refine T.F_flat.ok sc_flat (fun vs H Q E h => ?_) (fun cdv A outer s H vs Q E hr h => ?_)
    · unfold sp_flat at h; split at h; rfl; exact h.elim
    unfold sp_flat at h; split at h
    case h_2 => exact h.elim
    rename_i p
    obtain ⟨rs, vs, hp, hO, hd, hc, q⟩ := h
    refine ⟨_, (pss_cons (ps_set (i := 1) sc_flat.nd rfl (by first | exact .inl rfl | exact .inr rfl) (pe_lst pa_nil))
      (Evl.pss_cut (ps_for PassesOwn.never rfl (pi_lt (pv 0)) (pg_name (i := 2) sc_flat.nd rfl (by first | exact .inl rfl | exact .inr rfl))
      (pss_cons (ps_expr (pe_bm PySem.F.plainAttrs_list PySem.F.slot_list_append PySem.F.type_list_append mt_appendM (pv 1) (pa_cons (pv 2) pa_nil)))
      (pss_one (ps_expr (pe_bm PySem.F.plainAttrs_list PySem.F.slot_list_extend PySem.F.type_list_extend mt_extend (pv 1) (pa_cons (pe_call G_flat (hr.mono (by omega)) (by rfl) T.g_flat T.F_flat.kp T.b_flat .nil pass0 (pa_cons (pe_call G_inner (hr.mono (by omega)) (by rfl) T.g_inner T.F_inner.kp T.b_inner .nil pass0 (pa_cons (pv 2) pa_nil)) pa_nil)) pa_nil))))))
      (pss_one (ps_ret (pv 1))))), ?_⟩
    walk_at "st"
    walk_at "vc"
    refine ⟨sz_le (by simp), fun D hD => ⟨fun σ H' => ∃ x ws, σ = [some (.ref p), some (.ref D), x] ∧ H' D = some (.lst ws) ∧ RowOs K ⟨a_Put, a_If, a_Times, a_Stop, a_Ask, a_Not⟩ H' (RowM.flats rs) ws ∧ Ex H H', ?_, fun σ H' hm => ?_⟩⟩
    · refine ⟨.ref p, rfl, for_LT (xs := vs) (fun i σ H' => ∃ x, σ = [some (.ref p), some (.ref D), x] ∧ C_flat K ⟨a_Put, a_If, a_Times, a_Stop, a_Ask, a_Not⟩ D rs H i H') ⟨_, rfl, ⟨[], upd_same, by rw [List.take_zero, RowM.flats]; unfold RowOs; rfl, Ex.new hD⟩⟩ (hp.imp (fun hp i σ H' _ hv => sq_of (hv.choose_spec.2.ex _ _ hp)) (fun hp i σ H' _ hv => (Kp.of_ex hv.choose_spec.2.ex).sqt hp)) (fun i v σ H' hi hv => ?_) (fun σ H' hv => ?_)⟩
      · obtain ⟨x, rfl, hC⟩ := hv
        walk_at "vc"
        obtain ⟨ws, hD1, hW, e1⟩ := hC
        obtain ⟨r, hr0, hr1⟩ := hO.at_ hi
        have hcr := cnts_at hr0
        have hdr := deps_at hr0
        have hic := inn_cnt r
        have hLw := hW.len
        have hLt := cnts_take rs i
        rw [flats_len] at hLw
        have hne : rs ≠ [] := fun z => by rw [z] at hr0; simp at hr0
        have kp1 := Kp.updL (ys := ws ++ [v]) hD1
        refine ⟨.inl ⟨rfl, _, sq_of hD1⟩, ws, hD1, sz_lt (by omega), .inl ⟨rfl, _, sq_of upd_same⟩, ?_⟩
        refine ⟨r, (hr1.kp (Kp.of_ex e1)).kp kp1, by omega, fun q1 us H2 e2 hq1 hU => ?_⟩
        refine ⟨r.inn, us, .inr hq1, hU, ?_, by omega, fun D2 zs H3 e3 hn3 hD2 hZ => ?_⟩
        · by_cases hi0 : r.inn = []
          · refine .inr ⟨hi0, ?_⟩
            rcases hd with hd | hd
            · omega
            · exact absurd hd.1 hne
          · refine .inl ?_
            have := inn_dep r hi0
            rcases hd with hd | hd
            · omega
            · exact absurd hd.1 hne
        · have hzl := hZ.len
          rw [flats_len] at hzl
          have e23 := e2.trans e3
          have w3 := e23 _ _ (upd_same (H := H') (a := D) (o := .lst (ws ++ [v])))
          refine ⟨D, D2, _, _, rfl, rfl, w3, hD2, sz_le (by simp; omega), ws ++ [v] ++ zs, upd_same, ?_, ?_⟩
          · have kp3 := Kp.updL (ys := ws ++ [v] ++ zs) w3
            have ka := (kp1.trans (Kp.of_ex e23)).trans kp3
            rw [take_flats rs i hr0, flat_inn r]
            have h3 := ((hW.kp ka).app (RowOs.one ((hr1.kp (Kp.of_ex e1)).kp ka))).app (hZ.kp kp3)
            rw [List.append_assoc (RowM.flats _)] at h3
            exact h3
          · exact ((e1.mut hD).trans e23).mut hD
      · obtain ⟨x, rfl, hC⟩ := hv
        rw [hO.len] at hC
        obtain ⟨ws, h1, h2, h3⟩ := hC
        rw [List.take_length] at h2
        exact ⟨x, ws, rfl, h1, h2, h3⟩
    · obtain ⟨x, ws, rfl, h1, h2, h3⟩ := hm
      walk_at "vc"
      exact q D ws H' h3 hD h1 h2
/-! ### the names in rows -/
def TestM.core : TestM → Str × List Str
  | .ask x ns => (x, ns)
  | .not t => t.core
def TestM.odd : TestM → Bool
  | .ask _ _ => true
  | .not t => !t.odd
def sp_bare (K : PySem.W.Frag) (A : ClsA) : Sp
  | [u], H, Q, _ => ∃ t, TestO K A H t u ∧ t.dep < 90 ∧ ∀ q u2 H', Ex H H' → SqT K H' q [u2, .bl t.odd] → TestO K A H' (.ask t.core.1 t.core.2) u2 → Q (.ref q) H'
  | _, _, _, _ => False
theorem ok_bare (T : Txt w K mg a_is_integer a_is_number a_is_name a_are_rows a_texts a_needed a_fits a_is_of a_inner a_flat a_names_in a_bare a_named a_law_deal a_law_draw a_law_pick a_law_words a_law_kinds a_law_put a_law_ask a_law_count a_law_rows a_law_ask_text a_law_lines a_law_all_lines a_law_ask_of a_law_row_of a_law_deed a_law_begun a_law_alike a_law a_NoRow_init a_InvalidRow_init a_Put_init a_Put_eq a_Put_str a_If_init a_If_eq a_If_str a_Times_init a_Times_eq a_Times_str a_Stop_eq a_Stop_str a_Ask_init a_Ask_eq a_Ask_str a_Not_init a_Not_eq a_Not_str a_Program_init a_Program_str a_Sheet_init a_Sheet_drop a_Sheet_made a_Sheet_len a_Sheet_getitem a_Sheet_setitem a_Sheet_iadd a_NoRow a_InvalidRow a_Put a_If a_Times a_Stop a_Ask a_Not a_Row a_Test a_Program a_Sheet a_DEEDS a_SIGNS a_WORDS a_If_init_d0 a_Program_init_d0 a_Sheet_init_d0 d_is_integer d_is_number d_is_name d_are_rows d_texts d_needed d_fits d_is_of d_inner d_flat d_names_in d_bare d_named d_law_deal d_law_draw d_law_pick d_law_words d_law_kinds d_law_put d_law_ask d_law_count d_law_rows d_law_ask_text d_law_lines d_law_all_lines d_law_ask_of d_law_row_of d_law_deed d_law_begun d_law_alike d_law d_NoRow_init d_InvalidRow_init d_Put_init d_Put_eq d_Put_str d_If_init d_If_eq d_If_str d_Times_init d_Times_eq d_Times_str d_Stop_eq d_Stop_str d_Ask_init d_Ask_eq d_Ask_str d_Not_init d_Not_eq d_Not_str d_Program_init d_Program_str d_Sheet_init d_Sheet_drop d_Sheet_made d_Sheet_len d_Sheet_getitem d_Sheet_setitem d_Sheet_iadd) : FnOk P w K mg base CX0 1 a_bare d_bare ["test"] (sp_bare K ⟨a_Put, a_If, a_Times, a_Stop, a_Ask, a_Not⟩) := by
  refine T.F_bare.ok sc_bare (fun vs H Q E h => ?_) (fun cdv A outer s H vs Q E hr h => ?_)
  · unfold sp_bare at h; split at h; rfl; exact h.elim
  unfold sp_bare at h; split at h
  case h_2 => exact h.elim
  rename_i u
  obtain ⟨t, hO, hd, q⟩ := h
  refine ⟨_, (pss_cons (ps_set (i := 1) sc_bare.nd rfl (by first | exact .inl rfl | exact .inr rfl) pe_bl)
      (Evl.pss_cut (ps_while PassesOwn.never (pt_val (pe_callB (call_isiK (K := K)) (by rfl) T.z_isinstance (by decide +kernel) (pa_cons (pv 0) (pa_cons (pe_glob (v := .ref a_Not) (by rfl) T.g_Not rfl) pa_nil))))
      (pss_cons (ps_set (i := 0) sc_bare.nd rfl (by first | exact .inl rfl | exact .inr rfl) (pe_fld (pv 0) (by rfl)))
      (pss_one (ps_set (i := 1) sc_bare.nd rfl (by first | exact .inl rfl | exact .inr rfl) (pe_not (pv 1))))))
      (pss_one (ps_ret (pe_tup (pa_cons (pv 0) (pa_cons (pv 1) pa_nil))))))), ?_⟩
  walk_at "st"
  walk_at "vc"
  refine ⟨fun σ H' => H' = H ∧ ∃ u' b, σ = [some u', some (.bl b)] ∧ TestO K ⟨a_Put, a_If, a_Times, a_Stop, a_Ask, a_Not⟩ H (.ask t.core.1 t.core.2) u' ∧ b = t.odd, ⟨fun m σ H' => H' = H ∧ ∃ s u' b, σ = [some u', some (.bl b)] ∧ TestO K ⟨a_Put, a_If, a_Times, a_Stop, a_Ask, a_Not⟩ H s u' ∧ s.dep = m ∧ s.core = t.core ∧ t.odd = (b == s.odd), ⟨_, rfl, t, u, true, rfl, hO, rfl, rfl, by cases t.odd <;> rfl⟩, fun m σ H' hw => ?_⟩, fun σ H' hm => ?_⟩
  · obtain ⟨rfl, s, u', b, rfl, hs, rfl, hc, ho⟩ := hw
    walk_at "vc"
    cases s with
    | ask x ns =>
      obtain ⟨a, dx, q0, rfl, h2, h3⟩ := hs
      refine ⟨_, _, _, _, false, rfl, .own _, T.oc_Ask.ty h2, kitO1 T.kits 4 5 (by decide) (by decide), _, rfl, ?_⟩
      rw [if_neg (by decide)]
      rw [← hc]
      refine ⟨rfl, ⟨a, dx, q0, rfl, h2, h3⟩, ?_⟩
      rw [ho]
      cases b <;> rfl
    | not s =>
      obtain ⟨a, dx, v, rfl, h2, h3⟩ := hs
      refine ⟨_, _, _, _, true, rfl, .own _, T.oc_Not.ty h2, kitO1 T.kits 5 5 (by decide) (by decide), _, rfl, ?_⟩
      rw [if_pos rfl]
      refine ⟨_, fun _ _ hN => hN, _, rfl, a, _, dx, _, v, rfl, h2, T.oc_Not.cl, T.nF_Not_test, rfl, s.dep, Nat.lt_succ_self _, ?_⟩
      refine ⟨rfl, _, _, _, rfl, h3, rfl, hc, ?_⟩
      rw [ho, TestM.odd]
      cases b <;> cases s.odd <;> rfl
  · obtain ⟨rfl, u', b, rfl, h3, rfl⟩ := hm
    walk_at "vc"
    refine ⟨sz_le (by simp), fun p hp => ?_⟩
    have ep := Ex.new hp (o := .tup [u', .bl t.odd])
    exact q p u' _ ep (st_of upd_same) (h3.kp (Kp.of_ex ep))
/-- the names that a row names itself -/
def strOf : V → Option Str
  | .str x => some x
  | _ => none
def RowM.nms : RowM → List Str
  | .put n _ g => n :: g.filterMap strOf
  | .ifr t _ _ => t.core.2
  | _ => []
def sp_named (K : PySem.W.Frag) (A : ClsA) : Sp
  | [v], H, Q, _ => ∃ r, RowO K A H r v ∧ r.ok ∧ r.sm ∧ ∀ D H', Ex H H' → H D = none → H' D = some (.lst (r.nms.map V.str)) → Q (.ref D) H'
  | _, _, _, _ => False
def C_nmd (D : Addr) (g : List V) (H : Hp) : Nat → Hp → Prop := fun i H' => H' D = some (.lst (((g.take i).filterMap strOf).map V.str)) ∧ Ex H H'
theorem ok_named (T : Txt w K mg a_is_integer a_is_number a_is_name a_are_rows a_texts a_needed a_fits a_is_of a_inner a_flat a_names_in a_bare a_named a_law_deal a_law_draw a_law_pick a_law_words a_law_kinds a_law_put a_law_ask a_law_count a_law_rows a_law_ask_text a_law_lines a_law_all_lines a_law_ask_of a_law_row_of a_law_deed a_law_begun a_law_alike a_law a_NoRow_init a_InvalidRow_init a_Put_init a_Put_eq a_Put_str a_If_init a_If_eq a_If_str a_Times_init a_Times_eq a_Times_str a_Stop_eq a_Stop_str a_Ask_init a_Ask_eq a_Ask_str a_Not_init a_Not_eq a_Not_str a_Program_init a_Program_str a_Sheet_init a_Sheet_drop a_Sheet_made a_Sheet_len a_Sheet_getitem a_Sheet_setitem a_Sheet_iadd a_NoRow a_InvalidRow a_Put a_If a_Times a_Stop a_Ask a_Not a_Row a_Test a_Program a_Sheet a_DEEDS a_SIGNS a_WORDS a_If_init_d0 a_Program_init_d0 a_Sheet_init_d0 d_is_integer d_is_number d_is_name d_are_rows d_texts d_needed d_fits d_is_of d_inner d_flat d_names_in d_bare d_named d_law_deal d_law_draw d_law_pick d_law_words d_law_kinds d_law_put d_law_ask d_law_count d_law_rows d_law_ask_text d_law_lines d_law_all_lines d_law_ask_of d_law_row_of d_law_deed d_law_begun d_law_alike d_law d_NoRow_init d_InvalidRow_init d_Put_init d_Put_eq d_Put_str d_If_init d_If_eq d_If_str d_Times_init d_Times_eq d_Times_str d_Stop_eq d_Stop_str d_Ask_init d_Ask_eq d_Ask_str d_Not_init d_Not_eq d_Not_str d_Program_init d_Program_str d_Sheet_init d_Sheet_drop d_Sheet_made d_Sheet_len d_Sheet_getitem d_Sheet_setitem d_Sheet_iadd) : FnOk P w K mg base CX0 2 a_named d_named ["row"] (sp_named K ⟨a_Put, a_If, a_Times, a_Stop, a_Ask, a_Not⟩) := by
  have G_bare := ok_bare (P := P) (w := w) (base := base) T
  refine T.F_named.ok sc_named (fun vs H Q E h => ?_) (fun cdv A outer s H vs Q E hr h => ?_)
  · unfold sp_named at h; split at h; rfl; exact h.elim
  unfold sp_named at h; split at h
  case h_2 => exact h.elim
  rename_i v
  obtain ⟨r, hO, hok, hsm, q⟩ := h
  refine ⟨_, (pss_cons (ps_if (pt_val (pe_callB (call_isiK (K := K)) (by rfl) T.z_isinstance (by decide +kernel) (pa_cons (pv 0) (pa_cons (pe_glob (v := .ref a_Put) (by rfl) T.g_Put rfl) pa_nil))))
      (pss_one (ps_ret (pe_op op_cat (pe_lst (pa_cons (pe_fld (pv 0) (by rfl)) pa_nil)) (pe_lc (own := [("one", 1)]) (g := gName 1) (by rfl) sc_named.nd (pi_tup (pe_fld (pv 0) (by rfl))) (blkOk_by (own := [("one", 1)]) (N := N_named) (sc := defScope s_named) (by decide +kernel)) (fun _ _ _ _ _ => (pg_name (i := 1) sc_named.nd rfl (by first | exact .inl rfl | exact .inr rfl))) (fun _ _ _ _ _ => (pts_one (pt_val (pe_callB call_isiV (by rfl) T.z_isinstance (by decide +kernel) (pa_cons (pv 1) (pa_cons (pe_bltn (v := .ty "str") (by rfl) T.z_str (by decide +kernel) rfl) pa_nil)))))) (fun _ _ _ _ _ => (pv 1))))))
      pss_nil)
      (pss_cons (ps_if (pt_val (pe_callB (call_isiK (K := K)) (by rfl) T.z_isinstance (by decide +kernel) (pa_cons (pv 0) (pa_cons (pe_glob (v := .ref a_If) (by rfl) T.g_If rfl) pa_nil))))
      (pss_one (ps_ret (pe_callTy call_list_of (by rfl) T.z_list (by decide +kernel) (pa_cons (pe_fld (pe_ix ix_tup (pe_call G_bare (hr.mono (by omega)) (by rfl) T.g_bare T.F_bare.kp T.b_bare .nil pass0 (pa_cons (pe_fld (pv 0) (by rfl)) pa_nil)) pe_int (fun _ _ => rfl)) (by rfl)) pa_nil))))
      pss_nil)
      (pss_one (ps_ret (pe_lst pa_nil))))), ?_⟩
  walk_at "st"
  walk_at "vc"
  cases r with
  | stop =>
    refine isClsR T 0 false (by decide) rfl hO fun a dx fs C e ha _ hC => ⟨_, rfl, ?_⟩
    rw [if_neg (show ¬ false = true by decide)]
    refine isClsR T 1 false (by decide) rfl hO fun a dx fs C e ha _ hC => ⟨_, rfl, ?_⟩
    rw [if_neg (show ¬ false = true by decide)]
    exact ⟨sz_le (by simp), fun p hp => q p _ (Ex.new hp) hp upd_same⟩
  | times c rs =>
    refine isClsR T 0 false (by decide) rfl hO fun a dx fs C e ha _ hC => ⟨_, rfl, ?_⟩
    rw [if_neg (show ¬ false = true by decide)]
    refine isClsR T 1 false (by decide) rfl hO fun a dx fs C e ha _ hC => ⟨_, rfl, ?_⟩
    rw [if_neg (show ¬ false = true by decide)]
    exact ⟨sz_le (by simp), fun p hp => q p _ (Ex.new hp) hp upd_same⟩
  | ifr t rs os =>
    refine isClsR T 0 false (by decide) rfl hO fun a dx fs C e ha _ hC => ⟨_, rfl, ?_⟩
    rw [if_neg (show ¬ false = true by decide)]
    refine isClsR T 1 true (by decide) rfl hO fun a dx fs C e ha _ hC => ⟨_, rfl, ?_⟩
    rw [if_pos (show true = true from rfl)]
    unfold RowO at hO
    obtain ⟨b, dy, u, q0, q1, vs, ws, rfl, h2, ht, h3, h4, h5, h6⟩ := hO
    have htd := hok.2.1
    walk_at "vc"
    refine ⟨_, rfl, b, _, dy, _, u, rfl, h2, T.oc_If.cl, T.nF_If_test, rfl, t, ht, by omega, fun p u2 H1 e1 hp hu => ?_⟩
    obtain ⟨a3, dx3, q3, rfl, h7, h8⟩ := hu
    refine ⟨p, _, _, _, rfl, rfl, hp, rfl, a3, _, dx3, _, .ref q3, rfl, h7, T.oc_Ask.cl, T.nF_Ask_names, rfl, q3, rfl, _, .inr h8, fun l hl => q l _ (e1.trans (Ex.new hl)) ?_ upd_same⟩
    exact e_none e1 hl
  | put n d g =>
    refine isClsR T 0 true (by decide) rfl hO fun a dx fs C e ha _ hC => ⟨_, rfl, ?_⟩
    rw [if_pos (show true = true from rfl)]
    unfold RowO at hO
    obtain ⟨b, dy, q0, rfl, h2, h3⟩ := hO
    refine ⟨_, rfl, b, _, dy, _, .str n, rfl, h2, T.oc_Put.cl, T.nF_Put_name, rfl, sz_le (by simp), fun p hp => ?_⟩
    have ep := Ex.new hp (o := .lst [.str n])
    refine ⟨_, rfl, b, _, dy, _, .ref q0, rfl, ep _ _ h2, T.oc_Put.cl, T.nF_Put_given, rfl, q0, rfl, ⟨_, (Kp.of_ex ep).sqt h3⟩, fun D hD => lc_it (walk_tup (xs := g)) (C_nmd D g (upd H p (.lst [.str n]))) ⟨upd_same, Ex.new hD⟩ (fun i H' _ hP => (ep.trans hP.2).sqt h3) (fun i v H2 H' hi hP y => ?_) (fun H' hP => ?_)⟩
    · obtain ⟨rfl, hv⟩ := y
      walk_at "vc"
      rcases argT_all hok.2.1.choose_spec.2 v (List.mem_of_getElem? hv) with ⟨z, rfl⟩ | ⟨j, rfl, hj⟩
      · refine ⟨"str", rfl, true, by decide, ?_⟩
        rw [if_pos rfl]
        have hl : ((List.take i g).filterMap strOf).length ≤ 6 := by
          have h1 := List.length_filterMap_le strOf (List.take i g)
          have h2 : g.length ≤ 6 := hsm.2.2.1
          have h3 := List.length_take_le i g
          omega
        refine ⟨_, hP.1, sz_lt (by rw [List.length_map]; omega), ?_, hP.2.mut hD⟩
        rw [upd_same, List.take_add_one, hv, List.filterMap_append, List.map_append]
        rfl
      · refine ⟨"int", rfl, false, by decide, ?_⟩
        rw [if_neg (by decide)]
        refine ⟨?_, hP.2⟩
        rw [hP.1, List.take_add_one, hv, List.filterMap_append, List.map_append]
        show _ = some (HO.lst (_ ++ []))
        rw [List.append_nil]
    · have h1 := hP.1
      rw [List.take_length] at h1
      have hl : (g.filterMap strOf).length ≤ 6 := Nat.le_trans (List.length_filterMap_le strOf g) hsm.2.2.1
      have e1 := ep.trans hP.2
      exact catL_of (xs := [n]) (hP.2 _ _ upd_same) h1 (by rw [List.length_singleton]; omega) fun r H2 e2 hr wr => q r H2 (e1.trans e2) (e_none e1 hr) wr
theorem core_len : ∀ {t : TestM}, t.ok → t.core.2.length ≤ 2
  | .ask x ns, h => by
    have h1 := h.1
    simp only [wordTab, List.mem_cons, Prod.mk.injEq, List.not_mem_nil, or_false] at h1
    show ns.length ≤ 2
    omega
  | .not t, h => core_len (t := t) h
theorem arg_names : ∀ {ks : List Str} {g : List V}, All2T argOk ks g → (g.filterMap strOf).length ≤ (ks.filter fun k => decide (k = ("name" : Str))).length
  | [], [], _ => Nat.le_refl _
  | k :: ks, v :: g, ⟨h, t⟩ => by
    have ih := arg_names t
    rcases h with ⟨rfl, x, rfl, _⟩ | ⟨rfl, i, rfl, _⟩
    · rw [List.filter_cons, if_pos (decide_eq_true rfl), List.length_cons]
      show (x :: g.filterMap strOf).length ≤ _
      rw [List.length_cons]
      omega
    · rw [List.filter_cons, if_neg (by decide)]
      exact ih
  | [], _ :: _, h => h.elim
  | _ :: _, [], h => h.elim
theorem deed_names : ∀ p ∈ deedTab, (p.2.filter fun k => decide (k = ("name" : Str))).length ≤ 2 := by decide +kernel
theorem kinds_names {d : Str} {n : Nat} {ks : List Str} (h : kindsFor d n = some ks) : (ks.filter fun k => decide (k = ("name" : Str))).length ≤ 2 := by
  unfold kindsFor at h
  split at h
  · split at h
    · cases h
    · cases h
      rw [List.filter_eq_nil_iff.mpr fun a ha => by rw [(List.mem_replicate.mp ha).2]; decide]
      exact Nat.zero_le _
  · exact deed_names _ (lookup_mem h)
theorem nms_len {r : RowM} (hok : r.ok) (hsm : r.sm) : r.nms.length ≤ 3 := by
  cases r with
  | stop => exact Nat.zero_le _
  | times c rs => exact Nat.zero_le _
  | ifr t rs os => exact Nat.le_succ_of_le (core_len hok.1)
  | put n d g =>
    obtain ⟨ks, h1, h2⟩ := hok.2.1
    have := arg_names h2
    have := kinds_names h1
    show (n :: g.filterMap strOf).length ≤ 3
    rw [List.length_cons]
    omega
def RowM.nmss (rs : List RowM) : List Str := (RowM.flats rs).flatMap RowM.nms
theorem nmss_app (as bs : List RowM) : RowM.nmss (as ++ bs) = RowM.nmss as ++ RowM.nmss bs := by
  unfold RowM.nmss
  rw [flats_app, List.flatMap_append]
mutual
theorem flat_good : ∀ {r : RowM}, r.ok → r.sm → ∀ s ∈ r.flat, s.ok ∧ s.sm
  | .stop, h, k => fun s hs => by rw [RowM.flat, List.mem_singleton] at hs; rw [hs]; exact ⟨h, k⟩
  | .put _ _ _, h, k => fun s hs => by rw [RowM.flat, List.mem_singleton] at hs; rw [hs]; exact ⟨h, k⟩
  | .times _ rs, h, k => fun s hs => by
    rw [RowM.flat, List.mem_cons] at hs
    rcases hs with rfl | hs
    · exact ⟨h, k⟩
    · rw [RowM.ok] at h
      rw [RowM.sm] at k
      exact flats_good h.2.1 k s hs
  | .ifr _ rs os, h, k => fun s hs => by
    rw [RowM.flat, List.mem_cons, List.mem_append] at hs
    rcases hs with rfl | hs | hs
    · exact ⟨h, k⟩
    · rw [RowM.ok] at h
      rw [RowM.sm] at k
      exact flats_good h.2.2.1 k.2.1 s hs
    · rw [RowM.ok] at h
      rw [RowM.sm] at k
      exact flats_good h.2.2.2.2.1 k.2.2 s hs
theorem flats_good : ∀ {rs : List RowM}, RowM.oks rs → RowM.sms rs → ∀ s ∈ RowM.flats rs, s.ok ∧ s.sm
  | [], _, _ => fun s hs => by rw [RowM.flats] at hs; cases hs
  | r :: rs, h, k => fun s hs => by
    rw [RowM.flats, List.mem_append] at hs
    rw [RowM.oks] at h
    rw [RowM.sms] at k
    rcases hs with hs | hs
    · exact flat_good h.1 k.1 s hs
    · exact flats_good h.2 k.2 s hs
end
theorem nmss_len : ∀ {rs : List RowM}, (∀ s ∈ rs, s.ok ∧ s.sm) → (rs.flatMap RowM.nms).length ≤ 3 * rs.length
  | [], _ => by simp
  | r :: rs, h => by
    have h1 := nms_len (h r (by simp)).1 (h r (by simp)).2
    have h2 := nmss_len (rs := rs) fun s hs => h s (List.mem_cons_of_mem _ hs)
    rw [List.flatMap_cons, List.length_append, List.length_cons]
    omega
def sp_names_in (K : PySem.W.Frag) (A : ClsA) : Sp
  | [.ref p], H, Q, _ => ∃ rs vs, (H p = some (.lst vs) ∨ SqT K H p vs) ∧ RowOs K A H rs vs ∧ RowM.oks rs ∧ RowM.sms rs ∧ RowM.deps rs < 10 ∧ RowM.cnts rs ≤ 20 ∧ ∀ q ys H', Ex H H' → H' q = some (.tup (ys.map V.str)) → NmOf (RowM.nmss rs) ys ∧ ys.length ≤ 3 * RowM.cnts rs → Q (.ref q) H'
  | _, _, _, _ => False
theorem ok_names_in (T : Txt w K mg a_is_integer a_is_number a_is_name a_are_rows a_texts a_needed a_fits a_is_of a_inner a_flat a_names_in a_bare a_named a_law_deal a_law_draw a_law_pick a_law_words a_law_kinds a_law_put a_law_ask a_law_count a_law_rows a_law_ask_text a_law_lines a_law_all_lines a_law_ask_of a_law_row_of a_law_deed a_law_begun a_law_alike a_law a_NoRow_init a_InvalidRow_init a_Put_init a_Put_eq a_Put_str a_If_init a_If_eq a_If_str a_Times_init a_Times_eq a_Times_str a_Stop_eq a_Stop_str a_Ask_init a_Ask_eq a_Ask_str a_Not_init a_Not_eq a_Not_str a_Program_init a_Program_str a_Sheet_init a_Sheet_drop a_Sheet_made a_Sheet_len a_Sheet_getitem a_Sheet_setitem a_Sheet_iadd a_NoRow a_InvalidRow a_Put a_If a_Times a_Stop a_Ask a_Not a_Row a_Test a_Program a_Sheet a_DEEDS a_SIGNS a_WORDS a_If_init_d0 a_Program_init_d0 a_Sheet_init_d0 d_is_integer d_is_number d_is_name d_are_rows d_texts d_needed d_fits d_is_of d_inner d_flat d_names_in d_bare d_named d_law_deal d_law_draw d_law_pick d_law_words d_law_kinds d_law_put d_law_ask d_law_count d_law_rows d_law_ask_text d_law_lines d_law_all_lines d_law_ask_of d_law_row_of d_law_deed d_law_begun d_law_alike d_law d_NoRow_init d_InvalidRow_init d_Put_init d_Put_eq d_Put_str d_If_init d_If_eq d_If_str d_Times_init d_Times_eq d_Times_str d_Stop_eq d_Stop_str d_Ask_init d_Ask_eq d_Ask_str d_Not_init d_Not_eq d_Not_str d_Program_init d_Program_str d_Sheet_init d_Sheet_drop d_Sheet_made d_Sheet_len d_Sheet_getitem d_Sheet_setitem d_Sheet_iadd) : FnOk P w K mg base CX0 20 a_names_in d_names_in ["rows"] (sp_names_in K ⟨a_Put, a_If, a_Times, a_Stop, a_Ask, a_Not⟩) := by
  have G_flat := ok_flat (P := P) (w := w) (base := base) T 15 (by decide)
  have G_named := ok_named (P := P) (w := w) (base := base) T
  refine T.F_names_in.ok sc_names_in (fun vs H Q E h => ?_) (fun cdv A outer s H vs Q E hr h => ?_)
  · unfold sp_names_in at h; split at h; rfl; exact h.elim
  unfold sp_names_in at h; split at h
  case h_2 => exact h.elim
  rename_i p
  obtain ⟨rs, vs, hp, hO, hok, hsm, hd, hc, q⟩ := h
  refine ⟨_, (pss_cons (ps_set (i := 1) sc_names_in.nd rfl (by first | exact .inl rfl | exact .inr rfl) pe_dnewK)
      (Evl.pss_cut (ps_for PassesOwn.never rfl (pi_list (pe_call G_flat (hr.mono (by omega)) (by rfl) T.g_flat T.F_flat.kp T.b_flat .nil pass0 (pa_cons (pv 0) pa_nil))) (pg_name (i := 2) sc_names_in.nd rfl (by first | exact .inl rfl | exact .inr rfl))
      (pss_one (ps_for PassesOwn.never rfl (pi_list (pe_call G_named (hr.mono (by omega)) (by rfl) T.g_named T.F_named.kp T.b_named .nil pass0 (pa_cons (pv 2) pa_nil))) (pg_name (i := 3) sc_names_in.nd rfl (by first | exact .inl rfl | exact .inr rfl))
      (pss_one (ps_dput (un1 hr.units) (pv 1) (pv 3) pe_bl rfl)))))
      (pss_one (ps_ret (pe_callTy call_tuple_of (by rfl) T.z_tuple (by decide +kernel) (pa_cons (pe_callB L2.cr_sortedS (by rfl) T.z_sorted (by decide +kernel) (pa_cons (pe_lock (pe_lc (own := [("name", 3)]) (g := gName 3) (by rfl) sc_names_in.nd (pi_keys (pv 1)) (blkOk_by (own := [("name", 3)]) (N := N_names_in) (sc := defScope s_names_in) (by decide +kernel)) (fun _ _ _ _ _ => (pg_name (i := 3) sc_names_in.nd rfl (by first | exact .inl rfl | exact .inr rfl))) (fun _ _ _ _ _ => pts_nil) (fun _ _ _ _ _ => (pe_callTy call_strA (by rfl) T.z_str (by decide +kernel) (pa_cons (pv 3) pa_nil))))) pa_nil)) pa_nil)))))), ?_⟩
  walk_at "st"
  walk_at "vc"
  refine fun f hf => ⟨fun σ H' => ∃ x y ks, σ = [some (.ref p), some (.ref f), x, y] ∧ H' f = some (.dK (asB ks)) ∧ ks = addAll [] (RowM.nmss rs) ∧ Ex H H', ?_, fun σ H' hm => ?_⟩
  · have ef := Ex.new hf (o := .dK [])
    have hp1 : upd H f (.dK []) p = some (.lst vs) ∨ SqT K (upd H f (.dK [])) p vs := hp.imp (fun h => ef _ _ h) (fun h => (Kp.of_ex ef).sqt h)
    refine ⟨_, rfl, rs, vs, hp1, hO.kp (Kp.of_ex ef), .inl (by omega), by omega, fun D ws H1 e1 hD wD hW => ?_⟩
    have w1 := e1 _ _ (upd_same (H := H) (a := f) (o := .dK []))
    have nDf : D ≠ f := fun e => by rw [e, upd_same] at hD; cases hD
    have eH1 := ef.trans e1
    have hfl := hW.len
    rw [flats_len] at hfl
    refine ⟨D, rfl, ⟨_, sq_of wD⟩, for_list (xs := ws) (fun i σ H' => ∃ x y, σ = [some (.ref p), some (.ref f), x, y] ∧ H' f = some (.dK (asB (addAll [] (((RowM.flats rs).take i).flatMap RowM.nms)))) ∧ Off f H1 H') ⟨_, _, rfl, w1, fun _ _ _ h => h⟩ (fun i σ H' _ hv => sq_of (hv.choose_spec.choose_spec.2.2 _ _ nDf wD)) (fun i v σ H2 hi hv => ?_) (fun σ H' hv => ?_)⟩
    · obtain ⟨x, y, rfl, h1, h2⟩ := hv
      walk_at "vc"
      obtain ⟨r, hr0, hr1⟩ := hW.at_ hi
      have gd := flats_good hok hsm r (List.mem_of_getElem? hr0)
      have kp2 : Kd H1 H2 := fun b o _ nk hb => h2 b o (fun e => by rw [e, w1] at hb; cases hb; exact nk _ rfl) hb
      refine ⟨_, rfl, r, hr1.kd kp2, gd.1, gd.2, fun L H3 e3 hL wL => ⟨L, rfl, ⟨_, sq_of wL⟩, ?_⟩⟩
      have w3 := e3 _ _ h1
      have nLf : L ≠ f := fun e => by rw [e, h1] at hL; cases hL
      refine for_list (xs := r.nms.map V.str) (fun j σ H' => ∃ x y, σ = [some (.ref p), some (.ref f), x, y] ∧ H' f = some (.dK (asB (addAll [] (((RowM.flats rs).take i).flatMap RowM.nms ++ r.nms.take j)))) ∧ Off f H3 H') ⟨_, _, rfl, by rw [List.take_zero, List.append_nil]; exact w3, fun _ _ _ h => h⟩ (fun j σ H' _ hv => sq_of (hv.choose_spec.choose_spec.2.2 _ _ nLf wL)) (fun j v σ H4 hj hv => ?_) (fun σ H' hv => ?_)
      · obtain ⟨x, y, rfl, h3, h4⟩ := hv
        rw [List.getElem?_map] at hj
        obtain ⟨u, hu, rfl⟩ := Option.map_eq_some_iff.mp hj
        unfold sDPut
        walk_at "vc"
        refine ⟨_, DPut.k (k := .inr u) h3 ?_, ?_, h4.set⟩
        · have l1 := addAll_len (((RowM.flats rs).take i).flatMap RowM.nms ++ r.nms.take j) []
          have l2 := nmss_len (fun s hs => flats_good hok hsm s (List.mem_of_mem_take (i := i) hs)) (rs := (RowM.flats rs).take i)
          have l3 := nms_len gd.1 gd.2
          have l4 : (List.take j r.nms).length ≤ r.nms.length := by rw [List.length_take]; omega
          have l5 : (List.take i (RowM.flats rs)).length ≤ (RowM.flats rs).length := by rw [List.length_take]; omega
          rw [flats_len] at l5
          rw [List.length_append, List.length_nil] at l1
          rw [asB_len, sizeLine_eq]
          omega
        · rw [upd_same, putK_asB, List.take_add_one, hu, ← List.append_assoc]
          show _ = some (HO.dK (asB (addAll [] (_ ++ [u]))))
          rw [addAll_snoc]
      · obtain ⟨x, y, rfl, h3, h4⟩ := hv
        rw [List.length_map, List.take_length] at h3
        refine ⟨_, _, rfl, ?_, fun b o n h => h4 b o n (e3 b o (h2 b o n h))⟩
        rw [List.take_add_one, hr0, List.flatMap_append]
        simpa using h3
    · obtain ⟨x, y, rfl, h1, h2⟩ := hv
      rw [hfl, ← flats_len, List.take_length] at h1
      exact ⟨x, y, _, rfl, h1, rfl, fun b o h => h2 b o (fun e => by rw [e, hf] at h; cases h) (eH1 b o h)⟩
  · obtain ⟨x, y, ks, rfl, h1, rfl, h2⟩ := hm
    walk_at "vc"
    refine ⟨f, _, h1, trivial, fun od => ?_⟩
    walk_at "vc"
    have hks : (addAll [] (RowM.nmss rs)).length ≤ 3 * RowM.cnts rs := by
      have l1 := addAll_len (RowM.nmss rs) []
      have l2 := nmss_len (fun s hs => flats_good hok hsm s hs) (rs := RowM.flats rs)
      rw [flats_len] at l2
      rw [List.length_nil] at l1
      unfold RowM.nmss at l1 ⊢
      omega
    have eF : Ex H (upd H' f (.frz od (.dK (asB (addAll [] (RowM.nmss rs)))))) := h2.mut hf
    have hnm := @NmOf.of (RowM.nmss rs)
    generalize addAll [] (RowM.nmss rs) = ks at *
    refine ⟨.ref f, rfl, f, od, rfl, .inl ⟨_, upd_same, fun D0 hD0 => ?_⟩⟩
    have hD0H : H D0 = none := e_none eF hD0
    have npD : f ≠ D0 := fun e => by rw [← e, upd_same] at hD0; cases hD0
    refine lc_it walk_keys (fun i H' => H' D0 = some (.lst ((ks.take i).map V.str)) ∧ Ex H H' ∧ H' f = some (.frz od (.dK (asB ks)))) ⟨upd_same, eF.mut hD0H, by rw [upd_ne npD]; exact upd_same⟩ (fun i H' _ hP => hP.2.2) (fun t v H3 H4 ht hP y => ?_) (fun H3 hP => ?_)
    · obtain ⟨rfl, k, z, hkz, rfl⟩ := y
      unfold asB at hkz
      rw [List.getElem?_map] at hkz
      obtain ⟨x, hx, e⟩ := Option.map_eq_some_iff.mp hkz
      cases e
      have htl := (List.getElem?_eq_some_iff.mp hx).1
      walk_at "vc"
      show ∃ acc, H4 D0 = some (HO.lst acc) ∧ acc.length < sizeLine ∧ _ ∧ _ ∧ _
      refine ⟨_, hP.1, sz_lt (by rw [List.length_map, List.length_take]; omega), ?_, hP.2.1.mut hD0H, by rw [upd_ne npD]; exact hP.2.2⟩
      rw [upd_same, List.take_add_one, hx, List.map_append]
      rfl
    obtain ⟨g1, e3, g3⟩ := hP
    refine ⟨g3, ?_⟩
    rw [asB_len, List.take_length] at g1
    have g4 : upd H3 f (.dK (asB ks)) D0 = some (.lst (ks.map V.str)) := by rw [upd_ne npD.symm]; exact g1
    have e4 : Ex H (upd H3 f (.dK (asB ks))) := e3.mut hf
    generalize upd H3 f (.dK (asB ks)) = H4 at *
    refine ⟨D0, ks, rfl, sq_of g4, by omega, fun ys s1 perm so hs1 => ?_⟩
    exact ⟨s1, rfl, _, .inl ⟨sq_of upd_same, fun l hl => q l ys _ ((e4.trans (Ex.new hs1)).trans (Ex.new hl)) upd_same ⟨hnm perm so, by rw [perm.length_eq]; exact hks⟩⟩⟩
end
end My
set_option Elab.async false
set_option linter.all false
set_option maxRecDepth 100000
set_option maxHeartbeats 4000000
set_option exponentiation.threshold 5000
namespace My
open PySem PySem.Spec PyProof.Rows L2 Evl
local macro_rules | `(tactic| walk_at "st") => `(tactic| simp only [L2.start, List.map_cons, List.map_nil, List.length_cons, List.length_nil, Nat.reduceAdd, Nat.reduceSub, List.replicate_succ, List.replicate_zero, List.cons_append, List.nil_append, cxOf, List.append_nil])
local macro_rules | `(tactic| walk_at "vc") => `(tactic| try simp only [tSeq, tAsg, tOp, tUn, tVar, tC, tNil, tCons, gName, rI, rI0, rU, tRet, tIfS, tNot, tAnd, tOr, tB, tTest, tCB, tCall, tAndV, tOrV, tNotV, tNext, tNever, tIf, tChain, tYes, tPart, tNoPart, tPar, tDrop, q_isi, q_vn, q_vb, q_vi, q_vs, kb1, kb2, kb3, kb4, kb5, kb6, kb7, kb8, q_int1, q_int2, q_min, q_max, q_repr, tLst, tTup, rEq, rNe, q_sii, q_sss, q_sbb, q_snn, q_sns, q_ssn, q_ix, q_sl, tSl, tBM, tBM0, q_app, q_pop, gSub, rSetL, L2.wipe, eq_self, decide_true, decide_false, tRevL,
  List.getElem?_cons_succ, List.getElem?_cons_zero, List.set_cons_succ, List.set_cons_zero, Option.some.injEq, exists_eq_left', exists_eq_left, V.int.injEq, V.bl.injEq, V.ref.injEq, V.str.injEq, List.cons.injEq, and_true, true_and, List.append_nil, List.nil_append, List.cons_append, exists_and_left, and_assoc, if_true, if_false, Bool.not_true, Bool.not_false, Bool.false_eq_true, Bool.true_eq_false, reduceIte, tRevL, tPar3, tRevT, tUnl, tCKw, forall_const, Bool.not_eq_true', decide_eq_true_eq, decide_eq_false_iff_not])
section
variable {P : Program} {w : World} {K : PySem.W.Frag} {mg : Str → Option Value} {base : Heap}
variable {a_is_integer a_is_number a_is_name a_are_rows a_texts a_needed a_fits a_is_of a_inner a_flat a_names_in a_bare a_named a_law_deal a_law_draw a_law_pick a_law_words a_law_kinds a_law_put a_law_ask a_law_count a_law_rows a_law_ask_text a_law_lines a_law_all_lines a_law_ask_of a_law_row_of a_law_deed a_law_begun a_law_alike a_law a_NoRow_init a_InvalidRow_init a_Put_init a_Put_eq a_Put_str a_If_init a_If_eq a_If_str a_Times_init a_Times_eq a_Times_str a_Stop_eq a_Stop_str a_Ask_init a_Ask_eq a_Ask_str a_Not_init a_Not_eq a_Not_str a_Program_init a_Program_str a_Sheet_init a_Sheet_drop a_Sheet_made a_Sheet_len a_Sheet_getitem a_Sheet_setitem a_Sheet_iadd a_NoRow a_InvalidRow a_Put a_If a_Times a_Stop a_Ask a_Not a_Row a_Test a_Program a_Sheet a_DEEDS a_SIGNS a_WORDS a_If_init_d0 a_Program_init_d0 a_Sheet_init_d0 : Addr} {d_is_integer d_is_number d_is_name d_are_rows d_texts d_needed d_fits d_is_of d_inner d_flat d_names_in d_bare d_named d_law_deal d_law_draw d_law_pick d_law_words d_law_kinds d_law_put d_law_ask d_law_count d_law_rows d_law_ask_text d_law_lines d_law_all_lines d_law_ask_of d_law_row_of d_law_deed d_law_begun d_law_alike d_law d_NoRow_init d_InvalidRow_init d_Put_init d_Put_eq d_Put_str d_If_init d_If_eq d_If_str d_Times_init d_Times_eq d_Times_str d_Stop_eq d_Stop_str d_Ask_init d_Ask_eq d_Ask_str d_Not_init d_Not_eq d_Not_str d_Program_init d_Program_str d_Sheet_init d_Sheet_drop d_Sheet_made d_Sheet_len d_Sheet_getitem d_Sheet_setitem d_Sheet_iadd : FuncData}
/-! ### programs -/
/-- what rows a program may have here -/
def GdP (rs : List RowM) : Prop := RowM.oks rs ∧ RowM.sms rs ∧ RowM.deps rs < 4 ∧ RowM.cnts rs ≤ 20
def ProgO (K : PySem.W.Frag) (A : ClsA) (CP : Addr) (H : Hp) (rs : List RowM) (vs : List V) (v : V) : Prop := ∃ a dx q n ys, v = .ref a ∧ H a = some (.ins CP dx [("rows", .ref q), ("names", .ref n)]) ∧ SqT K H q vs ∧ RowOs K A H rs vs ∧ SqT K H n (ys.map V.str) ∧ NmOf (RowM.nmss rs) ys ∧ ys.length ≤ 3 * RowM.cnts rs
theorem SqT.off {K : PySem.W.Frag} {a C dx p : Addr} {fs : List (Str × V)} {H H1 : Hp} {vs : List V} (o : Off a H H1) (h1 : H a = some (.ins C dx fs)) (h : SqT K H p vs) : SqT K H1 p vs := by
  rcases h with (h | ⟨u, h⟩) | h
  · exact .inl (.inl (o _ _ (fun e => by rw [e, h1] at h; cases h) h))
  · exact .inl (.inr ⟨u, o _ _ (fun e => by rw [e, h1] at h; cases h) h⟩)
  · exact .inr h
theorem tupleX2 {K : PySem.W.Frag} {i : Nat} {σ : L2.St} {a p C dx : Addr} {fs : List (Str × V)} {H H1 : Hp} {vs : List V} {Q : VK} (hs : σ[i]? = some (some (.ref p))) (o : Off a H H1) (h1 : H a = some (.ins C dx fs)) (h3 : H p = some (.lst vs) ∨ SqT K H p vs) (ha : H1 a ≠ none)
    (q : ∀ r H2, Ex H1 H2 → SqT K H2 r vs → Q (.ref r) H2) : tCB (fun xs H Q => ∃ p, xs = [V.ref p] ∧ ∃ x, (SqL K H p x ∧ ∀ (l : Addr), H l = none → Q (V.ref l) (upd H l (HO.tup x))) ∨ SqT K H p x ∧ Q (V.ref p) H) (tCons (tVar i) tNil) σ H1 Q := by
  refine ⟨_, hs, p, rfl, vs, ?_⟩
  rcases h3 with h | h
  · exact .inl ⟨sq_of (o _ _ (fun e => by rw [e, h1] at h; cases h) h), fun l hl => q l _ (Ex.new hl) (st_of upd_same)⟩
  · exact .inr ⟨SqT.off o h1 h, q p H1 (Ex.refl _) (SqT.off o h1 h)⟩
/-- a heap without what stands at p -/
def delL (H : Hp) (p : Addr) : Hp := fun b => if b = p then none else H b
theorem delL_ne {H : Hp} {p b : Addr} (h : b ≠ p) : delL H p b = H b := if_neg h
theorem delL_same {H : Hp} {p : Addr} : delL H p p = none := if_pos rfl
theorem delL_off {H H1 : Hp} {p : Addr} (o : Off p H H1) : Ex (delL H p) H1 := fun b u h => by
  by_cases e : b = p
  · rw [e, delL_same] at h; cases h
  · rw [delL_ne e] at h; exact o b u e h
theorem delL_new {H : Hp} {p : Addr} {o : HO} (h : H p = none) : Ex H (delL (upd H p o) p) := fun b u hb => by
  have e : b ≠ p := fun e => by rw [e, h] at hb; cases hb
  rw [delL_ne e, upd_ne e]; exact hb
/-- made: rows, names -/
def sp_Program_init (K : PySem.W.Frag) (A : ClsA) (CP : Addr) : Sp
  | [.ref a, .ref p], H, Q, _ => ∃ dx rs vs, H a = some (.ins CP dx []) ∧ (H p = some (.lst vs) ∨ SqT K H p vs) ∧ RowOs K A (delL H a) rs vs ∧ GdP rs ∧ ∀ H1, Off a H H1 → ProgO K A CP H1 rs vs (.ref a) → Q .non H1
  | _, _, _, _ => False
theorem mkProg {K : PySem.W.Frag} {A : ClsA} {CP : Addr} {H : Hp} {x dx p : Addr} {rs : List RowM} {vs : List V} {R : VK} {E : XK} (hx : H x = none) (hdx : H dx = none) (hne : dx ≠ x) (hp : H p = some (.lst vs) ∨ SqT K H p vs) (hO : RowOs K A H rs vs) (hg : GdP rs)
    (q : ∀ H2, Ex H H2 → ProgO K A CP H2 rs vs (.ref x) → R .non H2) : sp_Program_init K A CP [.ref x, .ref p] (upd (upd H dx (.own x)) x (.ins CP dx [])) R E := by
  have e1 : Ex H (upd H dx (.own x)) := Ex.new hdx
  have h1 : upd H dx (.own x) x = none := by rw [upd_ne (Ne.symm hne)]; exact hx
  have e2 : Ex H (upd (upd H dx (.own x)) x (.ins CP dx [])) := e1.trans (Ex.new h1)
  refine ⟨dx, rs, vs, upd_same, hp.imp (fun h => e2 _ _ h) (fun h => (Kp.of_ex e2).sqt h), hO.kp (Kp.of_ex (e1.trans (delL_new h1))), hg, fun H1 o hP => q H1 (fun b u hb => ?_) hP⟩
  exact o b u (fun e => by rw [e, hx] at hb; cases hb) (e2 b u hb)
theorem ok_Program_init0 (T : Txt w K mg a_is_integer a_is_number a_is_name a_are_rows a_texts a_needed a_fits a_is_of a_inner a_flat a_names_in a_bare a_named a_law_deal a_law_draw a_law_pick a_law_words a_law_kinds a_law_put a_law_ask a_law_count a_law_rows a_law_ask_text a_law_lines a_law_all_lines a_law_ask_of a_law_row_of a_law_deed a_law_begun a_law_alike a_law a_NoRow_init a_InvalidRow_init a_Put_init a_Put_eq a_Put_str a_If_init a_If_eq a_If_str a_Times_init a_Times_eq a_Times_str a_Stop_eq a_Stop_str a_Ask_init a_Ask_eq a_Ask_str a_Not_init a_Not_eq a_Not_str a_Program_init a_Program_str a_Sheet_init a_Sheet_drop a_Sheet_made a_Sheet_len a_Sheet_getitem a_Sheet_setitem a_Sheet_iadd a_NoRow a_InvalidRow a_Put a_If a_Times a_Stop a_Ask a_Not a_Row a_Test a_Program a_Sheet a_DEEDS a_SIGNS a_WORDS a_If_init_d0 a_Program_init_d0 a_Sheet_init_d0 d_is_integer d_is_number d_is_name d_are_rows d_texts d_needed d_fits d_is_of d_inner d_flat d_names_in d_bare d_named d_law_deal d_law_draw d_law_pick d_law_words d_law_kinds d_law_put d_law_ask d_law_count d_law_rows d_law_ask_text d_law_lines d_law_all_lines d_law_ask_of d_law_row_of d_law_deed d_law_begun d_law_alike d_law d_NoRow_init d_InvalidRow_init d_Put_init d_Put_eq d_Put_str d_If_init d_If_eq d_If_str d_Times_init d_Times_eq d_Times_str d_Stop_eq d_Stop_str d_Ask_init d_Ask_eq d_Ask_str d_Not_init d_Not_eq d_Not_str d_Program_init d_Program_str d_Sheet_init d_Sheet_drop d_Sheet_made d_Sheet_len d_Sheet_getitem d_Sheet_setitem d_Sheet_iadd) : FnOk P w K mg base CX0 25 a_Program_init d_Program_init ["self", "rows"] (sp_Program_init K ⟨a_Put, a_If, a_Times, a_Stop, a_Ask, a_Not⟩ a_Program) := by
  have G_are_rows := ok_are_rows (P := P) (w := w) (base := base) T
  have G_names_in := ok_names_in (P := P) (w := w) (base := base) T
  refine T.F_Program_init.ok sc_Program_init (fun vs H Q E h => ?_) (fun cdv A outer s H vs Q E hr h => ?_)
  · unfold sp_Program_init at h; split at h; rfl; exact h.elim
  unfold sp_Program_init at h; split at h
  case h_2 => exact h.elim
  rename_i a p
  obtain ⟨dx, rs, vs, h1, h3, hO, hg, q⟩ := h
  refine ⟨_, ((pss_cons (ps_if (pt_not (pt_val (pe_call G_are_rows (hr.mono (by decide)) (by rfl) T.g_are_rows T.F_are_rows.kp T.b_are_rows .nil pass0 (pa_cons (pv 1) pa_nil))))
      (pss_one ps_never)
      pss_nil)
      (pss_cons (ps_fld (pv 0) (pe_callTy call_tuple_of (by rfl) T.z_tuple (by decide +kernel) (pa_cons (pv 1) pa_nil)) (by rfl))
      (pss_one (ps_fld (pv 0) (pe_call G_names_in (hr.mono (by decide)) (by rfl) T.g_names_in T.F_names_in.kp T.b_names_in .nil pass0 (pa_cons (pv 1) pa_nil)) (by rfl)))))).nox, ?_⟩
  walk_at "st"
  walk_at "vc"
  obtain ⟨hok, hsm, hd, hc⟩ := hg
  have hO0 := hO.kp (Kp.of_ex (delL_off (fun _ _ _ h => h)))
  have hlen := hO.len
  have hcl := cnts_len rs
  refine ⟨rs, vs, h3, hO0, by omega, fun H1 e1 => ⟨true, rfl, ?_⟩⟩
  rw [if_neg (by decide)]
  unfold sFld
  refine tupleX2 rfl (Off.of e1) h1 h3 (by rw [e1 _ _ h1]; simp) fun r H2 e2 hr => ?_
  have w2 := e2 _ _ (e1 _ _ h1)
  refine ⟨_, rfl, a, a_Program, dx, [], rfl, w2, T.oc_Program.cl, T.nF_Program_rows, (show (0 : Nat) < 1000 by decide), ?_⟩
  have o3 : Off a H (upd H2 a (.ins a_Program dx (putF "rows" (.ref r) []))) := ((Off.of e1).tex e2).set
  have r3 : SqT K (upd H2 a (.ins a_Program dx (putF "rows" (.ref r) []))) r vs := SqT.off (Off.upd (Ex.refl _)) w2 hr
  have w3 : upd H2 a (.ins a_Program dx (putF "rows" (.ref r) [])) a = some (.ins a_Program dx (putF "rows" (.ref r) [])) := upd_same
  generalize upd H2 a (.ins a_Program dx (putF "rows" (.ref r) [])) = H3 at *
  have h33 : H3 p = some (.lst vs) ∨ SqT K H3 p vs := h3.imp (fun h => o3 _ _ (fun e => by rw [e, h1] at h; cases h) h) (fun h => SqT.off o3 h1 h)
  walk_at "vc"
  refine ⟨rs, vs, h33, hO.kp (Kp.of_ex (delL_off o3)), hok, hsm, by omega, hc, fun n ys H4 e4 hn hN => ?_⟩
  have o4 := (o3.tex e4)
  refine ⟨a_Program, dx, _, e4 _ _ w3, T.oc_Program.cl, T.nF_Program_names, (show (1 : Nat) < 1000 by decide), ?_⟩
  have w4 := e4 _ _ w3
  have o5 : Off a H4 (upd H4 a (.ins a_Program dx (putF "names" (.ref n) (putF "rows" (.ref r) [])))) := Off.upd (Ex.refl _)
  exact q _ o4.set ⟨a, dx, r, n, ys, rfl, upd_same, SqT.off o5 w4 (e4.sqt r3), hO.kp (Kp.of_ex (delL_off o4.set)), SqT.off o5 w4 (st_of hn), hN⟩
theorem ok_Program_init (T : Txt w K mg a_is_integer a_is_number a_is_name a_are_rows a_texts a_needed a_fits a_is_of a_inner a_flat a_names_in a_bare a_named a_law_deal a_law_draw a_law_pick a_law_words a_law_kinds a_law_put a_law_ask a_law_count a_law_rows a_law_ask_text a_law_lines a_law_all_lines a_law_ask_of a_law_row_of a_law_deed a_law_begun a_law_alike a_law a_NoRow_init a_InvalidRow_init a_Put_init a_Put_eq a_Put_str a_If_init a_If_eq a_If_str a_Times_init a_Times_eq a_Times_str a_Stop_eq a_Stop_str a_Ask_init a_Ask_eq a_Ask_str a_Not_init a_Not_eq a_Not_str a_Program_init a_Program_str a_Sheet_init a_Sheet_drop a_Sheet_made a_Sheet_len a_Sheet_getitem a_Sheet_setitem a_Sheet_iadd a_NoRow a_InvalidRow a_Put a_If a_Times a_Stop a_Ask a_Not a_Row a_Test a_Program a_Sheet a_DEEDS a_SIGNS a_WORDS a_If_init_d0 a_Program_init_d0 a_Sheet_init_d0 d_is_integer d_is_number d_is_name d_are_rows d_texts d_needed d_fits d_is_of d_inner d_flat d_names_in d_bare d_named d_law_deal d_law_draw d_law_pick d_law_words d_law_kinds d_law_put d_law_ask d_law_count d_law_rows d_law_ask_text d_law_lines d_law_all_lines d_law_ask_of d_law_row_of d_law_deed d_law_begun d_law_alike d_law d_NoRow_init d_InvalidRow_init d_Put_init d_Put_eq d_Put_str d_If_init d_If_eq d_If_str d_Times_init d_Times_eq d_Times_str d_Stop_eq d_Stop_str d_Ask_init d_Ask_eq d_Ask_str d_Not_init d_Not_eq d_Not_str d_Program_init d_Program_str d_Sheet_init d_Sheet_drop d_Sheet_made d_Sheet_len d_Sheet_getitem d_Sheet_setitem d_Sheet_iadd) : FnR P w K mg base CX0 25 a_Program_init (sp_Program_init K ⟨a_Put, a_If, a_Times, a_Stop, a_Ask, a_Not⟩ a_Program) :=
  ((ok_Program_init0 T).raw T.b_Program_init .nil).imp fun vs H Q E h => by rw [List.append_nil]; exact h
/-- str -/
def sp_Program_str (K : PySem.W.Frag) (A : ClsA) (CP : Addr) : Sp
  | [v], H, Q, _ => ∃ rs vs, ProgO K A CP H rs vs v ∧ GdP rs ∧ ∀ H', Ex H H' → Q (.str (Txt.join "\n" (RowM.liness rs))) H'
  | _, _, _, _ => False
theorem ok_Program_str (T : Txt w K mg a_is_integer a_is_number a_is_name a_are_rows a_texts a_needed a_fits a_is_of a_inner a_flat a_names_in a_bare a_named a_law_deal a_law_draw a_law_pick a_law_words a_law_kinds a_law_put a_law_ask a_law_count a_law_rows a_law_ask_text a_law_lines a_law_all_lines a_law_ask_of a_law_row_of a_law_deed a_law_begun a_law_alike a_law a_NoRow_init a_InvalidRow_init a_Put_init a_Put_eq a_Put_str a_If_init a_If_eq a_If_str a_Times_init a_Times_eq a_Times_str a_Stop_eq a_Stop_str a_Ask_init a_Ask_eq a_Ask_str a_Not_init a_Not_eq a_Not_str a_Program_init a_Program_str a_Sheet_init a_Sheet_drop a_Sheet_made a_Sheet_len a_Sheet_getitem a_Sheet_setitem a_Sheet_iadd a_NoRow a_InvalidRow a_Put a_If a_Times a_Stop a_Ask a_Not a_Row a_Test a_Program a_Sheet a_DEEDS a_SIGNS a_WORDS a_If_init_d0 a_Program_init_d0 a_Sheet_init_d0 d_is_integer d_is_number d_is_name d_are_rows d_texts d_needed d_fits d_is_of d_inner d_flat d_names_in d_bare d_named d_law_deal d_law_draw d_law_pick d_law_words d_law_kinds d_law_put d_law_ask d_law_count d_law_rows d_law_ask_text d_law_lines d_law_all_lines d_law_ask_of d_law_row_of d_law_deed d_law_begun d_law_alike d_law d_NoRow_init d_InvalidRow_init d_Put_init d_Put_eq d_Put_str d_If_init d_If_eq d_If_str d_Times_init d_Times_eq d_Times_str d_Stop_eq d_Stop_str d_Ask_init d_Ask_eq d_Ask_str d_Not_init d_Not_eq d_Not_str d_Program_init d_Program_str d_Sheet_init d_Sheet_drop d_Sheet_made d_Sheet_len d_Sheet_getitem d_Sheet_setitem d_Sheet_iadd) : FnR P w K mg base CX0 50 a_Program_str (onC a_Program (sp_Program_str K ⟨a_Put, a_If, a_Times, a_Stop, a_Ask, a_Not⟩ a_Program)) := by
  have G_texts := ok_texts (P := P) (w := w) (base := base) T 4 _ (HSr T) (GSr T 4)
  have F : FnOk P w K mg base CX0 50 a_Program_str d_Program_str ["self"] (onC a_Program (sp_Program_str K ⟨a_Put, a_If, a_Times, a_Stop, a_Ask, a_Not⟩ a_Program)) := by
    refine T.F_Program_str.ok sc_Program_str (fun vs H Q E h => ?_) (fun cdv A outer s H vs Q E hr h => ?_)
    · obtain ⟨_, h⟩ := h; unfold sp_Program_str at h; split at h; rfl; exact h.elim
    obtain ⟨_, h⟩ := h
    unfold sp_Program_str at h; split at h
    case h_2 => exact h.elim
    rename_i v
    obtain ⟨rs, vs, ⟨a, dx, r, n, ys, rfl, h1, h2, h3, h4, h5⟩, hg, q⟩ := h
    refine ⟨_, (pss_one (ps_ret (pe_bm PySem.F.plainAttrs_str PySem.F.slot_str_join PySem.F.type_str_join mt_join pe_str (pa_cons (pe_call G_texts (hr.mono (by omega)) (by rfl) T.g_texts T.F_texts.kp T.b_texts .nil pass0 (pa_cons (pe_fld (pv 0) (by rfl)) pa_nil)) pa_nil)))), ?_⟩
    walk_at "st"
    walk_at "vc"
    obtain ⟨hok, hsm, hd, hc⟩ := hg
    have hlen := cnts_len rs
    have hw := liness_wt rs hok hsm
    rw [wt_liness] at hw
    have ej : Txt.join (Str.ofString "\n") (rs.map RowM.text) = Txt.join (Str.ofString "\n") (RowM.liness rs) := by
      have e := join_flat (Str.ofString "\n") (ls := rs.map RowM.lines) (fun l hl => by
        obtain ⟨r, _, rfl⟩ := List.mem_map.mp hl
        exact lines_ne r)
      rw [List.map_map, ← liness_eq] at e
      exact e
    refine ⟨rfl, _, rfl, a, _, dx, _, .ref r, rfl, h1, T.oc_Program.cl, T.nF_Program_rows, rfl, r, vs, rs, rfl, h2, h3, hok, hd, by omega, fun s hs => ?_, fun D H' e wD => ⟨D, rfl, _, .inl (sq_of wD), ?_, ?_⟩⟩
    · have := text_le_sum hs
      omega
    · rw [nl1, ← wt_sum, wt_texts]; omega
    · rw [ej]
      exact q H' e
  exact FnOk.raw (dvs := []) F T.b_Program_str .nil |>.imp fun vs H Q E h => by simpa using h
/-! ### == of rows, all classes together -/
theorem HEr (T : Txt w K mg a_is_integer a_is_number a_is_name a_are_rows a_texts a_needed a_fits a_is_of a_inner a_flat a_names_in a_bare a_named a_law_deal a_law_draw a_law_pick a_law_words a_law_kinds a_law_put a_law_ask a_law_count a_law_rows a_law_ask_text a_law_lines a_law_all_lines a_law_ask_of a_law_row_of a_law_deed a_law_begun a_law_alike a_law a_NoRow_init a_InvalidRow_init a_Put_init a_Put_eq a_Put_str a_If_init a_If_eq a_If_str a_Times_init a_Times_eq a_Times_str a_Stop_eq a_Stop_str a_Ask_init a_Ask_eq a_Ask_str a_Not_init a_Not_eq a_Not_str a_Program_init a_Program_str a_Sheet_init a_Sheet_drop a_Sheet_made a_Sheet_len a_Sheet_getitem a_Sheet_setitem a_Sheet_iadd a_NoRow a_InvalidRow a_Put a_If a_Times a_Stop a_Ask a_Not a_Row a_Test a_Program a_Sheet a_DEEDS a_SIGNS a_WORDS a_If_init_d0 a_Program_init_d0 a_Sheet_init_d0 d_is_integer d_is_number d_is_name d_are_rows d_texts d_needed d_fits d_is_of d_inner d_flat d_names_in d_bare d_named d_law_deal d_law_draw d_law_pick d_law_words d_law_kinds d_law_put d_law_ask d_law_count d_law_rows d_law_ask_text d_law_lines d_law_all_lines d_law_ask_of d_law_row_of d_law_deed d_law_begun d_law_alike d_law d_NoRow_init d_InvalidRow_init d_Put_init d_Put_eq d_Put_str d_If_init d_If_eq d_If_str d_Times_init d_Times_eq d_Times_str d_Stop_eq d_Stop_str d_Ask_init d_Ask_eq d_Ask_str d_Not_init d_Not_eq d_Not_str d_Program_init d_Program_str d_Sheet_init d_Sheet_drop d_Sheet_made d_Sheet_len d_Sheet_getitem d_Sheet_setitem d_Sheet_iadd) : ∀ C g, SFr ⟨a_Put, a_If, a_Times, a_Stop, a_Ask, a_Not⟩ a_Put_eq a_If_eq a_Times_eq a_Stop_eq C g → MethC K "__eq__" C g := by
  rintro C g (⟨rfl, rfl⟩ | ⟨rfl, rfl⟩ | ⟨rfl, rfl⟩ | ⟨rfl, rfl⟩)
  · exact T.mt_Put_eq
  · exact T.mt_If_eq
  · exact T.mt_Times_eq
  · exact T.mt_Stop_eq
theorem GEr (T : Txt w K mg a_is_integer a_is_number a_is_name a_are_rows a_texts a_needed a_fits a_is_of a_inner a_flat a_names_in a_bare a_named a_law_deal a_law_draw a_law_pick a_law_words a_law_kinds a_law_put a_law_ask a_law_count a_law_rows a_law_ask_text a_law_lines a_law_all_lines a_law_ask_of a_law_row_of a_law_deed a_law_begun a_law_alike a_law a_NoRow_init a_InvalidRow_init a_Put_init a_Put_eq a_Put_str a_If_init a_If_eq a_If_str a_Times_init a_Times_eq a_Times_str a_Stop_eq a_Stop_str a_Ask_init a_Ask_eq a_Ask_str a_Not_init a_Not_eq a_Not_str a_Program_init a_Program_str a_Sheet_init a_Sheet_drop a_Sheet_made a_Sheet_len a_Sheet_getitem a_Sheet_setitem a_Sheet_iadd a_NoRow a_InvalidRow a_Put a_If a_Times a_Stop a_Ask a_Not a_Row a_Test a_Program a_Sheet a_DEEDS a_SIGNS a_WORDS a_If_init_d0 a_Program_init_d0 a_Sheet_init_d0 d_is_integer d_is_number d_is_name d_are_rows d_texts d_needed d_fits d_is_of d_inner d_flat d_names_in d_bare d_named d_law_deal d_law_draw d_law_pick d_law_words d_law_kinds d_law_put d_law_ask d_law_count d_law_rows d_law_ask_text d_law_lines d_law_all_lines d_law_ask_of d_law_row_of d_law_deed d_law_begun d_law_alike d_law d_NoRow_init d_InvalidRow_init d_Put_init d_Put_eq d_Put_str d_If_init d_If_eq d_If_str d_Times_init d_Times_eq d_Times_str d_Stop_eq d_Stop_str d_Ask_init d_Ask_eq d_Ask_str d_Not_init d_Not_eq d_Not_str d_Program_init d_Program_str d_Sheet_init d_Sheet_drop d_Sheet_made d_Sheet_len d_Sheet_getitem d_Sheet_setitem d_Sheet_iadd) (n : Nat) : ∀ C g, SFr ⟨a_Put, a_If, a_Times, a_Stop, a_Ask, a_Not⟩ a_Put_eq a_If_eq a_Times_eq a_Stop_eq C g → FnR P w K mg base CX0 (4 * n + 25) g (onC C (spEr K ⟨a_Put, a_If, a_Times, a_Stop, a_Ask, a_Not⟩ n)) := by
  have a1 := ok_Put_eq (P := P) (w := w) (base := base) T n _ (HSr T) (GSr T n)
  have a2 := ok_If_eq (P := P) (w := w) (base := base) T n _ (HSr T) (GSr T n)
  have a3 := ok_Times_eq (P := P) (w := w) (base := base) T n _ (HSr T) (GSr T n)
  have a4 := (ok_Stop_eq (P := P) (w := w) (base := base) T n).mono (show 1 ≤ 4 * n + 25 by omega)
  rintro C g (⟨h1, h2⟩ | ⟨h1, h2⟩ | ⟨h1, h2⟩ | ⟨h1, h2⟩)
  · rw [h1, h2]; exact a1
  · rw [h1, h2]; exact a2
  · rw [h1, h2]; exact a3
  · rw [h1, h2]; exact a4
theorem row_len {r : RowM} (hok : r.ok) (hsm : r.sm) (hc : r.cnt ≤ 1000) : r.text.length ≤ 10000000 := by
  have h1 := lines_wt r hok hsm
  have h2 : (r.text).length + 1 = wt r.lines := join_wt (s := Str.ofString "\n") nl1 (lines_ne r)
  omega
theorem eqR_self (r : RowM) : eqR r r = true := decide_eq_true ⟨rfl, rfl⟩
/-- two objects of one row -/
theorem item_rows (T : Txt w K mg a_is_integer a_is_number a_is_name a_are_rows a_texts a_needed a_fits a_is_of a_inner a_flat a_names_in a_bare a_named a_law_deal a_law_draw a_law_pick a_law_words a_law_kinds a_law_put a_law_ask a_law_count a_law_rows a_law_ask_text a_law_lines a_law_all_lines a_law_ask_of a_law_row_of a_law_deed a_law_begun a_law_alike a_law a_NoRow_init a_InvalidRow_init a_Put_init a_Put_eq a_Put_str a_If_init a_If_eq a_If_str a_Times_init a_Times_eq a_Times_str a_Stop_eq a_Stop_str a_Ask_init a_Ask_eq a_Ask_str a_Not_init a_Not_eq a_Not_str a_Program_init a_Program_str a_Sheet_init a_Sheet_drop a_Sheet_made a_Sheet_len a_Sheet_getitem a_Sheet_setitem a_Sheet_iadd a_NoRow a_InvalidRow a_Put a_If a_Times a_Stop a_Ask a_Not a_Row a_Test a_Program a_Sheet a_DEEDS a_SIGNS a_WORDS a_If_init_d0 a_Program_init_d0 a_Sheet_init_d0 d_is_integer d_is_number d_is_name d_are_rows d_texts d_needed d_fits d_is_of d_inner d_flat d_names_in d_bare d_named d_law_deal d_law_draw d_law_pick d_law_words d_law_kinds d_law_put d_law_ask d_law_count d_law_rows d_law_ask_text d_law_lines d_law_all_lines d_law_ask_of d_law_row_of d_law_deed d_law_begun d_law_alike d_law d_NoRow_init d_InvalidRow_init d_Put_init d_Put_eq d_Put_str d_If_init d_If_eq d_If_str d_Times_init d_Times_eq d_Times_str d_Stop_eq d_Stop_str d_Ask_init d_Ask_eq d_Ask_str d_Not_init d_Not_eq d_Not_str d_Program_init d_Program_str d_Sheet_init d_Sheet_drop d_Sheet_made d_Sheet_len d_Sheet_getitem d_Sheet_setitem d_Sheet_iadd) {E : XK} {H : Hp} {r : RowM} {x y : V} (h : RowO K ⟨a_Put, a_If, a_Times, a_Stop, a_Ask, a_Not⟩ H r x) (k : RowO K ⟨a_Put, a_If, a_Times, a_Stop, a_Ask, a_Not⟩ H r y) (hok : r.ok) (hsm : r.sm) (hd : r.dep < 4) (hc : r.cnt ≤ 1000) : ItemEq K (SFr ⟨a_Put, a_If, a_Times, a_Stop, a_Ask, a_Not⟩ a_Put_eq a_If_eq a_Times_eq a_Stop_eq) (spEr K ⟨a_Put, a_If, a_Times, a_Stop, a_Ask, a_Not⟩ 4) E true x y H := by
  obtain ⟨a, dx, fs, C, rfl, h1, hC⟩ := h.cls
  obtain ⟨b, dy, gs, C2, rfl, k1, kC⟩ := k.cls
  by_cases hab : a = b
  · subst hab
    exact .inl ⟨a, rfl, rfl, rfl⟩
  · refine .inr ⟨a, b, C, dx, fs, ?_⟩
    have c1 := h.ci_of T.kits h1
    have c2 := k.ci_of T.kits k1
    have e : C2 = C := by rw [c1.2, c2.2]
    subst e
    obtain ⟨g, hg⟩ : ∃ g, SFr ⟨a_Put, a_If, a_Times, a_Stop, a_Ask, a_Not⟩ a_Put_eq a_If_eq a_Times_eq a_Stop_eq C2 g := by
      rcases hC with hC | hC | hC | hC
      · exact ⟨_, .inl ⟨hC, rfl⟩⟩
      · exact ⟨_, .inr (.inl ⟨hC, rfl⟩)⟩
      · exact ⟨_, .inr (.inr (.inl ⟨hC, rfl⟩))⟩
      · exact ⟨_, .inr (.inr (.inr ⟨hC, rfl⟩))⟩
    refine ⟨g, .ref C2, rfl, rfl, hab, h1, hg, isTy T k1 kC, nf_own, r, _, _, rfl, h, hok, hd, row_len hok hsm hc, .inl ⟨r, k, hok, hd, row_len hok hsm hc, fun H' e => ⟨?_, e⟩⟩⟩
    rw [eqR_self]
theorem tup_rows (T : Txt w K mg a_is_integer a_is_number a_is_name a_are_rows a_texts a_needed a_fits a_is_of a_inner a_flat a_names_in a_bare a_named a_law_deal a_law_draw a_law_pick a_law_words a_law_kinds a_law_put a_law_ask a_law_count a_law_rows a_law_ask_text a_law_lines a_law_all_lines a_law_ask_of a_law_row_of a_law_deed a_law_begun a_law_alike a_law a_NoRow_init a_InvalidRow_init a_Put_init a_Put_eq a_Put_str a_If_init a_If_eq a_If_str a_Times_init a_Times_eq a_Times_str a_Stop_eq a_Stop_str a_Ask_init a_Ask_eq a_Ask_str a_Not_init a_Not_eq a_Not_str a_Program_init a_Program_str a_Sheet_init a_Sheet_drop a_Sheet_made a_Sheet_len a_Sheet_getitem a_Sheet_setitem a_Sheet_iadd a_NoRow a_InvalidRow a_Put a_If a_Times a_Stop a_Ask a_Not a_Row a_Test a_Program a_Sheet a_DEEDS a_SIGNS a_WORDS a_If_init_d0 a_Program_init_d0 a_Sheet_init_d0 d_is_integer d_is_number d_is_name d_are_rows d_texts d_needed d_fits d_is_of d_inner d_flat d_names_in d_bare d_named d_law_deal d_law_draw d_law_pick d_law_words d_law_kinds d_law_put d_law_ask d_law_count d_law_rows d_law_ask_text d_law_lines d_law_all_lines d_law_ask_of d_law_row_of d_law_deed d_law_begun d_law_alike d_law d_NoRow_init d_InvalidRow_init d_Put_init d_Put_eq d_Put_str d_If_init d_If_eq d_If_str d_Times_init d_Times_eq d_Times_str d_Stop_eq d_Stop_str d_Ask_init d_Ask_eq d_Ask_str d_Not_init d_Not_eq d_Not_str d_Program_init d_Program_str d_Sheet_init d_Sheet_drop d_Sheet_made d_Sheet_len d_Sheet_getitem d_Sheet_setitem d_Sheet_iadd) {E : XK} {H : Hp} {rs : List RowM} {vs ws : List V} (hg : GdP rs) (h : RowOs K ⟨a_Put, a_If, a_Times, a_Stop, a_Ask, a_Not⟩ H rs vs) (k : RowOs K ⟨a_Put, a_If, a_Times, a_Stop, a_Ask, a_Not⟩ H rs ws) : ∀ H', Ex H H' → ∀ (i : Nat) (x y : V), vs[i]? = some x → ws[i]? = some y → ItemEq K (SFr ⟨a_Put, a_If, a_Times, a_Stop, a_Ask, a_Not⟩ a_Put_eq a_If_eq a_Times_eq a_Stop_eq) (spEr K ⟨a_Put, a_If, a_Times, a_Stop, a_Ask, a_Not⟩ 4) E true x y H' := fun H' e i x y hx hy => by
  obtain ⟨r, hr, h1⟩ := h.at_ hx
  obtain ⟨r2, hr2, k1⟩ := k.at_ hy
  rw [hr] at hr2
  cases hr2
  have := deps_at hr
  have := cnts_at hr
  have := hg.2.2.1
  have := hg.2.2.2
  exact item_rows T (h1.kp (Kp.of_ex e)) (k1.kp (Kp.of_ex e)) (oks_at2 hg.1 hr) (sms_at hg.2.1 hr) (by omega) (by omega)
/-! ### the methods, by class -/
def SFp (C0 g0 : Addr) : Addr → Addr → Prop := fun C g => C = C0 ∧ g = g0
theorem HSp (T : Txt w K mg a_is_integer a_is_number a_is_name a_are_rows a_texts a_needed a_fits a_is_of a_inner a_flat a_names_in a_bare a_named a_law_deal a_law_draw a_law_pick a_law_words a_law_kinds a_law_put a_law_ask a_law_count a_law_rows a_law_ask_text a_law_lines a_law_all_lines a_law_ask_of a_law_row_of a_law_deed a_law_begun a_law_alike a_law a_NoRow_init a_InvalidRow_init a_Put_init a_Put_eq a_Put_str a_If_init a_If_eq a_If_str a_Times_init a_Times_eq a_Times_str a_Stop_eq a_Stop_str a_Ask_init a_Ask_eq a_Ask_str a_Not_init a_Not_eq a_Not_str a_Program_init a_Program_str a_Sheet_init a_Sheet_drop a_Sheet_made a_Sheet_len a_Sheet_getitem a_Sheet_setitem a_Sheet_iadd a_NoRow a_InvalidRow a_Put a_If a_Times a_Stop a_Ask a_Not a_Row a_Test a_Program a_Sheet a_DEEDS a_SIGNS a_WORDS a_If_init_d0 a_Program_init_d0 a_Sheet_init_d0 d_is_integer d_is_number d_is_name d_are_rows d_texts d_needed d_fits d_is_of d_inner d_flat d_names_in d_bare d_named d_law_deal d_law_draw d_law_pick d_law_words d_law_kinds d_law_put d_law_ask d_law_count d_law_rows d_law_ask_text d_law_lines d_law_all_lines d_law_ask_of d_law_row_of d_law_deed d_law_begun d_law_alike d_law d_NoRow_init d_InvalidRow_init d_Put_init d_Put_eq d_Put_str d_If_init d_If_eq d_If_str d_Times_init d_Times_eq d_Times_str d_Stop_eq d_Stop_str d_Ask_init d_Ask_eq d_Ask_str d_Not_init d_Not_eq d_Not_str d_Program_init d_Program_str d_Sheet_init d_Sheet_drop d_Sheet_made d_Sheet_len d_Sheet_getitem d_Sheet_setitem d_Sheet_iadd) : ∀ C g, SFp a_Program a_Program_str C g → MethC K "__str__" C g := by
  rintro C g ⟨h1, h2⟩
  rw [h1, h2]
  exact T.mt_Program_str
theorem GSp (T : Txt w K mg a_is_integer a_is_number a_is_name a_are_rows a_texts a_needed a_fits a_is_of a_inner a_flat a_names_in a_bare a_named a_law_deal a_law_draw a_law_pick a_law_words a_law_kinds a_law_put a_law_ask a_law_count a_law_rows a_law_ask_text a_law_lines a_law_all_lines a_law_ask_of a_law_row_of a_law_deed a_law_begun a_law_alike a_law a_NoRow_init a_InvalidRow_init a_Put_init a_Put_eq a_Put_str a_If_init a_If_eq a_If_str a_Times_init a_Times_eq a_Times_str a_Stop_eq a_Stop_str a_Ask_init a_Ask_eq a_Ask_str a_Not_init a_Not_eq a_Not_str a_Program_init a_Program_str a_Sheet_init a_Sheet_drop a_Sheet_made a_Sheet_len a_Sheet_getitem a_Sheet_setitem a_Sheet_iadd a_NoRow a_InvalidRow a_Put a_If a_Times a_Stop a_Ask a_Not a_Row a_Test a_Program a_Sheet a_DEEDS a_SIGNS a_WORDS a_If_init_d0 a_Program_init_d0 a_Sheet_init_d0 d_is_integer d_is_number d_is_name d_are_rows d_texts d_needed d_fits d_is_of d_inner d_flat d_names_in d_bare d_named d_law_deal d_law_draw d_law_pick d_law_words d_law_kinds d_law_put d_law_ask d_law_count d_law_rows d_law_ask_text d_law_lines d_law_all_lines d_law_ask_of d_law_row_of d_law_deed d_law_begun d_law_alike d_law d_NoRow_init d_InvalidRow_init d_Put_init d_Put_eq d_Put_str d_If_init d_If_eq d_If_str d_Times_init d_Times_eq d_Times_str d_Stop_eq d_Stop_str d_Ask_init d_Ask_eq d_Ask_str d_Not_init d_Not_eq d_Not_str d_Program_init d_Program_str d_Sheet_init d_Sheet_drop d_Sheet_made d_Sheet_len d_Sheet_getitem d_Sheet_setitem d_Sheet_iadd) : ∀ C g, SFp a_Program a_Program_str C g → FnR P w K mg base CX0 50 g (onC C (sp_Program_str K ⟨a_Put, a_If, a_Times, a_Stop, a_Ask, a_Not⟩ a_Program)) := by
  rintro C g ⟨h1, h2⟩
  rw [h1, h2]
  exact ok_Program_str T
end
end My
set_option Elab.async false
set_option linter.all false
set_option maxRecDepth 100000
set_option maxHeartbeats 4000000
set_option exponentiation.threshold 5000
namespace My
open PySem PySem.Spec PyProof.Rows L2 Evl
local macro_rules | `(tactic| walk_at "st") => `(tactic| simp only [L2.start, List.map_cons, List.map_nil, List.length_cons, List.length_nil, Nat.reduceAdd, Nat.reduceSub, List.replicate_succ, List.replicate_zero, List.cons_append, List.nil_append, cxOf, List.append_nil])
local macro_rules | `(tactic| walk_at "vc") => `(tactic| try simp only [tSeq, tAsg, tOp, tUn, tVar, tC, tNil, tCons, gName, rI, rI0, rU, tRet, tIfS, tNot, tAnd, tOr, tB, tTest, tCB, tCall, tAndV, tOrV, tNotV, tNext, tNever, tIf, tChain, tYes, tPart, tNoPart, tPar, tDrop, q_isi, q_vn, q_vb, q_vi, q_vs, kb1, kb2, kb3, kb4, kb5, kb6, kb7, kb8, q_int1, q_int2, q_min, q_max, q_repr, tLst, tTup, rEq, rNe, q_sii, q_sss, q_sbb, q_snn, q_sns, q_ssn, q_ix, q_sl, tSl, tBM, tBM0, q_app, q_pop, gSub, rSetL, L2.wipe, eq_self, decide_true, decide_false, tRevL,
  List.getElem?_cons_succ, List.getElem?_cons_zero, List.set_cons_succ, List.set_cons_zero, Option.some.injEq, exists_eq_left', exists_eq_left, V.int.injEq, V.bl.injEq, V.ref.injEq, V.str.injEq, List.cons.injEq, and_true, true_and, List.append_nil, List.nil_append, List.cons_append, exists_and_left, and_assoc, if_true, if_false, Bool.not_true, Bool.not_false, Bool.false_eq_true, Bool.true_eq_false, reduceIte, tRevL, tPar3, tRevT, tUnl, tCKw, forall_const, Bool.not_eq_true', decide_eq_true_eq, decide_eq_false_iff_not])
section
variable {P : Program} {w : World} {K : PySem.W.Frag} {mg : Str → Option Value} {base : Heap}
variable {a_is_integer a_is_number a_is_name a_are_rows a_texts a_needed a_fits a_is_of a_inner a_flat a_names_in a_bare a_named a_law_deal a_law_draw a_law_pick a_law_words a_law_kinds a_law_put a_law_ask a_law_count a_law_rows a_law_ask_text a_law_lines a_law_all_lines a_law_ask_of a_law_row_of a_law_deed a_law_begun a_law_alike a_law a_NoRow_init a_InvalidRow_init a_Put_init a_Put_eq a_Put_str a_If_init a_If_eq a_If_str a_Times_init a_Times_eq a_Times_str a_Stop_eq a_Stop_str a_Ask_init a_Ask_eq a_Ask_str a_Not_init a_Not_eq a_Not_str a_Program_init a_Program_str a_Sheet_init a_Sheet_drop a_Sheet_made a_Sheet_len a_Sheet_getitem a_Sheet_setitem a_Sheet_iadd a_NoRow a_InvalidRow a_Put a_If a_Times a_Stop a_Ask a_Not a_Row a_Test a_Program a_Sheet a_DEEDS a_SIGNS a_WORDS a_If_init_d0 a_Program_init_d0 a_Sheet_init_d0 : Addr} {d_is_integer d_is_number d_is_name d_are_rows d_texts d_needed d_fits d_is_of d_inner d_flat d_names_in d_bare d_named d_law_deal d_law_draw d_law_pick d_law_words d_law_kinds d_law_put d_law_ask d_law_count d_law_rows d_law_ask_text d_law_lines d_law_all_lines d_law_ask_of d_law_row_of d_law_deed d_law_begun d_law_alike d_law d_NoRow_init d_InvalidRow_init d_Put_init d_Put_eq d_Put_str d_If_init d_If_eq d_If_str d_Times_init d_Times_eq d_Times_str d_Stop_eq d_Stop_str d_Ask_init d_Ask_eq d_Ask_str d_Not_init d_Not_eq d_Not_str d_Program_init d_Program_str d_Sheet_init d_Sheet_drop d_Sheet_made d_Sheet_len d_Sheet_getitem d_Sheet_setitem d_Sheet_iadd : FuncData}
/-! ### the errors; sheets -/
theorem ok_NoRow_init (T : Txt w K mg a_is_integer a_is_number a_is_name a_are_rows a_texts a_needed a_fits a_is_of a_inner a_flat a_names_in a_bare a_named a_law_deal a_law_draw a_law_pick a_law_words a_law_kinds a_law_put a_law_ask a_law_count a_law_rows a_law_ask_text a_law_lines a_law_all_lines a_law_ask_of a_law_row_of a_law_deed a_law_begun a_law_alike a_law a_NoRow_init a_InvalidRow_init a_Put_init a_Put_eq a_Put_str a_If_init a_If_eq a_If_str a_Times_init a_Times_eq a_Times_str a_Stop_eq a_Stop_str a_Ask_init a_Ask_eq a_Ask_str a_Not_init a_Not_eq a_Not_str a_Program_init a_Program_str a_Sheet_init a_Sheet_drop a_Sheet_made a_Sheet_len a_Sheet_getitem a_Sheet_setitem a_Sheet_iadd a_NoRow a_InvalidRow a_Put a_If a_Times a_Stop a_Ask a_Not a_Row a_Test a_Program a_Sheet a_DEEDS a_SIGNS a_WORDS a_If_init_d0 a_Program_init_d0 a_Sheet_init_d0 d_is_integer d_is_number d_is_name d_are_rows d_texts d_needed d_fits d_is_of d_inner d_flat d_names_in d_bare d_named d_law_deal d_law_draw d_law_pick d_law_words d_law_kinds d_law_put d_law_ask d_law_count d_law_rows d_law_ask_text d_law_lines d_law_all_lines d_law_ask_of d_law_row_of d_law_deed d_law_begun d_law_alike d_law d_NoRow_init d_InvalidRow_init d_Put_init d_Put_eq d_Put_str d_If_init d_If_eq d_If_str d_Times_init d_Times_eq d_Times_str d_Stop_eq d_Stop_str d_Ask_init d_Ask_eq d_Ask_str d_Not_init d_Not_eq d_Not_str d_Program_init d_Program_str d_Sheet_init d_Sheet_drop d_Sheet_made d_Sheet_len d_Sheet_getitem d_Sheet_setitem d_Sheet_iadd) : FnOk P w K mg base CX0 1 a_NoRow_init d_NoRow_init ["self", "at"] (spIniX K "at") := by
  refine T.F_NoRow_init.ok sc_NoRow_init (fun vs H Q E h => ?_) (fun cdv A outer s H vs Q E hr h => ?_)
  · unfold spIniX at h; split at h; rfl; exact h.elim
  unfold spIniX at h; split at h
  case h_2 => exact h.elim
  rename_i a v
  obtain ⟨C, fI, h1, h2, q⟩ := h
  refine ⟨_, (pss_one (ps_osX (pv 0) (pv 1))), ?_⟩
  walk_at "st"
  walk_at "vc"
  exact ⟨_, rfl, _, rfl, a, C, fI, rfl, h1, h2, q⟩
theorem ok_InvalidRow_init (T : Txt w K mg a_is_integer a_is_number a_is_name a_are_rows a_texts a_needed a_fits a_is_of a_inner a_flat a_names_in a_bare a_named a_law_deal a_law_draw a_law_pick a_law_words a_law_kinds a_law_put a_law_ask a_law_count a_law_rows a_law_ask_text a_law_lines a_law_all_lines a_law_ask_of a_law_row_of a_law_deed a_law_begun a_law_alike a_law a_NoRow_init a_InvalidRow_init a_Put_init a_Put_eq a_Put_str a_If_init a_If_eq a_If_str a_Times_init a_Times_eq a_Times_str a_Stop_eq a_Stop_str a_Ask_init a_Ask_eq a_Ask_str a_Not_init a_Not_eq a_Not_str a_Program_init a_Program_str a_Sheet_init a_Sheet_drop a_Sheet_made a_Sheet_len a_Sheet_getitem a_Sheet_setitem a_Sheet_iadd a_NoRow a_InvalidRow a_Put a_If a_Times a_Stop a_Ask a_Not a_Row a_Test a_Program a_Sheet a_DEEDS a_SIGNS a_WORDS a_If_init_d0 a_Program_init_d0 a_Sheet_init_d0 d_is_integer d_is_number d_is_name d_are_rows d_texts d_needed d_fits d_is_of d_inner d_flat d_names_in d_bare d_named d_law_deal d_law_draw d_law_pick d_law_words d_law_kinds d_law_put d_law_ask d_law_count d_law_rows d_law_ask_text d_law_lines d_law_all_lines d_law_ask_of d_law_row_of d_law_deed d_law_begun d_law_alike d_law d_NoRow_init d_InvalidRow_init d_Put_init d_Put_eq d_Put_str d_If_init d_If_eq d_If_str d_Times_init d_Times_eq d_Times_str d_Stop_eq d_Stop_str d_Ask_init d_Ask_eq d_Ask_str d_Not_init d_Not_eq d_Not_str d_Program_init d_Program_str d_Sheet_init d_Sheet_drop d_Sheet_made d_Sheet_len d_Sheet_getitem d_Sheet_setitem d_Sheet_iadd) : FnOk P w K mg base CX0 1 a_InvalidRow_init d_InvalidRow_init ["self", "word"] (spIniX K "word") := by
  refine T.F_InvalidRow_init.ok sc_InvalidRow_init (fun vs H Q E h => ?_) (fun cdv A outer s H vs Q E hr h => ?_)
  · unfold spIniX at h; split at h; rfl; exact h.elim
  unfold spIniX at h; split at h
  case h_2 => exact h.elim
  rename_i a v
  obtain ⟨C, fI, h1, h2, q⟩ := h
  refine ⟨_, (pss_one (ps_osX (pv 0) (pv 1))), ?_⟩
  walk_at "st"
  walk_at "vc"
  exact ⟨_, rfl, _, rfl, a, C, fI, rfl, h1, h2, q⟩
def ToldA (C : Addr) (f : Str) (v : V) (E : XK) (H : Hp) : Prop := ∀ H' d, Ex H H' → H' d = none → E (.ref C) (some d) (upd H' d (.xd [(f, v)]))
/-- a sheet: its rows lie elsewhere -/
def SheetO (K : PySem.W.Frag) (A : ClsA) (CS : Addr) (H : Hp) (rs : List RowM) (vs : List V) (v : V) : Prop := ∃ a dx q, v = .ref a ∧ H a = some (.ins CS dx [("held", .ref q)]) ∧ SqT K H q vs ∧ RowOs K A (delL H a) rs vs
theorem delL_le {H : Hp} {p : Addr} : Ex (delL H p) H := fun b u h => by
  by_cases e : b = p
  · rw [e, delL_same] at h; cases h
  · rwa [delL_ne e] at h
theorem delL_mono {H H1 : Hp} {p : Addr} (o : Off p H H1) : Ex (delL H p) (delL H1 p) := fun b u h => by
  by_cases e : b = p
  · rw [e, delL_same] at h; cases h
  · rw [delL_ne e] at h ⊢; exact o b u e h
theorem SheetO.ex {A : ClsA} {CS : Addr} {H H' : Hp} {rs : List RowM} {vs : List V} {v : V} (e : Ex H H') (h : SheetO K A CS H rs vs v) : SheetO K A CS H' rs vs v := by
  obtain ⟨a, dx, q, rfl, h1, h2, h3⟩ := h
  exact ⟨a, dx, q, rfl, e _ _ h1, (Kp.of_ex e).sqt h2, h3.kp (Kp.of_ex (delL_mono (Off.of e)))⟩
theorem slA_of {H : Hp} {a : Addr} {g : List V} {lo hi : Option Int} {Q : VK} (ha : SqT K H a g) (q : ∀ t H', Ex H H' → SqT K H' t (cutV g lo hi) → Q (.ref t) H') : rSlA K (.ref a) lo hi H Q := by
  refine ⟨a, g, rfl, ha, fun hw => q a H (Ex.refl _) ?_, fun hw p hp => q p _ (Ex.new hp) (st_of upd_same)⟩
  unfold cutV
  rw [hw.1, hw.2, List.drop_zero, Nat.sub_zero, List.take_length]
  exact ha
theorem cut_take (xs : List V) (k : Nat) : cutV xs none (some (k : Int)) = xs.take k := by
  have e1 : HT.sIx xs.length 0 none = 0 := rfl
  have e2 : HT.sIx xs.length xs.length (some (k : Int)) = min k xs.length := HT.sIx_nat _ _ _
  unfold cutV
  rw [e1, e2, List.drop_zero, Nat.sub_zero]
  by_cases h : k ≤ xs.length
  · rw [Nat.min_eq_left h]
  · rw [Nat.min_eq_right (by omega), List.take_length, List.take_of_length_le (by omega)]
theorem cut_drop (xs : List V) (k : Nat) : cutV xs (some (k : Int)) none = xs.drop k := by
  have e1 : HT.sIx xs.length 0 (some (k : Int)) = min k xs.length := HT.sIx_nat _ _ _
  have e2 : HT.sIx xs.length xs.length none = xs.length := rfl
  unfold cutV
  rw [e1, e2]
  by_cases h : k ≤ xs.length
  · rw [Nat.min_eq_left h, List.take_of_length_le (by rw [List.length_drop]; exact Nat.le_refl _)]
  · rw [Nat.min_eq_right (by omega), Nat.sub_self, List.take_zero, List.drop_eq_nil_of_le (by omega)]
theorem RowOs.drop {A : ClsA} {H : Hp} : ∀ {rs : List RowM} {vs : List V} (i : Nat), RowOs K A H rs vs → RowOs K A H (rs.drop i) (vs.drop i)
  | rs, vs, 0, h => by rw [List.drop_zero, List.drop_zero]; exact h
  | [], vs, i + 1, h => by rw [RowOs] at h; subst h; rw [List.drop_nil, List.drop_nil, RowOs]
  | r :: rs, vs, i + 1, h => by
    rw [RowOs] at h
    obtain ⟨v, ws, rfl, _, h2⟩ := h
    exact RowOs.drop i h2
def sp_Sheet_init (K : PySem.W.Frag) (A : ClsA) (CS : Addr) : Sp
  | [.ref a, .ref p], H, Q, _ => ∃ dx rs vs, H a = some (.ins CS dx []) ∧ (H p = some (.lst vs) ∨ SqT K H p vs) ∧ RowOs K A (delL H a) rs vs ∧ rs.length ≤ 1000 ∧ ∀ H1, Off a H H1 → SheetO K A CS H1 rs vs (.ref a) → Q .non H1
  | _, _, _, _ => False
theorem ok_Sheet_init0 (T : Txt w K mg a_is_integer a_is_number a_is_name a_are_rows a_texts a_needed a_fits a_is_of a_inner a_flat a_names_in a_bare a_named a_law_deal a_law_draw a_law_pick a_law_words a_law_kinds a_law_put a_law_ask a_law_count a_law_rows a_law_ask_text a_law_lines a_law_all_lines a_law_ask_of a_law_row_of a_law_deed a_law_begun a_law_alike a_law a_NoRow_init a_InvalidRow_init a_Put_init a_Put_eq a_Put_str a_If_init a_If_eq a_If_str a_Times_init a_Times_eq a_Times_str a_Stop_eq a_Stop_str a_Ask_init a_Ask_eq a_Ask_str a_Not_init a_Not_eq a_Not_str a_Program_init a_Program_str a_Sheet_init a_Sheet_drop a_Sheet_made a_Sheet_len a_Sheet_getitem a_Sheet_setitem a_Sheet_iadd a_NoRow a_InvalidRow a_Put a_If a_Times a_Stop a_Ask a_Not a_Row a_Test a_Program a_Sheet a_DEEDS a_SIGNS a_WORDS a_If_init_d0 a_Program_init_d0 a_Sheet_init_d0 d_is_integer d_is_number d_is_name d_are_rows d_texts d_needed d_fits d_is_of d_inner d_flat d_names_in d_bare d_named d_law_deal d_law_draw d_law_pick d_law_words d_law_kinds d_law_put d_law_ask d_law_count d_law_rows d_law_ask_text d_law_lines d_law_all_lines d_law_ask_of d_law_row_of d_law_deed d_law_begun d_law_alike d_law d_NoRow_init d_InvalidRow_init d_Put_init d_Put_eq d_Put_str d_If_init d_If_eq d_If_str d_Times_init d_Times_eq d_Times_str d_Stop_eq d_Stop_str d_Ask_init d_Ask_eq d_Ask_str d_Not_init d_Not_eq d_Not_str d_Program_init d_Program_str d_Sheet_init d_Sheet_drop d_Sheet_made d_Sheet_len d_Sheet_getitem d_Sheet_setitem d_Sheet_iadd) : FnOk P w K mg base CX0 25 a_Sheet_init d_Sheet_init ["self", "rows"] (sp_Sheet_init K ⟨a_Put, a_If, a_Times, a_Stop, a_Ask, a_Not⟩ a_Sheet) := by
  have G_are_rows := ok_are_rows (P := P) (w := w) (base := base) T
  refine T.F_Sheet_init.ok sc_Sheet_init (fun vs H Q E h => ?_) (fun cdv A outer s H vs Q E hr h => ?_)
  · unfold sp_Sheet_init at h; split at h; rfl; exact h.elim
  unfold sp_Sheet_init at h; split at h
  case h_2 => exact h.elim
  rename_i a p
  obtain ⟨dx, rs, vs, h1, h3, hO, hl, q⟩ := h
  refine ⟨_, ((pss_cons (ps_if (pt_not (pt_val (pe_call G_are_rows (hr.mono (by decide)) (by rfl) T.g_are_rows T.F_are_rows.kp T.b_are_rows .nil pass0 (pa_cons (pv 1) pa_nil))))
      (pss_one ps_never)
      pss_nil)
      (pss_one (ps_fld (pv 0) (pe_callTy call_tuple_of (by rfl) T.z_tuple (by decide +kernel) (pa_cons (pv 1) pa_nil)) (by rfl))))).nox, ?_⟩
  walk_at "st"
  walk_at "vc"
  have hO0 := hO.kp (Kp.of_ex (delL_off (fun _ _ _ h => h)))
  have hlen := hO.len
  refine ⟨rs, vs, h3, hO0, by omega, fun H1 e1 => ⟨true, rfl, ?_⟩⟩
  rw [if_neg (by decide)]
  unfold sFld
  refine tupleX2 rfl (Off.of e1) h1 h3 (by rw [e1 _ _ h1]; simp) fun r H2 e2 hr => ?_
  have w2 := e2 _ _ (e1 _ _ h1)
  refine ⟨_, rfl, a, a_Sheet, dx, [], rfl, w2, T.oc_Sheet.cl, T.nF_Sheet_held, (show (0 : Nat) < 1000 by decide), ?_⟩
  have o3 : Off a H (upd H2 a (.ins a_Sheet dx (putF "held" (.ref r) []))) := ((Off.of e1).tex e2).set
  have r3 : SqT K (upd H2 a (.ins a_Sheet dx (putF "held" (.ref r) []))) r vs := SqT.off (Off.upd (Ex.refl _)) w2 hr
  exact q _ o3 ⟨a, dx, r, rfl, upd_same, r3, hO.kp (Kp.of_ex (delL_mono o3))⟩
def sp_Sheet_len (K : PySem.W.Frag) (A : ClsA) (CS : Addr) : Sp
  | [v], H, Q, _ => ∃ rs vs, SheetO K A CS H rs vs v ∧ Q (.int rs.length) H
  | _, _, _, _ => False
theorem ok_Sheet_len (T : Txt w K mg a_is_integer a_is_number a_is_name a_are_rows a_texts a_needed a_fits a_is_of a_inner a_flat a_names_in a_bare a_named a_law_deal a_law_draw a_law_pick a_law_words a_law_kinds a_law_put a_law_ask a_law_count a_law_rows a_law_ask_text a_law_lines a_law_all_lines a_law_ask_of a_law_row_of a_law_deed a_law_begun a_law_alike a_law a_NoRow_init a_InvalidRow_init a_Put_init a_Put_eq a_Put_str a_If_init a_If_eq a_If_str a_Times_init a_Times_eq a_Times_str a_Stop_eq a_Stop_str a_Ask_init a_Ask_eq a_Ask_str a_Not_init a_Not_eq a_Not_str a_Program_init a_Program_str a_Sheet_init a_Sheet_drop a_Sheet_made a_Sheet_len a_Sheet_getitem a_Sheet_setitem a_Sheet_iadd a_NoRow a_InvalidRow a_Put a_If a_Times a_Stop a_Ask a_Not a_Row a_Test a_Program a_Sheet a_DEEDS a_SIGNS a_WORDS a_If_init_d0 a_Program_init_d0 a_Sheet_init_d0 d_is_integer d_is_number d_is_name d_are_rows d_texts d_needed d_fits d_is_of d_inner d_flat d_names_in d_bare d_named d_law_deal d_law_draw d_law_pick d_law_words d_law_kinds d_law_put d_law_ask d_law_count d_law_rows d_law_ask_text d_law_lines d_law_all_lines d_law_ask_of d_law_row_of d_law_deed d_law_begun d_law_alike d_law d_NoRow_init d_InvalidRow_init d_Put_init d_Put_eq d_Put_str d_If_init d_If_eq d_If_str d_Times_init d_Times_eq d_Times_str d_Stop_eq d_Stop_str d_Ask_init d_Ask_eq d_Ask_str d_Not_init d_Not_eq d_Not_str d_Program_init d_Program_str d_Sheet_init d_Sheet_drop d_Sheet_made d_Sheet_len d_Sheet_getitem d_Sheet_setitem d_Sheet_iadd) : FnR P w K mg base CX0 5 a_Sheet_len (onC a_Sheet (sp_Sheet_len K ⟨a_Put, a_If, a_Times, a_Stop, a_Ask, a_Not⟩ a_Sheet)) := by
  have F : FnOk P w K mg base CX0 5 a_Sheet_len d_Sheet_len ["self"] (onC a_Sheet (sp_Sheet_len K ⟨a_Put, a_If, a_Times, a_Stop, a_Ask, a_Not⟩ a_Sheet)) := by
    refine T.F_Sheet_len.ok sc_Sheet_len (fun vs H Q E h => ?_) (fun cdv A outer s H vs Q E hr h => ?_)
    · obtain ⟨_, h⟩ := h; unfold sp_Sheet_len at h; split at h; rfl; exact h.elim
    obtain ⟨_, h⟩ := h
    unfold sp_Sheet_len at h; split at h
    case h_2 => exact h.elim
    rename_i v
    obtain ⟨rs, vs, ⟨a, dx, r, rfl, h1, h2, h3⟩, q⟩ := h
    refine ⟨_, (pss_one (ps_ret (pe_callB call_len_seq (by rfl) T.z_len (by decide +kernel) (pa_cons (pe_fld (pv 0) (by rfl)) pa_nil)))), ?_⟩
    walk_at "st"
    walk_at "vc"
    refine ⟨_, rfl, a, _, dx, _, .ref r, rfl, h1, T.oc_Sheet.cl, T.nF_Sheet_held, rfl, r, rfl, vs, .inr h2, ?_⟩
    rw [h3.len]
    exact q
  exact FnOk.raw (dvs := []) F T.b_Sheet_len .nil |>.imp fun vs H Q E h => by simpa using h
def sp_Sheet_getitem (K : PySem.W.Frag) (A : ClsA) (CS CE : Addr) : Sp
  | [v, .int i], H, Q, E => ∃ rs vs, SheetO K A CS H rs vs v ∧ ((0 ≤ i ∧ i < rs.length ∧ ∀ u r, rs[i.toNat]? = some r → RowO K A H r u → Q u H) ∨ ((i < 0 ∨ (rs.length : Int) ≤ i) ∧ ToldA CE "at" (.int i) E H))
  | _, _, _, _ => False
theorem ok_Sheet_getitem (T : Txt w K mg a_is_integer a_is_number a_is_name a_are_rows a_texts a_needed a_fits a_is_of a_inner a_flat a_names_in a_bare a_named a_law_deal a_law_draw a_law_pick a_law_words a_law_kinds a_law_put a_law_ask a_law_count a_law_rows a_law_ask_text a_law_lines a_law_all_lines a_law_ask_of a_law_row_of a_law_deed a_law_begun a_law_alike a_law a_NoRow_init a_InvalidRow_init a_Put_init a_Put_eq a_Put_str a_If_init a_If_eq a_If_str a_Times_init a_Times_eq a_Times_str a_Stop_eq a_Stop_str a_Ask_init a_Ask_eq a_Ask_str a_Not_init a_Not_eq a_Not_str a_Program_init a_Program_str a_Sheet_init a_Sheet_drop a_Sheet_made a_Sheet_len a_Sheet_getitem a_Sheet_setitem a_Sheet_iadd a_NoRow a_InvalidRow a_Put a_If a_Times a_Stop a_Ask a_Not a_Row a_Test a_Program a_Sheet a_DEEDS a_SIGNS a_WORDS a_If_init_d0 a_Program_init_d0 a_Sheet_init_d0 d_is_integer d_is_number d_is_name d_are_rows d_texts d_needed d_fits d_is_of d_inner d_flat d_names_in d_bare d_named d_law_deal d_law_draw d_law_pick d_law_words d_law_kinds d_law_put d_law_ask d_law_count d_law_rows d_law_ask_text d_law_lines d_law_all_lines d_law_ask_of d_law_row_of d_law_deed d_law_begun d_law_alike d_law d_NoRow_init d_InvalidRow_init d_Put_init d_Put_eq d_Put_str d_If_init d_If_eq d_If_str d_Times_init d_Times_eq d_Times_str d_Stop_eq d_Stop_str d_Ask_init d_Ask_eq d_Ask_str d_Not_init d_Not_eq d_Not_str d_Program_init d_Program_str d_Sheet_init d_Sheet_drop d_Sheet_made d_Sheet_len d_Sheet_getitem d_Sheet_setitem d_Sheet_iadd) : FnR P w K mg base (L2.CX P w) 10 a_Sheet_getitem (onC a_Sheet (sp_Sheet_getitem K ⟨a_Put, a_If, a_Times, a_Stop, a_Ask, a_Not⟩ a_Sheet a_NoRow)) := by
  have G_NoRow_init := ok_NoRow_init (P := P) (w := w) (base := base) T
  have G_InvalidRow_init := ok_InvalidRow_init (P := P) (w := w) (base := base) T
  have F : FnOk P w K mg base (L2.CX P w) 10 a_Sheet_getitem d_Sheet_getitem ["self", "at"] (onC a_Sheet (sp_Sheet_getitem K ⟨a_Put, a_If, a_Times, a_Stop, a_Ask, a_Not⟩ a_Sheet a_NoRow)) := by
    refine T.F_Sheet_getitem.okX sc_Sheet_getitem (fun vs H Q E h => ?_) (fun cdv A outer s H vs Q E hr h => ?_)
    · obtain ⟨_, h⟩ := h; unfold sp_Sheet_getitem at h; split at h; rfl; exact h.elim
    obtain ⟨_, h⟩ := h
    unfold sp_Sheet_getitem at h; split at h
    case h_2 => exact h.elim
    rename_i v i _
    obtain ⟨rs, vs, ⟨a, dx, r, rfl, h1, h2, h3⟩, q⟩ := h
    refine ⟨_, (pss_cons (ps_if (pt_not (pt_chain op_le op_lt pe_int (pv 1) (pe_callB call_len_seq (by rfl) T.z_len (by decide +kernel) (pa_cons (pe_fld (pv 0) (by rfl)) pa_nil))))
      (pss_one (ps_raise rfl (takes_of rfl rfl rfl rfl) (pmk_any T.E_NoRow G_NoRow_init (hr.mono (by omega)) T.b_NoRow_init .nil pass0 (by rfl) (pa_cons (pv 1) pa_nil))))
      pss_nil)
      (pss_one (ps_ret (pe_ix ix_tup (pe_fld (pv 0) (by rfl)) (pv 1) (fun _ _ => rfl))))), ?_⟩
    walk_at "st"
    walk_at "vc"
    have hl := h3.len
    rcases q with ⟨i0, i1, q⟩ | ⟨hout, q⟩
    · rw [if_pos i0]
      refine ⟨_, rfl, a, _, dx, _, .ref r, rfl, h1, T.oc_Sheet.cl, T.nF_Sheet_held, rfl, r, rfl, vs, .inr h2, ?_⟩
      rw [hl, if_neg (by omega)]
      have hi : i.toNat < vs.length := by omega
      obtain ⟨x, hx⟩ : ∃ x, vs[i.toNat]? = some x := ⟨_, List.getElem?_eq_getElem hi⟩
      obtain ⟨r0, hr0, hr1⟩ := h3.at_ hx
      have := atI_nat hx
      rw [Int.toNat_of_nonneg i0] at this
      exact ⟨_, rfl, a, _, dx, _, .ref r, rfl, h1, T.oc_Sheet.cl, T.nF_Sheet_held, rfl, r, _, _, x, rfl, rfl, h2, this, q x r0 hr0 (hr1.kp (Kp.of_ex delL_le))⟩
    · refine ite2 (fun i0 => ?_) (fun _ => ⟨_, rfl, mkErrR T.E_NoRow fun d hd => q H d (Ex.refl _) hd⟩)
      refine ⟨_, rfl, a, _, dx, _, .ref r, rfl, h1, T.oc_Sheet.cl, T.nF_Sheet_held, rfl, r, rfl, vs, .inr h2, ?_⟩
      rw [hl, if_pos (by omega)]
      exact ⟨_, rfl, mkErrR T.E_NoRow fun d hd => q H d (Ex.refl _) hd⟩
  exact FnOk.raw (dvs := []) F T.b_Sheet_getitem .nil |>.imp fun vs H Q E h => by simpa using h
def sp_Sheet_setitem (K : PySem.W.Frag) (A : ClsA) (CS CE CI CR : Addr) : Sp
  | [v, .int i, u], H, Q, E => ∃ rs vs, SheetO K A CS H rs vs v ∧ rs.length ≤ 1000 ∧ (((i < 0 ∨ (rs.length : Int) ≤ i) ∧ ToldA CE "at" (.int i) E H) ∨ (0 ≤ i ∧ i < rs.length ∧ ((∃ t, TyX K H u t ∧ PySem.W.kitOne K t (.ref CR) = some false ∧ ToldA CI "word" (.str "rows") E H) ∨
      ∃ r a, v = .ref a ∧ RowO K A (delL H a) r u ∧ ∀ H1, Off a H H1 → SheetO K A CS H1 (rs.take i.toNat ++ [r] ++ rs.drop (i.toNat + 1)) (vs.take i.toNat ++ [u] ++ vs.drop (i.toNat + 1)) v → Q .non H1)))
  | _, _, _, _ => False
theorem ok_Sheet_setitem (T : Txt w K mg a_is_integer a_is_number a_is_name a_are_rows a_texts a_needed a_fits a_is_of a_inner a_flat a_names_in a_bare a_named a_law_deal a_law_draw a_law_pick a_law_words a_law_kinds a_law_put a_law_ask a_law_count a_law_rows a_law_ask_text a_law_lines a_law_all_lines a_law_ask_of a_law_row_of a_law_deed a_law_begun a_law_alike a_law a_NoRow_init a_InvalidRow_init a_Put_init a_Put_eq a_Put_str a_If_init a_If_eq a_If_str a_Times_init a_Times_eq a_Times_str a_Stop_eq a_Stop_str a_Ask_init a_Ask_eq a_Ask_str a_Not_init a_Not_eq a_Not_str a_Program_init a_Program_str a_Sheet_init a_Sheet_drop a_Sheet_made a_Sheet_len a_Sheet_getitem a_Sheet_setitem a_Sheet_iadd a_NoRow a_InvalidRow a_Put a_If a_Times a_Stop a_Ask a_Not a_Row a_Test a_Program a_Sheet a_DEEDS a_SIGNS a_WORDS a_If_init_d0 a_Program_init_d0 a_Sheet_init_d0 d_is_integer d_is_number d_is_name d_are_rows d_texts d_needed d_fits d_is_of d_inner d_flat d_names_in d_bare d_named d_law_deal d_law_draw d_law_pick d_law_words d_law_kinds d_law_put d_law_ask d_law_count d_law_rows d_law_ask_text d_law_lines d_law_all_lines d_law_ask_of d_law_row_of d_law_deed d_law_begun d_law_alike d_law d_NoRow_init d_InvalidRow_init d_Put_init d_Put_eq d_Put_str d_If_init d_If_eq d_If_str d_Times_init d_Times_eq d_Times_str d_Stop_eq d_Stop_str d_Ask_init d_Ask_eq d_Ask_str d_Not_init d_Not_eq d_Not_str d_Program_init d_Program_str d_Sheet_init d_Sheet_drop d_Sheet_made d_Sheet_len d_Sheet_getitem d_Sheet_setitem d_Sheet_iadd) : FnR P w K mg base (L2.CX P w) 10 a_Sheet_setitem (onC a_Sheet (sp_Sheet_setitem K ⟨a_Put, a_If, a_Times, a_Stop, a_Ask, a_Not⟩ a_Sheet a_NoRow a_InvalidRow a_Row)) := by
  have G_NoRow_init := ok_NoRow_init (P := P) (w := w) (base := base) T
  have G_InvalidRow_init := ok_InvalidRow_init (P := P) (w := w) (base := base) T
  have F : FnOk P w K mg base (L2.CX P w) 10 a_Sheet_setitem d_Sheet_setitem ["self", "at", "worth"] (onC a_Sheet (sp_Sheet_setitem K ⟨a_Put, a_If, a_Times, a_Stop, a_Ask, a_Not⟩ a_Sheet a_NoRow a_InvalidRow a_Row)) := by
    refine T.F_Sheet_setitem.okX sc_Sheet_setitem (fun vs H Q E h => ?_) (fun cdv A outer s H vs Q E hr h => ?_)
    · obtain ⟨_, h⟩ := h; unfold sp_Sheet_setitem at h; split at h; rfl; exact h.elim
    obtain ⟨_, h⟩ := h
    unfold sp_Sheet_setitem at h; split at h
    case h_2 => exact h.elim
    rename_i v i u _
    obtain ⟨rs, vs, ⟨a, dx, r, rfl, h1, h2, h3⟩, hl, q⟩ := h
    refine ⟨_, (pss_cons (ps_if (pt_not (pt_chain op_le op_lt pe_int (pv 1) (pe_callB call_len_seq (by rfl) T.z_len (by decide +kernel) (pa_cons (pe_fld (pv 0) (by rfl)) pa_nil))))
      (pss_one (ps_raise rfl (takes_of rfl rfl rfl rfl) (pmk_any T.E_NoRow G_NoRow_init (hr.mono (by omega)) T.b_NoRow_init .nil pass0 (by rfl) (pa_cons (pv 1) pa_nil))))
      pss_nil)
      (pss_cons (ps_if (pt_not (pt_val (pe_callB (call_isiK (K := K)) (by rfl) T.z_isinstance (by decide +kernel) (pa_cons (pv 2) (pa_cons (pe_glob (v := .ref a_Row) (by rfl) T.g_Row rfl) pa_nil)))))
      (pss_one (ps_raise rfl (takes_of rfl rfl rfl rfl) (pmk_any T.E_InvalidRow G_InvalidRow_init (hr.mono (by omega)) T.b_InvalidRow_init .nil pass0 (by rfl) (pa_cons pe_str pa_nil))))
      pss_nil)
      (pss_one (ps_fld (pv 0) (pe_op op_catA (pe_op op_catA (pe_slice sl_tupA (pe_fld (pv 0) (by rfl)) po_none (po_some (pv 1))) (pe_tup (pa_cons (pv 2) pa_nil))) (pe_slice sl_tupA (pe_fld (pv 0) (by rfl)) (po_some (pe_op op_add (pv 1) pe_int)) po_none)) (by rfl))))), ?_⟩
    walk_at "st"
    walk_at "vc"
    have hvl := h3.len
    rcases q with ⟨hout, q⟩ | ⟨i0, i1, q⟩
    · refine ite2 (fun i0 => ?_) (fun _ => ⟨_, rfl, mkErrR T.E_NoRow fun d hd => q H d (Ex.refl _) hd⟩)
      refine ⟨_, rfl, a, _, dx, _, .ref r, rfl, h1, T.oc_Sheet.cl, T.nF_Sheet_held, rfl, r, rfl, vs, .inr h2, ?_⟩
      rw [hvl, if_pos (by omega)]
      exact ⟨_, rfl, mkErrR T.E_NoRow fun d hd => q H d (Ex.refl _) hd⟩
    · rw [if_pos i0]
      refine ⟨_, rfl, a, _, dx, _, .ref r, rfl, h1, T.oc_Sheet.cl, T.nF_Sheet_held, rfl, r, rfl, vs, .inr h2, ?_⟩
      rw [hvl, if_neg (by omega)]
      obtain ⟨n, rfl⟩ := Int.eq_ofNat_of_zero_le i0
      rcases q with ⟨t, ty, hk, q⟩ | ⟨r0, a0, ea, hr0, q⟩
      · refine ⟨_, _, _, _, false, rfl, .own _, ty, hk, _, rfl, ?_⟩
        rw [if_pos rfl]
        exact mkErrR T.E_InvalidRow fun d hd => q H d (Ex.refl _) hd
      · cases ea
        refine isRow T (hr0.kp (Kp.of_ex delL_le)) ⟨_, rfl, ?_⟩
        rw [if_neg (by decide)]
        unfold sFld
        walk_at "vc"
        refine ⟨_, rfl, a, _, dx, _, .ref r, rfl, h1, T.oc_Sheet.cl, T.nF_Sheet_held, rfl, slA_of h2 fun t1 H1 e1 s1 => ⟨sz_le (by simp), fun t2 ht2 => ?_⟩⟩
        have e2 := e1.trans (Ex.new ht2 (o := .tup [u]))
        rw [cut_take] at s1
        refine catA_of ((Kp.of_ex (Ex.new ht2)).sqt s1) (st_of upd_same) (sz_le (by rw [List.length_take]; simp; omega)) fun t3 H3 e3 s3 => ?_
        have e23 := e2.trans e3
        refine ⟨_, rfl, a, _, dx, _, .ref r, rfl, e23 _ _ h1, T.oc_Sheet.cl, T.nF_Sheet_held, rfl, slA_of ((Kp.of_ex e23).sqt h2) fun t4 H4 e4 s4 => ?_⟩
        rw [show ((n : Int) + 1) = ((n + 1 : Nat) : Int) by omega, cut_drop] at s4
        refine catA_of ((Kp.of_ex e4).sqt s3) s4 (sz_le (by rw [List.length_append, List.length_take, List.length_drop]; simp; omega)) fun t5 H5 e5 s5 => ?_
        have e25 := (e23.trans e4).trans e5
        refine ⟨a_Sheet, dx, _, e25 _ _ h1, T.oc_Sheet.cl, T.nF_Sheet_held, (show (1 : Nat) < 1000 by decide), ?_⟩
        have o5 := (Off.of (a := a) e25).set (o := .ins a_Sheet dx [("held", .ref t5)])
        refine q _ o5 ⟨a, dx, t5, rfl, upd_same, SqT.off (Off.upd (Ex.refl _)) (e25 _ _ h1) s5, ?_⟩
        have hd := (Kp.of_ex (delL_mono o5))
        exact RowOs.app (RowOs.app ((h3.kp hd).take n) (RowOs.one (hr0.kp hd))) ((h3.kp hd).drop (n + 1))
  exact FnOk.raw (dvs := []) F T.b_Sheet_setitem .nil |>.imp fun vs H Q E h => by simpa using h
def sp_Sheet_drop (K : PySem.W.Frag) (A : ClsA) (CS CE : Addr) : Sp
  | [v, .int i], H, Q, E => ∃ rs vs, SheetO K A CS H rs vs v ∧ rs.length ≤ 1000 ∧ (((i < 0 ∨ (rs.length : Int) ≤ i) ∧ ToldA CE "at" (.int i) E H) ∨ (0 ≤ i ∧ i < rs.length ∧ ∃ a, v = .ref a ∧ ∀ H1, Off a H H1 → SheetO K A CS H1 (rs.take i.toNat ++ rs.drop (i.toNat + 1)) (vs.take i.toNat ++ vs.drop (i.toNat + 1)) v → Q .non H1))
  | _, _, _, _ => False
theorem ok_Sheet_drop (T : Txt w K mg a_is_integer a_is_number a_is_name a_are_rows a_texts a_needed a_fits a_is_of a_inner a_flat a_names_in a_bare a_named a_law_deal a_law_draw a_law_pick a_law_words a_law_kinds a_law_put a_law_ask a_law_count a_law_rows a_law_ask_text a_law_lines a_law_all_lines a_law_ask_of a_law_row_of a_law_deed a_law_begun a_law_alike a_law a_NoRow_init a_InvalidRow_init a_Put_init a_Put_eq a_Put_str a_If_init a_If_eq a_If_str a_Times_init a_Times_eq a_Times_str a_Stop_eq a_Stop_str a_Ask_init a_Ask_eq a_Ask_str a_Not_init a_Not_eq a_Not_str a_Program_init a_Program_str a_Sheet_init a_Sheet_drop a_Sheet_made a_Sheet_len a_Sheet_getitem a_Sheet_setitem a_Sheet_iadd a_NoRow a_InvalidRow a_Put a_If a_Times a_Stop a_Ask a_Not a_Row a_Test a_Program a_Sheet a_DEEDS a_SIGNS a_WORDS a_If_init_d0 a_Program_init_d0 a_Sheet_init_d0 d_is_integer d_is_number d_is_name d_are_rows d_texts d_needed d_fits d_is_of d_inner d_flat d_names_in d_bare d_named d_law_deal d_law_draw d_law_pick d_law_words d_law_kinds d_law_put d_law_ask d_law_count d_law_rows d_law_ask_text d_law_lines d_law_all_lines d_law_ask_of d_law_row_of d_law_deed d_law_begun d_law_alike d_law d_NoRow_init d_InvalidRow_init d_Put_init d_Put_eq d_Put_str d_If_init d_If_eq d_If_str d_Times_init d_Times_eq d_Times_str d_Stop_eq d_Stop_str d_Ask_init d_Ask_eq d_Ask_str d_Not_init d_Not_eq d_Not_str d_Program_init d_Program_str d_Sheet_init d_Sheet_drop d_Sheet_made d_Sheet_len d_Sheet_getitem d_Sheet_setitem d_Sheet_iadd) : FnR P w K mg base (L2.CX P w) 10 a_Sheet_drop (sp_Sheet_drop K ⟨a_Put, a_If, a_Times, a_Stop, a_Ask, a_Not⟩ a_Sheet a_NoRow) := by
  have G_NoRow_init := ok_NoRow_init (P := P) (w := w) (base := base) T
  have G_InvalidRow_init := ok_InvalidRow_init (P := P) (w := w) (base := base) T
  have F : FnOk P w K mg base (L2.CX P w) 10 a_Sheet_drop d_Sheet_drop ["self", "at"] (sp_Sheet_drop K ⟨a_Put, a_If, a_Times, a_Stop, a_Ask, a_Not⟩ a_Sheet a_NoRow) := by
    refine T.F_Sheet_drop.okX sc_Sheet_drop (fun vs H Q E h => ?_) (fun cdv A outer s H vs Q E hr h => ?_)
    · unfold sp_Sheet_drop at h; split at h; rfl; exact h.elim
    unfold sp_Sheet_drop at h; split at h
    case h_2 => exact h.elim
    rename_i v i
    obtain ⟨rs, vs, ⟨a, dx, r, rfl, h1, h2, h3⟩, hl, q⟩ := h
    refine ⟨_, (pss_cons (ps_if (pt_not (pt_chain op_le op_lt pe_int (pv 1) (pe_callB call_len_seq (by rfl) T.z_len (by decide +kernel) (pa_cons (pe_fld (pv 0) (by rfl)) pa_nil))))
      (pss_one (ps_raise rfl (takes_of rfl rfl rfl rfl) (pmk_any T.E_NoRow G_NoRow_init (hr.mono (by omega)) T.b_NoRow_init .nil pass0 (by rfl) (pa_cons (pv 1) pa_nil))))
      pss_nil)
      (pss_one (ps_fld (pv 0) (pe_op op_catA (pe_slice sl_tupA (pe_fld (pv 0) (by rfl)) po_none (po_some (pv 1))) (pe_slice sl_tupA (pe_fld (pv 0) (by rfl)) (po_some (pe_op op_add (pv 1) pe_int)) po_none)) (by rfl)))), ?_⟩
    walk_at "st"
    walk_at "vc"
    have hvl := h3.len
    rcases q with ⟨hout, q⟩ | ⟨i0, i1, a0, ea, q⟩
    · refine ite2 (fun i0 => ?_) (fun _ => ⟨_, rfl, mkErrR T.E_NoRow fun d hd => q H d (Ex.refl _) hd⟩)
      refine ⟨_, rfl, a, _, dx, _, .ref r, rfl, h1, T.oc_Sheet.cl, T.nF_Sheet_held, rfl, r, rfl, vs, .inr h2, ?_⟩
      rw [hvl, if_pos (by omega)]
      exact ⟨_, rfl, mkErrR T.E_NoRow fun d hd => q H d (Ex.refl _) hd⟩
    · cases ea
      rw [if_pos i0]
      refine ⟨_, rfl, a, _, dx, _, .ref r, rfl, h1, T.oc_Sheet.cl, T.nF_Sheet_held, rfl, r, rfl, vs, .inr h2, ?_⟩
      rw [hvl, if_neg (by omega)]
      obtain ⟨n, rfl⟩ := Int.eq_ofNat_of_zero_le i0
      unfold sFld
      walk_at "vc"
      refine ⟨_, rfl, a, _, dx, _, .ref r, rfl, h1, T.oc_Sheet.cl, T.nF_Sheet_held, rfl, slA_of h2 fun t1 H1 e1 s1 => ?_⟩
      rw [cut_take] at s1
      refine ⟨_, rfl, a, _, dx, _, .ref r, rfl, e1 _ _ h1, T.oc_Sheet.cl, T.nF_Sheet_held, rfl, slA_of ((Kp.of_ex e1).sqt h2) fun t4 H4 e4 s4 => ?_⟩
      rw [show ((n : Int) + 1) = ((n + 1 : Nat) : Int) by omega, cut_drop] at s4
      refine catA_of ((Kp.of_ex e4).sqt s1) s4 (sz_le (by rw [List.length_take, List.length_drop]; omega)) fun t5 H5 e5 s5 => ?_
      have e25 := (e1.trans e4).trans e5
      refine ⟨a_Sheet, dx, _, e25 _ _ h1, T.oc_Sheet.cl, T.nF_Sheet_held, (show (1 : Nat) < 1000 by decide), ?_⟩
      have o5 := (Off.of (a := a) e25).set (o := .ins a_Sheet dx [("held", .ref t5)])
      refine q _ o5 ⟨a, dx, t5, rfl, upd_same, SqT.off (Off.upd (Ex.refl _)) (e25 _ _ h1) s5, ?_⟩
      have hd := (Kp.of_ex (delL_mono o5))
      exact RowOs.app ((h3.kp hd).take n) ((h3.kp hd).drop (n + 1))
  exact FnOk.raw (dvs := []) F T.b_Sheet_drop .nil |>.imp fun vs H Q E h => by simpa using h
def sp_Sheet_iadd (K : PySem.W.Frag) (A : ClsA) (CS CI CR : Addr) : Sp
  | [v, u], H, Q, E => ∃ rs vs, SheetO K A CS H rs vs v ∧ rs.length ≤ 1000 ∧ ((∃ t, TyX K H u t ∧ PySem.W.kitOne K t (.ref CR) = some false ∧ ToldA CI "word" (.str "rows") E H) ∨
      ∃ r a, v = .ref a ∧ RowO K A (delL H a) r u ∧ ∀ H1, Off a H H1 → SheetO K A CS H1 (rs ++ [r]) (vs ++ [u]) v → Q v H1)
  | _, _, _, _ => False
theorem ok_Sheet_iadd (T : Txt w K mg a_is_integer a_is_number a_is_name a_are_rows a_texts a_needed a_fits a_is_of a_inner a_flat a_names_in a_bare a_named a_law_deal a_law_draw a_law_pick a_law_words a_law_kinds a_law_put a_law_ask a_law_count a_law_rows a_law_ask_text a_law_lines a_law_all_lines a_law_ask_of a_law_row_of a_law_deed a_law_begun a_law_alike a_law a_NoRow_init a_InvalidRow_init a_Put_init a_Put_eq a_Put_str a_If_init a_If_eq a_If_str a_Times_init a_Times_eq a_Times_str a_Stop_eq a_Stop_str a_Ask_init a_Ask_eq a_Ask_str a_Not_init a_Not_eq a_Not_str a_Program_init a_Program_str a_Sheet_init a_Sheet_drop a_Sheet_made a_Sheet_len a_Sheet_getitem a_Sheet_setitem a_Sheet_iadd a_NoRow a_InvalidRow a_Put a_If a_Times a_Stop a_Ask a_Not a_Row a_Test a_Program a_Sheet a_DEEDS a_SIGNS a_WORDS a_If_init_d0 a_Program_init_d0 a_Sheet_init_d0 d_is_integer d_is_number d_is_name d_are_rows d_texts d_needed d_fits d_is_of d_inner d_flat d_names_in d_bare d_named d_law_deal d_law_draw d_law_pick d_law_words d_law_kinds d_law_put d_law_ask d_law_count d_law_rows d_law_ask_text d_law_lines d_law_all_lines d_law_ask_of d_law_row_of d_law_deed d_law_begun d_law_alike d_law d_NoRow_init d_InvalidRow_init d_Put_init d_Put_eq d_Put_str d_If_init d_If_eq d_If_str d_Times_init d_Times_eq d_Times_str d_Stop_eq d_Stop_str d_Ask_init d_Ask_eq d_Ask_str d_Not_init d_Not_eq d_Not_str d_Program_init d_Program_str d_Sheet_init d_Sheet_drop d_Sheet_made d_Sheet_len d_Sheet_getitem d_Sheet_setitem d_Sheet_iadd) : FnR P w K mg base (L2.CX P w) 10 a_Sheet_iadd (onC a_Sheet (sp_Sheet_iadd K ⟨a_Put, a_If, a_Times, a_Stop, a_Ask, a_Not⟩ a_Sheet a_InvalidRow a_Row)) := by
  have G_NoRow_init := ok_NoRow_init (P := P) (w := w) (base := base) T
  have G_InvalidRow_init := ok_InvalidRow_init (P := P) (w := w) (base := base) T
  have F : FnOk P w K mg base (L2.CX P w) 10 a_Sheet_iadd d_Sheet_iadd ["self", "other"] (onC a_Sheet (sp_Sheet_iadd K ⟨a_Put, a_If, a_Times, a_Stop, a_Ask, a_Not⟩ a_Sheet a_InvalidRow a_Row)) := by
    refine T.F_Sheet_iadd.okX sc_Sheet_iadd (fun vs H Q E h => ?_) (fun cdv A outer s H vs Q E hr h => ?_)
    · obtain ⟨_, h⟩ := h; unfold sp_Sheet_iadd at h; split at h; rfl; exact h.elim
    obtain ⟨_, h⟩ := h
    unfold sp_Sheet_iadd at h; split at h
    case h_2 => exact h.elim
    rename_i v u _
    obtain ⟨rs, vs, ⟨a, dx, r, rfl, h1, h2, h3⟩, hl, q⟩ := h
    refine ⟨_, (pss_cons (ps_if (pt_not (pt_val (pe_callB (call_isiK (K := K)) (by rfl) T.z_isinstance (by decide +kernel) (pa_cons (pv 1) (pa_cons (pe_glob (v := .ref a_Row) (by rfl) T.g_Row rfl) pa_nil)))))
      (pss_one (ps_raise rfl (takes_of rfl rfl rfl rfl) (pmk_any T.E_InvalidRow G_InvalidRow_init (hr.mono (by omega)) T.b_InvalidRow_init .nil pass0 (by rfl) (pa_cons pe_str pa_nil))))
      pss_nil)
      (pss_cons (ps_fld (pv 0) (pe_op op_catA (pe_fld (pv 0) (by rfl)) (pe_tup (pa_cons (pv 1) pa_nil))) (by rfl))
      (pss_one (ps_ret (pv 0))))), ?_⟩
    walk_at "st"
    walk_at "vc"
    have hvl := h3.len
    rcases q with ⟨t, ty, hk, q⟩ | ⟨r0, a0, ea, hr0, q⟩
    · refine ⟨_, _, _, _, false, rfl, .own _, ty, hk, _, rfl, ?_⟩
      rw [if_pos rfl]
      exact mkErrR T.E_InvalidRow fun d hd => q H d (Ex.refl _) hd
    · cases ea
      refine isRow T (hr0.kp (Kp.of_ex delL_le)) ⟨_, rfl, ?_⟩
      rw [if_neg (by decide)]
      unfold sFld
      walk_at "vc"
      refine ⟨_, rfl, a, _, dx, _, .ref r, rfl, h1, T.oc_Sheet.cl, T.nF_Sheet_held, rfl, sz_le (by simp), fun t2 ht2 => ?_⟩
      have e2 := Ex.new ht2 (o := .tup [u])
      refine catA_of ((Kp.of_ex e2).sqt h2) (st_of upd_same) (sz_le (by simp; omega)) fun t5 H5 e5 s5 => ?_
      have e25 := e2.trans e5
      refine ⟨a_Sheet, dx, _, e25 _ _ h1, T.oc_Sheet.cl, T.nF_Sheet_held, (show (1 : Nat) < 1000 by decide), ?_⟩
      have o5 := (Off.of (a := a) e25).set (o := .ins a_Sheet dx [("held", .ref t5)])
      refine q _ o5 ⟨a, dx, t5, rfl, upd_same, SqT.off (Off.upd (Ex.refl _)) (e25 _ _ h1) s5, ?_⟩
      have hd := (Kp.of_ex (delL_mono o5))
      exact RowOs.app (h3.kp hd) (RowOs.one (hr0.kp hd))
  exact FnOk.raw (dvs := []) F T.b_Sheet_iadd .nil |>.imp fun vs H Q E h => by simpa using h
def sp_Sheet_made (K : PySem.W.Frag) (A : ClsA) (CS CP : Addr) : Sp
  | [v], H, Q, _ => ∃ rs vs, SheetO K A CS H rs vs v ∧ GdP rs ∧ ∀ u H', Ex H H' → ProgO K A CP H' rs vs u → (∃ b, u = .ref b ∧ H b = none) → Q u H'
  | _, _, _, _ => False
theorem ok_Sheet_made (T : Txt w K mg a_is_integer a_is_number a_is_name a_are_rows a_texts a_needed a_fits a_is_of a_inner a_flat a_names_in a_bare a_named a_law_deal a_law_draw a_law_pick a_law_words a_law_kinds a_law_put a_law_ask a_law_count a_law_rows a_law_ask_text a_law_lines a_law_all_lines a_law_ask_of a_law_row_of a_law_deed a_law_begun a_law_alike a_law a_NoRow_init a_InvalidRow_init a_Put_init a_Put_eq a_Put_str a_If_init a_If_eq a_If_str a_Times_init a_Times_eq a_Times_str a_Stop_eq a_Stop_str a_Ask_init a_Ask_eq a_Ask_str a_Not_init a_Not_eq a_Not_str a_Program_init a_Program_str a_Sheet_init a_Sheet_drop a_Sheet_made a_Sheet_len a_Sheet_getitem a_Sheet_setitem a_Sheet_iadd a_NoRow a_InvalidRow a_Put a_If a_Times a_Stop a_Ask a_Not a_Row a_Test a_Program a_Sheet a_DEEDS a_SIGNS a_WORDS a_If_init_d0 a_Program_init_d0 a_Sheet_init_d0 d_is_integer d_is_number d_is_name d_are_rows d_texts d_needed d_fits d_is_of d_inner d_flat d_names_in d_bare d_named d_law_deal d_law_draw d_law_pick d_law_words d_law_kinds d_law_put d_law_ask d_law_count d_law_rows d_law_ask_text d_law_lines d_law_all_lines d_law_ask_of d_law_row_of d_law_deed d_law_begun d_law_alike d_law d_NoRow_init d_InvalidRow_init d_Put_init d_Put_eq d_Put_str d_If_init d_If_eq d_If_str d_Times_init d_Times_eq d_Times_str d_Stop_eq d_Stop_str d_Ask_init d_Ask_eq d_Ask_str d_Not_init d_Not_eq d_Not_str d_Program_init d_Program_str d_Sheet_init d_Sheet_drop d_Sheet_made d_Sheet_len d_Sheet_getitem d_Sheet_setitem d_Sheet_iadd) : FnR P w K mg base (L2.CX P w) 40 a_Sheet_made (sp_Sheet_made K ⟨a_Put, a_If, a_Times, a_Stop, a_Ask, a_Not⟩ a_Sheet a_Program) := by
  have G_Program_init := ok_Program_init0 (P := P) (w := w) (base := base) T
  have F : FnOk P w K mg base (L2.CX P w) 40 a_Sheet_made d_Sheet_made ["self"] (sp_Sheet_made K ⟨a_Put, a_If, a_Times, a_Stop, a_Ask, a_Not⟩ a_Sheet a_Program) := by
    refine T.F_Sheet_made.okX sc_Sheet_made (fun vs H Q E h => ?_) (fun cdv A outer s H vs Q E hr h => ?_)
    · unfold sp_Sheet_made at h; split at h; rfl; exact h.elim
    unfold sp_Sheet_made at h; split at h
    case h_2 => exact h.elim
    rename_i v
    obtain ⟨rs, vs, ⟨a, dx, r, rfl, h1, h2, h3⟩, hg, q⟩ := h
    refine ⟨_, (pss_one (ps_ret (pe_make T.M_Program G_Program_init (hr.mono (by omega)) (by rfl) T.g_Program T.b_Program_init .nil pass0 (pa_cons (pe_fld (pv 0) (by rfl)) pa_nil)))), ?_⟩
    walk_at "st"
    walk_at "vc"
    unfold tMake
    walk_at "vc"
    refine ⟨_, rfl, a, _, dx, _, .ref r, rfl, h1, T.oc_Sheet.cl, T.nF_Sheet_held, rfl, ?_⟩
    intro x dx2 hx hdx hnx
    show sp_Program_init K ⟨a_Put, a_If, a_Times, a_Stop, a_Ask, a_Not⟩ a_Program [V.ref x, V.ref r] _ _ _
    exact mkProg hx hdx hnx (.inr h2) (h3.kp (Kp.of_ex delL_le)) hg fun H8 e8 P0 => ⟨rfl, q _ H8 e8 P0 ⟨x, rfl, hx⟩⟩
  exact FnOk.raw (dvs := []) F T.b_Sheet_made .nil |>.imp fun vs H Q E h => by simpa using h
end
end My
set_option Elab.async false
set_option linter.all false
set_option maxRecDepth 100000
set_option maxHeartbeats 4000000
set_option exponentiation.threshold 5000
namespace My
open PySem PySem.Spec PyProof.Rows L2 Evl
local macro_rules | `(tactic| walk_at "st") => `(tactic| simp only [L2.start, List.map_cons, List.map_nil, List.length_cons, List.length_nil, Nat.reduceAdd, Nat.reduceSub, List.replicate_succ, List.replicate_zero, List.cons_append, List.nil_append, cxOf, List.append_nil])
local macro_rules | `(tactic| walk_at "vc") => `(tactic| try simp only [tSeq, tAsg, tOp, tUn, tVar, tC, tNil, tCons, gName, rI, rI0, rU, tRet, tIfS, tNot, tAnd, tOr, tB, tTest, tCB, tCall, tAndV, tOrV, tNotV, tNext, tNever, tIf, tChain, tYes, tPart, tNoPart, tPar, tDrop, q_isi, q_vn, q_vb, q_vi, q_vs, kb1, kb2, kb3, kb4, kb5, kb6, kb7, kb8, q_int1, q_int2, q_min, q_max, q_repr, tLst, tTup, rEq, rNe, q_sii, q_sss, q_sbb, q_snn, q_sns, q_ssn, q_ix, q_sl, tSl, tBM, tBM0, q_app, q_pop, gSub, rSetL, L2.wipe, eq_self, decide_true, decide_false, tRevL,
  List.getElem?_cons_succ, List.getElem?_cons_zero, List.set_cons_succ, List.set_cons_zero, Option.some.injEq, exists_eq_left', exists_eq_left, V.int.injEq, V.bl.injEq, V.ref.injEq, V.str.injEq, List.cons.injEq, and_true, true_and, List.append_nil, List.nil_append, List.cons_append, exists_and_left, and_assoc, if_true, if_false, Bool.not_true, Bool.not_false, Bool.false_eq_true, Bool.true_eq_false, reduceIte, tRevL, tPar3, tRevT, tUnl, tCKw, forall_const, Bool.not_eq_true', decide_eq_true_eq, decide_eq_false_iff_not])
section
variable {P : Program} {w : World} {K : PySem.W.Frag} {mg : Str → Option Value} {base : Heap}
variable {a_is_integer a_is_number a_is_name a_are_rows a_texts a_needed a_fits a_is_of a_inner a_flat a_names_in a_bare a_named a_law_deal a_law_draw a_law_pick a_law_words a_law_kinds a_law_put a_law_ask a_law_count a_law_rows a_law_ask_text a_law_lines a_law_all_lines a_law_ask_of a_law_row_of a_law_deed a_law_begun a_law_alike a_law a_NoRow_init a_InvalidRow_init a_Put_init a_Put_eq a_Put_str a_If_init a_If_eq a_If_str a_Times_init a_Times_eq a_Times_str a_Stop_eq a_Stop_str a_Ask_init a_Ask_eq a_Ask_str a_Not_init a_Not_eq a_Not_str a_Program_init a_Program_str a_Sheet_init a_Sheet_drop a_Sheet_made a_Sheet_len a_Sheet_getitem a_Sheet_setitem a_Sheet_iadd a_NoRow a_InvalidRow a_Put a_If a_Times a_Stop a_Ask a_Not a_Row a_Test a_Program a_Sheet a_DEEDS a_SIGNS a_WORDS a_If_init_d0 a_Program_init_d0 a_Sheet_init_d0 : Addr} {d_is_integer d_is_number d_is_name d_are_rows d_texts d_needed d_fits d_is_of d_inner d_flat d_names_in d_bare d_named d_law_deal d_law_draw d_law_pick d_law_words d_law_kinds d_law_put d_law_ask d_law_count d_law_rows d_law_ask_text d_law_lines d_law_all_lines d_law_ask_of d_law_row_of d_law_deed d_law_begun d_law_alike d_law d_NoRow_init d_InvalidRow_init d_Put_init d_Put_eq d_Put_str d_If_init d_If_eq d_If_str d_Times_init d_Times_eq d_Times_str d_Stop_eq d_Stop_str d_Ask_init d_Ask_eq d_Ask_str d_Not_init d_Not_eq d_Not_str d_Program_init d_Program_str d_Sheet_init d_Sheet_drop d_Sheet_made d_Sheet_len d_Sheet_getitem d_Sheet_setitem d_Sheet_iadd : FuncData}
theorem ProgO.kp {A : ClsA} {CP : Addr} {H H' : Hp} {rs : List RowM} {vs : List V} {v : V} (e : Kp H H') (h : ProgO K A CP H rs vs v) : ProgO K A CP H' rs vs v := by
  obtain ⟨a, dx, q, n, ys, rfl, h1, h2, h3, h4, h5⟩ := h
  exact ⟨a, dx, q, n, ys, rfl, e.ins h1, e.sqt h2, h3.kp e, e.sqt h4, h5⟩
theorem ProgO.ex {A : ClsA} {CP : Addr} {H H' : Hp} {rs : List RowM} {vs : List V} {v : V} (e : Ex H H') (h : ProgO K A CP H rs vs v) : ProgO K A CP H' rs vs v := h.kp (Kp.of_ex e)
theorem str_of {A : ClsA} {CP g0 : Addr} {H : Hp} {rs : List RowM} {vs : List V} {v : V} {Q : VK} {E : XK} (h : ProgO K A CP H rs vs v) (hg : GdP rs) (q : ∀ H', Ex H H' → Q (.str (Txt.join "\n" (RowM.liness rs))) H') : rStrO (SFp CP g0) (sp_Program_str K A CP) E [v] H Q := by
  have h' := h
  obtain ⟨a, dx, r, n, ys, rfl, h1, _⟩ := h
  exact ⟨a, CP, dx, _, g0, rfl, h1, ⟨rfl, rfl⟩, rs, vs, h', hg, fun H' e => ⟨_, rfl, q H' e⟩⟩
/-! ### what is no rows -/
def NoRows (K : PySem.W.Frag) (row : Addr) (v : V) (H : Hp) : Prop :=
  (∃ t, (∀ H', Ex H H' → TyX K H' v t) ∧ PySem.W.kitAny K t [.type "list", .type "tuple"] = some false) ∨
  ∃ (p : Addr) (vs : List V) (bs : List Bool), v = .ref p ∧ (H p = some (.lst vs) ∨ SqT K H p vs) ∧ vs.length ≤ 1000 ∧ bs.length = vs.length ∧ bs.all id = false ∧ ∀ (i : Nat) (x : V), vs[i]? = some x → ∃ t b, bs[i]? = some b ∧ (∀ H', Ex H H' → TyX K H' x t) ∧ PySem.W.kitOne K t (.ref row) = some b
def C_nr (bs : List Bool) (D : Addr) (H : Hp) : Nat → Hp → Prop := fun i H' => H' D = some (.lst ((bs.take i).map V.bl)) ∧ Ex H H'
def sp_are_rowsN (K : PySem.W.Frag) (row : Addr) : Sp
  | [v], H, Q, _ => NoRows K row v H ∧ ∀ H', Ex H H' → Q (.bl false) H'
  | _, _, _, _ => False
theorem ok_are_rowsN (T : Txt w K mg a_is_integer a_is_number a_is_name a_are_rows a_texts a_needed a_fits a_is_of a_inner a_flat a_names_in a_bare a_named a_law_deal a_law_draw a_law_pick a_law_words a_law_kinds a_law_put a_law_ask a_law_count a_law_rows a_law_ask_text a_law_lines a_law_all_lines a_law_ask_of a_law_row_of a_law_deed a_law_begun a_law_alike a_law a_NoRow_init a_InvalidRow_init a_Put_init a_Put_eq a_Put_str a_If_init a_If_eq a_If_str a_Times_init a_Times_eq a_Times_str a_Stop_eq a_Stop_str a_Ask_init a_Ask_eq a_Ask_str a_Not_init a_Not_eq a_Not_str a_Program_init a_Program_str a_Sheet_init a_Sheet_drop a_Sheet_made a_Sheet_len a_Sheet_getitem a_Sheet_setitem a_Sheet_iadd a_NoRow a_InvalidRow a_Put a_If a_Times a_Stop a_Ask a_Not a_Row a_Test a_Program a_Sheet a_DEEDS a_SIGNS a_WORDS a_If_init_d0 a_Program_init_d0 a_Sheet_init_d0 d_is_integer d_is_number d_is_name d_are_rows d_texts d_needed d_fits d_is_of d_inner d_flat d_names_in d_bare d_named d_law_deal d_law_draw d_law_pick d_law_words d_law_kinds d_law_put d_law_ask d_law_count d_law_rows d_law_ask_text d_law_lines d_law_all_lines d_law_ask_of d_law_row_of d_law_deed d_law_begun d_law_alike d_law d_NoRow_init d_InvalidRow_init d_Put_init d_Put_eq d_Put_str d_If_init d_If_eq d_If_str d_Times_init d_Times_eq d_Times_str d_Stop_eq d_Stop_str d_Ask_init d_Ask_eq d_Ask_str d_Not_init d_Not_eq d_Not_str d_Program_init d_Program_str d_Sheet_init d_Sheet_drop d_Sheet_made d_Sheet_len d_Sheet_getitem d_Sheet_setitem d_Sheet_iadd) : FnOk P w K mg base CX0 1 a_are_rows d_are_rows ["value"] (sp_are_rowsN K a_Row) := by
  refine T.F_are_rows.ok sc_are_rows (fun vs H Q E h => ?_) (fun cdv A outer s H vs Q E hr h => ?_)
  · unfold sp_are_rowsN at h; split at h; rfl; exact h.elim
  unfold sp_are_rowsN at h; split at h
  case h_2 => exact h.elim
  rename_i v
  obtain ⟨hv, q⟩ := h
  refine ⟨_, (pss_one (ps_ret (pe_and (pe_callB (call_isiTK (K := K)) (by rfl) T.z_isinstance (by decide +kernel) (pa_cons (pv 0) (pa_cons (pe_tup (pa_cons (pe_bltn (v := .ty "list") (by rfl) T.z_list (by decide +kernel) rfl) (pa_cons (pe_bltn (v := .ty "tuple") (by rfl) T.z_tuple (by decide +kernel) rfl) pa_nil))) pa_nil))) (pe_one (pe_callB (cr_all rfl) (by rfl) T.z_all (by decide +kernel) (pa_cons (pe_lc (own := [("one", 1)]) (g := gName 1) (by rfl) sc_are_rows.nd (pi_lt (pv 0)) (blkOk_by (own := [("one", 1)]) (N := N_are_rows) (sc := defScope s_are_rows) (by decide +kernel)) (fun _ _ _ _ _ => (pg_name (i := 1) sc_are_rows.nd rfl (by first | exact .inl rfl | exact .inr rfl))) (fun _ _ _ _ _ => pts_nil) (fun _ _ _ _ _ => (pe_callB (call_isiK (K := K)) (by rfl) T.z_isinstance (by decide +kernel) (pa_cons (pv 1) (pa_cons (pe_glob (v := .ref a_Row) (by rfl) T.g_Row rfl) pa_nil))))) pa_nil)))))), ?_⟩
  walk_at "st"
  walk_at "vc"
  refine ⟨sz_le (by simp), fun p1 h1 => ?_⟩
  have e1 := Ex.new h1 (o := .tup [.ty "list", .ty "tuple"])
  have w1 : upd H p1 (.tup [.ty "list", .ty "tuple"]) p1 = some (.tup [.ty "list", .ty "tuple"]) := upd_same
  generalize upd H p1 (.tup [.ty "list", .ty "tuple"]) = H1 at *
  rcases hv with ⟨t, ty, hk⟩ | ⟨p, vs, bs, rfl, hp, hl, hbl, hbs, hit⟩
  · refine ⟨_, p1, _, t, _, false, rfl, w1, .cons (.ty _) (.cons (.ty _) .nil), ty H1 e1, hk, _, rfl, ?_⟩
    rw [if_neg (by decide)]
    exact q _ e1
  have hp1 : H1 p = some (.lst vs) ∨ SqT K H1 p vs := hp.imp (fun h => e1 _ _ h) (fun h => (Kp.of_ex e1).sqt h)
  have body : ∀ (i : Nat) (v : V) (D : Addr) (H2 : Hp), H1 D = none → vs[i]? = some v → C_nr bs D H1 i H2 → rIsi K [v, .ref a_Row] H2 fun y H4 => ∃ acc, H4 D = some (.lst acc) ∧ acc.length < sizeLine ∧ C_nr bs D H1 (i + 1) (upd H4 D (.lst (acc ++ [y]))) := by
    intro i v D H2 hD hv hP
    obtain ⟨t, b, hb, ty, hk⟩ := hit i v hv
    have hi := (List.getElem?_eq_some_iff.mp hv).1
    refine ⟨_, _, _, _, b, rfl, .own _, ty H2 (e1.trans hP.2), hk, _, hP.1, sz_lt (by rw [List.length_map, List.length_take]; omega), ?_, hP.2.mut hD⟩
    rw [upd_same, List.take_add_one, hb, List.map_append]
    rfl
  have fin : ∀ (D : Addr) (H2 : Hp), C_nr bs D H1 vs.length H2 → rAll K [.ref D] H2 Q := fun D H2 hP => ⟨D, _, rfl, sq_of hP.1, by rw [← hbl, List.take_length, hbs]; exact q _ (e1.trans hP.2)⟩
  rcases hp1 with hl1 | ht1
  · refine ⟨_, p1, _, .type "list", _, true, rfl, w1, .cons (.ty _) (.cons (.ty _) .nil), .base (.lst hl1), ?_, _, rfl, ?_⟩
    · exact kitAny_cons (b := true) (kit_ty kb9) (fun z => by cases z) (fun _ => rfl)
    rw [if_pos rfl]
    refine ⟨_, rfl, p, rfl, .inl ⟨⟨_, sq_of hl1⟩, fun D hD => lc_it (walk_list (xs := vs)) (C_nr bs D H1) ⟨upd_same, Ex.new hD⟩ (fun i H' _ hP => hP.2.sql (sq_of hl1)) (fun i v H2 H' hi hP y => ?_) (fun H' hP => fin D H' hP)⟩⟩
    obtain ⟨rfl, hv⟩ := y
    walk_at "vc"
    exact body i v D _ hD hv hP
  · refine ⟨_, p1, _, .type "tuple", _, true, rfl, w1, .cons (.ty _) (.cons (.ty _) .nil), sqt_tyx ht1, ?_, _, rfl, ?_⟩
    · exact kitAny_cons (b := false) (kit_ty kb11) (fun _ => kitAny_cons (b := true) (kit_ty kb12) (fun z => by cases z) (fun _ => rfl)) (fun z => by cases z)
    rw [if_pos rfl]
    refine ⟨_, rfl, p, rfl, .inr ⟨⟨_, ht1⟩, fun D hD => lc_it (walk_tup (xs := vs)) (C_nr bs D H1) ⟨upd_same, Ex.new hD⟩ (fun i H' _ hP => hP.2.sqt ht1) (fun i v H2 H' hi hP y => ?_) (fun H' hP => fin D H' hP)⟩⟩
    obtain ⟨rfl, hv⟩ := y
    walk_at "vc"
    exact body i v D _ hD hv hP
theorem NoRows.ex {K : PySem.W.Frag} {row : Addr} {v : V} {H H1 : Hp} (e : Ex H H1) (h : NoRows K row v H) : NoRows K row v H1 := by
  rcases h with ⟨t, ty, hk⟩ | ⟨p, vs, bs, rfl, hp, hl, hbl, hbs, hit⟩
  · exact .inl ⟨t, fun H' e' => ty H' (e.trans e'), hk⟩
  · refine .inr ⟨p, vs, bs, rfl, hp.imp (fun h => e _ _ h) (fun h => (Kp.of_ex e).sqt h), hl, hbl, hbs, fun i x hx => ?_⟩
    obtain ⟨t, b, h1, h2, h3⟩ := hit i x hx
    exact ⟨t, b, h1, fun H' e' => h2 H' (e.trans e'), h3⟩
def sp_Sheet_initX (K : PySem.W.Frag) (row CI : Addr) : Sp
  | [.ref a, v], H, Q, E => NoRows K row v H ∧ ToldA CI "word" (.str "rows") E H
  | _, _, _, _ => False
theorem ok_Sheet_initX (T : Txt w K mg a_is_integer a_is_number a_is_name a_are_rows a_texts a_needed a_fits a_is_of a_inner a_flat a_names_in a_bare a_named a_law_deal a_law_draw a_law_pick a_law_words a_law_kinds a_law_put a_law_ask a_law_count a_law_rows a_law_ask_text a_law_lines a_law_all_lines a_law_ask_of a_law_row_of a_law_deed a_law_begun a_law_alike a_law a_NoRow_init a_InvalidRow_init a_Put_init a_Put_eq a_Put_str a_If_init a_If_eq a_If_str a_Times_init a_Times_eq a_Times_str a_Stop_eq a_Stop_str a_Ask_init a_Ask_eq a_Ask_str a_Not_init a_Not_eq a_Not_str a_Program_init a_Program_str a_Sheet_init a_Sheet_drop a_Sheet_made a_Sheet_len a_Sheet_getitem a_Sheet_setitem a_Sheet_iadd a_NoRow a_InvalidRow a_Put a_If a_Times a_Stop a_Ask a_Not a_Row a_Test a_Program a_Sheet a_DEEDS a_SIGNS a_WORDS a_If_init_d0 a_Program_init_d0 a_Sheet_init_d0 d_is_integer d_is_number d_is_name d_are_rows d_texts d_needed d_fits d_is_of d_inner d_flat d_names_in d_bare d_named d_law_deal d_law_draw d_law_pick d_law_words d_law_kinds d_law_put d_law_ask d_law_count d_law_rows d_law_ask_text d_law_lines d_law_all_lines d_law_ask_of d_law_row_of d_law_deed d_law_begun d_law_alike d_law d_NoRow_init d_InvalidRow_init d_Put_init d_Put_eq d_Put_str d_If_init d_If_eq d_If_str d_Times_init d_Times_eq d_Times_str d_Stop_eq d_Stop_str d_Ask_init d_Ask_eq d_Ask_str d_Not_init d_Not_eq d_Not_str d_Program_init d_Program_str d_Sheet_init d_Sheet_drop d_Sheet_made d_Sheet_len d_Sheet_getitem d_Sheet_setitem d_Sheet_iadd) : FnR P w K mg base (L2.CX P w) 25 a_Sheet_init (sp_Sheet_initX K a_Row a_InvalidRow) := by
  have G_are_rows := ok_are_rowsN (P := P) (w := w) (base := base) T
  have G_NoRow_init := ok_NoRow_init (P := P) (w := w) (base := base) T
  have G_InvalidRow_init := ok_InvalidRow_init (P := P) (w := w) (base := base) T
  have F : FnOk P w K mg base (L2.CX P w) 25 a_Sheet_init d_Sheet_init ["self", "rows"] (sp_Sheet_initX K a_Row a_InvalidRow) := by
    refine T.F_Sheet_init.ok sc_Sheet_init (fun vs H Q E h => ?_) (fun cdv A outer s H vs Q E hr h => ?_)
    · unfold sp_Sheet_initX at h; split at h; rfl; exact h.elim
    unfold sp_Sheet_initX at h; split at h
    case h_2 => exact h.elim
    rename_i a v _
    obtain ⟨hv, q⟩ := h
    refine ⟨_, (pss_cons (ps_if (pt_not (pt_val (pe_call G_are_rows (hr.mono (by omega)) (by rfl) T.g_are_rows T.F_are_rows.kp T.b_are_rows .nil pass0 (pa_cons (pv 1) pa_nil))))
      (pss_one (ps_raise rfl (takes_of rfl rfl rfl rfl) (pmk_any T.E_InvalidRow G_InvalidRow_init (hr.mono (by omega)) T.b_InvalidRow_init .nil pass0 (by rfl) (pa_cons pe_str pa_nil))))
      pss_nil)
      (pss_one (ps_fld (pv 0) (pe_callTy call_tuple_of (by rfl) T.z_tuple (by decide +kernel) (pa_cons (pv 1) pa_nil)) (by rfl)))), ?_⟩
    walk_at "st"
    walk_at "vc"
    refine ⟨hv, fun H1 e1 => ⟨false, rfl, ?_⟩⟩
    rw [if_pos (by decide)]
    exact mkErrR T.E_InvalidRow fun d hd => q H1 d e1 hd
  exact (F.raw T.b_Sheet_init .nil).imp fun vs H Q E h => by rw [List.append_nil]; exact h
def sp_law_begun (K : PySem.W.Frag) (row : Addr) : Sp
  | [v], H, Q, _ => NoRows K row v H ∧ ∀ H', Ex H H' → Q (.str "rows") H'
  | _, _, _, _ => False
theorem ok_law_begun (T : Txt w K mg a_is_integer a_is_number a_is_name a_are_rows a_texts a_needed a_fits a_is_of a_inner a_flat a_names_in a_bare a_named a_law_deal a_law_draw a_law_pick a_law_words a_law_kinds a_law_put a_law_ask a_law_count a_law_rows a_law_ask_text a_law_lines a_law_all_lines a_law_ask_of a_law_row_of a_law_deed a_law_begun a_law_alike a_law a_NoRow_init a_InvalidRow_init a_Put_init a_Put_eq a_Put_str a_If_init a_If_eq a_If_str a_Times_init a_Times_eq a_Times_str a_Stop_eq a_Stop_str a_Ask_init a_Ask_eq a_Ask_str a_Not_init a_Not_eq a_Not_str a_Program_init a_Program_str a_Sheet_init a_Sheet_drop a_Sheet_made a_Sheet_len a_Sheet_getitem a_Sheet_setitem a_Sheet_iadd a_NoRow a_InvalidRow a_Put a_If a_Times a_Stop a_Ask a_Not a_Row a_Test a_Program a_Sheet a_DEEDS a_SIGNS a_WORDS a_If_init_d0 a_Program_init_d0 a_Sheet_init_d0 d_is_integer d_is_number d_is_name d_are_rows d_texts d_needed d_fits d_is_of d_inner d_flat d_names_in d_bare d_named d_law_deal d_law_draw d_law_pick d_law_words d_law_kinds d_law_put d_law_ask d_law_count d_law_rows d_law_ask_text d_law_lines d_law_all_lines d_law_ask_of d_law_row_of d_law_deed d_law_begun d_law_alike d_law d_NoRow_init d_InvalidRow_init d_Put_init d_Put_eq d_Put_str d_If_init d_If_eq d_If_str d_Times_init d_Times_eq d_Times_str d_Stop_eq d_Stop_str d_Ask_init d_Ask_eq d_Ask_str d_Not_init d_Not_eq d_Not_str d_Program_init d_Program_str d_Sheet_init d_Sheet_drop d_Sheet_made d_Sheet_len d_Sheet_getitem d_Sheet_setitem d_Sheet_iadd) : FnOk P w K mg base CX0 30 a_law_begun d_law_begun ["_law_thing"] (sp_law_begun K a_Row) := by
  have GX_Sheet_init := ok_Sheet_initX (P := P) (w := w) (mg := mg) (base := base) T
  refine T.F_law_begun.ok sc_law_begun (fun vs H Q E h => ?_) (fun cdv A outer s H vs Q E hr h => ?_)
  · unfold sp_law_begun at h; split at h; rfl; exact h.elim
  unfold sp_law_begun at h; split at h
  case h_2 => exact h.elim
  rename_i v
  obtain ⟨hv, q⟩ := h
  refine ⟨_, (pss_cons (ps_set (i := 1) sc_law_begun.nd rfl (by first | exact .inl rfl | exact .inr rfl) pe_non)
      (pss_cons (ps_try_manyA rfl rfl sc_law_begun.nd takes0 (fun W pn xe tk _ => (pss_one (ps_expr (pe_makeS T.M_Sheet GX_Sheet_init (hr.mono (by omega)) (by rfl) T.g_Sheet (fun σ => passAt tk σ) (pa_cons (pv 0) pa_nil))))) (HdA.as (i := 2) rfl rfl ⟨rfl, by decide, .inl T.E_InvalidRow.g⟩ (fun a oe cls d pn hz hf => (pss_one (ps_set (i := 1) sc_law_begun.nd rfl (by first | exact .inl rfl | exact .inr rfl) (pe_xf T.E_InvalidRow.xf T.E_InvalidRow.F.noF hz hf (pv 2))))) HdA.nil))
      (pss_one (ps_ret (pv 1))))), ?_⟩
  walk_at "st"
  walk_at "vc"
  unfold tMakeS
  walk_at "vc"
  intro x dx hx hdx hne
  have em := mk_ex (o1 := .own x) (o2 := .ins a_Sheet dx []) hx hdx hne
  refine ⟨hv.ex em, fun H' d e hd => ?_⟩
  refine ⟨true, T.E_InvalidRow.te, fun _ b hb => ?_, (fun z => by cases z)⟩
  walk_at "vc"
  refine ⟨_, rfl, rfl, rfl, d, _, .str "rows", rfl, upd_same, rfl, q _ ((em.trans e).trans (Ex.new hd))⟩
/-- x == y of two objects of one row -/
theorem eq_row (T : Txt w K mg a_is_integer a_is_number a_is_name a_are_rows a_texts a_needed a_fits a_is_of a_inner a_flat a_names_in a_bare a_named a_law_deal a_law_draw a_law_pick a_law_words a_law_kinds a_law_put a_law_ask a_law_count a_law_rows a_law_ask_text a_law_lines a_law_all_lines a_law_ask_of a_law_row_of a_law_deed a_law_begun a_law_alike a_law a_NoRow_init a_InvalidRow_init a_Put_init a_Put_eq a_Put_str a_If_init a_If_eq a_If_str a_Times_init a_Times_eq a_Times_str a_Stop_eq a_Stop_str a_Ask_init a_Ask_eq a_Ask_str a_Not_init a_Not_eq a_Not_str a_Program_init a_Program_str a_Sheet_init a_Sheet_drop a_Sheet_made a_Sheet_len a_Sheet_getitem a_Sheet_setitem a_Sheet_iadd a_NoRow a_InvalidRow a_Put a_If a_Times a_Stop a_Ask a_Not a_Row a_Test a_Program a_Sheet a_DEEDS a_SIGNS a_WORDS a_If_init_d0 a_Program_init_d0 a_Sheet_init_d0 d_is_integer d_is_number d_is_name d_are_rows d_texts d_needed d_fits d_is_of d_inner d_flat d_names_in d_bare d_named d_law_deal d_law_draw d_law_pick d_law_words d_law_kinds d_law_put d_law_ask d_law_count d_law_rows d_law_ask_text d_law_lines d_law_all_lines d_law_ask_of d_law_row_of d_law_deed d_law_begun d_law_alike d_law d_NoRow_init d_InvalidRow_init d_Put_init d_Put_eq d_Put_str d_If_init d_If_eq d_If_str d_Times_init d_Times_eq d_Times_str d_Stop_eq d_Stop_str d_Ask_init d_Ask_eq d_Ask_str d_Not_init d_Not_eq d_Not_str d_Program_init d_Program_str d_Sheet_init d_Sheet_drop d_Sheet_made d_Sheet_len d_Sheet_getitem d_Sheet_setitem d_Sheet_iadd) {E : XK} {H : Hp} {r : RowM} {x y : V} {Q : VK} (h : RowO K ⟨a_Put, a_If, a_Times, a_Stop, a_Ask, a_Not⟩ H r x) (k : RowO K ⟨a_Put, a_If, a_Times, a_Stop, a_Ask, a_Not⟩ H r y) (hok : r.ok) (hsm : r.sm) (hd : r.dep < 4) (hc : r.cnt ≤ 1000) (q : ∀ H', Ex H H' → Q (.bl true) H') : rEqO K (SFr ⟨a_Put, a_If, a_Times, a_Stop, a_Ask, a_Not⟩ a_Put_eq a_If_eq a_Times_eq a_Stop_eq) (spEr K ⟨a_Put, a_If, a_Times, a_Stop, a_Ask, a_Not⟩ 4) E x y H Q := by
  obtain ⟨a, dx, fs, C, rfl, h1, hC⟩ := h.cls
  obtain ⟨b, dy, gs, C2, rfl, k1, kC⟩ := k.cls
  have c1 := h.ci_of T.kits h1
  have c2 := k.ci_of T.kits k1
  have e : C2 = C := by rw [c1.2, c2.2]
  subst e
  obtain ⟨g, hg⟩ : ∃ g, SFr ⟨a_Put, a_If, a_Times, a_Stop, a_Ask, a_Not⟩ a_Put_eq a_If_eq a_Times_eq a_Stop_eq C2 g := by
    rcases hC with hC | hC | hC | hC
    · exact ⟨_, .inl ⟨hC, rfl⟩⟩
    · exact ⟨_, .inr (.inl ⟨hC, rfl⟩)⟩
    · exact ⟨_, .inr (.inr (.inl ⟨hC, rfl⟩))⟩
    · exact ⟨_, .inr (.inr (.inr ⟨hC, rfl⟩))⟩
  refine ⟨a, C2, dx, fs, g, .ref C2, rfl, h1, hg, isTy T k1 kC, nf_own, r, _, _, rfl, h, hok, hd, row_len hok hsm hc, .inl ⟨r, k, hok, hd, row_len hok hsm hc, fun H' e => ?_⟩⟩
  rw [eqR_self]
  exact q H' e
/-- a program made of the law's rows -/
theorem rows_of (T : Txt w K mg a_is_integer a_is_number a_is_name a_are_rows a_texts a_needed a_fits a_is_of a_inner a_flat a_names_in a_bare a_named a_law_deal a_law_draw a_law_pick a_law_words a_law_kinds a_law_put a_law_ask a_law_count a_law_rows a_law_ask_text a_law_lines a_law_all_lines a_law_ask_of a_law_row_of a_law_deed a_law_begun a_law_alike a_law a_NoRow_init a_InvalidRow_init a_Put_init a_Put_eq a_Put_str a_If_init a_If_eq a_If_str a_Times_init a_Times_eq a_Times_str a_Stop_eq a_Stop_str a_Ask_init a_Ask_eq a_Ask_str a_Not_init a_Not_eq a_Not_str a_Program_init a_Program_str a_Sheet_init a_Sheet_drop a_Sheet_made a_Sheet_len a_Sheet_getitem a_Sheet_setitem a_Sheet_iadd a_NoRow a_InvalidRow a_Put a_If a_Times a_Stop a_Ask a_Not a_Row a_Test a_Program a_Sheet a_DEEDS a_SIGNS a_WORDS a_If_init_d0 a_Program_init_d0 a_Sheet_init_d0 d_is_integer d_is_number d_is_name d_are_rows d_texts d_needed d_fits d_is_of d_inner d_flat d_names_in d_bare d_named d_law_deal d_law_draw d_law_pick d_law_words d_law_kinds d_law_put d_law_ask d_law_count d_law_rows d_law_ask_text d_law_lines d_law_all_lines d_law_ask_of d_law_row_of d_law_deed d_law_begun d_law_alike d_law d_NoRow_init d_InvalidRow_init d_Put_init d_Put_eq d_Put_str d_If_init d_If_eq d_If_str d_Times_init d_Times_eq d_Times_str d_Stop_eq d_Stop_str d_Ask_init d_Ask_eq d_Ask_str d_Not_init d_Not_eq d_Not_str d_Program_init d_Program_str d_Sheet_init d_Sheet_drop d_Sheet_made d_Sheet_len d_Sheet_getitem d_Sheet_setitem d_Sheet_iadd) {H : Hp} {p : Addr} {vs : List V} {rs : List RowM} (hp : H p = some (.lst vs)) (hT : RowTs K H rs vs) (hg : GdP rs) (i : Nat) (v : V) (hv : vs[i]? = some v) : ∃ r, rs[i]? = some r ∧ RowT K H r v ∧ r.ok ∧ r.sm ∧ r.dep < 5 := by
  obtain ⟨r, hr, hrT⟩ := hT.at_ hv
  exact ⟨r, hr, hrT, oks_at2 hg.1 hr, sms_at hg.2.1 hr, by have := deps_at hr; have := hg.2.2.1; omega⟩
theorem str_row (T : Txt w K mg a_is_integer a_is_number a_is_name a_are_rows a_texts a_needed a_fits a_is_of a_inner a_flat a_names_in a_bare a_named a_law_deal a_law_draw a_law_pick a_law_words a_law_kinds a_law_put a_law_ask a_law_count a_law_rows a_law_ask_text a_law_lines a_law_all_lines a_law_ask_of a_law_row_of a_law_deed a_law_begun a_law_alike a_law a_NoRow_init a_InvalidRow_init a_Put_init a_Put_eq a_Put_str a_If_init a_If_eq a_If_str a_Times_init a_Times_eq a_Times_str a_Stop_eq a_Stop_str a_Ask_init a_Ask_eq a_Ask_str a_Not_init a_Not_eq a_Not_str a_Program_init a_Program_str a_Sheet_init a_Sheet_drop a_Sheet_made a_Sheet_len a_Sheet_getitem a_Sheet_setitem a_Sheet_iadd a_NoRow a_InvalidRow a_Put a_If a_Times a_Stop a_Ask a_Not a_Row a_Test a_Program a_Sheet a_DEEDS a_SIGNS a_WORDS a_If_init_d0 a_Program_init_d0 a_Sheet_init_d0 d_is_integer d_is_number d_is_name d_are_rows d_texts d_needed d_fits d_is_of d_inner d_flat d_names_in d_bare d_named d_law_deal d_law_draw d_law_pick d_law_words d_law_kinds d_law_put d_law_ask d_law_count d_law_rows d_law_ask_text d_law_lines d_law_all_lines d_law_ask_of d_law_row_of d_law_deed d_law_begun d_law_alike d_law d_NoRow_init d_InvalidRow_init d_Put_init d_Put_eq d_Put_str d_If_init d_If_eq d_If_str d_Times_init d_Times_eq d_Times_str d_Stop_eq d_Stop_str d_Ask_init d_Ask_eq d_Ask_str d_Not_init d_Not_eq d_Not_str d_Program_init d_Program_str d_Sheet_init d_Sheet_drop d_Sheet_made d_Sheet_len d_Sheet_getitem d_Sheet_setitem d_Sheet_iadd) {E : XK} {H : Hp} {r : RowM} {x : V} {Q : VK} (h : RowO K ⟨a_Put, a_If, a_Times, a_Stop, a_Ask, a_Not⟩ H r x) (hok : r.ok) (hsm : r.sm) (hd : r.dep < 4) (hc : r.cnt ≤ 1000) (q : ∀ H', Ex H H' → Q (.str r.text) H') : rStrO (SFr ⟨a_Put, a_If, a_Times, a_Stop, a_Ask, a_Not⟩ a_Put_str a_If_str a_Times_str a_Stop_str) (spRx K ⟨a_Put, a_If, a_Times, a_Stop, a_Ask, a_Not⟩ 4) E [x] H Q := by
  have h' := h
  obtain ⟨a, dx, fs, C, rfl, h1, hC⟩ := h.cls
  obtain ⟨g, hg⟩ := sfr_of T h' h1
  exact ⟨a, C, dx, fs, g, rfl, h1, hg, r, _, rfl, h', hok, hd, row_len hok hsm hc, fun H' e => ⟨_, rfl, q H' e⟩⟩
theorem gd_at {rs : List RowM} {i : Nat} {r : RowM} (hg : GdP rs) (h : rs[i]? = some r) : r.ok ∧ r.sm ∧ r.dep < 4 ∧ r.cnt ≤ 20 := by
  have := deps_at h
  have := cnts_at h
  have := hg.2.2.1
  have := hg.2.2.2
  exact ⟨oks_at2 hg.1 h, sms_at hg.2.1 h, by omega, by omega⟩
def SFs (C0 g0 : Addr) : Addr → Addr → Prop := fun C g => C = C0 ∧ g = g0
theorem HLs (T : Txt w K mg a_is_integer a_is_number a_is_name a_are_rows a_texts a_needed a_fits a_is_of a_inner a_flat a_names_in a_bare a_named a_law_deal a_law_draw a_law_pick a_law_words a_law_kinds a_law_put a_law_ask a_law_count a_law_rows a_law_ask_text a_law_lines a_law_all_lines a_law_ask_of a_law_row_of a_law_deed a_law_begun a_law_alike a_law a_NoRow_init a_InvalidRow_init a_Put_init a_Put_eq a_Put_str a_If_init a_If_eq a_If_str a_Times_init a_Times_eq a_Times_str a_Stop_eq a_Stop_str a_Ask_init a_Ask_eq a_Ask_str a_Not_init a_Not_eq a_Not_str a_Program_init a_Program_str a_Sheet_init a_Sheet_drop a_Sheet_made a_Sheet_len a_Sheet_getitem a_Sheet_setitem a_Sheet_iadd a_NoRow a_InvalidRow a_Put a_If a_Times a_Stop a_Ask a_Not a_Row a_Test a_Program a_Sheet a_DEEDS a_SIGNS a_WORDS a_If_init_d0 a_Program_init_d0 a_Sheet_init_d0 d_is_integer d_is_number d_is_name d_are_rows d_texts d_needed d_fits d_is_of d_inner d_flat d_names_in d_bare d_named d_law_deal d_law_draw d_law_pick d_law_words d_law_kinds d_law_put d_law_ask d_law_count d_law_rows d_law_ask_text d_law_lines d_law_all_lines d_law_ask_of d_law_row_of d_law_deed d_law_begun d_law_alike d_law d_NoRow_init d_InvalidRow_init d_Put_init d_Put_eq d_Put_str d_If_init d_If_eq d_If_str d_Times_init d_Times_eq d_Times_str d_Stop_eq d_Stop_str d_Ask_init d_Ask_eq d_Ask_str d_Not_init d_Not_eq d_Not_str d_Program_init d_Program_str d_Sheet_init d_Sheet_drop d_Sheet_made d_Sheet_len d_Sheet_getitem d_Sheet_setitem d_Sheet_iadd) : ∀ C g, SFs a_Sheet a_Sheet_len C g → MethC K "__len__" C g := by
  rintro C g ⟨h1, h2⟩
  rw [h1, h2]
  exact T.mt_Sheet_len
theorem GLs (T : Txt w K mg a_is_integer a_is_number a_is_name a_are_rows a_texts a_needed a_fits a_is_of a_inner a_flat a_names_in a_bare a_named a_law_deal a_law_draw a_law_pick a_law_words a_law_kinds a_law_put a_law_ask a_law_count a_law_rows a_law_ask_text a_law_lines a_law_all_lines a_law_ask_of a_law_row_of a_law_deed a_law_begun a_law_alike a_law a_NoRow_init a_InvalidRow_init a_Put_init a_Put_eq a_Put_str a_If_init a_If_eq a_If_str a_Times_init a_Times_eq a_Times_str a_Stop_eq a_Stop_str a_Ask_init a_Ask_eq a_Ask_str a_Not_init a_Not_eq a_Not_str a_Program_init a_Program_str a_Sheet_init a_Sheet_drop a_Sheet_made a_Sheet_len a_Sheet_getitem a_Sheet_setitem a_Sheet_iadd a_NoRow a_InvalidRow a_Put a_If a_Times a_Stop a_Ask a_Not a_Row a_Test a_Program a_Sheet a_DEEDS a_SIGNS a_WORDS a_If_init_d0 a_Program_init_d0 a_Sheet_init_d0 d_is_integer d_is_number d_is_name d_are_rows d_texts d_needed d_fits d_is_of d_inner d_flat d_names_in d_bare d_named d_law_deal d_law_draw d_law_pick d_law_words d_law_kinds d_law_put d_law_ask d_law_count d_law_rows d_law_ask_text d_law_lines d_law_all_lines d_law_ask_of d_law_row_of d_law_deed d_law_begun d_law_alike d_law d_NoRow_init d_InvalidRow_init d_Put_init d_Put_eq d_Put_str d_If_init d_If_eq d_If_str d_Times_init d_Times_eq d_Times_str d_Stop_eq d_Stop_str d_Ask_init d_Ask_eq d_Ask_str d_Not_init d_Not_eq d_Not_str d_Program_init d_Program_str d_Sheet_init d_Sheet_drop d_Sheet_made d_Sheet_len d_Sheet_getitem d_Sheet_setitem d_Sheet_iadd) : ∀ C g, SFs a_Sheet a_Sheet_len C g → FnR P w K mg base CX0 5 g (onC C (sp_Sheet_len K ⟨a_Put, a_If, a_Times, a_Stop, a_Ask, a_Not⟩ a_Sheet)) := by
  rintro C g ⟨h1, h2⟩
  rw [h1, h2]
  exact ok_Sheet_len T
theorem HGs (T : Txt w K mg a_is_integer a_is_number a_is_name a_are_rows a_texts a_needed a_fits a_is_of a_inner a_flat a_names_in a_bare a_named a_law_deal a_law_draw a_law_pick a_law_words a_law_kinds a_law_put a_law_ask a_law_count a_law_rows a_law_ask_text a_law_lines a_law_all_lines a_law_ask_of a_law_row_of a_law_deed a_law_begun a_law_alike a_law a_NoRow_init a_InvalidRow_init a_Put_init a_Put_eq a_Put_str a_If_init a_If_eq a_If_str a_Times_init a_Times_eq a_Times_str a_Stop_eq a_Stop_str a_Ask_init a_Ask_eq a_Ask_str a_Not_init a_Not_eq a_Not_str a_Program_init a_Program_str a_Sheet_init a_Sheet_drop a_Sheet_made a_Sheet_len a_Sheet_getitem a_Sheet_setitem a_Sheet_iadd a_NoRow a_InvalidRow a_Put a_If a_Times a_Stop a_Ask a_Not a_Row a_Test a_Program a_Sheet a_DEEDS a_SIGNS a_WORDS a_If_init_d0 a_Program_init_d0 a_Sheet_init_d0 d_is_integer d_is_number d_is_name d_are_rows d_texts d_needed d_fits d_is_of d_inner d_flat d_names_in d_bare d_named d_law_deal d_law_draw d_law_pick d_law_words d_law_kinds d_law_put d_law_ask d_law_count d_law_rows d_law_ask_text d_law_lines d_law_all_lines d_law_ask_of d_law_row_of d_law_deed d_law_begun d_law_alike d_law d_NoRow_init d_InvalidRow_init d_Put_init d_Put_eq d_Put_str d_If_init d_If_eq d_If_str d_Times_init d_Times_eq d_Times_str d_Stop_eq d_Stop_str d_Ask_init d_Ask_eq d_Ask_str d_Not_init d_Not_eq d_Not_str d_Program_init d_Program_str d_Sheet_init d_Sheet_drop d_Sheet_made d_Sheet_len d_Sheet_getitem d_Sheet_setitem d_Sheet_iadd) : ∀ C g, SFs a_Sheet a_Sheet_getitem C g → GetC K C g := by
  rintro C g ⟨h1, h2⟩
  rw [h1, h2]
  exact T.mt_Sheet_getitem
theorem GGs (T : Txt w K mg a_is_integer a_is_number a_is_name a_are_rows a_texts a_needed a_fits a_is_of a_inner a_flat a_names_in a_bare a_named a_law_deal a_law_draw a_law_pick a_law_words a_law_kinds a_law_put a_law_ask a_law_count a_law_rows a_law_ask_text a_law_lines a_law_all_lines a_law_ask_of a_law_row_of a_law_deed a_law_begun a_law_alike a_law a_NoRow_init a_InvalidRow_init a_Put_init a_Put_eq a_Put_str a_If_init a_If_eq a_If_str a_Times_init a_Times_eq a_Times_str a_Stop_eq a_Stop_str a_Ask_init a_Ask_eq a_Ask_str a_Not_init a_Not_eq a_Not_str a_Program_init a_Program_str a_Sheet_init a_Sheet_drop a_Sheet_made a_Sheet_len a_Sheet_getitem a_Sheet_setitem a_Sheet_iadd a_NoRow a_InvalidRow a_Put a_If a_Times a_Stop a_Ask a_Not a_Row a_Test a_Program a_Sheet a_DEEDS a_SIGNS a_WORDS a_If_init_d0 a_Program_init_d0 a_Sheet_init_d0 d_is_integer d_is_number d_is_name d_are_rows d_texts d_needed d_fits d_is_of d_inner d_flat d_names_in d_bare d_named d_law_deal d_law_draw d_law_pick d_law_words d_law_kinds d_law_put d_law_ask d_law_count d_law_rows d_law_ask_text d_law_lines d_law_all_lines d_law_ask_of d_law_row_of d_law_deed d_law_begun d_law_alike d_law d_NoRow_init d_InvalidRow_init d_Put_init d_Put_eq d_Put_str d_If_init d_If_eq d_If_str d_Times_init d_Times_eq d_Times_str d_Stop_eq d_Stop_str d_Ask_init d_Ask_eq d_Ask_str d_Not_init d_Not_eq d_Not_str d_Program_init d_Program_str d_Sheet_init d_Sheet_drop d_Sheet_made d_Sheet_len d_Sheet_getitem d_Sheet_setitem d_Sheet_iadd) : ∀ C g, SFs a_Sheet a_Sheet_getitem C g → FnR P w K mg base (L2.CX P w) 10 g (onC C (sp_Sheet_getitem K ⟨a_Put, a_If, a_Times, a_Stop, a_Ask, a_Not⟩ a_Sheet a_NoRow)) := by
  rintro C g ⟨h1, h2⟩
  rw [h1, h2]
  exact ok_Sheet_getitem T
theorem HTs (T : Txt w K mg a_is_integer a_is_number a_is_name a_are_rows a_texts a_needed a_fits a_is_of a_inner a_flat a_names_in a_bare a_named a_law_deal a_law_draw a_law_pick a_law_words a_law_kinds a_law_put a_law_ask a_law_count a_law_rows a_law_ask_text a_law_lines a_law_all_lines a_law_ask_of a_law_row_of a_law_deed a_law_begun a_law_alike a_law a_NoRow_init a_InvalidRow_init a_Put_init a_Put_eq a_Put_str a_If_init a_If_eq a_If_str a_Times_init a_Times_eq a_Times_str a_Stop_eq a_Stop_str a_Ask_init a_Ask_eq a_Ask_str a_Not_init a_Not_eq a_Not_str a_Program_init a_Program_str a_Sheet_init a_Sheet_drop a_Sheet_made a_Sheet_len a_Sheet_getitem a_Sheet_setitem a_Sheet_iadd a_NoRow a_InvalidRow a_Put a_If a_Times a_Stop a_Ask a_Not a_Row a_Test a_Program a_Sheet a_DEEDS a_SIGNS a_WORDS a_If_init_d0 a_Program_init_d0 a_Sheet_init_d0 d_is_integer d_is_number d_is_name d_are_rows d_texts d_needed d_fits d_is_of d_inner d_flat d_names_in d_bare d_named d_law_deal d_law_draw d_law_pick d_law_words d_law_kinds d_law_put d_law_ask d_law_count d_law_rows d_law_ask_text d_law_lines d_law_all_lines d_law_ask_of d_law_row_of d_law_deed d_law_begun d_law_alike d_law d_NoRow_init d_InvalidRow_init d_Put_init d_Put_eq d_Put_str d_If_init d_If_eq d_If_str d_Times_init d_Times_eq d_Times_str d_Stop_eq d_Stop_str d_Ask_init d_Ask_eq d_Ask_str d_Not_init d_Not_eq d_Not_str d_Program_init d_Program_str d_Sheet_init d_Sheet_drop d_Sheet_made d_Sheet_len d_Sheet_getitem d_Sheet_setitem d_Sheet_iadd) : ∀ C g, SFs a_Sheet a_Sheet_setitem C g → SetC K C g := by
  rintro C g ⟨h1, h2⟩
  rw [h1, h2]
  exact T.mt_Sheet_setitem
theorem GTs (T : Txt w K mg a_is_integer a_is_number a_is_name a_are_rows a_texts a_needed a_fits a_is_of a_inner a_flat a_names_in a_bare a_named a_law_deal a_law_draw a_law_pick a_law_words a_law_kinds a_law_put a_law_ask a_law_count a_law_rows a_law_ask_text a_law_lines a_law_all_lines a_law_ask_of a_law_row_of a_law_deed a_law_begun a_law_alike a_law a_NoRow_init a_InvalidRow_init a_Put_init a_Put_eq a_Put_str a_If_init a_If_eq a_If_str a_Times_init a_Times_eq a_Times_str a_Stop_eq a_Stop_str a_Ask_init a_Ask_eq a_Ask_str a_Not_init a_Not_eq a_Not_str a_Program_init a_Program_str a_Sheet_init a_Sheet_drop a_Sheet_made a_Sheet_len a_Sheet_getitem a_Sheet_setitem a_Sheet_iadd a_NoRow a_InvalidRow a_Put a_If a_Times a_Stop a_Ask a_Not a_Row a_Test a_Program a_Sheet a_DEEDS a_SIGNS a_WORDS a_If_init_d0 a_Program_init_d0 a_Sheet_init_d0 d_is_integer d_is_number d_is_name d_are_rows d_texts d_needed d_fits d_is_of d_inner d_flat d_names_in d_bare d_named d_law_deal d_law_draw d_law_pick d_law_words d_law_kinds d_law_put d_law_ask d_law_count d_law_rows d_law_ask_text d_law_lines d_law_all_lines d_law_ask_of d_law_row_of d_law_deed d_law_begun d_law_alike d_law d_NoRow_init d_InvalidRow_init d_Put_init d_Put_eq d_Put_str d_If_init d_If_eq d_If_str d_Times_init d_Times_eq d_Times_str d_Stop_eq d_Stop_str d_Ask_init d_Ask_eq d_Ask_str d_Not_init d_Not_eq d_Not_str d_Program_init d_Program_str d_Sheet_init d_Sheet_drop d_Sheet_made d_Sheet_len d_Sheet_getitem d_Sheet_setitem d_Sheet_iadd) : ∀ C g, SFs a_Sheet a_Sheet_setitem C g → FnR P w K mg base (L2.CX P w) 10 g (onC C (sp_Sheet_setitem K ⟨a_Put, a_If, a_Times, a_Stop, a_Ask, a_Not⟩ a_Sheet a_NoRow a_InvalidRow a_Row)) := by
  rintro C g ⟨h1, h2⟩
  rw [h1, h2]
  exact ok_Sheet_setitem T
theorem HIs (T : Txt w K mg a_is_integer a_is_number a_is_name a_are_rows a_texts a_needed a_fits a_is_of a_inner a_flat a_names_in a_bare a_named a_law_deal a_law_draw a_law_pick a_law_words a_law_kinds a_law_put a_law_ask a_law_count a_law_rows a_law_ask_text a_law_lines a_law_all_lines a_law_ask_of a_law_row_of a_law_deed a_law_begun a_law_alike a_law a_NoRow_init a_InvalidRow_init a_Put_init a_Put_eq a_Put_str a_If_init a_If_eq a_If_str a_Times_init a_Times_eq a_Times_str a_Stop_eq a_Stop_str a_Ask_init a_Ask_eq a_Ask_str a_Not_init a_Not_eq a_Not_str a_Program_init a_Program_str a_Sheet_init a_Sheet_drop a_Sheet_made a_Sheet_len a_Sheet_getitem a_Sheet_setitem a_Sheet_iadd a_NoRow a_InvalidRow a_Put a_If a_Times a_Stop a_Ask a_Not a_Row a_Test a_Program a_Sheet a_DEEDS a_SIGNS a_WORDS a_If_init_d0 a_Program_init_d0 a_Sheet_init_d0 d_is_integer d_is_number d_is_name d_are_rows d_texts d_needed d_fits d_is_of d_inner d_flat d_names_in d_bare d_named d_law_deal d_law_draw d_law_pick d_law_words d_law_kinds d_law_put d_law_ask d_law_count d_law_rows d_law_ask_text d_law_lines d_law_all_lines d_law_ask_of d_law_row_of d_law_deed d_law_begun d_law_alike d_law d_NoRow_init d_InvalidRow_init d_Put_init d_Put_eq d_Put_str d_If_init d_If_eq d_If_str d_Times_init d_Times_eq d_Times_str d_Stop_eq d_Stop_str d_Ask_init d_Ask_eq d_Ask_str d_Not_init d_Not_eq d_Not_str d_Program_init d_Program_str d_Sheet_init d_Sheet_drop d_Sheet_made d_Sheet_len d_Sheet_getitem d_Sheet_setitem d_Sheet_iadd) : ∀ C g, SFs a_Sheet a_Sheet_iadd C g → IOwn K C g := by
  rintro C g ⟨h1, h2⟩
  rw [h1, h2]
  exact T.mt_Sheet_iadd
theorem GIs (T : Txt w K mg a_is_integer a_is_number a_is_name a_are_rows a_texts a_needed a_fits a_is_of a_inner a_flat a_names_in a_bare a_named a_law_deal a_law_draw a_law_pick a_law_words a_law_kinds a_law_put a_law_ask a_law_count a_law_rows a_law_ask_text a_law_lines a_law_all_lines a_law_ask_of a_law_row_of a_law_deed a_law_begun a_law_alike a_law a_NoRow_init a_InvalidRow_init a_Put_init a_Put_eq a_Put_str a_If_init a_If_eq a_If_str a_Times_init a_Times_eq a_Times_str a_Stop_eq a_Stop_str a_Ask_init a_Ask_eq a_Ask_str a_Not_init a_Not_eq a_Not_str a_Program_init a_Program_str a_Sheet_init a_Sheet_drop a_Sheet_made a_Sheet_len a_Sheet_getitem a_Sheet_setitem a_Sheet_iadd a_NoRow a_InvalidRow a_Put a_If a_Times a_Stop a_Ask a_Not a_Row a_Test a_Program a_Sheet a_DEEDS a_SIGNS a_WORDS a_If_init_d0 a_Program_init_d0 a_Sheet_init_d0 d_is_integer d_is_number d_is_name d_are_rows d_texts d_needed d_fits d_is_of d_inner d_flat d_names_in d_bare d_named d_law_deal d_law_draw d_law_pick d_law_words d_law_kinds d_law_put d_law_ask d_law_count d_law_rows d_law_ask_text d_law_lines d_law_all_lines d_law_ask_of d_law_row_of d_law_deed d_law_begun d_law_alike d_law d_NoRow_init d_InvalidRow_init d_Put_init d_Put_eq d_Put_str d_If_init d_If_eq d_If_str d_Times_init d_Times_eq d_Times_str d_Stop_eq d_Stop_str d_Ask_init d_Ask_eq d_Ask_str d_Not_init d_Not_eq d_Not_str d_Program_init d_Program_str d_Sheet_init d_Sheet_drop d_Sheet_made d_Sheet_len d_Sheet_getitem d_Sheet_setitem d_Sheet_iadd) : ∀ C g, SFs a_Sheet a_Sheet_iadd C g → FnR P w K mg base (L2.CX P w) 10 g (onC C (sp_Sheet_iadd K ⟨a_Put, a_If, a_Times, a_Stop, a_Ask, a_Not⟩ a_Sheet a_InvalidRow a_Row)) := by
  rintro C g ⟨h1, h2⟩
  rw [h1, h2]
  exact ok_Sheet_iadd T
/-- what a deed does to the sheet at a, and what it tells -/
def sp_law_deed (K : PySem.W.Frag) (A : ClsA) (CS CR : Addr) : Sp
  | [.ref a, .int f, .int i, u], H, Q, _ => ∃ rs vs, SheetO K A CS H rs vs (.ref a) ∧ GdP rs ∧ 0 ≤ f ∧
      ((0 < f ∧ (i < 0 ∨ (rs.length : Int) ≤ i) ∧ ∀ p H', Ex H H' → H' p = some (.tup [.str "none", .int i]) → Q (.ref p) H') ∨
      ((f = 0 ∨ f = 1 ∧ 0 ≤ i ∧ i < rs.length) ∧ ∃ t, TyX K H u t ∧ PySem.W.kitOne K t (.ref CR) = some false ∧ ∀ p H', Ex H H' → H' p = some (.tup [.str "rows", .str "rows"]) → Q (.ref p) H') ∨
      (f = 0 ∧ ∃ r, RowO K A (delL H a) r u ∧ ∀ H1, Off a H H1 → SheetO K A CS H1 (rs ++ [r]) (vs ++ [u]) (.ref a) → Q .non H1) ∨
      (f = 1 ∧ 0 ≤ i ∧ i < rs.length ∧ ∃ r, RowO K A (delL H a) r u ∧ ∀ H1, Off a H H1 → SheetO K A CS H1 (rs.take i.toNat ++ [r] ++ rs.drop (i.toNat + 1)) (vs.take i.toNat ++ [u] ++ vs.drop (i.toNat + 1)) (.ref a) → Q .non H1) ∨
      (f = 2 ∧ 0 ≤ i ∧ i < rs.length ∧ ∀ H1, Off a H H1 → SheetO K A CS H1 (rs.take i.toNat ++ rs.drop (i.toNat + 1)) (vs.take i.toNat ++ vs.drop (i.toNat + 1)) (.ref a) → Q .non H1) ∨
      (2 < f ∧ 0 ≤ i ∧ i < rs.length ∧ ∀ r p H', rs[i.toNat]? = some r → Ex H H' → H' p = some (.tup [.str "told", .str r.text]) → Q (.ref p) H'))
  | _, _, _, _ => False
theorem ok_law_deed (T : Txt w K mg a_is_integer a_is_number a_is_name a_are_rows a_texts a_needed a_fits a_is_of a_inner a_flat a_names_in a_bare a_named a_law_deal a_law_draw a_law_pick a_law_words a_law_kinds a_law_put a_law_ask a_law_count a_law_rows a_law_ask_text a_law_lines a_law_all_lines a_law_ask_of a_law_row_of a_law_deed a_law_begun a_law_alike a_law a_NoRow_init a_InvalidRow_init a_Put_init a_Put_eq a_Put_str a_If_init a_If_eq a_If_str a_Times_init a_Times_eq a_Times_str a_Stop_eq a_Stop_str a_Ask_init a_Ask_eq a_Ask_str a_Not_init a_Not_eq a_Not_str a_Program_init a_Program_str a_Sheet_init a_Sheet_drop a_Sheet_made a_Sheet_len a_Sheet_getitem a_Sheet_setitem a_Sheet_iadd a_NoRow a_InvalidRow a_Put a_If a_Times a_Stop a_Ask a_Not a_Row a_Test a_Program a_Sheet a_DEEDS a_SIGNS a_WORDS a_If_init_d0 a_Program_init_d0 a_Sheet_init_d0 d_is_integer d_is_number d_is_name d_are_rows d_texts d_needed d_fits d_is_of d_inner d_flat d_names_in d_bare d_named d_law_deal d_law_draw d_law_pick d_law_words d_law_kinds d_law_put d_law_ask d_law_count d_law_rows d_law_ask_text d_law_lines d_law_all_lines d_law_ask_of d_law_row_of d_law_deed d_law_begun d_law_alike d_law d_NoRow_init d_InvalidRow_init d_Put_init d_Put_eq d_Put_str d_If_init d_If_eq d_If_str d_Times_init d_Times_eq d_Times_str d_Stop_eq d_Stop_str d_Ask_init d_Ask_eq d_Ask_str d_Not_init d_Not_eq d_Not_str d_Program_init d_Program_str d_Sheet_init d_Sheet_drop d_Sheet_made d_Sheet_len d_Sheet_getitem d_Sheet_setitem d_Sheet_iadd) : FnOk P w K mg base CX0 60 a_law_deed d_law_deed ["_law_sheet", "_law_form", "_law_at", "_law_row"] (sp_law_deed K ⟨a_Put, a_If, a_Times, a_Stop, a_Ask, a_Not⟩ a_Sheet a_Row) := by
  have HGs := HGs T
  have GGs := GGs (P := P) (w := w) (mg := mg) (base := base) T
  have HT := HTs T
  have GT := GTs (P := P) (w := w) (mg := mg) (base := base) T
  have HI := HIs T
  have GI := GIs (P := P) (w := w) (mg := mg) (base := base) T
  have G_Sheet_drop := ok_Sheet_drop (P := P) (w := w) (mg := mg) (base := base) T
  have HSr := HSr T
  have GSr := GSr (P := P) (w := w) (mg := mg) (base := base) T 4
  refine T.F_law_deed.ok sc_law_deed (fun vs H Q E h => ?_) (fun cdv A outer s H vs Q E hr h => ?_)
  · unfold sp_law_deed at h; split at h; rfl; exact h.elim
  unfold sp_law_deed at h; split at h
  case h_2 => exact h.elim
  rename_i a f i u
  obtain ⟨rs, vs, hS, hg, f0, q⟩ := h
  refine ⟨_, (pss_cons (ps_set (i := 4) sc_law_deed.nd rfl (by first | exact .inl rfl | exact .inr rfl) pe_non)
      (pss_cons (ps_try_manyA rfl rfl sc_law_deed.nd takes0 (fun W pn xe tk _ => (pss_one (ps_if (pt_cmpR op_eq (pv 1) pe_int (nomark _))
      (pss_one (ps_augO (i := 0) HI GI (hr.mono (by omega)) (fun σ => passAt tk σ) sc_law_deed.nd rfl (by first | exact .inl rfl | exact .inr rfl) (pv 3)))
      (pss_one (ps_if (pt_cmpR op_eq (pv 1) pe_int (nomark _))
      (pss_one (ps_asg (pv 3) (pg_subO HT GT (hr.mono (by omega)) (fun σ => passAt tk σ) (pv 0) (pv 2))))
      (pss_one (ps_if (pt_cmpR op_eq (pv 1) pe_int (nomark _))
      (pss_one (ps_expr (pe_methS2 (pv 0) T.oc_Sheet.cl T.mm_Sheet_drop G_Sheet_drop (hr.mono (by omega)) (fun σ => passAt tk σ) (pa_cons (pv 2) pa_nil))))
      (pss_one (ps_set (i := 4) sc_law_deed.nd rfl (by first | exact .inl rfl | exact .inr rfl) (pe_tup (pa_cons pe_str (pa_cons (pe_callTy (call_strO HSr GSr (hr.mono (by omega)) pass0) (by rfl) T.z_str (by decide +kernel) (pa_cons (pe_ixO HGs GGs (hr.mono (by omega)) (fun σ => passAt tk σ) (pv 0) (pv 2) (fun _ _ => rfl)) pa_nil)) pa_nil)))))))))))) (HdA.as (i := 5) rfl rfl ⟨rfl, by decide, .inl T.E_NoRow.g⟩ (fun a oe cls d pn hz hf => (pss_one (ps_set (i := 4) sc_law_deed.nd rfl (by first | exact .inl rfl | exact .inr rfl) (pe_tup (pa_cons pe_str (pa_cons (pe_xf T.E_NoRow.xf T.E_NoRow.F.noF hz hf (pv 5)) pa_nil)))))) (HdA.as (i := 5) rfl rfl ⟨rfl, by decide, .inl T.E_InvalidRow.g⟩ (fun a oe cls d pn hz hf => (pss_one (ps_set (i := 4) sc_law_deed.nd rfl (by first | exact .inl rfl | exact .inr rfl) (pe_tup (pa_cons pe_str (pa_cons (pe_xf T.E_InvalidRow.xf T.E_InvalidRow.F.noF hz hf (pv 5)) pa_nil)))))) HdA.nil)))
      (pss_one (ps_ret (pv 4))))), ?_⟩
  walk_at "st"
  walk_at "vc"
  have hS' := hS
  obtain ⟨a0, dx, r0, ea, h1, h2, h3⟩ := hS'
  cases ea
  have hcl := cnts_len rs
  have hc20 := hg.2.2.2
  rcases q with ⟨fp, hout, q⟩ | ⟨hf, t, ty, hk, q⟩ | ⟨rfl, r, hr, q⟩ | ⟨rfl, i0, i1, r, hr, q⟩ | ⟨rfl, i0, i1, q⟩ | ⟨f3, i0, i1, q⟩
  · rw [if_neg (by omega)]
    refine ite2 (fun f1 => ?_) (fun f1 => ite2 (fun f2 => ?_) (fun f2 => ?_))
    · refine ⟨_, rfl, _, rfl, a, a_Sheet, dx, _, _, rfl, h1, ⟨rfl, rfl⟩, rs, vs, hS, by omega, .inl ⟨hout, fun H' d e hd => ?_⟩⟩
      refine ⟨true, T.E_NoRow.te, fun _ b hb => ?_, (fun z => by cases z)⟩
      walk_at "vc"
      exact ⟨_, rfl, rfl, rfl, d, _, .int i, rfl, upd_same, rfl, sz_le (by simp), fun p hp => q p _ ((e.trans (Ex.new hd)).trans (Ex.new hp)) upd_same⟩
    · refine ⟨_, rfl, a, dx, _, rfl, h1, rfl, _, rfl, rs, vs, hS, by omega, .inl ⟨hout, fun H' d e hd => ?_⟩⟩
      refine ⟨true, T.E_NoRow.te, fun _ b hb => ?_, (fun z => by cases z)⟩
      walk_at "vc"
      exact ⟨_, rfl, rfl, rfl, d, _, .int i, rfl, upd_same, rfl, sz_le (by simp), fun p hp => q p _ ((e.trans (Ex.new hd)).trans (Ex.new hp)) upd_same⟩
    · refine ⟨_, rfl, _, rfl, a, a_Sheet, dx, _, _, rfl, h1, ⟨rfl, rfl⟩, rs, vs, hS, .inr ⟨hout, fun H' d e hd => ?_⟩⟩
      refine ⟨true, T.E_NoRow.te, fun _ b hb => ?_, (fun z => by cases z)⟩
      walk_at "vc"
      exact ⟨_, rfl, rfl, rfl, d, _, .int i, rfl, upd_same, rfl, sz_le (by simp), fun p hp => q p _ ((e.trans (Ex.new hd)).trans (Ex.new hp)) upd_same⟩
  · refine ite2 (fun f1 => ?_) (fun f1 => ?_)
    · refine ⟨_, rfl, _, rfl, a, a_Sheet, dx, _, _, rfl, h1, ⟨rfl, rfl⟩, rs, vs, hS, by omega, .inl ⟨t, ty, hk, fun H' d e hd => ?_⟩⟩
      refine ⟨false, T.kx_InvalidRow_NoRow, (fun z => by cases z), fun _ => ⟨true, T.E_InvalidRow.te, fun _ b hb => ?_, (fun z => by cases z)⟩⟩
      walk_at "vc"
      exact ⟨_, rfl, rfl, rfl, d, _, .str "rows", rfl, upd_same, rfl, sz_le (by simp), fun p hp => q p _ ((e.trans (Ex.new hd)).trans (Ex.new hp)) upd_same⟩
    · have hf2 : f = 1 ∧ 0 ≤ i ∧ i < rs.length := hf.resolve_left f1
      rw [if_pos hf2.1]
      refine ⟨_, rfl, _, rfl, a, a_Sheet, dx, _, _, rfl, h1, ⟨rfl, rfl⟩, rs, vs, hS, by omega, .inr ⟨hf2.2.1, hf2.2.2, .inl ⟨t, ty, hk, fun H' d e hd => ?_⟩⟩⟩
      refine ⟨false, T.kx_InvalidRow_NoRow, (fun z => by cases z), fun _ => ⟨true, T.E_InvalidRow.te, fun _ b hb => ?_, (fun z => by cases z)⟩⟩
      walk_at "vc"
      exact ⟨_, rfl, rfl, rfl, d, _, .str "rows", rfl, upd_same, rfl, sz_le (by simp), fun p hp => q p _ ((e.trans (Ex.new hd)).trans (Ex.new hp)) upd_same⟩
  · rw [if_pos rfl]
    refine ⟨_, rfl, _, rfl, a, a_Sheet, dx, _, _, rfl, h1, ⟨rfl, rfl⟩, rs, vs, hS, by omega, .inr ⟨r, a, rfl, hr, fun H1 o hS1 => ?_⟩⟩
    exact ⟨_, rfl, q H1 o hS1⟩
  · rw [if_neg (by omega), if_pos rfl]
    refine ⟨_, rfl, _, rfl, a, a_Sheet, dx, _, _, rfl, h1, ⟨rfl, rfl⟩, rs, vs, hS, by omega, .inr ⟨i0, i1, .inr ⟨r, a, rfl, hr, fun H1 o hS1 => ?_⟩⟩⟩
    exact ⟨_, rfl, q H1 o hS1⟩
  · rw [if_neg (by omega), if_neg (by omega), if_pos rfl]
    refine ⟨_, rfl, a, dx, _, rfl, h1, rfl, _, rfl, rs, vs, hS, by omega, .inr ⟨i0, i1, a, rfl, fun H1 o hS1 => ?_⟩⟩
    exact q H1 o hS1
  · rw [if_neg (by omega), if_neg (by omega), if_neg (by omega)]
    refine ⟨_, rfl, _, rfl, a, a_Sheet, dx, _, _, rfl, h1, ⟨rfl, rfl⟩, rs, vs, hS, .inl ⟨i0, i1, fun u1 r1 hr1 hu1 => ?_⟩⟩
    obtain ⟨y1, y2, y3, y4⟩ := gd_at hg hr1
    refine str_row T hu1 y1 y2 y3 (by omega) fun H8 e8 => ⟨sz_le (by simp), fun p hp => ?_⟩
    exact q r1 p _ hr1 (e8.trans (Ex.new hp)) upd_same
end
end My
set_option Elab.async false
set_option linter.all false
set_option maxRecDepth 100000
set_option maxHeartbeats 4000000
set_option exponentiation.threshold 5000
namespace My
open PySem PySem.Spec PyProof.Rows L2 Evl
local macro_rules | `(tactic| walk_at "st") => `(tactic| simp only [L2.start, List.map_cons, List.map_nil, List.length_cons, List.length_nil, Nat.reduceAdd, Nat.reduceSub, List.replicate_succ, List.replicate_zero, List.cons_append, List.nil_append, cxOf, List.append_nil])
local macro_rules | `(tactic| walk_at "vc") => `(tactic| try simp only [tSeq, tAsg, tOp, tUn, tVar, tC, tNil, tCons, gName, rI, rI0, rU, tRet, tIfS, tNot, tAnd, tOr, tB, tTest, tCB, tCall, tAndV, tOrV, tNotV, tNext, tNever, tIf, tChain, tYes, tPart, tNoPart, tPar, tDrop, q_isi, q_vn, q_vb, q_vi, q_vs, kb1, kb2, kb3, kb4, kb5, kb6, kb7, kb8, q_int1, q_int2, q_min, q_max, q_repr, tLst, tTup, rEq, rNe, q_sii, q_sss, q_sbb, q_snn, q_sns, q_ssn, q_ix, q_sl, tSl, tBM, tBM0, q_app, q_pop, gSub, rSetL, L2.wipe, eq_self, decide_true, decide_false, tRevL,
  List.getElem?_cons_succ, List.getElem?_cons_zero, List.set_cons_succ, List.set_cons_zero, Option.some.injEq, exists_eq_left', exists_eq_left, V.int.injEq, V.bl.injEq, V.ref.injEq, V.str.injEq, List.cons.injEq, and_true, true_and, List.append_nil, List.nil_append, List.cons_append, exists_and_left, and_assoc, if_true, if_false, Bool.not_true, Bool.not_false, Bool.false_eq_true, Bool.true_eq_false, reduceIte, tRevL, tPar3, tRevT, tUnl, tCKw, forall_const, Bool.not_eq_true', decide_eq_true_eq, decide_eq_false_iff_not])
section
variable {P : Program} {w : World} {K : PySem.W.Frag} {mg : Str → Option Value} {base : Heap}
variable {a_is_integer a_is_number a_is_name a_are_rows a_texts a_needed a_fits a_is_of a_inner a_flat a_names_in a_bare a_named a_law_deal a_law_draw a_law_pick a_law_words a_law_kinds a_law_put a_law_ask a_law_count a_law_rows a_law_ask_text a_law_lines a_law_all_lines a_law_ask_of a_law_row_of a_law_deed a_law_begun a_law_alike a_law a_NoRow_init a_InvalidRow_init a_Put_init a_Put_eq a_Put_str a_If_init a_If_eq a_If_str a_Times_init a_Times_eq a_Times_str a_Stop_eq a_Stop_str a_Ask_init a_Ask_eq a_Ask_str a_Not_init a_Not_eq a_Not_str a_Program_init a_Program_str a_Sheet_init a_Sheet_drop a_Sheet_made a_Sheet_len a_Sheet_getitem a_Sheet_setitem a_Sheet_iadd a_NoRow a_InvalidRow a_Put a_If a_Times a_Stop a_Ask a_Not a_Row a_Test a_Program a_Sheet a_DEEDS a_SIGNS a_WORDS a_If_init_d0 a_Program_init_d0 a_Sheet_init_d0 : Addr} {d_is_integer d_is_number d_is_name d_are_rows d_texts d_needed d_fits d_is_of d_inner d_flat d_names_in d_bare d_named d_law_deal d_law_draw d_law_pick d_law_words d_law_kinds d_law_put d_law_ask d_law_count d_law_rows d_law_ask_text d_law_lines d_law_all_lines d_law_ask_of d_law_row_of d_law_deed d_law_begun d_law_alike d_law d_NoRow_init d_InvalidRow_init d_Put_init d_Put_eq d_Put_str d_If_init d_If_eq d_If_str d_Times_init d_Times_eq d_Times_str d_Stop_eq d_Stop_str d_Ask_init d_Ask_eq d_Ask_str d_Not_init d_Not_eq d_Not_str d_Program_init d_Program_str d_Sheet_init d_Sheet_drop d_Sheet_made d_Sheet_len d_Sheet_getitem d_Sheet_setitem d_Sheet_iadd : FuncData}
def sp_law_alike (K : PySem.W.Frag) (A : ClsA) (CS : Addr) : Sp
  | [v, .ref p], H, Q, _ => ∃ rs ws vs, SheetO K A CS H rs ws v ∧ H p = some (.lst vs) ∧ RowTs K H rs vs ∧ GdP rs ∧ ∀ H', Ex H H' → Q (.bl true) H'
  | _, _, _, _ => False
theorem ok_law_alike (T : Txt w K mg a_is_integer a_is_number a_is_name a_are_rows a_texts a_needed a_fits a_is_of a_inner a_flat a_names_in a_bare a_named a_law_deal a_law_draw a_law_pick a_law_words a_law_kinds a_law_put a_law_ask a_law_count a_law_rows a_law_ask_text a_law_lines a_law_all_lines a_law_ask_of a_law_row_of a_law_deed a_law_begun a_law_alike a_law a_NoRow_init a_InvalidRow_init a_Put_init a_Put_eq a_Put_str a_If_init a_If_eq a_If_str a_Times_init a_Times_eq a_Times_str a_Stop_eq a_Stop_str a_Ask_init a_Ask_eq a_Ask_str a_Not_init a_Not_eq a_Not_str a_Program_init a_Program_str a_Sheet_init a_Sheet_drop a_Sheet_made a_Sheet_len a_Sheet_getitem a_Sheet_setitem a_Sheet_iadd a_NoRow a_InvalidRow a_Put a_If a_Times a_Stop a_Ask a_Not a_Row a_Test a_Program a_Sheet a_DEEDS a_SIGNS a_WORDS a_If_init_d0 a_Program_init_d0 a_Sheet_init_d0 d_is_integer d_is_number d_is_name d_are_rows d_texts d_needed d_fits d_is_of d_inner d_flat d_names_in d_bare d_named d_law_deal d_law_draw d_law_pick d_law_words d_law_kinds d_law_put d_law_ask d_law_count d_law_rows d_law_ask_text d_law_lines d_law_all_lines d_law_ask_of d_law_row_of d_law_deed d_law_begun d_law_alike d_law d_NoRow_init d_InvalidRow_init d_Put_init d_Put_eq d_Put_str d_If_init d_If_eq d_If_str d_Times_init d_Times_eq d_Times_str d_Stop_eq d_Stop_str d_Ask_init d_Ask_eq d_Ask_str d_Not_init d_Not_eq d_Not_str d_Program_init d_Program_str d_Sheet_init d_Sheet_drop d_Sheet_made d_Sheet_len d_Sheet_getitem d_Sheet_setitem d_Sheet_iadd) : FnOk P w K mg base CX0 62 a_law_alike d_law_alike ["_law_sheet", "_law_models"] (sp_law_alike K ⟨a_Put, a_If, a_Times, a_Stop, a_Ask, a_Not⟩ a_Sheet) := by
  have G_law_all_lines := ok_law_all_lines T 5 _ (ok_law_lines (P := P) (w := w) (base := base) T 5 (by decide))
  have G_law_row_of := ok_law_row_of (P := P) (w := w) (base := base) T 5
  have G_Sheet_made := ok_Sheet_made (P := P) (w := w) (mg := mg) (base := base) T
  have HS := HSp T
  have GS := GSp (P := P) (w := w) (mg := mg) (base := base) T
  have HLs := HLs T
  have GLs := GLs (P := P) (w := w) (mg := mg) (base := base) T
  have HGs := HGs T
  have GGs := GGs (P := P) (w := w) (mg := mg) (base := base) T
  have HEr := HEr T
  have GEr := GEr (P := P) (w := w) (mg := mg) (base := base) T 4
  refine T.F_law_alike.ok sc_law_alike (fun vs H Q E h => ?_) (fun cdv A outer s H vs Q E hr h => ?_)
  · unfold sp_law_alike at h; split at h; rfl; exact h.elim
  unfold sp_law_alike at h; split at h
  case h_2 => exact h.elim
  rename_i v p
  obtain ⟨rs, ws, vs, hS, hp, hT, hg, q⟩ := h
  refine ⟨_, (pss_cons (ps_if (PW.pt (pw_or (pt_cmpR op_ne (pe_callB (call_lenO HLs GLs (hr.mono (by omega)) pass0) (by rfl) T.z_len (by decide +kernel) (pa_cons (pv 0) pa_nil)) (pe_callB call_len_seq (by rfl) T.z_len (by decide +kernel) (pa_cons (pv 1) pa_nil)) (nomark _)) (pw_or1 (pt_cmpR op_ne (pe_callTy (call_strO HS GS (hr.mono (by omega)) pass0) (by rfl) T.z_str (by decide +kernel) (pa_cons (pe_methS0 (pv 0) T.oc_Sheet.cl T.mm_Sheet_made G_Sheet_made (hr.mono (by omega)) (fun σ => passAt takes0 σ)) pa_nil)) (pe_bm PySem.F.plainAttrs_str PySem.F.slot_str_join PySem.F.type_str_join mt_join pe_str (pa_cons (pe_call G_law_all_lines (hr.mono (by omega)) (by rfl) T.g_law_all_lines T.F_law_all_lines.kp T.b_law_all_lines .nil pass0 (pa_cons (pv 1) pa_nil)) pa_nil)) (nomark _)))))
      (pss_one (ps_ret pe_bl))
      pss_nil)
      (pss_one (ps_ret (pe_cmpR (op_eqD hr.units) (pe_lc (own := [("_law_k", 2), ("_law_one", 3)]) (g := gTup K 2 (gCons (gName 2) (gCons (gName 3) gNil))) (by rfl) sc_law_alike.nd (pi_enum (by rfl) T.z_enumerate (pa_cons (pv 1) pa_nil)) (blkOk_by (own := [("_law_k", 2), ("_law_one", 3)]) (N := N_law_alike) (sc := defScope s_law_alike) (by decide +kernel)) (fun _ _ _ _ _ => (pg_tupK (K := K) (n := 2) rfl rfl (pgs_cons (pg_name (i := 2) sc_law_alike.nd rfl (by first | exact .inl rfl | exact .inr rfl)) (pgs_cons (pg_name (i := 3) sc_law_alike.nd rfl (by first | exact .inl rfl | exact .inr rfl)) pgs_nil)))) (fun _ _ _ _ _ => (pts_one (pt_not (pt_cmpR (op_eqOK (K := K) HEr GEr (hr.mono (by omega)) pass0) (pe_ixO HGs GGs (hr.mono (by omega)) (fun σ => passAt takes0 σ) (pv 0) (pv 2) (fun _ _ => rfl)) (pe_call G_law_row_of (hr.mono (by omega)) (by rfl) T.g_law_row_of T.F_law_row_of.kp T.b_law_row_of .nil pass0 (pa_cons (pv 3) pa_nil)) (nomark _))))) (fun _ _ _ _ _ => pe_int)) (pe_lst pa_nil) (nomark _))))), ?_⟩
  walk_at "st"
  walk_at "vc"
  have hvl := hT.len
  have hcl := cnts_len rs
  have hc20 := hg.2.2.2
  have hd4 := hg.2.2.1
  obtain ⟨a, dx, r, rfl, h1, h2, h3⟩ := id hS
  refine ⟨a, a_Sheet, dx, _, _, rfl, h1, ⟨rfl, rfl⟩, rs, ws, hS, ?_⟩
  refine ⟨_, rfl, by omega, by omega, vs, .inl (sq_of hp), rfl, ?_⟩
  rw [hvl, if_neg (by simp)]
  refine ⟨_, rfl, a, dx, _, rfl, h1, rfl, rs, ws, hS, hg, fun u H1 e1 hP _ => ?_⟩
  have hwt := liness_wt rs hg.1 hg.2.1
  refine str_of hP hg fun H2 e2 => ?_
  have e12 := e1.trans e2
  refine ⟨rfl, rs, vs, .inl (e12 _ _ hp), hT.ex e12, hg.1, hg.2.1, by omega, by omega, fun D6 H3 e3 _ w9 => ⟨D6, rfl, _, .inl (sq_of w9), ?_, rfl, ?_⟩⟩
  · rw [nl1, ← wt_sum]; omega
  rw [if_neg (by simp)]
  have e13 := e12.trans e3
  replace hS := hS.ex e13
  replace hT := hT.ex e13
  replace hp := e13 _ _ hp
  clear e1 e2 e3 e12 w9 hP h1 h2 h3
  refine ⟨_, rfl, p, vs, rfl, sq_of hp, fun D7 hD7 => ?_⟩
  refine lc_it (walk_enum (xs := vs)) (fun i H' => H' D7 = some (.lst []) ∧ Ex H3 H') ⟨upd_same, Ex.new hD7⟩ (fun i H' _ hI => sq_of (hI.2 _ _ hp)) (fun j u H9 H10 hj hI y => ?_) (fun H9 hI => ?_)
  · obtain ⟨tp, u2, z2, rfl, f1, rfl, f3, f4⟩ := y
    obtain ⟨h7, e10⟩ := hI
    cases f3
    have e11 := e10.trans (Ex.new f1 (o := .tup [.int (j : Nat), z2]))
    walk_at "vc"
    obtain ⟨r1, hr2, hrT⟩ := hT.at_ f4
    obtain ⟨y1, y2, y3, y4⟩ := gd_at hg hr2
    have hjl := (List.getElem?_eq_some_iff.mp f4).1
    have hS2 := hS.ex e11
    obtain ⟨a2, dx2, q2, ea, g1, _⟩ := id hS2
    cases ea
    refine ⟨tp, _, rfl, st_of upd_same, rfl, _, _, rfl, _, _, rfl, ?_⟩
    refine ⟨rfl, rfl, _, rfl, _, rfl, a, a_Sheet, dx2, _, _, rfl, g1, ⟨rfl, rfl⟩, rs, ws, hS2, .inl ⟨by omega, by omega, fun u1 r2 hr1 hu1 => ?_⟩⟩
    have er : r2 = r1 := Option.some.inj (hr1.symm.trans hr2)
    subst er
    refine ⟨_, rfl, r2, hrT.ex e11, y1, y2, by omega, fun u3 H12 e14 hu3 _ => ?_⟩
    refine eq_row T (hu1.kp (Kp.of_ex e14)) hu3 y1 y2 (by omega) (by omega) fun H13 e15 => ⟨_, rfl, ?_⟩
    rw [if_neg (by decide)]
    have e16 := ((Ex.new f1 (o := .tup [.int (j : Nat), z2])).trans e14).trans e15
    exact ⟨e16 _ _ h7, e10.trans e16⟩
  obtain ⟨h7, e10⟩ := hI
  refine ⟨sz_le (by simp), fun q9 hq9 => ?_⟩
  refine eqLists (xs := []) (ys := []) (sq_of (Ex.new hq9 _ _ h7)) (sq_of upd_same) ?_
  exact q _ ((e13.trans e10).trans (Ex.new hq9))
end
end My
set_option Elab.async false
set_option linter.all false
set_option maxRecDepth 100000
set_option maxHeartbeats 4000000
set_option exponentiation.threshold 5000
namespace My
open PySem PySem.Spec PyProof.Rows L2 Evl
/-! ### all that stands elsewhere than at the sheet -/
theorem Deal3.del {d L p : Addr} {H : Hp} (D : Deal3 d L H) (h1 : d ≠ p) (h2 : L ≠ p) : Deal3 d L (delL H p) := by
  obtain ⟨cs, c, z, D⟩ := D
  exact ⟨cs, c, z, ⟨by rw [delL_ne h1]; exact D.d, D.c0, by rw [delL_ne h2]; exact D.l, D.nn, D.z0, D.z1, D.len⟩⟩
theorem Mv3.del {d L p : Addr} {H H' : Hp} (M : Mv3 d L H H') (h1 : d ≠ p) (h2 : L ≠ p) : Mv3 d L (delL H p) (delL H' p) := ⟨fun b o n1 n2 h => by
  by_cases e : b = p
  · rw [e, delL_same] at h; cases h
  · rw [delL_ne e] at h ⊢; exact M.kp b o n1 n2 h, M.dl.del h1 h2⟩
theorem SheetO.mv {K : PySem.W.Frag} {A : ClsA} {CS d L sh : Addr} {H H' : Hp} {rs : List RowM} {vs : List V} (D : Deal3 d L H) (M : Mv3 d L H H') (h1 : sh ≠ d) (h2 : sh ≠ L) (h : SheetO K A CS H rs vs (.ref sh)) : SheetO K A CS H' rs vs (.ref sh) := by
  obtain ⟨a, dx, q, e, g1, g2, g3⟩ := h
  cases e
  exact ⟨sh, dx, q, rfl, M.kp _ _ h1 h2 g1, (M.kpx D).sqt g2, g3.kp ((M.del h1.symm h2.symm).kpx (D.del h1.symm h2.symm))⟩
/-- what rows and tests are made of -/
def rowThing (A : ClsA) (o : HO) : Prop := (∃ C dx fs, o = .ins C dx fs ∧ (C = A.put ∨ C = A.ifr ∨ C = A.times ∨ C = A.stop ∨ C = A.ask ∨ C = A.not)) ∨ (∃ xs, o = .tup xs) ∨ ∃ b u, o = .frz b u
def Kr (A : ClsA) (H H' : Hp) : Prop := ∀ b o, rowThing A o → H b = some o → H' b = some o
section
variable {K : PySem.W.Frag} {A : ClsA} {H H' : Hp}
theorem Kr.sqt (e : Kr A H H') {a : Addr} {xs : List V} (h : SqT K H a xs) : SqT K H' a xs := by
  rcases h with (h | ⟨o, h⟩) | h
  · exact .inl (.inl (e _ _ (.inr (.inl ⟨_, rfl⟩)) h))
  · exact .inl (.inr ⟨o, e _ _ (.inr (.inr ⟨_, _, rfl⟩)) h⟩)
  · exact .inr h
theorem Kr.ins (e : Kr A H H') {a C dx : Addr} {fs : List (Str × V)} (hC : C = A.put ∨ C = A.ifr ∨ C = A.times ∨ C = A.stop ∨ C = A.ask ∨ C = A.not) (h : H a = some (.ins C dx fs)) : H' a = some (.ins C dx fs) := e _ _ (.inl ⟨_, _, _, rfl, hC⟩) h
theorem TestO.kr (e : Kr A H H') : ∀ {t : TestM} {v : V}, TestO K A H t v → TestO K A H' t v
  | .ask _ _, _, ⟨a, dx, q, h1, h2, h3⟩ => ⟨a, dx, q, h1, e.ins (by simp) h2, e.sqt h3⟩
  | .not _, _, ⟨a, dx, u, h1, h2, h3⟩ => ⟨a, dx, u, h1, e.ins (by simp) h2, TestO.kr e h3⟩
mutual
theorem RowO.kr (e : Kr A H H') : ∀ {r : RowM} {v : V}, RowO K A H r v → RowO K A H' r v
  | .stop, v, h => by
    unfold RowO at h ⊢
    obtain ⟨a, dx, h1, h2⟩ := h
    exact ⟨a, dx, h1, e.ins (by simp) h2⟩
  | .put n d g, v, h => by
    unfold RowO at h ⊢
    obtain ⟨a, dx, q, h1, h2, h3⟩ := h
    exact ⟨a, dx, q, h1, e.ins (by simp) h2, e.sqt h3⟩
  | .times c rs, v, h => by
    unfold RowO at h ⊢
    obtain ⟨a, dx, q, vs, h1, h2, h3, h4⟩ := h
    exact ⟨a, dx, q, vs, h1, e.ins (by simp) h2, e.sqt h3, RowOs.kr e h4⟩
  | .ifr t rs os, v, h => by
    unfold RowO at h ⊢
    obtain ⟨a, dx, u, q, x, vs, ws, h1, h2, ht, h3, h4, h5, h6⟩ := h
    exact ⟨a, dx, u, q, x, vs, ws, h1, e.ins (by simp) h2, ht.kr e, e.sqt h3, RowOs.kr e h4, e.sqt h5, RowOs.kr e h6⟩
theorem RowOs.kr (e : Kr A H H') : ∀ {rs : List RowM} {vs : List V}, RowOs K A H rs vs → RowOs K A H' rs vs
  | [], vs, h => by unfold RowOs at h ⊢; exact h
  | r :: rs, vs, h => by
    unfold RowOs at h ⊢
    obtain ⟨v, ws, h1, h2, h3⟩ := h
    exact ⟨v, ws, h1, RowO.kr e h2, RowOs.kr e h3⟩
end
theorem TestT.kr (e : Kr A H H') : ∀ {t : TestM} {v : V}, TestT K H t v → TestT K H' t v
  | .ask _ _, _, h => by
    unfold TestT at h ⊢
    obtain ⟨a, q, h1, h2, h3⟩ := h
    exact ⟨a, q, h1, e.sqt h2, e.sqt h3⟩
  | .not t, _, h => by
    unfold TestT at h ⊢
    obtain ⟨a, u, h1, h2, h3⟩ := h
    exact ⟨a, u, h1, e.sqt h2, TestT.kr e h3⟩
mutual
theorem RowT.kr (e : Kr A H H') : ∀ {r : RowM} {v : V}, RowT K H r v → RowT K H' r v
  | .stop, v, h => by
    unfold RowT at h ⊢
    obtain ⟨a, h1, h2⟩ := h
    exact ⟨a, h1, e.sqt h2⟩
  | .put n d g, v, h => by
    unfold RowT at h ⊢
    obtain ⟨a, q, h1, h2, h3⟩ := h
    exact ⟨a, q, h1, e.sqt h2, e.sqt h3⟩
  | .times c rs, v, h => by
    unfold RowT at h ⊢
    obtain ⟨a, q, vs, h1, h2, h3, h4⟩ := h
    exact ⟨a, q, vs, h1, e.sqt h2, e.sqt h3, RowTs.kr e h4⟩
  | .ifr t rs os, v, h => by
    unfold RowT at h ⊢
    obtain ⟨a, u, q, x, vs, ws, h1, h2, ht, h3, h4, h5, h6⟩ := h
    exact ⟨a, u, q, x, vs, ws, h1, e.sqt h2, ht.kr e, e.sqt h3, RowTs.kr e h4, e.sqt h5, RowTs.kr e h6⟩
theorem RowTs.kr (e : Kr A H H') : ∀ {rs : List RowM} {vs : List V}, RowTs K H rs vs → RowTs K H' rs vs
  | [], vs, h => by unfold RowTs at h ⊢; exact h
  | r :: rs, vs, h => by
    unfold RowTs at h ⊢
    obtain ⟨v, ws, h1, h2, h3⟩ := h
    exact ⟨v, ws, h1, RowT.kr e h2, RowTs.kr e h3⟩
end
/-- a thing of another class is no part of rows -/
theorem Kr.del {a CS dx : Addr} {fs : List (Str × V)} (h : H a = some (.ins CS dx fs)) (hc : ¬ (CS = A.put ∨ CS = A.ifr ∨ CS = A.times ∨ CS = A.stop ∨ CS = A.ask ∨ CS = A.not)) : Kr A H (delL H a) := fun b o ht hb => by
  have : b ≠ a := fun e => by
    rw [e, h] at hb
    cases hb
    rcases ht with ⟨C, dx2, fs2, e2, hC⟩ | ⟨xs, e2⟩ | ⟨_, _, e2⟩
    · cases e2; exact hc hC
    · cases e2
    · cases e2
  rw [delL_ne this]
  exact hb
end
/-- the sheet's class is none of rows and tests -/
theorem noCls {K : PySem.W.Frag} {A : ClsA} {row test CS : Addr} (k : kitO K A row test = true) (h1 : PySem.W.kitOne K (.ref CS) (.ref row) = some false) (h2 : PySem.W.kitOne K (.ref CS) (.ref test) = some false) : ¬ (CS = A.put ∨ CS = A.ifr ∨ CS = A.times ∨ CS = A.stop ∨ CS = A.ask ∨ CS = A.not) := fun h => by
  have g := fun i (hi : i < 6) => kitO1 k i 6 hi (by decide)
  have g2 := fun i (hi : i < 6) => kitO1 k i 7 hi (by decide)
  rcases h with rfl | rfl | rfl | rfl | rfl | rfl
  · have := (g 0 (by decide)).symm.trans h1; cases this
  · have := (g 1 (by decide)).symm.trans h1; cases this
  · have := (g 2 (by decide)).symm.trans h1; cases this
  · have := (g 3 (by decide)).symm.trans h1; cases this
  · have := (g2 4 (by decide)).symm.trans h2; cases this
  · have := (g2 5 (by decide)).symm.trans h2; cases this
theorem ex_del {H H2 : Hp} {x : Addr} (e : Ex H H2) (hx : H x = none) : Ex H (delL H2 x) := fun b u hb => by
  have : b ≠ x := fun z => by rw [z, hx] at hb; cases hb
  rw [delL_ne this]
  exact e b u hb
theorem mkSheet {K : PySem.W.Frag} {A : ClsA} {CS : Addr} {H : Hp} {x dx p : Addr} {rs : List RowM} {vs : List V} {R : VK} {E : XK} (hx : H x = none) (hdx : H dx = none) (hne : dx ≠ x) (hp : H p = some (.lst vs) ∨ SqT K H p vs) (hO : RowOs K A H rs vs) (hl : rs.length ≤ 1000)
    (q : ∀ H2, Ex H H2 → SheetO K A CS H2 rs vs (.ref x) → R .non H2) : sp_Sheet_init K A CS [.ref x, .ref p] (upd (upd H dx (.own x)) x (.ins CS dx [])) R E := by
  have e1 : Ex H (upd H dx (.own x)) := Ex.new hdx
  have h1 : upd H dx (.own x) x = none := by rw [upd_ne (Ne.symm hne)]; exact hx
  have e2 : Ex H (upd (upd H dx (.own x)) x (.ins CS dx [])) := e1.trans (Ex.new h1)
  refine ⟨dx, rs, vs, upd_same, hp.imp (fun h => e2 _ _ h) (fun h => (Kp.of_ex e2).sqt h), hO.kp (Kp.of_ex (e1.trans (delL_new h1))), hl, fun H1 o hP => q H1 (fun b u hb => ?_) hP⟩
  exact o b u (fun e => by rw [e, hx] at hb; cases hb) (e2 b u hb)
theorem Kp.del {H H' : Hp} {p : Addr} (e : Kp H H') : Kp (delL H p) (delL H' p) := fun b o no h => by
  by_cases z : b = p
  · rw [z, delL_same] at h; cases h
  · rw [delL_ne z] at h ⊢; exact e b o no h
theorem SheetO.kp {K : PySem.W.Frag} {A : ClsA} {CS : Addr} {H H' : Hp} {rs : List RowM} {vs : List V} {v : V} (e : Kp H H') (h : SheetO K A CS H rs vs v) : SheetO K A CS H' rs vs v := by
  obtain ⟨a, dx, q, rfl, h1, h2, h3⟩ := h
  exact ⟨a, dx, q, rfl, e.ins h1, e.sqt h2, h3.kp (Kp.del e)⟩
/-- what stands at each turn: all but the sheet lies elsewhere -/
structure StS (K : PySem.W.Frag) (A : ClsA) (CS CP d L nm sh : Addr) (nns : List Str) (rs0 : List RowM) (us0 : List V) (bu : V) (mo : Addr) (rs : List RowM) (vs us : List V) (H : Hp) : Prop where
  D : Deal3 d L (delL H sh)
  N : Names d L nm nns (delL H sh)
  m : delL H sh mo = some (.lst vs)
  T : RowTs K (delL H sh) rs vs
  S : SheetO K A CS H rs us (.ref sh)
  P : ProgO K A CP (delL H sh) rs0 us0 bu
  md : mo ≠ d
  mL : mo ≠ L
  sd : sh ≠ d
  sL : sh ≠ L
section
variable {K : PySem.W.Frag} {A : ClsA} {CS CP d L nm sh mo : Addr} {nns : List Str} {rs0 rs rs2 : List RowM} {us0 vs us us2 : List V} {bu : V} {H H' : Hp}
theorem StS.dl (S : StS K A CS CP d L nm sh nns rs0 us0 bu mo rs vs us H) : Deal3 d L H := S.D.ex delL_le
theorem StS.mv (M : Mv3 d L H H') (S : StS K A CS CP d L nm sh nns rs0 us0 bu mo rs vs us H) : StS K A CS CP d L nm sh nns rs0 us0 bu mo rs vs us H' := by
  have M2 := M.del S.sd.symm S.sL.symm
  exact ⟨M2.dl, S.N.mv M2, M2.kp _ _ S.md S.mL S.m, S.T.kp (M2.kpx S.D), S.S.mv S.dl M S.sd S.sL, S.P.kp (M2.kpx S.D), S.md, S.mL, S.sd, S.sL⟩
theorem StS.ex (e : Ex H H') (S : StS K A CS CP d L nm sh nns rs0 us0 bu mo rs vs us H) : StS K A CS CP d L nm sh nns rs0 us0 bu mo rs vs us H' := S.mv (Mv3.of_ex S.dl e)
/-- the sheet changes; the models are those of another list -/
theorem StS.off (o : Off sh H H') {mo2 : Addr} {vs2 : List V} (S : StS K A CS CP d L nm sh nns rs0 us0 bu mo rs vs us H) (hm : delL H sh mo2 = some (.lst vs2)) (hT : RowTs K (delL H sh) rs2 vs2) (h1 : mo2 ≠ d) (h2 : mo2 ≠ L) (hS : SheetO K A CS H' rs2 us2 (.ref sh)) : StS K A CS CP d L nm sh nns rs0 us0 bu mo2 rs2 vs2 us2 H' := by
  have e := delL_mono o
  exact ⟨S.D.ex e, S.N.mv (Mv3.of_ex S.D e), e _ _ hm, hT.ex e, hS, S.P.ex e, h1, h2, S.sd, S.sL⟩
end
end My
set_option Elab.async false
set_option linter.all false
set_option maxRecDepth 100000
set_option maxHeartbeats 4000000
set_option exponentiation.threshold 5000
namespace My
open PySem PySem.Spec PyProof.Rows L2 Evl
/-! ### the signs of a text -/
def cl (x : Str) : List Nat := x.cps.toList
theorem cl_app (x y : Str) : cl (x ++ y) = cl x ++ cl y := by
  show (x.cps ++ y.cps).toList = x.cps.toList ++ y.cps.toList
  simp
theorem cl_inj {x y : Str} (h : cl x = cl y) : x = y := by
  cases x
  cases y
  unfold cl at h
  simp only at h
  rw [Array.toList_inj.mp h]
def plainC (c : Nat) : Prop := 32 ≤ c ∧ c < 127
def plainS (x : Str) : Prop := ∀ c ∈ cl x, plainC c
theorem all_app {p : Nat → Prop} {x y : Str} (h : ∀ c ∈ cl x, p c) (k : ∀ c ∈ cl y, p c) : ∀ c ∈ cl (x ++ y), p c := fun c hc => by
  rw [cl_app] at hc
  rcases List.mem_append.mp hc with z | z
  · exact h c z
  · exact k c z
theorem all_join {p : Nat → Prop} {s : Str} (hs : ∀ c ∈ cl s, p c) : ∀ {ls : List Str}, ls ≠ [] → (∀ l ∈ ls, ∀ c ∈ cl l, p c) → ∀ c ∈ cl (Txt.join s ls), p c
  | [], h, _ => absurd rfl h
  | [a], _, h => by rw [join_one]; exact h a (by simp)
  | a :: b :: r, _, h => by
    rw [join_cons]
    exact all_app (all_app (h a (by simp)) hs) (all_join hs (by simp) fun l hl => h l (List.mem_cons_of_mem _ hl))
theorem name_let {x : Str} (h : nameOk x) : ∀ c ∈ cl x, 97 ≤ c ∧ c < 123 := fun c hc => by
  have h2 := h.2
  unfold nmOk at h2
  have h3 := (Bool.and_eq_true_iff.mp (Bool.and_eq_true_iff.mp h2).2).2
  have h4 := of_decide_eq_true (List.all_eq_true.mp h3 c hc)
  have : ∀ c ∈ (Str.ofString "abcdefghijklmnopqrstuvwxyz").cps.toList, 97 ≤ c ∧ c < 123 := by decide
  exact this c h4
theorem plain_name {x : Str} (h : nameOk x) : plainS x := fun c hc => by
  have := name_let h c hc
  unfold plainC
  omega
theorem plain_num {i : Int} (h : 0 ≤ i) : (∀ c ∈ cl (Str.ofString (toString i)), 48 ≤ c ∧ c ≤ 57) ∧ cl (Str.ofString (toString i)) ≠ [] := by
  obtain ⟨n, rfl⟩ := Int.eq_ofNat_of_zero_le h
  have e : toString (n : Int) = n.repr := rfl
  have e2 : cl (Str.ofString (toString (n : Int))) = (Nat.toDigits 10 n).map Char.toNat := by
    rw [e, Nat.repr_eq_ofList_toDigits, PySem.Str.ofString_eq_toList]
    unfold cl
    simp
  rw [e2]
  refine ⟨fun c hc => ?_, by simp [Nat.toDigits_ne_nil]⟩
  obtain ⟨ch, hch, rfl⟩ := List.mem_map.mp hc
  have hd := Nat.isDigit_of_mem_toDigits (by decide) (by decide) hch
  unfold Char.isDigit at hd
  have h2 := Bool.and_eq_true_iff.mp hd
  exact ⟨of_decide_eq_true h2.1, of_decide_eq_true h2.2⟩
theorem plain_arg {k : Str} {v : V} (h : argOk k v) : plainS (argT v) := by
  rcases h with ⟨_, x, rfl, h1, h2⟩ | ⟨_, i, rfl, h0, _⟩
  · exact plain_name ⟨h1, h2⟩
  · intro c hc
    have := (plain_num h0).1 c hc
    unfold plainC
    omega
theorem deed_plain : ∀ p ∈ deedTab, ∀ c ∈ p.1.cps.toList, 32 ≤ c ∧ c < 127 := by decide +kernel
theorem kinds_plain {d : Str} {n : Nat} {ks : List Str} (h : kindsFor d n = some ks) : plainS d := by
  unfold kindsFor at h
  split at h
  · rename_i e
    rw [e]
    unfold plainS plainC cl
    decide
  · exact deed_plain _ (lookup_mem h)
theorem sign_two : ∀ p ∈ deedTab, p.1 ∈ signs → p.2.length = 2 := by decide +kernel
theorem eqs_cl : cl (Str.ofString " = ") = [32, 61, 32] := by decide
theorem sp_cl : cl (Str.ofString " ") = [32] := by decide
theorem eq1_cl : cl (Str.ofString "=") = [61] := by decide
theorem put_cl {n d : Str} {g : List V} (h : RowM.ok (.put n d g)) : (∃ r, cl (putText n d g) = cl n ++ 32 :: 61 :: r) ∧ plainS (putText n d g) := by
  rw [RowM.ok] at h
  obtain ⟨hn, ⟨ks, h1, h2⟩, _⟩ := h
  have hp := kinds_plain h1
  have hl := h2.len
  have ha : ∀ v ∈ g, plainS (argT v) := fun v hv => by
    obtain ⟨i, hi⟩ := List.mem_iff_getElem?.mp hv
    obtain ⟨k, _, ok⟩ := h2.at_ hi
    exact plain_arg ok
  have pn := plain_name hn
  have psp : plainS (Str.ofString " ") := by unfold plainS plainC; rw [sp_cl]; decide
  have peq : plainS (Str.ofString " = ") := by unfold plainS plainC; rw [eqs_cl]; decide
  have pe1 : plainS (Str.ofString "=") := by unfold plainS plainC; rw [eq1_cl]; decide
  by_cases hs : d ∈ signs
  · have g2 : g.length = 2 := by
      unfold kindsFor at h1
      split at h1
      · rename_i e
        rw [e] at hs
        exact absurd hs (by decide)
      · rw [hl]
        exact sign_two _ (lookup_mem h1) hs
    match g, g2, ha with
    | [a, b], _, ha =>
      have e : putText n d [a, b] = n ++ Str.ofString " = " ++ argT a ++ Str.ofString " " ++ d ++ Str.ofString " " ++ argT b := by unfold putText; rw [if_pos hs]
      rw [e]
      refine ⟨⟨[32] ++ (cl (argT a) ++ (cl (Str.ofString " ") ++ (cl d ++ (cl (Str.ofString " ") ++ cl (argT b))))), ?_⟩, ?_⟩
      · simp only [cl_app, List.append_assoc, eqs_cl]
        rfl
      · exact all_app (all_app (all_app (all_app (all_app (all_app pn peq) (ha a (by simp))) psp) hp) psp) (ha b (by simp))
  · have e : putText n d g = Txt.join (Str.ofString " ") (n :: Str.ofString "=" :: d :: g.map argT) := by unfold putText; rw [if_neg hs]
    rw [e]
    refine ⟨⟨[32] ++ cl (Txt.join (Str.ofString " ") (d :: g.map argT)), ?_⟩, ?_⟩
    · rw [join_cons, join_cons]
      simp only [cl_app, List.append_assoc, sp_cl, eq1_cl]
      rfl
    · refine all_join psp (by simp) fun l hl => ?_
      rcases List.mem_cons.mp hl with rfl | hl
      · exact pn
      rcases List.mem_cons.mp hl with rfl | hl
      · exact pe1
      rcases List.mem_cons.mp hl with rfl | hl
      · exact hp
      obtain ⟨v, hv, rfl⟩ := List.mem_map.mp hl
      exact ha v hv
theorem word_cl : ∀ p ∈ wordTab, (p.1.cps.toList.head?.any fun c => decide (c ≠ 61)) = true := by decide +kernel
theorem word_plain : ∀ p ∈ wordTab, ∀ c ∈ p.1.cps.toList, 32 ≤ c ∧ c < 127 := by decide +kernel
theorem not_cl : cl (Str.ofString "not ") = [110, 111, 116, 32] := by decide
theorem test_cl : ∀ {t : TestM}, t.ok → (∃ c r, cl t.text = c :: r ∧ c ≠ 61) ∧ plainS t.text
  | .ask w ns, ok => by
    have e : TestM.text (.ask w ns) = Txt.join (Str.ofString " ") (w :: ns) := rfl
    have hw : ∃ c r, cl w = c :: r ∧ c ≠ 61 := by
      have h := word_cl _ ok.1
      unfold cl
      match hx : w.cps.toList, h with
      | [], h => simp at h
      | c :: r, h =>
        refine ⟨c, r, rfl, ?_⟩
        simpa using h
    obtain ⟨c, r, e1, e2⟩ := hw
    rw [e]
    refine ⟨?_, all_join (by unfold plainC; rw [sp_cl]; decide) (by simp) fun l hl => ?_⟩
    · cases ns with
      | nil => rw [join_one]; exact ⟨c, r, e1, e2⟩
      | cons y ys =>
        rw [join_cons, cl_app, cl_app, e1]
        exact ⟨c, _, rfl, e2⟩
    · rcases List.mem_cons.mp hl with rfl | hl
      · exact word_plain _ ok.1
      · exact plain_name (ok.2 l hl)
  | .not t, ok => by
    have ih := test_cl (t := t) ok
    have e : TestM.text (.not t) = Str.ofString "not " ++ t.text := rfl
    rw [e]
    refine ⟨?_, all_app (by unfold plainC; rw [not_cl]; decide) ih.2⟩
    rw [cl_app, not_cl]
    exact ⟨110, _, rfl, by decide⟩
theorem if_cl : cl (Str.ofString "if ") = [105, 102, 32] := by decide
theorem times_cl : cl (Str.ofString "times ") = [116, 105, 109, 101, 115, 32] := by decide
mutual
theorem lines_plain : ∀ r : RowM, r.ok → ∀ l ∈ r.lines, plainS l
  | .stop, _ => fun l hl => by
    rw [RowM.lines, List.mem_singleton] at hl
    rw [hl]
    unfold plainS plainC cl
    decide
  | .put n d g, h => fun l hl => by
    rw [RowM.lines, List.mem_singleton] at hl
    rw [hl]
    exact (put_cl h).2
  | .times c rs, h => fun l hl => by
    rw [RowM.ok] at h
    rw [RowM.lines] at hl
    rcases List.mem_cons.mp hl with rfl | hl
    · refine all_app (by unfold plainC; rw [times_cl]; decide) fun z hz => ?_
      have := (plain_num (i := (c : Int)) (by omega)).1 z hz
      unfold plainC
      omega
    rcases List.mem_append.mp hl with hl | hl
    · exact liness_plain rs h.2.1 l hl
    · rw [List.mem_singleton.mp hl]
      unfold plainS plainC cl
      decide
  | .ifr t rs os, h => fun l hl => by
    rw [RowM.ok] at h
    rw [RowM.lines] at hl
    rcases List.mem_cons.mp hl with rfl | hl
    · exact all_app (by unfold plainC; rw [if_cl]; decide) (test_cl h.1).2
    rcases List.mem_append.mp hl with hl | hl
    · rcases List.mem_append.mp hl with hl | hl
      · exact liness_plain rs h.2.2.1 l hl
      · have k := liness_plain os h.2.2.2.2.1
        rw [elses_eq] at hl
        split at hl
        · cases hl
        · rcases List.mem_cons.mp hl with rfl | hl
          · unfold plainS plainC cl
            decide
          · exact k l hl
    · rw [List.mem_singleton.mp hl]
      unfold plainS plainC cl
      decide
theorem liness_plain : ∀ rs : List RowM, RowM.oks rs → ∀ l ∈ RowM.liness rs, plainS l
  | [], _ => fun l hl => by rw [RowM.liness] at hl; cases hl
  | r :: rs, h => fun l hl => by
    rw [RowM.oks] at h
    rw [RowM.liness] at hl
    rcases List.mem_append.mp hl with hl | hl
    · exact lines_plain r h.1 l hl
    · exact liness_plain rs h.2 l hl
end
theorem nl_cl : cl (Str.ofString "\n") = [10] := by decide
def lowS (x : Str) : Prop := ∀ c ∈ cl x, c < 127
theorem plainS.low {x : Str} (h : plainS x) : lowS x := fun c hc => (h c hc).2
theorem strOk_of {x : Str} (h : lowS x) : PyData.canLay0 (.str x) = true := by
  rw [PyData.canLay0]
  unfold PyData.strOk
  rw [← Array.all_toList]
  exact List.all_eq_true.mpr fun c hc => decide_eq_true (by have := h c hc; omega)
theorem text_low {r : RowM} (h : r.ok) (hl : r.lines ≠ []) : lowS (Txt.join "\n" r.lines) :=
  all_join (s := Str.ofString "\n") (p := fun c => c < 127) (by rw [nl_cl]; decide) hl fun l hm => (lines_plain r h l hm).low
end My
set_option Elab.async false
set_option linter.all false
set_option maxRecDepth 100000
set_option maxHeartbeats 4000000
set_option exponentiation.threshold 5000
namespace My
open PySem PySem.Spec PyProof.Rows L2 Evl
local macro_rules | `(tactic| walk_at "st") => `(tactic| simp only [L2.start, List.map_cons, List.map_nil, List.length_cons, List.length_nil, Nat.reduceAdd, Nat.reduceSub, List.replicate_succ, List.replicate_zero, List.cons_append, List.nil_append, cxOf, List.append_nil])
local macro_rules | `(tactic| walk_at "vc") => `(tactic| try simp only [tSeq, tAsg, tOp, tUn, tVar, tC, tNil, tCons, gName, rI, rI0, rU, tRet, tIfS, tNot, tAnd, tOr, tB, tTest, tCB, tCall, tAndV, tOrV, tNotV, tNext, tNever, tIf, tChain, tYes, tPart, tNoPart, tPar, tDrop, q_isi, q_vn, q_vb, q_vi, q_vs, kb1, kb2, kb3, kb4, kb5, kb6, kb7, kb8, q_int1, q_int2, q_min, q_max, q_repr, tLst, tTup, rEq, rNe, q_sii, q_sss, q_sbb, q_snn, q_sns, q_ssn, q_ix, q_sl, tSl, tBM, tBM0, q_app, q_pop, gSub, rSetL, L2.wipe, eq_self, decide_true, decide_false, tRevL,
  List.getElem?_cons_succ, List.getElem?_cons_zero, List.set_cons_succ, List.set_cons_zero, Option.some.injEq, exists_eq_left', exists_eq_left, V.int.injEq, V.bl.injEq, V.ref.injEq, V.str.injEq, List.cons.injEq, and_true, true_and, List.append_nil, List.nil_append, List.cons_append, exists_and_left, and_assoc, if_true, if_false, Bool.not_true, Bool.not_false, Bool.false_eq_true, Bool.true_eq_false, reduceIte, tRevL, tPar3, tRevT, tUnl, tCKw, forall_const, Bool.not_eq_true', decide_eq_true_eq, decide_eq_false_iff_not])
section
variable {P : Program} {w : World} {K : PySem.W.Frag} {mg : Str → Option Value} {base : Heap}
variable {a_is_integer a_is_number a_is_name a_are_rows a_texts a_needed a_fits a_is_of a_inner a_flat a_names_in a_bare a_named a_law_deal a_law_draw a_law_pick a_law_words a_law_kinds a_law_put a_law_ask a_law_count a_law_rows a_law_ask_text a_law_lines a_law_all_lines a_law_ask_of a_law_row_of a_law_deed a_law_begun a_law_alike a_law a_NoRow_init a_InvalidRow_init a_Put_init a_Put_eq a_Put_str a_If_init a_If_eq a_If_str a_Times_init a_Times_eq a_Times_str a_Stop_eq a_Stop_str a_Ask_init a_Ask_eq a_Ask_str a_Not_init a_Not_eq a_Not_str a_Program_init a_Program_str a_Sheet_init a_Sheet_drop a_Sheet_made a_Sheet_len a_Sheet_getitem a_Sheet_setitem a_Sheet_iadd a_NoRow a_InvalidRow a_Put a_If a_Times a_Stop a_Ask a_Not a_Row a_Test a_Program a_Sheet a_DEEDS a_SIGNS a_WORDS a_If_init_d0 a_Program_init_d0 a_Sheet_init_d0 : Addr} {d_is_integer d_is_number d_is_name d_are_rows d_texts d_needed d_fits d_is_of d_inner d_flat d_names_in d_bare d_named d_law_deal d_law_draw d_law_pick d_law_words d_law_kinds d_law_put d_law_ask d_law_count d_law_rows d_law_ask_text d_law_lines d_law_all_lines d_law_ask_of d_law_row_of d_law_deed d_law_begun d_law_alike d_law d_NoRow_init d_InvalidRow_init d_Put_init d_Put_eq d_Put_str d_If_init d_If_eq d_If_str d_Times_init d_Times_eq d_Times_str d_Stop_eq d_Stop_str d_Ask_init d_Ask_eq d_Ask_str d_Not_init d_Not_eq d_Not_str d_Program_init d_Program_str d_Sheet_init d_Sheet_drop d_Sheet_made d_Sheet_len d_Sheet_getitem d_Sheet_setitem d_Sheet_iadd : FuncData}
theorem ok_stop : RowM.ok .stop := by rw [RowM.ok]; trivial
theorem sm_stop : RowM.sm .stop := by rw [RowM.sm]; trivial
theorem oks_stop : RowM.oks [.stop] := by rw [RowM.oks, RowM.oks]; exact ⟨ok_stop, trivial⟩
theorem sms_stop : RowM.sms [.stop] := by rw [RowM.sms, RowM.sms]; exact ⟨sm_stop, trivial⟩
theorem deps_stop : RowM.deps [.stop] = 0 := by rw [RowM.deps, RowM.deps, RowM.dep]; rfl
theorem cnts_stop : RowM.cnts [.stop] = 1 := by rw [RowM.cnts, RowM.cnts, RowM.cnt]
theorem one_ok {r : RowM} (h : r.ok) : RowM.oks [r] := by rw [RowM.oks, RowM.oks]; exact ⟨h, trivial⟩
theorem one_sm {r : RowM} (h : r.sm) : RowM.sms [r] := by rw [RowM.sms, RowM.sms]; exact ⟨h, trivial⟩
theorem one_dep (r : RowM) : RowM.deps [r] = r.dep := by rw [RowM.deps, RowM.deps]; omega
theorem one_cnt (r : RowM) : RowM.cnts [r] = r.cnt := by rw [RowM.cnts, RowM.cnts]; omega
/-- the three rows that one is drawn of -/
theorem three {H : Hp} {v1 : V} {p1 p4 : Addr} {n d : Str} {g : List V} (h1 : RowT K H (.put n d g) v1) (h2 : RowT K H .stop (.ref p1)) (h3 : RowT K H (.times 2 [.stop]) (.ref p4)) (ok1 : RowM.ok (.put n d g)) (sm1 : RowM.sm (.put n d g)) {i : Int} (i0 : 0 ≤ i) (i1 : i < 3) :
    ∃ ro vo, atI [v1, .ref p1, .ref p4] i = some vo ∧ RowT K H ro vo ∧ ro.ok ∧ ro.sm ∧ ro.dep ≤ 1 ∧ ro.cnt ≤ 2 := by
  have hi : i = 0 ∨ i = 1 ∨ i = 2 := by omega
  rcases hi with rfl | rfl | rfl
  · exact ⟨_, v1, rfl, h1, ok1, sm1, by rw [RowM.dep]; omega, by rw [RowM.cnt]; omega⟩
  · exact ⟨_, .ref p1, rfl, h2, ok_stop, sm_stop, by rw [RowM.dep]; omega, by rw [RowM.cnt]; omega⟩
  · exact ⟨_, .ref p4, rfl, h3, by rw [RowM.ok]; exact ⟨by omega, oks_stop, by simp⟩, by rw [RowM.sm]; exact sms_stop, by rw [RowM.dep, deps_stop]; omega, by rw [RowM.cnt, cnts_stop]; omega⟩
theorem ne_said {H : Hp} {p q : Addr} {x y : Str} {Q : VK} (hp : H p = some (.tup [.str x, .str y])) (hq : H q = some (.tup [.str x, .str y])) (hx : PyData.canLay0 (.str x) = true) (hy : PyData.canLay0 (.str y) = true) (k : Q (.bl false) H) : rNeD K (.ref p) (.ref q) H Q := by
  have sh : SeqAt.shaped (.tuple [.str x, .str y]) = true := by
    unfold SeqAt.shaped
    rw [PyData.canLay0, PyData.canLayAll0, PyData.canLayAll0, PyData.canLayAll0, hx, hy, PyData.depth, PyData.depthAll, PyData.depthAll, PyData.depthAll, PyData.depth, PyData.depth]
    rfl
  refine ⟨.tuple [.str x, .str y], .tuple [.str x, .str y], .tup (st_of hp) (.cons (.str _) (.cons (.str _) .nil)), .tup (st_of hq) (.cons (.str _) (.cons (.str _) .nil)), sh, sh, ?_⟩
  rw [PyData.eqv, PyData.eqvAll, PyData.eqvAll, PyData.eqvAll, PyData.eqv, PyData.eqv]
  simpa using k
theorem ne_told {H : Hp} {p q : Addr} {x : Str} {i : Int} {Q : VK} (hp : H p = some (.tup [.str x, .int i])) (hq : H q = some (.tup [.str x, .int i])) (hx : PyData.canLay0 (.str x) = true) (k : Q (.bl false) H) : rNeD K (.ref p) (.ref q) H Q := by
  have sh : SeqAt.shaped (.tuple [.str x, .int i]) = true := by
    unfold SeqAt.shaped
    rw [PyData.canLay0, PyData.canLayAll0, PyData.canLayAll0, PyData.canLayAll0, hx, PyData.canLay0, PyData.depth, PyData.depthAll, PyData.depthAll, PyData.depthAll, PyData.depth, PyData.depth]
    rfl
  refine ⟨.tuple [.str x, .int i], .tuple [.str x, .int i], .tup (st_of hp) (.cons (.str _) (.cons (.int _) .nil)), .tup (st_of hq) (.cons (.str _) (.cons (.int _) .nil)), sh, sh, ?_⟩
  rw [PyData.eqv, PyData.eqvAll, PyData.eqvAll, PyData.eqvAll, PyData.eqv, PyData.eqv]
  simpa using k
/-- what is no row -/
theorem four (T : Txt w K mg a_is_integer a_is_number a_is_name a_are_rows a_texts a_needed a_fits a_is_of a_inner a_flat a_names_in a_bare a_named a_law_deal a_law_draw a_law_pick a_law_words a_law_kinds a_law_put a_law_ask a_law_count a_law_rows a_law_ask_text a_law_lines a_law_all_lines a_law_ask_of a_law_row_of a_law_deed a_law_begun a_law_alike a_law a_NoRow_init a_InvalidRow_init a_Put_init a_Put_eq a_Put_str a_If_init a_If_eq a_If_str a_Times_init a_Times_eq a_Times_str a_Stop_eq a_Stop_str a_Ask_init a_Ask_eq a_Ask_str a_Not_init a_Not_eq a_Not_str a_Program_init a_Program_str a_Sheet_init a_Sheet_drop a_Sheet_made a_Sheet_len a_Sheet_getitem a_Sheet_setitem a_Sheet_iadd a_NoRow a_InvalidRow a_Put a_If a_Times a_Stop a_Ask a_Not a_Row a_Test a_Program a_Sheet a_DEEDS a_SIGNS a_WORDS a_If_init_d0 a_Program_init_d0 a_Sheet_init_d0 d_is_integer d_is_number d_is_name d_are_rows d_texts d_needed d_fits d_is_of d_inner d_flat d_names_in d_bare d_named d_law_deal d_law_draw d_law_pick d_law_words d_law_kinds d_law_put d_law_ask d_law_count d_law_rows d_law_ask_text d_law_lines d_law_all_lines d_law_ask_of d_law_row_of d_law_deed d_law_begun d_law_alike d_law d_NoRow_init d_InvalidRow_init d_Put_init d_Put_eq d_Put_str d_If_init d_If_eq d_If_str d_Times_init d_Times_eq d_Times_str d_Stop_eq d_Stop_str d_Ask_init d_Ask_eq d_Ask_str d_Not_init d_Not_eq d_Not_str d_Program_init d_Program_str d_Sheet_init d_Sheet_drop d_Sheet_made d_Sheet_len d_Sheet_getitem d_Sheet_setitem d_Sheet_iadd) {A : ClsA} {H : Hp} {p : Addr} {xs : List V} {rs : List RowM} {us : List V} {u : V} (hp : H p = some (.lst xs)) (hP : ProgO K A a_Program H rs us u) {i : Int} (i0 : 0 ≤ i) (i1 : i < 4) :
    ∃ vo t, atI [V.non, .str "stop", .ref p, u] i = some vo ∧ (∀ H', Ex H H' → TyX K H' vo t) ∧ PySem.W.kitOne K t (.ref a_Row) = some false := by
  have hi : i = 0 ∨ i = 1 ∨ i = 2 ∨ i = 3 := by omega
  rcases hi with rfl | rfl | rfl | rfl
  · exact ⟨_, .type "NoneType", rfl, fun H' _ => .base .non, kitO3 T.kits 6 "NoneType" (by decide) (by decide)⟩
  · exact ⟨_, .type "str", rfl, fun H' _ => .base (.str _), kitO3 T.kits 6 "str" (by decide) (by decide)⟩
  · exact ⟨_, .type "list", rfl, fun H' e => .base (.lst (e _ _ hp)), kitO3 T.kits 6 "list" (by decide) (by decide)⟩
  · obtain ⟨a, dx, r, n, ys, rfl, h1, _⟩ := hP
    exact ⟨_, .ref a_Program, rfl, fun H' e => T.oc_Program.ty (e _ _ h1), T.kz_Program_Row⟩
theorem mkNil (T : Txt w K mg a_is_integer a_is_number a_is_name a_are_rows a_texts a_needed a_fits a_is_of a_inner a_flat a_names_in a_bare a_named a_law_deal a_law_draw a_law_pick a_law_words a_law_kinds a_law_put a_law_ask a_law_count a_law_rows a_law_ask_text a_law_lines a_law_all_lines a_law_ask_of a_law_row_of a_law_deed a_law_begun a_law_alike a_law a_NoRow_init a_InvalidRow_init a_Put_init a_Put_eq a_Put_str a_If_init a_If_eq a_If_str a_Times_init a_Times_eq a_Times_str a_Stop_eq a_Stop_str a_Ask_init a_Ask_eq a_Ask_str a_Not_init a_Not_eq a_Not_str a_Program_init a_Program_str a_Sheet_init a_Sheet_drop a_Sheet_made a_Sheet_len a_Sheet_getitem a_Sheet_setitem a_Sheet_iadd a_NoRow a_InvalidRow a_Put a_If a_Times a_Stop a_Ask a_Not a_Row a_Test a_Program a_Sheet a_DEEDS a_SIGNS a_WORDS a_If_init_d0 a_Program_init_d0 a_Sheet_init_d0 d_is_integer d_is_number d_is_name d_are_rows d_texts d_needed d_fits d_is_of d_inner d_flat d_names_in d_bare d_named d_law_deal d_law_draw d_law_pick d_law_words d_law_kinds d_law_put d_law_ask d_law_count d_law_rows d_law_ask_text d_law_lines d_law_all_lines d_law_ask_of d_law_row_of d_law_deed d_law_begun d_law_alike d_law d_NoRow_init d_InvalidRow_init d_Put_init d_Put_eq d_Put_str d_If_init d_If_eq d_If_str d_Times_init d_Times_eq d_Times_str d_Stop_eq d_Stop_str d_Ask_init d_Ask_eq d_Ask_str d_Not_init d_Not_eq d_Not_str d_Program_init d_Program_str d_Sheet_init d_Sheet_drop d_Sheet_made d_Sheet_len d_Sheet_getitem d_Sheet_setitem d_Sheet_iadd) {A : ClsA} {H : Hp} {x dx : Addr} {R : VK} {E : XK} (hx : H x = none) (hdx : H dx = none) (hne : dx ≠ x) (q : ∀ H2, Ex H H2 → ProgO K A a_Program H2 [] [] (.ref x) → R .non H2) : sp_Program_init K A a_Program [.ref x, .ref a_Program_init_d0] (upd (upd H dx (.own x)) x (.ins a_Program dx [])) R E :=
  mkProg hx hdx hne (.inr (T.S_Program_init_d0 _)) (by unfold RowOs; rfl) ⟨by rw [RowM.oks]; trivial, by rw [RowM.sms]; trivial, by rw [RowM.deps]; decide, by rw [RowM.cnts]; decide⟩ q
theorem RowT.ref {H : Hp} : ∀ {r : RowM} {v : V}, RowT K H r v → ∃ b, v = V.ref b
  | .stop, v, h => by unfold RowT at h; obtain ⟨a, h1, _⟩ := h; exact ⟨a, h1⟩
  | .put n d g, v, h => by unfold RowT at h; obtain ⟨a, q, h1, _⟩ := h; exact ⟨a, h1⟩
  | .times c rs, v, h => by unfold RowT at h; obtain ⟨a, q, vs, h1, _⟩ := h; exact ⟨a, h1⟩
  | .ifr t rs os, v, h => by unfold RowT at h; obtain ⟨a, u, q, x, vs, ws, h1, _⟩ := h; exact ⟨a, h1⟩
/-- the other row that a deed is handed: none, or a row and its model -/
def Oth (K : PySem.W.Frag) (A : ClsA) (CR x : Addr) (vo vr : V) (H : Hp) : Prop := (vo = .non ∧ ∃ t, (∀ H2, Ex H H2 → TyX K H2 vr t) ∧ PySem.W.kitOne K t (.ref CR) = some false) ∨
  ∃ ro b, vo = .ref b ∧ RowT K (delL H x) ro vo ∧ ro.ok ∧ ro.sm ∧ ro.dep ≤ 1 ∧ ro.cnt ≤ 2 ∧ RowO K A (delL H x) ro vr
theorem Oth.ex {K : PySem.W.Frag} {A : ClsA} {CR x : Addr} {vo vr : V} {H H' : Hp} (e : Ex H H') (h : Oth K A CR x vo vr H) : Oth K A CR x vo vr H' := by
  rcases h with ⟨h1, t, h2, h3⟩ | ⟨ro, b, h1, h2, h3, h4, h5, h6, h7⟩
  · exact .inl ⟨h1, t, fun H2 e2 => h2 H2 (e.trans e2), h3⟩
  · have e2 := delL_mono (Off.of (a := x) e)
    exact .inr ⟨ro, b, h1, h2.ex e2, h3, h4, h5, h6, h7.kp (Kp.of_ex e2)⟩
def NeOk (K : PySem.W.Frag) (v due : V) (H : Hp) : Prop := ∀ Q : VK, Q (.bl false) H → rNeD K v due H Q
theorem NeOk.non {K : PySem.W.Frag} {H : Hp} : NeOk K .non .non H := fun Q q => ⟨.none, .none, .non, .non, by decide +kernel, by decide +kernel, by rw [show PyData.eqv .none .none = true by decide +kernel]; exact q⟩
def Aft (K : PySem.W.Frag) (A : ClsA) (CS CP d L nm x : Addr) (nns : List Str) (rs0 : List RowM) (us0 : List V) (u : V) (mo2 : Addr) (due : V) : VK := fun v H2 => NeOk K v due H2 ∧ ∃ rs2 vs2 us2, StS K A CS CP d L nm x nns rs0 us0 u mo2 rs2 vs2 us2 H2 ∧ RowM.oks rs2 ∧ RowM.sms rs2 ∧ RowM.deps rs2 ≤ 2 ∧ RowM.cnts rs2 ≤ 11
theorem deed_mono {K : PySem.W.Frag} {A : ClsA} {CS CR x : Addr} {f i : Int} {u : V} {H : Hp} {Q Q2 : VK} {E E2 : XK} (h : sp_law_deed K A CS CR [.ref x, .int f, .int i, u] H Q E) (k : ∀ v H2, Q v H2 → Q2 v H2) : sp_law_deed K A CS CR [.ref x, .int f, .int i, u] H Q2 E2 := by
  obtain ⟨rs, vs, hS, hg, f0, h⟩ := h
  refine ⟨rs, vs, hS, hg, f0, ?_⟩
  rcases h with ⟨a, b, c⟩ | ⟨a, t, b, c, e⟩ | ⟨a, r, b, c⟩ | ⟨a, b, c, r, e, g⟩ | ⟨a, b, c, e⟩ | ⟨a, b, c, e⟩
  · exact .inl ⟨a, b, fun p H' e w => k _ _ (c p H' e w)⟩
  · exact .inr (.inl ⟨a, t, b, c, fun p H' e' w => k _ _ (e p H' e' w)⟩)
  · exact .inr (.inr (.inl ⟨a, r, b, fun H1 o S => k _ _ (c H1 o S)⟩))
  · exact .inr (.inr (.inr (.inl ⟨a, b, c, r, e, fun H1 o S => k _ _ (g H1 o S)⟩)))
  · exact .inr (.inr (.inr (.inr (.inl ⟨a, b, c, fun H1 o S => k _ _ (e H1 o S)⟩))))
  · exact .inr (.inr (.inr (.inr (.inr ⟨a, b, c, fun r p H' h1 h2 h3 => k _ _ (e r p H' h1 h2 h3)⟩))))
theorem RowTs.take {K : PySem.W.Frag} {H : Hp} : ∀ {rs : List RowM} {vs : List V} (i : Nat), RowTs K H rs vs → RowTs K H (rs.take i) (vs.take i)
  | rs, vs, 0, h => by rw [List.take_zero, List.take_zero, RowTs]
  | [], vs, i + 1, h => by rw [RowTs] at h; subst h; rw [List.take_nil, List.take_nil, RowTs]
  | r :: rs, vs, i + 1, h => by
    rw [RowTs] at h
    obtain ⟨v, ws, rfl, h1, h2⟩ := h
    rw [List.take_succ_cons, List.take_succ_cons, RowTs]
    exact ⟨v, _, rfl, h1, RowTs.take i h2⟩
theorem RowTs.drop {K : PySem.W.Frag} {H : Hp} : ∀ {rs : List RowM} {vs : List V} (i : Nat), RowTs K H rs vs → RowTs K H (rs.drop i) (vs.drop i)
  | rs, vs, 0, h => by rw [List.drop_zero, List.drop_zero]; exact h
  | [], vs, i + 1, h => by rw [RowTs] at h; subst h; rw [List.drop_nil, List.drop_nil, RowTs]
  | r :: rs, vs, i + 1, h => by
    rw [RowTs] at h
    obtain ⟨v, ws, rfl, h1, h2⟩ := h
    exact RowTs.drop i h2
structure Gd (rs : List RowM) (n m : Nat) : Prop where
  ok : RowM.oks rs
  sm : RowM.sms rs
  dp : RowM.deps rs ≤ n
  cn : RowM.cnts rs ≤ m
theorem Gd.app {as bs : List RowM} {n m l : Nat} (a : Gd as n m) (b : Gd bs n l) : Gd (as ++ bs) n (m + l) := ⟨oks_app a.ok b.ok, sms_app a.sm b.sm, by rw [deps_app]; exact Nat.max_le.mpr ⟨a.dp, b.dp⟩, by rw [cnts_app]; exact Nat.add_le_add a.cn b.cn⟩
theorem oks_sub : ∀ {as bs : List RowM}, RowM.oks (as ++ bs) → RowM.oks as ∧ RowM.oks bs
  | [], bs, h => ⟨by rw [RowM.oks]; trivial, h⟩
  | a :: as, bs, h => by rw [List.cons_append, RowM.oks] at h; rw [RowM.oks]; exact ⟨⟨h.1, (oks_sub h.2).1⟩, (oks_sub h.2).2⟩
theorem sms_sub : ∀ {as bs : List RowM}, RowM.sms (as ++ bs) → RowM.sms as ∧ RowM.sms bs
  | [], bs, h => ⟨by rw [RowM.sms]; trivial, h⟩
  | a :: as, bs, h => by rw [List.cons_append, RowM.sms] at h; rw [RowM.sms]; exact ⟨⟨h.1, (sms_sub h.2).1⟩, (sms_sub h.2).2⟩
/-- the rows without the one at i -/
theorem Gd.gap {rs : List RowM} {n m : Nat} (g : Gd rs n m) (i : Nat) : ∃ k l, k + l ≤ m ∧ Gd (rs.take i) n k ∧ Gd (rs.drop (i + 1)) n l := by
  have e1 : rs.take i ++ rs.drop i = rs := List.take_append_drop i rs
  have e2 : (rs.drop i).take 1 ++ (rs.drop i).drop 1 = rs.drop i := List.take_append_drop 1 _
  rw [List.drop_drop] at e2
  have e3 := e1
  rw [← e2] at e3
  have h1 := g.ok
  have h2 := g.sm
  have h3 := g.dp
  have h4 := g.cn
  rw [← e3] at h1 h2 h3 h4
  rw [deps_app, deps_app] at h3
  rw [cnts_app, cnts_app] at h4
  have a1 := oks_sub h1
  have a2 := oks_sub a1.2
  have b1 := sms_sub h2
  have b2 := sms_sub b1.2
  exact ⟨RowM.cnts (rs.take i), RowM.cnts (rs.drop (i + 1)), by omega, ⟨a1.1, b1.1, by omega, Nat.le_refl _⟩, ⟨a2.2, b2.2, by omega, Nat.le_refl _⟩⟩
section
variable {K : PySem.W.Frag} {A : ClsA} {CS CP CR d L nm x mo p : Addr} {nns : List Str} {rs0 rs : List RowM} {us0 vs us : List V} {u vr vo : V} {H : Hp} {f i : Int} {E : XK} {m : Nat}
theorem StS.off_sh (S : StS K A CS CP d L nm x nns rs0 us0 u mo rs vs us H) (hp : H p = none) : p ≠ x := fun e => by
  obtain ⟨a, dx, q, ea, h1, _⟩ := S.S
  cases ea
  rw [e, h1] at hp
  cases hp
theorem dA (S : StS K A CS CP d L nm x nns rs0 us0 u mo rs vs us H) (g : Gd rs 2 11) (hp : H p = some (.tup [.str "none", .int i])) (f0 : 0 < f) (hi : i < 0 ∨ (rs.length : Int) ≤ i) : sp_law_deed K A CS CR [.ref x, .int f, .int i, vr] H (Aft K A CS CP d L nm x nns rs0 us0 u mo (.ref p)) E :=
  ⟨rs, us, S.S, ⟨g.ok, g.sm, by have := g.dp; omega, by have := g.cn; omega⟩, by omega, .inl ⟨f0, hi, fun q H' e w => ⟨fun Q k => ne_told w (e _ _ hp) (by decide +kernel) k, rs, vs, us, S.ex e, g.ok, g.sm, g.dp, g.cn⟩⟩⟩
theorem dB (S : StS K A CS CP d L nm x nns rs0 us0 u mo rs vs us H) (g : Gd rs 2 11) (hp : H p = some (.tup [.str "rows", .str "rows"])) (hf : f = 0 ∨ f = 1 ∧ 0 ≤ i ∧ i < rs.length) {t : Value} (ty : TyX K H vr t) (hk : PySem.W.kitOne K t (.ref CR) = some false) : sp_law_deed K A CS CR [.ref x, .int f, .int i, vr] H (Aft K A CS CP d L nm x nns rs0 us0 u mo (.ref p)) E :=
  ⟨rs, us, S.S, ⟨g.ok, g.sm, by have := g.dp; omega, by have := g.cn; omega⟩, by omega, .inr (.inl ⟨hf, t, ty, hk, fun q H' e w => ⟨fun Q k => ne_said w (e _ _ hp) (by decide +kernel) (by decide +kernel) k, rs, vs, us, S.ex e, g.ok, g.sm, g.dp, g.cn⟩⟩)⟩
theorem dC {ro : RowM} (S : StS K A CS CP d L nm x nns rs0 us0 u mo rs vs us H) (g : Gd rs 2 9) (g2 : Gd [ro] 2 2) (hp : delL H x p = some (.lst (vs ++ [vo]))) (o : p ≠ d ∧ p ≠ L) (hT : RowT K (delL H x) ro vo) (hO : RowO K A (delL H x) ro vr) : sp_law_deed K A CS CR [.ref x, .int 0, .int i, vr] H (Aft K A CS CP d L nm x nns rs0 us0 u p .non) E :=
  ⟨rs, us, S.S, ⟨g.ok, g.sm, by have := g.dp; omega, by have := g.cn; omega⟩, by omega, .inr (.inr (.inl ⟨rfl, ro, hO, fun H1 e hS => ⟨NeOk.non, rs ++ [ro], vs ++ [vo], us ++ [vr], S.off e hp (S.T.app (.one hT)) o.1 o.2 hS, (g.app g2).ok, (g.app g2).sm, (g.app g2).dp, (g.app g2).cn⟩⟩))⟩
theorem dD {ro : RowM} (S : StS K A CS CP d L nm x nns rs0 us0 u mo rs vs us H) (g : Gd rs 2 9) (g2 : Gd [ro] 2 2) (i0 : 0 ≤ i) (i1 : i < rs.length) (hp : delL H x p = some (.lst (vs.take i.toNat ++ [vo] ++ vs.drop (i.toNat + 1)))) (o : p ≠ d ∧ p ≠ L) (hT : RowT K (delL H x) ro vo) (hO : RowO K A (delL H x) ro vr) : sp_law_deed K A CS CR [.ref x, .int 1, .int i, vr] H (Aft K A CS CP d L nm x nns rs0 us0 u p .non) E := by
  obtain ⟨k, l, hkl, ga, gb⟩ := g.gap i.toNat
  have gg := (ga.app g2).app gb
  exact ⟨rs, us, S.S, ⟨g.ok, g.sm, by have := g.dp; omega, by have := g.cn; omega⟩, by omega, .inr (.inr (.inr (.inl ⟨rfl, i0, i1, ro, hO, fun H1 e hS => ⟨NeOk.non, _, _, _, S.off e hp (((S.T.take _).app (.one hT)).app (S.T.drop _)) o.1 o.2 hS, gg.ok, gg.sm, gg.dp, by have := gg.cn; omega⟩⟩)))⟩
theorem dE (S : StS K A CS CP d L nm x nns rs0 us0 u mo rs vs us H) (g : Gd rs 2 11) (i0 : 0 ≤ i) (i1 : i < rs.length) (hp : delL H x p = some (.lst (vs.take i.toNat ++ vs.drop (i.toNat + 1)))) (o : p ≠ d ∧ p ≠ L) : sp_law_deed K A CS CR [.ref x, .int 2, .int i, vr] H (Aft K A CS CP d L nm x nns rs0 us0 u p .non) E := by
  obtain ⟨k, l, hkl, ga, gb⟩ := g.gap i.toNat
  have gg := ga.app gb
  exact ⟨rs, us, S.S, ⟨g.ok, g.sm, by have := g.dp; omega, by have := g.cn; omega⟩, by omega, .inr (.inr (.inr (.inr (.inl ⟨rfl, i0, i1, fun H1 e hS => ⟨NeOk.non, _, _, _, S.off e hp ((S.T.take _).app (S.T.drop _)) o.1 o.2 hS, gg.ok, gg.sm, gg.dp, by have := gg.cn; omega⟩⟩))))⟩
theorem dF {r : RowM} (S : StS K A CS CP d L nm x nns rs0 us0 u mo rs vs us H) (g : Gd rs 2 11) (i0 : 0 ≤ i) (i1 : i < rs.length) (hr : rs[i.toNat]? = some r) (hp : H p = some (.tup [.str "told", .str r.text])) (hs : PyData.canLay0 (.str r.text) = true) (f3 : 2 < f) : sp_law_deed K A CS CR [.ref x, .int f, .int i, vr] H (Aft K A CS CP d L nm x nns rs0 us0 u mo (.ref p)) E :=
  ⟨rs, us, S.S, ⟨g.ok, g.sm, by have := g.dp; omega, by have := g.cn; omega⟩, by omega, .inr (.inr (.inr (.inr (.inr ⟨f3, i0, i1, fun r2 q H' h2 e w => by
    cases hr.symm.trans h2
    exact ⟨fun Q k => ne_said w (e _ _ hp) (by decide +kernel) hs k, rs, vs, us, S.ex e, g.ok, g.sm, g.dp, g.cn⟩⟩))))⟩
end
def sp_law (K : PySem.W.Frag) : Sp := fun vs H Q _ => ∃ (a : Addr) (ns : List Int), vs = [.ref a] ∧ SqL K H a (ns.map V.int) ∧ ns.length ≤ 63 ∧ ∀ H', Q (.bl true) H'
theorem ok_law (T : Txt w K mg a_is_integer a_is_number a_is_name a_are_rows a_texts a_needed a_fits a_is_of a_inner a_flat a_names_in a_bare a_named a_law_deal a_law_draw a_law_pick a_law_words a_law_kinds a_law_put a_law_ask a_law_count a_law_rows a_law_ask_text a_law_lines a_law_all_lines a_law_ask_of a_law_row_of a_law_deed a_law_begun a_law_alike a_law a_NoRow_init a_InvalidRow_init a_Put_init a_Put_eq a_Put_str a_If_init a_If_eq a_If_str a_Times_init a_Times_eq a_Times_str a_Stop_eq a_Stop_str a_Ask_init a_Ask_eq a_Ask_str a_Not_init a_Not_eq a_Not_str a_Program_init a_Program_str a_Sheet_init a_Sheet_drop a_Sheet_made a_Sheet_len a_Sheet_getitem a_Sheet_setitem a_Sheet_iadd a_NoRow a_InvalidRow a_Put a_If a_Times a_Stop a_Ask a_Not a_Row a_Test a_Program a_Sheet a_DEEDS a_SIGNS a_WORDS a_If_init_d0 a_Program_init_d0 a_Sheet_init_d0 d_is_integer d_is_number d_is_name d_are_rows d_texts d_needed d_fits d_is_of d_inner d_flat d_names_in d_bare d_named d_law_deal d_law_draw d_law_pick d_law_words d_law_kinds d_law_put d_law_ask d_law_count d_law_rows d_law_ask_text d_law_lines d_law_all_lines d_law_ask_of d_law_row_of d_law_deed d_law_begun d_law_alike d_law d_NoRow_init d_InvalidRow_init d_Put_init d_Put_eq d_Put_str d_If_init d_If_eq d_If_str d_Times_init d_Times_eq d_Times_str d_Stop_eq d_Stop_str d_Ask_init d_Ask_eq d_Ask_str d_Not_init d_Not_eq d_Not_str d_Program_init d_Program_str d_Sheet_init d_Sheet_drop d_Sheet_made d_Sheet_len d_Sheet_getitem d_Sheet_setitem d_Sheet_iadd) : FnOk P w K mg base CX0 90 a_law d_law ["_law_script"] (sp_law K) := by
  have G_law_deal := ok_law_deal (P := P) (w := w) (base := base) T
  have G_law_words := ok_law_words (P := P) (w := w) (base := base) T
  have G_law_draw := ok_law_draw (P := P) (w := w) (base := base) T
  have G_law_put := ok_law_put (P := P) (w := w) (base := base) T
  have G_law_deed := ok_law_deed (P := P) (w := w) (base := base) T
  have G_law_begun := ok_law_begun (P := P) (w := w) (base := base) T
  have G_law_alike := ok_law_alike (P := P) (w := w) (base := base) T
  have G_law_rows := ok_law_rows (P := P) (w := w) (base := base) T 3
  have G_law_count := ok_law_count (P := P) (w := w) (base := base) T 5
  have G_law_lines := ok_law_lines (P := P) (w := w) (base := base) T 5 (by decide)
  have G_law_row_of := ok_law_row_of (P := P) (w := w) (base := base) T 5
  have G_Program_init := ok_Program_init0 (P := P) (w := w) (base := base) T
  have G_Sheet_init := ok_Sheet_init0 (P := P) (w := w) (base := base) T
  have G_Sheet_made := ok_Sheet_made (P := P) (w := w) (mg := mg) (base := base) T
  have HS := HSp T
  have GS := GSp (P := P) (w := w) (mg := mg) (base := base) T
  have HLs := HLs T
  have GLs := GLs (P := P) (w := w) (mg := mg) (base := base) T
  refine T.F_law.ok sc_law (fun vs H Q E h => ?_) (fun cdv A outer s H vs Q E hr h => ?_)
  · obtain ⟨a, ns, rfl, _⟩ := h
    rfl
  obtain ⟨a, ns, rfl, hS, hlen, q⟩ := h
  refine ⟨_, (pss_cons (ps_set (i := 1) sc_law.nd rfl (by first | exact .inl rfl | exact .inr rfl) (pe_call G_law_deal (hr.mono (by omega)) (by rfl) T.g_law_deal T.F_law_deal.kp T.b_law_deal .nil pass0 (pa_cons (pv 0) (pa_cons pe_int pa_nil))))
      (pss_cons (ps_set (i := 2) sc_law.nd rfl (by first | exact .inl rfl | exact .inr rfl) (pe_call G_law_words (hr.mono (by omega)) (by rfl) T.g_law_words T.F_law_words.kp T.b_law_words .nil pass0 (pa_cons (pv 1) (pa_cons (pe_op op_add pe_int (pe_call G_law_draw (hr.mono (by omega)) (by rfl) T.g_law_draw T.F_law_draw.kp T.b_law_draw .nil pass0 (pa_cons (pv 1) (pa_cons pe_int pa_nil)))) pa_nil))))
      (pss_cons (ps_set (i := 3) sc_law.nd rfl (by first | exact .inl rfl | exact .inr rfl) (pe_call G_law_rows (hr.mono (by omega)) (by rfl) T.g_law_rows T.F_law_rows.kp T.b_law_rows .nil pass0 (pa_cons (pv 1) (pa_cons (pv 2) (pa_cons pe_int (pa_cons pe_int (pa_cons pe_int pa_nil)))))))
      (pss_cons (ps_setLc (i := 4) (own := [("_law_one", 17)]) (g := gName 17) (by rfl) sc_law.nd rfl rfl (sw_true rfl rfl rfl (by decide +kernel)) (pi_list (pv 3)) (blkOk_by (own := [("_law_one", 17)]) (N := N_law) (sc := defScope s_law) (by decide +kernel)) (fun _ _ _ _ _ => (pg_name (i := 17) sc_law.nd rfl (by first | exact .inl rfl | exact .inr rfl))) (fun _ _ _ _ _ => pts_nil) (fun _ _ _ _ _ => (pe_call G_law_row_of (hr.mono (by omega)) (by rfl) T.g_law_row_of T.F_law_row_of.kp T.b_law_row_of .nil pass0 (pa_cons (pv 17) pa_nil))))
      (pss_cons (ps_par (i := 5) (j := 6) (by rfl) sc_law.nd rfl rfl (by decide) rfl rfl (pa_cons (pe_make T.M_Sheet G_Sheet_init (hr.mono (by omega)) (by rfl) T.g_Sheet T.b_Sheet_init .nil pass0 (pa_cons (pv 4) pa_nil)) (pa_cons (pe_make T.M_Program G_Program_init (hr.mono (by omega)) (by rfl) T.g_Program T.b_Program_init .nil pass0 (pa_cons (pv 4) pa_nil)) pa_nil)) (by rfl))
      (pss_cons (ps_expr (pe_bm PySem.F.plainAttrs_list PySem.F.slot_list_append PySem.F.type_list_append mt_appendM (pv 4) (pa_cons (pe_new0 T.N_Stop (by rfl) T.g_Stop) pa_nil)))
      (pss_cons (ps_par (i := 7) (j := 8) (by rfl) sc_law.nd rfl rfl (by decide) rfl rfl (pa_cons (pe_methS0 (pv 5) T.oc_Sheet.cl T.mm_Sheet_made G_Sheet_made (hr.mono (by omega)) (fun σ => passAt takes0 σ)) (pa_cons (pe_callTy (call_strO HS GS (hr.mono (by omega)) pass0) (by rfl) T.z_str (by decide +kernel) (pa_cons (pv 6) pa_nil)) pa_nil)) (by rfl))
      (Evl.pss_cut (ps_for PassesOwn.never rfl (pi_range1 (by rfl) T.z_range (pa_cons (pe_call G_law_draw (hr.mono (by omega)) (by rfl) T.g_law_draw T.F_law_draw.kp T.b_law_draw .nil pass0 (pa_cons (pv 1) (pa_cons pe_int pa_nil))) pa_nil)) (pg_name (i := 9) sc_law.nd rfl (by first | exact .inl rfl | exact .inr rfl))
      (pss_cons (ps_par (i := 10) (j := 11) (by rfl) sc_law.nd rfl rfl (by decide) rfl rfl (pa_cons (pe_call G_law_draw (hr.mono (by omega)) (by rfl) T.g_law_draw T.F_law_draw.kp T.b_law_draw .nil pass0 (pa_cons (pv 1) (pa_cons pe_int pa_nil))) (pa_cons (pe_op op_sub (pe_call G_law_draw (hr.mono (by omega)) (by rfl) T.g_law_draw T.F_law_draw.kp T.b_law_draw .nil pass0 (pa_cons (pv 1) (pa_cons (pe_op op_add (pe_callB call_len_seq (by rfl) T.z_len (by decide +kernel) (pa_cons (pv 3) pa_nil)) pe_int) pa_nil))) pe_int) pa_nil)) (by rfl))
      (pss_cons (ps_set (i := 12) sc_law.nd rfl (by first | exact .inl rfl | exact .inr rfl) (pe_ix ix_listM (pe_lst (pa_cons (pe_call G_law_put (hr.mono (by omega)) (by rfl) T.g_law_put T.F_law_put.kp T.b_law_put .nil pass0 (pa_cons (pv 1) (pa_cons (pv 2) (pa_cons pe_int pa_nil)))) (pa_cons (pe_tup (pa_cons pe_str pa_nil)) (pa_cons (pe_tup (pa_cons pe_str (pa_cons pe_int (pa_cons (pe_tup (pa_cons (pe_tup (pa_cons pe_str pa_nil)) pa_nil)) pa_nil)))) pa_nil)))) (pe_call G_law_draw (hr.mono (by omega)) (by rfl) T.g_law_draw T.F_law_draw.kp T.b_law_draw .nil pass0 (pa_cons (pv 1) (pa_cons pe_int pa_nil))) (fun _ _ => rfl)))
      (pss_cons (ps_par (i := 13) (j := 14) (by rfl) sc_law.nd rfl rfl (by decide) rfl rfl (pa_cons (pe_call G_law_row_of (hr.mono (by omega)) (by rfl) T.g_law_row_of T.F_law_row_of.kp T.b_law_row_of .nil pass0 (pa_cons (pv 12) pa_nil)) (pa_cons pe_non pa_nil)) (by rfl))
      (Evl.pss_cut (ps_if (pt_cmpR op_eq (pe_call G_law_draw (hr.mono (by omega)) (by rfl) T.g_law_draw T.F_law_draw.kp T.b_law_draw .nil pass0 (pa_cons (pv 1) (pa_cons pe_int pa_nil))) pe_int (nomark _))
      (pss_one (ps_par (i := 13) (j := 12) (by rfl) sc_law.nd rfl rfl (by decide) rfl rfl (pa_cons (pe_ix ix_listM (pe_lst (pa_cons pe_non (pa_cons pe_str (pa_cons (pe_lst (pa_cons (pe_new0 T.N_Stop (by rfl) T.g_Stop) pa_nil)) (pa_cons (pe_make0 T.M_Program G_Program_init (dvs := [V.ref a_Program_init_d0]) (hr.mono (by omega)) (by rfl) T.g_Program T.bd_Program_init (.cons rfl .nil) pass0) pa_nil))))) (pe_call G_law_draw (hr.mono (by omega)) (by rfl) T.g_law_draw T.F_law_draw.kp T.b_law_draw .nil pass0 (pa_cons (pv 1) (pa_cons pe_int pa_nil))) (fun _ _ => rfl)) (pa_cons pe_non pa_nil)) (by rfl)))
      pss_nil)
      (Evl.pss_cut (ps_if (PW.pt (pw_and (pt_cmpR op_lt (pv 10) pe_int (nomark _)) (pw_and1 (pt_cmpR op_gt (pe_callB (cr_sum rfl) (by rfl) T.z_sum (by decide +kernel) (pa_cons (pe_lc (own := [("_law_one", 17)]) (g := gName 17) (by rfl) sc_law.nd (pi_list (pv 3)) (blkOk_by (own := [("_law_one", 17)]) (N := N_law) (sc := defScope s_law) (by decide +kernel)) (fun _ _ _ _ _ => (pg_name (i := 17) sc_law.nd rfl (by first | exact .inl rfl | exact .inr rfl))) (fun _ _ _ _ _ => pts_nil) (fun _ _ _ _ _ => (pe_call G_law_count (hr.mono (by omega)) (by rfl) T.g_law_count T.F_law_count.kp T.b_law_count .nil pass0 (pa_cons (pv 17) pa_nil)))) pa_nil)) pe_int (nomark _)))))
      (pss_one (ps_set (i := 10) sc_law.nd rfl (by first | exact .inl rfl | exact .inr rfl) pe_int))
      pss_nil)
      (Evl.pss_cut (ps_set (i := 15) sc_law.nd rfl (by first | exact .inl rfl | exact .inr rfl) (pe_chain op_le op_lt pe_int (pv 11) (pe_callB call_len_seq (by rfl) T.z_len (by decide +kernel) (pa_cons (pv 3) pa_nil))))
      (Evl.pss_cut (ps_if (PW.pt (pw_and (pt_cmpR op_gt (pv 10) pe_int (nomark _)) (pw_and1 (pt_not (pt_val (pv 15))))))
      (pss_one (ps_set (i := 14) sc_law.nd rfl (by first | exact .inl rfl | exact .inr rfl) (pe_tup (pa_cons pe_str (pa_cons (pv 11) pa_nil)))))
      (pss_one (ps_if (PW.pt (pw_and (pt_cmpR op_lt (pv 10) pe_int (nomark _)) (pw_and1 (pt_cmpR op_isN (pv 12) pe_non (nomark _)))))
      (pss_one (ps_set (i := 14) sc_law.nd rfl (by first | exact .inl rfl | exact .inr rfl) (pe_tup (pa_cons pe_str (pa_cons pe_str pa_nil)))))
      (pss_one (ps_if (pt_cmpR op_eq (pv 10) pe_int (nomark _))
      (pss_one (ps_set (i := 3) sc_law.nd rfl (by first | exact .inl rfl | exact .inr rfl) (pe_op op_cat (pv 3) (pe_lst (pa_cons (pv 12) pa_nil)))))
      (pss_one (ps_if (pt_cmpR op_eq (pv 10) pe_int (nomark _))
      (pss_one (ps_set (i := 3) sc_law.nd rfl (by first | exact .inl rfl | exact .inr rfl) (pe_op op_cat (pe_op op_cat (pe_slice sl_listM (pv 3) po_none (po_some (pv 11))) (pe_lst (pa_cons (pv 12) pa_nil))) (pe_slice sl_listM (pv 3) (po_some (pe_op op_add (pv 11) pe_int)) po_none))))
      (pss_one (ps_if (pt_cmpR op_eq (pv 10) pe_int (nomark _))
      (pss_one (ps_set (i := 3) sc_law.nd rfl (by first | exact .inl rfl | exact .inr rfl) (pe_op op_cat (pe_slice sl_listM (pv 3) po_none (po_some (pv 11))) (pe_slice sl_listM (pv 3) (po_some (pe_op op_add (pv 11) pe_int)) po_none))))
      (pss_one (ps_set (i := 14) sc_law.nd rfl (by first | exact .inl rfl | exact .inr rfl) (pe_tup (pa_cons pe_str (pa_cons (pe_bm PySem.F.plainAttrs_str PySem.F.slot_str_join PySem.F.type_str_join mt_join pe_str (pa_cons (pe_call G_law_lines (hr.mono (by omega)) (by rfl) T.g_law_lines T.F_law_lines.kp T.b_law_lines .nil pass0 (pa_cons (pe_ix ix_listM (pv 3) (pv 11) (fun _ _ => rfl)) pa_nil)) pa_nil)) pa_nil))))))))))))))
      (pss_cons (ps_if (pt_cmpR (op_neD hr.units) (pe_call G_law_deed (hr.mono (by omega)) (by rfl) T.g_law_deed T.F_law_deed.kp T.b_law_deed .nil pass0 (pa_cons (pv 5) (pa_cons (pv 10) (pa_cons (pv 11) (pa_cons (pv 13) pa_nil))))) (pv 14) (nomark _))
      (pss_one (ps_ret pe_bl))
      pss_nil)
      (pss_one (ps_if (pt_not (pt_val (pe_call G_law_alike (hr.mono (by omega)) (by rfl) T.g_law_alike T.F_law_alike.kp T.b_law_alike .nil pass0 (pa_cons (pv 5) (pa_cons (pv 3) pa_nil)))))
      (pss_one (ps_ret pe_bl))
      pss_nil)))))))))))
      (Evl.pss_cut (ps_for PassesOwn.never rfl (pi_tup (pe_tup (pa_cons pe_non (pa_cons pe_int (pa_cons pe_str (pa_cons (pe_lst (pa_cons (pe_new0 T.N_Stop (by rfl) T.g_Stop) (pa_cons pe_int pa_nil))) (pa_cons (pe_tup (pa_cons pe_non pa_nil)) (pa_cons (pv 7) (pa_cons (pe_new0 T.N_Stop (by rfl) T.g_Stop) pa_nil))))))))) (pg_name (i := 16) sc_law.nd rfl (by first | exact .inl rfl | exact .inr rfl))
      (pss_one (ps_if (pt_cmpR (op_neD hr.units) (pe_call G_law_begun (hr.mono (by omega)) (by rfl) T.g_law_begun T.F_law_begun.kp T.b_law_begun .nil pass0 (pa_cons (pv 16) pa_nil)) pe_str (nomark _))
      (pss_one (ps_ret pe_bl))
      pss_nil)))
      (pss_one (ps_ret (pe_and (pe_cmpR op_eq (pe_callTy (call_strO HS GS (hr.mono (by omega)) pass0) (by rfl) T.z_str (by decide +kernel) (pa_cons (pv 7) pa_nil)) (pv 8) (nomark _)) (pe_one (pe_cmpR op_eq (pe_callB (call_lenO HLs GLs (hr.mono (by omega)) pass0) (by rfl) T.z_len (by decide +kernel) (pa_cons (pe_make0 T.M_Sheet G_Sheet_init (dvs := [V.ref a_Sheet_init_d0]) (hr.mono (by omega)) (by rfl) T.g_Sheet T.bd_Sheet_init (.cons rfl .nil) pass0) pa_nil)) pe_int (nomark _))))))))))))))), ?_⟩
  walk_at "st"
  walk_at "vc"
  refine ⟨ns, hS, hlen, by decide, by decide, fun d L H1 e1 D1 => ?_⟩
  refine ⟨L, D1, by decide, by decide, fun g H2 g0 g1 M2 => ⟨g, rfl, ?_⟩⟩
  refine ⟨L, M2.dl, by omega, by omega, fun nm nns H3 M3 hn0 nd nL hnm hnl hnw => ?_⟩
  have N3 : Names d L nm nns H3 := ⟨hnm, nd, nL, by omega, by omega, hnw⟩
  have D3 := M3.dl
  clear M3 hnm M2 D1 e1
  refine ⟨L, nns, D3, N3, by decide, by decide, by decide, by decide, by decide, by decide, fun l0 rs0 vs0 H4 M4 hl0 w0 T0 ok0 sm0 dep0 cnt0 => ?_⟩
  have ol := D3.off hl0
  have D4 := M4.dl
  have N4 := N3.mv M4
  have gd0 : GdP rs0 := ⟨ok0, sm0, by omega, by omega⟩
  have c0 : RowM.cnts rs0 ≤ 4 := by omega
  have dp0 : RowM.deps rs0 ≤ 2 := by omega
  clear M4 N3 D3 hl0 ok0 sm0 dep0 cnt0
  have hvl := T0.len
  have hcl := cnts_len rs0
  refine ⟨_, rfl, l0, rfl, ⟨_, sq_of w0⟩, fun D1 hD1 => ?_⟩
  refine lc_it (walk_list (xs := vs0)) (fun i H2 => ∃ us, H2 D1 = some (.lst us) ∧ us.length = i ∧ RowOs K ⟨a_Put, a_If, a_Times, a_Stop, a_Ask, a_Not⟩ H2 (rs0.take i) us ∧ Ex H4 H2) ⟨[], upd_same, rfl, by rw [List.take_zero, RowOs], Ex.new hD1⟩ (fun i H' _ hP => sq_of (hP.choose_spec.2.2.2 _ _ w0)) (fun j u H6 H7 hj hP y => ?_) (fun H6 hP => ?_)
  · obtain ⟨rfl, hv2⟩ := y
    obtain ⟨us, g1, g2, g3, g4⟩ := hP
    obtain ⟨r, hr2, hrT⟩ := T0.at_ hv2
    obtain ⟨y1, y2, y3, y4⟩ := gd_at gd0 hr2
    walk_at "vc"
    refine ⟨r, hrT.ex g4, y1, y2, by omega, fun u1 H8 e8 hu _ => ?_⟩
    refine ⟨us, e8 _ _ g1, sz_lt (by omega), us ++ [u1], upd_same, by rw [List.length_append, g2]; rfl, ?_, (g4.trans e8).mut hD1⟩
    have kpl : Kp H8 (upd H8 D1 (.lst (us ++ [u1]))) := Kp.updL (e8 _ _ g1)
    rw [List.take_add_one, hr2]
    exact RowOs.snoc ((g3.ex e8).kp kpl) (hu.kp kpl)
  obtain ⟨us0, g1, g2, g3, g4⟩ := hP
  rw [hvl, List.take_length] at g3
  have nD := D4.off hD1
  have nl : l0 ≠ D1 := fun e => by rw [e, hD1] at w0; cases w0
  unfold tMake
  walk_at "vc"
  intro x dx hx hdx hne
  show sp_Sheet_init K ⟨a_Put, a_If, a_Times, a_Stop, a_Ask, a_Not⟩ a_Sheet [V.ref x, V.ref D1] _ _ _
  refine mkSheet hx hdx hne (.inl g1) g3 (by omega) fun H8 e8 S8 => ⟨rfl, ?_⟩
  have k8 := ex_del e8 hx
  intro x2 dx2 hx2 hdx2 hne2
  show sp_Program_init K ⟨a_Put, a_If, a_Times, a_Stop, a_Ask, a_Not⟩ a_Program [V.ref x2, V.ref D1] _ _ _
  refine mkProg hx2 hdx2 hne2 (.inl (e8 _ _ g1)) (g3.ex e8) gd0 fun H9 e9 P9 => ⟨rfl, .inl ⟨rfl, _, sq_of (e9 _ _ (e8 _ _ g1))⟩, ?_⟩
  intro x5 dx5 hx5 hdx5 hne5
  have e10 := mk_ex (o1 := .own x5) (o2 := .ins a_Stop dx5 []) hx5 hdx5 hne5
  refine ⟨us0, e10 _ _ (e9 _ _ (e8 _ _ g1)), sz_lt (by have := g3.len; omega), ?_⟩
  have kpl : Kp (upd (upd H9 dx5 (.own x5)) x5 (.ins a_Stop dx5 [])) (upd (upd (upd H9 dx5 (.own x5)) x5 (.ins a_Stop dx5 [])) D1 (.lst (us0 ++ [.ref x5]))) := Kp.updL (e10 _ _ (e9 _ _ (e8 _ _ g1)))
  have e4 : Ex H4 (upd (upd (upd H9 dx5 (.own x5)) x5 (.ins a_Stop dx5 [])) D1 (.lst (us0 ++ [.ref x5]))) := (g4.trans (e8.trans (e9.trans e10))).mut hD1
  have S11 := ((S8.ex e9).ex e10).kp kpl
  have P11 := (P9.ex e10).kp kpl
  have hx4 : H4 x = none := e_none g4 hx
  generalize upd (upd (upd H9 dx5 (.own x5)) x5 (.ins a_Stop dx5 [])) D1 (.lst (us0 ++ [.ref x5])) = H11 at *
  clear kpl e10 hx5 hdx5 hne5 hx2 hdx2 hne2 P9 S8 k8 e8 e9 hne hdx g1 g2 g3
  obtain ⟨a0, dx0, q0, ea, wx, wq, rws⟩ := id S11
  cases ea
  refine ⟨_, rfl, x, dx0, _, rfl, wx, rfl, rs0, us0, S11, gd0, fun u H12 e12 PB hb => ?_⟩
  refine str_of (P11.ex e12) gd0 fun H13 e13 => ?_
  have e413 := (e4.trans e12).trans e13
  have hc : ¬ (a_Sheet = a_Put ∨ a_Sheet = a_If ∨ a_Sheet = a_Times ∨ a_Sheet = a_Stop ∨ a_Sheet = a_Ask ∨ a_Sheet = a_Not) := noCls T.kits T.kz_Sheet_Row T.kz_Sheet_Test
  have S13 := (S11.ex e12).ex e13
  have St : StS K ⟨a_Put, a_If, a_Times, a_Stop, a_Ask, a_Not⟩ a_Sheet a_Program d L nm x nns rs0 us0 u l0 rs0 vs0 us0 H13 := by
    have ed := ex_del e413 hx4
    have kr : Kr ⟨a_Put, a_If, a_Times, a_Stop, a_Ask, a_Not⟩ H13 (delL H13 x) := Kr.del (e13 _ _ (e12 _ _ wx)) hc
    refine ⟨D4.ex ed, N4.mv (Mv3.of_ex D4 ed), ed _ _ w0, T0.ex ed, S13, ?_, ol.1, ol.2, (D4.off hx4).1, (D4.off hx4).2⟩
    obtain ⟨b, dxb, qb, nb, ysb, rfl, b1, b2, b3, b4, b5⟩ := PB.ex e13
    obtain ⟨b', eb, hb1⟩ := hb
    cases eb
    have nb' : b ≠ x := fun e => by rw [e, wx] at hb1; cases hb1
    exact ⟨b, dxb, qb, nb, ysb, rfl, by rw [delL_ne nb']; exact b1, kr.sqt b2, RowOs.kr kr b3, kr.sqt b4, b5⟩
  clear S13 S11 P11 PB hb wx wq rws e4 e12 e13 e413 hx4 hx D4 N4 w0 T0 ol
  refine ⟨fun σ H' => ∃ mo rs vs us s9 s10 s11 s12 s13 s14 s15 s16 s17, σ = [some (.ref a), some (.ref d), some (.ref nm), some (.ref mo), some (.ref D1), some (.ref x), some (.ref x2), some u, some (.str (Txt.join "\n" (RowM.liness rs0))), s9, s10, s11, s12, s13, s14, s15, s16, s17] ∧ StS K ⟨a_Put, a_If, a_Times, a_Stop, a_Ask, a_Not⟩ a_Sheet a_Program d L nm x nns rs0 us0 u mo rs vs us H' ∧ RowM.oks rs ∧ RowM.sms rs ∧ RowM.deps rs ≤ 2 ∧ RowM.cnts rs ≤ 11, ?_, fun σ H' hm => ?_⟩
  · walk_at "vc"
    refine ⟨_, rfl, L, St.dl, by decide, by decide, fun g5 H14 g50 g51 M14 => ?_⟩
    have S14 := St.mv M14
    clear St M14
    obtain ⟨n5, rfl⟩ := Int.eq_ofNat_of_zero_le g50
    refine ⟨_, rfl, by omega, by omega, for_range (lo := 0) (n := n5) (fun i σ H' => ∃ mo rs vs us s9 s10 s11 s12 s13 s14 s15 s16 s17, σ = [some (.ref a), some (.ref d), some (.ref nm), some (.ref mo), some (.ref D1), some (.ref x), some (.ref x2), some u, some (.str (Txt.join "\n" (RowM.liness rs0))), s9, s10, s11, s12, s13, s14, s15, s16, s17] ∧ StS K ⟨a_Put, a_If, a_Times, a_Stop, a_Ask, a_Not⟩ a_Sheet a_Program d L nm x nns rs0 us0 u mo rs vs us H' ∧ RowM.oks rs ∧ RowM.sms rs ∧ RowM.deps rs ≤ 2 ∧ RowM.cnts rs ≤ 11) ⟨l0, rs0, vs0, us0, _, _, _, _, _, _, _, _, _, rfl, S14, gd0.1, gd0.2.1, dp0, by omega⟩ (fun i σ H' hi hw => ?_) (fun σ H' hw => hw)⟩
    clear S14 H14
    obtain ⟨mo, rs, vs, us, s9, s10, s11, s12, s13, s14, s15, s16, s17, rfl, S, okr, smr, der, cnr⟩ := hw
    walk_at "vc"
    refine ⟨L, S.dl, by decide, by decide, fun f H15 f0 f1 M15 => ?_⟩
    have S15 := S.mv M15
    clear S M15
    have hvl2 := S15.T.len
    have hcl2 := cnts_len rs
    refine ⟨vs, .inl (sq_of (delL_le _ _ S15.m)), L, S15.dl, by omega, by omega, fun ia H16 ia0 ia1 M16 => ⟨_, rfl, ?_⟩⟩
    have S16 := S15.mv M16
    clear S15 M16
    refine ⟨L, nns, S16.dl, S16.N.mv (Mv3.of_ex S16.D delL_le), by decide, by decide, fun pn pd pg v1 H17 M17 hv1 okv smv => ?_⟩
    have S17 := S16.mv M17
    clear S16 M17
    refine ⟨sz_le (by simp), fun p1 hp1 => ⟨sz_le (by simp), fun p2 hp2 => ⟨sz_le (by simp), fun p3 hp3 => ⟨sz_le (by simp), fun p4 hp4 => ⟨sz_le (by simp), fun p5 hp5 => ?_⟩⟩⟩⟩⟩
    have e1 := Ex.new hp1 (o := .tup [.str "stop"])
    have e2 := Ex.new hp2 (o := .tup [.str "stop"])
    have e3 := Ex.new hp3 (o := .tup [.ref p2])
    have e4 := Ex.new hp4 (o := .tup [.str "times", .int 2, .ref p3])
    have e5 := Ex.new hp5 (o := .lst [v1, .ref p1, .ref p4])
    have S18 := ((((S17.ex e1).ex e2).ex e3).ex e4)
    have o5 := S18.dl.off hp5
    replace S18 := S18.ex e5
    have t1 := hv1.ex ((((e1.trans e2).trans e3).trans e4).trans e5)
    have t2 : RowT K _ .stop (.ref p1) := ⟨p1, rfl, st_of ((((e2.trans e3).trans e4).trans e5) _ _ upd_same)⟩
    have t3 : RowT K _ (.times 2 [.stop]) (.ref p4) := ⟨p4, p3, [.ref p2], rfl, st_of (e5 _ _ upd_same), st_of ((e4.trans e5) _ _ upd_same), RowTs.one ⟨p2, rfl, st_of (((e3.trans e4).trans e5) _ _ upd_same)⟩⟩
    refine ⟨L, S18.dl, by decide, by decide, fun g H18 h0 h1 M18 => ?_⟩
    have S19 := S18.mv M18
    have k18 := M18.kpx S18.dl
    have w18 : H18 p5 = some (.lst [v1, .ref p1, .ref p4]) := M18.kp _ _ o5.1 o5.2 upd_same
    obtain ⟨ro, vo, hat, hro, oko, smo, depo, cnto⟩ := three (t1.kp k18) (t2.kp k18) (t3.kp k18) okv smv h0 h1
    clear e1 e2 e3 e4 e5 S17 S18 t1 t2 t3 M18 k18 hp1 hp2 hp3 hp4 hp5 o5 hv1 okv smv
    refine ⟨_, vo, sq_of w18, hat, ?_⟩
    refine ⟨ro, hro, oko, smo, by omega, fun u2 H20 e20 hu2 _ => ?_⟩
    have S20 := S19.ex e20
    replace hro := hro.ex e20
    clear S19 e20 w18 hat
    refine ⟨fun σ H' => ∃ vo vr s15 s16 s17, σ = [some (.ref a), some (.ref d), some (.ref nm), some (.ref mo), some (.ref D1), some (.ref x), some (.ref x2), some u, some (.str (Txt.join "\n" (RowM.liness rs0))), some (.int (0 + i)), some (.int f), some (.int (ia - 1)), some vo, some vr, some .non, s15, s16, s17] ∧ StS K ⟨a_Put, a_If, a_Times, a_Stop, a_Ask, a_Not⟩ a_Sheet a_Program d L nm x nns rs0 us0 u mo rs vs us H' ∧ Oth K ⟨a_Put, a_If, a_Times, a_Stop, a_Ask, a_Not⟩ a_Row x vo vr H', ?_, fun σ H21 hm => ?_⟩
    · walk_at "vc"
      refine ⟨L, S20.dl, by decide, by decide, fun g3 H21 g30 g31 M21 => ?_⟩
      have S21 := S20.mv M21
      replace hro := hro.kp (M21.kpx S20.dl)
      replace hu2 := hu2.kp (M21.kpx S20.dl)
      clear S20 M21
      refine ⟨rfl, ?_⟩
      refine ite2 (fun _ => ?_) (fun _ => ?_)
      · intro x7 dx7 hx7 hdx7 hne7
        have e1 := mk_ex (o1 := .own x7) (o2 := .ins a_Stop dx7 []) hx7 hdx7 hne7
        have S22 := S21.ex e1
        generalize upd (upd H21 dx7 (.own x7)) x7 (.ins a_Stop dx7 []) = H22 at *
        clear S21 e1 hx7 hdx7 hne7
        refine ⟨sz_le (by simp), fun q2 hq2 => ?_⟩
        have e2 := Ex.new hq2 (o := .lst [.ref x7])
        have o2 := S22.dl.off hq2
        have S23 := S22.ex e2
        have w23 : upd H22 q2 (.lst [.ref x7]) q2 = some (.lst [.ref x7]) := upd_same
        generalize upd H22 q2 (.lst [.ref x7]) = H23 at *
        clear S22 e2 hq2
        intro x8 dx8 hx8 hdx8 hne8
        refine mkNil T hx8 hdx8 hne8 fun H24 e24 hP24 => ⟨rfl, sz_le (by simp), fun q3 hq3 => ?_⟩
        have S24 := S23.ex e24
        have e25 := Ex.new hq3 (o := .lst [V.non, .str "stop", .ref q2, .ref x8])
        have o3 := S24.dl.off hq3
        have S25 := S24.ex e25
        refine ⟨L, S25.dl, by decide, by decide, fun g4 H26 g40 g41 M26 => ?_⟩
        have S26 := S25.mv M26
        have k26 := M26.kpx S25.dl
        have w26 : H26 q3 = some (.lst [V.non, .str "stop", .ref q2, .ref x8]) := M26.kp _ _ o3.1 o3.2 upd_same
        obtain ⟨vo2, t2, hat2, hty2, hk2⟩ := four T (M26.kp _ _ o2.1 o2.2 (e25 _ _ (e24 _ _ w23))) ((hP24.ex e25).kp k26) g40 g41
        refine ⟨_, vo2, sq_of w26, hat2, ?_⟩
        have O26 : Oth K ⟨a_Put, a_If, a_Times, a_Stop, a_Ask, a_Not⟩ a_Row x .non vo2 H26 := .inl ⟨rfl, t2, hty2, hk2⟩
        exact ⟨S26, O26⟩
      · obtain ⟨a0, dx0, q0, ea, wx, _⟩ := id S21.S
        cases ea
        have kr : Kr ⟨a_Put, a_If, a_Times, a_Stop, a_Ask, a_Not⟩ H21 (delL H21 x) := Kr.del wx hc
        obtain ⟨b0, eb0⟩ : ∃ b0, vo = V.ref b0 := hro.ref
        exact ⟨S21, .inr ⟨ro, b0, eb0, hro.kr kr, oko, smo, depo, cnto, hu2.kr kr⟩⟩
    · obtain ⟨vo2, vr, s15, s16, s17, rfl, S21, O21⟩ := hm
      clear S20 hro hu2 oko smo depo cnto
      refine ⟨fun σ H' => ∃ f2 s15 s16 s17, σ = [some (.ref a), some (.ref d), some (.ref nm), some (.ref mo), some (.ref D1), some (.ref x), some (.ref x2), some u, some (.str (Txt.join "\n" (RowM.liness rs0))), some (.int (0 + i)), some (.int f2), some (.int (ia - 1)), some vo2, some vr, some .non, s15, s16, s17] ∧ StS K ⟨a_Put, a_If, a_Times, a_Stop, a_Ask, a_Not⟩ a_Sheet a_Program d L nm x nns rs0 us0 u mo rs vs us H' ∧ Oth K ⟨a_Put, a_If, a_Times, a_Stop, a_Ask, a_Not⟩ a_Row x vo2 vr H' ∧ 0 ≤ f2 ∧ f2 < 4 ∧ (f2 < 2 → RowM.cnts rs ≤ 9), ?_, fun σ H22 hm => ?_⟩
      · walk_at "vc"
        refine ite2 (fun f2 => ?_) (fun f2 => ⟨S21, O21, f0, f1, fun h => absurd h f2⟩)
        refine ⟨_, rfl, mo, rfl, ⟨_, sq_of (delL_le _ _ S21.m)⟩, fun D2 hD2 => ?_⟩
        refine lc_it (walk_list (xs := vs)) (fun i H' => H' D2 = some (.lst (((rs.take i).map fun r => (r.cnt : Int)).map V.int)) ∧ Ex H21 H') ⟨upd_same, Ex.new hD2⟩ (fun i H' _ hP => sq_of (hP.2 _ _ (delL_le _ _ S21.m))) (fun j z H6 H7 hj hP y => ?_) (fun H6 hP => ?_)
        · obtain ⟨rfl, hv2⟩ := y
          obtain ⟨y1, y4⟩ := hP
          obtain ⟨r, hr2, hrT⟩ := S21.T.at_ hv2
          have ok1 := oks_at2 okr hr2
          have dp1 := deps_at hr2
          walk_at "vc"
          refine ⟨r, (hrT.ex delL_le).ex y4, ok1, by omega, fun H9 e9 => ?_⟩
          refine ⟨_, e9 _ _ y1, sz_lt (by rw [List.length_map, List.length_map, List.length_take]; omega), ?_, (y4.trans e9).mut hD2⟩
          rw [upd_same, List.take_add_one, hr2, List.map_append, List.map_append]
          rfl
        obtain ⟨y1, y4⟩ := hP
        rw [hvl2, List.take_length] at y1
        refine ⟨D2, _, rfl, sq_of y1, ?_⟩
        rw [← cnts_sum]
        have S22 := S21.ex y4
        have O22 := O21.ex y4
        walk_at "vc"
        exact ite2 (fun _ => ⟨S22, O22, by omega, by omega, fun h => absurd h (by decide)⟩) (fun h9 => ⟨S22, O22, f0, f1, fun _ => by omega⟩)
      · obtain ⟨f2, s15, s16, s17, rfl, S22, O22, f20, f21, f22⟩ := hm
        clear S21 O21
        refine ⟨fun σ H' => H' = H22 ∧ σ = [some (.ref a), some (.ref d), some (.ref nm), some (.ref mo), some (.ref D1), some (.ref x), some (.ref x2), some u, some (.str (Txt.join "\n" (RowM.liness rs0))), some (.int (0 + i)), some (.int f2), some (.int (ia - 1)), some vo2, some vr, some .non, some (.bl (decide (0 ≤ ia - 1 ∧ ia - 1 < (rs.length : Int)))), s16, s17], ?_, fun σ H' hm => ?_⟩
        · walk_at "vc"
          refine ite2 (fun h1 => ⟨vs, .inl (sq_of (delL_le _ _ S22.m)), ?_⟩) (fun h1 => ?_)
          · rw [hvl2]; simp [h1]; omega
          · simp [h1]; omega
        obtain ⟨rfl, rfl⟩ := hm
        refine ⟨fun σ H' => ∃ due mo2 b15 s16 s17, σ = [some (.ref a), some (.ref d), some (.ref nm), some (.ref mo2), some (.ref D1), some (.ref x), some (.ref x2), some u, some (.str (Txt.join "\n" (RowM.liness rs0))), some (.int (0 + i)), some (.int f2), some (.int (ia - 1)), some vo2, some vr, some due, b15, s16, s17] ∧ sp_law_deed K ⟨a_Put, a_If, a_Times, a_Stop, a_Ask, a_Not⟩ a_Sheet a_Row [.ref x, .int f2, .int (ia - 1), vr] H' (Aft K ⟨a_Put, a_If, a_Times, a_Stop, a_Ask, a_Not⟩ a_Sheet a_Program d L nm x nns rs0 us0 u mo2 due) E0, ?_, fun σ H23 hm => ?_⟩
        · have g11 : Gd rs 2 11 := ⟨okr, smr, der, cnr⟩
          walk_at "vc"
          by_cases h0 : 0 < f2
          · rw [if_pos h0]
            by_cases hin : 0 ≤ ia - 1 ∧ ia - 1 < (rs.length : Int)
            · rw [if_neg (fun z => z hin)]
              obtain ⟨k, hk⟩ := Int.eq_ofNat_of_zero_le hin.1
              rw [hk] at hin ⊢
              have hkl : k < vs.length := by omega
              obtain ⟨vk, hvk⟩ : ∃ z, vs[k]? = some z := ⟨_, List.getElem?_eq_getElem hkl⟩
              have hf : f2 = 1 ∨ f2 = 2 ∨ f2 = 3 := by omega
              rcases hf with rfl | rfl | rfl
              · rw [if_pos (by decide)]
                rcases O22 with ⟨rfl, t, ty, hkt⟩ | ⟨r1, b, rfl, hT, ok1, sm1, dp1, cn1, hO⟩
                · rw [if_pos rfl]
                  exact ⟨sz_le (by simp), fun p hp => dB (S22.ex (Ex.new hp)) g11 upd_same (.inr ⟨rfl, hin⟩) (ty _ (Ex.new hp)) hkt⟩
                · rw [if_neg (by simp), if_neg (by decide), if_pos rfl]
                  refine ⟨vs, sq_of (delL_le _ _ S22.m), fun p1 hp1 => ?_⟩
                  rw [cut_take]
                  have e1 := Ex.new hp1 (o := .lst (vs.take k))
                  have w1 : upd H' p1 (.lst (vs.take k)) p1 = some (.lst (vs.take k)) := upd_same
                  have S1 := S22.ex e1
                  replace hT := hT.ex (delL_mono (p := x) (Off.of e1))
                  replace hO := hO.kp (Kp.of_ex (delL_mono (p := x) (Off.of e1)))
                  generalize upd H' p1 (.lst (vs.take k)) = Ha at *
                  refine ⟨sz_le (by simp), fun p2 hp2 => ?_⟩
                  have e2 := Ex.new hp2 (o := .lst [.ref b])
                  have w2 : upd Ha p2 (.lst [.ref b]) p2 = some (.lst [.ref b]) := upd_same
                  have S2 := S1.ex e2
                  replace hT := hT.ex (delL_mono (p := x) (Off.of e2))
                  replace hO := hO.kp (Kp.of_ex (delL_mono (p := x) (Off.of e2)))
                  replace w1 := e2 _ _ w1
                  generalize upd Ha p2 (.lst [.ref b]) = Hb at *
                  refine ⟨p1, p2, _, _, rfl, rfl, w1, w2, sz_le (by simp; omega), fun p3 hp3 => ?_⟩
                  have e3 := Ex.new hp3 (o := .lst (vs.take k ++ [.ref b]))
                  have w3 : upd Hb p3 (.lst (vs.take k ++ [.ref b])) p3 = some (.lst (vs.take k ++ [.ref b])) := upd_same
                  have S3 := S2.ex e3
                  replace hT := hT.ex (delL_mono (p := x) (Off.of e3))
                  replace hO := hO.kp (Kp.of_ex (delL_mono (p := x) (Off.of e3)))
                  generalize upd Hb p3 (.lst (vs.take k ++ [.ref b])) = Hc at *
                  refine ⟨vs, sq_of (delL_le _ _ S3.m), fun p4 hp4 => ?_⟩
                  rw [show ((k : Int) + 1) = ((k + 1 : Nat) : Int) by omega, cut_drop]
                  have e4 := Ex.new hp4 (o := .lst (vs.drop (k + 1)))
                  have w4 : upd Hc p4 (.lst (vs.drop (k + 1))) p4 = some (.lst (vs.drop (k + 1))) := upd_same
                  have S4 := S3.ex e4
                  replace hT := hT.ex (delL_mono (p := x) (Off.of e4))
                  replace hO := hO.kp (Kp.of_ex (delL_mono (p := x) (Off.of e4)))
                  replace w3 := e4 _ _ w3
                  generalize upd Hc p4 (.lst (vs.drop (k + 1))) = Hd at *
                  refine ⟨p3, p4, _, _, rfl, rfl, w3, w4, sz_le (by simp; omega), fun p5 hp5 => ⟨_, _, rfl, rfl, ?_⟩⟩
                  have e5 := Ex.new hp5 (o := .lst (vs.take k ++ [.ref b] ++ vs.drop (k + 1)))
                  refine dD (S4.ex e5) ⟨okr, smr, der, f22 (by decide)⟩ ⟨one_ok ok1, one_sm sm1, by rw [one_dep]; omega, by rw [one_cnt]; exact cn1⟩ hin.1 hin.2 ?_ (S4.dl.off hp5) (hT.ex (delL_mono (Off.of e5))) (hO.kp (Kp.of_ex (delL_mono (Off.of e5))))
                  rw [delL_ne (S4.off_sh hp5)]
                  exact upd_same
              · rw [if_neg (by decide), if_neg (by decide), if_neg (by decide), if_pos rfl]
                refine ⟨vs, sq_of (delL_le _ _ S22.m), fun p1 hp1 => ?_⟩
                rw [cut_take]
                have e1 := Ex.new hp1 (o := .lst (vs.take k))
                have w1 : upd H' p1 (.lst (vs.take k)) p1 = some (.lst (vs.take k)) := upd_same
                have S1 := S22.ex e1
                generalize upd H' p1 (.lst (vs.take k)) = Ha at *
                refine ⟨vs, sq_of (delL_le _ _ S1.m), fun p4 hp4 => ?_⟩
                rw [show ((k : Int) + 1) = ((k + 1 : Nat) : Int) by omega, cut_drop]
                have e4 := Ex.new hp4 (o := .lst (vs.drop (k + 1)))
                have w4 : upd Ha p4 (.lst (vs.drop (k + 1))) p4 = some (.lst (vs.drop (k + 1))) := upd_same
                have S4 := S1.ex e4
                replace w1 := e4 _ _ w1
                generalize upd Ha p4 (.lst (vs.drop (k + 1))) = Hd at *
                refine ⟨p1, p4, _, _, rfl, rfl, w1, w4, sz_le (by simp; omega), fun p5 hp5 => ⟨_, _, rfl, rfl, ?_⟩⟩
                have e5 := Ex.new hp5 (o := .lst (vs.take k ++ vs.drop (k + 1)))
                refine dE (S4.ex e5) g11 hin.1 hin.2 ?_ (S4.dl.off hp5)
                rw [delL_ne (S4.off_sh hp5)]
                exact upd_same
              · rw [if_neg (by decide), if_neg (by decide), if_neg (by decide), if_neg (by decide)]
                obtain ⟨rk, hrk, hrkT⟩ := S22.T.at_ hvk
                have okk := oks_at2 okr hrk
                have smk := sms_at smr hrk
                have dpk := deps_at hrk
                have cnk := cnts_at hrk
                refine ⟨rfl, vs, sq_of (delL_le _ _ S22.m), vk, atI_nat hvk, rk, hrkT.ex delL_le, okk, smk, by omega, by omega, fun D9 H9 e9 _ w9 => ⟨D9, rfl, _, .inl (sq_of w9), ?_, sz_le (by simp), fun p hp => ?_⟩⟩
                · have hwt := lines_wt rk okk smk
                  rw [nl1, ← wt_sum]; omega
                · have hne : rk.lines ≠ [] := by cases rk <;> simp [RowM.lines]
                  exact dF ((S22.ex e9).ex (Ex.new hp)) g11 hin.1 hin.2 hrk upd_same (strOk_of (text_low okk hne)) (by decide)
            · rw [if_pos hin]
              exact ⟨sz_le (by simp), fun p hp => dA (S22.ex (Ex.new hp)) g11 upd_same h0 (by omega)⟩
          · have : f2 = 0 := by omega
            subst this
            rw [if_neg (by decide), if_pos (by decide)]
            rcases O22 with ⟨rfl, t, ty, hk⟩ | ⟨r1, b, rfl, hT, ok1, sm1, dp1, cn1, hO⟩
            · rw [if_pos rfl]
              exact ⟨sz_le (by simp), fun p hp => dB (S22.ex (Ex.new hp)) g11 upd_same (.inl rfl) (ty _ (Ex.new hp)) hk⟩
            · rw [if_neg (by simp), if_pos rfl]
              refine ⟨sz_le (by simp), fun p hp => ?_⟩
              have S23 := S22.ex (Ex.new hp (o := .lst [.ref b]))
              have e23 := delL_mono (p := x) (Off.of (Ex.new hp (o := .lst [.ref b])))
              refine ⟨mo, p, vs, [.ref b], rfl, rfl, delL_le _ _ S23.m, upd_same, sz_le (by simp; omega), fun p2 hp2 => ⟨_, _, rfl, rfl, ?_⟩⟩
              have o2 := S23.dl.off hp2
              have S24 := S23.ex (Ex.new hp2 (o := .lst (vs ++ [.ref b])))
              have e24 := e23.trans (delL_mono (p := x) (Off.of (Ex.new hp2 (o := .lst (vs ++ [.ref b])))))
              refine dC S24 ⟨okr, smr, der, f22 (by decide)⟩ ⟨one_ok ok1, one_sm sm1, by rw [one_dep]; omega, by rw [one_cnt]; exact cn1⟩ ?_ o2 (hT.ex e24) (hO.kp (Kp.of_ex e24))
              rw [delL_ne (S23.off_sh hp2)]
              exact upd_same
        · obtain ⟨due, mo2, b15, s16, s17, rfl, q23⟩ := hm
          walk_at "vc"
          refine deed_mono q23 fun v H24 ⟨hne, rs2, vs2, us2, S24, ok2, sm2, de2, cn2⟩ => ?_
          refine hne _ ⟨_, rfl, ?_⟩
          rw [if_neg (by decide)]
          refine ⟨rs2, us2, vs2, S24.S, delL_le _ _ S24.m, S24.T.ex delL_le, ⟨ok2, sm2, by omega, by omega⟩, fun H25 e25 => ⟨_, rfl, ?_⟩⟩
          rw [if_neg (by decide)]
          exact ⟨rs2, vs2, us2, S24.ex e25, ok2, sm2, de2, cn2⟩
  · obtain ⟨mo, rs, vs, us, s9, s10, s11, s12, s13, s14, s15, s16, s17, rfl, S, _⟩ := hm
    have hP := S.P.kp (Kp.of_ex (delL_le (H := H') (p := x)))
    walk_at "vc"
    refine ⟨fun σ H2 => ∃ mo s9 s10 s11 s12 s13 s14 s15 s16 s17, σ = [some (.ref a), some (.ref d), some (.ref nm), some (.ref mo), some (.ref D1), some (.ref x), some (.ref x2), some u, some (.str (Txt.join "\n" (RowM.liness rs0))), s9, s10, s11, s12, s13, s14, s15, s16, s17] ∧ Ex H' H2, ?_, fun σ H2 hm => ?_⟩
    · obtain ⟨pb, dxb, qb, nb, ysb, rfl, bb, _⟩ := id hP
      intro x21 dx21 hx21 hdx21 hn21
      have a21 := mk_ex (o1 := .own x21) (o2 := .ins a_Stop dx21 []) hx21 hdx21 hn21
      have b21 := upd_same (H := upd H' dx21 (.own x21)) (a := x21) (o := .ins a_Stop dx21 [])
      generalize upd (upd H' dx21 (.own x21)) x21 (.ins a_Stop dx21 []) = H21 at *
      refine ⟨sz_le (by simp), fun li hli => ⟨sz_le (by simp), fun tp htp => ⟨_, rfl, ?_⟩⟩⟩
      have a22 := Ex.new hli (o := .lst [.ref x21, .int 3])
      have b22 := upd_same (H := H21) (a := li) (o := .lst [.ref x21, .int 3])
      generalize upd H21 li (.lst [.ref x21, .int 3]) = H22 at *
      have a23 := Ex.new htp (o := .tup [.non])
      have b23 := upd_same (H := H22) (a := tp) (o := .tup [.non])
      generalize upd H22 tp (.tup [.non]) = H23 at *
      intro x24 dx24 hx24 hdx24 hn24
      have a24 := mk_ex (o1 := .own x24) (o2 := .ins a_Stop dx24 []) hx24 hdx24 hn24
      have b24 := upd_same (H := upd H23 dx24 (.own x24)) (a := x24) (o := .ins a_Stop dx24 [])
      generalize upd (upd H23 dx24 (.own x24)) x24 (.ins a_Stop dx24 []) = H24 at *
      refine ⟨sz_le (by simp), fun t27 ht27 => ⟨t27, rfl, ⟨_, st_of upd_same⟩, ?_⟩⟩
      have a27 := Ex.new ht27 (o := .tup [.non, .int 3, .str "stop", .ref li, .ref tp, .ref pb, .ref x24])
      have b27 := upd_same (H := H24) (a := t27) (o := .tup [.non, .int 3, .str "stop", .ref li, .ref tp, .ref pb, .ref x24])
      generalize upd H24 t27 (.tup [.non, .int 3, .str "stop", .ref li, .ref tp, .ref pb, .ref x24]) = H27 at *
      have g24 := a24.trans a27
      have g23 := a23.trans g24
      have g22 := a22.trans g23
      have g21 := a21.trans g22
      replace bb := g21 _ _ bb
      replace b21 := g22 _ _ b21
      replace b22 := g23 _ _ b22
      replace b23 := g24 _ _ b23
      replace b24 := a27 _ _ b24
      clear g24 g23 g22 a21 a22 a23 a24 a27 hx21 hdx21 hn21 hli htp hx24 hdx24 hn24 ht27
      have noK : ∀ (t : Value), PySem.W.kitOne K t (.type "list") = some false → PySem.W.kitOne K t (.type "tuple") = some false → PySem.W.kitAny K t [.type "list", .type "tuple"] = some false := fun t k1 k2 => kitAny_cons k1 (fun _ => kitAny_cons k2 (fun _ => rfl) (fun z => by cases z)) (fun z => by cases z)
      have item : ∀ (i : Nat) (v : V), ([.non, .int 3, .str "stop", .ref li, .ref tp, .ref pb, .ref x24] : List V)[i]? = some v → NoRows K a_Row v H27 := fun i v hi => by
        match i, hi with
        | 0, hi => cases hi; exact .inl ⟨.type "NoneType", fun H' e => .base .non, noK _ (kit_ty kb15) (kit_ty kb16)⟩
        | 1, hi => cases hi; exact .inl ⟨.type "int", fun H' e => .base (.int _), noK _ (kit_ty kb13) (kit_ty kb14)⟩
        | 2, hi => cases hi; exact .inl ⟨.type "str", fun H' e => .base (.str _), noK _ (kit_ty kb17) (kit_ty kb18)⟩
        | 3, hi =>
          cases hi
          refine .inr ⟨li, _, [true, false], rfl, .inl b22, by simp, rfl, rfl, fun i x hx => ?_⟩
          match i, hx with
          | 0, hx => cases hx; exact ⟨.ref a_Stop, true, rfl, fun H' e => T.oc_Stop.ty (e _ _ b21), kitO1 T.kits 3 6 (by decide) (by decide)⟩
          | 1, hx => cases hx; exact ⟨.type "int", false, rfl, fun H' e => .base (.int _), kitO3 T.kits 6 "int" (by decide) (by decide)⟩
          | i + 2, hx => simp at hx
        | 4, hi =>
          cases hi
          refine .inr ⟨tp, _, [false], rfl, .inr (st_of b23), by simp, rfl, rfl, fun i x hx => ?_⟩
          match i, hx with
          | 0, hx => cases hx; exact ⟨.type "NoneType", false, rfl, fun H' e => .base .non, kitO3 T.kits 6 "NoneType" (by decide) (by decide)⟩
          | i + 1, hx => simp at hx
        | 5, hi => cases hi; exact .inl ⟨.ref a_Program, fun H' e => T.oc_Program.ty (e _ _ bb), noK _ T.kl_Program_list T.kl_Program_tuple⟩
        | 6, hi => cases hi; exact .inl ⟨.ref a_Stop, fun H' e => T.oc_Stop.ty (e _ _ b24), noK _ (kitO2 T.kits 3 "list" (by decide) (by decide)) (kitO2 T.kits 3 "tuple" (by decide) (by decide))⟩
        | i + 7, hi => simp at hi
      refine for_tup (xs := [.non, .int 3, .str "stop", .ref li, .ref tp, .ref pb, .ref x24]) (fun i σ H2 => ∃ mo s9 s10 s11 s12 s13 s14 s15 s16 s17, σ = [some (.ref a), some (.ref d), some (.ref nm), some (.ref mo), some (.ref D1), some (.ref x), some (.ref x2), some (.ref pb), some (.str (Txt.join "\n" (RowM.liness rs0))), s9, s10, s11, s12, s13, s14, s15, s16, s17] ∧ Ex H27 H2) ⟨_, _, _, _, _, _, _, _, _, _, rfl, Ex.refl _⟩ (fun i σ H2 _ hv => st_of (hv.choose_spec.choose_spec.choose_spec.choose_spec.choose_spec.choose_spec.choose_spec.choose_spec.choose_spec.choose_spec.2 _ _ b27)) (fun i v σ H2 hi hv => ?_) (fun σ H2 hv => ?_)
      · obtain ⟨mo, s9, s10, s11, s12, s13, s14, s15, s16, s17, rfl, e28⟩ := hv
        walk_at "vc"
        refine ⟨(item i v hi).ex e28, fun H29 e29 => ?_⟩
        refine ⟨.str "rows", .str "rows", .str _, .str _, by decide +kernel, by decide +kernel, ?_⟩
        rw [show PyData.eqv (.str "rows") (.str "rows") = true by decide +kernel]
        refine ⟨_, rfl, ?_⟩
        rw [if_neg (by decide)]
        exact e28.trans e29
      · obtain ⟨mo, s9, s10, s11, s12, s13, s14, s15, s16, s17, rfl, e28⟩ := hv
        exact ⟨_, _, _, _, _, _, _, _, _, _, rfl, g21.trans e28⟩
    · obtain ⟨mo, s9, s10, s11, s12, s13, s14, s15, s16, s17, rfl, e2⟩ := hm
      walk_at "vc"
      refine str_of (hP.ex e2) gd0 fun H3 e3 => ⟨rfl, ?_⟩
      rw [if_pos rfl]
      intro x9 dx9 hx9 hdx9 hn9
      show sp_Sheet_init K ⟨a_Put, a_If, a_Times, a_Stop, a_Ask, a_Not⟩ a_Sheet [V.ref x9, V.ref a_Sheet_init_d0] _ _ _
      refine mkSheet (rs := []) (vs := []) hx9 hdx9 hn9 (.inr (T.S_Sheet_init_d0 _)) (by unfold RowOs; rfl) (by simp) fun H5 e5 S5 => ⟨rfl, ?_⟩
      obtain ⟨a9, dxx, q9, ea, w9, _⟩ := id S5
      cases ea
      refine ⟨x9, a_Sheet, dxx, _, _, rfl, w9, ⟨rfl, rfl⟩, [], [], S5, ⟨_, rfl, by simp, by simp, rfl, ?_⟩⟩
      rw [show decide (V.int (([] : List RowM).length : Nat) = V.int 0) = true from rfl]
      exact q _
end
end My
set_option Elab.async false
set_option linter.all false
set_option maxRecDepth 100000
set_option maxHeartbeats 4000000
set_option exponentiation.threshold 5000
namespace My
open PySem PySem.Spec PyProof.Rows L2 Evl
local macro_rules | `(tactic| walk_at "st") => `(tactic| simp only [L2.start, List.map_cons, List.map_nil, List.length_cons, List.length_nil, Nat.reduceAdd, Nat.reduceSub, List.replicate_succ, List.replicate_zero, List.cons_append, List.nil_append, cxOf, List.append_nil])
local macro_rules | `(tactic| walk_at "vc") => `(tactic| try simp only [tSeq, tAsg, tOp, tUn, tVar, tC, tNil, tCons, gName, rI, rI0, rU, tRet, tIfS, tNot, tAnd, tOr, tB, tTest, tCB, tCall, tAndV, tOrV, tNotV, tNext, tNever, tIf, tChain, tYes, tPart, tNoPart, tPar, tDrop, q_isi, q_vn, q_vb, q_vi, q_vs, kb1, kb2, kb3, kb4, kb5, kb6, kb7, kb8, q_int1, q_int2, q_min, q_max, q_repr, tLst, tTup, rEq, rNe, q_sii, q_sss, q_sbb, q_snn, q_sns, q_ssn, q_ix, q_sl, tSl, tBM, tBM0, q_app, q_pop, gSub, rSetL, L2.wipe, eq_self, decide_true, decide_false, tRevL,
  List.getElem?_cons_succ, List.getElem?_cons_zero, List.set_cons_succ, List.set_cons_zero, Option.some.injEq, exists_eq_left', exists_eq_left, V.int.injEq, V.bl.injEq, V.ref.injEq, V.str.injEq, List.cons.injEq, and_true, true_and, List.append_nil, List.nil_append, List.cons_append, exists_and_left, and_assoc, if_true, if_false, Bool.not_true, Bool.not_false, Bool.false_eq_true, Bool.true_eq_false, reduceIte, tRevL, tPar3, tRevT, tUnl, tCKw, forall_const, Bool.not_eq_true', decide_eq_true_eq, decide_eq_false_iff_not])
theorem factsL {P : Program} {w : World} {K : PySem.W.Frag} {h : Heap} {mg : Str → Option Value} {fa : Addr} (X : K.In h) (G : h.Ns mainGlobals mg) (hfa : mg "law" = some (.ref fa)) (c : SaysL fnL tsL fsL w K) :
    ∃ fd : FuncData, (∀ (s : Shared) (v : Value), BindsTo s fd ⟨[v], []⟩ [("_law_script", v)]) ∧ ∀ base : Heap, K.In base → base.Ns mainGlobals mg → FnOk P w K mg base CX0 90 fa fd ["_law_script"] (sp_law K) := by
  have e := hfa.symm.trans (PySem.W.mg_of X G (of_decide_eq_true (bit c 1 6 rfl rfl)))
  cases e
  obtain ⟨d_is_integer, H_is_integer⟩ := (He.SaysT.d c.t).def_ 0 (d := D_is_integer) rfl
  have F_is_integer : Fun K "is_integer" "is_integer" s_is_integer (He.ga K "is_integer") d_is_integer := toFun H_is_integer
  have b_is_integer := F_is_integer.binds (ps := ["value"]) fun _ _ _ _ _ _ us hl => match us, hl with | [_], _ => rfl
  obtain ⟨d_is_number, H_is_number⟩ := (He.SaysT.d c.t).def_ 1 (d := D_is_number) rfl
  have F_is_number : Fun K "is_number" "is_number" s_is_number (He.ga K "is_number") d_is_number := toFun H_is_number
  have b_is_number := F_is_number.binds (ps := ["value"]) fun _ _ _ _ _ _ us hl => match us, hl with | [_], _ => rfl
  obtain ⟨d_is_name, H_is_name⟩ := (He.SaysT.d c.t).def_ 2 (d := D_is_name) rfl
  have F_is_name : Fun K "is_name" "is_name" s_is_name (He.ga K "is_name") d_is_name := toFun H_is_name
  have b_is_name := F_is_name.binds (ps := ["value"]) fun _ _ _ _ _ _ us hl => match us, hl with | [_], _ => rfl
  obtain ⟨d_are_rows, H_are_rows⟩ := (He.SaysT.d c.t).def_ 3 (d := D_are_rows) rfl
  have F_are_rows : Fun K "are_rows" "are_rows" s_are_rows (He.ga K "are_rows") d_are_rows := toFun H_are_rows
  have b_are_rows := F_are_rows.binds (ps := ["value"]) fun _ _ _ _ _ _ us hl => match us, hl with | [_], _ => rfl
  obtain ⟨d_texts, H_texts⟩ := (He.SaysT.d c.t).def_ 4 (d := D_texts) rfl
  have F_texts : Fun K "texts" "texts" s_texts (He.ga K "texts") d_texts := toFun H_texts
  have b_texts := F_texts.binds (ps := ["rows"]) fun _ _ _ _ _ _ us hl => match us, hl with | [_], _ => rfl
  obtain ⟨d_needed, H_needed⟩ := (He.SaysT.d c.t).def_ 5 (d := D_needed) rfl
  have F_needed : Fun K "needed" "needed" s_needed (He.ga K "needed") d_needed := toFun H_needed
  have b_needed := F_needed.binds (ps := ["deed", "many"]) fun _ _ _ _ _ _ us hl => match us, hl with | [_, _], _ => rfl
  obtain ⟨d_fits, H_fits⟩ := (He.SaysT.d c.t).def_ 6 (d := D_fits) rfl
  have F_fits : Fun K "_fits" "_fits" s_fits (He.ga K "_fits") d_fits := toFun H_fits
  have b_fits := F_fits.binds (ps := ["deed", "given"]) fun _ _ _ _ _ _ us hl => match us, hl with | [_, _], _ => rfl
  obtain ⟨d_is_of, H_is_of⟩ := (He.SaysT.d c.t).def_ 7 (d := D_is_of) rfl
  have F_is_of : Fun K "_is_of" "_is_of" s_is_of (He.ga K "_is_of") d_is_of := toFun H_is_of
  have b_is_of := F_is_of.binds (ps := ["kind", "value"]) fun _ _ _ _ _ _ us hl => match us, hl with | [_, _], _ => rfl
  obtain ⟨d_inner, H_inner⟩ := (He.SaysT.d c.t).def_ 8 (d := D_inner) rfl
  have F_inner : Fun K "inner" "inner" s_inner (He.ga K "inner") d_inner := toFun H_inner
  have b_inner := F_inner.binds (ps := ["row"]) fun _ _ _ _ _ _ us hl => match us, hl with | [_], _ => rfl
  obtain ⟨d_flat, H_flat⟩ := (He.SaysT.d c.t).def_ 9 (d := D_flat) rfl
  have F_flat : Fun K "flat" "flat" s_flat (He.ga K "flat") d_flat := toFun H_flat
  have b_flat := F_flat.binds (ps := ["rows"]) fun _ _ _ _ _ _ us hl => match us, hl with | [_], _ => rfl
  obtain ⟨d_names_in, H_names_in⟩ := (He.SaysT.d c.t).def_ 10 (d := D_names_in) rfl
  have F_names_in : Fun K "names_in" "names_in" s_names_in (He.ga K "names_in") d_names_in := toFun H_names_in
  have b_names_in := F_names_in.binds (ps := ["rows"]) fun _ _ _ _ _ _ us hl => match us, hl with | [_], _ => rfl
  obtain ⟨d_bare, H_bare⟩ := (He.SaysT.d c.t).def_ 11 (d := D_bare) rfl
  have F_bare : Fun K "bare" "bare" s_bare (He.ga K "bare") d_bare := toFun H_bare
  have b_bare := F_bare.binds (ps := ["test"]) fun _ _ _ _ _ _ us hl => match us, hl with | [_], _ => rfl
  obtain ⟨d_named, H_named⟩ := (He.SaysT.d c.t).def_ 12 (d := D_named) rfl
  have F_named : Fun K "_named" "_named" s_named (He.ga K "_named") d_named := toFun H_named
  have b_named := F_named.binds (ps := ["row"]) fun _ _ _ _ _ _ us hl => match us, hl with | [_], _ => rfl
  obtain ⟨d_law_deal, H_law_deal⟩ := (He.SaysT.d c.t).def_ 13 (d := D_law_deal) rfl
  have F_law_deal : Fun K "_law_deal" "_law_deal" s_law_deal (He.ga K "_law_deal") d_law_deal := toFun H_law_deal
  have b_law_deal := F_law_deal.binds (ps := ["_law_script", "_law_radix"]) fun _ _ _ _ _ _ us hl => match us, hl with | [_, _], _ => rfl
  obtain ⟨d_law_draw, H_law_draw⟩ := (He.SaysT.d c.t).def_ 14 (d := D_law_draw) rfl
  have F_law_draw : Fun K "_law_draw" "_law_draw" s_law_draw (He.ga K "_law_draw") d_law_draw := toFun H_law_draw
  have b_law_draw := F_law_draw.binds (ps := ["_law_deal_here", "_law_amount"]) fun _ _ _ _ _ _ us hl => match us, hl with | [_, _], _ => rfl
  obtain ⟨d_law_pick, H_law_pick⟩ := (He.SaysT.d c.t).def_ 15 (d := D_law_pick) rfl
  have F_law_pick : Fun K "_law_pick" "_law_pick" s_law_pick (He.ga K "_law_pick") d_law_pick := toFun H_law_pick
  have b_law_pick := F_law_pick.binds (ps := ["_law_deal_here", "_law_some"]) fun _ _ _ _ _ _ us hl => match us, hl with | [_, _], _ => rfl
  obtain ⟨d_law_words, H_law_words⟩ := (He.SaysT.d c.t).def_ 16 (d := D_law_words) rfl
  have F_law_words : Fun K "_law_words" "_law_words" s_law_words (He.ga K "_law_words") d_law_words := toFun H_law_words
  have b_law_words := F_law_words.binds (ps := ["_law_deal_here", "_law_amount"]) fun _ _ _ _ _ _ us hl => match us, hl with | [_, _], _ => rfl
  obtain ⟨d_law_kinds, H_law_kinds⟩ := (He.SaysT.d c.t).def_ 17 (d := D_law_kinds) rfl
  have F_law_kinds : Fun K "_law_kinds" "_law_kinds" s_law_kinds (He.ga K "_law_kinds") d_law_kinds := toFun H_law_kinds
  have b_law_kinds := F_law_kinds.binds (ps := []) fun _ _ _ _ _ _ us hl => match us, hl with | [], _ => rfl
  obtain ⟨d_law_put, H_law_put⟩ := (He.SaysT.d c.t).def_ 18 (d := D_law_put) rfl
  have F_law_put : Fun K "_law_put" "_law_put" s_law_put (He.ga K "_law_put") d_law_put := toFun H_law_put
  have b_law_put := F_law_put.binds (ps := ["_law_deal_here", "_law_names", "_law_most"]) fun _ _ _ _ _ _ us hl => match us, hl with | [_, _, _], _ => rfl
  obtain ⟨d_law_ask, H_law_ask⟩ := (He.SaysT.d c.t).def_ 19 (d := D_law_ask) rfl
  have F_law_ask : Fun K "_law_ask" "_law_ask" s_law_ask (He.ga K "_law_ask") d_law_ask := toFun H_law_ask
  have b_law_ask := F_law_ask.binds (ps := ["_law_deal_here", "_law_names", "_law_down"]) fun _ _ _ _ _ _ us hl => match us, hl with | [_, _, _], _ => rfl
  obtain ⟨d_law_count, H_law_count⟩ := (He.SaysT.d c.t).def_ 20 (d := D_law_count) rfl
  have F_law_count : Fun K "_law_count" "_law_count" s_law_count (He.ga K "_law_count") d_law_count := toFun H_law_count
  have b_law_count := F_law_count.binds (ps := ["_law_row"]) fun _ _ _ _ _ _ us hl => match us, hl with | [_], _ => rfl
  obtain ⟨d_law_rows, H_law_rows⟩ := (He.SaysT.d c.t).def_ 21 (d := D_law_rows) rfl
  have F_law_rows : Fun K "_law_rows" "_law_rows" s_law_rows (He.ga K "_law_rows") d_law_rows := toFun H_law_rows
  have b_law_rows := F_law_rows.binds (ps := ["_law_deal_here", "_law_names", "_law_room", "_law_down", "_law_most"]) fun _ _ _ _ _ _ us hl => match us, hl with | [_, _, _, _, _], _ => rfl
  obtain ⟨d_law_ask_text, H_law_ask_text⟩ := (He.SaysT.d c.t).def_ 22 (d := D_law_ask_text) rfl
  have F_law_ask_text : Fun K "_law_ask_text" "_law_ask_text" s_law_ask_text (He.ga K "_law_ask_text") d_law_ask_text := toFun H_law_ask_text
  have b_law_ask_text := F_law_ask_text.binds (ps := ["_law_test"]) fun _ _ _ _ _ _ us hl => match us, hl with | [_], _ => rfl
  obtain ⟨d_law_lines, H_law_lines⟩ := (He.SaysT.d c.t).def_ 23 (d := D_law_lines) rfl
  have F_law_lines : Fun K "_law_lines" "_law_lines" s_law_lines (He.ga K "_law_lines") d_law_lines := toFun H_law_lines
  have b_law_lines := F_law_lines.binds (ps := ["_law_row"]) fun _ _ _ _ _ _ us hl => match us, hl with | [_], _ => rfl
  obtain ⟨d_law_all_lines, H_law_all_lines⟩ := (He.SaysT.d c.t).def_ 24 (d := D_law_all_lines) rfl
  have F_law_all_lines : Fun K "_law_all_lines" "_law_all_lines" s_law_all_lines (He.ga K "_law_all_lines") d_law_all_lines := toFun H_law_all_lines
  have b_law_all_lines := F_law_all_lines.binds (ps := ["_law_rows_here"]) fun _ _ _ _ _ _ us hl => match us, hl with | [_], _ => rfl
  obtain ⟨d_law_ask_of, H_law_ask_of⟩ := (He.SaysT.d c.t).def_ 25 (d := D_law_ask_of) rfl
  have F_law_ask_of : Fun K "_law_ask_of" "_law_ask_of" s_law_ask_of (He.ga K "_law_ask_of") d_law_ask_of := toFun H_law_ask_of
  have b_law_ask_of := F_law_ask_of.binds (ps := ["_law_test"]) fun _ _ _ _ _ _ us hl => match us, hl with | [_], _ => rfl
  obtain ⟨d_law_row_of, H_law_row_of⟩ := (He.SaysT.d c.t).def_ 26 (d := D_law_row_of) rfl
  have F_law_row_of : Fun K "_law_row_of" "_law_row_of" s_law_row_of (He.ga K "_law_row_of") d_law_row_of := toFun H_law_row_of
  have b_law_row_of := F_law_row_of.binds (ps := ["_law_row"]) fun _ _ _ _ _ _ us hl => match us, hl with | [_], _ => rfl
  obtain ⟨d_law_deed, H_law_deed⟩ := (He.SaysT.d c.t).def_ 27 (d := D_law_deed) rfl
  have F_law_deed : Fun K "_law_deed" "_law_deed" s_law_deed (He.ga K "_law_deed") d_law_deed := toFun H_law_deed
  have b_law_deed := F_law_deed.binds (ps := ["_law_sheet", "_law_form", "_law_at", "_law_row"]) fun _ _ _ _ _ _ us hl => match us, hl with | [_, _, _, _], _ => rfl
  obtain ⟨d_law_begun, H_law_begun⟩ := (He.SaysT.d c.t).def_ 28 (d := D_law_begun) rfl
  have F_law_begun : Fun K "_law_begun" "_law_begun" s_law_begun (He.ga K "_law_begun") d_law_begun := toFun H_law_begun
  have b_law_begun := F_law_begun.binds (ps := ["_law_thing"]) fun _ _ _ _ _ _ us hl => match us, hl with | [_], _ => rfl
  obtain ⟨d_law_alike, H_law_alike⟩ := (He.SaysT.d c.t).def_ 29 (d := D_law_alike) rfl
  have F_law_alike : Fun K "_law_alike" "_law_alike" s_law_alike (He.ga K "_law_alike") d_law_alike := toFun H_law_alike
  have b_law_alike := F_law_alike.binds (ps := ["_law_sheet", "_law_models"]) fun _ _ _ _ _ _ us hl => match us, hl with | [_, _], _ => rfl
  obtain ⟨d_law, H_law⟩ := (He.SaysT.d c.t).def_ 30 (d := D_law) rfl
  have F_law : Fun K "law" "law" s_law (He.ga K "law") d_law := toFun H_law
  have b_law := F_law.binds (ps := ["_law_script"]) fun _ _ _ _ _ _ us hl => match us, hl with | [_], _ => rfl
  obtain ⟨d_NoRow_init, H_NoRow_init⟩ := (He.SaysT.d c.t).def_ 31 (d := D_NoRow_init) rfl
  have F_NoRow_init : Fun K "__init__" "NoRow.__init__" s_NoRow_init (He.ma K (He.ga K "NoRow") "__init__") d_NoRow_init := toFun H_NoRow_init
  have b_NoRow_init := F_NoRow_init.binds (ps := ["self", "at"]) fun _ _ _ _ _ _ us hl => match us, hl with | [_, _], _ => rfl
  obtain ⟨d_InvalidRow_init, H_InvalidRow_init⟩ := (He.SaysT.d c.t).def_ 32 (d := D_InvalidRow_init) rfl
  have F_InvalidRow_init : Fun K "__init__" "InvalidRow.__init__" s_InvalidRow_init (He.ma K (He.ga K "InvalidRow") "__init__") d_InvalidRow_init := toFun H_InvalidRow_init
  have b_InvalidRow_init := F_InvalidRow_init.binds (ps := ["self", "word"]) fun _ _ _ _ _ _ us hl => match us, hl with | [_, _], _ => rfl
  obtain ⟨d_Put_init, H_Put_init⟩ := (He.SaysT.d c.t).def_ 33 (d := D_Put_init) rfl
  have F_Put_init : Fun K "__init__" "Put.__init__" s_Put_init (He.ma K (He.ga K "Put") "__init__") d_Put_init := toFun H_Put_init
  obtain ⟨d_Put_eq, H_Put_eq⟩ := (He.SaysT.d c.t).def_ 34 (d := D_Put_eq) rfl
  have F_Put_eq : Fun K "__eq__" "Put.__eq__" s_Put_eq (He.ma K (He.ga K "Put") "__eq__") d_Put_eq := toFun H_Put_eq
  have b_Put_eq := F_Put_eq.binds (ps := ["self", "other"]) fun _ _ _ _ _ _ us hl => match us, hl with | [_, _], _ => rfl
  obtain ⟨d_Put_str, H_Put_str⟩ := (He.SaysT.d c.t).def_ 35 (d := D_Put_str) rfl
  have F_Put_str : Fun K "__str__" "Put.__str__" s_Put_str (He.ma K (He.ga K "Put") "__str__") d_Put_str := toFun H_Put_str
  have b_Put_str := F_Put_str.binds (ps := ["self"]) fun _ _ _ _ _ _ us hl => match us, hl with | [_], _ => rfl
  obtain ⟨d_If_init, H_If_init⟩ := (He.SaysT.d c.t).def_ 36 (d := D_If_init) rfl
  have F_If_init : FunD K "__init__" "If.__init__" (defArgs s_If_init) (defBody s_If_init) (defScope s_If_init) [.ref (He.dflAt ("If", some "__init__") 0 K)] [] (He.ma K (He.ga K "If") "__init__") d_If_init := H_If_init
  obtain ⟨ds0_If_init, r0_If_init, b_If_init⟩ := FunD.binds1 (ps := ["self", "test", "rows", "others"]) F_If_init 4 1 (by simp) rfl (fun T kV doc pm an cdv ct us its h1 h2 => match us, h1, its, h2 with | [_, _, _, _], _, [_], _ => ⟨_, rfl, rfl⟩)
  cases (show Vals [] ds0_If_init from r0_If_init)
  obtain ⟨ds1_If_init, r1_If_init, bd_If_init⟩ := FunD.binds1 (ps := ["self", "test", "rows", "others"]) F_If_init 3 0 (by simp) rfl (fun T kV doc pm an cdv ct us its h1 h2 => match us, h1, its, h2 with | [_, _, _], _, [_], _ => ⟨_, rfl, rfl⟩)
  obtain ⟨u1_If_init, q1_If_init, q2_If_init⟩ := r1_If_init.one
  subst q1_If_init; obtain rfl : u1_If_init = Value.ref (He.dflAt ("If", some "__init__") 0 K) := q2_If_init
  obtain ⟨d_If_eq, H_If_eq⟩ := (He.SaysT.d c.t).def_ 37 (d := D_If_eq) rfl
  have F_If_eq : Fun K "__eq__" "If.__eq__" s_If_eq (He.ma K (He.ga K "If") "__eq__") d_If_eq := toFun H_If_eq
  have b_If_eq := F_If_eq.binds (ps := ["self", "other"]) fun _ _ _ _ _ _ us hl => match us, hl with | [_, _], _ => rfl
  obtain ⟨d_If_str, H_If_str⟩ := (He.SaysT.d c.t).def_ 38 (d := D_If_str) rfl
  have F_If_str : Fun K "__str__" "If.__str__" s_If_str (He.ma K (He.ga K "If") "__str__") d_If_str := toFun H_If_str
  have b_If_str := F_If_str.binds (ps := ["self"]) fun _ _ _ _ _ _ us hl => match us, hl with | [_], _ => rfl
  obtain ⟨d_Times_init, H_Times_init⟩ := (He.SaysT.d c.t).def_ 39 (d := D_Times_init) rfl
  have F_Times_init : Fun K "__init__" "Times.__init__" s_Times_init (He.ma K (He.ga K "Times") "__init__") d_Times_init := toFun H_Times_init
  have b_Times_init := F_Times_init.binds (ps := ["self", "count", "rows"]) fun _ _ _ _ _ _ us hl => match us, hl with | [_, _, _], _ => rfl
  obtain ⟨d_Times_eq, H_Times_eq⟩ := (He.SaysT.d c.t).def_ 40 (d := D_Times_eq) rfl
  have F_Times_eq : Fun K "__eq__" "Times.__eq__" s_Times_eq (He.ma K (He.ga K "Times") "__eq__") d_Times_eq := toFun H_Times_eq
  have b_Times_eq := F_Times_eq.binds (ps := ["self", "other"]) fun _ _ _ _ _ _ us hl => match us, hl with | [_, _], _ => rfl
  obtain ⟨d_Times_str, H_Times_str⟩ := (He.SaysT.d c.t).def_ 41 (d := D_Times_str) rfl
  have F_Times_str : Fun K "__str__" "Times.__str__" s_Times_str (He.ma K (He.ga K "Times") "__str__") d_Times_str := toFun H_Times_str
  have b_Times_str := F_Times_str.binds (ps := ["self"]) fun _ _ _ _ _ _ us hl => match us, hl with | [_], _ => rfl
  obtain ⟨d_Stop_eq, H_Stop_eq⟩ := (He.SaysT.d c.t).def_ 42 (d := D_Stop_eq) rfl
  have F_Stop_eq : Fun K "__eq__" "Stop.__eq__" s_Stop_eq (He.ma K (He.ga K "Stop") "__eq__") d_Stop_eq := toFun H_Stop_eq
  have b_Stop_eq := F_Stop_eq.binds (ps := ["self", "other"]) fun _ _ _ _ _ _ us hl => match us, hl with | [_, _], _ => rfl
  obtain ⟨d_Stop_str, H_Stop_str⟩ := (He.SaysT.d c.t).def_ 43 (d := D_Stop_str) rfl
  have F_Stop_str : Fun K "__str__" "Stop.__str__" s_Stop_str (He.ma K (He.ga K "Stop") "__str__") d_Stop_str := toFun H_Stop_str
  have b_Stop_str := F_Stop_str.binds (ps := ["self"]) fun _ _ _ _ _ _ us hl => match us, hl with | [_], _ => rfl
  obtain ⟨d_Ask_init, H_Ask_init⟩ := (He.SaysT.d c.t).def_ 44 (d := D_Ask_init) rfl
  have F_Ask_init : Fun K "__init__" "Ask.__init__" s_Ask_init (He.ma K (He.ga K "Ask") "__init__") d_Ask_init := toFun H_Ask_init
  obtain ⟨d_Ask_eq, H_Ask_eq⟩ := (He.SaysT.d c.t).def_ 45 (d := D_Ask_eq) rfl
  have F_Ask_eq : Fun K "__eq__" "Ask.__eq__" s_Ask_eq (He.ma K (He.ga K "Ask") "__eq__") d_Ask_eq := toFun H_Ask_eq
  have b_Ask_eq := F_Ask_eq.binds (ps := ["self", "other"]) fun _ _ _ _ _ _ us hl => match us, hl with | [_, _], _ => rfl
  obtain ⟨d_Ask_str, H_Ask_str⟩ := (He.SaysT.d c.t).def_ 46 (d := D_Ask_str) rfl
  have F_Ask_str : Fun K "__str__" "Ask.__str__" s_Ask_str (He.ma K (He.ga K "Ask") "__str__") d_Ask_str := toFun H_Ask_str
  have b_Ask_str := F_Ask_str.binds (ps := ["self"]) fun _ _ _ _ _ _ us hl => match us, hl with | [_], _ => rfl
  obtain ⟨d_Not_init, H_Not_init⟩ := (He.SaysT.d c.t).def_ 47 (d := D_Not_init) rfl
  have F_Not_init : Fun K "__init__" "Not.__init__" s_Not_init (He.ma K (He.ga K "Not") "__init__") d_Not_init := toFun H_Not_init
  have b_Not_init := F_Not_init.binds (ps := ["self", "test"]) fun _ _ _ _ _ _ us hl => match us, hl with | [_, _], _ => rfl
  obtain ⟨d_Not_eq, H_Not_eq⟩ := (He.SaysT.d c.t).def_ 48 (d := D_Not_eq) rfl
  have F_Not_eq : Fun K "__eq__" "Not.__eq__" s_Not_eq (He.ma K (He.ga K "Not") "__eq__") d_Not_eq := toFun H_Not_eq
  have b_Not_eq := F_Not_eq.binds (ps := ["self", "other"]) fun _ _ _ _ _ _ us hl => match us, hl with | [_, _], _ => rfl
  obtain ⟨d_Not_str, H_Not_str⟩ := (He.SaysT.d c.t).def_ 49 (d := D_Not_str) rfl
  have F_Not_str : Fun K "__str__" "Not.__str__" s_Not_str (He.ma K (He.ga K "Not") "__str__") d_Not_str := toFun H_Not_str
  have b_Not_str := F_Not_str.binds (ps := ["self"]) fun _ _ _ _ _ _ us hl => match us, hl with | [_], _ => rfl
  obtain ⟨d_Program_init, H_Program_init⟩ := (He.SaysT.d c.t).def_ 50 (d := D_Program_init) rfl
  have F_Program_init : FunD K "__init__" "Program.__init__" (defArgs s_Program_init) (defBody s_Program_init) (defScope s_Program_init) [.ref (He.dflAt ("Program", some "__init__") 0 K)] [] (He.ma K (He.ga K "Program") "__init__") d_Program_init := H_Program_init
  obtain ⟨ds0_Program_init, r0_Program_init, b_Program_init⟩ := FunD.binds1 (ps := ["self", "rows"]) F_Program_init 2 1 (by simp) rfl (fun T kV doc pm an cdv ct us its h1 h2 => match us, h1, its, h2 with | [_, _], _, [_], _ => ⟨_, rfl, rfl⟩)
  cases (show Vals [] ds0_Program_init from r0_Program_init)
  obtain ⟨ds1_Program_init, r1_Program_init, bd_Program_init⟩ := FunD.binds1 (ps := ["self", "rows"]) F_Program_init 1 0 (by simp) rfl (fun T kV doc pm an cdv ct us its h1 h2 => match us, h1, its, h2 with | [_], _, [_], _ => ⟨_, rfl, rfl⟩)
  obtain ⟨u1_Program_init, q1_Program_init, q2_Program_init⟩ := r1_Program_init.one
  subst q1_Program_init; obtain rfl : u1_Program_init = Value.ref (He.dflAt ("Program", some "__init__") 0 K) := q2_Program_init
  obtain ⟨d_Program_str, H_Program_str⟩ := (He.SaysT.d c.t).def_ 51 (d := D_Program_str) rfl
  have F_Program_str : Fun K "__str__" "Program.__str__" s_Program_str (He.ma K (He.ga K "Program") "__str__") d_Program_str := toFun H_Program_str
  have b_Program_str := F_Program_str.binds (ps := ["self"]) fun _ _ _ _ _ _ us hl => match us, hl with | [_], _ => rfl
  obtain ⟨d_Sheet_init, H_Sheet_init⟩ := (He.SaysT.d c.t).def_ 52 (d := D_Sheet_init) rfl
  have F_Sheet_init : FunD K "__init__" "Sheet.__init__" (defArgs s_Sheet_init) (defBody s_Sheet_init) (defScope s_Sheet_init) [.ref (He.dflAt ("Sheet", some "__init__") 0 K)] [] (He.ma K (He.ga K "Sheet") "__init__") d_Sheet_init := H_Sheet_init
  obtain ⟨ds0_Sheet_init, r0_Sheet_init, b_Sheet_init⟩ := FunD.binds1 (ps := ["self", "rows"]) F_Sheet_init 2 1 (by simp) rfl (fun T kV doc pm an cdv ct us its h1 h2 => match us, h1, its, h2 with | [_, _], _, [_], _ => ⟨_, rfl, rfl⟩)
  cases (show Vals [] ds0_Sheet_init from r0_Sheet_init)
  obtain ⟨ds1_Sheet_init, r1_Sheet_init, bd_Sheet_init⟩ := FunD.binds1 (ps := ["self", "rows"]) F_Sheet_init 1 0 (by simp) rfl (fun T kV doc pm an cdv ct us its h1 h2 => match us, h1, its, h2 with | [_], _, [_], _ => ⟨_, rfl, rfl⟩)
  obtain ⟨u1_Sheet_init, q1_Sheet_init, q2_Sheet_init⟩ := r1_Sheet_init.one
  subst q1_Sheet_init; obtain rfl : u1_Sheet_init = Value.ref (He.dflAt ("Sheet", some "__init__") 0 K) := q2_Sheet_init
  obtain ⟨d_Sheet_drop, H_Sheet_drop⟩ := (He.SaysT.d c.t).def_ 53 (d := D_Sheet_drop) rfl
  have F_Sheet_drop : Fun K "drop" "Sheet.drop" s_Sheet_drop (He.ma K (He.ga K "Sheet") "drop") d_Sheet_drop := toFun H_Sheet_drop
  have b_Sheet_drop := F_Sheet_drop.binds (ps := ["self", "at"]) fun _ _ _ _ _ _ us hl => match us, hl with | [_, _], _ => rfl
  obtain ⟨d_Sheet_made, H_Sheet_made⟩ := (He.SaysT.d c.t).def_ 54 (d := D_Sheet_made) rfl
  have F_Sheet_made : Fun K "made" "Sheet.made" s_Sheet_made (He.ma K (He.ga K "Sheet") "made") d_Sheet_made := toFun H_Sheet_made
  have b_Sheet_made := F_Sheet_made.binds (ps := ["self"]) fun _ _ _ _ _ _ us hl => match us, hl with | [_], _ => rfl
  obtain ⟨d_Sheet_len, H_Sheet_len⟩ := (He.SaysT.d c.t).def_ 55 (d := D_Sheet_len) rfl
  have F_Sheet_len : Fun K "__len__" "Sheet.__len__" s_Sheet_len (He.ma K (He.ga K "Sheet") "__len__") d_Sheet_len := toFun H_Sheet_len
  have b_Sheet_len := F_Sheet_len.binds (ps := ["self"]) fun _ _ _ _ _ _ us hl => match us, hl with | [_], _ => rfl
  obtain ⟨d_Sheet_getitem, H_Sheet_getitem⟩ := (He.SaysT.d c.t).def_ 56 (d := D_Sheet_getitem) rfl
  have F_Sheet_getitem : Fun K "__getitem__" "Sheet.__getitem__" s_Sheet_getitem (He.ma K (He.ga K "Sheet") "__getitem__") d_Sheet_getitem := toFun H_Sheet_getitem
  have b_Sheet_getitem := F_Sheet_getitem.binds (ps := ["self", "at"]) fun _ _ _ _ _ _ us hl => match us, hl with | [_, _], _ => rfl
  obtain ⟨d_Sheet_setitem, H_Sheet_setitem⟩ := (He.SaysT.d c.t).def_ 57 (d := D_Sheet_setitem) rfl
  have F_Sheet_setitem : Fun K "__setitem__" "Sheet.__setitem__" s_Sheet_setitem (He.ma K (He.ga K "Sheet") "__setitem__") d_Sheet_setitem := toFun H_Sheet_setitem
  have b_Sheet_setitem := F_Sheet_setitem.binds (ps := ["self", "at", "worth"]) fun _ _ _ _ _ _ us hl => match us, hl with | [_, _, _], _ => rfl
  obtain ⟨d_Sheet_iadd, H_Sheet_iadd⟩ := (He.SaysT.d c.t).def_ 58 (d := D_Sheet_iadd) rfl
  have F_Sheet_iadd : Fun K "__iadd__" "Sheet.__iadd__" s_Sheet_iadd (He.ma K (He.ga K "Sheet") "__iadd__") d_Sheet_iadd := toFun H_Sheet_iadd
  have b_Sheet_iadd := F_Sheet_iadd.binds (ps := ["self", "other"]) fun _ _ _ _ _ _ us hl => match us, hl with | [_, _], _ => rfl
  have K_NoRow : ErrK K (He.ga K "NoRow") := { cls := errCls tailI (bit c 3 1 rfl rfl), sa := (of_decide_eq_true (bit c 3 2 rfl rfl)), ga := (of_decide_eq_true (bit c 3 3 rfl rfl)), gg := (of_decide_eq_true (bit c 3 4 rfl rfl)), exC := (of_decide_eq_true (bit c 3 6 rfl rfl)), kC := (bit c 3 5 rfl rfl), hdC := (bit c 3 7 rfl rfl), isC := (bit c 3 8 rfl rfl), ha := (of_decide_eq_true (bit c 3 9 rfl rfl)), hn := (of_decide_eq_true (bit c 5 0 rfl rfl)), ht := (of_decide_eq_true (bit c 5 1 rfl rfl)), hm := (of_decide_eq_true (bit c 3 10 rfl rfl)) }
  have E_NoRow : ErrR K mg "NoRow" "at" (He.ga K "NoRow") (He.ma K (He.ga K "NoRow") "__init__") := ⟨(PySem.W.mg_of X G (of_decide_eq_true (bit c 3 0 rfl rfl))), ⟨K_NoRow, (of_decide_eq_true (bit c 3 15 rfl rfl)), (of_decide_eq_true (bit c 3 16 rfl rfl)), (of_decide_eq_true (bit c 3 14 rfl rfl))⟩, (of_decide_eq_true (bit c 3 11 rfl rfl)), (of_decide_eq_true (bit c 3 12 rfl rfl))⟩
  have K_InvalidRow : ErrK K (He.ga K "InvalidRow") := { cls := errCls tailV (bit c 4 1 rfl rfl), sa := (of_decide_eq_true (bit c 4 2 rfl rfl)), ga := (of_decide_eq_true (bit c 4 3 rfl rfl)), gg := (of_decide_eq_true (bit c 4 4 rfl rfl)), exC := (of_decide_eq_true (bit c 4 6 rfl rfl)), kC := (bit c 4 5 rfl rfl), hdC := (bit c 4 7 rfl rfl), isC := (bit c 4 8 rfl rfl), ha := (of_decide_eq_true (bit c 4 9 rfl rfl)), hn := (of_decide_eq_true (bit c 5 0 rfl rfl)), ht := (of_decide_eq_true (bit c 5 1 rfl rfl)), hm := (of_decide_eq_true (bit c 4 10 rfl rfl)) }
  have E_InvalidRow : ErrR K mg "InvalidRow" "word" (He.ga K "InvalidRow") (He.ma K (He.ga K "InvalidRow") "__init__") := ⟨(PySem.W.mg_of X G (of_decide_eq_true (bit c 4 0 rfl rfl))), ⟨K_InvalidRow, (of_decide_eq_true (bit c 4 15 rfl rfl)), (of_decide_eq_true (bit c 4 16 rfl rfl)), (of_decide_eq_true (bit c 4 14 rfl rfl))⟩, (of_decide_eq_true (bit c 4 11 rfl rfl)), (of_decide_eq_true (bit c 4 12 rfl rfl))⟩
  have T : Txt w K mg (He.ga K "is_integer") (He.ga K "is_number") (He.ga K "is_name") (He.ga K "are_rows") (He.ga K "texts") (He.ga K "needed") (He.ga K "_fits") (He.ga K "_is_of") (He.ga K "inner") (He.ga K "flat") (He.ga K "names_in") (He.ga K "bare") (He.ga K "_named") (He.ga K "_law_deal") (He.ga K "_law_draw") (He.ga K "_law_pick") (He.ga K "_law_words") (He.ga K "_law_kinds") (He.ga K "_law_put") (He.ga K "_law_ask") (He.ga K "_law_count") (He.ga K "_law_rows") (He.ga K "_law_ask_text") (He.ga K "_law_lines") (He.ga K "_law_all_lines") (He.ga K "_law_ask_of") (He.ga K "_law_row_of") (He.ga K "_law_deed") (He.ga K "_law_begun") (He.ga K "_law_alike") (He.ga K "law") (He.ma K (He.ga K "NoRow") "__init__") (He.ma K (He.ga K "InvalidRow") "__init__") (He.ma K (He.ga K "Put") "__init__") (He.ma K (He.ga K "Put") "__eq__") (He.ma K (He.ga K "Put") "__str__") (He.ma K (He.ga K "If") "__init__") (He.ma K (He.ga K "If") "__eq__") (He.ma K (He.ga K "If") "__str__") (He.ma K (He.ga K "Times") "__init__") (He.ma K (He.ga K "Times") "__eq__") (He.ma K (He.ga K "Times") "__str__") (He.ma K (He.ga K "Stop") "__eq__") (He.ma K (He.ga K "Stop") "__str__") (He.ma K (He.ga K "Ask") "__init__") (He.ma K (He.ga K "Ask") "__eq__") (He.ma K (He.ga K "Ask") "__str__") (He.ma K (He.ga K "Not") "__init__") (He.ma K (He.ga K "Not") "__eq__") (He.ma K (He.ga K "Not") "__str__") (He.ma K (He.ga K "Program") "__init__") (He.ma K (He.ga K "Program") "__str__") (He.ma K (He.ga K "Sheet") "__init__") (He.ma K (He.ga K "Sheet") "drop") (He.ma K (He.ga K "Sheet") "made") (He.ma K (He.ga K "Sheet") "__len__") (He.ma K (He.ga K "Sheet") "__getitem__") (He.ma K (He.ga K "Sheet") "__setitem__") (He.ma K (He.ga K "Sheet") "__iadd__") (He.ga K "NoRow") (He.ga K "InvalidRow") (He.ga K "Put") (He.ga K "If") (He.ga K "Times") (He.ga K "Stop") (He.ga K "Ask") (He.ga K "Not") (He.ga K "Row") (He.ga K "Test") (He.ga K "Program") (He.ga K "Sheet") (He.ga K "DEEDS") (He.ga K "SIGNS") (He.ga K "WORDS") (He.dflAt ("If", some "__init__") 0 K) (He.dflAt ("Program", some "__init__") 0 K) (He.dflAt ("Sheet", some "__init__") 0 K) d_is_integer d_is_number d_is_name d_are_rows d_texts d_needed d_fits d_is_of d_inner d_flat d_names_in d_bare d_named d_law_deal d_law_draw d_law_pick d_law_words d_law_kinds d_law_put d_law_ask d_law_count d_law_rows d_law_ask_text d_law_lines d_law_all_lines d_law_ask_of d_law_row_of d_law_deed d_law_begun d_law_alike d_law d_NoRow_init d_InvalidRow_init d_Put_init d_Put_eq d_Put_str d_If_init d_If_eq d_If_str d_Times_init d_Times_eq d_Times_str d_Stop_eq d_Stop_str d_Ask_init d_Ask_eq d_Ask_str d_Not_init d_Not_eq d_Not_str d_Program_init d_Program_str d_Sheet_init d_Sheet_drop d_Sheet_made d_Sheet_len d_Sheet_getitem d_Sheet_setitem d_Sheet_iadd := ⟨F_is_integer,
    b_is_integer,
    (PySem.W.mg_of X G (of_decide_eq_true (bit c 0 0 rfl rfl))),
    F_is_number,
    b_is_number,
    (PySem.W.mg_of X G (of_decide_eq_true (bit c 0 1 rfl rfl))),
    F_is_name,
    b_is_name,
    (PySem.W.mg_of X G (of_decide_eq_true (bit c 0 2 rfl rfl))),
    F_are_rows,
    b_are_rows,
    (PySem.W.mg_of X G (of_decide_eq_true (bit c 0 3 rfl rfl))),
    F_texts,
    b_texts,
    (PySem.W.mg_of X G (of_decide_eq_true (bit c 0 4 rfl rfl))),
    F_needed,
    b_needed,
    (PySem.W.mg_of X G (of_decide_eq_true (bit c 0 5 rfl rfl))),
    F_fits,
    b_fits,
    (PySem.W.mg_of X G (of_decide_eq_true (bit c 0 6 rfl rfl))),
    F_is_of,
    b_is_of,
    (PySem.W.mg_of X G (of_decide_eq_true (bit c 0 7 rfl rfl))),
    F_inner,
    b_inner,
    (PySem.W.mg_of X G (of_decide_eq_true (bit c 0 8 rfl rfl))),
    F_flat,
    b_flat,
    (PySem.W.mg_of X G (of_decide_eq_true (bit c 0 9 rfl rfl))),
    F_names_in,
    b_names_in,
    (PySem.W.mg_of X G (of_decide_eq_true (bit c 0 10 rfl rfl))),
    F_bare,
    b_bare,
    (PySem.W.mg_of X G (of_decide_eq_true (bit c 0 11 rfl rfl))),
    F_named,
    b_named,
    (PySem.W.mg_of X G (of_decide_eq_true (bit c 0 12 rfl rfl))),
    F_law_deal,
    b_law_deal,
    (PySem.W.mg_of X G (of_decide_eq_true (bit c 0 13 rfl rfl))),
    F_law_draw,
    b_law_draw,
    (PySem.W.mg_of X G (of_decide_eq_true (bit c 0 14 rfl rfl))),
    F_law_pick,
    b_law_pick,
    (PySem.W.mg_of X G (of_decide_eq_true (bit c 0 15 rfl rfl))),
    F_law_words,
    b_law_words,
    (PySem.W.mg_of X G (of_decide_eq_true (bit c 0 16 rfl rfl))),
    F_law_kinds,
    b_law_kinds,
    (PySem.W.mg_of X G (of_decide_eq_true (bit c 0 17 rfl rfl))),
    F_law_put,
    b_law_put,
    (PySem.W.mg_of X G (of_decide_eq_true (bit c 0 18 rfl rfl))),
    F_law_ask,
    b_law_ask,
    (PySem.W.mg_of X G (of_decide_eq_true (bit c 0 19 rfl rfl))),
    F_law_count,
    b_law_count,
    (PySem.W.mg_of X G (of_decide_eq_true (bit c 0 20 rfl rfl))),
    F_law_rows,
    b_law_rows,
    (PySem.W.mg_of X G (of_decide_eq_true (bit c 0 21 rfl rfl))),
    F_law_ask_text,
    b_law_ask_text,
    (PySem.W.mg_of X G (of_decide_eq_true (bit c 0 22 rfl rfl))),
    F_law_lines,
    b_law_lines,
    (PySem.W.mg_of X G (of_decide_eq_true (bit c 0 23 rfl rfl))),
    F_law_all_lines,
    b_law_all_lines,
    (PySem.W.mg_of X G (of_decide_eq_true (bit c 1 0 rfl rfl))),
    F_law_ask_of,
    b_law_ask_of,
    (PySem.W.mg_of X G (of_decide_eq_true (bit c 1 1 rfl rfl))),
    F_law_row_of,
    b_law_row_of,
    (PySem.W.mg_of X G (of_decide_eq_true (bit c 1 2 rfl rfl))),
    F_law_deed,
    b_law_deed,
    (PySem.W.mg_of X G (of_decide_eq_true (bit c 1 3 rfl rfl))),
    F_law_begun,
    b_law_begun,
    (PySem.W.mg_of X G (of_decide_eq_true (bit c 1 4 rfl rfl))),
    F_law_alike,
    b_law_alike,
    (PySem.W.mg_of X G (of_decide_eq_true (bit c 1 5 rfl rfl))),
    F_law,
    b_law,
    (PySem.W.mg_of X G (of_decide_eq_true (bit c 1 6 rfl rfl))),
    F_NoRow_init,
    b_NoRow_init,
    F_InvalidRow_init,
    b_InvalidRow_init,
    F_Put_init,
    F_Put_eq,
    b_Put_eq,
    F_Put_str,
    b_Put_str,
    F_If_init,
    b_If_init,
    bd_If_init,
    tupAt_ok (bit c 21 1 rfl rfl),
    F_If_eq,
    b_If_eq,
    F_If_str,
    b_If_str,
    F_Times_init,
    b_Times_init,
    F_Times_eq,
    b_Times_eq,
    F_Times_str,
    b_Times_str,
    F_Stop_eq,
    b_Stop_eq,
    F_Stop_str,
    b_Stop_str,
    F_Ask_init,
    F_Ask_eq,
    b_Ask_eq,
    F_Ask_str,
    b_Ask_str,
    F_Not_init,
    b_Not_init,
    F_Not_eq,
    b_Not_eq,
    F_Not_str,
    b_Not_str,
    F_Program_init,
    b_Program_init,
    bd_Program_init,
    tupAt_ok (bit c 21 2 rfl rfl),
    F_Program_str,
    b_Program_str,
    F_Sheet_init,
    b_Sheet_init,
    bd_Sheet_init,
    tupAt_ok (bit c 21 3 rfl rfl),
    F_Sheet_drop,
    b_Sheet_drop,
    F_Sheet_made,
    b_Sheet_made,
    F_Sheet_len,
    b_Sheet_len,
    F_Sheet_getitem,
    b_Sheet_getitem,
    F_Sheet_setitem,
    b_Sheet_setitem,
    F_Sheet_iadd,
    b_Sheet_iadd,
    E_NoRow,
    E_InvalidRow,
    (of_decide_eq_true (bit c 3 13 rfl rfl)),
    (of_decide_eq_true (bit c 4 13 rfl rfl)),
    valAt_mg X G (bit c 17 0 rfl rfl),
    valAt_mg X G (bit c 17 1 rfl rfl),
    valAt_mg X G (bit c 17 2 rfl rfl),
    valAt_mg X G (bit c 17 3 rfl rfl),
    valAt_mg X G (bit c 17 4 rfl rfl),
    tupAt_ok (bit c 17 5 rfl rfl),
    c.t.tab 0 rfl,
    ⟨_, (of_decide_eq_true (bit c 18 0 rfl rfl)), tupAt_ok (bit c 18 1 rfl rfl)⟩,
    ⟨_, (of_decide_eq_true (bit c 18 2 rfl rfl)), tupAt_ok (bit c 18 3 rfl rfl)⟩,
    ⟨_, (of_decide_eq_true (bit c 18 4 rfl rfl)), tupAt_ok (bit c 18 5 rfl rfl)⟩,
    ⟨_, (of_decide_eq_true (bit c 18 6 rfl rfl)), tupAt_ok (bit c 18 7 rfl rfl)⟩,
    ⟨_, (of_decide_eq_true (bit c 18 8 rfl rfl)), tupAt_ok (bit c 18 9 rfl rfl)⟩,
    ⟨_, (of_decide_eq_true (bit c 18 10 rfl rfl)), tupAt_ok (bit c 18 11 rfl rfl)⟩,
    ⟨_, (of_decide_eq_true (bit c 18 12 rfl rfl)), tupAt_ok (bit c 18 13 rfl rfl)⟩,
    ⟨_, (of_decide_eq_true (bit c 18 14 rfl rfl)), tupAt_ok (bit c 18 15 rfl rfl)⟩,
    ⟨_, (of_decide_eq_true (bit c 18 16 rfl rfl)), tupAt_ok (bit c 18 17 rfl rfl)⟩,
    ⟨_, (of_decide_eq_true (bit c 18 18 rfl rfl)), tupAt_ok (bit c 18 19 rfl rfl)⟩,
    ⟨_, (of_decide_eq_true (bit c 18 20 rfl rfl)), tupAt_ok (bit c 18 21 rfl rfl)⟩,
    ⟨_, (of_decide_eq_true (bit c 18 22 rfl rfl)), tupAt_ok (bit c 18 23 rfl rfl)⟩,
    ⟨_, (of_decide_eq_true (bit c 19 0 rfl rfl)), tupAt_ok (bit c 19 1 rfl rfl)⟩,
    ⟨_, (of_decide_eq_true (bit c 19 2 rfl rfl)), tupAt_ok (bit c 19 3 rfl rfl)⟩,
    ⟨_, (of_decide_eq_true (bit c 19 4 rfl rfl)), tupAt_ok (bit c 19 5 rfl rfl)⟩,
    ⟨_, (of_decide_eq_true (bit c 19 6 rfl rfl)), tupAt_ok (bit c 19 7 rfl rfl)⟩,
    ⟨_, (of_decide_eq_true (bit c 19 8 rfl rfl)), tupAt_ok (bit c 19 9 rfl rfl)⟩,
    ⟨_, (of_decide_eq_true (bit c 19 10 rfl rfl)), tupAt_ok (bit c 19 11 rfl rfl)⟩,
    ⟨_, (of_decide_eq_true (bit c 19 12 rfl rfl)), tupAt_ok (bit c 19 13 rfl rfl)⟩,
    ⟨_, (of_decide_eq_true (bit c 19 14 rfl rfl)), tupAt_ok (bit c 19 15 rfl rfl)⟩,
    ⟨_, (of_decide_eq_true (bit c 19 16 rfl rfl)), tupAt_ok (bit c 19 17 rfl rfl)⟩,
    ⟨_, (of_decide_eq_true (bit c 19 18 rfl rfl)), tupAt_ok (bit c 19 19 rfl rfl)⟩,
    c.t.tab 1 rfl,
    intAt_ok (bit c 20 0 rfl rfl),
    intAt_ok (bit c 20 1 rfl rfl),
    intAt_ok (bit c 20 2 rfl rfl),
    intAt_ok (bit c 20 3 rfl rfl),
    intAt_ok (bit c 20 4 rfl rfl),
    (bit c 21 0 rfl rfl),
    ⟨⟨(bit c 6 1 rfl rfl), (bit c 6 2 rfl rfl), (bit c 6 3 rfl rfl), (of_decide_eq_true (bit c 6 4 rfl rfl))⟩, (of_decide_eq_true (bit c 6 5 rfl rfl)), (of_decide_eq_true (bit c 5 0 rfl rfl)), (of_decide_eq_true (bit c 5 1 rfl rfl)), (of_decide_eq_true (bit c 6 6 rfl rfl)), (of_decide_eq_true (bit c 6 7 rfl rfl))⟩,
    ⟨(of_decide_eq_true (bit c 6 8 rfl rfl)), (of_decide_eq_true (bit c 6 6 rfl rfl))⟩,
    (noA (bit c 6 9 rfl rfl)),
    (noA (bit c 6 10 rfl rfl)),
    (noA (bit c 6 11 rfl rfl)),
    ⟨(of_decide_eq_true (bit c 6 14 rfl rfl)), (bit c 6 15 rfl rfl)⟩,
    ⟨(of_decide_eq_true (bit c 6 16 rfl rfl)), (bit c 6 17 rfl rfl)⟩,
    ⟨(bit c 6 18 rfl rfl), (of_decide_eq_true (bit c 6 12 rfl rfl)), (bit c 6 13 rfl rfl), (bit c 6 19 rfl rfl)⟩,
    ⟨⟨(bit c 7 1 rfl rfl), (bit c 7 2 rfl rfl), (bit c 7 3 rfl rfl), (of_decide_eq_true (bit c 7 4 rfl rfl))⟩, (of_decide_eq_true (bit c 7 5 rfl rfl)), (of_decide_eq_true (bit c 5 0 rfl rfl)), (of_decide_eq_true (bit c 5 1 rfl rfl)), (of_decide_eq_true (bit c 7 6 rfl rfl)), (of_decide_eq_true (bit c 7 7 rfl rfl))⟩,
    ⟨(of_decide_eq_true (bit c 7 8 rfl rfl)), (of_decide_eq_true (bit c 7 6 rfl rfl))⟩,
    (noA (bit c 7 9 rfl rfl)),
    (noA (bit c 7 10 rfl rfl)),
    (noA (bit c 7 11 rfl rfl)),
    ⟨(of_decide_eq_true (bit c 7 14 rfl rfl)), (bit c 7 15 rfl rfl)⟩,
    ⟨(of_decide_eq_true (bit c 7 16 rfl rfl)), (bit c 7 17 rfl rfl)⟩,
    ⟨(bit c 7 18 rfl rfl), (of_decide_eq_true (bit c 7 12 rfl rfl)), (bit c 7 13 rfl rfl), (bit c 7 19 rfl rfl)⟩,
    ⟨⟨(bit c 8 1 rfl rfl), (bit c 8 2 rfl rfl), (bit c 8 3 rfl rfl), (of_decide_eq_true (bit c 8 4 rfl rfl))⟩, (of_decide_eq_true (bit c 8 5 rfl rfl)), (of_decide_eq_true (bit c 5 0 rfl rfl)), (of_decide_eq_true (bit c 5 1 rfl rfl)), (of_decide_eq_true (bit c 8 6 rfl rfl)), (of_decide_eq_true (bit c 8 7 rfl rfl))⟩,
    ⟨(of_decide_eq_true (bit c 8 8 rfl rfl)), (of_decide_eq_true (bit c 8 6 rfl rfl))⟩,
    (noA (bit c 8 9 rfl rfl)),
    (noA (bit c 8 10 rfl rfl)),
    ⟨(of_decide_eq_true (bit c 8 13 rfl rfl)), (bit c 8 14 rfl rfl)⟩,
    ⟨(of_decide_eq_true (bit c 8 15 rfl rfl)), (bit c 8 16 rfl rfl)⟩,
    ⟨(bit c 8 17 rfl rfl), (of_decide_eq_true (bit c 8 11 rfl rfl)), (bit c 8 12 rfl rfl), (bit c 8 18 rfl rfl)⟩,
    ⟨⟨(bit c 9 1 rfl rfl), (bit c 9 2 rfl rfl), (bit c 9 3 rfl rfl), (of_decide_eq_true (bit c 9 4 rfl rfl))⟩, (of_decide_eq_true (bit c 9 5 rfl rfl)), (of_decide_eq_true (bit c 5 0 rfl rfl)), (of_decide_eq_true (bit c 5 1 rfl rfl)), (of_decide_eq_true (bit c 9 6 rfl rfl)), (of_decide_eq_true (bit c 9 7 rfl rfl))⟩,
    ⟨(of_decide_eq_true (bit c 9 8 rfl rfl)), (of_decide_eq_true (bit c 9 6 rfl rfl))⟩,
    ⟨(of_decide_eq_true (bit c 9 9 rfl rfl)), (bit c 9 10 rfl rfl)⟩,
    ⟨(of_decide_eq_true (bit c 9 11 rfl rfl)), (bit c 9 12 rfl rfl)⟩,
    ⟨(bit c 9 13 rfl rfl), (of_decide_eq_true (bit c 9 15 rfl rfl)), (bit c 9 14 rfl rfl)⟩,
    ⟨⟨(bit c 10 1 rfl rfl), (bit c 10 2 rfl rfl), (bit c 10 3 rfl rfl), (of_decide_eq_true (bit c 10 4 rfl rfl))⟩, (of_decide_eq_true (bit c 10 5 rfl rfl)), (of_decide_eq_true (bit c 5 0 rfl rfl)), (of_decide_eq_true (bit c 5 1 rfl rfl)), (of_decide_eq_true (bit c 10 6 rfl rfl)), (of_decide_eq_true (bit c 10 7 rfl rfl))⟩,
    ⟨(of_decide_eq_true (bit c 10 8 rfl rfl)), (of_decide_eq_true (bit c 10 6 rfl rfl))⟩,
    (noA (bit c 10 9 rfl rfl)),
    (noA (bit c 10 10 rfl rfl)),
    ⟨(of_decide_eq_true (bit c 10 13 rfl rfl)), (bit c 10 14 rfl rfl)⟩,
    ⟨(of_decide_eq_true (bit c 10 15 rfl rfl)), (bit c 10 16 rfl rfl)⟩,
    ⟨(bit c 10 17 rfl rfl), (of_decide_eq_true (bit c 10 11 rfl rfl)), (bit c 10 12 rfl rfl), (bit c 10 18 rfl rfl)⟩,
    ⟨⟨(bit c 11 1 rfl rfl), (bit c 11 2 rfl rfl), (bit c 11 3 rfl rfl), (of_decide_eq_true (bit c 11 4 rfl rfl))⟩, (of_decide_eq_true (bit c 11 5 rfl rfl)), (of_decide_eq_true (bit c 5 0 rfl rfl)), (of_decide_eq_true (bit c 5 1 rfl rfl)), (of_decide_eq_true (bit c 11 6 rfl rfl)), (of_decide_eq_true (bit c 11 7 rfl rfl))⟩,
    ⟨(of_decide_eq_true (bit c 11 8 rfl rfl)), (of_decide_eq_true (bit c 11 6 rfl rfl))⟩,
    (noA (bit c 11 9 rfl rfl)),
    ⟨(of_decide_eq_true (bit c 11 12 rfl rfl)), (bit c 11 13 rfl rfl)⟩,
    ⟨(of_decide_eq_true (bit c 11 14 rfl rfl)), (bit c 11 15 rfl rfl)⟩,
    ⟨(bit c 11 16 rfl rfl), (of_decide_eq_true (bit c 11 10 rfl rfl)), (bit c 11 11 rfl rfl), (bit c 11 17 rfl rfl)⟩,
    ⟨⟨(bit c 12 1 rfl rfl), (bit c 12 2 rfl rfl), (bit c 12 3 rfl rfl), (of_decide_eq_true (bit c 12 4 rfl rfl))⟩, (of_decide_eq_true (bit c 12 5 rfl rfl)), (of_decide_eq_true (bit c 5 0 rfl rfl)), (of_decide_eq_true (bit c 5 1 rfl rfl)), (of_decide_eq_true (bit c 12 6 rfl rfl)), (of_decide_eq_true (bit c 12 7 rfl rfl))⟩,
    ⟨⟨(bit c 13 1 rfl rfl), (bit c 13 2 rfl rfl), (bit c 13 3 rfl rfl), (of_decide_eq_true (bit c 13 4 rfl rfl))⟩, (of_decide_eq_true (bit c 13 5 rfl rfl)), (of_decide_eq_true (bit c 5 0 rfl rfl)), (of_decide_eq_true (bit c 5 1 rfl rfl)), (of_decide_eq_true (bit c 13 6 rfl rfl)), (of_decide_eq_true (bit c 13 7 rfl rfl))⟩,
    ⟨⟨(bit c 14 1 rfl rfl), (bit c 14 2 rfl rfl), (bit c 14 3 rfl rfl), (of_decide_eq_true (bit c 14 4 rfl rfl))⟩, (of_decide_eq_true (bit c 14 5 rfl rfl)), (of_decide_eq_true (bit c 5 0 rfl rfl)), (of_decide_eq_true (bit c 5 1 rfl rfl)), (of_decide_eq_true (bit c 14 6 rfl rfl)), (of_decide_eq_true (bit c 14 7 rfl rfl))⟩,
    (of_decide_eq_true (bit c 14 8 rfl rfl)),
    (of_decide_eq_true (bit c 14 9 rfl rfl)),
    (of_decide_eq_true (bit c 14 10 rfl rfl)),
    (noA (bit c 14 11 rfl rfl)),
    (noA (bit c 14 12 rfl rfl)),
    ⟨(of_decide_eq_true (bit c 14 15 rfl rfl)), (bit c 14 16 rfl rfl)⟩,
    ⟨(bit c 14 17 rfl rfl), (of_decide_eq_true (bit c 14 13 rfl rfl)), (bit c 14 14 rfl rfl), (bit c 14 18 rfl rfl)⟩,
    ⟨⟨(bit c 15 1 rfl rfl), (bit c 15 2 rfl rfl), (bit c 15 3 rfl rfl), (of_decide_eq_true (bit c 15 4 rfl rfl))⟩, (of_decide_eq_true (bit c 15 5 rfl rfl)), (of_decide_eq_true (bit c 5 0 rfl rfl)), (of_decide_eq_true (bit c 5 1 rfl rfl)), (of_decide_eq_true (bit c 15 6 rfl rfl)), (of_decide_eq_true (bit c 15 7 rfl rfl))⟩,
    (of_decide_eq_true (bit c 15 8 rfl rfl)),
    (of_decide_eq_true (bit c 15 9 rfl rfl)),
    (noA (bit c 15 10 rfl rfl)),
    ⟨(of_decide_eq_true (bit c 15 13 rfl rfl)), (bit c 15 14 rfl rfl)⟩,
    ⟨(of_decide_eq_true (bit c 15 15 rfl rfl)), (bit c 15 17 rfl rfl), (bit c 15 16 rfl rfl)⟩,
    ⟨(of_decide_eq_true (bit c 15 18 rfl rfl)), (bit c 15 20 rfl rfl), (bit c 15 19 rfl rfl)⟩,
    ⟨(of_decide_eq_true (bit c 15 23 rfl rfl)), (of_decide_eq_true (bit c 15 21 rfl rfl)), (bit c 15 22 rfl rfl)⟩,
    ⟨(of_decide_eq_true (bit c 16 0 rfl rfl)), (bit c 16 1 rfl rfl), (bit c 16 2 rfl rfl)⟩,
    ⟨(of_decide_eq_true (bit c 16 3 rfl rfl)), (bit c 16 4 rfl rfl), (bit c 16 5 rfl rfl)⟩,
    ⟨(bit c 16 6 rfl rfl), (of_decide_eq_true (bit c 15 11 rfl rfl)), (bit c 15 12 rfl rfl), (bit c 16 7 rfl rfl)⟩,
    (PySem.W.mg_of X G (of_decide_eq_true (bit c 6 0 rfl rfl))),
    (PySem.W.mg_of X G (of_decide_eq_true (bit c 7 0 rfl rfl))),
    (PySem.W.mg_of X G (of_decide_eq_true (bit c 8 0 rfl rfl))),
    (PySem.W.mg_of X G (of_decide_eq_true (bit c 9 0 rfl rfl))),
    (PySem.W.mg_of X G (of_decide_eq_true (bit c 10 0 rfl rfl))),
    (PySem.W.mg_of X G (of_decide_eq_true (bit c 11 0 rfl rfl))),
    (PySem.W.mg_of X G (of_decide_eq_true (bit c 12 0 rfl rfl))),
    (PySem.W.mg_of X G (of_decide_eq_true (bit c 13 0 rfl rfl))),
    (PySem.W.mg_of X G (of_decide_eq_true (bit c 14 0 rfl rfl))),
    (PySem.W.mg_of X G (of_decide_eq_true (bit c 15 0 rfl rfl))),
    (PySem.W.mg_none_of X G (of_decide_eq_true (bit c 2 0 rfl rfl))),
    (PySem.W.mg_none_of X G (of_decide_eq_true (bit c 2 1 rfl rfl))),
    (PySem.W.mg_none_of X G (of_decide_eq_true (bit c 2 2 rfl rfl))),
    (PySem.W.mg_none_of X G (of_decide_eq_true (bit c 2 3 rfl rfl))),
    (PySem.W.mg_none_of X G (of_decide_eq_true (bit c 2 4 rfl rfl))),
    (PySem.W.mg_none_of X G (of_decide_eq_true (bit c 2 5 rfl rfl))),
    (PySem.W.mg_none_of X G (of_decide_eq_true (bit c 2 6 rfl rfl))),
    (PySem.W.mg_none_of X G (of_decide_eq_true (bit c 2 7 rfl rfl))),
    (PySem.W.mg_none_of X G (of_decide_eq_true (bit c 2 8 rfl rfl))),
    (PySem.W.mg_none_of X G (of_decide_eq_true (bit c 2 9 rfl rfl))),
    (PySem.W.mg_none_of X G (of_decide_eq_true (bit c 2 10 rfl rfl))),
    (PySem.W.mg_none_of X G (of_decide_eq_true (bit c 2 11 rfl rfl))),
    (PySem.W.mg_none_of X G (of_decide_eq_true (bit c 2 12 rfl rfl))),
    (PySem.W.mg_none_of X G (of_decide_eq_true (bit c 2 13 rfl rfl))),
    (PySem.W.mg_none_of X G (of_decide_eq_true (bit c 2 14 rfl rfl)))⟩
  exact ⟨d_law, fun s v => FunD.bindsA (ps := ["_law_script"]) H_law (fun _ _ _ _ _ _ us hl => match us, hl with | [_], _ => rfl) s [v] rfl, fun base _ _ => ok_law T⟩
end My
open PySem PySem.W PySem.Calls PyProof.Rows
set_option maxHeartbeats 0 in
theorem PySem.Challenge.cw_everybase_k15_sheets_holds : PySem.Challenge.rw_everybase_k15_sheets.Holds := by
  w_on; o_law
  refine HandSHeadRun.head_imp (r := OpenLaw.row PySem.Challenge.rw_everybase_k15_sheets) (q := PySem.W.view My.RL.prog [0, 108]) (H := My.hkL) (ob := My.obL) (M := 100000) (loose := My.looseL) (d := HandSHeadRun.topDef (OpenLaw.row PySem.Challenge.rw_everybase_k15_sheets).prog 108) (kwd := []) My.obL_eq
    My.runL (by kernel_rfl) (by kernel_rfl) (by kernel_rfl) (by rfl) (by first | assumption | decide +kernel) (by decide +kernel) ⟨rfl, rfl, rfl, rfl, rfl, by decide +kernel⟩ ?hw ?hc
  case hw => w_witness2
  case hc =>
    refine L2.walk_ofE (l := PySem.Challenge.rw_everybase_k15_sheets) (n := 63) (k := 90) (x := "_law_script") (CX := L2.CX0) rfl (by decide) (by kernel_rfl) ⟨rfl, by decide, by decide⟩ ?F (fun _ _ _ _ z => z)
    intro w mg fa h Y G hmg0
    obtain ⟨K, KX, c⟩ := Y
    have hmg : mg ("law" : PySem.Str) = some (.ref fa) := by
      have e : (HandSHeadRun.topDef (OpenLaw.row PySem.Challenge.rw_everybase_k15_sheets).prog 108).name = ("law" : PySem.Str) := by kernel_rfl
      rw [← e]
      exact hmg0
    obtain ⟨fd, hb, hF⟩ := My.factsL (P := (PySem.Challenge.rw_everybase_k15_sheets).prog) (w := w) KX G hmg c
    exact ⟨K, fd, My.sp_law K, KX, hb, fun H a ns hl _ hS => ⟨a, ns, rfl, hS, hl, fun _ => rfl⟩, hF⟩
